
import PyProof.Rows.All
import Wide.All
import OpenK.AllK
import Wide.FinOn
import Lean
import PyProof.EqAt
import PyProof.EqKinds
import PyProof.TupleCall
import PyProof.NeKinds
import PyProof.RaisesMany
import PyProof.RulesAs
import PyProof.NsDelKeeps
import PyProof.InstStoreFacts
import PyProof.ExcClass3
import PyProof.ExcInit
import KE.KTryMore
import PyProof.AutoSeq1
import PyProof.WalkInts
import PyProof.DictIter
import PyProof.DictWalks
import PyProof.DictItems
import PyProof.DictItemsLoops
import KE.KPairComp
import PyProof.DictValues
import PyProof.SumAny
import PyProof.Rows.SumAny
import PyProof.Rows.RuleDivmod
import KE.KRevIter
import PyProof.TupleOfGen
import KE.KDictSum
import KE.KMinKey
import PyProof.Rows.CallKwBuiltin
import KE.IntBitsLaws
import PySem.Challenge.RW_mumtrial_k70_stories_of_two
noncomputable section
open PySem renaming Program->bR,reduceHash->GW,wpAny_mono->pQ,wpAny_bind->am,wpAny_specialOf->Jv,wpAny_call_entry->q0,wpAny_pure->aQ,wpAny_rule->pR,Builtin->dD,wpAny_isInstance->AI,wpAny_holding->lY,wpAny_truthy_bool->sW,wpAny_seqItems->me,sizeLine->ak,sysModules->hZ,entryOfKey->Ec,mainGlobals->cB,bootBuiltins->jT,starEach->a_,compareOp->fu,behindInMarks->lX,standAt->sT,holding->lV,wpAny_execs_nil->Eb,swapsWith->uD,assignEach->sS,wpAny_standAt->Ea,wpAny_passesOwn->uC,letOwnedTupleGo->D_,wpAny_pyIter_list->xa,wpAny_pyIter_tuple->DZ,foldedSetIterable->AG,binaryOp->sR,sizeLine_eq->ma,getMethod->sQ,codeAny->zzl78,attributeBase->w_,FuncData->lU,BindsTo->uB,codeAny_mono->DS,wpAny_Call_Name_kw->DR,callWith->w8,backToKw->sP,keywordEach->sO,NameKind->ko,mem_of_lookup->uW,getItem->oF,subscripted->yX,sliceBounds->oE,call_meets->uT,valueAt->oC,storedH->oB,callerA->mm,DictEntry->ic,wpAny_newObj_type->j_,ZipApart->rH,wpAny_pyIter_zip->yO,wpAny_callSpecial?_slot->mh,wpAny_field->h_,wpAny_setField->rG,firstArgMember->rE,wpAny_setField_rec->rD,wpAny_onRaise->yL,wpAny_attempt->rC,wpAny_dictEntries->oz,wpAny_notOrdered_dict->uM,codeAny_builtin->yF,wpAny_typeOf->yD,plainId_quiet->yC,wpAny_typeNameOfWhole_valiter->yy,wpAny_typeNameOf_valiter->yv,wpAny_fieldsOf->yu,wpAny_dictEpoch->rB,setField->yt,wpAny_typeNameOfWhole_keyiter->yo,wpAny_typeNameOf_keyiter->yn
open PySem.Builtin.Tuple renaming tupleHashOf->Cf
open Bool renaming false_ne_true->hV,not_true->Ed,false_eq_true->nU,false_and->D0,eq_iff_iff->pO,and_false->yU,and_eq_true->iZ,or_eq_true->yP,true_and->uF
open Nat renaming add_assoc->Ju,le_refl->aR,lt_of_lt_of_le->ju,lt_irrefl->sU,ne_of_lt->cK,le_trans->bI,le_of_lt->cz,ne_of_gt->i_,zero_le->c_,lt_succ_self->DW,le_succ->DQ,lt_trans->uQ,lt_of_le_of_lt->yS,sub_zero->uK,mod_lt->uG,sub_self->rp,mul_le_mul->rg
open List renaming append_nil->dS,range->nT,mem_filter->bW,mem_cons_self->dz,mem_cons_of_mem->gC,mem_cons->dC,mem_append->bf,mem_append_left->cu,getElem?_eq_some_iff->bM,mem_append_right->cQ,length_cons->fF,lookup->l_,map_cons->bL,length_map->ai,nodup_cons->jA,replicate->oJ,length_take->aX,getElem?_append_right->mq,getElem?_append_left->rL,getElem?_map->cS,getElem?_take_of_lt->oH,mem_of_getElem?->bX,length_append->aA,length_drop->ie,size_toArray->cb,reverse_cons->rK,length_singleton->yV,find?_cons->jy,any_cons->mo,length_nil->mn,nodup_nil->rJ,map_nil->yT,lookup_cons->jx,forIn_cons->uO,all_eq_true->yQ,mem_map->aE,not_mem_nil->mj,any_toArray->yH,drop_zero->oA,take_length->bp,getElem?_eq_getElem->iY,mem_singleton->cA,map_append->ar,nodup_append->dk,drop_of_length_le->oy,drop_eq_getElem_cons->ox,map_take->yk,map_drop->yj,take_of_length_le->yi,mem_of_mem_take->jw,append_assoc->d_,pairwise_map->jv,map_map->ow,mem_map_of_mem->fQ,foldl_append->rj,take_zero->yh,take_append_drop->yg,length_filter_le->b_,filter_append->gQ,filter_cons->rh,getElem?_of_mem->oq,flatMap_append->oo,mem_flatMap->gp,filter_congr->om,length_pos_iff->uE,flatMap_singleton->yf,Nodup->rf,pairwise_flatMap->ye,exists_mem_of_ne_nil->rc,ne_nil_of_mem->q_
open Option.some renaming inj->fW
open PySem.W renaming instObj->sV,lookIn->DY,plainGet->AF,hasDictIn->DX,findIn->fV,isFn->AE,makesIn->AD,emptyDict->pN,keepIn->kr,kitOne->DV,kia_one->kq,fnOf->jz,codeIn->oG,nsIn->cR,mg_of->h9,mg_none_of->gP
open PySem.Heap renaming lt_size->bg,SameBut->iN,get?_push_of_some->bt,get?_push_size->de,size_push->pM,get?_update_self->uU
open PyProof.Rows renaming AllBare->pP,callWith_type1->AH,IntsAre->uP,boot_all->yb
open Ne renaming symm->iO
open Array renaming length_toList->md,getElem?_toList->uS
open False renaming elim->kz
open True renaming intro->jS
open PySem.Calls renaming spliced_cons->DU,callWith_builtin->yW
open Option renaming isSome_iff_exists->yY,map_some->uR,map_eq_some_iff->oh
open Int renaming toNat_natCast->ka,emod_nonneg->rA,emod_lt_of_pos->rq,eq_ofNat_of_zero_le->kS,ofNat->yd
open PySem.Obj renaming mapSeq->uV,data_mapFields->rF,mapFields->yq
open PySem.Paired renaming snoc->ee
open ForInStep renaming yield->yR
open PySem.NameKind renaming free->ml
open PySem.Builtin.SmallTypes renaming nextOf->mi,ownedTupleIsFree->yM
open PySem.Str renaming ofString->mf
open PySem.F renaming slot_tuple_iterator_next->yN,slot_zip_next->yJ,slot_dict_valueiterator_next->uJ,slot_dict_keyiterator_next->uH,plainAttrs_list->dj,slot_list_append->gm,type_list_append->gk,slot_list_pop->x_,type_list_pop->xZ,slot_list_extend->xY,type_list_extend->xX
open PySem.Heap.SameBut renaming update->kT
open Classical renaming byContradiction->yI
open PySem.SeqAt renaming EqAt->bH
open PySem.Builtin.Str renaming strSliceIndices->uN
open PySem.Txt renaming join->yG
open PySem.Around renaming under_plainId->yE
open PySem.Shared renaming TypeIs->uL
open PySem.Builtin.Dict renaming updateFrom->yB,showsAll->yz
open PySem.Builtin.Dict_items renaming ownsTuple->uI
open Prod renaming snd->ym
open List.Pairwise renaming imp->oj,imp_of_mem->re
open PySem.PassesOwn renaming never->bu
theorem Q0:0<=PySem.sizeLine:=by decide
theorem Q1:1<=PySem.sizeLine:=by decide
theorem Q2:2<=PySem.sizeLine:=by decide
theorem Q3:3<=PySem.sizeLine:=by decide
theorem Q4:4<=PySem.sizeLine:=by decide
theorem Q6:6<=PySem.sizeLine:=by decide
theorem zzr0{p:Prop}[Decidable p](h:¬p):decide p=false:=decide_eq_false h
theorem zzr1{p:Prop}[Decidable p](h:p):decide p=true:=decide_eq_true h
abbrev Za:=PySem.W.Frag
abbrev Zb:=List PySem.Str
abbrev Zc:=PySem.Value->PySem.Shared->Prop
abbrev Zd:=List (PySem.Addr×PySem.Obj)
abbrev Ze:=List PySem.Addr
abbrev Zf:=List PySem.Value
section
set_option Elab.async false
set_option linter.all false
set_option maxRecDepth 100000
set_option maxHeartbeats 4000000
namespace L2
open PySem PySem.Spec PyProof.Rows
open Sem (wp)
abbrev cX:=Sum Int Str
def dY:cX->Value->Bool
 |.inl k,v=>Value.isInt k v
 |.inr x,v=>Value.isStrOf x v
def Mi(w:World):cX->Int
 |.inl k=>hashInt k
 |.inr x=>hashStr w x
theorem aH:∀{k:cX}{v:Value},dY k v=true->(∃i t,k=Sum.inl i/\v=Value.int i t)∨(∃x t,k=Sum.inr x/\v=Value.str x t)
 |.inl i,v,h=>by
  obtain⟨t,e⟩:=Value.isInt_shape (k:=i) (v:=v) h;exact .inl ⟨i,t,rfl,e⟩
 |.inr x,v,h=>by
  obtain⟨t,e⟩:=Value.isStrOf_shape (x:=x) (v:=v) h;exact .inr ⟨x,t,rfl,e⟩
theorem nz(i:Int)(t:Tok):dY (.inl i) (.int i t)=true:=by simp[dY,Value.isInt]
theorem nv(x:Str)(t:Tok):dY (.inr x) (.str x t)=true:=by simp[dY,Value.isStrOf]
theorem z9(a b:Int):decide ((Sum.inl a:cX)=Sum.inl b)=(a==b):=by
 by_cases e:a=b
 ·subst e;simp
 ·have h:¬(Sum.inl a:cX)=Sum.inl b:=fun q=>e (Sum.inl.inj q);rw[zzr0 h];exact(beq_eq_false_iff_ne.mpr e).symm
theorem zX(a b:Str):decide ((Sum.inr a:cX)=Sum.inr b)=decide (a=b):=by
 by_cases e:a=b
 ·subst e;simp
 ·have h:¬(Sum.inr a:cX)=Sum.inr b:=fun q=>e (Sum.inr.inj q);rw[zzr0 h,zzr0 e]
theorem z7(a:Int)(b:Str):decide ((Sum.inl a:cX)=Sum.inr b)=false:=zzr0 (fun q=>nomatch q)
theorem zY(a:Str)(b:Int):decide ((Sum.inr a:cX)=Sum.inl b)=false:=zzr0 (fun q=>nomatch q)
def cD(prog:bR)(w:World):PySem.KeyKind prog w cX where
 is:=dY
 hash:=Mi w
 inj:=fun v a b ha hb=>by
  rcases aH ha with⟨i,t,rfl,rfl⟩|⟨x,t,rfl,rfl⟩
  ·rcases aH hb with⟨j,u,rfl,e⟩|⟨y,u,rfl,e⟩
   ·injection e with e1 _;rw[e1]
   ·exact nomatch e
  ·rcases aH hb with⟨j,u,rfl,e⟩|⟨y,u,rfl,e⟩
   ·exact nomatch e
   ·injection e with e1 _;rw[e1]
 byValue:=fun k v h=>by
  rcases aH h with⟨i,t,rfl,rfl⟩|⟨x,t,rfl,rfl⟩<;>rfl
 pyHash:=fun hv h=>by
  rcases aH hv with⟨i,t,rfl,rfl⟩|⟨x,t,rfl,rfl⟩
  ·exact wpAny_pyHash_int h
  ·exact wpAny_pyHash_str h
 eqBool:=fun hu hv h=>by
  rcases aH hu with⟨i,t,rfl,rfl⟩|⟨x,t,rfl,rfl⟩
  ·rcases aH hv with⟨j,u,rfl,rfl⟩|⟨y,u,rfl,rfl⟩
   ·rw[z9]at h;exact wpAny_eqBool_int h
   ·rw[z7]at h;exact bH.int_str i t y u _ _ _ _ h
  ·rcases aH hv with⟨j,u,rfl,rfl⟩|⟨y,u,rfl,rfl⟩
   ·rw[zY]at h;exact bH.str_int x t j u _ _ _ _ h
   ·rw[zX]at h;exact wpAny_eqBool_str h
 «strs»:=fun k x t v h=>by
  rcases aH h with⟨i,u,rfl,e⟩|⟨y,u,rfl,e⟩
  ·exact nomatch e
  ·injection e with e1 _;subst e1;cases v<;>rfl
theorem Bv(a:bR)(w:World)(i:Int)(t:Tok):(cD a w).is (.inl i) (.int i t)=true:=nz i t
theorem Bu(a:bR)(w:World)(x:Str)(t:Tok):(cD a w).is (.inr x) (.str x t)=true:=nv x t
end L2
namespace L2
open PySem PySem.Spec PyProof.Rows
open Sem (wp)
abbrev pC:=Option cX
def jJ:pC->Value->Bool
 |none,v=>match v with
  |.none=>true
  |_=>false
 |some k,v=>dY k v
def K1(w:World):pC->Int
 |none=>GW 4238894112
 |some k=>Mi w k
theorem ck:∀{k:pC}{v:Value},jJ k v=true->(∃i t,k=some (Sum.inl i)/\v=Value.int i t)∨(∃x t,k=some (Sum.inr x)/\v=Value.str x t)∨(k=none/\v=Value.none)
 |none,v,h=>by
  refine .inr (.inr ⟨rfl,?_⟩);cases v<;>first|rfl|cases h
 |some k,v,h=>by
  rcases aH (show dY k v=true from h)with⟨i,t,rfl,rfl⟩|⟨i,t,rfl,rfl⟩
  ·exact .inl ⟨i,t,rfl,rfl⟩
  ·exact .inr (.inl ⟨i,t,rfl,rfl⟩)
theorem vC{a b:pC}{v:Value}(f:jJ a v=true)(g:jJ b v=true):a=b:=by
 rcases ck f with⟨i,t,rfl,rfl⟩|⟨i,t,rfl,rfl⟩|⟨rfl,rfl⟩<;>rcases ck g with⟨j,u,rfl,e⟩|⟨j,u,rfl,e⟩|⟨rfl,e⟩<;>first|rfl|(cases e;rfl)|cases e
def Bt(prog:bR)(w:World):PySem.KeyKind prog w pC where
 is:=jJ
 hash:=K1 w
 inj:=fun v a b ha hb=>vC ha hb
 byValue:=fun k v h=>by
  rcases ck h with⟨i,t,rfl,rfl⟩|⟨x,t,rfl,rfl⟩|⟨rfl,rfl⟩<;>rfl
 pyHash:=fun{A E s k v Q} hv h=>by
  rcases ck hv with⟨i,t,rfl,rfl⟩|⟨x,t,rfl,rfl⟩|⟨rfl,rfl⟩
  ·exact wpAny_pyHash_int h
  ·exact wpAny_pyHash_str h
  ·refine PySem.W.pyHash_slot (T:="NoneType") rfl F.slot_NoneType_hash F.entry_NoneType_hash (F.args_NoneType_hash_1 _) (by rw[beq_builtin_none]) (.inl rfl) ?_;show wpAny _ _ (retInt 4238894112) _ _ _;refine pQ (wpAny_ret_mkInt (Q:=fun v s'=>∃n t,v=Value.int n t/\Q (GW n) s') ⟨_,_,rfl,h⟩) (fun fin s' ⟨v,e,n,t,e2,q⟩=>⟨n,t,by rw[e,e2],q⟩) (fun _ _ z=>z)
 eqBool:=fun{A E s a b u v Q} hu hv h=>by
  rcases ck hu with⟨i,t,rfl,rfl⟩|⟨x,t,rfl,rfl⟩|⟨rfl,rfl⟩
  ·rcases ck hv with⟨j,u,rfl,rfl⟩|⟨y,u,rfl,rfl⟩|⟨rfl,rfl⟩
   ·exact(cD prog w).eqBool (a:=.inl i) (b:=.inl j) (nz i t) (nz j u) (by rw[show decide ((Sum.inl i:cX)=Sum.inl j)=decide ((some (Sum.inl i):pC)=some (Sum.inl j))from decide_eq_decide.mpr ⟨fun z=>by rw[z],fun z=>by injection z⟩];exact h)
   ·rw[zzr0 (by intro z;injection z with z;cases z)]at h;exact bH.int_str i t y u _ _ _ _ h
   ·rw[zzr0 (by intro z;cases z)]at h;exact bH.int_none i t _ _ _ _ h
  ·rcases ck hv with⟨j,u,rfl,rfl⟩|⟨y,u,rfl,rfl⟩|⟨rfl,rfl⟩
   ·rw[zzr0 (by intro z;injection z with z;cases z)]at h;exact bH.str_int x t j u _ _ _ _ h
   ·exact(cD prog w).eqBool (a:=.inr x) (b:=.inr y) (nv x t) (nv y u) (by rw[show decide ((Sum.inr x:cX)=Sum.inr y)=decide ((some (Sum.inr x):pC)=some (Sum.inr y))from decide_eq_decide.mpr ⟨fun z=>by rw[z],fun z=>by injection z⟩];exact h)
   ·rw[zzr0 (by intro z;cases z)]at h;exact bH.str_none x t _ _ _ _ h
  ·rcases ck hv with⟨j,u,rfl,rfl⟩|⟨y,u,rfl,rfl⟩|⟨rfl,rfl⟩
   ·rw[zzr0 (by intro z;cases z)]at h;exact bH.none_int j u _ _ _ _ h
   ·rw[zzr0 (by intro z;cases z)]at h;exact bH.none_str y u _ _ _ _ h
   ·rw[zzr1 rfl]at h;exact bH.same _ _ _ _ _ h
 «strs»:=fun k x t v h=>by
  rcases ck h with⟨i,u,rfl,e⟩|⟨y,u,rfl,e⟩|⟨rfl,e⟩
  ·exact nomatch e
  ·injection e with e1 _;subst e1;cases v<;>rfl
  ·exact nomatch e
inductive TK where
 |k (a:pC)
 |t (l:List TK)
mutual
def Lb:(x y:TK)->Decidable (x=y)
 |.k a,.k b=>if h:a=b then Decidable.isTrue (by rw[h])else Decidable.isFalse fun e=>h (by injection e)
 |.t l,.t m=>match decTKs l m with
  |Decidable.isTrue h=>Decidable.isTrue (by rw[h])
  |Decidable.isFalse h=>Decidable.isFalse fun e=>h (by injection e)
 |.k _,.t _=>Decidable.isFalse nofun
 |.t _,.k _=>Decidable.isFalse nofun
def decTKs:(x y:List TK)->Decidable (x=y)
 |[],[]=>Decidable.isTrue rfl
 |[],_::_=>Decidable.isFalse nofun
 |_::_,[]=>Decidable.isFalse nofun
 |a::l,b::m=>match Lb a b with
  |Decidable.isTrue h=>match decTKs l m with
   |Decidable.isTrue h'=>Decidable.isTrue (by rw[h,h'])
   |Decidable.isFalse h'=>Decidable.isFalse fun e=>h' (by injection e)
  |Decidable.isFalse h=>Decidable.isFalse fun e=>h (by injection e)
end
instance:DecidableEq TK:=Lb
mutual
def TK.depth:TK->Nat
 |.k _=>0
 |.t l=>TK.depths l+1
def TK.depths:List TK->Nat
 |[]=>0
 |a::r=>max (TK.depth a) (TK.depths r)
end
mutual
def TK.hash(w:World):TK->Int
 |.k a=>K1 w a
 |.t l=>GW (Cf (TK.hashs w l))
def TK.hashs(w:World):List TK->List Int
 |[]=>[]
 |a::r=>TK.hash w a::TK.hashs w r
end
mutual
def TK.draws:TK->Nat
 |.k _=>1
 |.t l=>TK.drawss l+1
def TK.drawss:List TK->Nat
 |[]=>0
 |a::r=>TK.draws a+TK.drawss r
end
mutual
def nH(h:Heap):TK->Value->Prop
 |.k a,v=>jJ a v=true
 |.t l,v=>∃a o items n,v=.ref a/\h.get? a=some o/\o.cls=.type "tuple"/\o.data=.seq items n/\TAts h l items.toList
def TAts(h:Heap):List TK->List Value->Prop
 |[],vs=>vs=[]
 |k::r,vs=>∃v us,vs=v::us/\nH h k v/\TAts h r us
end
theorem nH.inj{h:Heap}:∀(d:Nat) {x y:TK}{v:Value},x.depth<=d->nH h x v->nH h y v->x=y:=by
 have z:∀(d:Nat) (u:∀{x y:TK}{v:Value},x.depth<=d->nH h x v->nH h y v->x=y) (m i:List TK) (p:Zf),TK.depths m<=d->TAts h m p->TAts h i p->m=i:=by
  intro d u m
  induction m with
  |nil =>
   intro i p _ hx f;have A:p=[]:=hx;subst A;cases i with
   |nil=>rfl
   |cons y i=>obtain⟨_,_,e,_⟩:=f;cases e
  |cons x m B =>
   intro i p q hx f;obtain⟨v,M,rfl,C,D⟩:=hx;cases i with
   |nil=>have E:v::M=[]:=f;cases E
   |cons y i =>
    obtain⟨v',O,e,G,H⟩:=f;cases e;have Q:max x.depth (TK.depths m)<=d:=q;rw[u (by omega) C G,B i M (by omega) D H]
 have g:∀(a:pC) (l:List TK) (v:Value),nH h (.k a) v->nH h (.t l) v->False:=by
  intro a l v r I;obtain⟨b,o,items,n,rfl,_⟩:=I;rcases ck (show jJ a (.ref b)=true from r)with⟨_,_,_,e⟩|⟨_,_,_,e⟩|⟨_,e⟩<;>cases e
 have N:∀(a b:pC) (v:Value),jJ a v=true->jJ b v=true->a=b:=fun a b v r I=>vC r I;intro d
 induction d with
 |zero =>
  intro x y v q hx f;cases x with
  |t l=>exact absurd q (by show ¬(TK.depths l+1<=0);omega)
  |k a =>
   cases y with
   |k b=>rw[N a b v hx f]
   |t l=>exact(g a l v hx f).elim
 |succ d u =>
  intro x y v q hx f;cases x with
  |k a =>
   cases y with
   |k b=>rw[N a b v hx f]
   |t l=>exact(g a l v hx f).elim
  |t l =>
   cases y with
   |k b=>exact(g b l v f hx).elim
   |t T =>
    obtain⟨a,o,items,n,rfl,U,hc,J,hi⟩:=hx;obtain⟨a',o',w,n',e,s,Y,j,L⟩:=f;cases e;rw[U]at s;cases s;rw[J]at j;injection j with e1 _;subst e1;rw[z d (fun r=>u r) l T items.toList (by have:TK.depths l+1<=d+1:=q;omega) hi L]
theorem nH.mono{h i:Heap}(k:∀a o items n,h.get? a=some o->o.cls=.type "tuple"->o.data=.seq items n->i.get? a=some o):∀(d:Nat) {x:TK}{v:Value},x.depth<=d->nH h x v->nH i x v:=by
 have p:∀(d:Nat) (j:∀{x:TK}{v:Value},x.depth<=d->nH h x v->nH i x v) (e:List TK) (m:Zf),TK.depths e<=d->TAts h e m->TAts i e m:=by
  intro d j e
  induction e with
  |nil=>intro m _ hx;exact hx
  |cons x e q =>
   intro m f hx;obtain⟨v,u,rfl,r,s⟩:=hx;have y:max x.depth (TK.depths e)<=d:=f;exact⟨v,u,rfl,j (by omega) r,q u (by omega) s⟩
 intro d
 induction d with
 |zero =>
  intro x v f hx;cases x with
  |t l=>exact absurd f (by show ¬(TK.depths l+1<=0);omega)
  |k a=>exact hx
 |succ d j =>
  intro x v f hx;cases x with
  |k a=>exact hx
  |t l =>
   obtain⟨a,o,items,n,rfl,z,w,g,hi⟩:=hx;exact⟨a,o,items,n,rfl,k a o items n z w g,w,g,p d (fun A=>j A) l _ (by have:TK.depths l+1<=d+1:=f;omega) hi⟩
section
variable{prog:bR}{w:World}
theorem JA:∀(d:Nat) {A:Around}{E:Zc}{s:Shared}{k:TK}{v:Value}{Q:Int->Shared->Prop},k.depth<=d->A.units+d<cLine->nH s.heap k v->Q (k.hash w) { s with toks:=s.toks+k.draws } ->
  wpAny (model prog w) A (pyHash v) Q E s:=by
 intro d
 induction d with
 |zero =>
  intro A E s k v Q C hu u h;cases k with
  |t l=>exact absurd C (by show ¬(TK.depths l+1<=0);omega)
  |k a=>exact(Bt prog w).pyHash (k:=a) u h
 |succ d ih =>
  intro A E s k v Q C hu u h;cases k with
  |k a=>exact(Bt prog w).pyHash (k:=a) u h
  |t l =>
   obtain⟨a,o,items,n,rfl,U,hc,D,hi⟩:=u;have y:s.TypeIs (.ref a) "tuple":=⟨o,U,hc⟩;have G:TK.depths l<=d:=by have:TK.depths l+1<=d+1:=C;omega
   unfold pyHash
   first|unfold pyHashByItsType|skip
   first|refine am (wpAny_cRoomFor_or (.inr (by omega)) ?_)|skip
   refine am (Jv y F.slot_tuple_hash.lookup ?_);show wpAny _ _ (if(some (Value.builtin "tuple.__hash__")==some Value.none)=true then _ else _) Q E s
   rw[if_neg (by rw[beq_builtin_none];exact hV)];refine am (Jv y F.slot_tuple_hash.lookup ?_);show wpAny _ _ (callSpecialIfBoundUnlessNone? (.ref a) "__hash__" _ >>= _) Q E s;refine am (wpAny_callSpecialIfBoundUnlessNone?_slot y F.slot_tuple_hash (q0 F.slot_tuple_hash y F.entry_tuple_hash ?_ (F.args_tuple_hash_1 _)));show wpAny _ _ (dD.Tuple.tupleItemsOf (.ref a) >>= _) _ _ s;refine am (wpAny_tupleItemsOf U D ?_);refine am ?_;rw[<-Array.forIn_toList];refine wpAny_forIn_list _
    (fun g (b:Array Int) H=>∃done left,l=done++left/\TAts s.heap left g/\b.toList=TK.hashs w done/\H={ s with toks:=s.toks+TK.drawss done })
    _ ?_ ?_ _ _ ⟨[],l,rfl,hi,rfl,rfl⟩
   ·rintro x g b H ⟨done,left,e,z,j,rfl⟩;cases left with
    |nil=>have I:x::g=[]:=z;cases I
    |cons f left =>
     obtain⟨x',J,L,h1,Y⟩:=z;cases L;have M:f.depth<=d:=by
      have gen:∀(p:List TK),TK.depths (p++f::left)<=d->f.depth<=d:=by
       intro p
       induction p with
       |nil=>intro N;have O:max f.depth (TK.depths left)<=d:=N;omega
       |cons q p i=>intro N;have O:max q.depth (TK.depths (p++f::left))<=d:=N;exact i (by omega)
      exact gen done (by rw[<-e];exact G)
     have T:TK.hashs w (done++[f])=TK.hashs w done++[f.hash w]:=by
      clear e j
      induction done with
      |nil=>rfl
      |cons q p i=>show _::TK.hashs w (p++[f])=_;rw[i];rfl
     have m:TK.drawss (done++[f])=TK.drawss done+f.draws:=by
      clear e j T
      induction done with
      |nil=>show f.draws+0=0+f.draws;omega
      |cons q p i=>show q.draws+TK.drawss (p++[f])=q.draws+TK.drawss p+f.draws;rw[i];omega
     refine am (ih (k:=f) M (by show A.units+1+d<cLine;omega) h1 ?_)
     first
      |exact aQ ⟨done++[f],left,by rw[e];simp,Y,by rw[T];simp[j],by rw[m];simp[Ju]⟩
      |exact am (aQ (aQ ⟨done++[f],left,by rw[e];simp,Y,by rw[T];simp[j],by rw[m];simp[Ju]⟩))
   ·rintro b H ⟨done,left,e,z,j,rfl⟩;cases left with
    |cons f left=>obtain⟨_,_,L,_⟩:=z;cases L
    |nil =>
     rw[dS]at e;subst e;show wpAny _ _ (retInt (Cf b.toList)) _ _ _;rw[j];refine wpAny_ret_mkInt ?_;have r:Q (GW (Cf (TK.hashs w l))) { s with toks:=s.toks+(TK.drawss l+1) }:=h;show wpAny _ _ (if(decide (-(2:Int) ^ 63<=Cf (TK.hashs w l)) && decide (Cf (TK.hashs w l)<2 ^ 63))=true then _ else _) Q E _
     unfold GW at r;by_cases B:(decide (-(2:Int) ^ 63<=Cf (TK.hashs w l)) && decide (Cf (TK.hashs w l)<2 ^ 63))=true
     ·rw[if_pos B];rw[if_pos B]at r;exact aQ (by simpa[Ju]using r)
     ·rw[if_neg B];rw[if_neg B]at r;exact am (pR (aQ (by simpa[Ju]using r)))
theorem Fg(d:Nat)(ih:∀{A:Around}{E:Zc}{s:Shared}{x y:TK}{u v:Value}{Q:Bool->Shared->Prop},x.depth<=d->y.depth<=d->A.units+d<cLine->nH s.heap x u->nH s.heap y v->Q (decide (x=y)) s->wpAny (model prog w) A (eqBool u v) Q E s)
  {A:Around}{E:Zc}{s:Shared}{x y:List TK}{a b:Addr}{P:Fin->Shared->Prop}{oa L:Obj}{q t:Array Value}{na nb:Nat}(hx:TK.depths x<=d) (hy:TK.depths y<=d) (hu:A.units+d<cLine)
  (N:s.heap.get? a=some oa) (O:oa.data=.seq q na) (T:TAts s.heap x q.toList) (B:s.heap.get? b=some L) (U:L.cls=.type "tuple") (Y:L.data=.seq t nb) (al:TAts s.heap y t.toList)
  (h:P (.done (.ret (.bool (decide (x=y))))) s):wpAny (model prog w) A (dD.«tuple.__eq__» ⟨[.ref a,.ref b],[]⟩) P E s:=by
 have an:s.TypeIs (.ref b) "tuple":=⟨L,B,U⟩;show wpAny _ _ (isInstance (.ref b) (.type "tuple") >>= _) _ _ s;refine am (AI an isSubtype_tuple_tuple ?_);simp only[Ed,nU,if_false];refine am (wpAny_tupleItemsOf N O ?_);refine am (wpAny_tupleItemsOf B Y ?_);refine am ?_;refine wpAny_forIn_list _
  (fun l r M=>r.1=none/\M=s/\∃n m xs' f,l=List.zip xs' f/\TAts s.heap n xs'/\TAts s.heap m f/\TK.depths n<=d/\TK.depths m<=d/\decide (n=m)=decide (x=y)/\(xs'.length==f.length)=(q.size==t.size))
  _ ?_ ?_ _ _ ⟨rfl,rfl,x,y,q.toList,t.toList,rfl,T,al,hx,hy,rfl,by simp⟩
 ·rintro⟨u,v⟩ l r M ⟨hr,rfl,n,m,xs',f,z,j,g,dx,dy,i,k⟩;cases n with
  |nil =>
   have e:xs'=[]:=j;subst e;simp at z
  |cons k1 o =>
   obtain⟨u',C,rfl,h1,D⟩:=j;cases m with
   |nil =>
    have e:f=[]:=g;subst e;simp at z
   |cons k2 p =>
    obtain⟨v',G,rfl,h2,H⟩:=g;simp only[List.zip_cons_cons,List.cons.injEq,Prod.mk.injEq]at z;obtain⟨⟨rfl,rfl⟩,rfl⟩:=z;have ap:max k1.depth (TK.depths o)<=d:=dx;have as:max k2.depth (TK.depths p)<=d:=dy;refine am (ih (x:=k1) (y:=k2) (by omega) (by omega) hu h1 h2 ?_);by_cases hk:k1=k2
    ·subst hk;rw[zzr1 rfl];simp only[Ed,nU,if_false];refine aQ ⟨rfl,rfl,o,p,C,G,rfl,D,H,by omega,by omega,?_,by simpa using k⟩;rw[<-i];by_cases I:o=p
     ·simp[I]
     ·simp[I]
    ·rw[zzr0 hk];simp only[Bool.not_false,if_true];have hf:decide (x=y)=false:=by rw[<-i];simp[hk]
     rw[hf]at h;exact am (aQ (aQ (aQ h)))
 ·rintro⟨r1,r2⟩ M ⟨hr,rfl,n,m,xs',f,z,j,g,dx,dy,i,k⟩;simp only at hr;subst hr;refine aQ ?_;have J:(q.size==t.size)=decide (x=y):=by
   rw[<-i,<-k];cases n with
   |nil =>
    have e:xs'=[]:=j;subst e;cases m with
    |nil=>have e:f=[]:=g;subst e;simp
    |cons _ _=>obtain⟨_,_,rfl,_⟩:=g;simp
   |cons _ _ =>
    obtain⟨_,_,rfl,_⟩:=j;cases m with
    |nil=>have e:f=[]:=g;subst e;simp
    |cons _ _=>obtain⟨_,_,rfl,_⟩:=g;simp at z
  show P (.done (.ret (.bool (q.size==t.size)))) M;rw[J];exact h
theorem Ma:∀(d:Nat) {A:Around}{E:Zc}{s:Shared}{x y:TK}{u v:Value}{Q:Bool->Shared->Prop},x.depth<=d->y.depth<=d->A.units+d<cLine->nH s.heap x u->nH s.heap y v->Q (decide (x=y)) s ->
  wpAny (model prog w) A (eqBool u v) Q E s:=by
 have g:∀{A:Around}{E:Zc}{s:Shared}{a:pC}{l:List TK}{u v:Value}{Q:Bool->Shared->Prop},A.units<cLine->nH s.heap (.k a) u->nH s.heap (.t l) v->Q false s->wpAny (model prog w) A (eqBool u v) Q E s:=by
  intro A E s a l u v Q j hx f h;obtain⟨b,o,items,n,rfl,L,M,q,hi⟩:=f;have r:s.heap.IsTuple b items:=⟨o,L,M,n,q⟩;rcases ck (show jJ a u=true from hx)with⟨i,t,rfl,rfl⟩|⟨i,t,rfl,rfl⟩|⟨rfl,rfl⟩
  ·exact bH.int_tuple i t r j prog w E Q h
  ·exact bH.str_tuple i t r j prog w E Q h
  ·exact bH.none_tuple r j prog w E Q h
 have p:∀{A:Around}{E:Zc}{s:Shared}{a:pC}{l:List TK}{u v:Value}{Q:Bool->Shared->Prop},A.units<cLine->nH s.heap (.t l) u->nH s.heap (.k a) v->Q false s->wpAny (model prog w) A (eqBool u v) Q E s:=by
  intro A E s a l u v Q j hx f h;obtain⟨b,o,items,n,rfl,L,M,q,hi⟩:=hx;have r:s.heap.IsTuple b items:=⟨o,L,M,n,q⟩;rcases ck (show jJ a v=true from f)with⟨i,t,rfl,rfl⟩|⟨i,t,rfl,rfl⟩|⟨rfl,rfl⟩
  ·exact bH.tuple_int i t r j prog w E Q h
  ·exact bH.tuple_str i t r j prog w E Q h
  ·exact bH.tuple_none r j prog w E Q h
 have leaves:∀{A:Around}{E:Zc}{s:Shared}{a b:pC}{u v:Value}{Q:Bool->Shared->Prop},nH s.heap (.k a) u->nH s.heap (.k b) v->Q (decide (TK.k a=TK.k b)) s->wpAny (model prog w) A (eqBool u v) Q E s:=by
  intro A E s a b u v Q hx f h;refine(Bt prog w).eqBool (a:=a) (b:=b) hx f ?_;by_cases e:a=b
  ·subst e;simpa using h
  ·have:¬(TK.k a=TK.k b):=fun z=>e (by injection z);rw[zzr0 this]at h;rw[zzr0 e];exact h
 intro d
 induction d with
 |zero =>
  intro A E s x y u v Q B C j hx f h;cases x with
  |t l=>exact absurd B (by show ¬(TK.depths l+1<=0);omega)
  |k a =>
   cases y with
   |t l=>exact absurd C (by show ¬(TK.depths l+1<=0);omega)
   |k b=>exact leaves hx f h
 |succ d ih =>
  intro A E s x y u v Q B C j hx f h;cases x with
  |k a =>
   cases y with
   |k b=>exact leaves hx f h
   |t l =>
    rw[zzr0 (by intro z;cases z)]at h;exact g (by omega) hx f h
  |t l =>
   cases y with
   |k b =>
    rw[zzr0 (by intro z;cases z)]at h;exact p (by omega) hx f h
   |t m =>
    have hl:TK.depths l<=d:=by have:TK.depths l+1<=d+1:=B;omega
    have hm:TK.depths m<=d:=by have:TK.depths m+1<=d+1:=C;omega
    have N:=hx;have O:=f;obtain⟨a,oa,xs,na,rfl,G,T,U,Y⟩:=hx;obtain⟨b,ob,ys,nb,rfl,H,I,al,an⟩:=f;have J:s.TypeIs (.ref a) "tuple":=⟨oa,G,T⟩;have ap:s.TypeIs (.ref b) "tuple":=⟨ob,H,I⟩;have as:decide (TK.t l=TK.t m)=decide (l=m):=by
     by_cases e:l=m
     ·subst e;simp
     ·have:¬(TK.t l=TK.t m):=fun z=>e (by injection z);rw[zzr0 this,zzr0 e]
    unfold eqBool
    try with_reducible refine lY ?_
    show wpAny _ _ (if(Value.ref a==Value.ref b)=true then _ else _) Q E s
    by_cases D:(Value.ref a==Value.ref b)=true
    ·rw[if_pos D];have e:a=b:=by have:=eq_of_beq D;injection this
     subst e;have e2:TK.t l=TK.t m:=nH.inj _ (aR _) N O;rw[zzr1 e2]at h;exact am (pR (aQ h))
    ·rw[if_neg D];rw[as]at h;exact am (wpAny_richCompare_same_room (op:=.Eq) J ap F.slot_tuple_eq
      (q0 F.slot_tuple_eq J F.entry_tuple_eq (Fg d (fun h1 h2 h3 h4 h5 h6=>ih h1 h2 h3 h4 h5 h6) hl hm (by show A.units+1+d<cLine;omega) G U Y H I al an ⟨_,rfl,(fun e=>nomatch e),sW h⟩) (F.args_tuple_eq_2 _ _)) (by omega))
theorem Hf:∀(d:Nat) {A:Around}{E:Zc}{s:Shared}{k:TK}{v:Value}{Q:Bool->Shared->Prop},k.depth<=d->nH s.heap k v->Q true s->wpAny (model prog w) A (eqIsQuiet d v) Q E s:=by
 intro d
 induction d with
 |zero =>
  intro A E s k v Q j i h;cases k with
  |t l=>exact absurd j (by show ¬(TK.depths l+1<=0);omega)
  |k a=>rw[eqIsQuiet_byValue _ ((Bt prog w).byValue a v i)];exact aQ h
 |succ d D =>
  intro A E s k v Q j i h;cases k with
  |k a=>rw[eqIsQuiet_byValue _ ((Bt prog w).byValue a v i)];exact aQ h
  |t l =>
   have G:TK.depths l<=d:=by have:TK.depths l+1<=d+1:=j;omega
   obtain⟨a,o,items,n,rfl,y,H,m,hi⟩:=i;have z:s.TypeIs (.ref a) "tuple":=⟨o,y,H⟩;unfold eqIsQuiet;refine am (Jv z F.slot_tuple_eq.lookup ?_);show wpAny _ _ (isInstance (.ref a) (.type "tuple") >>= _) _ _ s;refine am (AI z isSubtype_tuple_tuple ?_);simp only[Ed,nU,if_false];refine am (me y m ?_);refine am ?_;show wpAny _ _ (forIn items _ _) _ _ s;rw[<-Array.forIn_toList];refine wpAny_forIn_list _ (fun f r p=>r.1=none/\p=s/\∃left,TAts s.heap left f/\TK.depths left<=d) _ ?_ ?_ _ _ ⟨rfl,rfl,l,hi,G⟩
   ·rintro v f r p ⟨q,rfl,left,g,u⟩;cases left with
    |nil=>have e:v::f=[]:=g;cases e
    |cons B left =>
     obtain⟨L,x,e,I,J⟩:=g;cases e;have C:max B.depth (TK.depths left)<=d:=u;refine am (D (k:=B) (by omega) I ?_);simp only[Ed,nU,if_false];exact aQ ⟨rfl,rfl,left,J,by omega⟩
   ·rintro⟨M,N⟩ p ⟨q,rfl,_⟩;simp only at q;subst q;exact aQ h
def bO(prog:bR)(w:World):HeapKind prog w TK where
 is:=fun h k a=>nH h k (.ref a)/\k.depth<=8
 hash:=TK.hash w
 draws:=TK.draws
 room:=fun A=>A.units+8<cLine
 inj:=fun hx hy=>nH.inj 8 hx.2 hx.1 hy.1
 keeps:=fun{h h' k a d o es ep} x ho hd hs=>⟨nH.mono (fun b ob items n hb _ hdb=>(hs.2 b fun e=>by
  subst e;rw[ho]at hb;cases hb;rw[hd]at hdb;cases hdb).trans hb) 8 x.2 x.1,x.2⟩
 pyHash:=fun hu hk h=>JA 8 hk.2 hu hk.1 h
 eqBool:=fun hu hx hy h=>Ma 8 hx.2 hy.2 hu hx.1 hy.1 h
 quiet:=fun hk h=>Hf 8 hk.2 hk.1 h
end
end L2
namespace L2
open PySem PySem.Spec PyProof.Rows
inductive V where
 |non|bl (b:Bool)|int (i:Int)|str (x:Str)|byt (b:Array UInt8)|flt (b:UInt64)|ref (a:Addr)|ty (n:String)
 deriving DecidableEq
def RelV:V->Value->Prop
 |.non,u=>u=Value.none
 |.bl b,u=>u=Value.bool b
 |.int i,u=>∃t,u=Value.int i t
 |.str x,u=>∃t,u=Value.str x t
 |.byt b,u=>∃t,u=Value.bytes b t
 |.flt b,u=>∃t,u=Value.float b t
 |.ref a,u=>u=Value.ref a
 |.ty n,u=>u=Value.type n
abbrev bA:List V->List Value->Prop:=Paired RelV
theorem bA.length{a:List V}{e:Zf}(r:bA a e):a.length=e.length:=Paired.length r
theorem bA.get:∀{a:List V}{f:Zf}{i:Nat}{x:V},bA a f->a[i]?=some x->∃u,f[i]?=some u/\RelV x u
 |_,_,_,_,.nil,e=>by simp at e
 |_,_,0,_,.cons r _,e=>by simp at e;subst e;exact⟨_,rfl,r⟩
 |_,_,i+1,x,.cons _ t,e=>by
  obtain⟨u,g,h⟩:=bA.get (i:=i) (x:=x) t (by simpa using e);exact⟨u,by simpa using g,h⟩
theorem bA.set{x:V}{u:Value}(r:RelV x u):∀{a:List V}{e:Zf}(i:Nat),bA a e->bA (a.set i x) (e.set i u)
 |_,_,_,.nil=>.nil
 |_,_,0,.cons _ t=>.cons r t
 |_,_,i+1,.cons q t=>.cons q (bA.set r i t)
theorem bA.append{a e:List V}{f g:Zf}(h:bA a f)(s:bA e g):bA (a++e) (f++g):=by
 induction h with
 |nil=>exact s
 |cons r _ i=>exact .cons r i
theorem bA.take:∀{a:List V}{e:Zf}(n:Nat),bA a e->bA (a.take n) (e.take n)
 |_,_,0,_=>.nil
 |_,_,_+1,.nil=>.nil
 |_,_,n+1,.cons r t=>.cons r (bA.take n t)
theorem bA.drop:∀{a:List V}{e:Zf}(n:Nat),bA a e->bA (a.drop n) (e.drop n)
 |_,_,0,r=>r
 |_,_,_+1,.nil=>.nil
 |_,_,n+1,.cons _ t=>bA.drop n t
def l7:Option V->Option Value->Prop
 |some v,some u=>RelV v u
 |none,none=>True
 |_,_=>False
def KV{κ:Type}:List (κ×V)->List (κ×Value)->Prop:=Paired fun(p:κ×V) (q:κ×Value)=>p.1=q.1/\RelV p.2 q.2
def kV:cX->V
 |.inl i=>.int i
 |.inr x=>.str x
def K2:pC->V
 |none=>.non
 |some k=>kV k
inductive HO where
 |lst (xs:List V)
 |tup (xs:List V)
 |dK (kvs:List (cX×V))|dT (kvs:List (TK×V))
 |set (S:Int->Bool) (n:Nat)
 |ins (C dx:Addr) (fs:List (Str×V))
 |own (x:Addr)
 |xd (fs:List (Str×V))
 |met (f x:Addr)
 |rng (lo hi:Int)
 |frz (o:Obj) (u:HO)
 |tbl (ps:Array Value)
 |ext (φ:Heap->Prop)
abbrev Hp:=Addr->Option HO
mutual
def jO(H:Hp):TK->V->Prop
 |.k a,v=>v=K2 a
 |.t l,v=>∃b xs,v=.ref b/\H b=some (.tup xs)/\TKAts H l xs
def TKAts(H:Hp):List TK->List V->Prop
 |[],vs=>vs=[]
 |k::r,vs=>∃v us,vs=v::us/\jO H k v/\TKAts H r us
end
def bV(K:Za)(H:Hp)(a:Addr)(xs:List V):Prop :=
 H a=some (.tup xs)∨∃(o:Obj) (its:Array Value) (n:Nat),K.lookup a=some o/\o.cls=.type "tuple"/\o.data=.seq its n/\its.size<=ak/\bA xs its.toList
theorem bV.keeps{K:Za}{H e:Hp}{a:Addr}{xs:List V}(h:bV K H a xs)(f:∀b xs,H b=some (.tup xs)->e b=some (.tup xs)):bV K e a xs:=h.imp (f a xs) id
mutual
def tG(K:Za)(H:Hp):TK->V->Prop
 |.k a,v=>v=K2 a
 |.t l,v=>∃b xs,v=.ref b/\bV K H b xs/\TKCs K H l xs
def TKCs(K:Za)(H:Hp):List TK->List V->Prop
 |[],vs=>vs=[]
 |k::r,vs=>∃v us,vs=v::us/\tG K H k v/\TKCs K H r us
end
theorem tG.keeps{K:Za}{H f:Hp}(p:∀b xs,H b=some (.tup xs)->f b=some (.tup xs)):∀(d:Nat) {k:TK}{v:V},k.depth<=d->tG K H k v->tG K f k v:=by
 have i:∀(d:Nat) (g:∀{k:TK}{v:V},k.depth<=d->tG K H k v->tG K f k v) (xs:List TK) (h:List V),TK.depths xs<=d->TKCs K H xs h->TKCs K f xs h:=by
  intro d g xs
  induction xs with
  |nil=>intro h _ hx;exact hx
  |cons x xs j =>
   intro h e hx;obtain⟨v,o,rfl,m,n⟩:=hx;have q:max x.depth (TK.depths xs)<=d:=e;exact⟨v,o,rfl,g (by omega) m,j o (by omega) n⟩
 intro d
 induction d with
 |zero =>
  intro k v e hx;cases k with
  |t l=>exact absurd e (by show ¬(TK.depths l+1<=0);omega)
  |k a=>exact hx
 |succ d g =>
  intro k v e hx;cases k with
  |k a=>exact hx
  |t l =>
   obtain⟨b,xs,rfl,r,hi⟩:=hx;exact⟨b,xs,rfl,r.keeps p,i d (fun s=>g s) l xs (by have:TK.depths l+1<=d+1:=e;omega) hi⟩
theorem jO.c{K:Za}{H:Hp}:∀(d:Nat) {k:TK}{v:V},k.depth<=d->jO H k v->tG K H k v:=by
 have i:∀(d:Nat) (g:∀{k:TK}{v:V},k.depth<=d->jO H k v->tG K H k v) (e:List TK) (h:List V),TK.depths e<=d->TKAts H e h->TKCs K H e h:=by
  intro d g e
  induction e with
  |nil=>intro h _ hx;exact hx
  |cons x e j =>
   intro h f hx;obtain⟨v,o,rfl,m,n⟩:=hx;have p:max x.depth (TK.depths e)<=d:=f;exact⟨v,o,rfl,g (by omega) m,j o (by omega) n⟩
 intro d
 induction d with
 |zero =>
  intro k v f hx;cases k with
  |t l=>exact absurd f (by show ¬(TK.depths l+1<=0);omega)
  |k a=>exact hx
 |succ d g =>
  intro k v f hx;cases k with
  |k a=>exact hx
  |t l =>
   obtain⟨b,e,rfl,q,hi⟩:=hx;exact⟨b,e,rfl,.inl q,i d (fun r=>g r) l e (by have:TK.depths l+1<=d+1:=f;omega) hi⟩
def upd(H:Hp)(a:Addr)(o:HO):Hp:=fun b=>if b=a then some o else H b
theorem aa{H:Hp}{a:Addr}{o:HO}:upd H a o a=some o:=by unfold upd;rw[if_pos rfl]
theorem aj{H:Hp}{a b:Addr}{o:HO}(h:b≠a):upd H a o b=H b:=by unfold upd;rw[if_neg h]
theorem t_{H:Hp}{a:Addr}{o u:HO}:upd (upd H a o) a u=upd H a u:=by
 funext b;unfold upd;split<;>rfl
theorem KZ{H:Hp}{a b:Addr}{o u:HO}(h:H a=some o)(f:H b=some u)(d:o≠u):a≠b:=by
 intro e;subst e;rw[h]at f;exact d (fW f)
theorem ae{H:Hp}{a b:Addr}{o:HO}(h:H a=some o)(f:H b=none):a≠b:=by
 intro e;subst e;rw[h]at f;cases f
section
variable(P:bR)(w:World)(K:Za)
def cw(H:Hp)(h:Heap)(a:Addr):HO->Prop
 |.lst xs=>xs.length<=ak/\∃(its:Zf) (n:Nat),bA xs its/\h.get? a=some { cls:=.type "list",data:=.seq its.toArray n }
 |.tup xs=>xs.length<=ak/\∃its:List Value,bA xs its/\IsTup h a its.toArray
 |.dK kvs=>kvs.length<=ak/\(a==hZ)=false/\∃vs,KV kvs vs/\h.DictOf (cD P w) a vs
 |.dT kvs=>kvs.length<=ak/\(a==hZ)=false/\∃xs:List (TK×Addr×Value),
   Paired (fun(p:TK×V) (q:TK×Addr×Value)=>p.1=q.1/\tG K H p.1 (.ref q.2.1)/\p.1.depth<=8/\RelV p.2 q.2.2) kvs xs /\
   ∃o es ep,h.get? a=some o/\o.ExactDict/\o.data=.dict es ep/\es.toList=xs.map (Ec (bO P w))/\(xs.map (·.1)).Nodup
 |.set S n=>h.SetOf (intKind P w) a S n
 |.ins C dx fs=>H dx=some (.own a)/\fs.length<=1000/\dx≠a/\h.get? a=some (sV C dx) /\
   ∃mA,h.Ns1 dx mA/\(∀f,l7 (fs.lookup f) (mA f))/\PySem.Within mA (fs.map (·.1))
 |.own _=>∃o,h.get? a=some o
 |.xd fs=>∃mA,h.Ns1 a mA/\∀f,l7 (fs.lookup f) (mA f)
 |.rng lo hi=>∃t u v,h.get? a=some { cls:=.type "range",data:=.fields #[.int lo t,.int hi u,.int 1 v] }
 |.frz o u=>h.get? a=some o/\cw H h a u
 |.tbl ps=>h.get? a=some { cls:=.none,data:=.fields ps }
 |.met f x=>h.get? a=some (PySem.W.methodObj (.ref f) (.ref x))
 |.ext φ=>φ h/\(∃o,h.get? a=some o)/\∀h1 h2:Heap,φ h1->(∀o,h1.get? a=some o->h2.get? a=some o)->φ h2
def mP(H:Hp)(h:Heap):Prop:=∀a o,H a=some o->cw P w K H h a o
end
section
variable{P:bR}{w:World}{K:Za}{H H':Hp}{h h':Heap}{a:Addr}{o:HO}
theorem cw.lt(x:cw P w K H h a o):a<h.objs.size:=by
 cases o with
 |lst i=>obtain⟨_,_,_,_,e⟩:=x;exact bg e
 |tup i=>obtain⟨_,_,_,p⟩:=x;exact p.lt
 |dK g=>obtain⟨_,_,_,_,o,_,_,e,_⟩:=x;exact bg e
 |dT g=>obtain⟨_,_,_,_,o,_,_,e,_⟩:=x;exact bg e
 |set S n=>obtain⟨o,_,_,_,e,_⟩:=x;exact bg e
 |ins C j fs=>obtain⟨_,_,_,e,_⟩:=x;exact bg e
 |own y=>obtain⟨_,e⟩:=x;exact bg e
 |xd fs=>obtain⟨_,⟨_,_,_,e,_⟩,_⟩:=x;exact bg e
 |rng lo hi=>obtain⟨_,_,_,e⟩:=x;exact bg e
 |frz k u=>obtain⟨e,_⟩:=x;exact bg e
 |tbl l=>exact bg (show h.get? a=some _ from x)
 |met f y=>exact bg (show h.get? a=some _ from x)
 |ext φ=>obtain⟨_,⟨_,e⟩,_⟩:=x;exact bg e
theorem Paired.mapP{α β:Type}{F G:α->β->Prop}{e:List α}{g:List β}(h:Paired F e g)(f:∀a b,F a b->G a b):Paired G e g:=by
 induction h with
 |nil=>exact .nil
 |cons r _ i=>exact .cons (f _ _ r) i
theorem cw.stay(x:cw P w K H h a o)(k:∀b u,(b=a∨H b=some (.own a))->h.get? b=some u->h'.get? b=some u)
  (E:∀b,H b=some (.own a)->H' b=some (.own a)) (G:∀b m,H b=some (.tup m)->H' b=some (.tup m)):cw P w K H' h' a o:=by
 induction o with
 |lst m=>obtain⟨z,l,n,r,e⟩:=x;exact⟨z,l,n,r,k _ _ (.inl rfl) e⟩
 |tup m=>obtain⟨z,l,r,g,e,c⟩:=x;exact⟨z,l,r,g,k _ _ (.inl rfl) e,c⟩
 |dK s=>obtain⟨z,y,I,r,g,i,j,e,c⟩:=x;exact⟨z,y,I,r,g,i,j,k _ _ (.inl rfl) e,c⟩
 |dT s =>
  obtain⟨z,y,m,r,g,i,j,e,c⟩:=x;exact⟨z,y,m,Paired.mapP r fun p q z=>⟨z.1,tG.keeps G 8 z.2.2.1 z.2.1,z.2.2⟩,g,i,j,k _ _ (.inl rfl) e,c⟩
 |set S n=>obtain⟨g,i,j,t,e,c⟩:=x;exact⟨g,i,j,t,k _ _ (.inl rfl) e,c⟩
 |ins C M fs =>
  obtain⟨d,z,ne,e,A,⟨B,i,j,J,c⟩,r⟩:=x;exact⟨E _ d,z,ne,k _ _ (.inl rfl) e,A,⟨B,i,j,k _ _ (.inr d) J,c⟩,r⟩
 |own y=>obtain⟨g,e⟩:=x;exact⟨g,k _ _ (.inl rfl) e⟩
 |xd fs=>obtain⟨A,⟨B,i,j,e,c⟩,r⟩:=x;exact⟨A,⟨B,i,j,k _ _ (.inl rfl) e,c⟩,r⟩
 |rng lo hi=>obtain⟨t,u,v,e⟩:=x;exact⟨t,u,v,k _ _ (.inl rfl) e⟩
 |frz g u L=>obtain⟨e,q⟩:=x;exact⟨k _ _ (.inl rfl) e,L q⟩
 |tbl D =>
  have e:h.get? a=some { cls:=.none,data:=.fields D }:=x;show h'.get? a=some { cls:=.none,data:=.fields D };exact k a _ (.inl rfl) e
 |met f y =>
  have e:h.get? a=some (PySem.W.methodObj (.ref f) (.ref y)):=x;show h'.get? a=some (PySem.W.methodObj (.ref f) (.ref y));exact k a _ (.inl rfl) e
 |ext φ=>obtain⟨p,⟨o,e⟩,st⟩:=x;exact⟨st _ _ p fun o q=>k _ _ (.inl rfl) q,⟨o,k _ _ (.inl rfl) e⟩,st⟩
theorem mP.lt(x:mP P w K H h)(e:H a=some o):a<h.objs.size:=(x a o e).lt
theorem mP.fresh(x:mP P w K H h)(e:h.objs.size<=a):H a=none:=by
 cases q:H a with
 |none=>rfl
 |some u=>exact absurd (ju (x.lt q) e) (sU _)
theorem mP.kept(x:mP P w K H h)(k:∀b u,h.get? b=some u->h'.get? b=some u):mP P w K H h':=fun a o e =>
 (x a o e).stay (fun b u _ q=>k b u q) (fun _ q=>q) fun _ _ q=>q
theorem mP.laid(x:mP P w K H h)(k:∀b u,h.get? b=some u->h'.get? b=some u)(i:h.objs.size<=a)(new:cw P w K (upd H a o) h' a o):mP P w K (upd H a o) h':=fun b u e=>by
 have f:=x.fresh i;by_cases g:b=a
 ·subst g;rw[aa]at e;cases e;exact new
 ·rw[aj g]at e;exact(x b u e).stay (fun c v _ q=>k c v q) (fun c q=>by rw[aj (ae q f)];exact q) fun c j q=>by rw[aj (ae q f)];exact q
end
def Rd(H:Hp)(a:Addr)(u:HO):Prop:=H a=some u∨∃o,H a=some (.frz o u)
theorem Rd.ok{P:bR}{w:World}{K:Za}{H:Hp}{h:Heap}{a:Addr}{u:HO}(r:Rd H a u)(x:mP P w K H h):cw P w K H h a u:=by
 rcases r with r|⟨o,r⟩
 ·exact x a u r
 ·obtain⟨_,q⟩:=x a _ r;exact q
def Mv:Option HO->Prop
 |some (.lst _)=>True
 |some (.dK _)=>True
 |some (.dT _)=>True
 |some (.set _ _)=>True
 |some (.ins _ _ _)=>True
 |some (.ext _)=>True
 |_=>False
section
variable{P:bR}{w:World}{K:Za}{H:Hp}{h h':Heap}{x e:Addr}{o':HO}
theorem mP.write(ok:mP P w K H h)(i:Mv (H x))(n:e=x∨H e=some (.own x))(k:∀b u,b≠e->h.get? b=some u->h'.get? b=some u)(m:∃u,h'.get? e=some u)
  (new:cw P w K (upd H x o') h' x o'):mP P w K (upd H x o') h':=fun b u q=>by
 have f:∀c y,H c=some (.own y)->c≠x:=fun c y r z=>by subst z;rw[r]at i;exact i
 have g:∀c j,H c=some (.tup j)->c≠x:=fun c j r z=>by subst z;rw[r]at i;exact i
 by_cases l:b=x
 ·subst l;rw[aa]at q;cases q;exact new
 ·rw[aj l]at q;by_cases a:b=e
  ·have o:H b=some (.own x):=by
    rcases n with z|z
    ·exact absurd (a.trans z) l
    ·rw[a];exact z
   rw[q]at o;cases o;obtain⟨v,p⟩:=m;exact⟨v,by rw[a];exact p⟩
  ·refine(ok b u q).stay (fun c v hc r=>k c v ?_ r) (fun c r=>by rw[aj (f c b r)];exact r) fun c j r=>by rw[aj (g c j r)];exact r
   rcases hc with rfl|hc
   ·exact a
   ·rintro rfl;rcases n with z|z
    ·exact f c b hc z
    ·rw[hc]at z;cases z;exact l rfl
end
structure Un(fs ex:Ze)(H H':Hp)(h h':Heap):Prop where
 keep:∀b o,h.get? b=some o->H b=none->b∉fs->b∉ex->h'.get? b=some o
 slot:∀b o,h.get? b=some o->H b=none->b∈fs->b∉ex->∃sl,h'.get? b=some { o with slots:=sl }
 free:∀b o,h.get? b=some o->H b=none->b∉ex->H' b=none
 there:∀b o,h.get? b=some o->b∉ex->∃o',h'.get? b=some o'
 tups:∀b xs,H b=some (.tup xs)->H' b=some (.tup xs)
 frzs:∀b o u,H b=some (.frz o u)->H' b=some (.frz o u)
 tbls:∀b ps,H b=some (.tbl ps)->∃more,H' b=some (.tbl (ps++more))
section
variable{fs fs' ex ex':Ze}{H H1 H2:Hp}{h h1 h2 h':Heap}{a x e:Addr}{o:HO}
theorem Un.any(u:Un fs ex H H1 h h1){b:Addr}{f:Obj}(q:h.get? b=some f)(n:H b=none)(hx:b∉ex):∃i,h1.get? b=some { f with slots:=i }:=by
 by_cases g:b∈fs
 ·exact u.slot b f q n g hx
 ·exact⟨f.slots,u.keep b f q n g hx⟩
theorem Un.kept(k:∀b u,h.get? b=some u->h'.get? b=some u):Un fs ex H H h h' :=
 ⟨fun b f q _ _ _=>k b f q,fun b f q _ _ _=>⟨f.slots,k b f q⟩,fun _ _ _ n _=>n,fun b f q _=>⟨f,k b f q⟩,fun _ _ q=>q,fun _ _ _ q=>q,fun _ g q=>⟨#[],by rw[q];simp⟩⟩
theorem Un.refl:Un fs ex H H h h:=Un.kept fun _ _ q=>q
theorem Un.laid(k:∀b u,h.get? b=some u->h'.get? b=some u)(g:h.objs.size<=a)(f:H a=none):Un fs ex H (upd H a o) h h' where
 keep:=fun b u q _ _ _=>k b u q
 slot:=fun b u q _ _ _=>⟨u.slots,k b u q⟩
 free:=fun b u q n _=>by rw[aj (cK (ju (bg q) g))];exact n
 there:=fun b u q _=>⟨u,k b u q⟩
 tups:=fun b i q=>by rw[aj (ae q f)];exact q
 frzs:=fun b u i q=>by rw[aj (ae q f)];exact q
 tbls:=fun b j q=>⟨#[],by rw[aj (ae q f),q];simp⟩
theorem Un.write(g:Mv (H x))(m:e=x∨H e=some (.own x))(k:∀b u,b≠e->h.get? b=some u->h'.get? b=some u)(i:∃u,h'.get? e=some u):Un fs ex H (upd H x o) h h':=by
 have hx:∀b,H b=none->b≠x:=fun b n z=>by subst z;rw[n]at g;exact g
 have l:∀b,H b=none->b≠e:=fun b n z=>by
  subst z;rcases m with r|r
  ·exact hx b n r
  ·rw[n]at r;cases r
 have j:∀b u,H b=some u->¬Mv (some u)->b≠x:=fun b u q p z=>by subst z;rw[q]at g;exact p g
 refine⟨fun b u q n _ _=>k b u (l b n) q,fun b u q n _ _=>⟨u.slots,k b u (l b n) q⟩,fun b u q n _=>by rw[aj (hx b n)];exact n,fun b u q _=>?_,
  fun b s q=>by rw[aj (j b _ q fun z=>z)];exact q,fun b u s q=>by rw[aj (j b _ q fun z=>z)];exact q,fun b t q=>⟨#[],by rw[aj (j b _ q fun z=>z),q];simp⟩⟩
 by_cases f:b=e
 ·subst f;exact i
 ·exact⟨u,k b u f q⟩
end
def MK(h:Heap)(H:Hp):List Addr:=(nT h.objs.size).filter fun a=>(H a).isSome
def Ab(h:Heap)(H:Hp):Heap:=PySem.W.hideAll h (MK h H)
theorem Gf(h:Heap)(H:Hp):(Ab h H).objs.size=h.objs.size:=PySem.W.hideAll_size _ _
theorem IF{h:Heap}{H:Hp}{b:Addr}{o:Obj}(e:h.get? b=some o)(n:H b=none):(Ab h H).get? b=some o :=
 PySem.W.hideAll_get _ e fun a=>by
  have q:(H b).isSome=true:=(bW.mp a).2;rw[n]at q;simp at q
theorem Kh{h:Heap}{H:Hp}{b:Addr}{o:Obj}(e:(Ab h H).get? b=some o):h.get? b=some o/\H b=none:=by
 have a:h.get? b=some o:=PySem.W.of_hideAll (MK h H) e;refine⟨a,?_⟩;cases q:H b with
 |none=>rfl
 |some x =>
  have f:b∈MK h H:=bW.mpr ⟨List.mem_range.mpr (bg a),by simp[q]⟩;have z:(Ab h H).get? b=none:=PySem.W.hideAll_none (MK h H) f;rw[z]at e;cases e
end L2
namespace L2
open PySem PySem.Spec PyProof.Rows
structure Mod(K:Za)(mg:Str->Option Value)(base:Heap):Prop where
 kin:K.In base
 glob:base.Ns cB mg
 blt:∃mb,base.Ns builtinsNs mb/\∀x:Str,x≠"__name__"->mb x=jT x
 nolimit:base.NoLimit
structure Cx where
 prog:bR
 w:World
 K:Za
 mg:Str->Option Value
 base:Heap
 A:Around
 N:List Str
 s₀:Shared
 H₀:Hp
 env:Env
 outer:List Env
 stack:List Env
 ex:List Addr
 fn:Str->Bool
 calm:Bool
 pn:List (Addr×Obj)
 xe:Value->Shared->Prop
def GS(l:List Env):List Addr:=l.filterMap (·.frame)
abbrev Cx.fs(X:Cx):List Addr:=GS X.outer
def Vis(sc:Scope)(x:Str):Prop:=sc.names.lookup x=some .local∨sc.names.lookup x=some .cell∨sc.names.lookup x=some .free
def Loc(sc:Scope)(x:Str):Prop:=sc.names.lookup x=some .local∨sc.names.lookup x=some .cell
def Look(env:Env)(h:Heap)(m:Str->Option Value)(x:Str)(u:Value):Prop :=
 (env.kindOf x=some .local/\m x=some u)∨((env.kindOf x=some .cell∨env.kindOf x=some .free)/\∃c,env.cells.lookup x=some c/\h.IsCell c (some u))
structure Cx.Ok(X:Cx):Prop where
 mod:Mod X.K X.mg X.base
 kind:X.env.scope.kind=.function
 glob:X.env.globals=cB
 blt:X.env.builtins=builtinsNs
 above:X.s₀.heap.objs.size<=X.env.locals
 inj:∀x y c,X.env.cells.lookup x=some c->X.env.cells.lookup y=some c->x=y
 has:∀x,(X.env.kindOf x=some .cell∨X.env.kindOf x=some .free)->∃c,X.env.cells.lookup x=some c
 cab:∀x c,X.fn x=true->X.env.cells.lookup x=some c->X.s₀.heap.objs.size<=c
 hd:X.calm=true->X.A.handled=none
 frames:X.A.frames=some X.stack
 stk:X.stack=X.outer∨(X.stack=X.env::X.outer/\X.env.frame=some X.env.locals)
 exf:∀b∈X.ex,b≠X.env.locals/\∀x c,X.env.cells.lookup x=some c->c≠b
 bs:∀b o,X.base.get? b=some o->X.s₀.heap.get? b=some o/\X.H₀ b=none
 bsz:X.base.objs.size<=X.s₀.heap.objs.size
 noex:∀b o,X.base.get? b=some o->b∉X.ex
 exfs:∀b∈X.ex,b∉X.fs
 funs:X.s₀.heap.FunFrames X.base X.outer
 frf:∀b∈X.fs,X.H₀ b=none
structure Inv(X:Cx)(J3:Zd)(σ:List (Option V))(H:Hp)(s:Shared):Prop where
 ok:X.Ok
 os:s.os=X.s₀.os
 bare:pP s.gens
 base:Un X.fs X.ex X.H₀ H X.s₀.heap s.heap
 loc:∃m,s.heap.Ns X.env.locals m/\∀(i:Nat) (x:Str) (v:V),X.N[i]?=some x->σ[i]?=some (some v)->Vis X.env.scope x->∃u,RelV v u/\Look X.env s.heap m x u
 cell:∀x c,X.env.cells.lookup x=some c->∃v,s.heap.IsCell c v
 free:H X.env.locals=none
 freeC:∀x c,X.env.cells.lookup x=some c->H c=none
 pin:∀p∈X.pn++J3,s.heap.get? p.1=some p.2/\H p.1=none/\p.1≠X.env.locals/\p.1∉X.fs/\∀v,p.2.data≠.cell v
 hok:mP X.prog X.w X.K H s.heap
 len:σ.length=X.N.length
section
variable{X:Cx}{J3:Zd}{σ:List (Option V)}{H H':Hp}{s:Shared}{h':Heap}
theorem Cx.Ok.nofr(ok:X.Ok){b:Addr}{o:Obj}(e:X.base.get? b=some o):b∉X.fs:=fun a=>by
 have:=(ok.funs.mem a).1;rw[e]at this;cases this
theorem Inv.bs(I:Inv X J3 σ H s):∀b o,X.base.get? b=some o->s.heap.get? b=some o/\H b=none:=fun b o e =>
 ⟨I.base.keep b o (I.ok.bs b o e).1 (I.ok.bs b o e).2 (I.ok.nofr e) (I.ok.noex b o e),I.base.free b o (I.ok.bs b o e).1 (I.ok.bs b o e).2 (I.ok.noex b o e)⟩
theorem Inv.bk(I:Inv X J3 σ H s):∀b o,X.base.get? b=some o->s.heap.get? b=some o:=fun b o e=>(I.bs b o e).1
theorem Inv.mod(I:Inv X J3 σ H s):Mod X.K X.mg X.base:=I.ok.mod
theorem Inv.kIn(I:Inv X J3 σ H s):X.K.In s.heap:=I.ok.mod.kin.keeps I.bk
theorem Inv.lt(I:Inv X J3 σ H s):X.env.locals<s.heap.objs.size:=let⟨_,a,_⟩:=I.loc;a.lt
theorem Inv.sz(I:Inv X J3 σ H s):X.s₀.heap.objs.size<=s.heap.objs.size:=bI I.ok.above (cz I.lt)
theorem Inv.nofs(I:Inv X J3 σ H s){a:Addr}(h:s.heap.objs.size<=a):a∉X.fs:=fun e=>by
 obtain⟨_,o,f,_⟩:=I.ok.funs.mem e;exact absurd (ju (bg f) (bI I.sz h)) (sU _)
theorem Inv.cne(I:Inv X J3 σ H s):∀x c,X.env.cells.lookup x=some c->c≠X.env.locals:=fun x c e z=>by
 obtain⟨v,o,g,h⟩:=I.cell x c e;obtain⟨m,⟨i,j,k,a,f,_⟩,_⟩:=I.loc;rw[z,a]at g;cases g;rw[f]at h;cases h
theorem Inv.funs(I:Inv X J3 σ H s):s.heap.FunFrames X.base X.outer:=by
 have all:∀(l:List Env),(∀b∈GS l,b∈X.fs)->X.s₀.heap.FunFrames X.base l->s.heap.FunFrames X.base l:=by
  intro l
  induction l with
  |nil=>intro _ _;trivial
  |cons h r i =>
   intro g j;obtain⟨k,⟨L,o,hf,m,n,p⟩,q⟩:=j;have a:L∈X.fs:=g L (by unfold GS;rw[List.filterMap_cons,hf];exact dz);obtain⟨t,e⟩:=I.base.slot L o n (I.ok.frf L a) a fun z=>I.ok.exfs L z a;exact⟨k,⟨L,_,hf,m,e,p⟩,i (fun b f=>g b (by unfold GS;rw[List.filterMap_cons,hf];exact gC _ f)) q⟩
 exact all X.outer (fun _ f=>f) I.ok.funs
theorem Inv.stack(I:Inv X J3 σ H s):s.heap.FunFrames X.base X.stack:=by
 rcases I.ok.stk with e|⟨e,hf⟩
 ·rw[e];exact I.funs
 ·rw[e];obtain⟨m,a,_⟩:=I.loc;refine .cons (by rw[I.ok.kind];decide) hf a ?_ I.funs;exact Heap.get?_none_of_le (bI I.ok.bsz I.ok.above)
theorem Inv.stkSub(I:Inv X J3 σ H s):∀b∈GS X.stack,b∈X.env.locals::X.fs:=fun b a=>by
 rcases I.ok.stk with e|⟨e,hf⟩
 ·rw[e]at a;exact gC _ a
 ·rw[e]at a;unfold GS at a;rw[List.filterMap_cons,hf]at a;exact a
theorem Inv.stkFree(I:Inv X J3 σ H s):∀b∈GS X.stack,H b=none:=fun b hb=>by
 rcases dC.mp (I.stkSub b hb)with e|hb
 ·rw[e];exact I.free
 ·obtain⟨_,o,a,_⟩:=I.ok.funs.mem hb;exact I.base.free b o a (I.ok.frf b hb) fun z=>I.ok.exfs b z hb
theorem Inv.step{g':Array GenState}{t':Nat}{d':Drawn}{ch:Ze}(I:Inv X J3 σ H s)
  (a:∀b∈ch,(b∈X.ex∨X.s₀.heap.objs.size<=b)/\b≠X.env.locals/\(∀x c,X.env.cells.lookup x=some c->c≠b)/\∀p∈X.pn++J3,p.1≠b)
  (f:∀b o,b≠X.env.locals->b∉X.fs->b∉ch->s.heap.get? b=some o->H b=none->h'.get? b=some o)
  (t:∀b o,b≠X.env.locals->b∈X.fs->b∉ch->s.heap.get? b=some o->H b=none->∃O,h'.get? b=some { o with slots:=O }) (free:∀b o,b∉ch->s.heap.get? b=some o->H b=none->H' b=none)
  (there:∀b o,b∉ch->s.heap.get? b=some o->∃C,h'.get? b=some C)
  (D:∀b y,H b=some (.tup y)->H' b=some (.tup y)) (E:∀b o u,H b=some (.frz o u)->H' b=some (.frz o u)) (G:∀b N,H b=some (.tbl N)->∃J,H' b=some (.tbl (N++J)))
  (ns:∀m,s.heap.Ns X.env.locals m->h'.Ns X.env.locals m) (Q:mP X.prog X.w X.K H' h') (hg:pP g') :
  Inv X J3 σ H' { s with heap:=h',gens:=g',drawn:=d',toks:=t' }:=by
 have L:∀b o,X.s₀.heap.get? b=some o->b≠X.env.locals:=fun b o e=>cK (ju (bg e) I.ok.above);have h:∀b o,X.s₀.heap.get? b=some o->b∉X.ex->b∉ch:=fun b o e hx A=>by
  rcases(a b A).1 with z|z
  ·exact hx z
  ·exact absurd (ju (bg e) z) (sU _)
 have cellK:∀x c,X.env.cells.lookup x=some c->∀v,s.heap.IsCell c v->h'.IsCell c v:=fun x c e v ⟨o,B,T⟩=>by
  have g:c∉ch:=fun z=>(a c z).2.2.1 x c e rfl;by_cases Y:c∈X.fs
  ·obtain⟨O,q⟩:=t c o (I.cne x c e) Y g B (I.freeC x c e);exact⟨_,q,T⟩
  ·exact⟨o,f c o (I.cne x c e) Y g B (I.freeC x c e),T⟩
 refine⟨I.ok,I.os,hg,⟨fun b o e n A hx=>?_,fun b o e n A hx=>?_,fun b o e n hx=>?_,fun b o e hx=>?_,fun b y e=>D b y (I.base.tups b y e),fun b o y e=>E b o y (I.base.frzs b o y e),fun b N e=>?_⟩,?_,fun x c e=>?_,?_,fun x c e=>?_,fun p hp=>?_,Q,I.len⟩
 ·exact f b o (L b o e) A (h b o e hx) (I.base.keep b o e n A hx) (I.base.free b o e n hx)
 ·obtain⟨O,j⟩:=I.base.slot b o e n A hx;obtain⟨U,M⟩:=t b _ (L b o e) A (h b o e hx) j (I.base.free b o e n hx);exact⟨U,M⟩
 ·obtain⟨C,j⟩:=I.base.there b o e hx;exact free b C (h b o e hx) j (I.base.free b o e n hx)
 ·obtain⟨C,j⟩:=I.base.there b o e hx;exact there b C (h b o e hx) j
 ·obtain⟨m1,j⟩:=I.base.tbls b N e;obtain⟨m2,M⟩:=G b _ j;exact⟨m1++m2,by rw[M,Array.append_assoc]⟩
 ·obtain⟨m,hn,hl⟩:=I.loc;refine⟨m,ns m hn,fun i x v j M e3=>?_⟩;obtain⟨u,r,l⟩:=hl i x v j M e3;refine⟨u,r,?_⟩;rcases l with l|⟨k,c,e,z⟩
  ·exact .inl l
  ·exact .inr ⟨k,c,e,cellK x c e _ z⟩
 ·obtain⟨v,z⟩:=I.cell x c e;exact⟨v,cellK x c e v z⟩
 ·obtain⟨m,⟨o,_,_,B,_⟩,_⟩:=I.loc;exact free _ o (fun z=>(a _ z).2.1 rfl) B I.free
 ·obtain⟨v,o,B,T⟩:=I.cell x c e;exact free c o (fun z=>(a c z).2.2.1 x c e rfl) B (I.freeC x c e)
 ·obtain⟨e,n,ne,nf,d⟩:=I.pin p hp;have g:p.1∉ch:=fun z=>(a p.1 z).2.2.2 p hp rfl;exact⟨f p.1 p.2 ne nf g e n,free p.1 p.2 g e n,ne,nf,d⟩
theorem Inv.un{t':Nat}(I:Inv X J3 σ H s)(u:Un X.fs [] H H' s.heap h')(f:mP X.prog X.w X.K H' h'):Inv X J3 σ H' { s with heap:=h',toks:=t' }:=by
 obtain⟨m,⟨o,q,t,j,r⟩,_⟩:=id I.loc;obtain⟨v,k⟩:=u.any j I.free (by simp);exact I.step (g':=s.gens) (d':=s.drawn) (ch:=[]) (fun _ z=>nomatch z) (fun b o _ g _ e n=>u.keep b o e n g (by simp)) (fun b o _ g _ e n=>u.slot b o e n g (by simp)) (fun b o _ e n=>u.free b o e n (by simp)) (fun b o _ e=>u.there b o e (by simp)) u.tups u.frzs u.tbls (fun x l=>by
  obtain⟨y,h,i,a,p⟩:=l;rw[j]at a;cases a;exact⟨_,h,i,k,p⟩) f I.bare
theorem Inv.call{g':Array GenState}{t':Nat}{d':Drawn}{ch:Ze}(I:Inv X J3 σ H s)(u:Un (GS X.stack) ch H H' s.heap h')(h:mP X.prog X.w X.K H' h')(q:pP g')
  (f:∀b∈ch,(b∈X.ex∨X.s₀.heap.objs.size<=b)/\b≠X.env.locals/\(∀x c,X.env.cells.lookup x=some c->c≠b)/\∀p∈X.pn++J3,p.1≠b) :
  Inv X J3 σ H' { s with heap:=h',gens:=g',drawn:=d',toks:=t' }:=by
 obtain⟨m,⟨o,A,B,l,r⟩,_⟩:=id I.loc;obtain⟨C,i⟩:=u.any l I.free fun z=>(f _ z).2.1 rfl;exact I.step (ch:=ch) f (fun b o i t a e n=>u.keep b o e n (fun z=>(dC.mp (I.stkSub b z)).elim i t) a) (fun b o _ _ a e n=>u.any e n a) (fun b o a e n=>u.free b o e n a) (fun b o a e=>u.there b o e a) u.tups u.frzs u.tbls (fun D v=>by
  obtain⟨E,j,k,g,y⟩:=v;rw[l]at g;cases g;exact⟨_,j,k,i,y⟩) h q
theorem Inv.turned{t':Nat}{it:Addr}(I:Inv X J3 σ H s)(k:∀b o,b≠it->s.heap.get? b=some o->h'.get? b=some o)(h:H it=none)(g:it≠X.env.locals)
  (i:it∈X.ex∨X.s₀.heap.objs.size<=it) (j:∀x c,X.env.cells.lookup x=some c->c≠it) (l:∀p∈X.pn++J3,p.1≠it):Inv X J3 σ H { s with heap:=h',toks:=t' }:=by
 have f:∀b u,H b=some u->b≠it:=fun b u e z=>by rw[z,h]at e;cases e
 refine I.step (g':=s.gens) (d':=s.drawn) (ch:=[it]) (fun b t=>?_) (fun b o _ _ a e _=>k b o (fun z=>a (by simp[z])) e) (fun b o _ _ a e _=>⟨o.slots,k b o (fun z=>a (by simp[z])) e⟩) (fun _ _ _ _ n=>n)
  (fun b o a e=>⟨o,k b o (fun z=>a (by simp[z])) e⟩) (fun _ _ e=>e) (fun _ _ _ e=>e) (fun b C e=>⟨#[],by rw[e];simp⟩) (fun m w=>?_) (fun b u e=>?_) I.bare
 ·have e:b=it:=by simpa using t
  subst e;exact⟨i,g,j,l⟩
 ·obtain⟨o,y,A,B,r⟩:=w;exact⟨o,y,A,k _ o (iO g) B,r⟩
 ·refine(I.hok b u e).stay (fun c v a q=>k c v ?_ q) (fun _ q=>q) fun _ _ q=>q;rcases a with z|z
  ·rw[z];exact f b u e
  ·exact f c _ z
theorem Inv.tok(I:Inv X J3 σ H s)(t:Nat):Inv X J3 σ H { s with toks:=t }:=I.un (h':=s.heap) (t':=t) Un.refl I.hok
theorem Inv.kept{t':Nat}(I:Inv X J3 σ H s)(k:∀b u,s.heap.get? b=some u->h'.get? b=some u):Inv X J3 σ H { s with heap:=h',toks:=t' }:=I.un (Un.kept k) (I.hok.kept k)
theorem Inv.laid{a:Addr}{o:HO}{t':Nat}(I:Inv X J3 σ H s)(k:∀b u,s.heap.get? b=some u->h'.get? b=some u)(e:s.heap.objs.size<=a)(new:cw X.prog X.w X.K (upd H a o) h' a o):
  Inv X J3 σ (upd H a o) { s with heap:=h',toks:=t' }:=I.un (Un.laid k e (I.hok.fresh e)) (I.hok.laid k e new)
theorem Inv.write{x e:Addr}{o:HO}{t':Nat}(I:Inv X J3 σ H s)(f:Mv (H x))(g:e=x∨H e=some (.own x))(k:∀b u,b≠e->s.heap.get? b=some u->h'.get? b=some u)(a:∃u,h'.get? e=some u)
  (new:cw X.prog X.w X.K (upd H x o) h' x o):Inv X J3 σ (upd H x o) { s with heap:=h',toks:=t' }:=I.un (Un.write f g k a) (I.hok.write f g k a new)
theorem Inv.weak{σ':List (Option V)}(I:Inv X J3 σ H s)(e:σ'.length=σ.length)(w:∀(i:Nat) v,σ'[i]?=some (some v)->σ[i]?=some (some v)):Inv X J3 σ' H s :=
 ⟨I.ok,I.os,I.bare,I.base,let⟨m,f,a⟩:=I.loc;⟨m,f,fun i x v g h j=>a i x v g (w i v h) j⟩,I.cell,I.free,I.freeC,I.pin,I.hok,e.trans I.len⟩
theorem Inv.pins_of{a:Zd}(I:Inv X J3 σ H s)(h:∀p∈a,s.heap.get? p.1=some p.2/\H p.1=none/\p.1≠X.env.locals/\p.1∉X.fs/\∀v,p.2.data≠.cell v):Inv X a σ H s :=
 ⟨I.ok,I.os,I.bare,I.base,I.loc,I.cell,I.free,I.freeC,fun p e=>(bf.mp e).elim (fun z=>I.pin p (cu _ z)) (h p),I.hok,I.len⟩
theorem Br{N:Zb}(e:N.Nodup){i j:Nat}{x:Str}(a:N[i]?=some x)(b:N[j]?=some x):i=j:=by
 obtain⟨h,f⟩:=bM.mp a;obtain⟨k,g⟩:=bM.mp b;exact(List.getElem_inj e).mp (f.trans g.symm)
theorem xm{M:Model}{A:Around}{E:Zc}{i:Nat}{x:Str}{v:V}{u:Value}{Q:Unit->Shared->Prop}(I:Inv X J3 σ H s)(hN:X.N.Nodup)(hi:X.N[i]?=some x)(hx:Loc X.env.scope x)(r:RelV v u)
  (h:∀s',Inv X J3 (σ.set i (some v)) H s'->(∃a,iN a s.heap s'.heap/\(a=X.env.locals∨X.env.cells.lookup x=some a))->Q () s') (hf:X.fn x=true∨X.env.scope.names.lookup x=some .local:=by first|exact .inl rfl|exact .inr rfl|assumption):wpAny M A (storeName X.env x u) Q E s:=by
 obtain⟨m,hn,hl⟩:=id I.loc;have G:(X.env.scope.kind==.class || (X.env.scope.kind==.module && X.env.locals != X.env.globals))=false:=by rw[I.ok.kind];rfl
 have hiσ:i<σ.length:=by rw[I.len];exact(bM.mp hi).1
 have cne:=I.cne;have tracked:∀{a:Addr}{h':Heap},(∃o,s.heap.get? a=some o/\H a=none)->iN a s.heap h'->mP X.prog X.w X.K H h':=fun{a h'} ha f b ob e=>by
  obtain⟨_,_,l⟩:=ha;refine(I.hok b ob e).stay (fun c U hc q=>(f.2 c ?_).trans q) (fun _ q=>q) fun _ _ q=>q;rintro rfl;rcases hc with rfl|hc
  ·rw[l]at e;cases e
  ·rw[l]at hc;cases hc
 rcases hx with hk|hk
 ·refine wpAny_storeName_local hk hn (fun h' al f=>?_) G;obtain⟨oL,_,_,an,_⟩:=id hn;refine h _ ⟨I.ok,I.os,I.bare,⟨fun b o e n B hx=>?_,fun b o e n B hx=>?_,I.base.free,fun b o e hx=>?_,I.base.tups,I.base.frzs,I.base.tbls⟩,⟨_,al,fun j y v' g t e3=>?_⟩,fun y c e=>?_,I.free,I.freeC,fun p hp=>?_,tracked ⟨oL,an,I.free⟩ f,by simpa using I.len⟩ ⟨_,f,.inl rfl⟩
  ·exact(f.2 b (cK (ju (bg e) I.ok.above))).trans (I.base.keep b o e n B hx)
  ·obtain⟨sl,g⟩:=I.base.slot b o e n B hx;exact⟨sl,(f.2 b (cK (ju (bg e) I.ok.above))).trans g⟩
  ·obtain⟨o',g⟩:=I.base.there b o e hx;exact⟨o',(f.2 b (cK (ju (bg e) I.ok.above))).trans g⟩
  ·by_cases C:j=i
   ·subst C;rw[hi]at g;cases g;rw[List.getElem?_set_self hiσ]at t;cases t;exact⟨u,r,.inl ⟨hk,by simp⟩⟩
   ·rw[List.getElem?_set_ne (iO C)]at t;obtain⟨u',r',q⟩:=hl j y v' g t e3;refine⟨u',r',?_⟩;rcases q with⟨k,e⟩|⟨k,c,e,z⟩
    ·refine .inl ⟨k,?_⟩;have:y≠x:=fun e=>C (Br hN g (e▸hi));simp[this,e]
    ·exact .inr ⟨k,c,e,z.sameBut f (cne y c e)⟩
  ·obtain⟨U,z⟩:=I.cell y c e;exact⟨U,z.sameBut f (cne y c e)⟩
  ·obtain⟨e,n,ne,nf,d⟩:=I.pin p hp;exact⟨(f.2 p.1 ne).trans e,n,ne,nf,d⟩
 ·have D:X.fn x=true:=by
   rcases hf with z|z
   ·exact z
   ·rw[z]at hk;cases hk
  obtain⟨c,hc⟩:=I.ok.has x (.inl hk);obtain⟨U,z⟩:=I.cell x c hc;refine wpAny_storeName_cell I.ok.kind hk hc z (fun h' J f=>?_);obtain⟨oc,L,O⟩:=id z;refine h { s with heap:=h' } ⟨I.ok,I.os,I.bare,⟨fun b o e n B hx=>?_,fun b o e n B hx=>?_,I.base.free,fun b o e hx=>?_,I.base.tups,I.base.frzs,I.base.tbls⟩,⟨m,hn.sameBut f (iO (cne x c hc)),fun j y v' g t e3=>?_⟩,fun y Y e=>?_,I.free,I.freeC,fun p hp=>?_,tracked ⟨oc,L,I.freeC x c hc⟩ f,by simpa using I.len⟩ ⟨c,f,.inr hc⟩
  ·exact(f.2 b (cK (ju (bg e) (I.ok.cab x c D hc)))).trans (I.base.keep b o e n B hx)
  ·obtain⟨sl,g⟩:=I.base.slot b o e n B hx;exact⟨sl,(f.2 b (cK (ju (bg e) (I.ok.cab x c D hc)))).trans g⟩
  ·obtain⟨o',g⟩:=I.base.there b o e hx;exact⟨o',(f.2 b (cK (ju (bg e) (I.ok.cab x c D hc)))).trans g⟩
  ·by_cases C:j=i
   ·subst C;rw[hi]at g;cases g;rw[List.getElem?_set_self hiσ]at t;cases t;exact⟨u,r,.inr ⟨.inl hk,c,hc,J⟩⟩
   ·rw[List.getElem?_set_ne (iO C)]at t;obtain⟨u',r',q⟩:=hl j y v' g t e3;refine⟨u',r',?_⟩;rcases q with q|⟨k,Y,e,z'⟩
    ·exact .inl q
    ·refine .inr ⟨k,Y,e,z'.sameBut f ?_⟩;rintro rfl;exact C (Br hN g (I.ok.inj _ _ _ e hc▸hi))
  ·by_cases T:Y=c
   ·subst T;exact⟨_,J⟩
   ·obtain⟨w2,z2⟩:=I.cell y Y e;exact⟨w2,z2.sameBut f T⟩
  ·obtain⟨e,n,ne,nf,d⟩:=I.pin p hp;refine⟨(f.2 p.1 ?_).trans e,n,ne,nf,d⟩;intro q;rw[q,L]at e;have q':oc=p.2:=fW e;exact d U (by rw[<-q'];exact O)
theorem A_{M:Model}{A:Around}{E:Zc}{i:Nat}{x:Str}{v:V}{u:Value}{Q:Unit->Shared->Prop}(I:Inv X J3 σ H s)(e:X.N.Nodup)(hi:X.N[i]?=some x)(hx:Loc X.env.scope x)(r:RelV v u)
  (h:∀a,Inv X J3 (σ.set i (some v)) H a->Q () a) (hf:X.fn x=true∨X.env.scope.names.lookup x=some .local:=by first|exact .inl rfl|exact .inr rfl|assumption):wpAny M A (storeName X.env x u) Q E s :=
 xm I e hi hx r (fun a f _=>h a f) hf
theorem Inv.call'{a:Shared}{h:Ze}(I:Inv X J3 σ H s)(i:a.os=s.os)(u:Un (GS X.stack) h H H' s.heap a.heap)(f:mP X.prog X.w X.K H' a.heap)(j:pP a.gens)
  (g:∀b∈h,(b∈X.ex∨X.s₀.heap.objs.size<=b)/\b≠X.env.locals/\(∀x c,X.env.cells.lookup x=some c->c≠b)/\∀p∈X.pn++J3,p.1≠b):Inv X J3 σ H' a:=by
 obtain⟨h',k,l,m,n⟩:=a;have e:n=s.os:=i;subst e;exact I.call (g':=k) (t':=m) (d':=l) u f j g
end
abbrev XK:=Value->Option Addr->Hp->Prop
abbrev St:=List (Option V)
abbrev VK:=V->Hp->Prop
abbrev TE:=St->Hp->VK->Prop
abbrev TT:=St->Hp->(Bool->Hp->Prop)->Prop
abbrev TA:=St->Hp->(List V->Hp->Prop)->Prop
structure pF where
 nx:St->Hp->Prop
 rt:VK
 bk:St->Hp->Prop:=fun _ _=>False
 ct:St->Hp->Prop:=fun _ _=>False
abbrev bN(Q:VK):pF:={ nx:=fun _ H=>Q .non H,rt:=Q }
abbrev TS:=pF->St->Hp->Prop
def EP(X:Cx)(J3:Zd)(σ:St)(Q:VK)(u:Value)(s':Shared):Prop:=∃v H',Inv X J3 σ H' s'/\RelV v u/\Q v H'
def TP(X:Cx)(J3:Zd)(σ:St)(Q:Bool->Hp->Prop)(b:Bool)(s':Shared):Prop:=∃H',Inv X J3 σ H' s'/\Q b H'
def AP(X:Cx)(J3:Zd)(σ:St)(Q:List V->Hp->Prop)(us:Zf)(s':Shared):Prop:=∃vs H',Inv X J3 σ H' s'/\bA vs us/\Q vs H'
def SP(X:Cx)(J3:Zd)(D:pF)(f:Flow)(s':Shared):Prop :=
 match f with
 |.next=>∃σ' H',Inv X J3 σ' H' s'/\D.nx σ' H'
 |.brk=>∃σ' H',Inv X J3 σ' H' s'/\D.bk σ' H'
 |.cont=>∃σ' H',Inv X J3 σ' H' s'/\D.ct σ' H'
 |.ret u=>∃v σ' H',Inv X J3 σ' H' s'/\RelV v u/\D.rt v H'
def PE(X:Cx)(e:Expr)(t:TE):Prop :=
 ∀(J3:Zd) (s:Shared) (σ:St) (H:Hp) (Q:VK),Inv X J3 σ H s->t σ H Q->wpAny (model X.prog X.w) X.A (eval e X.env) (EP X J3 σ Q) X.xe s
def PT(X:Cx)(e:Expr)(t:TT):Prop :=
 ∀(J3:Zd) (s:Shared) (σ:St) (H:Hp) (Q:Bool->Hp->Prop),Inv X J3 σ H s->t σ H Q->wpAny (model X.prog X.w) X.A (isTrue e X.env (eval e X.env)) (TP X J3 σ Q) X.xe s
def PW(X:Cx)(e:Expr)(t:TT):Prop :=
 ∀(whole:Sem Value) (J3:Zd) (s:Shared) (σ:St) (H:Hp) (Q:Bool->Hp->Prop),Inv X J3 σ H s->t σ H Q->wpAny (model X.prog X.w) X.A (isTrue e X.env whole) (TP X J3 σ Q) X.xe s
theorem PW.pt{X:Cx}{e:Expr}{t:TT}(h:PW X e t):PT X e t:=h _
def PA(X:Cx)(es:List Expr)(t:TA):Prop :=
 ∀(pos:Pos) (J3:Zd) (s:Shared) (σ:St) (H:Hp) (Q:List V->Hp->Prop),Inv X J3 σ H s->t σ H Q->wpAny (model X.prog X.w) X.A (spliced (backTo pos (a_ es X.env))) (AP X J3 σ Q) X.xe s
def PS(X:Cx)(st:Stmt)(t:TS):Prop :=
 ∀(J3:Zd) (s:Shared) (σ:St) (H:Hp) (D:pF),Inv X J3 σ H s->t D σ H->wpAny (model X.prog X.w) X.A (exec st X.env) (SP X J3 D) X.xe s
def Cd(X:Cx)(st:List Stmt)(t:TS):Prop :=
 ∀(J3:Zd) (s:Shared) (σ:St) (H:Hp) (D:pF),Inv X J3 σ H s->t D σ H->wpAny (model X.prog X.w) X.A (execs st X.env) (SP X J3 D) X.xe s
theorem du{α:Type}{t:Sem α}{Q e:α->Shared->Prop}{M:Model}{A:Around}{E:Zc}{s:Shared}(h:wpAny M A t Q E s)(f:∀a s,Q a s->e a s):wpAny M A t e E s:=pQ h f fun _ _ x=>x
end L2
namespace L2
open PySem PySem.Spec PyProof.Rows
section
variable{X:Cx}
def oS(i:Nat):TE:=fun σ H Q=>∃v,σ[i]?=some (some v)/\Q v H
abbrev V0:TE:=oS 0
abbrev V1:TE:=oS 1
abbrev V2:TE:=oS 2
abbrev V3:TE:=oS 3
abbrev V4:TE:=oS 4
abbrev V5:TE:=oS 5
abbrev V6:TE:=oS 6
abbrev V7:TE:=oS 7
abbrev V8:TE:=oS 8
abbrev V9:TE:=oS 9
abbrev GB:TE:=oS 10
abbrev V11:TE:=oS 11
abbrev V12:TE:=oS 12
def tC(v:V):TE:=fun _ H Q=>Q v H
theorem Lq{i:Nat}{x:Str}{g:Pos}(o:X.N[i]?=some x)(p:Vis X.env.scope x)(j:(x==("__debug__":Str))=false:=by decide)(k:(x==("__classdict__":Str))=false:=by decide):PE X (.Name x g) (oS i):=by
 intro J3 s σ H Q I h;obtain⟨v,e,h⟩:=h;obtain⟨m,q,t⟩:=I.loc;obtain⟨u,r,l⟩:=t i x v o e p;have f:EP X J3 σ Q u s:=⟨v,H,I,r,h⟩;rcases l with⟨hk,w⟩|⟨hk,c,n,a⟩
 ·exact wpAny_Name (wpAny_loadName_local I.ok.kind hk q w f) j
 ·rcases hk with hk|hk
  ·exact wpAny_Name (wpAny_loadName_cell I.ok.kind hk n a f) j
  ·exact wpAny_Name (wpAny_loadName_free I.ok.kind hk n a f k) j
theorem ag{i j a}:PE X (.Constant (.int i) j a) (tC (.int i)):=fun _ _ _ H _ I h=>wpAny_Constant_int ⟨.int i,H,I.tok _,⟨_,rfl⟩,h⟩
theorem fP{b j a}:PE X (.Constant (.bool b) j a) (tC (.bl b)):=fun _ _ _ H _ I h=>Constant_bool ⟨.bl b,H,I,rfl,h⟩
theorem sj{j a}:PE X (.Constant .none j a) (tC .non):=fun _ _ _ H _ I h=>Constant_none ⟨.non,H,I,rfl,h⟩
theorem bS{x j a}:PE X (.Constant (.str x) j a) (tC (.str x)):=fun _ _ _ H _ I h=>Calls.Constant_str ⟨.str x,H,I.tok _,⟨_,rfl⟩,h⟩
def Gl(X:Cx)(x:Str):Prop:=X.env.kindOf x=some .globalImplicit
theorem zV{E:Zc}{e:Zd}{s:Shared}{σ:St}{H:Hp}{x:Str}{u:Value}{a:Pos}{Q:Zc}(I:Inv X e σ H s)(f:Gl X x)(g:X.mg x=some u)(h:Q u s)
  (i:(x==("__debug__":Str))=false:=by decide):wpAny (model X.prog X.w) X.A (eval (.Name x a) X.env) Q E s :=
 Calls.Name_function_global I.ok.kind f (Calls.loadGlobal_global (by rw[I.ok.glob];exact I.mod.glob.keeps I.bk) g h) i
theorem o6{E:Zc}{e:Zd}{s:Shared}{σ:St}{H:Hp}{x:Str}{u:Value}{a:Pos}{Q:Zc}(I:Inv X e σ H s)(f:Gl X x)(g:X.mg x=none)(i:jT x=some u)(h:Q u s)
  (j:x≠"__name__":=by decide) (k:(x==("__debug__":Str))=false:=by decide):wpAny (model X.prog X.w) X.A (eval (.Name x a) X.env) Q E s:=by
 obtain⟨n,l,m⟩:=I.mod.blt;exact Calls.Name_function_global I.ok.kind f (Calls.loadGlobal_builtin (by rw[I.ok.glob];exact I.mod.glob.keeps I.bk) g (by rw[I.ok.blt];exact l.keeps I.bk) ((m x j).trans i) h) k
theorem Kb{x:Str}{v:V}{u:Value}{a:Pos}(e:Gl X x)(f:X.mg x=some u)(r:RelV v u)(g:(x==("__debug__":Str))=false:=by decide):PE X (.Name x a) (tC v) :=
 fun _ _ _ H _ I h=>zV I e f ⟨v,H,I,r,h⟩ g
theorem qI{x:Str}{v:V}{u:Value}{a:Pos}(e:Gl X x)(f:X.mg x=none)(g:jT x=some u)(r:RelV v u)(i:x≠"__name__":=by decide)(j:(x==("__debug__":Str))=false:=by decide):PE X (.Name x a) (tC v) :=
 fun _ _ _ H _ I h=>o6 I e f g ⟨v,H,I,r,h⟩ i j
variable{a b:Expr}{ta tb:TE}{pos:Pos}
def PC(X:Cx)(op:CmpOp)(a b:Expr)(t:TE):Prop :=
 ∀(J3:Zd) (s:Shared) (σ:St) (H:Hp) (Q:VK),Inv X J3 σ H s->t σ H Q ->
  wpAny (model X.prog X.w) X.A (eval a X.env) (fun v s₁=>wpAny (model X.prog X.w) X.A (eval b X.env) (fun u s₂=>wpAny (model X.prog X.w) X.A (fu op v u) (EP X J3 σ Q) X.xe s₂) X.xe s₁) X.xe s
theorem Bs(b:Expr){e:CmpOp}(h:e≠.In)(f:e≠.NotIn):lX e b=false:=by
 have g:(e==CmpOp.In)=false:=by cases e<;>first|rfl|exact absurd rfl h
 have i:(e==CmpOp.NotIn)=false:=by cases e<;>first|rfl|exact absurd rfl f
 cases b<;>simp[lX,g,i]
def Ho(ta:TE):TE:=fun σ H Q=>ta σ H fun x H1=>Q (.bl (decide (x=.non))) H1
def Hk(ta:TE):TE:=fun σ H Q=>ta σ H fun x H1=>Q (.bl (!decide (x=.non))) H1
theorem RelV.none_iff{x:V}{v:Value}(r:RelV x v):(v==Value.none)=decide (x=.non):=by
 cases x with
 |non=>cases r;rfl
 |bl _=>cases r;rfl
 |int _=>obtain⟨t,rfl⟩:=r;rfl
 |str _=>obtain⟨t,rfl⟩:=r;rfl
 |byt _=>obtain⟨t,rfl⟩:=r;rfl
 |flt _=>obtain⟨t,rfl⟩:=r;rfl
 |ref _=>cases r;rfl
 |ty _=>cases r;rfl
theorem zP{j e}(g:PE X a ta):PC X .Is a (.Constant .none j e) (Ho ta):=by
 intro i s σ H Q I h;refine du (g i s σ H _ I h) fun v o f=>?_;obtain⟨x,k,l,m,n⟩:=f;exact Constant_none (is_none_gen ⟨.bl _,k,l,by rw[m.none_iff];rfl,n⟩)
theorem Ex{j e}(g:PE X a ta):PC X .IsNot a (.Constant .none j e) (Hk ta):=by
 intro i s σ H Q I h;refine du (g i s σ H _ I h) fun v o f=>?_;obtain⟨x,k,l,m,n⟩:=f;exact Constant_none (isnot_none_gen ⟨.bl _,k,l,by rw[m.none_iff];rfl,n⟩)
def tB(t:TE):TT:=fun σ H Q=>t σ H fun x H1=>∃c,x=.bl c/\Q c H1
theorem C8{e:CmpOp}{t:TE}(h:PC X e a b t)(f:lX e b=false:=by first|exact Bs _ (by decide) (by decide)|rfl):PE X (.Compare a [e] [b] pos) t:=fun g s σ H Q I i=>wpAny_Compare1 (h g s σ H Q I i) f
theorem ik{e:CmpOp}{t:TE}(h:PC X e a b t)(f:lX e b=false:=by first|exact Bs _ (by decide) (by decide)|rfl):PT X (.Compare a [e] [b] pos) (tB t):=by
 intro i s σ H Q I j;refine wpAny_isTrue_Compare1 (du (h i s σ H _ I j) fun v p f=>du f fun u r k=>du k fun c w g=>?_) f;obtain⟨x,l,m,n,o⟩:=g;obtain⟨d,rfl,q⟩:=o;cases n;exact sW ⟨l,m,q⟩
theorem ei{e:Expr}{t:TE}(h:PE X e t)(g:∀whole,isTrue e X.env whole=(do let v <- whole;sT e.pos;lV [v] (truthy v)):=by intro _;rfl):PT X e (tB t):=by
 intro i s σ H Q I j;refine isTrue_plain (du (h i s σ H _ I j) fun v o f=>?_) (g _);obtain⟨x,k,l,m,n⟩:=f;obtain⟨d,rfl,q⟩:=n;cases m;exact sW ⟨k,l,q⟩
variable{tA tB':TT}{rest:List Expr}
def nQ(t u:TT):TT:=fun σ H Q=>t σ H fun c H1=>if c=true then u σ H1 Q else Q false H1
def Cy(t u:TT):TT:=fun σ H Q=>t σ H fun c H1=>if c=true then Q true H1 else u σ H1 Q
def rW(t:TT):TT:=fun σ H Q=>t σ H fun c H1=>Q (!c) H1
theorem gS(f:PT X a tA):PW X (.BoolOp .And [a] pos) tA:=by
 intro i g s σ H Q I h;refine isTrue_and (du (f g s σ H Q I h) fun c j e=>?_);cases c with
 |true=>exact isTrue_and_nil e
 |false=>exact e
theorem jE(f:PT X a tA):PW X (.BoolOp .Or [a] pos) tA:=by
 intro i g s σ H Q I h;refine isTrue_or (du (f g s σ H Q I h) fun c j e=>?_);cases c with
 |false=>exact isTrue_or_nil e
 |true=>exact e
theorem ij(k:PT X a tA)(l:PW X (.BoolOp .And (b::rest) pos) tB'):PW X (.BoolOp .And (a::b::rest) pos) (nQ tA tB'):=by
 intro m f s σ H Q I h;refine isTrue_and (du (k f s σ H _ I h) fun c n e=>?_);obtain⟨g,i,j⟩:=e;cases c with
 |true=>exact l m f n σ g Q i j
 |false=>exact⟨g,i,j⟩
theorem j1(k:PT X a tA)(l:PW X (.BoolOp .Or (b::rest) pos) tB'):PW X (.BoolOp .Or (a::b::rest) pos) (Cy tA tB'):=by
 intro m f s σ H Q I h;refine isTrue_or (du (k f s σ H _ I h) fun c n e=>?_);obtain⟨g,i,j⟩:=e;cases c with
 |true=>exact⟨g,i,j⟩
 |false=>exact l m f n σ g Q i j
theorem i6(e:PT X a tA):PT X (.UnaryOp .Not a pos) (rW tA):=by
 intro f s σ H Q I h;exact isTrue_not (e f s σ H (fun c g=>Q (!c) g) I h)
def p8(ta tb:TE):TE:=fun σ H Q=>ta σ H fun x H1=>∃c,x=.bl c/\if c=true then tb σ H1 Q else Q (.bl false) H1
def KN(ta:TE):TE:=fun σ H Q=>ta σ H fun x H1=>∃c,x=.bl c/\Q (.bl (!c)) H1
theorem si{e}{t:TE}(h:PE X a t):PE X (.BoolOp e [a] pos) t:=fun f s σ H Q I g=>BoolOp_one (h f s σ H Q I g)
theorem mG(k:PE X a ta)(l:PE X (.BoolOp .And (b::rest) pos) tb):PE X (.BoolOp .And (a::b::rest) pos) (p8 ta tb):=by
 intro g s σ H Q I h;refine BoolOp_and (du (k g s σ H _ I h) fun v m f=>?_);obtain⟨x,i,j,n,e⟩:=f;obtain⟨c,rfl,e⟩:=e;cases n;refine sW ?_;cases c with
 |true=>exact l g m σ i Q j e
 |false=>exact⟨.bl false,i,j,rfl,e⟩
theorem Ls(g:PE X a ta):PE X (.UnaryOp .Not a pos) (KN ta):=by
 intro i s σ H Q I h;refine UnaryOp_ (du (g i s σ H _ I h) fun v m e=>?_);obtain⟨x,j,k,l,f⟩:=e;obtain⟨c,rfl,f⟩:=f;cases l;exact not_of (sW ⟨.bl (!c),j,k,rfl,f⟩)
def tIf(t:TT)(ta tb:TE):TE:=fun σ H Q=>t σ H fun c H1=>if c=true then ta σ H1 Q else tb σ H1 Q
theorem Ik{c:Expr}(l:PT X c tA)(m:PE X a ta)(n:PE X b tb):PE X (.IfExp c a b pos) (tIf tA ta tb):=by
 intro e s σ H Q I h;refine wpAny_IfExp (du (l e s σ H _ I h) fun d g f=>?_);obtain⟨i,j,k⟩:=f;cases d with
 |true=>exact m e g σ i Q j k
 |false=>exact n e g σ i Q j k
end
end L2
namespace L2
open PySem PySem.Spec PyProof.Rows
def ay(K:Za)(H:Hp)(a:Addr)(xs:List V):Prop :=
 Rd H a (.lst xs) ∨
  ∃(o:Obj) (its:Array Value) (n:Nat),K.lookup a=some o/\o.cls=.type "list"/\o.dict=none/\o.data=.seq its n/\its.size<=ak/\bA xs its.toList
def br(K:Za)(H:Hp)(a:Addr)(xs:List V):Prop :=
 Rd H a (.tup xs) ∨
  ∃(o:Obj) (its:Array Value) (n:Nat),K.lookup a=some o/\o.cls=.type "tuple"/\o.data=.seq its n/\its.size<=ak/\bA xs its.toList
def absV:Value->Option V
 |.none=>some .non
 |.bool b=>some (.bl b)
 |.int i _=>some (.int i)
 |.str x _=>some (.str x)
 |.bytes b _=>some (.byt b)
 |.float b _=>some (.flt b)
 |.ref a=>some (.ref a)
 |.type n=>some (.ty n)
 |_=>none
theorem RelV.abs{x:V}{u:Value}(r:RelV x u):absV u=some x:=by
 cases x with
 |non=>cases r;rfl
 |bl _=>cases r;rfl
 |int _=>obtain⟨t,rfl⟩:=r;rfl
 |str _=>obtain⟨t,rfl⟩:=r;rfl
 |byt _=>obtain⟨t,rfl⟩:=r;rfl
 |flt _=>obtain⟨t,rfl⟩:=r;rfl
 |ref _=>cases r;rfl
 |ty _=>cases r;rfl
theorem RelV.inj{x y:V}{u:Value}(r:RelV x u)(q:RelV y u):x=y:=fW (r.abs.symm.trans q.abs)
theorem bA.inj{e a:List V}{f:Zf}(h:bA e f)(g:bA a f):e=a:=by
 induction h generalizing a with
 |nil=>cases g;rfl
 |cons r _ i =>
  cases g with
  |cons j k=>rw[r.inj j,i k]
section
variable{X:Cx}{J3:Zd}{σ:St}{H:Hp}{s:Shared}{a:Addr}{xs ys:List V}
theorem ay.of{K:Za}(h:H a=some (.lst xs)):ay K H a xs:=.inl (.inl h)
theorem br.of{K:Za}(h:H a=some (.tup xs)):br K H a xs:=.inl (.inl h)
theorem Inv.list(I:Inv X J3 σ H s)(h:ay X.K H a xs):∃f:List Value,bA xs f/\PlainL s.heap a f.toArray/\xs.length<=ak:=by
 rcases h with h|⟨o,f,n,g,i,j,k,l,r⟩
 ·obtain⟨z,f,n,r,e⟩:=h.ok I.hok;exact⟨f,r,⟨_,n,e,rfl,rfl,rfl⟩,z⟩
 ·refine⟨f.toList,r,⟨o,n,I.kIn a o g,i,j,by simpa using k⟩,?_⟩;have e:=r.length;simp only[md]at e;omega
theorem Inv.tuple(I:Inv X J3 σ H s)(h:br X.K H a xs):∃f:List Value,bA xs f/\IsTup s.heap a f.toArray/\xs.length<=ak:=by
 rcases h with h|⟨o,f,n,g,i,j,k,r⟩
 ·obtain⟨z,f,r,p⟩:=h.ok I.hok;exact⟨f,r,p,z⟩
 ·refine⟨f.toList,r,⟨o,I.kIn a o g,i,n,by simpa using j⟩,?_⟩;have e:=r.length;simp only[md]at e;omega
theorem Inv.list_inj(I:Inv X J3 σ H s)(h:ay X.K H a xs)(k:ay X.K H a ys):xs=ys:=by
 obtain⟨g,r,⟨o,n,e,_,_,d⟩,_⟩:=I.list h;obtain⟨f,l,⟨p,q,i,_,_,j⟩,_⟩:=I.list k;rw[e]at i;cases i;rw[d]at j;injection j with m _;have:g=f:=by simpa using congrArg Array.toList m
 subst this;exact r.inj l
theorem Inv.tuple_inj(I:Inv X J3 σ H s)(h:br X.K H a xs)(k:br X.K H a ys):xs=ys:=by
 obtain⟨g,r,⟨o,e,_,n,d⟩,_⟩:=I.tuple h;obtain⟨f,l,⟨p,i,_,q,j⟩,_⟩:=I.tuple k;rw[e]at i;cases i;rw[d]at j;injection j with m _;have:g=f:=by simpa using congrArg Array.toList m
 subst this;exact r.inj l
end
abbrev Cx.wish(X:Cx)(E:Zc):Cx:={ X with xe:=E }
abbrev Cx.nox(X:Cx):Cx:=X.wish fun _ _=>False
theorem Cx.Ok.wish{X:Cx}(ok:X.Ok)(E:Zc):(X.wish E).Ok :=
 ⟨ok.mod,ok.kind,ok.glob,ok.blt,ok.above,ok.inj,ok.has,ok.cab,ok.hd,ok.frames,ok.stk,ok.exf,ok.bs,ok.bsz,ok.noex,ok.exfs,ok.funs,ok.frf⟩
theorem Cx.Ok.unwish{X:Cx}{E:Zc}(ok:(X.wish E).Ok):X.Ok :=
 ⟨ok.mod,ok.kind,ok.glob,ok.blt,ok.above,ok.inj,ok.has,ok.cab,ok.hd,ok.frames,ok.stk,ok.exf,ok.bs,ok.bsz,ok.noex,ok.exfs,ok.funs,ok.frf⟩
section
variable{X:Cx}{J3:Zd}{σ:St}{H:Hp}{s:Shared}{E:Zc}
theorem Inv.wish(I:Inv X J3 σ H s)(E:Zc):Inv (X.wish E) J3 σ H s:=⟨I.ok.wish E,I.os,I.bare,I.base,I.loc,I.cell,I.free,I.freeC,I.pin,I.hok,I.len⟩
theorem Inv.unwish(I:Inv (X.wish E) J3 σ H s):Inv X J3 σ H s:=⟨I.ok.unwish,I.os,I.bare,I.base,I.loc,I.cell,I.free,I.freeC,I.pin,I.hok,I.len⟩
theorem SP.unwish{D:pF}{f:Flow}{e:Shared}(h:SP (X.wish E) J3 D f e):SP X J3 D f e:=by
 cases f with
 |next=>obtain⟨σ',a,I,q⟩:=h;exact⟨σ',a,I.unwish,q⟩
 |brk=>obtain⟨σ',a,I,q⟩:=h;exact⟨σ',a,I.unwish,q⟩
 |cont=>obtain⟨σ',a,I,q⟩:=h;exact⟨σ',a,I.unwish,q⟩
 |ret u=>obtain⟨v,σ',a,I,r,q⟩:=h;exact⟨v,σ',a,I.unwish,r,q⟩
theorem Cd.nox{st:List Stmt}{t:TS}(h:Cd X.nox st t):Cd X st t:=fun J3 s σ H D I a =>
 pQ (h J3 s σ H D (I.wish _) a) (fun _ _ q=>q.unwish) fun _ _ z=>kz z
end
section
variable{X:Cx}{st:Stmt}{rest:List Stmt}{t u:TS}{e:Expr}{te:TE}{pos:Pos}
def bB:TS:=fun D σ H=>D.nx σ H
def au(t u:TS):TS:=fun D σ H=>t { D with nx:=u D } σ H
theorem aJ:Cd X [] bB:=fun _ _ σ H _ I h=>Eb ⟨σ,H,I,h⟩
theorem ac(g:PS X st t)(i:Cd X rest u):Cd X (st::rest) (au t u):=by
 intro a s σ H D I h;refine wpAny_execs_cons (du (g a s σ H { D with nx:=u D } I h) fun f j q=>?_);cases f with
 |next =>
  obtain⟨σ',k,l,q⟩:=q;exact i a j σ' k D l q
 |ret v=>exact q
 |brk=>exact q
 |cont=>exact q
theorem af(a:PS X st t):Cd X [st] t:=by
 intro g s σ H D I h;refine wpAny_execs_cons (du (a g s σ H D I h) fun f i q=>?_);cases f with
 |next=>exact Eb q
 |ret v=>exact q
 |brk=>exact q
 |cont=>exact q
theorem Inv.quiet{a:Zd}{σ:St}{H:Hp}{s:Shared}(I:Inv X a σ H s):interactive X.env=false:=by simp[interactive,I.ok.kind]
def cM(te:TE):TS:=fun D σ H=>te σ H fun _ H1=>D.nx σ H1
theorem bv(a:PE X e te)(f:uD e none pos.line X.env=pure false:=by rfl):PS X (.Expr e pos) (cM te):=by
 intro g s σ H D I h;exact wpAny_Expr_any (du (a g s σ H _ I h) fun v l ⟨x,i,j,m,k⟩=>⟨σ,i,j,k⟩) I.quiet f
def bo(te:TE):TS:=fun D σ H=>te σ H D.rt
theorem aw(a:PE X e te):PS X (.Return (some e) pos) (bo te):=by
 intro f s σ H D I h;exact wpAny_Return_some (du (a f s σ H _ I h) fun v l ⟨x,g,i,j,k⟩=>⟨x,σ,g,i,j,k⟩)
def cJ(c:TT)(t u:TS):TS:=fun D σ H=>c σ H fun b H1=>if b=true then t D σ H1 else u D σ H1
theorem bD{c:Expr}{a b:List Stmt}{i:TT}(n:PT X c i)(o:Cd X a t)(p:Cd X b u):PS X (.If c a b pos) (cJ i t u):=by
 intro f s σ H D I h;refine wpAny_If (du (n f s σ H _ I h) fun d j g=>?_);obtain⟨k,l,m⟩:=g;cases d with
 |true=>exact o f j σ k D l m
 |false=>exact p f j σ k D l m
def oT:TS:=fun _ _ _=>False
theorem kI:PS X st oT:=fun _ _ _ _ _ _ h=>h.elim
end
abbrev TG:=V->St->Hp->(St->Hp->Prop)->Prop
abbrev EV:=List V->St->Hp->(St->Hp->Prop)->Prop
def PG(X:Cx)(target:Expr)(t:TG):Prop :=
 ∀(J3:Zd) (s:Shared) (σ:St) (H:Hp) (v:V) (u:Value) (Q:St->Hp->Prop),Inv X J3 σ H s->RelV v u->t v σ H Q ->
  wpAny (model X.prog X.w) X.A (assign target X.env u) (fun _ s'=>∃σ' H',Inv X J3 σ' H' s'/\Q σ' H') X.xe s
def Mt(X:Cx)(ts:List Expr)(t:EV):Prop :=
 ∀(J3:Zd) (s:Shared) (σ:St) (H:Hp) (vs:List V) (us:Zf) (Q:St->Hp->Prop),Inv X J3 σ H s->bA vs us->t vs σ H Q ->
  wpAny (model X.prog X.w) X.A (assignInOrder ((sS ts X.env).map (·.2)) us) (fun _ s'=>∃σ' H',Inv X J3 σ' H' s'/\Q σ' H') X.xe s
abbrev LK:=V->V->V->Hp->(Hp->Prop)->Prop
def Ms(X:Cx)(t:LK):Prop :=
 ∀(J3:Zd) (s:Shared) (σ:St) (H:Hp) (o i v:V) (ov iv u:Value) (Q:Hp->Prop),Inv X J3 σ H s->RelV o ov->RelV i iv->RelV v u->t o i v H Q ->
  wpAny (model X.prog X.w) X.A (setItem ov iv u) (fun _ s'=>∃H',Inv X J3 σ H' s'/\Q H') X.xe s
section
variable{X:Cx}{pos:Pos}
def eR(i:Nat):TG:=fun v σ H Q=>Q (σ.set i (some v)) H
abbrev U0:TG:=eR 0
abbrev U1:TG:=eR 1
abbrev U2:TG:=eR 2
abbrev U3:TG:=eR 3
abbrev U4:TG:=eR 4
abbrev U5:TG:=eR 5
abbrev U6:TG:=eR 6
abbrev U7:TG:=eR 7
abbrev U8:TG:=eR 8
abbrev U9:TG:=eR 9
abbrev Mq:TG:=eR 10
abbrev U11:TG:=eR 11
abbrev U12:TG:=eR 12
theorem Eu{i:Nat}{x:Str}(a:X.N.Nodup)(hi:X.N[i]?=some x)(hx:Loc X.env.scope x)(hf:X.fn x=true∨X.env.scope.names.lookup x=some .local:=by first|exact .inl rfl|exact .inr rfl|assumption):PG X (.Name x pos) (eR i):=by
 intro f s σ H v u Q I r h;exact wpAny_assign_Name (A_ I a hi hx r (fun g e=>⟨_,H,e,h⟩) hf)
def iW:EV:=fun vs σ H Q=>vs=[]/\Q σ H
def bx(t:TG)(u:EV):EV:=fun vs σ H Q=>∃v r,vs=v::r/\t v σ H fun σ' H'=>u r σ' H' Q
theorem dv:Mt X [] iW:=by
 intro a s σ H f g Q I r h;obtain⟨e,h⟩:=h;subst e;cases r;exact assignInOrder_nil ⟨σ,H,I,h⟩
theorem aI{e:Expr}{a:List Expr}{t:TG}{u:EV}(i:PG X e t)(j:Mt X a u)
  (k:(sS (e::a) X.env).map (·.2)=assign e X.env::(sS a X.env).map (·.2):=by rfl):Mt X (e::a) (bx t u):=by
 intro g s σ H w x Q I r h;obtain⟨v,y,l,h⟩:=h;subst l;cases r with
 |cons r m =>
  rw[k];refine assignInOrder_cons (du (i g s σ H _ _ _ I r h) fun _ n f=>?_);obtain⟨σ1,o,p,q⟩:=f;exact j g n σ1 o _ _ Q p m q
def jk(K:Za)(n:Nat)(t:EV):TG:=fun v σ H Q=>∃a xs,v=.ref a/\br K H a xs/\xs.length=n/\t xs σ H Q
theorem fo{f:List Expr}{k:Nat}{t:EV}{n:Nat}(m:X.calm=true)(h:Mt X f t)
  (p:(sS f X.env).length=n:=by rfl) (g:(sS f X.env).findIdx? (·.1)=none:=by rfl):PG X (.Tuple f k pos) (jk X.K n t):=by
 intro j s σ H v u Q I r i;obtain⟨a,q,w,x,y,i⟩:=i;subst w;cases r;obtain⟨z,l,A,D⟩:=I.tuple x;refine assign_Tuple_tuple (I.ok.hd m) A (by simp[p,<-y,l.length]) g fun B hx=>?_;have C:Inv X j σ H { s with heap:=B }:=I.kept (t':=s.toks) fun b o e=>hx b o (cK (bg e)) e;exact h j _ σ H q _ Q C (by simpa using l) i
def Gi(to ti:TE)(t:LK):TG:=fun v σ H Q=>to σ H fun o H1=>ti σ H1 fun i H2=>t o i v H2 fun H3=>Q σ H3
theorem zO{o i:Expr}{to j:TE}{t:LK}(k:PE X o to)(hi:PE X i j)(l:Ms X t)
  (m:∀v,assign (.Subscript o i pos) X.env v=(do
   let e <- lV [v] (eval o X.env)
   let f <- lV [v,e] (eval i X.env)
   sT pos
   lV [v,e,f] (setItem e f v)
   release [v,e,f] []):=by intro _;rfl):PG X (.Subscript o i pos) (Gi to j t):=by
 intro g s σ H v u Q I r h;rw[m];refine am (lY (du (k g s σ H _ I h) fun e n a=>?_));obtain⟨x,p,q,w,z⟩:=a;refine am (lY (du (hi g n σ p _ q z) fun f A a=>?_));obtain⟨y,B,C,D,E⟩:=a;refine am (Ea (am (lY (du (l g A σ B x y v e f u _ C w D r E) fun _ M a=>?_))));obtain⟨G,J,L⟩:=a;exact wpAny_release ⟨σ,G,J,L⟩
def aT(te:TE)(g:TG):TS:=fun D σ H=>te σ H fun x H1=>g x σ H1 D.nx
theorem mD{tg e:Expr}{f:TE}{g:TG}(j:PE X e f)(k:PG X tg g)(l:swapsWithSole [tg] e pos.line X.env=pure false:=by rfl)(m:swappedStores [tg] e X.env=pure none:=by rfl)
  (n:(sS [tg] X.env).map (·.2)=[assign tg X.env]:=by rfl):PS X (.Assign [tg] e pos) (aT f g):=by
 intro i s σ H D I h;refine wpAny_Assign_stores (du (j i s σ H _ I h) fun v o a=>?_) l m;obtain⟨x,p,r,t,u⟩:=a;rw[n];exact du (k i o σ p x v _ r t u) fun _ w q=>q
theorem Ia{i:Nat}{x:Str}{e:Expr}{g:TE}{a:Pos}(j:X.N.Nodup)(hi:X.N[i]?=some x)(hx:Loc X.env.scope x)(k:PE X e g)(l:uD e (some (.Name x a)) pos.line X.env=pure false:=by rfl)(hf:X.fn x=true∨X.env.scope.names.lookup x=some .local:=by first|exact .inl rfl|exact .inr rfl|assumption):
  PS X (.Assign [.Name x a] e pos) (aT g (eR i)):=by
 intro m s σ H D I h;refine wpAny_Assign_Name (du (k m s σ H _ I h) fun v t f=>?_) l;obtain⟨y,n,o,p,q⟩:=f;exact A_ o j hi hx p (fun u r=>⟨_,n,r,q⟩) hf
end
section
variable{X:Cx}{pos:Pos}
def u7(c:TT)(tb:TS):TS:=fun D σ H=>∃W:Nat->St->Hp->Prop,(∃m,W m σ H)/\∀m σ H,W m σ H ->
 c σ H fun b H1=>if b=true then ∃N:St->Hp->Prop,(∀σ' H',N σ' H'->∃m',m'<m/\W m' σ' H')/\tb { D with nx:=N,ct:=N,bk:=D.nx } σ H1 else D.nx σ H1
theorem qG{c:Expr}{a:List Stmt}{q:TT}{r:TS}(t:PassesOwn (model X.prog X.w) X.A X.env X.xe)(C:PT X c q)(E:Cd X a r):PS X (.While c a [] pos) (u7 q r):=by
 intro J3 s σ H D I h;obtain⟨W,⟨G,J⟩,turn⟩:=h;refine wpAny_While (codeAny_whileLoop (fun n L=>∃σ' u,Inv X J3 σ' u L/\W n σ' u) ?_ G ⟨σ,H,I,J⟩);rintro n M ⟨σ1,x,O,Q⟩;refine uC t (du (C J3 M σ1 x _ O (turn n σ1 x Q)) fun b T j=>?_);obtain⟨y,z,g⟩:=j;cases b with
 |true =>
  obtain⟨N,B,g⟩:=g;rw[if_pos rfl];refine uC t (du (E J3 T σ1 y _ z g) fun f U i=>?_);cases f with
  |next =>
   obtain⟨σ3,e,k,l⟩:=i;obtain⟨m,o,p⟩:=B σ3 e l;exact⟨m,o,σ3,e,k,p⟩
  |cont =>
   obtain⟨σ3,e,k,l⟩:=i;obtain⟨m,o,p⟩:=B σ3 e l;exact⟨m,o,σ3,e,k,p⟩
  |brk=>exact i
  |ret v=>exact i
 |false =>
  rw[if_neg hV];exact Eb ⟨σ1,y,z,g⟩
end
structure It where
 go:Nat->Hp->Prop
 yld:Nat->Hp->V->Hp->Prop
 stop:Nat->Hp->Prop
def pE(X:Cx)(J3:Zd)(H:Hp)(b:Addr):Prop :=
 H b=none/\b≠X.env.locals/\b∉X.fs/\(b∈X.ex∨X.s₀.heap.objs.size<=b)/\(∀x c,X.env.cells.lookup x=some c->c≠b)/\∀p∈X.pn++J3,p.1≠b
theorem Inv.fpOk{X:Cx}{f:Zd}{σ:St}{H g:Hp}{s:Shared}{b:Addr}(I:Inv X f σ H s)(a:s.heap.objs.size<=b)(h:g b=none):pE X f g b:=by
 refine⟨h,i_ (ju I.lt a),I.nofs a,.inr (bI I.sz a),fun x c e z=>?_,fun p i z=>?_⟩
 ·obtain⟨v,q⟩:=I.cell x c e;exact absurd (ju q.lt (by rw[z];exact a)) (sU _)
 ·exact absurd (ju (bg (I.pin p i).1) (by rw[z];exact a)) (sU _)
structure tX(P:bR)(w:World)(K:Za)(tg:Expr)(J:It)(fp:Ze)(it:Addr)(tn:Nat->Heap->Prop):Prop where
 mem:it∈fp
 obj:∀i h,tn i h->∀b∈fp,∃o,h.get? b=some o/\∀v,o.data≠.cell v
 keep:∀i h h',tn i h->(∀b∈fp,∀o,h.get? b=some o->h'.get? b=some o)->tn i h'
 item:∀(X:Cx),X.prog=P->X.w=w->X.K=K->X.calm=true->∀(i:Nat) (J3:Zd) (s:Shared) (σ:St) (H:Hp) (E:Zc),Inv X J3 σ H s->(∀b∈fp,pE X J3 H b)->tn i s.heap->J.go i H ->
  wpAny (model P w) X.A (pyNext (.ref it)) (fun r s1=>∃u,r=some u /\
   wpAny (model P w) X.A (D_ tg (.ref it) u) (fun _ s2=>∃x H',Inv X J3 σ H' s2/\RelV x u/\J.yld i H x H'/\tn (i+1) s2.heap/\∀b∈fp,H' b=none) E s1) E s
 done:∀(X:Cx),X.prog=P->X.w=w->X.K=K->X.calm=true->∀(i:Nat) (J3:Zd) (s:Shared) (σ:St) (H:Hp) (E:Zc),Inv X J3 σ H s->(∀b∈fp,pE X J3 H b)->tn i s.heap->J.stop i H ->
  wpAny (model P w) X.A (pyNext (.ref it)) (fun r s1=>r=none/\Inv X J3 σ H s1) E s
 self:∀(A:Around) (i:Nat) (s:Shared) (Q:Zc) (E:Zc),tn i s.heap->Q (.ref it) s->wpAny (model P w) A (pyIter (.ref it)) Q E s
abbrev TI:=St->Hp->(It->Hp->Prop)->Prop
def MS(X:Cx)(J3:Zd)(σ:St)(tg:Expr)(R:It->Hp->Prop)(itv:Value)(s2:Shared):Prop :=
 ∃(it:Addr) (fp:Ze) (tn:Nat->Heap->Prop) (J:It) (H':Hp),itv=.ref it/\Inv X J3 σ H' s2/\tX X.prog X.w X.K tg J fp it tn/\tn 0 s2.heap/\(∀b∈fp,pE X J3 H' b)/\R J H'
def PI(X:Cx)(tg iter:Expr)(wi:TI):Prop :=
 ∀(J3:Zd) (s:Shared) (σ:St) (H:Hp) (R:It->Hp->Prop),Inv X J3 σ H s->wi σ H R ->
  wpAny (model X.prog X.w) X.A (eval iter X.env) (fun v s1=>wpAny (model X.prog X.w) X.A (pyIter v) (MS X J3 σ tg R) X.xe s1) X.xe s
theorem vE{M:Model}{A:Around}{E:Zc}{s:Shared}{e:Expr}{it:Addr}{u:Value}{o:Obj}{n:String}{f:Array Value}{Q:Unit->Shared->Prop}(g:s.heap.get? it=some o)(i:o.cls=.type n)(j:o.data=.fields f)
    (k:["enumerate","zip","dict_itemiterator","dict_reverseitemiterator","odict_iterator","itertools.zip_longest","itertools.pairwise"].contains n=false) (a:Q () s):wpAny M A (D_ e (.ref it) u) Q E s:=by
  unfold D_;cases e<;>first
    |exact aQ a
    | (cases u <;> first
        |exact aQ a
        | (refine am (wpAny_load g ?_)
           rw[i,j];show wpAny M A (if(["enumerate","zip","dict_itemiterator","dict_reverseitemiterator","odict_iterator","itertools.zip_longest","itertools.pairwise"].contains n && f[0]?==some (rawInt _))=true then _ else _) Q E s
           rw[if_neg (by intro h;rw[k,D0]at h;cases h)];exact aQ a))
def Ce(K:Za)(a:Addr):It :=
 ⟨fun i H=>∃xs x,ay K H a xs/\xs[i]?=some x,fun i H x H'=>H'=H/\∀xs,ay K H a xs->xs[i]?=some x,fun i H=>∃xs,ay K H a xs/\xs.length<=i⟩
def LN(K:Za)(a:Addr):It :=
 ⟨fun i H=>∃xs x,br K H a xs/\xs[i]?=some x,fun i H x H'=>H'=H/\∀xs,br K H a xs->xs[i]?=some x,fun i H=>∃xs,br K H a xs/\xs.length<=i⟩
def LO(lo:Int)(n:Nat):It:=⟨fun i _=>i<n,fun i H x H'=>H'=H/\x=.int (lo+i),fun i _=>n<=i⟩
theorem xh{P:bR}{w:World}{K:Za}{M:Expr}(a it:Addr):tX P w K M (Ce K a) [it] it (fun i h=>h.IsListIter it a i) where
 mem:=by simp
 obj:=fun i h st b f=>by
  have e:b=it:=by simpa using f
  subst e;obtain⟨o,e,c,d⟩:=st;exact⟨o,e,fun v z=>by rw[d]at z;cases z⟩
 keep:=fun i h j st k=>st.at fun o e=>k it (by simp) o e
 item:=by
  intro X m n q J i L s σ H E I hf st r;subst m n q;obtain⟨N,x,l,hx⟩:=r;obtain⟨t,y,p,O⟩:=I.list l;obtain⟨u,Q,T⟩:=y.get hx;obtain⟨A,B,U,C,D,G⟩:=hf it (by simp);refine wpAny_pyNext_list_item st p.isList (x:=u) (by simpa using Q) fun j g Y=>?_;have I1:Inv X L σ H { s with heap:=j }:=I.turned (t':=s.toks) (fun b o f e=>(Y.2 b f).trans e) A B C D G;obtain⟨o,e,c,d⟩:=id g;exact⟨u,rfl,vE (s:={ s with heap:=j }) e c d (by decide) ⟨x,H,I1,T,⟨rfl,fun ys hy=>by rw[I.list_inj hy l];exact hx⟩,g,fun b f=>(hf b f).1⟩⟩
 done:=by
  intro X m n q J i L s σ H E I hf st r;subst m n q;obtain⟨N,l,hx⟩:=r;obtain⟨t,y,p,O⟩:=I.list l;obtain⟨A,B,U,C,D,G⟩:=hf it (by simp);have hl:=y.length;exact wpAny_pyNext_list_end (I.ok.hd J) st p.isList (by simp;omega) fun j eb=>⟨rfl,I.turned (t':=s.toks) (fun b o f e=>eb b o f e) A B C D G⟩
 self:=fun _ _ _ _ _ st h=>wpAny_pyIter_listiter st h
theorem uY{P:bR}{w:World}{K:Za}{M:Expr}(a it:Addr):tX P w K M (LN K a) [it] it (fun i h=>h.IsTupleIter it a i) where
 mem:=by simp
 obj:=fun i h st b f=>by
  have e:b=it:=by simpa using f
  subst e;obtain⟨o,e,c,d⟩:=st;exact⟨o,e,fun v z=>by rw[d]at z;cases z⟩
 keep:=fun i h l st k=>st.at fun o e=>k it (by simp) o e
 item:=by
  intro X n q r J i L s σ H E I hf st t;subst n q r;obtain⟨N,x,m,hx⟩:=t;obtain⟨g,y,p,O⟩:=I.tuple m;obtain⟨u,Q,T⟩:=y.get hx;obtain⟨A,B,U,C,D,G⟩:=hf it (by simp);refine wpAny_pyNext_tuple_item st (show s.heap.IsTuple a g.toArray from p) (x:=u) (by simpa using Q) fun l j Y=>?_;have I1:Inv X L σ H { s with heap:=l }:=I.turned (t':=s.toks) (fun b o f e=>(Y.2 b f).trans e) A B C D G;obtain⟨o,e,c,d⟩:=id j;exact⟨u,rfl,vE (s:={ s with heap:=l }) e c d (by decide) ⟨x,H,I1,T,⟨rfl,fun ys hy=>by rw[I.tuple_inj hy m];exact hx⟩,j,fun b f=>(hf b f).1⟩⟩
 done:=by
  intro X n q r J i L s σ H E I hf st t;subst n q r;obtain⟨N,m,hx⟩:=t;obtain⟨g,y,p,O⟩:=I.tuple m;obtain⟨A,B,U,C,D,G⟩:=hf it (by simp);have hl:=y.length;exact wpAny_pyNext_tuple_end (I.ok.hd J) st (show s.heap.IsTuple a g.toArray from p) (by simp;omega) fun l eb=>⟨rfl,I.turned (t':=s.toks) (fun b o f e=>eb b o f e) A B C D G⟩
 self:=fun _ _ _ _ _ st h=>wpAny_pyIter_tupleiter st h
theorem Ch{P:bR}{w:World}{K:Za}{C:Expr}(it:Addr)(lo:Int)(n:Nat):tX P w K C (LO lo n) [it] it (fun i h=>IsRangeIter h it (lo+(i:Nat) * 1) ((n:Int)-(i:Nat)) 1) where
 mem:=by simp
 obj:=fun i h st b a=>by
  have e:b=it:=by simpa using a
  subst e;exact⟨_,st,fun v z=>by
   have D:Data.fields _=Data.cell v:=z;cases D⟩
 keep:=fun i h g st k=>k it (by simp) _ st
 item:=by
  intro X j l m p i B s σ H E I hf st q;subst j l m;obtain⟨r,u,G,x,y,A⟩:=hf it (by simp);have W:=Walks.range (prog:=X.prog) (w:=X.w) (I.ok.hd p) it lo 1 n;refine W.item i s _ _ q st fun v g tk J f L=>?_;obtain⟨t,rfl⟩:=J;have M:Inv X B σ H { s with heap:=g,toks:=tk }:=I.turned (fun b o a e=>L b o (by simpa using a) e) r u x y A;refine⟨_,rfl,vE (s:={ s with heap:=g,toks:=tk }) (n:="range_iterator") f rfl rfl (by decide) ⟨.int (lo+i),H,M,⟨t,?_⟩,⟨rfl,rfl⟩,f,fun b a=>(hf b a).1⟩⟩;rw[Int.mul_one]
 done:=by
  intro X j l m p i B s σ H E I hf st q;subst j l m;obtain⟨r,u,G,x,y,A⟩:=hf it (by simp);exact wpAny_pyNext_range_end (I.ok.hd p) st (by have:n<=i:=q;omega) fun g N=>⟨rfl,I.turned (t':=s.toks) (fun b o a e=>N b o a e) r u x y A⟩
 self:=fun _ _ _ _ _ st h=>wpAny_pyIter_rangeiter st h
end L2
namespace L2
open PySem PySem.Spec PyProof.Rows
section
variable{X:Cx}{tg:Expr}
def bG(K:Za)(tl:TE):TI:=fun σ H R=>tl σ H fun x H1=>∃a,x=.ref a/\(∃xs,ay K H1 a xs)/\R (Ce K a) H1
def Kl(K:Za)(tl:TE):TI:=fun σ H R=>tl σ H fun x H1=>∃a,x=.ref a/\(∃xs,br K H1 a xs)/\R (LN K a) H1
theorem aK{l:Expr}{j:TE}(k:PE X l j):PI X tg l (bG X.K j):=by
 intro m s σ H R I h;refine du (k m s σ H _ I h) fun v f i=>?_;obtain⟨x,n,g,r,t⟩:=i;obtain⟨a,e,⟨z,u⟩,q⟩:=t;subst e;cases r;obtain⟨w,A,p,B⟩:=g.list u;refine xa p.isList ?_;refine⟨f.heap.objs.size,[f.heap.objs.size],_,_,n,rfl,g.kept (t':=f.toks) fun b o e=>bt _ e,xh a _,⟨_,de _ rfl,rfl,rfl⟩,fun b y=>?_,q⟩;have e:b=f.heap.objs.size:=by simpa using y
 subst e;exact g.fpOk (aR _) (g.hok.fresh (aR _))
theorem C7{l:Expr}{k:TE}(m:PE X l k):PI X tg l (Kl X.K k):=by
 intro n s σ H R I h;refine du (m n s σ H _ I h) fun v f i=>?_;obtain⟨x,r,g,t,u⟩:=i;obtain⟨a,e,⟨z,w⟩,q⟩:=u;subst e;cases t;obtain⟨j,A,p,B⟩:=g.tuple w;refine DZ (show f.heap.IsTuple a j.toArray from p) ?_;refine⟨f.heap.objs.size,[f.heap.objs.size],_,_,r,rfl,g.kept (t':=f.toks) fun b o e=>bt _ e,uY a _,⟨_,de _ rfl,rfl,rfl⟩,fun b y=>?_,q⟩;have e:b=f.heap.objs.size:=by simpa using y
 subst e;exact g.fpOk (aR _) (g.hok.fresh (aR _))
theorem HS{a:Zd}{σ:St}{H:Hp}{s:Shared}{R:It->Hp->Prop}{E:Zc}{lo hi:Int}{t u v:Tok}{tk:Nat}(I:Inv X a σ H s)(g:-(2 ^ 62)<=lo)(h:lo<2 ^ 62)(i:-(2 ^ 62)<=hi)(j:hi<2 ^ 62)
  (q:R (LO lo (hi-lo).toNat) H):wpAny (model X.prog X.w) X.A (pyIter (.ref s.heap.objs.size)) (MS X a σ tg R) E { s with heap:=s.heap.push { cls:=.type "range",data:=.fields #[.int lo t,.int hi u,.int 1 v] },toks:=tk }:=by
 refine wpAny_pyIter_range (IsRange.new ..) (small_one g h i j) ?_;have f:Inv X a σ H { s with heap:=s.heap.push { cls:=.type "range",data:=.fields #[.int lo t,.int hi u,.int 1 v] },toks:=tk }:=I.kept fun b o e=>bt _ e;refine⟨(s.heap.push { cls:=.type "range",data:=.fields #[.int lo t,.int hi u,.int 1 v] }).objs.size,[(s.heap.push { cls:=.type "range",data:=.fields #[.int lo t,.int hi u,.int 1 v] }).objs.size],_,_,H,rfl,
  f.kept (t':=tk) fun b o e=>bt _ e,Ch _ lo (hi-lo).toNat,?_,fun b k=>?_,q⟩
 ·have l:lo+((0:Nat):Int) * 1=lo:=by simp
  have m:(((hi-lo).toNat:Nat):Int)-((0:Nat):Int)=dD.Range.rangeSize lo hi 1:=by rw[rangeSize_one];split<;>omega
  show IsRangeIter _ _ (lo+((0:Nat):Int) * 1) ((((hi-lo).toNat:Nat):Int)-((0:Nat):Int)) 1;rw[l,m];exact de _ rfl
 ·have e:b=(s.heap.push { cls:=.type "range",data:=.fields #[.int lo t,.int hi u,.int 1 v] }).objs.size:=by simpa using k
  subst e;exact f.fpOk (aR _) (f.hok.fresh (aR _))
def vD(ta:TA):TI:=fun σ H R=>ta σ H fun vs H1=>∃j:Int,vs=[.int j]/\-(2 ^ 62)<=j/\j<2 ^ 62/\R (LO 0 j.toNat) H1
theorem jr{a:Expr}{k:TA}{p f:Pos}(l:Gl X "range")(m:X.mg "range"=none)(n:PA X [a] k)(o:a_ [a] X.env=[(false,eval a X.env)]:=by rfl):PI X tg (.Call (.Name "range" p) [a] [] f) (vD k):=by
 intro u s σ H R I h;refine Call_ (o6 I l m boot_range (AH (du (n f u s σ H _ I h) fun z A g=>?_) o rfl));obtain⟨B,C,v,w,i⟩:=g;obtain⟨j,e,i,x,q⟩:=i;subst e;cases w with
 |cons r y =>
  cases y;obtain⟨t,rfl⟩:=r;exact call_range_1 (HS v (by omega) (by omega) i x (by simpa using q))
def eA(wi:TI)(g:TG)(tb:TS):TS:=fun D σ H=>wi σ H fun J H1=>∃W:Nat->Nat->St->Hp->Prop,(∃m,W 0 m σ H1)/\∀i m σ H,W i m σ H ->
 (J.stop i H/\D.nx σ H)∨(J.go i H/\∃N:St->Hp->Prop,(∀σ' H',N σ' H'->∃m',m'<m/\W (i+1) m' σ' H')/\∀x H',J.yld i H x H'->g x σ H' fun σ2 H2=>tb { D with nx:=N,ct:=N,bk:=D.nx } σ2 H2)
def vq(fp:Ze)(h:Heap):List (Addr×Obj):=fp.filterMap fun b=>(h.get? b).map fun o=>(b,o)
theorem lp{fp:Ze}{h:Heap}{b:Addr}{o:Obj}(a:b∈fp)(e:h.get? b=some o):(b,o)∈vq fp h:=List.mem_filterMap.mpr ⟨b,a,by rw[e];rfl⟩
theorem FX{a:Ze}{h:Heap}{p:Addr×Obj}(f:p∈vq a h):p.1∈a/\h.get? p.1=some p.2:=by
 obtain⟨b,g,e⟩:=List.mem_filterMap.mp f;cases q:h.get? b with
 |none=>rw[q]at e;cases e
 |some o =>
  rw[q]at e;have i:(b,o)=p:=fW e;subst i;exact⟨g,q⟩
theorem Inv.pinned{a:Zd}{σ:St}{H:Hp}{s:Shared}{f:Ze}(I:Inv X a σ H s)(hf:∀b∈f,pE X a H b)(i:∀b∈f,∃o,s.heap.get? b=some o/\∀v,o.data≠.cell v):Inv X (a++vq f s.heap) σ H s :=
 I.pins_of fun p j=>(bf.mp j).elim (fun z=>I.pin p (cQ _ z)) fun z=>by
  obtain⟨g,e⟩:=FX z;obtain⟨k,l,m,_⟩:=hf p.1 g;obtain⟨o,h,d⟩:=i p.1 g;rw[e]at h;cases h;exact⟨e,k,l,m,d⟩
theorem Inv.unpinned{a e:Zd}{σ:St}{H:Hp}{s:Shared}(I:Inv X (a++e) σ H s):Inv X a σ H s:=I.pins_of fun p f=>I.pin p (cQ _ (cu _ f))
theorem bE{j:Expr}{y:List Stmt}{wi:TI}{g:TG}{tb:TS}{U:Pos}(E:PassesOwn (model X.prog X.w) X.A X.env X.xe)(hc:X.calm=true)(hi:PI X tg j wi)(hg:PG X tg g)(k:Cd X y tb)
  (hs:∀x,AG j X.env x=pure x:=by intro _;rfl):PS X (.For tg j y [] U) (eA wi g tb):=by
 intro B s σ H D I h;refine wpAny_For (du (hi B s σ H _ I h) fun v s1 h1=>du h1 fun ap s2 h2=>?_) hs;obtain⟨it,G,tn,J,H2,e,I2,T,Y,f2,W,⟨m0,w0⟩,turn⟩:=h2;subst e;have l:∀{t:Hp},(∀b∈G,t b=none)->∀b∈G,pE X B t b:=fun hn b k=>⟨hn b k,(f2 b k).2⟩;refine codeAny_forLoop_any (fun n s'=>∃i σ' t,Inv X B σ' t s'/\tn i s'.heap/\(∀b∈G,t b=none)/\W i n σ' t) ?_ m0 ⟨0,σ,H2,I2,Y,fun b k=>(f2 b k).1,w0⟩;rintro n s3 ⟨i,σ3,Q,I3,L,M,w3⟩;rcases turn i n σ3 Q w3 with⟨stop,qn⟩|⟨go,N,hN,step⟩
 ·refine uC E (du (T.done X rfl rfl rfl hc i B s3 σ3 Q X.xe I3 (l M) L stop) fun r s4 a=>?_);obtain⟨hr,I4⟩:=a;subst hr;exact Eb ⟨σ3,Q,I4,qn⟩
 ·refine uC E (du (T.item X rfl rfl rfl hc i B s3 σ3 Q X.xe I3 (l M) L go) fun r s4 a=>?_);obtain⟨u,hr,h4⟩:=a;subst hr;refine uC E (du h4 fun _ s5 a=>?_);obtain⟨x,H5,I5,r5,y5,C,al⟩:=a;have an:=I5.pinned (l al) (T.obj _ _ C);refine uC E (du (hg _ s5 σ3 H5 x u _ an r5 (step x H5 y5)) fun _ s6 a=>?_);obtain⟨σ6,H6,I6,q6⟩:=a;refine uC E (du (k _ s6 σ6 H6 _ I6 q6) fun f s7 z=>?_);have again:∀{σ7:St}{p:Hp},Inv X (B++vq G s5.heap) σ7 p s7->N σ7 p->∃m,m<n/\∃i σ' t,Inv X B σ' t s7/\tn i s7.heap/\(∀b∈G,t b=none)/\W i m σ' t:=fun{σ7 p} q O=>by
   obtain⟨m',hm,w7⟩:=hN σ7 p O;refine⟨m',hm,i+1,σ7,p,q.unpinned,T.keep _ _ _ C fun b k o e=>(q.pin (b,o) (cQ _ (cQ _ (lp k e)))).1,fun b k=>?_,w7⟩;obtain⟨o,e,d⟩:=T.obj _ _ C b k;exact(q.pin (b,o) (cQ _ (cQ _ (lp k e)))).2.1
  cases f with
  |next=>obtain⟨σ7,p,q,O⟩:=z;exact again q O
  |cont=>obtain⟨σ7,p,q,O⟩:=z;exact again q O
  |brk=>obtain⟨σ7,p,q,z⟩:=z;exact⟨σ7,p,q.unpinned,z⟩
  |ret v=>obtain⟨x7,σ7,p,q,r7,z⟩:=z;exact⟨x7,σ7,p,q.unpinned,r7,z⟩
end
theorem bw{K:Za}{a:Addr}{xs:List V}{g:TG}{k:TS}{D:pF}{σ:St}{H:Hp}(Pv:Nat->St->Hp->Prop)(n:Pv 0 σ H)(o:∀i σ H,i<=xs.length->Pv i σ H->ay K H a xs)
  (r:∀i x σ H,xs[i]?=some x->Pv i σ H->g x σ H fun σ2 j=>k { D with nx:=Pv (i+1),ct:=Pv (i+1),bk:=D.nx } σ2 j) (s:∀σ H,Pv xs.length σ H->D.nx σ H) :
  ∃W:Nat->Nat->St->Hp->Prop,(∃m,W 0 m σ H)/\∀i m σ H,W i m σ H ->
   ((Ce K a).stop i H/\D.nx σ H)∨((Ce K a).go i H/\∃N:St->Hp->Prop,(∀σ' f,N σ' f->∃l,l<m/\W (i+1) l σ' f)/\∀x f,(Ce K a).yld i H x f->g x σ f fun σ2 j=>k { D with nx:=N,ct:=N,bk:=D.nx } σ2 j):=by
 refine⟨fun i m σ H=>m=xs.length-i/\i<=xs.length/\Pv i σ H,⟨xs.length,by simp,c_ _,n⟩,?_⟩;rintro i m σ H ⟨rfl,hi,p⟩;have q:=o i σ H hi p;by_cases h:i<xs.length
 ·refine .inr ⟨⟨xs,xs[i],q,by simp[h]⟩,Pv (i+1),fun σ' f t=>⟨xs.length-(i+1),by omega,rfl,h,t⟩,fun x f y=>?_⟩;obtain⟨e,y⟩:=y;subst e;exact r i x σ _ (y xs q) p
 ·have e:i=xs.length:=by omega
  subst e;exact .inl ⟨⟨xs,q,aR _⟩,s σ H p⟩
theorem EI{K:Za}{a:Addr}{xs:List V}{g:TG}{k:TS}{D:pF}{σ:St}{H:Hp}(Pv:Nat->St->Hp->Prop)(n:Pv 0 σ H)(o:∀i σ H,i<=xs.length->Pv i σ H->br K H a xs)
  (r:∀i x σ H,xs[i]?=some x->Pv i σ H->g x σ H fun σ2 j=>k { D with nx:=Pv (i+1),ct:=Pv (i+1),bk:=D.nx } σ2 j) (s:∀σ H,Pv xs.length σ H->D.nx σ H) :
  ∃W:Nat->Nat->St->Hp->Prop,(∃m,W 0 m σ H)/\∀i m σ H,W i m σ H ->
   ((LN K a).stop i H/\D.nx σ H)∨((LN K a).go i H/\∃N:St->Hp->Prop,(∀σ' f,N σ' f->∃l,l<m/\W (i+1) l σ' f)/\∀x f,(LN K a).yld i H x f->g x σ f fun σ2 j=>k { D with nx:=N,ct:=N,bk:=D.nx } σ2 j):=by
 refine⟨fun i m σ H=>m=xs.length-i/\i<=xs.length/\Pv i σ H,⟨xs.length,by simp,c_ _,n⟩,?_⟩;rintro i m σ H ⟨rfl,hi,p⟩;have q:=o i σ H hi p;by_cases h:i<xs.length
 ·refine .inr ⟨⟨xs,xs[i],q,by simp[h]⟩,Pv (i+1),fun σ' f t=>⟨xs.length-(i+1),by omega,rfl,h,t⟩,fun x f y=>?_⟩;obtain⟨e,y⟩:=y;subst e;exact r i x σ _ (y xs q) p
 ·have e:i=xs.length:=by omega
  subst e;exact .inl ⟨⟨xs,q,aR _⟩,s σ H p⟩
theorem kP{lo:Int}{n:Nat}{g:TG}{j:TS}{D:pF}{σ:St}{H:Hp}(Pv:Nat->St->Hp->Prop)(l:Pv 0 σ H)
  (o:∀i σ H,i<n->Pv i σ H->g (.int (lo+i)) σ H fun σ2 h=>j { D with nx:=Pv (i+1),ct:=Pv (i+1),bk:=D.nx } σ2 h) (q:∀σ H,Pv n σ H->D.nx σ H) :
  ∃W:Nat->Nat->St->Hp->Prop,(∃m,W 0 m σ H)/\∀i m σ H,W i m σ H ->
   ((LO lo n).stop i H/\D.nx σ H)∨((LO lo n).go i H/\∃N:St->Hp->Prop,(∀σ' a,N σ' a->∃k,k<m/\W (i+1) k σ' a)/\∀x a,(LO lo n).yld i H x a->g x σ a fun σ2 h=>j { D with nx:=N,ct:=N,bk:=D.nx } σ2 h):=by
 refine⟨fun i m σ H=>m=n-i/\i<=n/\Pv i σ H,⟨n,by simp,c_ _,l⟩,?_⟩;rintro i m σ H ⟨rfl,hi,p⟩;by_cases f:i<n
 ·refine .inr ⟨f,Pv (i+1),fun σ' a r=>⟨n-(i+1),by omega,rfl,f,r⟩,fun x a y=>?_⟩;obtain⟨e,y⟩:=y;subst e y;exact o i σ _ f p
 ·have e:i=n:=by omega
  subst e;exact .inl ⟨aR _,q σ H p⟩
end L2
namespace L2
open PySem PySem.Spec PyProof.Rows
abbrev R2:=V->V->Hp->VK->Prop
def nZ(X:Cx)(f:Value->Value->Sem Value)(r:R2):Prop :=
 ∀(J3:Zd) (s:Shared) (σ:St) (H:Hp) (x y:V) (v u:Value) (Q:VK),Inv X J3 σ H s->RelV x v->RelV y u->r x y H Q ->
  wpAny (model X.prog X.w) X.A (f v u) (EP X J3 σ Q) X.xe s
def UnR(X:Cx)(f:Value->Sem Value)(r:V->Hp->VK->Prop):Prop :=
 ∀(J3:Zd) (s:Shared) (σ:St) (H:Hp) (x:V) (v:Value) (Q:VK),Inv X J3 σ H s->RelV x v->r x H Q ->
  wpAny (model X.prog X.w) X.A (f v) (EP X J3 σ Q) X.xe s
def f_(X:Cx)(f:Value)(r:List V->Hp->VK->Prop):Prop :=
 ∀(J3:Zd) (s:Shared) (σ:St) (H:Hp) (xs:List V) (us:Zf) (Q:VK),Inv X J3 σ H s->bA xs us->r xs H Q ->
  wpAny (model X.prog X.w) X.A (call f us) (EP X J3 σ Q) X.xe s
def aD(r:R2)(ta tb:TE):TE:=fun σ H Q=>ta σ H fun x H1=>tb σ H1 fun y H2=>r x y H2 Q
def tUn(r:V->Hp->VK->Prop)(ta:TE):TE:=fun σ H Q=>ta σ H fun x H1=>r x H1 Q
def rI(C:Int->Int->Prop)(g:Int->Int->V):R2:=fun x y H Q=>∃i j,x=.int i/\y=.int j/\C i j/\Q (g i j) H
def GP(g:Int->Int->V):R2:=fun x y H Q=>∃i j,x=.int i/\y=.int j/\Q (g i j) H
def rU(g:Int->V):V->Hp->VK->Prop:=fun x H Q=>∃i,x=.int i/\Q (g i) H
section
variable{X:Cx}{a b c:Expr}{ta tb tc:TE}{pos:Pos}
theorem LG(n:PE X a ta)(o:PE X b tb){k:Zd}{s:Shared}{σ:St}{H:Hp}{R:V->V->Hp->Prop}(I:Inv X k σ H s)
  (h:ta σ H fun x m=>tb σ m fun y g=>R x y g) {Q:Zc}{f:Value->Value->Sem Value}
  (hf:∀v u l x y g,Inv X k σ g l->RelV x v->RelV y u->R x y g->wpAny (model X.prog X.w) X.A (f v u) Q X.xe l) :
  wpAny (model X.prog X.w) X.A (eval a X.env) (fun v i=>wpAny (model X.prog X.w) X.A (eval b X.env) (fun u j=>wpAny (model X.prog X.w) X.A (f v u) Q X.xe j) X.xe i) X.xe s:=by
 refine du (n k s σ H _ I h) fun v p e=>?_;obtain⟨x,m,q,r,t⟩:=e;refine du (o k p σ m _ q t) fun u l e=>?_;obtain⟨y,g,z,B,C⟩:=e;exact hf v u l x y g z r B C
theorem aZ{e:Operator}{r:R2}(f:nZ X (sR e) r)(g:PE X a ta)(i:PE X b tb):PE X (.BinOp a e b pos) (aD r ta tb):=by
 intro j s σ H Q I h;exact wpAny_BinOp (LG g i I h fun v u k x y l m n o q=>f j k σ l x y v u Q m n o q)
theorem KW{e:UnaryOp}{r:V->Hp->VK->Prop}(g:UnR X (unaryOp e) r)(i:PE X a ta):PE X (.UnaryOp e a pos) (tUn r ta):=by
 intro f s σ H Q I h;exact UnaryOp_ (du (i f s σ H _ I h) fun v j ⟨x,k,l,m,n⟩=>g f j σ k x v Q l m n)
theorem MO{f:Value->Value->Sem Value}{C:Int->Int->Prop}{g:Int->Int->Int}
  (rule:∀(i j:Int) (t u:Tok) (s:Shared) (Q:Zc) (E:Zc),C i j->Q (.int (g i j) s.toks) { s with toks:=s.toks+1 }->wpAny (model X.prog X.w) X.A (f (.int i t) (.int j u)) Q E s) :
  nZ X f (rI C fun i j=>.int (g i j)):=by
 intro n s σ H x y v u Q I e k h;obtain⟨i,j,rfl,rfl,l,q⟩:=h;obtain⟨t,rfl⟩:=e;obtain⟨m,rfl⟩:=k;exact rule i j t m s _ _ l ⟨.int (g i j),H,I.tok _,⟨_,rfl⟩,q⟩
theorem opI0{f:Value->Value->Sem Value}{g:Int->Int->Int}
  (rule:∀(i j:Int) (t u:Tok) (s:Shared) (Q:Zc) (E:Zc),Q (.int (g i j) s.toks) { s with toks:=s.toks+1 }->wpAny (model X.prog X.w) X.A (f (.int i t) (.int j u)) Q E s) :
  nZ X f (GP fun i j=>.int (g i j)):=by
 intro m s σ H x y v u Q I e k h;obtain⟨i,j,rfl,rfl,q⟩:=h;obtain⟨t,rfl⟩:=e;obtain⟨l,rfl⟩:=k;exact rule i j t l s _ _ ⟨.int (g i j),H,I.tok _,⟨_,rfl⟩,q⟩
theorem Kg{f:Value->Value->Sem Value}{g:Int->Int->Bool}
  (rule:∀(i j:Int) (t u:Tok) (s:Shared) (Q:Zc) (E:Zc),Q (.bool (g i j)) s->wpAny (model X.prog X.w) X.A (f (.int i t) (.int j u)) Q E s) :
  nZ X f (GP fun i j=>.bl (g i j)):=by
 intro m s σ H x y v u Q I e k h;obtain⟨i,j,rfl,rfl,q⟩:=h;obtain⟨t,rfl⟩:=e;obtain⟨l,rfl⟩:=k;exact rule i j t l s _ _ ⟨.bl (g i j),H,I,rfl,q⟩
def MD(i j:Int):Prop:=0<j/\j<1073741824
def Mz(i j:Int):Prop:=0<=j/\j<=1000000/\i.natAbs<2 ^ 64
def Jl(i j:Int):Prop:=(-(2 ^ 64)<i/\i<2 ^ 64)∨(-(2 ^ 64)<j/\j<2 ^ 64)
theorem Jl.ok{i j:Int}(h:Jl i j):IntMulOk i j:=by
 rcases h with⟨e,f⟩|⟨e,f⟩
 ·exact .of_left (intBits_le_64 e f)
 ·exact .of_right (intBits_le_64 e f)
theorem eo:nZ X (sR .Add) (GP fun i j=>.int (i+j)):=opI0 fun _ _ _ _ _ _ _ q=>add_int q
theorem ip:nZ X (sR .Mult) (rI Jl fun i j=>.int (i * j)):=MO fun _ _ _ _ _ _ _ e q=>mul_int q e.ok
theorem EB:nZ X (sR .FloorDiv) (rI MD fun i j=>.int (i / j)):=MO fun i j _ _ _ _ _ e q=>by
 have f:(0:Int)<j:=e.1;have g:j<1073741824:=e.2;exact floordiv_int (by omega) (by rw[Int.fdiv_eq_ediv_of_nonneg i (by omega)];exact q) (.inl (PyProof.noPylong_small (by omega)))
theorem iq:nZ X (sR .Mod) (rI (fun _ j=>0<j) fun i j=>.int (i % j)):=MO fun i j _ _ _ _ _ e q=>by
 have f:(0:Int)<j:=e;exact mod_int' (by omega) (by rw[Int.fmod_eq_emod_of_nonneg i (by omega)];exact q)
theorem Il:nZ X (sR .Pow) (rI Mz fun i j=>.int (i ^ j.toNat)):=MO fun _ _ _ _ _ _ _ e q=>pow_int_small e.1 e.2.1 e.2.2 q
theorem unI{f:Value->Sem Value}{g:Int->Int}
  (rule:∀(i:Int) (t:Tok) (s:Shared) (Q:Zc) (E:Zc),Q (.int (g i) s.toks) { s with toks:=s.toks+1 }->wpAny (model X.prog X.w) X.A (f (.int i t)) Q E s) :
  UnR X f (rU fun i=>.int (g i)):=by
 intro j s σ H x v Q I e h;obtain⟨i,rfl,q⟩:=h;obtain⟨t,rfl⟩:=e;exact rule i t s _ _ ⟨.int (g i),H,I.tok _,⟨_,rfl⟩,q⟩
theorem Ha:UnR X (unaryOp .USub) (rU fun i=>.int (-i)):=unI fun _ _ _ _ _ q=>neg_int q
end
def Mc:V->V->Bool
 |.non,.non=>true | .non,.int _=>true | .int _,.non=>true | .non,.bl _=>true | .bl _,.non=>true | .non,.str _=>true | .str _,.non=>true
 |.int _,.int _=>true | .bl _,.bl _=>true | .str _,.str _=>true | .byt _,.byt _=>true
 |.int _,.str _=>true | .str _,.int _=>true | .bl _,.str _=>true | .str _,.bl _=>true
 |_,_=>false
def GQ:R2:=fun x y H Q=>Mc x y=true/\Q (.bl (decide (x=y))) H
def LW:R2:=fun x y H Q=>Mc x y=true/\Q (.bl (!decide (x=y))) H
theorem EL{i j:Int}:decide (V.int i=V.int j)=(i==j):=by
 rw[pO];simp
theorem IR{i j:Bool}:decide (V.bl i=V.bl j)=(i==j):=by
 rw[pO];simp
theorem EJ{i j:Str}:decide (V.str i=V.str j)=(i==j):=by
 rw[pO];simp
theorem EM{i j:Array UInt8}:decide (V.byt i=V.byt j)=(i.toList==j.toList):=by
 rw[pO];cases i;cases j;simp
section
variable{X:Cx}{a b c:Expr}{ta tb tc:TE}{pos:Pos}
theorem cy{f:Zd}{σ:St}{H:Hp}{s:Shared}{Q:VK}{k g:Bool}(I:Inv X f σ H s)(q:Q (.bl k) H)(e:k=g):EP X f σ Q (.bool g) s:=by
 subst e;exact⟨.bl k,H,I,rfl,q⟩
theorem mI:nZ X (fu .Eq) GQ:=by
 intro l s σ H x y v u Q I k e h;obtain⟨g,q⟩:=h;cases x with
 |non =>
  cases k;cases y with
  |non=>cases e;exact PySem.EqNone.eq_none_none (cy I q (by simp))
  |bl j=>cases e;exact PySem.EqNone.eq_none_bool (cy I q (by simp))
  |int j=>obtain⟨f,rfl⟩:=e;exact PySem.EqNone.eq_none_int (cy I q (by simp))
  |str j=>obtain⟨f,rfl⟩:=e;exact PySem.EqNone.eq_none_str (cy I q (by simp))
  |_=>exact absurd (show false=true from g) hV
 |bl i =>
  cases k;cases y with
  |non=>cases e;exact PySem.EqNone.eq_bool_none (cy I q (by simp))
  |bl j=>cases e;exact eq_bool (cy I q IR)
  |str j=>obtain⟨f,rfl⟩:=e;exact PySem.EqMixed.eq_bool_str (cy I q (by simp))
  |_=>exact absurd (show false=true from g) hV
 |int i =>
  obtain⟨t,rfl⟩:=k;cases y with
  |non=>cases e;exact PySem.EqNone.eq_int_none (cy I q (by simp))
  |int j=>obtain⟨f,rfl⟩:=e;exact eq_int (cy I q EL)
  |str j=>obtain⟨f,rfl⟩:=e;exact PySem.EqMixed.eq_int_str (cy I q (by simp))
  |_=>exact absurd (show false=true from g) hV
 |str i =>
  obtain⟨t,rfl⟩:=k;cases y with
  |non=>cases e;exact PySem.EqNone.eq_str_none (cy I q (by simp))
  |bl j=>cases e;exact PySem.EqMixed.eq_str_bool (cy I q (by simp))
  |int j=>obtain⟨f,rfl⟩:=e;exact PySem.EqMixed.eq_str_int (cy I q (by simp))
  |str j=>obtain⟨f,rfl⟩:=e;exact eq_str (cy I q EJ)
  |_=>exact absurd (show false=true from g) hV
 |byt i =>
  obtain⟨t,rfl⟩:=k;cases y with
  |byt j=>obtain⟨f,rfl⟩:=e;exact PySem.W.eq_bytes (cy I q EM)
  |_=>exact absurd (show false=true from g) hV
 |_=>cases y<;>exact absurd (show false=true from g) hV
theorem Bq:nZ X (fu .NotEq) LW:=by
 intro l s σ H x y v u Q I k e h;obtain⟨g,q⟩:=h;cases x with
 |non =>
  cases k;cases y with
  |non=>cases e;exact PySem.EqNone.ne_none_none (cy I q (by simp))
  |bl j=>cases e;exact PySem.EqNone.ne_none_bool (cy I q (by simp))
  |int j=>obtain⟨f,rfl⟩:=e;exact PySem.EqNone.ne_none_int (cy I q (by simp))
  |str j=>obtain⟨f,rfl⟩:=e;exact PySem.EqNone.ne_none_str (cy I q (by simp))
  |_=>exact absurd (show false=true from g) hV
 |bl i =>
  cases k;cases y with
  |non=>cases e;exact PySem.EqNone.ne_bool_none (cy I q (by simp))
  |bl j=>cases e;exact ne_bool (cy I q (congrArg not IR))
  |str j=>obtain⟨f,rfl⟩:=e;exact PySem.EqMixed.ne_bool_str (cy I q (by simp))
  |_=>exact absurd (show false=true from g) hV
 |int i =>
  obtain⟨t,rfl⟩:=k;cases y with
  |non=>cases e;exact PySem.EqNone.ne_int_none (cy I q (by simp))
  |int j=>obtain⟨f,rfl⟩:=e;exact ne_int (cy I q (congrArg not EL))
  |str j=>obtain⟨f,rfl⟩:=e;exact PySem.EqMixed.ne_int_str (cy I q (by simp))
  |_=>exact absurd (show false=true from g) hV
 |str i =>
  obtain⟨t,rfl⟩:=k;cases y with
  |non=>cases e;exact PySem.EqNone.ne_str_none (cy I q (by simp))
  |bl j=>cases e;exact PySem.EqMixed.ne_str_bool (cy I q (by simp))
  |int j=>obtain⟨f,rfl⟩:=e;exact PySem.EqMixed.ne_str_int (cy I q (by simp))
  |str j=>obtain⟨f,rfl⟩:=e;exact ne_str (cy I q (congrArg not EJ))
  |_=>exact absurd (show false=true from g) hV
 |byt i =>
  obtain⟨t,rfl⟩:=k;cases y with
  |byt j=>obtain⟨f,rfl⟩:=e;exact PySem.W.ne_bytes (cy I q (congrArg not EM))
  |_=>exact absurd (show false=true from g) hV
 |_=>cases y<;>exact absurd (show false=true from g) hV
theorem EA:nZ X (fu .Lt) (GP fun i j=>.bl (decide (i<j))):=Kg fun _ _ _ _ _ _ _ q=>lt_int q
theorem Im:nZ X (fu .LtE) (GP fun i j=>.bl (decide (i<=j))):=Kg fun _ _ _ _ _ _ _ q=>le_int q
theorem nX:nZ X (fu .Gt) (GP fun i j=>.bl (decide (j<i))):=Kg fun _ _ _ _ _ _ _ q=>gt_int q
theorem Mf:nZ X (fu .GtE) (GP fun i j=>.bl (decide (j<=i))):=Kg fun _ _ _ _ _ _ _ q=>ge_int q
theorem FW:nZ X (fu .In) (fun x y H Q=>∃i j,x=.str i/\y=.str j/\Q (.bl (!(dD.Str.occurrences j i 0 j.length 1).isEmpty)) H):=by
 intro g s σ H x y v u Q I e f h;obtain⟨i,j,rfl,rfl,q⟩:=h;obtain⟨t,rfl⟩:=e;obtain⟨k,rfl⟩:=f;exact in_str (cy I q rfl)
theorem Ip(b:Expr){e:CmpOp}(h:e≠.In:=by decide)(f:e≠.NotIn:=by decide):lX e b=false:=by
 have g:(e==CmpOp.In)=false:=by cases e<;>first|rfl|exact absurd rfl h
 have i:(e==CmpOp.NotIn)=false:=by cases e<;>first|rfl|exact absurd rfl f
 cases b<;>simp[lX,g,i]
theorem Ew{e:CmpOp}{r:R2}(f:nZ X (fu e) r)(g:PE X a ta)(i:PE X b tb)(j:lX e b=false):PE X (.Compare a [e] [b] pos) (aD r ta tb):=by
 intro k s σ H Q I h;exact wpAny_Compare1 (LG g i I h fun v u l x y m n o p q=>f k l σ m x y v u Q n o p q) j
def aS(t:TE):TT:=fun σ H Q=>t σ H fun x H'=>∃k,x=.bl k/\Q k H'
theorem Es{f:CmpOp}{r:R2}(i:nZ X (fu f) r)(j:PE X a ta)(l:PE X b tb)(m:lX f b=false):PT X (.Compare a [f] [b] pos) (aS (aD r ta tb)):=by
 intro g s σ H Q I h;refine wpAny_isTrue_Compare1 (du (j g s σ H _ I h) fun v n ⟨x,o,p,q,t⟩=>du (l g n σ o _ p t) fun u w ⟨y,A,B,C,D⟩ =>
  du (i g w σ A x y v u _ B q C D) fun c M ⟨z,E,G,J,k,e,L⟩=>?_) m
 subst e;cases J;exact sW ⟨E,G,L⟩
theorem so:(ak:Nat)<2 ^ 63:=by rw[ma];decide
theorem o5:nZ X (sR .Add) (fun x y H Q=>∃i j,x=.str i/\y=.str j/\i.length+j.length<=ak/\Q (.str (i++j)) H):=by
 intro l s σ H x y v u Q I e f h;obtain⟨i,j,rfl,rfl,g,q⟩:=h;obtain⟨t,rfl⟩:=e;obtain⟨k,rfl⟩:=f;exact add_str (fun k tk=>⟨.str (i++j),H,I.tok _,⟨_,rfl⟩,q⟩) g
theorem vals1{x:V}{e:Zf}(r:bA [x] e):∃u,e=[u]/\RelV x u:=by
 cases r with
 |cons f g=>cases g;exact⟨_,rfl,f⟩
theorem vals2{x y:V}{e:Zf}(r:bA [x,y] e):∃u f,e=[u,f]/\RelV x u/\RelV y f:=by
 cases r with
 |cons g h =>
  cases h with
  |cons i j=>cases j;exact⟨_,_,rfl,g,i⟩
end
end L2
namespace L2
open PySem PySem.Spec PyProof.Rows
structure DA(h:Heap)(x dx C:Addr)(mA:Str->Option Value):Prop where
 obj:h.get? x=some (sV C dx)
 ns:h.Ns1 dx mA
 ne:dx≠x
theorem FZ{h:Heap}{g:Addr}{i:Str->Option Value}(n:h.Ns1 g i):∃j,h.get? g=some j/\∀name,DY name j=some (i name):=by
 obtain⟨o,k,v,l,m,p,_,r⟩:=n;refine⟨o,l,fun name=>?_⟩;have e:=r name;unfold nsFind findBy at e;rw[<-Array.find?_toList]at e;unfold DY;rw[m];dsimp only;split
 ·rename_i y q;rw[q]at e;exact congrArg some e
 ·rename_i q;rw[q]at e;have a:k.toList.any (·.refKey)=false:=by
   rw[List.any_eq_false];intro y s;obtain⟨z,t,f⟩:=p y (Array.mem_toList_iff.mp s);simp[ic.refKey,f]
  have u:¬k.toList.any (·.refKey)=true:=by rw[a];exact hV
  rw[if_neg u];exact congrArg some e
theorem DA.look{h:Heap}{x e C:Addr}{f:Str->Option Value}(I:DA h x e C f):∃a,PySem.W.InstAt h x (sV C e) C (some a)/\∀name,DY name a=some (f name) :=
 let⟨a,g,i⟩:=FZ I.ns
 ⟨a,⟨I.obj,rfl,rfl,g⟩,i⟩
section
variable{prog:bR}{w:World}{A:Around}{E:Zc}{s:Shared}{K:Za}{x dx C f:Addr}{mA:Str->Option Value}{name:Str}{v:Value}
theorem Ko{a:Bool}{Q:Zc}(X:K.In s.heap)(I:DA s.heap x dx C mA)(g:AF K C name=true)(i:DX K C=true)
  (j:fV K (.ref C) name=some none) (k:mA name=some v) (e:PySem.W.handedIn v=true) (h:Q v { s with toks:=s.toks+1 }) :
  wpAny (model prog w) A (getAttr (.ref x) name a) Q E s:=by
 obtain⟨m,J,l⟩:=I.look;exact PySem.W.get_value X J (PySem.W.plainGet_of g).1 (PySem.W.findObj_own i j rfl (by rw[l,k])) e h
theorem IG{e:Sem Bool}{Q:Value×List Value->Shared->Prop}(X:K.In s.heap)(I:DA s.heap x dx C mA)(a:AF K C name=true)
  (hf:fV K (.ref C) name=some (some (.ref f))) (g:AE K (.ref f)=true) (i:mA name=none) (h:Q (.ref f,[.ref x]) s) :
  wpAny (model prog w) A (sQ (.ref x) name e) Q E s:=by
 obtain⟨j,J,k⟩:=I.look;exact PySem.W.method_fn X J (PySem.W.plainGet_of a).1 (PySem.W.plainGet_of a).2 hf (beq_iff_eq.mp g) (by show(DY name j).map (·.isSome)=some false;rw[k,i];rfl) h
theorem JJ{n:Zb}{Q:Unit->Shared->Prop}(X:K.In s.heap)(I:DA s.heap x dx C mA)
  (o:fV K (.ref C) "__setattr__"=some (some (.builtin "object.__setattr__"))) (p:PySem.W.plainOver K C=true) (q:PySem.W.takerIn K C name=some none) (t:DX K C=true)
  (u:PySem.Within mA n) (z:n.length<=ak)
  (h:∀i,DA i x dx C (fun y=>if y=name then some v else mA y)->iN dx s.heap i->Q () { s with heap:=i,toks:=s.toks+2 }) :
  wpAny (model prog w) A (setAttr (.ref x) name v) Q E s:=by
 obtain⟨H,J,L⟩:=I.look;refine PySem.W.set_plain X J o (PySem.W.osa_open (s:={ s with toks:=s.toks+1 }) (r:=none) X J p q fun b=>?_);obtain⟨M,B,j⟩:=PySem.W.any_some t;have hx:s.heap.get? x=some ⟨.ref C,some dx,.plain,#[]⟩:=I.obj;refine am (aQ (am (am (wpAny_loadPart hx (am (PySem.W.Looks.here (s:={ s with toks:=s.toks+1 }) (PySem.W.looks_clsIn X B) ?_))))));rw[j];refine aQ (a:=some dx) (am (aQ (am ?_)));refine wpAny_nsSet1 (s:={ s with toks:=s.toks+1 }) I.ns fun i e g=>?_;obtain⟨N,D,G,k,l,m⟩:=e.count (PySem.Within.cons name v u);refine am (wpAny_lookBehind k (by rw[l];exact pastItsLine_dict (bI m (by rw[fF];omega))) ?_);exact aQ (h _ ⟨(g.2 _ (iO I.ne)).trans I.obj,e,I.ne⟩ g)
theorem Ix{R:Result->Shared->Prop}{a:Zf}{e:List (Str×Value)}(X:K.In s.heap)(i:AD K C=true)
  (hi:fV K (.ref C) "__init__"=some (some (.ref f))) (hf:PySem.W.typeIn K (.ref f)=some (.type "function"))
  (h:zzl78 (model prog w) (A.under (.builtin "type.__call__" ⟨.ref C::a,e⟩)) (.call (.ref f) ⟨.ref (s.heap.objs.size+1)::a,e⟩) (PySem.W.InitBack (s.heap.objs.size+1) R)
   { s with heap:=(s.heap.push pN).push (sV C s.heap.objs.size) }) :
  zzl78 (model prog w) A (.call (.ref C) ⟨a,e⟩) R s:=by
 obtain⟨j,g,d,t,os⟩:=s;exact PySem.W.make_core (PySem.W.makes_of X i) (PySem.W.looks_findIn X hi) (fun self=>PySem.W.bind_fn X self hf) (.inl rfl) h
end
def eB(f:Str)(v:V):List (Str×V)->List (Str×V)
 |[]=>[(f,v)]
 | (g,x)::r=>if g=f then(g,v)::r else(g,x)::eB f v r
theorem gE(f g:Str)(v:V):∀fs:List (Str×V),(eB f v fs).lookup g=if g=f then some v else fs.lookup g
 |[]=>by
  show l_ g [(f,v)]=_;by_cases h:g=f
  ·have a:(g==f)=true:=beq_iff_eq.mpr h;simp only[l_,a,if_pos h]
  ·have a:(g==f)=false:=beq_eq_false_iff_ne.mpr h;simp only[l_,a,if_neg h]
 | (k,x)::r=>by
  have j:=gE f g v r;rw[show eB f v ((k,x)::r)=(if k=f then(k,v)::r else(k,x)::eB f v r)from rfl]
  by_cases i:k=f
  ·rw[if_pos i];by_cases h:g=k
   ·have a:(g==k)=true:=beq_iff_eq.mpr h;simp only[l_,a,if_pos (h.trans i)]
   ·have a:(g==k)=false:=beq_eq_false_iff_ne.mpr h;simp only[l_,a,if_neg (fun e:g=f=>h (e.trans i.symm))]
  ·rw[if_neg i];by_cases h:g=k
   ·have a:(g==k)=true:=beq_iff_eq.mpr h;simp only[l_,a,if_neg (fun e:g=f=>i (h.symm.trans e))]
   ·have a:(g==k)=false:=beq_eq_false_iff_ne.mpr h;simp only[l_,a];exact j
theorem sr(f:Str)(v:V):∀fs:List (Str×V),f∈(eB f v fs).map (·.1)/\∀g,g∈fs.map (·.1)->g∈(eB f v fs).map (·.1)
 |[]=>⟨by simp[eB],fun g h=>by simp at h⟩
 | (k,x)::r=>by
  obtain⟨i,j⟩:=sr f v r;rw[show eB f v ((k,x)::r)=(if k=f then(k,v)::r else(k,x)::eB f v r)from rfl]
  by_cases a:k=f
  ·rw[if_pos a];subst a;exact⟨by simp,fun g h=>by simpa using h⟩
  ·rw[if_neg a];refine⟨?_,fun g h=>?_⟩
   ·rw[bL];exact gC _ i
   ·rw[bL]at h ⊢;rcases dC.mp h with e|e
    ·exact dC.mpr (.inl e)
    ·exact gC _ (j g e)
theorem tf(f:Str)(v:V):∀fs:List (Str×V),(eB f v fs).length<=fs.length+1
 |[]=>by simp[eB]
 | (k,x)::r=>by
  have e:=tf f v r;rw[show eB f v ((k,x)::r)=(if k=f then(k,v)::r else(k,x)::eB f v r)from rfl]
  by_cases a:k=f
  ·rw[if_pos a,fF,fF];omega
  ·rw[if_neg a,fF,fF];omega
theorem l7.some_of{v:V}{o:Option Value}(r:l7 (some v) o):∃u,o=some u/\RelV v u:=by
 cases o with
 |none=>exact(show False from r).elim
 |some u=>exact⟨u,rfl,r⟩
theorem l7.none_of{o:Option Value}(r:l7 none o):o=none:=by
 cases o with
 |none=>rfl
 |some u=>exact(show False from r).elim
theorem Gh{v:V}{u:Value}(r:RelV v u):PySem.W.handedIn u=true:=by
 cases v with
 |non=>cases(show u=Value.none from r);rfl
 |bl b=>cases(show u=Value.bool b from r);rfl
 |int i=>obtain⟨t,e⟩:=(show ∃t,u=Value.int i t from r);cases e;rfl
 |str x=>obtain⟨t,e⟩:=(show ∃t,u=Value.str x t from r);cases e;rfl
 |byt b=>obtain⟨t,e⟩:=(show ∃t,u=Value.bytes b t from r);cases e;rfl
 |flt b=>obtain⟨t,e⟩:=(show ∃t,u=Value.float b t from r);cases e;rfl
 |ref a=>cases(show u=Value.ref a from r);rfl
 |ty n=>cases(show u=Value.type n from r);rfl
section
variable{P:bR}{w:World}{H H':Hp}{h h':Heap}{a C dx:Addr}{fs fs':List (Str×V)}
theorem ur{K:Za}(i:mP P w K H h)(e:H a=some (.ins C dx fs)):∃g,DA h a dx C g/\(∀f,l7 (fs.lookup f) (g f))/\PySem.Within g (fs.map (·.1))/\fs.length<=1000/\H dx=some (.own a):=by
 obtain⟨d,z,ne,j,g,n,r,q⟩:=(show cw P w K H h a (.ins C dx fs)from i a _ e);exact⟨g,⟨j,n,ne⟩,r,q,z,d⟩
end
structure GO(K:Za)(C:Addr):Prop where
 pg:AF K C Str.empty=true
 hd:DX K C=true
 po:PySem.W.plainOver K C=true
 sa:fV K (.ref C) "__setattr__"=some (some (.builtin "object.__setattr__"))
theorem GO.get{K:Za}{C:Addr}(c:GO K C)(f:Str):AF K C f=true:=c.pg
def g8(K:Za)(C:Addr)(f:Str):Prop:=fV K (.ref C) f=some none
theorem g8.taker{K:Za}{C:Addr}{f:Str}(n:g8 K C f):PySem.W.takerIn K C f=some none:=by
 unfold PySem.W.takerIn;rw[show fV K (.ref C) f=some none from n]
 rfl
structure KI(K:Za)(C:Addr)(m:Str)(f:Addr):Prop where
 at_:fV K (.ref C) m=some (some (.ref f))
 fn:AE K (.ref f)=true
 kp:kr K (.ref f)=true
section
variable{X:Cx}{J3:Zd}{σ:St}{H:Hp}{s:Shared}{a C dx:Addr}{fs:List (Str×V)}{f:Str}{v:V}{A:Around}{E:Zc}
theorem Dn{b:Bool}{Q:Zc}(I:Inv X J3 σ H s)(e:H a=some (.ins C dx fs))(c:GO X.K C)(n:g8 X.K C f)(l:fs.lookup f=some v)
  (h:∀u g,Inv X J3 σ H g->RelV v u->Q u g):wpAny (model X.prog X.w) A (getAttr (.ref a) f b) Q E s:=by
 obtain⟨j,O,r,_,_,_⟩:=ur I.hok e;obtain⟨u,k,i⟩:=l7.some_of (v:=v) (o:=j f) (by rw[<-l];exact r f);exact Ko I.kIn O (c.get f) c.hd n k (Gh i) (h u _ (I.tok _) i)
theorem vF{m:Str}{g:Addr}{i:Sem Bool}{Q:Value×List Value->Shared->Prop}(I:Inv X J3 σ H s)(e:H a=some (.ins C dx fs))(c:GO X.K C)(k:KI X.K C m g)(l:fs.lookup m=none)
  (h:Q (.ref g,[.ref a]) s):wpAny (model X.prog X.w) A (sQ (.ref a) m i) Q E s:=by
 obtain⟨j,O,r,_,_,_⟩:=ur I.hok e;have n:j m=none:=l7.none_of (by rw[<-l];exact r m);exact IG I.kIn O (c.get m) k.at_ k.fn n h
theorem CN{y:V}{u:Value}{Q:Unit->Shared->Prop}(I:Inv X J3 σ H s)(e:H a=some (.ins C dx fs))(c:GO X.K C)(n:g8 X.K C f)(M:fs.length<1000)(m:RelV y u)
  (h:∀j,Inv X J3 σ (upd H a (.ins C dx (eB f y fs))) j->Q () j):wpAny (model X.prog X.w) A (setAttr (.ref a) f u) Q E s:=by
 obtain⟨k,O,r,wi,_,l⟩:=ur I.hok e;have p:(fs.map (·.1)).length<=ak:=by rw[ai,ma];omega
 refine JJ I.kIn O c.sa c.po n.taker c.hd wi p fun t i B=>h _ ?_;have D:∃o,t.get? dx=some o:=let⟨o,_,_,G,_⟩:=i.ns;⟨o,G⟩;refine I.write (x:=a) (e:=dx) (by rw[e];exact jS) (.inr l) (fun b q J z=>(B.2 b J).trans z) D ?_;refine⟨by rw[aj O.ne];exact l,?_,O.ne,i.obj,_,i.ns,fun g=>?_,fun g L=>?_⟩
 ·have:=tf f y fs;omega
 ·show l7 ((eB f y fs).lookup g) (if g=f then some u else k g)
  rw[gE];by_cases q:g=f
  ·rw[if_pos q,if_pos q];exact m
  ·rw[if_neg q,if_neg q];exact r g
 ·by_cases q:g=f
  ·rw[q];exact(sr f y fs).1
  ·refine(sr f y fs).2 g (wi g fun z=>L ?_);show(if g=f then some u else k g)=none
   rw[if_neg q];exact z
theorem Inv.made(I:Inv X J3 σ H s):Inv X J3 σ (upd (upd H s.heap.objs.size (.own (s.heap.objs.size+1))) (s.heap.objs.size+1) (.ins C s.heap.objs.size []))
  { s with heap:=(s.heap.push pN).push (sV C s.heap.objs.size) }:=by
 have g:(s.heap.push pN).get? s.heap.objs.size=some pN:=de s.heap rfl;have h:((s.heap.push pN).push (sV C s.heap.objs.size)).get? (s.heap.objs.size+1)=some (sV C s.heap.objs.size):=by
  have:=de (s.heap.push pN) (o:=sV C s.heap.objs.size) rfl;rwa[pM]at this
 have i:(s.heap.push pN).Ns s.heap.objs.size (fun _=>none):=⟨pN,#[],_,g,rfl,(fun e j=>absurd j (by simp)),fun _=>rfl⟩;have k:=I.laid (a:=s.heap.objs.size) (o:=.own (s.heap.objs.size+1)) (h':=s.heap.push pN) (t':=s.toks) (fun b u q=>bt _ q) (aR _) ⟨_,g⟩;refine k.laid (a:=s.heap.objs.size+1) (o:=.ins C s.heap.objs.size []) (t':=s.toks) (fun b u q=>bt _ q) (Nat.le_of_eq (pM _ _)) ?_;have ne:s.heap.objs.size≠s.heap.objs.size+1:=cK (DW _);refine⟨by rw[aj ne,aa],c_ _,ne,h,fun _=>none,(Heap.Ns1.of_empty i).at fun o q=>bt _ q,fun _=>jS,fun y l=>absurd rfl l⟩
theorem KC{g:bR}{w:World}{i:Env}{e:Expr}{f:Str}{k:Pos}{s:Shared}{Q:Zc}(l:w_ e f i (eval e i)=eval e i)
  (h:wpAny (model g w) A (eval e i) (fun o j=>wpAny (model g w) A (getAttr o f true) Q E j) E s):wpAny (model g w) A (eval (.Attribute e f k) i) Q E s :=
 Attribute_any_ h (by rw[arm_eval_Attribute,l])
end
def tO(K:Za)(ta:TE)(f:Str):TE:=fun σ H Q=>ta σ H fun x H1=>∃a C dx fs v,x=.ref a/\H1 a=some (.ins C dx fs)/\GO K C/\g8 K C f/\fs.lookup f=some v/\Q v H1
def zH(K:Za)(ta tv:TE)(f:Str):TS:=fun D σ H=>tv σ H fun y H1=>ta σ H1 fun x H2=>∃a C dx fs,x=.ref a/\H2 a=some (.ins C dx fs)/\GO K C/\g8 K C f/\fs.length<1000 /\
 D.nx σ (upd H2 a (.ins C dx (eB f y fs)))
section
variable{X:Cx}{o e value:Expr}{f:Str}{pos pos' J6:Pos}{ta tv:TE}
theorem jF(i:PE X e ta)(j:w_ e f X.env (eval e X.env)=eval e X.env):PE X (.Attribute e f pos) (tO X.K ta f):=by
 intro k s σ H Q I h;refine KC j (du (i k s σ H _ I h) fun u z g=>?_);obtain⟨x,m,p,r,a,C,A,fs,v,ex,t,c,n,l,q⟩:=g;subst ex;obtain rfl:u=Value.ref a:=r;exact Dn p t c n l fun B D w y=>⟨v,m,w,y,q⟩
theorem mC(j:PE X o ta)(k:PE X value tv)(m:uD value (some (.Attribute o f pos')) pos.line X.env=pure false):PS X (.Assign [.Attribute o f pos'] value pos) (zH X.K ta tv f):=by
 intro i s σ H D I h;refine plainObj_wpAny_Assign_Attribute (du (k i s σ H _ I h) fun u p ⟨y,r,t,v,q⟩=>du (j i p σ r _ t q) fun w J g=>?_) m;obtain⟨x,L,z,A,a,C,M,fs,ex,B,c,n,l,E⟩:=g;subst ex;obtain rfl:w=Value.ref a:=A;exact CN z B c n l v fun N G=>⟨σ,_,G,E⟩
end
section
variable{X:Cx}{J3:Zd}{σ:St}{H:Hp}{s:Shared}{A:Around}{E:Zc}{Q:Zc}{c:Value}{b:Bool}
inductive jN(K:Za)(H:Hp):V->Value->Prop where
 |non:jN K H .non (.type "NoneType")
 |bl (x:Bool):jN K H (.bl x) (.type "bool")
 |int (i:Int):jN K H (.int i) (.type "int")
 |str (x:Str):jN K H (.str x) (.type "str")
 |flt (x:UInt64):jN K H (.flt x) (.type "float")
 |lst {a:Addr}{xs:List V}(e:H a=some (.lst xs)):jN K H (.ref a) (.type "list")
 |frz {a:Addr}{o:Obj}{xs:List V}(e:H a=some (.frz o (.lst xs))):jN K H (.ref a) (.type "list")
 |tup {a:Addr}{xs:List V}(e:H a=some (.tup xs)):jN K H (.ref a) (.type "tuple")
 |dK {a:Addr}{kvs:List (cX×V)}(e:H a=some (.dK kvs)):jN K H (.ref a) (.type "dict")
 |dT {a:Addr}{kvs:List (TK×V)}(e:H a=some (.dT kvs)):jN K H (.ref a) (.type "dict")
 |ins {a C dx:Addr}{fs:List (Str×V)}(e:H a=some (.ins C dx fs)) (cl:GO K C) (ha:fV K (.ref C) "__class__"=some (some (.builtin "object.__class__")))
   (hn:PySem.W.specialIn K (.builtin "object.__class__") "__get__"=some (some (.builtin "getset_descriptor.__get__"))) (htk:PySem.W.takesIn K (.builtin "object.__class__")=some true)
   (hm:PySem.W.mroIn K C (.type "object")=some true):jN K H (.ref a) (.ref C)
theorem Ga{x:V}{u t:Value}(I:Inv X J3 σ H s)(f:RelV x u)(ty:jN X.K H x t)(e:DV X.K t c=some b)(h:∀tk,Q (.bool b) { s with toks:=tk }):
  wpAny (model X.prog X.w) A (call (.builtin "isinstance") [u,c]) Q E s:=by
 cases ty with
 |non=>cases(show u=Value.none from f);exact kq PySem.W.kitx_none I.kIn jS e (fun z=>nomatch z) h
 |bl y=>cases(show u=Value.bool y from f);exact kq PySem.W.kitx_bool I.kIn jS e (fun z=>nomatch z) h
 |int i=>obtain⟨t,q⟩:=(show ∃t,u=Value.int i t from f);cases q;exact kq PySem.W.kitx_int I.kIn jS e (fun z=>nomatch z) h
 |str y=>obtain⟨t,q⟩:=(show ∃t,u=Value.str y t from f);cases q;exact kq PySem.W.kitx_str I.kIn jS e (fun z=>nomatch z) h
 |flt y=>obtain⟨t,q⟩:=(show ∃t,u=Value.float y t from f);cases q;exact kq PySem.W.kitx_float I.kIn jS e (fun z=>nomatch z) h
 |@lst a l g =>
  cases(show u=Value.ref a from f);obtain⟨_,_,n,_,j⟩:=(show cw X.prog X.w X.K H s.heap a (.lst l)from I.hok a _ g);exact kq PySem.W.kitx_list I.kIn ⟨_,j,rfl⟩ e (fun z=>nomatch z) h
 |@frz a B l g =>
  cases(show u=Value.ref a from f);obtain⟨_,_,_,n,_,j⟩:=(show cw X.prog X.w X.K H s.heap a (.frz B (.lst l))from I.hok a _ g);exact kq PySem.W.kitx_list I.kIn ⟨_,j,rfl⟩ e (fun z=>nomatch z) h
 |@tup a l g =>
  cases(show u=Value.ref a from f);obtain⟨_,_,_,p⟩:=(show cw X.prog X.w X.K H s.heap a (.tup l)from I.hok a _ g);obtain⟨o,j,m,_⟩:=p;exact kq PySem.W.kitx_tuple I.kIn ⟨o,j,m⟩ e (fun z=>nomatch z) h
 |@dK a k g =>
  cases(show u=Value.ref a from f);obtain⟨_,_,T,_,p⟩:=(show cw X.prog X.w X.K H s.heap a (.dK k)from I.hok a _ g);obtain⟨o,D,G,j,m,_⟩:=p;exact kq PySem.W.kitx_dict I.kIn ⟨o,j,m.1⟩ e (fun z=>nomatch z) h
 |@dT a k g =>
  cases(show u=Value.ref a from f);obtain⟨_,_,l,_,o,D,G,j,m,_⟩:=(show cw X.prog X.w X.K H s.heap a (.dT k)from I.hok a _ g);exact kq PySem.W.kitx_dict I.kIn ⟨o,j,m.1⟩ e (fun z=>nomatch z) h
 |@ins a C U fs g v L M r N =>
  cases(show u=Value.ref a from f);obtain⟨Y,O,_⟩:=ur I.hok g;obtain⟨od,J,_⟩:=O.look;exact kq (PySem.W.kitx_own (v.get _) v.hd L M r N) I.kIn J e (fun z=>nomatch z) h
end
end L2
namespace L2
open PySem PySem.Spec PyProof.Rows
structure fN(k:Nat)(A:Around):Prop where
 hd:A.handled=none
 dp:A.depth+3 * k+5<recursionLimit
 un:A.units+16 * k+200<cLine
theorem fN.mono{j k:Nat}{A:Around}(r:fN k A)(h:j<=k):fN j A:=⟨r.hd,by have:=r.dp;omega,by have:=r.un;omega⟩
theorem fN.deeper{k:Nat}{A:Around}(r:fN (k+1) A)(a:Env):fN k (A.deeper a) :=
 ⟨r.hd,by have:=r.dp;show A.depth+1+3 * k+5<_;omega,by have:=r.un;show A.units+3+16 * k+200<_;omega⟩
theorem Dg{A:Around}{C:Addr}{a:Zf}{e:List (Str×Value)}:(A.under (.builtin "type.__call__" ⟨.ref C::a,e⟩)).depth=A.depth+1:=by
 first|rfl|simp[Around.under,Code.weight,Code.isCreation,Code.isGuard,Code.isCaller,Code.frames,Code.isFrame,guardIds]
theorem Df{A:Around}{C:Addr}{a:Zf}{e:List (Str×Value)}:(A.under (.builtin "type.__call__" ⟨.ref C::a,e⟩)).units=A.units+1:=by
 first|rfl|simp[Around.under,Code.cUnits,Code.frames,Code.isFrame]
theorem fN.make{k:Nat}{A:Around}(r:fN (k+1) A)(C:Addr)(a:Zf)(e:List (Str×Value)):fN k (A.under (.builtin "type.__call__" ⟨.ref C::a,e⟩)) :=
 ⟨r.hd,by have:=r.dp;rw[Dg];omega,by have:=r.un;rw[Df];omega⟩
theorem fN.depth{k:Nat}{A:Around}(r:fN k A):A.depth<recursionLimit:=by have:=r.dp;omega
theorem fN.units{k:Nat}{A:Around}(r:fN k A):A.units+64<cLine:=by have:=r.un;omega
def aY:TA:=fun _ H Q=>Q [] H
def av(ta:TE)(tr:TA):TA:=fun σ H Q=>ta σ H fun x H1=>tr σ H1 fun xs H2=>Q (x::xs) H2
abbrev aB(a:TE):TA:=av a aY
abbrev aO(a b:TE):TA:=av a (av b aY)
abbrev dq(a b c:TE):TA:=av a (av b (av c aY))
section
variable{X:Cx}{e:Expr}{es:List Expr}{te:TE}{t:TA}{pos:Pos}
theorem ba:PA X [] aY:=fun _ _ _ _ H Q I h=>Calls.spliced_nil ⟨[],H,I,.nil,h⟩
theorem be(g:PE X e te)(i:PA X es t)(j:a_ (e::es) X.env=(false,eval e X.env)::a_ es X.env:=by rfl):PA X (e::es) (av te t):=by
 intro pos f s σ H Q I h;rw[j];show wpAny _ _ (spliced ((false,eval e X.env)::backTo pos (a_ es X.env))) _ _ s;refine DU (du (g f s σ H _ I h) fun u k a=>?_);obtain⟨x,l,m,n,o⟩:=a;exact du (i pos f k σ l _ m o) fun y z ⟨p,q,r,v,w⟩=>⟨x::p,q,r,.cons n v,w⟩
def bP(t:TA):TE:=fun σ H Q=>t σ H fun xs H1=>xs.length<=ak/\∀p,H1 p=none->Q (.ref p) (upd H1 p (.tup xs))
def bC(t:TA):TE:=fun σ H Q=>t σ H fun xs H1=>xs.length<=ak/\∀p,H1 p=none->Q (.ref p) (upd H1 p (.lst xs))
theorem aU{i}(h:PA X es t):PE X (.Tuple es i pos) (bP t):=by
 intro j s σ H Q I k;refine wpAny_Tuple_spliced (du (h pos j s σ H _ I k) fun l a ⟨m,f,g,r,z,q⟩=>⟨by rw[<-r.length];exact z,?_⟩);have hf:f a.heap.objs.size=none:=g.hok.fresh (aR _);refine⟨.ref a.heap.objs.size,upd f a.heap.objs.size (.tup m),g.laid (t':=a.toks) (fun b u e=>bt _ e) (aR _) ?_,rfl,q _ hf⟩;exact⟨z,l,r,⟨_,de _ rfl,rfl,_,rfl⟩⟩
theorem aV(h:PA X es t):PE X (.List es pos) (bC t):=by
 intro i s σ H Q I j;refine wpAny_List_spliced (du (h pos i s σ H _ I j) fun k a ⟨l,f,g,r,z,q⟩=>⟨by rw[<-r.length];exact z,?_⟩);have hf:f a.heap.objs.size=none:=g.hok.fresh (aR _);refine⟨.ref a.heap.objs.size,upd f a.heap.objs.size (.lst l),g.laid (t':=a.toks) (fun b u e=>bt _ e) (aR _) ?_,rfl,q _ hf⟩;exact⟨z,k,0,r,de _ rfl⟩
end
abbrev Sp:=List V->Hp->VK->XK->Prop
abbrev GV:=List Env->Hp->Shared->XK->Value->Shared->Prop
structure DN(P:bR)(w:World)(K:Za)(mg:Str->Option Value)(base:Heap)(A:Around)(outer:List Env)(s:Shared)(H:Hp):Prop where
 frames:A.frames=some outer
 mod:Mod K mg base
 bs:∀b o,base.get? b=some o->s.heap.get? b=some o/\H b=none
 bsz:base.objs.size<=s.heap.objs.size
 funs:s.heap.FunFrames base outer
 frf:∀b∈GS outer,H b=none
 hok:mP P w K H s.heap
 bare:pP s.gens
def CE(outer:List Env)(P:bR)(w:World)(K:Za)(H:Hp)(s:Shared)(Q:VK)(u:Value)(s':Shared):Prop :=
 ∃v H',s'.os=s.os/\pP s'.gens/\Un (GS outer) [] H H' s.heap s'.heap/\mP P w K H' s'.heap/\RelV v u/\Q v H'
def CR(CX:GV)(outer:List Env)(P:bR)(w:World)(K:Za)(H:Hp)(s:Shared)(Q:VK)(E:XK)(r:Result)(s':Shared):Prop :=
 match r with
 |.ok (.ret u)=>CE outer P w K H s Q u s'
 |.ok _=>False
 |.error e=>CX outer H s E e s'
structure mR(P:bR)(w:World)(K:Za)(mg:Str->Option Value)(base:Heap)(CX:GV)(k:Nat)(f:Addr)(fd:lU)(ps:Zb)(sp:Sp):Prop where
 len:∀vs H Q E,sp vs H Q E->vs.length=ps.length
 run:∀(A:Around) (outer:List Env) (s:Shared) (H:Hp) (args:Args) (us:Zf) (vs:List V) (Q:VK) (E:XK),fN k A->DN P w K mg base A outer s H->uB s fd args (ps.zip us)->bA vs us->sp vs H Q E ->
  zzl78 (model P w) A (.call (.ref f) args) (CR CX outer P w K H s Q E) s
theorem DN.make{P:bR}{w:World}{K:Za}{a:Str->Option Value}{base:Heap}{A:Around}{outer:List Env}{s:Shared}{H:Hp}(e:DN P w K a base A outer s H)(C:Addr)(f:Zf)(g:List (Str×Value)):
  DN P w K a base (A.under (.builtin "type.__call__" ⟨.ref C::f,g⟩)) outer s H:=⟨by first|exact e.frames|(simpa[Around.under,Code.envs,Code.isFrame,pushEnvs]using e.frames),e.mod,e.bs,e.bsz,e.funs,e.frf,e.hok,e.bare⟩
section
variable{X:Cx}{J3:Zd}{σ:St}{H:Hp}{s s':Shared}
theorem Inv.env0(I:Inv X J3 σ H s):DN X.prog X.w X.K X.mg X.base X.A X.stack s H :=
 ⟨I.ok.frames,I.ok.mod,I.bs,bI I.ok.bsz I.sz,I.stack,I.stkFree,I.hok,I.bare⟩
theorem Inv.after{Q:VK}{u:Value}(I:Inv X J3 σ H s)(h:CE X.stack X.prog X.w X.K H s Q u s'):EP X J3 σ Q u s':=by
 obtain⟨v,i,os,a,un,e,r,q⟩:=h;obtain⟨j,g,d,t,f⟩:=s';obtain rfl:f=s.os:=os;exact⟨v,i,I.call (h':=j) (g':=g) (d':=d) (t':=t) (ch:=[]) un e a (fun b z=>absurd z (by simp)),r,q⟩
end
def KP(sp:Sp)(dvs:List V)(E:XK)(t:TA):TE:=fun σ H Q=>t σ H fun vs H1=>sp (vs++dvs) H1 Q E
def bZ(C:Addr)(m:Str)(sp:Sp)(dvs:List V)(E:XK)(ta:TE)(t:TA):TE:=fun σ H Q=>ta σ H fun x H1=>∃a dx fs,x=.ref a/\H1 a=some (.ins C dx fs)/\fs.lookup m=none /\
 t σ H1 fun vs H2=>sp (x::(vs++dvs)) H2 Q E
def El(C:Addr)(sp:Sp)(dvs:List V)(E:XK)(t:TA):TE:=fun σ H Q=>t σ H fun vs H1=>∀x dx,H1 x=none->H1 dx=none->dx≠x ->
 sp (.ref x::(vs++dvs)) (upd (upd H1 dx (.own x)) x (.ins C dx [])) (fun v H2=>v=.non/\Q (.ref x) H2) E
def Binds(K:Za)(fd:lU)(ps:Zb)(ds:Zf):Prop :=
 ∀(s:Shared) (us:Zf),K.In s.heap->(us++ds).length=ps.length->uB s fd ⟨us,[]⟩ (ps.zip (us++ds))
theorem Binds.all{K:Za}{f:lU}{e:Zb}(h:∀a:List Value,a.length=e.length->bindArgs f ⟨a,[]⟩=pure (e.zip a)):Binds K f e []:=fun s a _ g=>by
 rw[dS]at g ⊢;exact .of_eq (h a g)
def ph(CX:GV)(X:Cx)(E:XK):Prop:=∀(J3:Zd) (σ:St) (H:Hp) (s:Shared) (e:Value) (s':Shared),Inv X J3 σ H s->CX X.stack H s E e s'->X.xe e s'
section
variable{X:Cx}{CX:GV}{k:Nat}{f C:Addr}{fd:lU}{ps:Zb}{sp:Sp}{dvs:List V}{ds:Zf}{E:XK}{x m:Str}{p pos J5:Pos}{e o:Expr}{es:List Expr}{ta:TE}{t:TA}
theorem CO{g:Zd}{σ:St}{H:Hp}{s:Shared}{Q:VK}{us:Zf}{vs:List V}(F:mR X.prog X.w X.K X.mg X.base CX k f fd ps sp)(j:fN k X.A)(l:Binds X.K fd ps ds)(n:bA dvs ds)(hx:ph CX X E)
  (I:Inv X g σ H s) (r:bA vs us) (h:sp (vs++dvs) H Q E):wpAny (model X.prog X.w) X.A (call (.ref f) us) (EP X g σ Q) X.xe s:=by
 have i:bA (vs++dvs) (us++ds):=r.append n;have q:(us++ds).length=ps.length:=by rw[<-i.length];exact F.len _ _ _ _ h
 refine wpAny_call (DS (F.run X.A X.stack s H ⟨us,[]⟩ (us++ds) (vs++dvs) Q E j I.env0 (l s us I.kIn q) i h) fun r v a=>?_);cases r with
 |error e=>exact hx g σ H s e v I a
 |ok y =>
  cases y with
  |ret u=>exact I.after a
  |next=>exact kz a
  |brk=>exact kz a
  |cont=>exact kz a
theorem Kf(F:mR X.prog X.w X.K X.mg X.base CX k f fd ps sp)(j:fN k X.A)(l:Gl X x)(n:X.mg x=some (.ref f))(u:kr X.K (.ref f)=true)(v:Binds X.K fd ps ds)(y:bA dvs ds)(hx:ph CX X E)
  (z:PA X (e::es) t) (a:(x==("__debug__":Str))=false:=by decide) (B:a_ (e::es) X.env=(false,eval e X.env)::a_ es X.env:=by rfl) (g:(backTo pos (a_ es X.env)).any (·.1)=false:=by rfl) :
  PE X (.Call (.Name x p) (e::es) [] pos) (KP sp dvs E t):=by
 intro D s σ H Q I h;refine DR (zV I l n ?_ a);refine PySem.W.callWith_K (h₀:=X.base) I.ok.mod.kin u (du (z pos D s σ H _ I h) fun G J ⟨L,M,i,r,q⟩=>⟨i.kIn,?_⟩) B g;exact CO F j v y hx i r q
theorem J_{pl:Sem Bool}(D:PE X o ta)(c:GO X.K C)(n:KI X.K C m f)(F:mR X.prog X.w X.K X.mg X.base CX k f fd ps sp)(G:fN k X.A)(J:Binds X.K fd ps ds)(L:bA dvs ds)(hx:ph CX X E)(M:PA X (e::es) t)
  (g:a_ (e::es) X.env=(false,eval e X.env)::a_ es X.env:=by rfl) (i:(backTo pos (a_ es X.env)).any (·.1)=false:=by rfl)
  (N:eval (.Call (.Attribute o m J5) (e::es) [] pos) X.env=(do
   let v <- eval o X.env
   sT J5.atName
   let(f,first) <- lV [v] (sQ v m pl)
   w8 pos f first (backTo pos (a_ (e::es) X.env)) (sP pos (sO [] X.env))):=by rfl) :
  PE X (.Call (.Attribute o m J5) (e::es) [] pos) (bZ C m sp dvs E ta t):=by
 intro y s σ H Q I h;refine PySem.W.methodCall_KW (pl:=pl) (du (D y s σ H _ I h) fun u O j=>?_) N;obtain⟨x,T,z,U,a,dx,fs,ex,Y,l,q⟩:=j;subst ex;obtain rfl:u=Value.ref a:=U;refine vF z Y c n l ?_;refine PySem.W.callWith_K (first:=[.ref a]) (h₀:=X.base) I.ok.mod.kin n.kp (du (M pos y O σ T _ z q) fun us s2 ⟨vs,H2,B,r,q2⟩=>⟨B.kIn,?_⟩) g i
 exact CO (us:=.ref a::us) (vs:=.ref a::vs) F G J L hx B (.cons rfl r) q2
theorem Ij{pl:Sem Bool}(r:PE X o ta)(c:GO X.K C)(j:KI X.K C m f)(F:mR X.prog X.w X.K X.mg X.base CX k f fd ps sp)(v:fN k X.A)(y:Binds X.K fd ps ds)(z:bA dvs ds)(hx:ph CX X E)
  (B:eval (.Call (.Attribute o m J5) [] [] pos) X.env=(do
   let n <- eval o X.env
   sT J5.atName
   let(f,first) <- lV [n] (sQ n m pl)
   w8 pos f first (backTo pos (a_ [] X.env)) (sP pos (sO [] X.env))):=by rfl) :
  PE X (.Call (.Attribute o m J5) [] [] pos) (bZ C m sp dvs E ta aY):=by
 intro D s σ H Q I h;refine PySem.W.methodCall_KW (pl:=pl) (du (r D s σ H _ I h) fun u L g=>?_) B;obtain⟨x,M,i,G,a,N,fs,ex,J,l,q⟩:=g;subst ex;obtain rfl:u=Value.ref a:=G;refine vF i J c j l ?_;exact PySem.W.callWith_K0 (first:=[.ref a]) i.kIn j.kp (CO (us:=[.ref a]) (vs:=[.ref a]) F v y z hx i (.cons rfl .nil) q)
structure Mk(K:Za)(C f:Addr):Prop where
 makes:AD K C=true
 init:fV K (.ref C) "__init__"=some (some (.ref f))
 fn:AE K (.ref f)=true
 kp:kr K (.ref C)=true
theorem Hw{l:Zd}{σ:St}{H:Hp}{s:Shared}{Q:VK}{g:Zf}{n:List V}(M:Mk X.K C f)(F:mR X.prog X.w X.K X.mg X.base CX k f fd ps sp)(z:fN (k+1) X.A)(B:Binds X.K fd ps ds)(D:bA dvs ds)
  (hx:ph CX X E) (I:Inv X l σ H s) (r:bA n g)
  (h:∀x i,H x=none->H i=none->i≠x->sp (.ref x::(n++dvs)) (upd (upd H i (.own x)) x (.ins C i [])) (fun v G=>v=.non/\Q (.ref x) G) E) :
  wpAny (model X.prog X.w) X.A (call (.ref C) g) (EP X l σ Q) X.xe s:=by
 have q:=h (s.heap.objs.size+1) s.heap.objs.size (I.hok.fresh (DQ _)) (I.hok.fresh (aR _)) (cK (DW _));have j:=Inv.made (C:=C) I;have y:bA (V.ref (s.heap.objs.size+1)::(n++dvs)) (Value.ref (s.heap.objs.size+1)::(g++ds)):=.cons rfl (r.append D);have J:(Value.ref (s.heap.objs.size+1)::g++ds).length=ps.length:=by
  have e:=y.length;rw[F.len _ _ _ _ q]at e;exact e.symm
 refine wpAny_call (Ix (f:=f) I.kIn M.makes M.init (beq_iff_eq.mp M.fn) (DS (F.run _ X.stack _ _ ⟨Value.ref (s.heap.objs.size+1)::g,[]⟩ (Value.ref (s.heap.objs.size+1)::(g++ds)) _ _ E (z.make C g [])
  (j.env0.make C g []) (B _ (Value.ref (s.heap.objs.size+1)::g) j.kIn J) y q) fun r L a=>?_))
 cases r with
 |error e=>exact hx l σ _ _ e L j a
 |ok N =>
  cases N with
  |ret u =>
   obtain⟨v,O,T,U,Y,q3⟩:=j.after a;subst Y;exact⟨U,⟨V.ref (s.heap.objs.size+1),O,T,rfl,q3⟩⟩
  |next=>exact kz a
  |brk=>exact kz a
  |cont=>exact kz a
theorem Ka(M:Mk X.K C f)(F:mR X.prog X.w X.K X.mg X.base CX k f fd ps sp)(j:fN (k+1) X.A)(l:Gl X x)(n:X.mg x=some (.ref C))(u:Binds X.K fd ps ds)(v:bA dvs ds)(hx:ph CX X E)
  (y:PA X (e::es) t) (a:(x==("__debug__":Str))=false:=by decide) (z:a_ (e::es) X.env=(false,eval e X.env)::a_ es X.env:=by rfl) (g:(backTo pos (a_ es X.env)).any (·.1)=false:=by rfl) :
  PE X (.Call (.Name x p) (e::es) [] pos) (El C sp dvs E t):=by
 intro B s σ H Q I h;refine DR (zV I l n ?_ a);refine PySem.W.callWith_K (h₀:=X.base) I.ok.mod.kin M.kp (du (y pos B s σ H _ I h) fun D G ⟨J,L,i,r,q⟩=>⟨i.kIn,?_⟩) z g;exact Hw M F j u v hx i r q
end
structure lC(N P:Zb)(sc:Scope):Prop where
 kind:sc.kind=.function
 co:sc.isCoroutine=false
 gen:sc.isGenerator=false
 nd:N.Nodup
 pre:N.take P.length=P
 par:∀x∈P,sc.names.lookup x=some .local∨sc.names.lookup x=some .cell
 nofree:∀y∈sc.names,y.2≠.free
theorem xP{kindOf:Str->Option ko}{x:Str}:∀{binds:List (Str×Value)}{m:Str->Option Value},(∀v,(x,v)∉binds)->bindL kindOf binds m x=m x
 |[],_,_=>rfl
 | (n,v)::r,m,h=>by
  unfold bindL;rw[xP fun w a=>h w (gC _ a)];split
  ·have:x≠n:=by rintro rfl;exact h v dz
   simp[this]
  ·rfl
theorem xR{kindOf:Str->Option ko}{x:Str}:∀{binds:List (Str×Value)}{m:Str->Option Value},(∀v,(x,v)∉binds)->bindC kindOf binds m x=m x
 |[],_,_=>rfl
 | (n,v)::r,m,h=>by
  unfold bindC;rw[xR fun w a=>h w (gC _ a)];split
  ·rfl
  ·have:x≠n:=by rintro rfl;exact h v dz
   simp[this]
theorem xQ{kindOf:Str->Option ko}{x:Str}{v:Value}:∀{P:Zb}{a:Zf}{i:Nat}{m:Str->Option Value},P.Nodup->P[i]?=some x->a[i]?=some v->kindOf x=some .local ->
  bindL kindOf (P.zip a) m x=some v
 |[],_,_,_,_,h,_,_=>by simp at h
 |_::_,[],_,_,_,_,h,_=>by simp at h
 |p::P,w::a,0,m,g,e,f,j=>by
  simp at e f;subst e;subst f;show bindL kindOf ((p,w)::P.zip a) m p=_;unfold bindL;rw[xP fun v k=>(jA.mp g).1 (List.of_mem_zip k).1,if_pos j];simp
 |p::P,w::a,i+1,m,g,e,f,j=>by
  show bindL kindOf ((p,w)::P.zip a) m x=_;unfold bindL;exact xQ (i:=i) (jA.mp g).2 (by simpa using e) (by simpa using f) j
theorem xS{kindOf:Str->Option ko}{x:Str}{v:Value}:∀{P:Zb}{a:Zf}{i:Nat}{m:Str->Option Value},P.Nodup->P[i]?=some x->a[i]?=some v->kindOf x≠some .local ->
  bindC kindOf (P.zip a) m x=some v
 |[],_,_,_,_,h,_,_=>by simp at h
 |_::_,[],_,_,_,_,h,_=>by simp at h
 |p::P,w::a,0,m,g,e,f,j=>by
  simp at e f;subst e;subst f;show bindC kindOf ((p,w)::P.zip a) m p=_;unfold bindC;rw[xR fun v k=>(jA.mp g).1 (List.of_mem_zip k).1,if_neg j];simp
 |p::P,w::a,i+1,m,g,e,f,j=>by
  show bindC kindOf ((p,w)::P.zip a) m x=_;unfold bindC;exact xS (i:=i) (jA.mp g).2 (by simpa using e) (by simpa using f) j
def start(N:Zb)(vs:List V):St:=vs.map some++oJ (N.length-vs.length) none
def Dt(CX:GV)(P:bR)(w:World)(K:Za)(mg:Str->Option Value)(base:Heap)(N:Zb)(qual:Str)(scope:Scope)(f:Addr)(cd:Value)(A:Around)(outer:List Env)(s:Shared)(H:Hp)(E:XK):Cx where
 prog:=P
 w:=w
 K:=K
 mg:=mg
 base:=base
 A:=A.deeper (envOfC qual scope s.heap.objs.size f cd)
 N:=N
 s₀:=s
 H₀:=H
 env:=envOfC qual scope s.heap.objs.size f cd
 outer:=outer
 stack:=envOfC qual scope s.heap.objs.size f cd::outer
 ex:=[]
 calm:=true
 fn:=fun _=>true
 pn:=[]
 xe:=fun e s'=>wpAny (model P w) (A.deeper (envOfC qual scope s.heap.objs.size f cd)) (leaving (envOfC qual scope s.heap.objs.size f cd) e) (fun _ s''=>CX outer H s E e s'') (fun e' s''=>CX outer H s E e' s'') s'
theorem BN{a:Scope}{n:Nat}{x:Str}(h:a.names.lookup x=some .cell):∃c,(cellsFrom n a.names []).lookup x=some c:=by
 have q:=PySem.W.cellsFrom_some a.names n [] (.inl h);exact yY.mp q
theorem Gd{L:GV}{P:bR}{w:World}{K:Za}{I:Str->Option Value}{base:Heap}{N m:Zb}{g:Str}{scope:Scope}{f:Addr}{D:Value}{A:Around}{outer:List Env}{s M:Shared}{H:Hp}{E:XK}{J:Zf}{o:List V}
  (S:lC N m scope) (T:A.handled=none) (l:DN P w K I base A outer s H) (hl:o.length=m.length) (r:bA o J)
  (x:InCallC s s.heap.objs.size (bindL (envOfC g scope s.heap.objs.size f D).kindOf (m.zip J) fun _=>none) (cellsFrom (s.heap.objs.size+1) scope.names []) (bindC (envOfC g scope s.heap.objs.size f D).kindOf (m.zip J) fun _=>none) M) :
  Inv (Dt L P w K I base N g scope f D A outer s H E) [] (start N o) H M:=by
 have U:m.length<=N.length:=by have:=congrArg List.length S.pre;rw[aX]at this;omega
 obtain⟨G,tk,rfl,O⟩:=x.done;have t:∀b:Addr,b∉(Dt L P w K I base N g scope f D A outer s H E).ex:=fun b z=>absurd (show b∈([]:Ze)from z) (by simp);refine⟨⟨l.mod,S.kind,rfl,rfl,aR _,fun y z c G j=>?_,fun y hy=>?_,fun y c _ h=>?_,fun _=>T,Around.frames_deeper l.frames,.inr ⟨rfl,rfl⟩,fun b z=>absurd z (t b),l.bs,l.bsz,fun b _ _=>t b,fun b z=>absurd z (t b),l.funs,l.frf⟩,
  rfl,l.bare,Un.kept O,⟨_,x.toInCall.ns,fun i y v G j h3=>?_⟩,fun y c h=>⟨_,x.cell y c h⟩,l.hok.fresh (aR _),fun y c h=>?_,fun p B=>absurd (show p∈([]:Zd)from B) (by simp),l.hok.kept O,?_⟩
 ·exact name_of_addr x.apart (uW G) (uW j)
 ·have hy:scope.names.lookup y=some .cell∨scope.names.lookup y=some .free:=hy;rcases hy with hy|hy
  ·exact BN hy
  ·exact absurd rfl (S.nofree _ (uW hy))
 ·exact cz (x.above y c (uW h))
 ·have hi:i<o.length:=by
   unfold start at j;by_cases hi:i<o.length
   ·exact hi
   ·rw[mq (by simpa using hi)]at j;rw[List.getElem?_replicate]at j;split at j<;>cases j
  have Y:o[i]?=some v:=by
   unfold start at j;rw[rL (by simpa using hi),cS]at j;cases e:o[i]? with
   |none=>rw[e]at j;cases j
   |some a=>rw[e]at j;cases j;rfl
  obtain⟨u,Q,rv⟩:=r.get Y;have B:m[i]?=some y:=by
   rw[<-S.pre,oH (by omega)];exact G
  have C:m.Nodup:=by rw[<-S.pre];exact S.nd.sublist (List.take_sublist _ _)
  refine⟨u,rv,?_⟩;rcases S.par y (bX B)with k|k
  ·exact .inl ⟨k,xQ C B Q k⟩
  ·obtain⟨c,e⟩:=BN (n:=s.heap.objs.size+1) k;refine .inr ⟨.inl k,c,e,?_⟩;have q:=x.cell y c e;rw[xS C B Q (by show scope.names.lookup y≠_;rw[k];decide)]at q;exact q
 ·exact l.hok.fresh (cz (x.above y c (uW h)))
 ·unfold start;show _=N.length;rw[aA,ai,List.length_replicate];omega
theorem Mn{D:GV}{P:bR}{w:World}{K:Za}{G:Str->Option Value}{base:Heap}{k:Nat}{f:Addr}{name a:Str}{params:Arguments}{h:List Stmt}{scope:Scope}{dV kV doc pm g ct oc:Value}{an od:Option Addr}
  {L:Array (Option Value)}{N ps:Zb}{M:Sp}(lk:K.lookup f=some ⟨oc,od,.func (jz name a params h scope dV kV doc pm an g ct),L⟩) (O:oG K g a=true) (S:lC N ps scope)
  (len:∀i H Q E,M i H Q E->i.length=ps.length)
  (j:∀(A:Around) (outer:List Env) (s:Shared) (H:Hp) (i:List V) (Q:VK) (E:XK),fN k (A.deeper (envOfC a scope s.heap.objs.size f g))->M i H Q E ->
   ∃t,Cd (Dt D P w K G base N a scope f g A outer s H E) h t/\t (bN Q) (start N i) H) :
  mR P w K G base D (k+1) f (jz name a params h scope dV kV doc pm an g ct) ps M:=by
 refine⟨len,fun A outer s H args us i Q E T z hb r B=>?_⟩;have hl:=len _ _ _ _ B;have KX:K.In s.heap:=z.mod.kin.keeps fun b o e=>(z.bs b o e).1;have U:s.heap.NoLimit:=z.mod.nolimit.keeps fun b o e=>(z.bs b o e).1;have l:∀y∈ps.zip us,scope.names.lookup y.1=some .local∨(scope.names.lookup y.1=some .cell/\((cellsFrom (s.heap.objs.size+1) scope.names []).lookup y.1).isSome=true):=fun⟨n,v⟩ hy=>by
  rcases S.par n (List.of_mem_zip hy).1 with q|q
  ·exact .inl q
  ·exact .inr ⟨q,PySem.W.cellsFrom_some _ _ _ (.inl q)⟩
 refine codeAny_call_function T.depth (KX _ _ lk) rfl S.co S.gen rfl (PySem.W.codeRec_of KX O) (hb _ _ _ _ ?_);refine wpAny_newFunctionEnv_cells S.kind l fun al he s1 x=>?_;subst he;refine⟨U.keeps x.toInCall.keep,codeAny_func ?_⟩;obtain⟨t,ht,hq⟩:=j A outer s H i Q E (T.deeper _) B;have I:Inv (Dt D P w K G base N a scope f g A outer s H E) [] (start N i) H s1:=Gd S T.hd z hl r x;refine pQ (ht [] s1 (start N i) H _ I hq) (fun fl Y m=>?_) fun e Y m=>m;have C:∀{σ':St}{p:Hp}{v:V}{u:Value},Inv (Dt D P w K G base N a scope f g A outer s H E) [] σ' p Y->RelV v u->Q v p->CE outer P w K H s Q u Y :=
  fun{σ' p v u} J rv q=>⟨v,p,J.os,J.bare,J.base,J.hok,rv,q⟩
 cases fl with
 |ret u =>
  obtain⟨v,σ',p,J,rv,q⟩:=m;exact C J rv q
 |next =>
  obtain⟨σ',p,J,q⟩:=m;exact C (v:=V.non) (u:=Value.none) J rfl q
 |brk =>
  obtain⟨_,_,_,q⟩:=m;exact kz q
 |cont =>
  obtain⟨_,_,_,q⟩:=m;exact kz q
end L2
namespace L2
open PySem PySem.Spec PyProof.Rows
section
variable{X:Cx}{x:Str}{p pos:Pos}{e:Expr}{es:List Expr}{t:TA}{id T:String}{r:List V->Hp->VK->Prop}
def eM(r:List V->Hp->VK->Prop)(t:TA):TE:=fun σ H Q=>t σ H fun vs H1=>r vs H1 Q
theorem Bn(i:f_ X (.builtin id) r)(j:Gl X x)(k:X.mg x=none)(l:jT x=some (.builtin id))(m:PA X (e::es) t)(n:x≠"__name__":=by decide)(a:(x==("__debug__":Str))=false:=by decide)
  (o:a_ (e::es) X.env=(false,eval e X.env)::a_ es X.env:=by rfl) (f:(backTo pos (a_ es X.env)).any (·.1)=false:=by rfl):PE X (.Call (.Name x p) (e::es) [] pos) (eM r t):=by
 intro g s σ H Q I h;refine DR (o6 I j k l ?_ n a);exact PyProof.Rows.callWith_builtin1 (du (m pos g s σ H _ I h) fun q u ⟨v,w,y,z,A⟩=>i g u σ w v q Q y z A) o f
theorem im(i:f_ X (.type T) r)(j:Gl X x)(k:X.mg x=none)(l:jT x=some (.type T))(m:PA X (e::es) t)(n:x≠"__name__":=by decide)(a:(x==("__debug__":Str))=false:=by decide)
  (o:a_ (e::es) X.env=(false,eval e X.env)::a_ es X.env:=by rfl) (f:(backTo pos (a_ es X.env)).any (·.1)=false:=by rfl):PE X (.Call (.Name x p) (e::es) [] pos) (eM r t):=by
 intro g s σ H Q I h;refine DR (o6 I j k l ?_ n a);exact AH (du (m pos g s σ H _ I h) fun q u ⟨v,w,y,z,A⟩=>i g u σ w v q Q y z A) o f
end
end L2
namespace HT
open PySem PyProof.Rows
section
variable{prog:bR}{w:World}{A:Around}{E:Zc}{s:Shared}
def sIx(n d:Nat):Option Int->Nat
 |none=>d
 |some v=>if v<0 then(v+(n:Int)).toNat else min v.toNat n
theorem sIx_none(n d:Nat):sIx n d none=d:=rfl
theorem sIx_nat(n d k:Nat):sIx n d (some (k:Int))=min k n:=by
 show(if(k:Int)<0 then((k:Int)+(n:Int)).toNat else min (k:Int).toNat n)=min k n
 rw[if_neg (by omega),ka]
theorem sIx_le(n d:Nat)(e:d<=n)(o:Option Int):sIx n d o<=n:=by
 cases o with
 |none=>exact e
 |some v =>
  show(if v<0 then(v+(n:Int)).toNat else min v.toNat n)<=n
  by_cases a:v<0
  ·rw[if_pos a];omega
  ·rw[if_neg a];exact Nat.min_le_right _ _
theorem clip_eq(v:Int)(n d:Nat):(if v<0 then max (v+(n:Int)) 0 else min v (n:Int))=((sIx n d (some v):Nat):Int):=by
 show(if v<0 then max (v+(n:Int)) 0 else min v (n:Int))=(((if v<0 then(v+(n:Int)).toNat else min v.toNat n):Nat):Int)
 by_cases a:v<0
 ·simp only[if_pos a];omega
 ·simp only[if_neg a];omega
end
end HT
namespace L2
open PySem PySem.Spec PyProof.Rows
abbrev TO:=St->Hp->(Option Int->Hp->Prop)->Prop
def PO(X:Cx)(e:Option Expr)(t:TO):Prop :=
 ∀(J3:Zd) (s:Shared) (σ:St) (H:Hp) (Q:Option Int->Hp->Prop),Inv X J3 σ H s->t σ H Q ->
  wpAny (model X.prog X.w) X.A (evalPart e X.env) (fun u s'=>∃o H',Inv X J3 σ H' s'/\IsPart u o/\Q o H') X.xe s
def eU:TO:=fun _ H Q=>Q none H
def iP(t:TE):TO:=fun σ H Q=>t σ H fun x H1=>∃i,x=.int i/\Q (some i) H1
section
variable{X:Cx}{e:Expr}{te:TE}{lo hi:Option Expr}{tl th:TO}{pos p2:Pos}
theorem fC:PO X none eU:=by
 intro a s σ H Q I h;rw[evalPart_none];exact aQ ⟨none,H,I,.none,h⟩
theorem eC(h:PE X e te):PO X (some e) (iP te):=by
 intro f s σ H Q I g;rw[evalPart_some];refine du (h f s σ H _ I g) fun u n a=>?_;obtain⟨x,j,k,l,m⟩:=a;obtain⟨i,rfl,q⟩:=m;obtain⟨t,rfl⟩:=l;exact⟨some i,j,k,.int i t,q⟩
def Ld(X:Cx)(r:V->Option Int->Option Int->Hp->VK->Prop):Prop :=
 ∀(J3:Zd) (s:Shared) (σ:St) (H:Hp) (x:V) (v vl vu:Value) (lo hi:Option Int) (sl:Addr) (Q:VK),Inv X J3 σ H s->RelV x v->s.heap.IsSliceOf sl vl vu .none->IsPart vl lo->IsPart vu hi->r x lo hi H Q ->
  ∃T id,typeLookup (.type T) "__getitem__"=pure (some (.builtin id))/\s.TypeIs v T/\wpAny (model X.prog X.w) X.A (oF v (.ref sl)) (EP X J3 σ Q) X.xe s
theorem Ld.or{r a:V->Option Int->Option Int->Hp->VK->Prop}(h:Ld X r)(o:Ld X a):Ld X (fun x lo hi H Q=>r x lo hi H Q∨a x lo hi H Q):=by
 intro f s σ H x v g i lo hi j Q I k l m n q;rcases q with q|q
 ·exact h f s σ H x v g i lo hi j Q I k l m n q
 ·exact o f s σ H x v g i lo hi j Q I k l m n q
def Cc(r:V->Option Int->Option Int->Hp->VK->Prop)(te:TE)(tl th:TO):TE:=fun σ H Q=>te σ H fun x H1=>tl σ H1 fun l H2=>th σ H2 fun u H3=>r x l u H3 Q
theorem dF{r:V->Option Int->Option Int->Hp->VK->Prop}(m:Ld X r)(n:PE X e te)(o:PO X lo tl)(p:PO X hi th):PE X (.Subscript e (.Slice lo hi none p2) pos) (Cc r te tl th):=by
 intro g s σ H Q I h;refine Subscript_ (du (n g s σ H _ I h) fun v t f=>?_);obtain⟨x,y,z,B,C⟩:=f;refine wpAny_Slice (du (o g t σ y _ z C) fun i D ⟨l,E,G,J,L⟩=>du (p g D σ E _ G L) fun j a f=>?_);obtain⟨u,k,M,N,O⟩:=f;rw[evalPart_none];refine aQ ?_;have U:Inv X g σ k { a with heap:=a.heap.push { cls:=.type "slice",data:=.fields #[i,j,.none] } }:=M.kept (t':=a.toks) fun b ob q=>bt _ q;obtain⟨T,id,Y,ht,hg⟩:=m g { a with heap:=a.heap.push { cls:=.type "slice",data:=.fields #[i,j,.none] } } σ k x v i j l u a.heap.objs.size Q U B (Heap.IsSliceOf.new ..) J N O;show wpAny (model X.prog X.w) X.A (subscriptTail e (.Slice lo hi none p2) v (.ref a.heap.objs.size)) (EP X g σ Q) X.xe { a with heap:=a.heap.push { cls:=.type "slice",data:=.fields #[i,j,.none] } };exact tail_any (ops:=[.ref a.heap.objs.size,v]) ht Y hg (by with_unfolding_all rfl)
def gv(xs:List V)(lo hi:Option Int):List V:=(xs.drop (HT.sIx xs.length 0 lo)).take (HT.sIx xs.length xs.length hi-HT.sIx xs.length 0 lo)
theorem BJ(a:List V)(lo hi:Option Int):(gv a lo hi).length<=a.length:=by
 unfold gv;rw[aX,ie];omega
end
end L2
namespace L2
open PySem PySem.Spec PyProof.Rows
def Jo(n:Nat)(i:Int):Option Nat:=if 0<=i then(if i<n then some i.toNat else none)else if -(n:Int)<=i then some (i+n).toNat else none
def xT{α:Type}(xs:List α)(i:Int):Option α:=(Jo xs.length i).bind fun j=>xs[j]?
theorem EF{n:Nat}{i:Int}{j:Nat}(h:Jo n i=some j):seqIndex? i n=some j/\j<n/\-(n:Int)<=i/\i<n:=by
 unfold Jo at h;by_cases f:0<=i
 ·rw[if_pos f]at h;by_cases a:i<n
  ·rw[if_pos a]at h;have e:i.toNat=j:=fW h;exact⟨by rw[seqIndex_of f a,e],by omega,by omega,a⟩
  ·rw[if_neg a]at h;cases h
 ·rw[if_neg f]at h;by_cases a:-(n:Int)<=i
  ·rw[if_pos a]at h;have e:(i+n).toNat=j:=fW h;exact⟨by rw[seqIndex_neg (by omega) a,e],by omega,a,by omega⟩
  ·rw[if_neg a]at h;cases h
theorem Am{α:Type}{a:List α}{i:Int}{v:α}(h:xT a i=some v):∃j,seqIndex? i a.length=some j/\a[j]?=some v/\j<a.length/\-(a.length:Int)<=i/\i<a.length:=by
 unfold xT at h;cases e:Jo a.length i with
 |none=>rw[e]at h;cases h
 |some j =>
  rw[e]at h;obtain⟨f,g,k,l⟩:=EF e;exact⟨j,f,h,g,k,l⟩
theorem cn{α:Type}{a:List α}{j:Nat}{v:α}(h:a[j]?=some v):xT a (j:Int)=some v:=by
 have f:j<a.length:=(bM.mp h).1;have e:Jo a.length (j:Int)=some j:=by
  unfold Jo;rw[if_pos (by omega),if_pos (by omega)];simp
 unfold xT;rw[e];exact h
theorem BS{α:Type}(a:List α)(v:α):xT (a++[v]) (-1)=some v:=by
 have f:(a++[v]).length=a.length+1:=by simp
 have e:Jo (a++[v]).length (-1)=some a.length:=by
  unfold Jo;rw[f,if_neg (by decide),if_pos (by omega)];congr 1;omega
 unfold xT;rw[e];show(a++[v])[a.length]?=some v;simp
def KD(b:Expr):Prop:=∀o i,yX b false o i=operate [o,i] (oF o i)
def KJ(X:Cx)(r:R2):Prop :=
 ∀(value slice:Expr) (J3:Zd) (s:Shared) (σ:St) (H:Hp) (x y:V) (v u:Value) (Q:VK),Inv X J3 σ H s->RelV x v->RelV y u->r x y H Q ->
  yX slice false v u=operate [v,u] (oF v u)->wpAny (model X.prog X.w) X.A (subscriptTail value slice v u) (EP X J3 σ Q) X.xe s
def MtR(X:Cx)(id:String)(r:V->List V->Hp->VK->Prop):Prop :=
 ∀(J3:Zd) (s:Shared) (σ:St) (H:Hp) (x:V) (xs:List V) (v:Value) (us:Zf) (Q:VK),Inv X J3 σ H s->RelV x v->bA xs us->r x xs H Q ->
  wpAny (model X.prog X.w) X.A (call (.builtin id) (v::us)) (EP X J3 σ Q) X.xe s
section
variable{X:Cx}{a b:Expr}{ta tb:TE}{pos:Pos}
theorem KJ.or{r e:R2}(h:KJ X r)(k:KJ X e):KJ X (fun x y H Q=>r x y H Q∨e x y H Q):=by
 intro value slice f s σ H x y v u Q I g i q j;rcases q with q|q
 ·exact h value slice f s σ H x y v u Q I g i q j
 ·exact k value slice f s σ H x y v u Q I g i q j
theorem Ev{r:R2}(e:KJ X r)(f:PE X a ta)(g:PE X b tb)(i:KD b):PE X (.Subscript a b pos) (aD r ta tb):=by
 intro j s σ H Q I h;exact Subscript_ (LG f g I h fun v u k x y l m n o q=>e a b j k σ l x y v u Q m n o q (i _ _))
def df(K:Za):R2:=fun x y H Q=>∃p xs i v,x=.ref p/\y=.int i/\ay K H p xs/\xT xs i=some v/\Q v H
def jg(K:Za):R2:=fun x y H Q=>∃p xs i v,x=.ref p/\y=.int i/\br K H p xs/\xT xs i=some v/\Q v H
def C0:R2:=fun x y H Q=>∃z i c,x=.str z/\y=.int i/\z.length<=ak/\xT z.cps.toList i=some c/\Q (.str ⟨#[c]⟩) H
theorem EE:KJ X (df X.K):=by
 intro value slice n s σ H x y v u Q I C D h o;obtain⟨p,T,i,z,rfl,rfl,E,G,q⟩:=h;cases C;obtain⟨t,rfl⟩:=D;obtain⟨g,r,k,U⟩:=I.list E;obtain⟨j,f,J,Y,L,M⟩:=Am G;obtain⟨w,A,l⟩:=r.get J;have N:=r.length;have hn:=so;have e:EP X n σ Q w s:=⟨z,H,I,l,q⟩;by_cases B:0<=i
 ·have m:i.toNat=j:=by
   rw[seqIndex_of B M]at f;exact fW f
  exact item_listR k.isList B (by omega) (by rw[m];simpa using A) e o
 ·have m:(i+(g.toArray.size:Int)).toNat=j:=by
   rw[seqIndex_neg (by omega) L]at f;rw[cb,<-N];exact fW f
  exact subscriptTail_builtinR (x:=w) k.isList.typeIs slot_list_getitem.lookup
   (wpAny_getItem_list_neg (Q:=fun r O=>r=w/\EP X n σ Q r O) k.isList (by omega) (by rw[cb]<;>omega) (by omega) (by rw[m];simpa using A) ⟨rfl,e⟩) o
theorem IA:KJ X (jg X.K):=by
 intro value slice g s σ H x y v u Q I l m h n;obtain⟨p,L,i,z,rfl,rfl,o,A,q⟩:=h;cases l;obtain⟨t,rfl⟩:=m;obtain⟨B,r,k,M⟩:=I.tuple o;obtain⟨j,C,D,N,O,T⟩:=Am A;obtain⟨w,E,e⟩:=r.get D;have G:=r.length;have U:=so;have f:EP X g σ Q w s:=⟨z,H,I,e,q⟩;exact subscriptTail_builtinR (x:=w) k.typeIs slot_tuple_getitem.lookup
  (getItem_tuple (j:=j) (Q:=fun r J=>r=w/\EP X g σ Q r J) k (by omega) (by omega) (by rw[cb,<-G];exact C) (by simpa using E) ⟨rfl,f⟩) n
theorem IB:KJ X C0:=by
 intro value slice A s σ H x y v u Q I f g h k;obtain⟨z,i,c,rfl,rfl,B,l,q⟩:=h;obtain⟨t,rfl⟩:=f;obtain⟨C,rfl⟩:=g;obtain⟨j,e,m,D,n,o⟩:=Am l;have p:z.cps.toList.length=z.length:=by simp[Str.length]
 rw[p]at e n o;have E:=so;exact tail_any (typeIs_str s z t) slot_str_getitem.lookup (getItem_str (c:=c) (by
  have r:decide (i < -(2 ^ 63:Int))=false:=zzr0 (by omega);have w:decide (i ≥ 2 ^ 63)=false:=zzr0 (by omega);rw[r,w,Bool.or_false]) (by rw[e];simpa using m) ⟨.str ⟨#[c]⟩,H,I.tok _,⟨_,rfl⟩,q⟩) k
def hW(K:Za):R2:=fun x y H Q=>df K x y H Q∨jg K x y H Q∨C0 x y H Q
theorem LB:KJ X (hW X.K):=EE.or (IA.or IB)
theorem De(e:Zf)(n j:Nat)(u:Value):uV (·.setIfInBounds j u) { cls:=.type "list",data:=.seq e.toArray n }={ cls:=.type "list",data:=.seq (e.set j u).toArray n }:=by
 simp[uV]
theorem Inv.lst{i:Zd}{σ:St}{H:Hp}{s:Shared}{p:Addr}{g:List V}(I:Inv X i σ H s)(h:H p=some (.lst g)):
  ∃(f:Zf) (n:Nat),bA g f/\s.heap.get? p=some { cls:=.type "list",data:=.seq f.toArray n }/\g.length<=ak:=by
 obtain⟨z,f,n,r,e⟩:=I.hok p _ h;exact⟨f,n,r,e,z⟩
theorem Inv.lstUpd{l:Zd}{σ:St}{H:Hp}{s:Shared}{p:Addr}{m j:List V}{i g:Zf}{n k:Nat}{f:Obj->Obj}(I:Inv X l σ H s)(h:H p=some (.lst m))
  (o:s.heap.get? p=some { cls:=.type "list",data:=.seq i.toArray n }) (hf:f { cls:=.type "list",data:=.seq i.toArray n }={ cls:=.type "list",data:=.seq g.toArray k }) (r:bA j g) (v:j.length<=ak) (t:Nat) :
  Inv X l σ (upd H p (.lst j)) { s with heap:=s.heap.update p f,toks:=t }:=by
 have e:(s.heap.update p f).get? p=some { cls:=.type "list",data:=.seq g.toArray k }:=by
  rw[uU f o (by rw[hf]<;>rfl),hf]
 refine I.write (x:=p) (e:=p) (by rw[h];trivial) (.inl rfl) (fun b u w q=>(Heap.get?_update_other _ _ (iO w)).trans q) ⟨_,e⟩ ?_;exact⟨v,g,k,r,e⟩
def xr:V->V->V->Hp->(Hp->Prop)->Prop:=fun o i v H Q=>∃p xs k j,o=.ref p/\i=.int k/\H p=some (.lst xs)/\Jo xs.length k=some j/\Q (upd H p (.lst (xs.set j v)))
theorem qt:Ms X xr:=by
 intro B s σ H o i v M N u Q I C D E h;obtain⟨p,G,k,j,rfl,rfl,w,J,q⟩:=h;cases C;obtain⟨t,rfl⟩:=D;obtain⟨e,n,r,g,L⟩:=I.lst w;obtain⟨f,O,x,y⟩:=EF J;have l:=r.length;have T:=so;have z:Inv X B σ (upd H p (.lst (G.set j v))) { s with heap:=s.heap.update p (uV (·.setIfInBounds j u)) } :=
  I.lstUpd w g (De e n j u) (r.set E j) (by rw[List.length_set];exact L) s.toks
 by_cases A:0<=k
 ·have m:k.toNat=j:=by
   rw[seqIndex_of A y]at f;exact fW f
  exact PySem.W.ki_setAt g A (by omega) (by rw[cb,<-l];exact y) (by rw[m];exact⟨_,z,q⟩)
 ·have m:(k+(e.toArray.size:Int)).toNat=j:=by
   rw[seqIndex_neg (by omega) x]at f;rw[cb,<-l];exact fW f
  exact PySem.W.ki_setBack g (by omega) (by rw[cb,<-l];exact x) (by omega) (by rw[m];exact⟨_,z,q⟩)
theorem zF(lo hi:Option Int)(n:Nat):(oE lo hi none n).1=((HT.sIx n 0 lo:Nat):Int)/\(oE lo hi none n).2.1=((HT.sIx n n hi:Nat):Int)/\(oE lo hi none n).2.2=1:=by
 refine⟨?_,?_,rfl⟩
 ·cases lo with
  |none=>simp[oE,HT.sIx]
  |some i =>
   simp only[oE,HT.sIx,Option.getD_none,show(1:Int) > 0 by decide,if_true];by_cases h:i<0
   ·simp only[h,if_true]<;>omega
   ·simp only[h,if_false]<;>omega
 ·cases hi with
  |none=>simp[oE,HT.sIx]
  |some i =>
   simp only[oE,HT.sIx,Option.getD_none,show(1:Int) > 0 by decide,if_true];by_cases h:i<0
   ·simp only[h,if_true]<;>omega
   ·simp only[h,if_false]<;>omega
theorem wH(e:Zf)(lo hi:Option Int):slicePick e.toArray lo hi none=((e.drop (HT.sIx e.length 0 lo)).take (HT.sIx e.length e.length hi-HT.sIx e.length 0 lo)).toArray:=by
 obtain⟨f,g,h⟩:=zF lo hi e.toArray.size;unfold slicePick;rw[f,g,h];simp only[sliceRange_one,pick_run,cb]<;>rfl
def qA(K:Za):V->Option Int->Option Int->Hp->VK->Prop:=fun x lo hi H Q=>∃a xs,x=.ref a/\ay K H a xs/\∀p,H p=none->Q (.ref p) (upd H p (.lst (gv xs lo hi)))
theorem gf:Ld X (qA X.K):=by
 intro p s σ H x v t u lo hi w Q I i j k l h;obtain⟨a,e,rfl,hx,q⟩:=h;cases i;obtain⟨m,r,g,n⟩:=I.list hx;have f:=r.length;refine⟨"list",_,slot_list_getitem.lookup,g.isList.typeIs,?_⟩;refine wpAny_getItem_list_slice g.isList j k l .none (by simp) ?_ (by rw[cb]<;>omega);rw[wH,<-f];refine⟨.ref s.heap.objs.size,_,I.laid (t':=s.toks) (o:=.lst (gv e lo hi)) (fun b y q=>bt _ q) (aR _) ?_,rfl,q _ (I.hok.fresh (aR _))⟩;exact⟨bI (BJ e lo hi) n,_,0,(r.drop (HT.sIx e.length 0 lo)).take (HT.sIx e.length e.length hi-HT.sIx e.length 0 lo),de _ rfl⟩
theorem Ai:f_ X (.builtin "len") (fun k H Q=>∃p f,k=[.ref p]/\(ay X.K H p f∨br X.K H p f)/\Q (.int f.length) H):=by
 intro n s σ H k o Q I r h;obtain⟨p,f,rfl,hq,q⟩:=h;obtain⟨u,rfl,l⟩:=vals1 r;cases l;have t:=so;rcases hq with hq|hq
 ·obtain⟨g,i,j,m⟩:=I.list hq;have e:=i.length;exact Calls.call_len_list j.isList (by simp only[cb]<;>omega) ⟨.int f.length,H,I.tok _,⟨s.toks+1,by rw[cb,e]⟩,q⟩
 ·obtain⟨g,i,j,m⟩:=I.tuple hq;have e:=i.length;exact len_tuple j (by simp only[cb]<;>omega) ⟨.int f.length,H,I.tok _,⟨s.toks+1,by rw[cb,e]⟩,q⟩
theorem Ah:f_ X (.builtin "len") (fun e H Q=>∃z,e=[.str z]/\z.length<=ak/\Q (.int z.length) H):=by
 intro f s σ H e g Q I r h;obtain⟨z,rfl,i,q⟩:=h;obtain⟨u,rfl,t,rfl⟩:=vals1 r;have j:=so;exact len_str (by omega) ⟨.int z.length,H,I.tok _,⟨_,rfl⟩,q⟩
theorem f_.or{f:Value}{r g:List V->Hp->VK->Prop}(h:f_ X f r)(l:f_ X f g):f_ X f (fun e H Q=>r e H Q∨g e H Q):=by
 intro i s σ H e j Q I k q;rcases q with q|q
 ·exact h i s σ H e j Q I k q
 ·exact l i s σ H e j Q I k q
theorem Ag:f_ X (.type "list") (fun B H Q=>∃p i,B=[.ref p]/\(ay X.K H p i∨br X.K H p i)/\∀l,H l=none->Q (.ref l) (upd H l (.lst i))):=by
 intro D s σ H B G Q I r h;obtain⟨p,i,rfl,hq,q⟩:=h;obtain⟨u,rfl,E⟩:=vals1 r;cases E;have m:∀(f:Zf),bA i f->i.length<=ak->∀(g:Heap) (j:Nat),(∀b C,s.heap.get? b=some C->g.get? b=some C) ->
   g.get? s.heap.objs.size=some { cls:=.type "list",dict:=none,data:=.seq f.toArray j,slots:=#[] }->EP X D σ Q (.ref s.heap.objs.size) { s with heap:=g }:=fun f k t g j kp e =>
  ⟨.ref s.heap.objs.size,_,I.laid (t':=s.toks) kp (aR _) (show cw X.prog X.w X.K _ g _ (.lst i)from⟨t,f,j,k,e⟩),rfl,q _ (I.hok.fresh (aR _))⟩
 rcases hq with hq|hq
 ·obtain⟨f,k,x,t⟩:=I.list hq;have v:=k.length;obtain⟨o,y,z,n,A⟩:=x.isList;exact call_list_seq p (.inl rfl) y z A (fun g j kp e=>m f k t g j kp e) (by simp only[cb]<;>omega)
 ·obtain⟨f,k,x,t⟩:=I.tuple hq;have v:=k.length;obtain⟨o,y,z,n,A⟩:=x;exact call_list_seq p (.inr rfl) y z A (fun g j kp e=>m f k t g j kp e) (by simp only[cb]<;>omega)
theorem iI:f_ X (.type "tuple") (fun n H Q=>∃p g,n=[.ref p]/\((ay X.K H p g/\∀l,H l=none->Q (.ref l) (upd H l (.tup g)))∨(br X.K H p g/\Q (.ref p) H))):=by
 intro t s σ H n B Q I r h;obtain⟨p,g,rfl,h⟩:=h;obtain⟨u,rfl,z⟩:=vals1 r;cases z;rcases h with⟨j,q⟩|⟨j,q⟩
 ·obtain⟨f,k,m,v⟩:=I.list j;have x:=k.length;refine call_tuple_list m.isList (fun i kp=>?_) (by simp only[cb]<;>omega);have y:Inv X t σ H { s with heap:=i }:=I.kept (t':=s.toks) kp;have A:Inv X t σ (upd H i.objs.size (.tup g)) { s with heap:=i.push { cls:=.type "tuple",data:=.seq f.toArray } } :=
   y.laid (t':=s.toks) (fun b o e=>bt _ e) (aR _) (show cw X.prog X.w X.K _ _ _ (.tup g)from⟨v,f,k,IsTup.new _ _⟩)
  exact⟨.ref i.objs.size,_,A,rfl,q _ (y.hok.fresh (aR _))⟩
 ·obtain⟨f,k,m,v⟩:=I.tuple j;exact call_tuple_same m ⟨.ref p,H,I,rfl,q⟩
def tyV(K:Za)(T:String)(x:V)(H:Hp):Prop:=match x with
 |.str _=>T="str"
 |.int _=>T="int"
 |.ref p=>(T="list"/\∃xs,ay K H p xs)∨(T="tuple"/\∃o,K.lookup p=some o/\o.cls=.type "tuple"/\o.dict=none) ∨
   (T="dict"/\((∃kvs,H p=some (.dK kvs))∨∃kvs,H p=some (.dT kvs)))∨(T="set"/\∃S n,H p=some (.set S n))
 |_=>False
theorem Hb{m:Zd}{σ:St}{H:Hp}{s:Shared}{T:String}{x:V}{v:Value}(I:Inv X m σ H s)(r:RelV x v)(ty:tyV X.K T x H):
  s.TypeIs v T/\∀a,v=.ref a->∃k,s.heap.get? a=some k/\k.dict=none:=by
 cases x with
 |str z =>
  obtain⟨t,rfl⟩:=r;cases(show T="str" from ty);exact⟨typeIs_str s z t,fun _ e=>nomatch e⟩
 |int i =>
  obtain⟨t,rfl⟩:=r;cases(show T="int" from ty);exact⟨typeIs_int s i t,fun _ e=>nomatch e⟩
 |ref p =>
  cases r;rcases ty with⟨rfl,y,q⟩|⟨rfl,o,f,u,g⟩|⟨rfl,f⟩|⟨rfl,S,n,f⟩
  ·obtain⟨w,_,l,_⟩:=I.list q;refine⟨l.isList.typeIs,fun a e=>?_⟩;cases e;obtain⟨o,n,e,c,g,_⟩:=l;exact⟨o,e,g⟩
  ·refine⟨⟨o,I.kIn p o f,u⟩,fun a e=>?_⟩;cases e;exact⟨o,I.kIn _ o f,g⟩
  ·have z:∃o,s.heap.get? p=some o/\o.ExactDict:=by
    rcases f with⟨h,f⟩|⟨h,f⟩
    ·obtain⟨_,_,_,_,o,_,_,e,ex,_⟩:=I.hok p _ f;exact⟨o,e,ex⟩
    ·obtain⟨_,_,_,_,o,_,_,e,ex,_⟩:=I.hok p _ f;exact⟨o,e,ex⟩
   obtain⟨o,e,ex⟩:=z;refine⟨⟨o,e,ex.1⟩,fun a j=>?_⟩;cases j;exact⟨o,e,ex.2.1⟩
  ·obtain⟨o,_,_,_,e,ex,_⟩:=I.hok p _ f;refine⟨⟨o,e,ex.1⟩,fun a j=>?_⟩;cases j;exact⟨o,e,ex.2.1⟩
 |_=>exact kz ty
def Fs(K:Za)(T:String)(r:V->List V->Hp->VK->Prop)(to:TE):TE:=fun σ H Q=>to σ H fun x H1=>tyV K T x H1/\r x [] H1 Q
def vi(K:Za)(T:String)(r:V->List V->Hp->VK->Prop)(to:TE)(t:TA):TE:=fun σ H Q=>to σ H fun x H1=>tyV K T x H1/\t σ H1 fun xs H2=>r x xs H2 Q
variable{o e:Expr}{es:List Expr}{to:TE}{t:TA}{name:Str}{J5 J4:Pos}{T id:String}{r:V->List V->Hp->VK->Prop}
theorem vt(p:PlainAttrs T)(i:Slot T name id)(j:typeOf (.builtin id)=pure (.type "method_descriptor"))(q:MtR X id r)(u:PE X o to)
  (f:w_ o name X.env (eval o X.env)=eval o X.env:=by rfl) (g:(J5.endLine==J4.line)=true:=by rfl):PE X (.Call (.Attribute o name J5) [] [] J4) (Fs X.K T r to):=by
 intro l s σ H Q I h;refine wpAny_Call_method0_late f g (du (u l s σ H _ I h) fun v w k=>?_);obtain⟨x,y,m,n,ty,z⟩:=k;obtain⟨A,B⟩:=Hb m n ty;exact⟨T,id,p,i,j,A,B,yW rfl (PySem.evalArgs_none (q l w σ y x [] v [] Q m n .nil z))⟩
theorem f6(w:PlainAttrs T)(j:Slot T name id)(l:typeOf (.builtin id)=pure (.type "method_descriptor"))(y:MtR X id r)(z:PE X o to)(A:PA X (e::es) t)
  (g:w_ o name X.env (eval o X.env)=eval o X.env:=by rfl)
  (k:((backTo J4 (a_ (e::es) X.env)).all (fun x=>!x.1) && (sP J4 (sO [] X.env)).all (fun x=>x.1.isSome)
   && decide ((e::es).length+([]:List Keyword).length+(if([]:List Keyword).isEmpty then 0 else 1)<30))=true:=by rfl)
  (i:(J5.endLine==J4.line)=true:=by rfl) (B:a_ (e::es) X.env=(false,eval e X.env)::a_ es X.env:=by rfl) (f:(backTo J4 (a_ es X.env)).any (·.1)=false:=by rfl) :
  PE X (.Call (.Attribute o name J5) (e::es) [] J4) (vi X.K T r to t):=by
 intro m s σ H Q I h;refine wpAny_Call_method_late g k i rfl (du (z m s σ H _ I h) fun v C n=>?_);obtain⟨x,D,p,q,ty,E⟩:=n;obtain⟨G,J⟩:=Hb p q ty;refine⟨T,id,w,j,l,G,J,?_⟩;have u:=A J4 m C σ D _ p E;rw[B]at u ⊢;refine yW (by show(false || (backTo J4 (a_ es X.env)).any (·.1))=false;rw[f]<;>rfl) (Calls.evalArgs_plain ?_);exact du u fun L M ⟨N,O,U,Y,q2⟩=>y m M σ O x N v L Q U q Y q2
end
end L2
namespace L2
open PySem PySem.Spec PyProof.Rows
def LY(X:Cx)(id:String)(r:V->List V->Hp->VK->Prop):Prop :=
 ∀(J3:Zd) (s:Shared) (σ:St) (H:Hp) (x:V) (xs:List V) (v:Value) (us:Zf) (Q:VK),Inv X J3 σ H s->RelV x v->bA xs us->r x xs H Q ->
  wpAny (model X.prog X.w) X.A (call (.builtin id) (v::us)) (EP X J3 σ Q) X.xe s
theorem bA.one{x:V}{a:Zf}(h:bA [x] a):∃u,a=[u]/\RelV x u:=by
 cases h with
 |cons r t=>cases t;exact⟨_,rfl,r⟩
theorem bA.two{x y:V}{a:Zf}(h:bA [x,y] a):∃u v,a=[u,v]/\RelV x u/\RelV y v:=by
 cases h with
 |cons r t =>
  obtain⟨v,e,q⟩:=bA.one t;exact⟨_,v,by rw[e],r,q⟩
theorem bA.zero:∀{a:Zf},bA [] a->a=[]
 |_,.nil=>rfl
theorem bA.dropLast{a:List V}{e:Zf}(h:bA a e):bA a.dropLast e.dropLast:=by
 induction h with
 |nil=>exact .nil
 |cons r t f =>
  cases t with
  |nil=>exact .nil
  |cons q g=>exact .cons r f
theorem bA.reverse{a:List V}{e:Zf}(h:bA a e):bA a.reverse e.reverse:=by
 induction h with
 |nil=>exact .nil
 |cons r t f=>rw[rK,rK];exact bA.append f (.cons r .nil)
theorem Dq{α:Type}(l:List α):l.eraseIdx (l.length-1)=l.dropLast:=by
 induction l with
 |nil=>rfl
 |cons a r f =>
  cases r with
  |nil=>rfl
  |cons b r =>
   have e:(a::b::r).length-1=((b::r).length-1)+1:=by
    have g:(a::b::r).length=r.length+2:=rfl;have h:(b::r).length=r.length+1:=rfl;omega
   rw[e,List.eraseIdx_cons_succ,f]
   all_goals rfl
section
variable{X:Cx}{J3:Zd}{σ:St}{H:Hp}{s:Shared}{l b:Addr}{xs ys zs:List V}
theorem Inv.lset{a its':Zf}{n:Nat}{f:Array Value->Array Value}{g:Nat}(I:Inv X J3 σ H s)(h:H l=some (.lst xs))
  (e:s.heap.get? l=some { cls:=.type "list",data:=.seq a.toArray n }) (hf:f a.toArray=its'.toArray) (i:bA ys its') (j:ys.length<=ak) :
  Inv X J3 σ (upd H l (.lst ys)) { s with heap:=s.heap.update l (uV f),toks:=g }:=by
 have q:=PySem.IsL.update e f;rw[hf]at q;refine I.write (x:=l) (e:=l) (by rw[h];exact trivial) (.inl rfl) (fun o u k m=>(Heap.get?_update_other s.heap (uV f) (iO k)).trans m) ⟨_,q⟩ ?_;exact⟨j,its',_,i,q⟩
theorem Inv.lnew{a:Zf}{t':Nat}(I:Inv X J3 σ H s)(e:bA ys a)(f:ys.length<=ak):
  Inv X J3 σ (upd H s.heap.objs.size (.lst ys)) { s with heap:=s.heap.push { cls:=.type "list",data:=.seq a.toArray },toks:=t' } :=
 I.laid (fun _ _ q=>bt _ q) (aR _) ⟨f,a,0,e,de _ rfl⟩
theorem Inv.fresh(I:Inv X J3 σ H s):H s.heap.objs.size=none:=I.hok.fresh (aR _)
theorem Inv.lstM(I:Inv X J3 σ H s)(f:H l=some (.lst xs)):xs.length<=ak/\∃(a:Zf) (n:Nat),bA xs a/\xs.length=a.length/\s.heap.get? l=some { cls:=.type "list",data:=.seq a.toArray n }:=by
 obtain⟨z,a,n,r,e⟩:=I.hok l _ f;exact⟨z,a,n,r,r.length,e⟩
theorem Io{n:Nat}(h:n<=ak):dD.List.listTooLong n=false:=by
 unfold dD.List.listTooLong;exact zzr0 (by omega)
end
section
variable{X:Cx}
def dX:V->List V->Hp->VK->Prop:=fun x vs H Q=>∃l xs y,x=.ref l/\vs=[y]/\H l=some (.lst xs)/\xs.length<ak/\Q .non (upd H l (.lst (xs++[y])))
theorem cH:LY X "list.append" dX:=by
 intro k s σ H x m v o Q I g i h;obtain⟨l,p,y,rfl,rfl,f,t,q⟩:=h;cases g;obtain⟨u,rfl,j⟩:=i.one;obtain⟨z,a,n,r,w,e⟩:=I.lstM f;refine uT F.slot_list_append ⟨_,e,rfl⟩ F.entry_list_append (F.args_list_append_2 _ _) (PySem.list_append l a.toArray n u (by rw[cb];omega)) ⟨e,?_⟩;refine⟨.non,_,I.lset (its':=a++[u]) f e (by simp) (r.append (.cons j .nil)) ?_,rfl,q⟩;rw[aA,yV];omega
def qC:V->List V->Hp->VK->Prop:=fun x vs H Q=>∃l b xs zs,x=.ref l/\vs=[.ref b]/\H l=some (.lst xs)/\H b=some (.lst zs)/\xs.length+zs.length<=ak/\Q .non (upd H l (.lst (xs++zs)))
theorem nn:LY X "list.extend" qC:=by
 intro A s σ H x B v C Q I k m h;obtain⟨l,b,D,E,rfl,rfl,j,hB,G,q⟩:=h;cases k;obtain⟨u,rfl,o⟩:=m.one;cases o;obtain⟨z,f,n,r,J,e⟩:=I.lstM j;obtain⟨L,a,p,t,w,y⟩:=I.lstM hB;have i:f.toArray.size+a.toArray.size<=ak:=by rw[cb,cb];omega
 have g:¬(!f.toArray.isEmpty && dD.List.listTooLong (f.toArray.size+a.toArray.size))=true:=by
  rw[Io i,yU];exact hV
 refine uT F.slot_list_extend ⟨_,e,rfl⟩ F.entry_list_extend (F.args_list_extend_2 _ _)
  (AutoSeq1.list_extend_list_list_0 l f.toArray n b a.toArray p g (by rw[cb];omega) (by omega)) ⟨e,y,?_⟩
 refine⟨.non,_,I.lset (its':=f++a) j e (by simp) (r.append t) ?_,rfl,q⟩;rw[aA];omega
def HU:V->List V->Hp->VK->Prop:=fun x vs H Q=>∃l xs y,x=.ref l/\vs=[]/\H l=some (.lst xs)/\xs[xs.length-1]?=some y/\Q y (upd H l (.lst xs.dropLast))
theorem zT:LY X "list.pop" HU:=by
 intro w s σ H x A v B Q I j k h;obtain⟨l,C,y,rfl,rfl,i,m,q⟩:=h;cases j;have f:=k.zero;subst f;obtain⟨z,a,n,r,o,e⟩:=I.lstM i;obtain⟨u,p,t⟩:=r.get m;have g:a.toArray[a.toArray.size-1]?=some u:=by
  show a.toArray[a.length-1]?=some u;rw[<-uS,<-o];exact p
 refine uT F.slot_list_pop ⟨_,e,rfl⟩ F.entry_list_pop (F.args_list_pop_1 _) (MeetsSeq.list_pop_last l a.toArray n u g (by rw[cb];omega)) ⟨e,?_⟩;refine⟨y,_,I.lset (its':=a.dropLast) i e ?_ r.dropLast ?_,t,q⟩
 ·show a.toArray.eraseIdxIfInBounds (a.toArray.size-1)=a.dropLast.toArray;rw[cb,List.eraseIdxIfInBounds_toArray,Dq]
 ·rw[List.length_dropLast];omega
def Bh:V->List V->Hp->VK->Prop:=fun x vs H Q=>∃l xs,x=.ref l/\vs=[]/\H l=some (.lst xs)/\Q .non (upd H l (.lst xs.reverse))
theorem Dc:LY X "list.reverse" Bh:=by
 intro k s σ H x m v o Q I i j h;obtain⟨l,p,rfl,rfl,g,q⟩:=h;cases i;have f:=j.zero;subst f;obtain⟨z,a,n,r,t,e⟩:=I.lstM g;refine uT F.slot_list_reverse ⟨_,e,rfl⟩ F.entry_list_reverse (F.args_list_reverse_1 _) (AutoSeq1.list_reverse_list_0 l a.toArray n (by rw[cb];omega)) ⟨e,?_⟩;refine⟨.non,_,I.lset (its':=a.reverse) g e (by simp) r.reverse ?_,rfl,q⟩;rw[List.length_reverse];omega
def gR:R2:=fun x y H Q=>∃l b xs zs,x=.ref l/\y=.ref b/\H l=some (.lst xs)/\H b=some (.lst zs)/\xs.length+zs.length<=ak/\∀p,H p=none->Q (.ref p) (upd H p (.lst (xs++zs)))
theorem eN:nZ X (sR .Add) gR:=by
 intro t s σ H x y v u Q I g i h;obtain⟨l,b,w,A,rfl,rfl,j,hB,B,q⟩:=h;cases g;cases i;obtain⟨z,f,n,r,C,e⟩:=I.lstM j;obtain⟨D,a,E,k,m,o⟩:=I.lstM hB;refine PySem.P.add_list e o ?_ (by rw[cb,cb];omega);have p:f.toArray++a.toArray=(f++a).toArray:=by simp
 rw[p];exact⟨.ref _,_,I.lnew (t':=s.toks) (r.append k) (by rw[aA];omega),rfl,q _ I.fresh⟩
end
end L2
namespace L2
open PySem PySem.Spec PyProof.Rows
section
variable{κ:Type}[DecidableEq κ]
def c6(kvs:List (κ×V))(k:κ):Option V:=(kvs.find? fun kv=>decide (kv.1=k)).map (·.2)
def dP(kvs:List (κ×V))(k:κ)(v:V):List (κ×V) :=
 if(kvs.any fun kv=>decide (kv.1=k))=true then kvs.map (fun kv=>if kv.1=k then(kv.1,v)else kv)else kvs++[(k,v)]
theorem eK{p:κ×V}{r:List (κ×V)}{k:κ}(e:p.1=k):c6 (p::r) k=some p.2:=by simp[c6,jy,e]
theorem dU{p:κ×V}{r:List (κ×V)}{k:κ}(e:¬p.1=k):c6 (p::r) k=c6 r k:=by simp[c6,jy,e]
theorem kA(k:κ):∀a:List (κ×V),(a.any fun f=>decide (f.1=k))=(c6 a k).isSome
 |[]=>rfl
 |p::r=>by
  rw[mo];by_cases e:p.1=k
  ·simp only[eK e,zzr1 e,Bool.true_or,Option.isSome_some]
  ·rw[dU e,zzr0 e,Bool.false_or];exact kA k r
theorem AM(k j:κ)(y:V):∀a:List (κ×V),c6 (a.map fun f=>if f.1=k then(f.1,y)else f) j=(c6 a j).map fun x=>if j=k then y else x
 |[]=>rfl
 |p::r=>by
  have g:=AM k j y r;rw[bL];by_cases h:p.1=k
  ·rw[if_pos h];by_cases e:p.1=j
   ·rw[eK (p:=(p.1,y)) e,eK e,uR,if_pos (e.symm.trans h)]
   ·rw[dU (p:=(p.1,y)) e,dU e,g]
  ·rw[if_neg h];by_cases e:p.1=j
   ·rw[eK (p:=p) e,eK e,uR,if_neg (fun z=>h (e.trans z))]
   ·rw[dU (p:=p) e,dU e,g]
theorem xf(k j:κ)(y:V):∀a:List (κ×V),c6 a k=none->c6 (a++[(k,y)]) j=if j=k then some y else c6 a j
 |[],_=>by
  by_cases e:k=j
  ·rw[if_pos e.symm];exact eK (p:=(k,y)) e
  ·rw[if_neg (fun z=>e z.symm)];exact dU (p:=(k,y)) e
 |p::r,f=>by
  rw[List.cons_append];have g:¬p.1=k:=fun z=>by rw[eK z]at f;cases f
  rw[dU g]at f;have h:=xf k j y r f;by_cases e:p.1=j
  ·rw[eK e,eK e,if_neg (fun z=>g (e.trans z))]
  ·rw[dU e,dU e,h]
theorem AL(f:List (κ×V))(k j:κ)(y:V):c6 (dP f k y) j=if j=k then some y else c6 f j:=by
 unfold dP;by_cases a:(f.any fun g=>decide (g.1=k))=true
 ·rw[if_pos a,AM];rw[kA]at a;by_cases e:j=k
  ·obtain⟨x,hx⟩:=yY.mp a;rw[if_pos e,e,hx,uR,if_pos rfl]
  ·rw[if_neg e];cases c6 f j with
   |none=>rfl
   |some x=>rw[uR,if_neg e]
 ·rw[if_neg a];refine xf k j y f ?_;rw[kA]at a;cases q:c6 f k with
  |none=>rfl
  |some x=>rw[q]at a;exact(a rfl).elim
theorem j4(a:List (κ×V))(k:κ)(v:V):(dP a k v).length<=a.length+1:=by
 unfold dP;split
 ·rw[ai];omega
 ·rw[aA,fF,mn];omega
theorem qD{a:List (κ×V)}{k:κ}(v:V)(h:c6 a k=none):dP a k v=a++[(k,v)]:=by
 unfold dP;rw[kA,h];exact if_neg (by decide)
theorem l7.isSome_eq{o:Option V}{u:Option Value}(r:l7 o u):o.isSome=u.isSome:=by
 cases o with
 |none=>cases u with
  |none=>rfl
  |some _=>exact(show False from r).elim
 |some _=>cases u with
  |none=>exact(show False from r).elim
  |some _=>rfl
theorem l7.getD{o:Option V}{u:Option Value}{d:V}{a:Value}(r:l7 o u)(e:RelV d a):RelV (o.getD d) (u.getD a):=by
 cases o with
 |none=>cases u with
  |none=>exact e
  |some _=>exact(show False from r).elim
 |some _=>cases u with
  |none=>exact(show False from r).elim
  |some _=>exact r
theorem KV.val{a:List (κ×V)}{g:List (κ×Value)}(r:KV a g)(k:κ):l7 (c6 a k) (oC g k):=by
 unfold KV at r
 induction r with
 |nil=>exact jS
 |@cons p q m qs h t j =>
  obtain⟨i,l⟩:=h;by_cases e:p.1=k
  ·have f:q.1=k:=i.symm.trans e;have b:oC (q::qs) k=some q.2:=by simp[oC,jy,f]
   rw[eK e,b];exact l
  ·have f:¬q.1=k:=fun z=>e (i.trans z);have b:oC (q::qs) k=oC qs k:=by simp[oC,jy,f]
   rw[dU e,b];exact j
theorem KV.any{a:List (κ×V)}{f:List (κ×Value)}(r:KV a f)(k:κ):(a.any fun e=>decide (e.1=k))=f.any fun e=>decide (e.1=k):=by
 unfold KV at r
 induction r with
 |nil=>rfl
 |cons h t g=>rw[mo,mo,g,h.1]
theorem KV.repl{f:List (κ×V)}{i:List (κ×Value)}(r:KV f i)(k:κ){y:V}{u:Value}(j:RelV y u):
  KV (f.map fun a=>if a.1=k then(a.1,y)else a) (i.map fun a=>if a.1=k then(a.1,u)else a):=by
 unfold KV at r ⊢
 induction r with
 |nil=>exact .nil
 |@cons p q n qs h t l =>
  rw[bL,bL];refine .cons ?_ l;obtain⟨g,m⟩:=h;by_cases e:p.1=k
  ·rw[if_pos e,if_pos (g.symm.trans e)];exact⟨g,j⟩
  ·rw[if_neg e,if_neg (fun z=>e (g.trans z))];exact⟨g,m⟩
theorem KV.put{a:List (κ×V)}{f:List (κ×Value)}(r:KV a f)(k:κ){y:V}{u:Value}(g:RelV y u):KV (dP a k y) (stored f k u):=by
 unfold dP stored;rw[r.any k];by_cases e:(f.any fun h=>decide (h.1=k))=true
 ·rw[if_pos e,if_pos e];exact r.repl k g
 ·rw[if_neg e,if_neg e];exact ee r ⟨rfl,g⟩
theorem KV.length{a:List (κ×V)}{e:List (κ×Value)}(r:KV a e):a.length=e.length:=Paired.length r
end
theorem qM{P:bR}{w:World}{k:cX}{u:Value}(r:RelV (kV k) u):(cD P w).is k u=true:=by
 cases k with
 |inl i=>obtain⟨t,e⟩:=(show ∃t,u=Value.int i t from r);subst e;exact Bv P w i t
 |inr x=>obtain⟨t,e⟩:=(show ∃t,u=Value.str x t from r);subst e;exact Bu P w x t
theorem Aa:∀{k:pC}{u:Value},RelV (K2 k) u->jJ k u=true
 |none,u,r=>by cases(show u=Value.none from r);rfl
 |some (.inl i),u,r=>by obtain⟨t,rfl⟩:=r;exact nz i t
 |some (.inr x),u,r=>by obtain⟨t,rfl⟩:=r;exact nv x t
abbrev KT(K:Za)(H:Hp):List (TK×V)->List (TK×Addr×Value)->Prop:=Paired fun p q=>p.1=q.1/\tG K H p.1 (.ref q.2.1)/\p.1.depth<=8/\RelV p.2 q.2.2
theorem KT.val{K:Za}{H:Hp}{a:List (TK×V)}{g:List (TK×Addr×Value)}(r:KT K H a g)(k:TK):l7 (c6 a k) ((atKey g k).map (·.2)):=by
 induction r with
 |nil=>exact jS
 |@cons p q m qs h t j =>
  obtain⟨i,_,_,l⟩:=h;by_cases e:p.1=k
  ·have f:q.1=k:=i.symm.trans e;have b:atKey (q::qs) k=some q.2:=by simp[atKey,jy,f]
   rw[eK e,b];exact l
  ·have f:¬q.1=k:=fun z=>e (i.trans z);have b:atKey (q::qs) k=atKey qs k:=by simp[atKey,jy,f]
   rw[dU e,b];exact j
theorem KT.repl{K:Za}{H:Hp}{a:List (TK×V)}{i:List (TK×Addr×Value)}(r:KT K H a i)(k:TK){y:V}{u:Value}(m:RelV y u):
  KT K H (a.map fun g=>if g.1=k then(g.1,y)else g) (i.map (putAt k u)):=by
 induction r with
 |nil=>exact .nil
 |@cons p q o qs h t n =>
  rw[bL,bL];refine .cons ?_ n;obtain⟨f,j,l⟩:=h;unfold putAt;by_cases e:p.1=k
  ·rw[if_pos e,if_pos (f.symm.trans e)];exact⟨f,j,l.1,m⟩
  ·rw[if_neg e,if_neg (fun z=>e (f.trans z))];exact⟨f,j,l⟩
theorem KT.put{K:Za}{H:Hp}{a:List (TK×V)}{f:List (TK×Addr×Value)}(r:KT K H a f)(k:TK){b:Addr}{y:V}{u:Value}(h:tG K H k (.ref b))(i:k.depth<=8)(g:RelV y u):
  KT K H (dP a k y) (oB f k b u):=by
 have e:(a.any fun j=>decide (j.1=k))=(atKey f k).isSome:=by
  rw[kA,(r.val k).isSome_eq,Option.isSome_map]
 unfold dP oB;rw[e];by_cases q:(atKey f k).isSome=true
 ·rw[if_pos q,if_pos q];exact r.repl k g
 ·rw[if_neg q,if_neg q];exact ee r ⟨rfl,h,i,g⟩
theorem KT.keeps{K:Za}{H a:Hp}{kvs:List (TK×V)}{xs:List (TK×Addr×Value)}(r:KT K H kvs xs)(f:∀b e,H b=some (.tup e)->a b=some (.tup e)):KT K a kvs xs :=
 Paired.mapP r fun _ _ z=>⟨z.1,tG.keeps f 8 z.2.2.1 z.2.1,z.2.2⟩
section
variable{P:bR}{w:World}{K:Za}{H:Hp}{h:Heap}{a:Addr}
theorem HD{u:HO}(ok:mP P w K H h)(e:Rd H a u):cw P w K H h a u:=e.ok ok
theorem qS{f:List (cX×V)}(ok:mP P w K H h)(e:Rd H a (.dK f)):f.length<=ak/\(a==hZ)=false/\∃g,KV f g/\h.DictOf (cD P w) a g :=
 show cw P w K H h a (.dK f)from HD ok e
theorem K9{f:List (cX×V)}(ok:mP P w K H h)(e:H a=some (.dK f)):f.length<=ak/\(a==hZ)=false/\∃g,KV f g/\h.DictOf (cD P w) a g:=qS ok (.inl e)
theorem Li(ok:mP P w K H h)(kin:K.In h):∀(d:Nat) {k:TK}{v:V}{u:Value},k.depth<=d->tG K H k v->RelV v u->nH h k u:=by
 have y:∀(d:Nat) (s:∀{k:TK}{v:V}{u:Value},k.depth<=d->tG K H k v->RelV v u->nH h k u) (g:List TK) (i:List V) (x:Zf),TK.depths g<=d->TKCs K H g i->bA i x->TAts h g x:=by
  intro d s g
  induction g with
  |nil =>
   intro i x _ hx r;have e:i=[]:=hx;subst e;cases r
   rfl
  |cons k g z =>
   intro i x j hx r;obtain⟨v,A,rfl,m,B⟩:=hx;cases r with
   |@cons _ u _ q G I =>
    have J:max k.depth (TK.depths g)<=d:=j;exact⟨u,q,rfl,s (by omega) m G,z A q (by omega) B I⟩
 intro d
 induction d with
 |zero =>
  intro k v u j hx r;cases k with
  |t l=>exact absurd j (by show ¬(TK.depths l+1<=0);omega)
  |k b =>
   have e:v=K2 b:=hx;subst e;exact Aa r
 |succ d s =>
  intro k v u j hx r;cases k with
  |k b =>
   have e:v=K2 b:=hx;subst e;exact Aa r
  |t l =>
   obtain⟨b,C,rfl,D,hi⟩:=hx;cases(show u=Value.ref b from r);obtain⟨f,E,L,m,B,n,M⟩:∃f:List Value,bA C f/\IsTup h b f.toArray:=by
    rcases D with D|⟨o,f,n,N,O,Q,T,r⟩
    ·obtain⟨_,f,E,p⟩:=(show cw P w K H h b (.tup C)from ok b _ D);exact⟨f,E,p⟩
    ·exact⟨f.toList,r,o,kin b o N,O,n,by simpa using Q⟩
   exact⟨b,L,f.toArray,n,rfl,m,B,M,by simpa using y d (fun m=>s m) l C f (by have:TK.depths l+1<=d+1:=j;omega) hi E⟩
theorem zZ{k:TK}(ok:mP P w K H h)(kin:K.In h)(e:tG K H k (.ref a))(f:k.depth<=8):(bO P w).is h k a:=⟨Li ok kin 8 f e rfl,f⟩
theorem vH{f:List (TK×V)}(ok:mP P w K H h)(kin:K.In h)(e:Rd H a (.dT f)):f.length<=ak/\(a==hZ)=false /\
  ∃g,KT K H f g/\h.DictOfH (bO P w) a g:=by
 obtain⟨z,y,g,r,o,j,k,n,s,u,v,A⟩:=(show cw P w K H h a (.dT f)from HD ok e);refine⟨z,y,g,r,o,j,k,n,s,u,v,fun x hx=>?_,A⟩;have all:∀{l:List (TK×V)}{m:List (TK×Addr×Value)},KT K H l m->∀x∈m,(bO P w).is h x.1 x.2.1:=by
  intro l m q
  induction q with
  |nil=>intro x hx;exact nomatch hx
  |@cons p q C qs i t B =>
   intro x hx;rcases dC.mp hx with e|hx
   ·subst e;exact zZ ok kin (by rw[<-i.1];exact i.2.1) (by rw[<-i.1];exact i.2.2.1)
   ·exact B x hx
 exact all r x hx
theorem K6{f:List (TK×V)}(ok:mP P w K H h)(kin:K.In h)(e:H a=some (.dT f)):f.length<=ak/\(a==hZ)=false /\
  ∃g,KT K H f g/\h.DictOfH (bO P w) a g:=vH ok kin (.inl e)
end
mutual
def lA(K:Za)(H:Hp):TK->V->Prop
 |.k a,v=>v=K2 a
 |.t l,v=>∃b xs,v=.ref b/\br K H b xs/\TKIns K H l xs
def TKIns(K:Za)(H:Hp):List TK->List V->Prop
 |[],vs=>vs=[]
 |k::r,vs=>∃v us,vs=v::us/\lA K H k v/\TKIns K H r us
end
theorem jO.isIn{K:Za}{H:Hp}:∀(d:Nat) {k:TK}{v:V},k.depth<=d->jO H k v->lA K H k v:=by
 have i:∀(d:Nat) (g:∀{k:TK}{v:V},k.depth<=d->jO H k v->lA K H k v) (e:List TK) (h:List V),TK.depths e<=d->TKAts H e h->TKIns K H e h:=by
  intro d g e
  induction e with
  |nil=>intro h _ hx;exact hx
  |cons x e j =>
   intro h f hx;obtain⟨v,o,rfl,m,n⟩:=hx;have p:max x.depth (TK.depths e)<=d:=f;exact⟨v,o,rfl,g (by omega) m,j o (by omega) n⟩
 intro d
 induction d with
 |zero =>
  intro k v f hx;cases k with
  |t l=>exact absurd f (by show ¬(TK.depths l+1<=0);omega)
  |k a=>exact hx
 |succ d g =>
  intro k v f hx;cases k with
  |k a=>exact hx
  |t l =>
   obtain⟨b,e,rfl,q,hi⟩:=hx;exact⟨b,e,rfl,br.of q,i d (fun r=>g r) l e (by have:TK.depths l+1<=d+1:=f;omega) hi⟩
theorem JB{X:Cx}{y:Zd}{σ:St}{H:Hp}{s:Shared}(I:Inv X y σ H s):∀(d:Nat) {k:TK}{v:V}{u:Value},k.depth<=d->lA X.K H k v->RelV v u->nH s.heap k u:=by
 have p:∀(d:Nat) (m:∀{k:TK}{v:V}{u:Value},k.depth<=d->lA X.K H k v->RelV v u->nH s.heap k u) (a:List TK) (f:List V) (o:Zf),TK.depths a<=d->TKIns X.K H a f->bA f o->TAts s.heap a o:=by
  intro d m a
  induction a with
  |nil =>
   intro f o _ hx r;have e:f=[]:=hx;subst e;cases r
   rfl
  |cons k a q =>
   intro f o g hx r;obtain⟨v,w,rfl,h,x⟩:=hx;cases r with
   |@cons _ u _ i z A =>
    have B:max k.depth (TK.depths a)<=d:=g;exact⟨u,i,rfl,m (by omega) h z,q w i (by omega) x A⟩
 intro d
 induction d with
 |zero =>
  intro k v u g hx r;cases k with
  |t l=>exact absurd g (by show ¬(TK.depths l+1<=0);omega)
  |k b =>
   have e:v=K2 b:=hx;subst e;exact Aa r
 |succ d m =>
  intro k v u g hx r;cases k with
  |k b =>
   have e:v=K2 b:=hx;subst e;exact Aa r
  |t l =>
   obtain⟨b,C,rfl,D,hi⟩:=hx;cases(show u=Value.ref b from r);obtain⟨j,E,⟨G,h,x,n,J⟩,_⟩:=I.tuple D;exact⟨b,G,j.toArray,n,rfl,h,x,J,by simpa using p d (fun h=>m h) l C j (by have:TK.depths l+1<=d+1:=g;omega) hi E⟩
theorem z_{X:Cx}{f:Zd}{σ:St}{H:Hp}{s:Shared}{k:TK}{b:Addr}(I:Inv X f σ H s)(e:lA X.K H k (.ref b))(a:k.depth<=8):(bO X.prog X.w).is s.heap k b:=⟨JB I 8 a e rfl,a⟩
theorem jp{P:bR}{w:World}{A:Around}(a:A.units+16<cLine):(bO P w).room A.in1:=by
 show A.units+1+8<cLine;omega
def AA(K:Za)(H:Hp)(a:Addr)(y:V)(r:Option V):Prop :=
 (∃kvs k,Rd H a (.dK kvs)/\y=kV k/\r=c6 kvs k)∨∃kvs k b,Rd H a (.dT kvs)/\y=.ref b/\lA K H k (.ref b)/\k.depth<=8/\r=c6 kvs k
def My(H:Hp)(a:Addr)(y v:V)(H':Hp):Prop :=
 (∃kvs k,H a=some (.dK kvs)/\y=kV k/\kvs.length<ak/\H'=upd H a (.dK (dP kvs k v))) ∨
 ∃kvs k b,H a=some (.dT kvs)/\y=.ref b/\jO H k (.ref b)/\k.depth<=8/\kvs.length<ak/\H'=upd H a (.dT (dP kvs k v))
section
variable{X:Cx}{J3:Zd}{σ:St}{H:Hp}{s:Shared}{a:Addr}{y v:V}{u r:Value}{o:Option V}{A:Around}{E:Zc}
theorem Inv.big(I:Inv X J3 σ H s):hZ<s.heap.objs.size:=by
 have h:cB<s.heap.objs.size:=(I.mod.glob.keeps I.bk).lt;exact uQ (by decide) h
theorem Go{Q:Zc}(D:A.units+16<cLine)(I:Inv X J3 σ H s)(g:AA X.K H a y (some v))(B:RelV y u)(h:∀j C,Inv X J3 σ H C->RelV v j->Q j C):
  wpAny (model X.prog X.w) A (oF (.ref a) u) Q E s:=by
 rcases g with⟨m,k,e,n,l⟩|⟨m,k,b,e,n,G,J,l⟩
 ·subst n;obtain⟨z,L,M,f,q⟩:=qS I.hok e;obtain⟨j,t,i⟩:=l7.some_of (v:=v) (o:=oC M k) (by rw[l];exact f.val k);exact wpAny_getItem_of (qM B) q.mapOf t (h j _ (I.tok _) i)
 ·subst n;cases(show u=Value.ref b from B);obtain⟨z,L,N,f,q⟩:=vH I.hok I.kIn e;obtain⟨j,t,i⟩:=l7.some_of (v:=v) (o:=(atKey N k).map (·.2)) (by rw[l];exact f.val k);obtain⟨p,O,x⟩:=oh.mp t;refine wpAny_getItem_heap (jp D) (z_ I G J) q O ?_;rw[x];exact h j _ (I.tok _) i
theorem d_in{Q:Zc}(t:A.units+16<cLine)(I:Inv X J3 σ H s)(g:AA X.K H a y o)(n:RelV y u)(h:∀p,Inv X J3 σ H p->Q (.bool o.isSome) p):
  wpAny (model X.prog X.w) A (fu .In u (.ref a)) Q E s:=by
 rcases g with⟨i,k,e,j,l⟩|⟨i,k,b,e,j,x,B,l⟩
 ·subst j;obtain⟨z,hd,C,f,m⟩:=qS I.hok e;refine wpAny_in_of (qM n) hd m.mapOf ?_;rw[<-(f.val k).isSome_eq,<-l];exact h _ (I.tok _)
 ·subst j;cases(show u=Value.ref b from n);obtain⟨z,hd,D,f,m⟩:=vH I.hok I.kIn e;refine wpAny_in_heap (jp t) (z_ I x B) hd m ?_;have q:=(f.val k).isSome_eq;rw[Option.isSome_map]at q;rw[<-q,<-l];exact h _ (I.tok _)
theorem Kw{Q:Zc}(t:A.units+16<cLine)(I:Inv X J3 σ H s)(g:AA X.K H a y o)(n:RelV y u)(h:∀p,Inv X J3 σ H p->Q (.bool (!o.isSome)) p):
  wpAny (model X.prog X.w) A (fu .NotIn u (.ref a)) Q E s:=by
 rcases g with⟨i,k,e,j,l⟩|⟨i,k,b,e,j,x,B,l⟩
 ·subst j;obtain⟨z,hd,C,f,m⟩:=qS I.hok e;refine wpAny_notIn_of (qM n) hd m.mapOf ?_;rw[<-(f.val k).isSome_eq,<-l];exact h _ (I.tok _)
 ·subst j;cases(show u=Value.ref b from n);obtain⟨z,hd,D,f,m⟩:=vH I.hok I.kIn e;refine wpAny_notIn_heap (jp t) (z_ I x B) hd m ?_;have q:=(f.val k).isSome_eq;rw[Option.isSome_map]at q;rw[<-q,<-l];exact h _ (I.tok _)
theorem ux{f:Heap}{g:Nat}{ob:HO}(I:Inv X J3 σ H s)(h:Mv (H a))(i:iN a s.heap f)(j:∃q,f.get? a=some q)(new:cw X.prog X.w X.K (upd H a ob) f a ob):
  Inv X J3 σ (upd H a ob) { s with heap:=f,toks:=g } :=
 I.write (x:=a) (e:=a) h (.inl rfl) (fun b q k z=>(i.2 b k).trans z) j new
theorem Dr{P:bR}{w:World}{K:Za}{i:Hp}{h:Heap}{e:List (cX×V)}{f:List (cX×Value)}(z:e.length<=ak)(j:(a==hZ)=false)(g:KV e f)(k:h.DictOf (cD P w) a f):
  cw P w K i h a (.dK e):=⟨z,j,f,g,k⟩
theorem Gn{J:Hp}{Q:Unit->Shared->Prop}(Y:A.units+16<cLine)(I:Inv X J3 σ H s)(g:My H a y v J)(L:RelV y u)(M:RelV v r)(h:∀N,Inv X J3 σ J N->Q () N):
  wpAny (model X.prog X.w) A (setItem (.ref a) u r) Q E s:=by
 rcases g with⟨f,k,e,p,l,t⟩|⟨f,k,b,e,p,O,m,l,t⟩
 ·subst p t;obtain⟨z,x,vs,i,B⟩:=K9 I.hok e;have C:vs.length<=ak:=by rw[<-i.length];exact z
  have D:(dP f k v).length<=ak:=by have:=j4 f k v;omega
  refine wpAny_setItem_pairs (hsz:=C) (qM L) B fun T j G=>h _ ?_;have he:∃q,T.get? a=some q:=let⟨q,_,_,n,_⟩:=j;⟨q,n⟩;exact ux I (by rw[e];exact jS) G he (Dr D x (i.put k M) j)
 ·subst p t;cases(show u=Value.ref b from L);obtain⟨z,x,xs,i,B⟩:=K6 I.hok I.kIn e;have C:xs.length<=ak:=by rw[<-Paired.length i];exact z
  have D:(dP f k v).length<=ak:=by have:=j4 f k v;omega
  refine wpAny_setItem_heap (hsz:=C) (jp Y) (zZ I.hok I.kIn (jO.c 8 m O) m) B fun T j G=>h _ ?_;obtain⟨q,es,ep,n,h2,h3,h4,_,h5⟩:=j;refine ux I (by rw[e];exact jS) G ⟨q,n⟩ ⟨D,x,_,(i.put k (jO.c 8 m O) m M).keeps fun c ys U=>?_,q,es,ep,n,h2,h3,h4,h5⟩;rw[aj (KZ U e (fun z=>nomatch z))];exact U
end
section
variable{X:Cx}{J3:Zd}{σ:St}{H:Hp}{s:Shared}{a:Addr}{kvs:List (cX×V)}{k:cX}{u:Value}{A:Around}{E:Zc}
theorem Mo{Q:Zc}(I:Inv X J3 σ H s)(e:Rd H a (.dK kvs))(h:∀t g,Inv X J3 σ H g->Q (.int kvs.length t) g):wpAny (model X.prog X.w) A (call (.builtin "len") [.ref a]) Q E s:=by
 obtain⟨z,i,l,f,j⟩:=qS I.hok e;refine call_len_dict i j (by rw[<-f.length];rw[ma]at z;omega) ?_;rw[<-f.length];exact h _ _ (I.tok _)
end
def GD(i:Expr):Prop:=∀ov iv,yX i false ov iv=operate [ov,iv] (oF ov iv)
theorem JF{a:bR}{w:World}{A:Around}{E:Zc}{s:Shared}{k:Env}{value slice:Expr}{p:Pos}{T id:String}{Q:Zc}
  (t:typeLookup (.type T) "__getitem__"=pure (some (.builtin id))) (u:GD slice)
  (h:wpAny (model a w) A (eval value k) (fun o g=>wpAny (model a w) A (eval slice k) (fun i e=>e.TypeIs o T/\wpAny (model a w) A (oF o i) Q E e) E g) E s) :
  wpAny (model a w) A (eval (.Subscript value slice p) k) Q E s:=by
 refine Subscript_ (pQ h (fun o g m=>pQ m (fun i e f=>?_) fun _ _ x=>x) fun _ _ x=>x);obtain⟨q,f⟩:=f;unfold subscriptTail;refine am ?_;rw[getitemInPython_of_ne q.not_modules];refine am (Jv q t ?_);have l:wpAny (model a w) A (yX slice false o i) (fun r j=>wpAny (model a w) A (letTemporaryGo value o r >>= fun _=>pure r) Q E j) E e:=by
  rw[u o i];exact wpAny_operating (pQ f (fun r j n=>am (wpAny_letTemporaryGo (aQ n))) fun _ _ x=>x)
 first
  |exact aQ (am l)
  |exact am (aQ (am l))
  |exact am l
theorem BH{X:Cx}{i:Zd}{σ:St}{H:Hp}{s:Shared}{a:Addr}{y:V}{o:Option V}(I:Inv X i σ H s)(g:AA X.K H a y o):s.TypeIs (.ref a) "dict":=by
 rcases g with⟨f,k,e,_,_⟩|⟨f,k,b,e,_,_,_⟩
 ·obtain⟨_,_,j,_,h⟩:=qS I.hok e;exact h.typeIs
 ·obtain⟨_,_,l,_,h⟩:=vH I.hok I.kIn e;exact h.typeIs
def sX(K:Za)(td ty:TE):TE:=fun σ H Q=>td σ H fun x H1=>ty σ H1 fun y H2=>∃a v,x=.ref a/\AA K H2 a y (some v)/\Q v H2
def Fq(K:Za)(ty td:TE):TE:=fun σ H Q=>ty σ H fun y H1=>td σ H1 fun x H2=>∃a o,x=.ref a/\AA K H2 a y o/\Q (.bl o.isSome) H2
def mV(K:Za)(ty td:TE):TE:=fun σ H Q=>ty σ H fun y H1=>td σ H1 fun x H2=>∃a o,x=.ref a/\AA K H2 a y o/\Q (.bl (!o.isSome)) H2
def mB(td ty tv:TE):TS:=fun D σ H=>tv σ H fun v H1=>td σ H1 fun x H2=>ty σ H2 fun y H3=>∃a H4,x=.ref a/\My H3 a y v H4/\D.nx σ H4
section
variable{X:Cx}{o i e value:Expr}{pos pos' J6:Pos}{td ty tv:TE}
theorem k_(m:X.A.units+16<cLine)(n:PE X o td)(hi:PE X i ty)(p:GD i):PE X (.Subscript o i pos) (sX X.K td ty):=by
 intro k s σ H Q I h;refine JF PySem.F.slot_dict_getitem.lookup p (du (n k s σ H _ I h) fun u q ⟨x,r,t,w,z⟩=>du (hi k q σ r _ t z) fun G J f=>?_);obtain⟨y,B,l,C,a,v,ex,g,D⟩:=f;subst ex;obtain rfl:u=Value.ref a:=w;exact⟨BH l g,Go m l g C fun L M E j=>⟨v,B,E,j,D⟩⟩
theorem vv(k:X.A.units+16<cLine)(hi:PE X i ty)(l:PE X o td):PC X .In i o (Fq X.K ty td):=by
 intro j s σ H Q I h;refine du (hi j s σ H _ I h) fun D m ⟨y,n,p,q,r⟩=>du (l j m σ n _ p r) fun u E f=>?_;obtain⟨x,t,v,w,a,z,ex,g,B⟩:=f;subst ex;obtain rfl:u=Value.ref a:=w;exact d_in k v g q fun G C=>⟨.bl z.isSome,t,C,rfl,B⟩
theorem kK(k:X.A.units+16<cLine)(hi:PE X i ty)(l:PE X o td):PC X .NotIn i o (mV X.K ty td):=by
 intro j s σ H Q I h;refine du (hi j s σ H _ I h) fun D m ⟨y,n,p,q,r⟩=>du (l j m σ n _ p r) fun u E f=>?_;obtain⟨x,t,v,w,a,z,ex,g,B⟩:=f;subst ex;obtain rfl:u=Value.ref a:=w;exact Kw k v g q fun G C=>⟨.bl (!z.isSome),t,C,rfl,B⟩
theorem iG(k:X.A.units+16<cLine)(l:PE X o td)(hi:PE X i ty)(m:PE X value tv)(n:uD value (some (.Subscript o i pos')) pos.line X.env=pure false):
  PS X (.Assign [.Subscript o i pos'] value pos) (mB td ty tv):=by
 intro f s σ H D I h;refine wpAny_Assign_Subscript (du (m f s σ H _ I h) fun r p ⟨v,q,t,w,z⟩=>du (l f p σ q _ t z) fun u B ⟨x,C,E,G,J⟩=>du (hi f B σ C _ E J) fun T U j=>?_) n;obtain⟨y,Y,L,M,a,N,ex,g,O⟩:=j;subst ex;obtain rfl:u=Value.ref a:=G;exact Gn k L g M w fun s4 Q=>⟨σ,N,Q,O⟩
end
theorem BG{P:bR}{w:World}{K:Za}{H:Hp}(h:Heap)(a:hZ<h.objs.size):cw P w K H (h.push { cls:=.type "dict",data:=.dict #[] }) h.objs.size (.dK []) :=
 ⟨c_ _,beq_eq_false_iff_ne.mpr (iO (cK a)),[],.nil,Heap.DictOf.new h⟩
theorem IM{P:bR}{w:World}{K:Za}{H:Hp}(h:Heap)(a:hZ<h.objs.size):cw P w K H (h.push { cls:=.type "dict",data:=.dict #[] }) h.objs.size (.dT []) :=
 ⟨c_ _,beq_eq_false_iff_ne.mpr (iO (cK a)),[],.nil,_,#[],0,de _ rfl,⟨rfl,rfl,rfl⟩,rfl,rfl,rJ⟩
def r9:TE:=fun _ H Q=>∀p,H p=none->Q (.ref p) (upd H p (.dK []))
def CJ:TE:=fun _ H Q=>∀p,H p=none->Q (.ref p) (upd H p (.dT []))
section
variable{X:Cx}{pos:Pos}
theorem mF:PE X (.Dict [] [] pos) r9:=fun e s σ H Q I h =>
 wpAny_Dict_empty ⟨.ref s.heap.objs.size,_,I.laid (a:=s.heap.objs.size) (o:=.dK []) (t':=s.toks) (fun _ _ q=>bt _ q) (aR _) (BG s.heap I.big),rfl,h _ (I.hok.fresh (aR _))⟩
theorem Bm:PE X (.Dict [] [] pos) CJ:=fun e s σ H Q I h =>
 wpAny_Dict_empty ⟨.ref s.heap.objs.size,_,I.laid (a:=s.heap.objs.size) (o:=.dT []) (t':=s.toks) (fun _ _ q=>bt _ q) (aR _) (IM s.heap I.big),rfl,h _ (I.hok.fresh (aR _))⟩
end
def Cw:List (TE×TE)->St->Hp->(List (V×V)->Hp->Prop)->Prop
 |[],_,H,Q=>Q [] H
 | (tk,tv)::r,σ,H,Q=>tk σ H fun x H1=>tv σ H1 fun y H2=>Cw r σ H2 fun ps H3=>Q ((x,y)::ps) H3
abbrev VV:List (V×V)->List (Value×Value)->Prop:=Paired fun p q=>RelV p.1 q.1/\RelV p.2 q.2
def MR(X:Cx)(pos:Pos)(keys:List (Option Expr))(values:List Expr)(trs:List (TE×TE)):Prop :=
 ∀(J3:Zd) (s:Shared) (σ:St) (H:Hp) (Q:List (V×V)->Hp->Prop),Inv X J3 σ H s->Cw trs σ H Q ->
  wpAny (model X.prog X.w) X.A (evalPairs (pairTrees keys values X.env pos)) (fun vs s'=>∃ps H',Inv X J3 σ H' s'/\VV ps vs/\Q ps H') X.xe s
theorem JZ{X:Cx}{a:Pos}:MR X a [] [] []:=fun e s σ H Q I h=>pairTrees_nil_walk ⟨[],H,I,.nil,h⟩
theorem Ig{X:Cx}{a:Pos}{k v:Expr}{i:List (Option Expr)}{j:List Expr}{tk l:TE}{e:List (TE×TE)}(m:PE X k tk)(n:PE X v l)(o:MR X a i j e):
  MR X a (some k::i) (v::j) ((tk,l)::e):=fun f s σ H Q I h =>
 pairTrees_cons_walk (du (m f s σ H _ I h) fun u p ⟨x,q,r,t,w⟩=>du (n f p σ q _ r w) fun M z ⟨y,A,B,C,D⟩ =>
  du (o f z σ A _ B D) fun N O ⟨E,G,J,g,L⟩=>⟨(x,y)::E,G,J,.cons ⟨t,C⟩ g,L⟩)
def fS(kvs more:List (cX×V)):List (cX×V):=more.foldl (fun acc kv=>dP acc kv.1 kv.2) kvs
theorem KV.merge:∀{a:List (cX×V)}{i:List (cX×Value)}{f:List (cX×V)}{g:List (cX×Value)},KV a i->KV f g->KV (fS f a) (merged g i):=by
 intro a i f g r;unfold KV at r
 induction r generalizing f g with
 |nil=>intro q;exact q
 |@cons p q l qs h t j =>
  intro k;have e:KV (dP f p.1 p.2) (stored g q.1 q.2):=by
   have:=k.put p.1 h.2;rw[<-h.1];exact this
  exact j e
theorem ke:∀(e a:List (cX×V)),(fS a e).length<=a.length+e.length
 |[],a=>by show a.length<=a.length+0;omega
 |p::r,a=>by
  have f:=ke r (dP a p.1 p.2);have g:=j4 a p.1 p.2;show(fS (dP a p.1 p.2) r).length<=_;rw[fF];omega
theorem vU{P:bR}{w:World}:∀{e:List (cX×V)}{g:List (Value×Value)},VV (e.map fun i=>(kV i.1,i.2)) g->∃f,Carries (cD P w) g f/\KV e f
 |[],_,r=>by rw[yT]at r;cases r;exact⟨[],jS,.nil⟩
 |p::e,_,r=>by
  rw[bL]at r;cases r with
  |@cons a b k bs h t =>
   obtain⟨f,c,q⟩:=vU (P:=P) (w:=w) t;obtain⟨l,j⟩:=b;exact⟨(p.1,j)::f,⟨qM h.1,rfl,c⟩,.cons ⟨rfl,h.2⟩ q⟩
def KO(trs:List (TE×TE)):TE:=fun σ H Q=>∀p,H p=none->Cw trs σ (upd H p (.dK [])) fun ps H2=>H2 p=some (.dK [])/\∃kvs:List (cX×V),ps=kvs.map (fun kv=>(kV kv.1,kv.2))/\kvs.length<=15/\Q (.ref p) (upd H2 p (.dK (fS [] kvs)))
theorem Kc{X:Cx}{f:Pos}{keys:List (Option Expr)}{values:List Expr}{g:List (TE×TE)}(h:MR X f keys values g)(i:keys.all (·.isSome)=true)(r:keys.length=values.length)(t:keys≠[])
  (l:keys.length<=15):PE X (.Dict keys values f) (KO g):=by
 intro u s σ H Q I q;have v:=I.hok.fresh (aR s.heap.objs.size);have x:=I.laid (a:=s.heap.objs.size) (o:=.dK []) (h':=s.heap.push { cls:=.type "dict",data:=.dict #[] }) (t':=s.toks) (fun _ _ q=>bt _ q) (aR _) (BG s.heap I.big);refine wpAny_Dict_walk (knd:=cD X.prog X.w) i r t l (du (h u _ σ _ _ x (q _ v)) fun U Y m=>?_);obtain⟨ps,H2,p,n,e,j,y,lk,A⟩:=m;subst y;obtain⟨B,c,C⟩:=vU (P:=X.prog) (w:=X.w) n;obtain⟨z,D,E,G,J⟩:=K9 p.hok e;cases G;refine⟨B,c,J,fun h' k L=>⟨.ref s.heap.objs.size,_,?_,rfl,A⟩⟩;have M:(fS [] j).length<=ak:=by
  have N:=ke j [];rw[mn]at N;rw[ma];omega
 have O:∃q,h'.get? s.heap.objs.size=some q:=let⟨q,_,_,T,_⟩:=k;⟨q,T⟩;exact ux p (by rw[e];exact jS) L O (Dr M D (C.merge .nil) k)
structure M2(X:Cx)(o:Expr)(m:Str)(J5:Pos)(e f:Expr)(J4:Pos):Prop where
 base:w_ o m X.env (eval o X.env)=eval o X.env
 few:((backTo J4 (a_ [e,f] X.env)).all (fun x=>!x.1) && (sP J4 (sO [] X.env)).all (fun x=>x.1.isSome)
  && decide (([e,f]:List Expr).length+([]:List Keyword).length+(if([]:List Keyword).isEmpty then 0 else 1)<30))=true
 line:(J5.endLine==J4.line)=true
 trees:backTo J4 (a_ [e,f] X.env)=[(false,eval e X.env),(false,eval f X.env)]
def IsD(H:Hp)(a:Addr):Prop:=(∃kvs,Rd H a (.dK kvs))∨∃kvs,Rd H a (.dT kvs)
theorem LC{X:Cx}{l:Zd}{σ:St}{H:Hp}{s:Shared}{a:Addr}(I:Inv X l σ H s)(d:IsD H a):
  s.TypeIs (.ref a) "dict"/\(∀b,Value.ref a=.ref b->∃f,s.heap.get? b=some f/\f.dict=none)/\(a==hZ)=false:=by
 rcases d with⟨h,e⟩|⟨h,e⟩
 ·obtain⟨_,i,m,_,g⟩:=qS I.hok e;refine⟨g.typeIs,fun b q=>?_,i⟩;cases q;obtain⟨f,_,_,j,k,_⟩:=g;exact⟨f,j,k.2.1⟩
 ·obtain⟨_,i,n,_,g⟩:=vH I.hok I.kIn e;refine⟨g.typeIs,fun b q=>?_,i⟩;cases q;obtain⟨f,_,_,j,k,_⟩:=g;exact⟨f,j,k.2.1⟩
section
variable{X:Cx}{J3:Zd}{σ:St}{H:Hp}{s:Shared}{a:Addr}{y d:V}{u r:Value}{o:Option V}{A:Around}{E:Zc}
theorem LF{Q:Zc}(x:A.units+16<cLine)(I:Inv X J3 σ H s)(g:AA X.K H a y o)(p:RelV y u)(q:RelV d r)(h:∀t v,Inv X J3 σ H v->RelV (o.getD d) t->Q t v):
  wpAny (model X.prog X.w) A (call (.builtin "dict.get") [.ref a,u,r]) Q E s:=by
 rcases g with⟨j,k,e,m,l⟩|⟨j,k,b,e,m,B,C,l⟩
 ·subst m;obtain⟨z,n,G,f,i⟩:=qS I.hok e;refine call_meetsIn PySem.F.slot_dict_get i.typeIs PySem.F.entry_dict_get (PySem.F.args_dict_get_3 _ _ _) (meets_dict_get_default (cD X.prog X.w) a (qM p) n r) ⟨_,i.mapOf,h _ _ (I.tok _) ?_⟩;rw[l];exact(f.val k).getD q
 ·subst m;cases(show u=Value.ref b from p);obtain⟨z,n,D,f,i⟩:=vH I.hok I.kIn e;refine call_meetsIn PySem.F.slot_dict_get i.typeIs PySem.F.entry_dict_get (PySem.F.args_dict_get_3 _ _ _) (meetsH_dict_get_default (bO X.prog X.w) a b n r) ⟨jp x,k,D,z_ I B C,i,h _ _ (I.tok _) ?_⟩;rw[l];exact(f.val k).getD q
end
def vh(K:Za)(td ty tx:TE):TE:=fun σ H Q=>td σ H fun x H1=>∃a,x=.ref a/\IsD H1 a/\ty σ H1 fun y H2=>tx σ H2 fun z H3=>∃o,AA K H3 a y o/\Q (o.getD z) H3
section
variable{X:Cx}{o e f:Expr}{J5 J4:Pos}{td ty tx:TE}
theorem qH(n:X.A.units+16<cLine)(p:PE X o td)(q:PE X e ty)(hf:PE X f tx)(m:M2 X o "get" J5 e f J4):PE X (.Call (.Attribute o "get" J5) [e,f] [] J4) (vh X.K td ty tx):=by
 intro i s σ H Q I h;refine wpAny_Call_method m.base m.few m.line PySem.F.plainAttrs_dict PySem.F.slot_dict_get PySem.F.type_dict_get (du (p i s σ H _ I h) fun u r j=>?_);obtain⟨x,t,l,v,a,ex,d,w⟩:=j;subst ex;obtain rfl:u=Value.ref a:=v;obtain⟨B,C,_⟩:=LC l d;refine⟨B,C,?_⟩;rw[m.trees];refine yW rfl (Calls.evalArgs_plain (DU (du (q i r σ t _ l w) fun Y D ⟨y,E,G,J,L⟩ =>
  DU (du (hf i D σ E _ G L) fun fv s3 ⟨z,M,N,O,ov,g,T⟩=>Calls.spliced_nil ?_))))
 exact LF n N g J O fun w' s4 U k=>⟨_,M,U,k,T⟩
end
end L2
namespace Att
open PySem PySem.W PySem.Calls PyProof.Rows
theorem ints_of_wellAll{P:Params}{h:Heap}:∀(e:List Int) (vs:Zf),WellAll P h vs (e.map WData.int)->uP vs e:=by
 intro e
 induction e with
 |nil =>
  intro vs w;rw[yT]at w;cases w;exact .nil
 |cons n e f =>
  intro vs w;rw[bL]at w;cases w with
  |cons a b =>
   cases a;exact .cons _ _ (f _ b)
theorem script_of{l:OpenLaw}{n:Nat}(u:l.most=some n){P:Params}{h:Heap}{args:List WData}{f:Zf}
  (g:l.row.toRowW.claim.pre args=true) (o:WellAll P h f args) :
  ∃a s e,f=[Value.ref a]/\args=[WData.list (e.map WData.int)]/\h.get? a=some { cls:=.type "list",data:=.seq s.toArray }/\uP s e/\e.length<=n:=by
 have p:WShape.hasAll [] args [.list .int]=true:=(pre_splitW g).1;have t:l.pre.holds [] { args:=args }=true:=(pre_splitW g).2;obtain⟨d,r,rfl,v,w⟩:=hasAllW_cons p;obtain rfl:=hasAllW_nil w;obtain⟨C,rfl,x⟩:=hasW_list v;obtain⟨e,rfl⟩:=items_int x;have i:e.length<=n:=by
  unfold OpenLaw.pre at t;have k:(WTm.not (.lt (.lit (.int (n:Int))) (.len (.arg 0)))).holds [] { args:=[.list (e.map .int)] }=true:=by
   have k:=(holds_andW t).1;rw[u]at k;exact k
  have m:=condW_of k (w_not (w_lt w_lit (w_len_list (w_arg rfl))));rw[ai]at m;refine Nat.le_of_not_lt fun q=>?_;have y:(n:Int)<((e.length:Nat):Int):=by omega
  first
   | (rw[zzr1 y]at m;exact absurd m (by decide))
   | (simp at m;omega)
 cases o with
 |cons z A =>
  cases A;cases z with
  |list B j=>exact⟨_,_,e,rfl,rfl,B,ints_of_wellAll e _ j,i⟩
theorem post_true(l:OpenLaw)(args:List WData):l.row.toRowW.claim.post args (.bool true) args=true :=
 postW_of (r:=l.row.toRowW) (X:=(true==true))
  (show WShape.has [] (.bool true) .bool=true by first|rfl|decide|simp[WShape.has,WShape.arms,WShape.armsAll])
  (show(WTm.eq .res (.lit (.bool true))).value [] { args:=args,res:=some (.bool true),after:=args }=some (.bool (true==true))from w_eq_bool (w_res rfl) w_lit) rfl
theorem attach_call{l:OpenLaw}{n:Nat}{q:bR}{loose:Zb}{C:(Str->Option Value)->Heap->Prop}{D:World->Heap->Prop}{d:DefRec}
  (J:l.most=some n) (v:d.params.defaults=[])
  (call:∀(w:World) (g e:Shared) (p x:Str->Option Value) (i:Addr) (o:Obj) (y s doc:Value) (a:Addr) (h:Zf) (t:List Int),
   Ground q loose [] C w g p x e.heap->D w e.heap ->
   e.heap.get? i=some o->o.data=.func (docDef d.name d.params d.body d.scope y s doc)->e.heap.CodeRec s d.name->p d.name=some (.ref i) ->
   e.heap.get? a=some { cls:=.type "list",data:=.seq h.toArray }->uP h t->t.length<=n->e.gens=#[] ->
   zzl78 (model l.prog w) mm (.call (.ref i) ⟨[.ref a],[]⟩) (fun r u=>r=.ok (.ret (.bool true))/\OldK e.heap u.heap/\u.os=e.os/\pP u.gens) e) :
  WalkO q loose C D l.row.toRowW d [] (fun f h=>PySem.call f h):=by
 intro w g e p x G Y i o y s doc L kV M N z E A O args H as j I Q B T;obtain rfl:L=.none:=Dflts.none E v;obtain rfl:kV=.none:=Dflts.noKw E;obtain⟨a,h,t,rfl,rfl,k,hints,m⟩:=script_of J j B;refine enter_call (DS (call w g e p x i o y s doc a h t G Y M (fd_plain N) z A k hints m O) fun r u U=>?_);obtain⟨rfl,h2,h3,h4⟩:=U;exact⟨.inl ⟨.bool true,.bool true,[],rfl,fun _=>rfl,.bool true,post_true l _,fun _=>⟨List.Pairwise.nil,fun _ hm=>(nomatch hm)⟩⟩,h2,h3,h4⟩
end Att
namespace L2
open PySem PySem.Spec PyProof.Rows
theorem xc:∀{a:Zf}{e:List Int},uP a e->bA (e.map V.int) a
 |_,_,.nil=>.nil
 |_,_,.cons n t h=>.cons ⟨t,rfl⟩ (xc h)
def KF(H:Hp):Prop:=∀b,H b=none∨∃o xs,H b=some (.frz o (.lst xs))
theorem Iy{P:bR}{w:World}{K:Za}{A Q:Str->Option Value}{CX:GV}{k:Nat}{T a:Addr}{fd:lU}{x:Str}{sp:Sp}{f:Shared}{t:Zf}{B:List Int}
  (KX:K.In f.heap) (C:f.heap.Ns cB A) (i:f.heap.Ns builtinsNs Q) (U:∀x:Str,x≠"__name__"->Q x=jT x) (D:f.heap.NoLimit) (hg:f.gens=#[])
  (O:f.heap.get? a=some { cls:=.type "list",data:=.seq t.toArray }) (hi:uP t B) (hl:B.length<=ak) (hr:fN k mm)
  (F:∀base:Heap,K.In base->base.Ns cB A->mR P w K A base CX k T fd [x] sp) (y:∀(s:Shared) (u:Value),uB s fd ⟨[u],[]⟩ [(x,u)])
  (Y:∀H:Hp,KF H->ay K H a (B.map V.int)->sp [.ref a] H (fun v _=>v=.bl true) fun _ _ _=>False)
  (al:∀H e j,CX [] H f (fun _ _ _=>False) e j->False) :
  zzl78 (model P w) mm (.call (.ref T) ⟨[.ref a],[]⟩) (fun r j=>r=.ok (.ret (.bool true))/\OldK f.heap j.heap/\j.os=f.os/\pP j.gens) f:=by
 have rv:=xc hi;have E:=hi.length;have p:∀H:Hp,KF H->ay K H a (B.map V.int)->mP P w K H f.heap->(∀b,H b≠none->b=a)->(H a≠none->K.lookup a=none) ->
   zzl78 (model P w) mm (.call (.ref T) ⟨[.ref a],[]⟩) (fun r j=>r=.ok (.ret (.bool true))/\OldK f.heap j.heap/\j.os=f.os/\pP j.gens) f:=by
  intro H hO hS G hA hK;have g:∀{b:Addr}{o:Obj},f.heap.get? b=some o->H b=none->(Ab f.heap H).get? b=some o:=fun e n=>IF e n;have an:∀{b:Addr}{o:Obj}{es:Array ic}{I:Nat},f.heap.get? b=some o->o.data=.dict es I->H b=none:=fun{b o es I} e d=>by
   cases q:H b with
   |none=>rfl
   |some u =>
    have e':b=a:=hA b (by rw[q];simp);subst e';rw[O]at e;cases e;have d':Data.seq t.toArray _=Data.dict es I:=d;cases d'
  have l:∀{b:Addr}{m:Str->Option Value},f.heap.Ns b m->(Ab f.heap H).Ns b m:=fun{b m} ⟨o,es,I,e,d,r⟩=>⟨o,es,I,g e (an e d),d,r⟩;have J:K.In (Ab f.heap H):=fun b o e=>g (KX b o e) (by
   cases q:H b with
   |none=>rfl
   |some u =>
    have e':b=a:=hA b (by rw[q];simp);subst e';rw[hK (by rw[q];simp)]at e;cases e)
  have hM:Mod K A (Ab f.heap H):=⟨J,l C,⟨Q,l i,U⟩,let⟨mc,h1,h2⟩:=D;⟨mc,l h1,h2⟩⟩;have e0:DN P w K A (Ab f.heap H) mm [] f H:=⟨rfl,hM,fun b o e=>Kh e,Nat.le_of_eq (Gf _ _),trivial,fun b i=>absurd (show b∈([]:Ze)from i) (by simp),G,.of_eq hg⟩;refine DS ((F _ J (l C)).run mm [] f H ⟨[.ref a],[]⟩ [.ref a] [.ref a] _ _ hr e0 (y f (.ref a)) (.cons rfl .nil) (Y H hO hS)) fun r j h=>?_;cases r with
  |error e=>exact(al H e j h).elim
  |ok fl =>
   cases fl with
   |next=>exact kz h
   |brk=>exact kz h
   |cont=>exact kz h
   |ret u =>
    obtain⟨v,H',os,L,un,M,r',q⟩:=h;have q':v=.bl true:=q;subst q';obtain rfl:u=Value.bool true:=r';refine⟨rfl,OldK.of_keep fun b o e=>?_,os,L⟩;cases q:H b with
    |none=>exact un.keep b o e q (by intro z;exact absurd (show b∈([]:Ze)from z) (by simp)) (by simp)
    |some u =>
     rcases hO b with z|⟨ob,xs,z⟩
     ·rw[q]at z;cases z
     ·have z2:=un.frzs b ob _ z;obtain⟨e1,_⟩:=G b _ z;obtain⟨e2,_⟩:=M b _ z2;rw[e]at e1;cases e1;exact e2
 cases hk:K.lookup a with
 |some o =>
  have e:=KX a o hk;rw[O]at e;cases e;refine p (fun _=>none) (fun _=>.inl rfl) (.inr ⟨_,t.toArray,_,hk,rfl,rfl,rfl,by rw[cb,E];exact hl,by simpa using rv⟩) (fun b u z=>by have N:(none:Option HO)=some u:=z;cases N) (fun b z=>absurd rfl z) fun z=>absurd rfl z
 |none =>
  refine p (fun b=>if b=a then some (.frz { cls:=.type "list",data:=.seq t.toArray } (.lst (B.map V.int)))else none) (fun b=>?_) (.inl (.inr ⟨{ cls:=.type "list",data:=.seq t.toArray },if_pos rfl⟩)) (fun b u z=>?_) (fun b z=>?_) fun _=>hk
  ·by_cases i:b=a
   ·exact .inr ⟨_,_,if_pos i⟩
   ·exact .inl (if_neg i)
  ·by_cases i:b=a
   ·have N:=(if_pos i).symm.trans z;cases N;subst i;exact⟨O,by rw[ai];exact hl,t,_,rv,O⟩
   ·have N:=(if_neg i).symm.trans z;cases N
  ·by_cases i:b=a
   ·exact i
   ·exact absurd (if_neg i) z
end L2
namespace L2
open PySem PySem.Spec PyProof.Rows
theorem Jy{l:PySem.W.OpenLaw}{n k:Nat}{q:bR}{loose:Zb}{N:(Str->Option Value)->Heap->Prop}{I:World->Heap->Prop}{d:DefRec}{K:Params->Za}{CX:World->GV}{sp:World->Sp}{x:Str}
  (O:l.most=some n) (y:n<=ak) (z:d.params.defaults=[]) (Q:fN k mm)
  (U:∀(w:World) (h:Heap),I w h->(K w.params).In h)
  (F:∀(w:World) (j:Str->Option Value) (r:Addr) (h:Heap),(K w.params).In h->h.Ns cB j->j d.name=some (.ref r) ->
   ∃A:lU,(∀(s:Shared) (u:Value),uB s A ⟨[u],[]⟩ [(x,u)]) /\
    ∀base:Heap,(K w.params).In base->base.Ns cB j->mR l.prog w (K w.params) j base (CX w) k r A [x] (sp w))
  (B:∀(w:World) (H:Hp) (a:Addr) (t:List Int),t.length<=n->KF H->ay (K w.params) H a (t.map V.int)->sp w [.ref a] H (fun v _=>v=.bl true) fun _ _ _=>False)
  (C:∀(w:World) (H:Hp) (s:Shared) (e:Value) (D:Shared),CX w [] H s (fun _ _ _=>False) e D->False) :
  PySem.W.WalkO q loose N I l.row.toRowW d [] (fun f J=>PySem.call f J):=by
 refine Att.attach_call O z fun w L m j mb r o pm cd doc a J t G Y ho hd al E p hints i hg=>?_;have M:=U w _ Y;obtain⟨A,hb,hF⟩:=F w j r _ M G.T.g E;exact Iy M G.T.g G.T.b G.T.builtins G.T.nolimit hg p hints (bI i y) Q hF hb (fun H hO hS=>B w H a t i hO hS) fun H e D=>C w H m e D
theorem walk_ofK{l:PySem.W.OpenLaw}{n k:Nat}{q:bR}{loose:Zb}{A:(Str->Option Value)->Heap->Prop}{t:World->Heap->Prop}{d:DefRec}{K:Params->Za}{CX:GV}{sp:Za->Sp}{x:Str}
  (B:l.most=some n) (j:n<=ak) (m:d.params.defaults=[]) (C:fN k mm)
  (D:∀(w:World) (h:Heap),t w h->(K w.params).In h)
  (F:∀(w:World) (g:Str->Option Value) (y:Addr) (h:Heap),(K w.params).In h->h.Ns cB g->g d.name=some (.ref y) ->
   ∃z:lU,(∀(s:Shared) (u:Value),uB s z ⟨[u],[]⟩ [(x,u)]) /\
    ∀base:Heap,(K w.params).In base->base.Ns cB g->mR l.prog w (K w.params) g base CX k y z [x] (sp (K w.params)))
  (o:∀(K:Za) (H:Hp) (a:Addr) (i:List Int),i.length<=n->KF H->ay K H a (i.map V.int)->sp K [.ref a] H (fun v _=>v=.bl true) fun _ _ _=>False)
  (p:∀(H:Hp) (s:Shared) (e:Value) (r:Shared),CX [] H s (fun _ _ _=>False) e r->False) :
  PySem.W.WalkO q loose A t l.row.toRowW d [] (fun f E=>PySem.call f E) :=
 Jy (K:=K) (CX:=fun _=>CX) (sp:=fun w=>sp (K w.params)) B j m C D F (fun w H a i G I J=>o (K w.params) H a i G I J) fun _ H s e r=>p H s e r
end L2
namespace L2
open PySem PySem.Spec PyProof.Rows
def jj(s:Stmt)(j:Nat):Stmt:=match s with
 |.ClassDef _ _ _ body _ _ _ _ _ _ _=>body.getD j (.Pass ⟨0,0,0,0⟩)
 |_=>.Pass ⟨0,0,0,0⟩
def jm(s:Stmt):Arguments:=match s with
 |.FunctionDef _ a _ _ _ _ _ _ _ _=>a
 |_=>{ posonlyargs:=[],args:=[],vararg:=none,kwonlyargs:=[],kw_defaults:=[],kwarg:=none,defaults:=[] }
def gZ(s:Stmt):List Stmt:=match s with
 |.FunctionDef _ _ b _ _ _ _ _ _ _=>b
 |_=>[]
def cE(s:Stmt):Scope:=match s with
 |.FunctionDef _ _ _ _ _ _ sc _ _ _=>sc
 |_=>{ kind:=.function,names:=[],isGenerator:=false,isCoroutine:=false }
abbrev CX0:GV:=fun _ _ _ _ _ _=>False
abbrev E0:XK:=fun _ _ _=>False
abbrev aL(sp:Sp)(a:TA):TE:=KP sp [] E0 a
theorem Ey{X:Cx}:ph CX0 X E0:=fun _ _ _ _ _ _ _ h=>h.elim
structure L_(K:Za)(x qual:Str)(st:Stmt)(f:Addr)(fd:lU):Prop where
 ex:∃(oc:Value) (od:Option Addr) (kV doc pm:Value) (an:Option Addr) (cdv ct:Value) (osl:Array (Option Value)),
  fd=jz x qual (jm st) (gZ st) (cE st) .none kV doc pm an cdv ct/\K.lookup f=some ⟨oc,od,.func fd,osl⟩/\oG K cdv qual=true
 kp:kr K (.ref f)=true
section
variable{P:bR}{w:World}{K:Za}{mg:Str->Option Value}{base:Heap}
theorem L_.ok{x a:Str}{st:Stmt}{f:Addr}{o:lU}{N j:Zb}{k:Nat}{l:Sp}(F:L_ K x a st f o)(S:lC N j (cE st))(len:∀g H Q E,l g H Q E->g.length=j.length)
  (i:∀(e:Value) (A:Around) (outer:List Env) (s:Shared) (H:Hp) (g:List V) (Q:VK) (E:XK),fN k (A.deeper (envOfC a (cE st) s.heap.objs.size f e))->l g H Q E ->
   ∃t,Cd (Dt CX0 P w K mg base N a (cE st) f e A outer s H E).nox (gZ st) t/\t (bN Q) (start N g) H):mR P w K mg base CX0 (k+1) f o j l:=by
 obtain⟨u,v,kV,doc,y,z,e,B,p,rfl,lk,m⟩:=F.ex;refine Mn lk m S len fun A outer s H g Q E r n=>?_;obtain⟨t,h,q⟩:=i e A outer s H g Q E r n;exact⟨t,h.nox,q⟩
theorem L_.binds{x a:Str}{st:Stmt}{f:Addr}{l:lU}{ps:Zb}(F:L_ K x a st f l)
  (h:∀(kV doc g:Value) (i:Option Addr) (e j:Value) (k:Zf),k.length=ps.length->bindArgs (jz x a (jm st) (gZ st) (cE st) .none kV doc g i e j) ⟨k,[]⟩=pure (ps.zip k)):Binds K l ps []:=by
 obtain⟨o,p,kV,doc,g,i,e,j,m,rfl,lk,n⟩:=F.ex;exact .all (h kV doc g i e j)
theorem II{x a:Str}{st:Stmt}{f:Addr}{m:Value}{n h:Option Addr}{g:Array (Option Value)}{kV doc i e j:Value}(l:K.lookup f=some ⟨m,n,.func (jz x a (jm st) (gZ st) (cE st) .none kV doc i h e j),g⟩)
  (c:oG K e a=true) (k:kr K (.ref f)=true):L_ K x a st f (jz x a (jm st) (gZ st) (cE st) .none kV doc i h e j):=⟨⟨m,n,kV,doc,i,h,e,j,g,rfl,l,c⟩,k⟩
end
theorem EG{A:Around}{k:Nat}(a:fN k A):A.units+16<cLine:=yS (Nat.add_le_add_left (by decide:16<=64) _) a.units
theorem aq{n:Nat}(h:n<=1000):n<ak:=yS h (by decide)
section
variable{X:Cx}
theorem pv(i:Nat){x:Str}{a:Pos}(f:X.N[i]?=some x:=by rfl)(g:Vis X.env.scope x:=by first|exact Or.inl rfl|exact Or.inr (Or.inl rfl)|exact Or.inr (Or.inr rfl))(h:(x==("__debug__":Str))=false:=by decide)
  (e:(x==("__classdict__":Str))=false:=by decide):PE X (.Name x a) (oS i):=Lq f g h e
end
theorem bd{A B:Prop}(h:B):if false=true then A else B:=by
 rw[if_neg hV];exact h
theorem bU{A B:Prop}(h:A):if true=true then A else B:=by
 rw[if_pos rfl];exact h
theorem l6{c A B:Prop}[Decidable c](a:c->A)(e:¬c->B):if c then A else B:=by
 by_cases h:c
 ·rw[if_pos h];exact a h
 ·rw[if_neg h];exact e h
def ab(H H':Hp):Prop:=∀b o,H b=some o->H' b=some o
theorem ab.refl(H:Hp):ab H H:=fun _ _ h=>h
theorem ab.trans{H e f:Hp}(a:ab H e)(b:ab e f):ab H f:=fun c o h=>b c o (a c o h)
theorem ab.free{H a:Hp}(e:ab H a){l:Addr}(h:a l=Option.none):H l=Option.none:=by
 cases q:H l with
 |none=>rfl
 |some o =>
  rw[e l o q]at h;cases h
theorem ab.seq{K:Za}{H f:Hp}{a:Addr}{g:List V}(e:ab H f)(h:ay K H a g):ay K f a g:=by
 rcases h with(h|⟨o,h⟩)|h
 ·exact .inl (.inl (e _ _ h))
 ·exact .inl (.inr ⟨o,e _ _ h⟩)
 ·exact .inr h
section
variable{prog:bR}{w:World}{A:Around}{R:Result->Shared->Prop}{s:Shared}
abbrev XF:Value->Shared->Prop:=fun _ _=>False
abbrev Dl(ifs:List Expr)(env:Env):Sem Bool:=forIn ifs true fun c r=>if r=true then do let ok <- isTrue c env (eval c env);pure (yR ok)else pure (yR r)
theorem Af{t target j:Expr}{u:List Expr}{scope:Scope}{B:Pos}{it y:Value}{a:Env}(I:Nat->Shared->Prop)
  (turn:∀n s,I n s->wpAny (model prog w) A (pyNext it) (fun r e=>match r with
   |none=>R (.ok .next) e
   |some v=>wpAny (model prog w) A (D_ target it v) (fun _ f=>wpAny (model prog w) A (assign target a v) (fun _ k =>
     wpAny (model prog w) A (Dl u a) (fun ok g =>
      if ok=true then wpAny (model prog w) A (eval t a) (fun x l =>
       wpAny (model prog w) A (call (.builtin "list.append") [y,x]) (fun _ o=>∃m,m<n/\I m o) XF l) XF g
      else ∃m,m<n/\I m g) XF k) XF f) XF e) XF s)
  (n:Nat) (h:I n s):zzl78 (model prog w) A (.compLoop (.ListComp t [⟨target,j,u,0⟩] scope B) 0 it y a) R s:=by
 refine codeAny_loop rfl I (fun n s G=>?_) n h;show wpAny _ A ((compTurn (.ListComp t [⟨target,j,u,0⟩] scope B) 0 it y a).onRaise (fun x=>do noteFrame x a;theTreesLotGoes x)) _ _ s
 refine wpAny_noted ?_;rw[compTurn_list];refine am (Ea (am (pQ (turn n s G) (fun r e p=>?_) fun _ _ i=>i.elim)));cases r with
 |none=>exact aQ p
 |some v =>
  refine am (pQ p (fun _ f z=>?_) fun _ _ i=>i.elim);refine am (pQ z (fun _ k C=>am (pQ C (fun ok g q=>?_) fun _ _ i=>i.elim)) fun _ _ i=>i.elim);cases ok with
  |false=>exact aQ ⟨rfl,q⟩
  |true =>
   exact am (am (pQ q (fun x l D=>am (pQ D (fun _ o E=>aQ (aQ ⟨rfl,E⟩)) fun _ _ i=>i.elim)) fun _ _ i=>i.elim))
end
theorem pb{env:Env}:∀(names:List (Str×ko)) (a:List (Str×Addr)),(∀y∈names,y.2=.free->∃c,env.cells.lookup y.1=some c)->(∀x c,a.lookup x=some c->env.cells.lookup x=some c) ->
  ∃f:List (Str×Addr),(forIn names a fun(x:Str×ko) (r:List (Str×Addr))=>if(x.2==ml)=true then(cellOf env x.1 >>= fun c=>(pure (yR ((x.1,c)::r)):Sem (ForInStep (List (Str×Addr)))))else pure (yR r))=pure f /\
   (∀x c,f.lookup x=some c->env.cells.lookup x=some c)/\(∀x,(a.lookup x).isSome=true->(f.lookup x).isSome=true)/\∀y∈names,y.2=.free->(f.lookup y.1).isSome=true
 |[],a,_,o=>⟨a,rfl,o,fun _ h=>h,fun _ h=>nomatch h⟩
 | (n,k)::r,a,l,o=>by
  have u:∀y∈r,y.2=.free->∃c,env.cells.lookup y.1=some c:=fun y hy=>l y (gC _ hy);by_cases q:k=.free
  ·subst q;obtain⟨c,v⟩:=l (n,.free) dz rfl;obtain⟨f,e,s,p,t⟩:=pb r ((n,c)::a) u (fun x d m=>by
    rw[jx]at m;cases hx:x==n with
    |true =>
     rw[hx]at m;have:x=n:=by simpa using hx
     subst this;cases m;exact v
    |false=>rw[hx]at m;exact o x d m)
   have g:(((n,c)::a).lookup n).isSome=true:=by rw[jx,beq_self_eq_true];rfl
   have i:∀x,(a.lookup x).isSome=true->(((n,c)::a).lookup x).isSome=true:=fun x hx=>by
    rw[jx];cases x==n with
    |true=>rfl
    |false=>exact hx
   refine⟨f,?_,s,fun x hx=>p x (i x hx),fun y hy hf=>?_⟩
   ·rw[uO];have j:cellOf env n=pure c:=by unfold cellOf;rw[v]
    simp only[beq_self_eq_true,if_true,j];exact e
   ·rcases dC.mp hy with rfl|hy
    ·exact p _ g
    ·exact t y hy hf
  ·obtain⟨f,e,s,p,t⟩:=pb r a u o;refine⟨f,?_,s,p,fun y hy hf=>?_⟩
   ·rw[uO];have w:(k==ml)=false:=by simpa using q
    simp only[w,nU,if_false];exact e
   ·rcases dC.mp hy with rfl|hy
    ·exact absurd hf q
    ·exact t y hy hf
theorem vS{env:Env}{scope:Scope}(f:∀y∈scope.names,y.2=.free->∃c,env.cells.lookup y.1=some c):
  ∃a:List (Str×Addr),closureFor scope env=pure a/\(∀x c,a.lookup x=some c->env.cells.lookup x=some c)/\∀y∈scope.names,y.2=.free->(a.lookup y.1).isSome=true:=by
 obtain⟨a,e,g,_,i⟩:=pb (env:=env) scope.names [] f (fun _ _ h=>nomatch h);refine⟨a,?_,g,i⟩;unfold closureFor
 first
  |exact e
  | (simp only[bind_pure];exact e)
  | (rw[show(forIn scope.names [] _:Sem (List (Str×Addr)))=pure a from e];rfl)
def eX(X:Cx)(N:Zb)(scope:Scope)(C:Addr)(cl:List (Str×Addr))(s₀:Shared)(H₀:Hp)(ex:Ze)(pn:Zd):Cx where
 prog:=X.prog
 w:=X.w
 K:=X.K
 mg:=X.mg
 base:=X.base
 A:=X.A
 N:=N
 s₀:=s₀
 H₀:=H₀
 env:=compEnvC scope cl C X.env
 outer:=X.stack
 stack:=X.stack
 ex:=ex
 fn:=fun _=>false
 calm:=X.calm
 pn:=pn
 xe:=XF
def nF(sc scope:Scope)(k:Nat)(N XN:Zb)(fi:List Nat):Bool :=
 decide (scope.kind=.function) &&
 (scope.names.all fun y=>decide (y.2≠.cell) && (decide (y.2≠.local) || decide (scope.names.lookup y.1=some .local)) && (decide (y.2≠.free) || decide (sc.names.lookup y.1=some .cell) || decide (sc.names.lookup y.1=some .free))) &&
 decide (N.length=k+fi.length) &&
 ((nT fi.length).all fun j=>match fi[j]? with
  |some i=>match N[k+j]?,XN[i]? with
   |some x,some y=>decide (x=y) && decide (scope.names.lookup x=some .free)
   |_,_=>false
  |none=>false)
structure pG(sc scope:Scope)(k:Nat)(N XN:Zb)(fi:List Nat):Prop where
 kind:scope.kind=.function
 cell:∀y∈scope.names,y.2≠.cell
 nm:∀y∈scope.names,y.2=.local->scope.names.lookup y.1=some .local
 fr:∀y∈scope.names,y.2=.free->sc.names.lookup y.1=some .cell∨sc.names.lookup y.1=some .free
 len:N.length=k+fi.length
 sl:∀j i,fi[j]?=some i->∃x,N[k+j]?=some x/\XN[i]?=some x/\scope.names.lookup x=some .free
theorem pG.of{sc scope:Scope}{k:Nat}{N g:Zb}{fi:List Nat}(h:nF sc scope k N g fi=true):pG sc scope k N g fi:=by
 unfold nF at h;simp only[iZ,yQ,yP,decide_eq_true_eq]at h;obtain⟨⟨⟨m,l⟩,n⟩,o⟩:=h;refine⟨m,fun y f=>(l y f).1.1,fun y f e=>((l y f).1.2).resolve_left fun z=>z e,fun y f e=>?_,n,fun j i e=>?_⟩
 ·rcases(l y f).2 with(z|z)|z
  ·exact absurd e z
  ·exact .inl z
  ·exact .inr z
 ·have p:j<fi.length:=(bM.mp e).1;have q:=o j (List.mem_range.mpr p);rw[e]at q;dsimp only at q;cases a:N[k+j]? with
  |none=>rw[a]at q;cases q
  |some x =>
   cases b:g[i]? with
   |none=>rw[a,b]at q;cases q
   |some y =>
    rw[a,b]at q;simp only[iZ,decide_eq_true_eq]at q;exact⟨x,rfl,by rw[q.1],q.2⟩
theorem jc{a:Env}:∀{names:List (Str×ko)}{x:Str},names.lookup x=some .free ->
  (names.map fun(n,k)=>if(k==ml && a.scope.kind==.function && a.kindOf n==some .cell)then(n,ko.cell)else(n,k)).lookup x=some .cell ∨
  (names.map fun(n,k)=>if(k==ml && a.scope.kind==.function && a.kindOf n==some .cell)then(n,ko.cell)else(n,k)).lookup x=some .free
 |[],_,h=>by simp at h
 | (n,k)::r,x,h=>by
  have f:=@jc a r x;simp only[bL];cases hx:x==n with
  |true =>
   simp only[jx,hx]at h;cases h;by_cases e:(ml==ml && a.scope.kind==.function && a.kindOf n==some .cell)=true
   ·left;rw[if_pos e];simp[jx,hx]
   ·right;rw[if_neg e];simp[jx,hx]
  |false =>
   simp only[jx,hx]at h;by_cases e:(k==ml && a.scope.kind==.function && a.kindOf n==some .cell)=true
   ·rw[if_pos e];simp only[jx,hx];exact f h
   ·rw[if_neg e];simp only[jx,hx];exact f h
def cP(k:Nat)(fi:List Nat)(σ:St):St:=oJ k none++fi.map fun i=>(σ[i]?).join
theorem Dw(k:Nat)(fi:List Nat)(σ:St):(cP k fi σ).length=k+fi.length:=by simp[cP]
theorem vR{k:Nat}{fi:List Nat}{σ:St}{i:Nat}{v:V}(h:(cP k fi σ)[i]?=some (some v)):∃j t,i=k+j/\fi[j]?=some t/\σ[t]?=some (some v):=by
 unfold cP at h;by_cases hi:i<k
 ·rw[rL (by simpa using hi),List.getElem?_replicate_of_lt hi]at h;cases h
 ·rw[mq (by simp;omega),List.length_replicate,cS]at h;refine⟨i-k,?_⟩;cases e:fi[i-k]? with
  |none=>rw[e]at h;cases h
  |some t =>
   rw[e]at h;simp only[uR]at h;refine⟨t,by omega,rfl,?_⟩;have a:=fW h;cases f:σ[t]? with
   |none=>rw[f]at a;cases a
   |some o=>rw[f]at a;simp only[Option.join]at a;first|(rw[a])|(subst a;rfl)|(simpa using a)
def BW(k:Nat)(g:TG):Prop:=∀x σ H Q,g x σ H Q->g x σ H fun σ2 H2=>Q σ2 H2/\σ2.length=σ.length/\∀i,k<=i->σ2[i]?=σ[i]?
def EY(k:Nat)(g:EV):Prop:=∀x σ H Q,g x σ H Q->g x σ H fun σ2 H2=>Q σ2 H2/\σ2.length=σ.length/\∀i,k<=i->σ2[i]?=σ[i]?
theorem aP{k i:Nat}(h:i<k):BW k (eR i):=fun x σ H Q q=>⟨q,by simp,fun j a=>by rw[List.getElem?_set_ne (by omega)]⟩
theorem jG{k:Nat}:EY k iW:=fun x σ H Q ⟨e,q⟩=>⟨e,q,rfl,fun _ _=>rfl⟩
def Ji(g:TG):Prop:=∀x σ H Q Q',(∀σ2 H2,Q σ2 H2->Q' σ2 H2)->g x σ H Q->g x σ H Q'
def Az(g:EV):Prop:=∀x σ H Q Q',(∀σ2 H2,Q σ2 H2->Q' σ2 H2)->g x σ H Q->g x σ H Q'
theorem bm{i:Nat}:Ji (eR i):=fun _ _ _ _ _ f q=>f _ _ q
theorem cI:Az iW:=fun _ _ _ _ _ f ⟨e,q⟩=>⟨e,f _ _ q⟩
theorem dH{g:TG}{u:EV}(a:Ji g)(h:Az u):Az (bx g u):=fun _ _ _ _ _ f ⟨v,r,e,q⟩=>⟨v,r,e,a _ _ _ _ _ (fun _ _ q=>h _ _ _ _ _ f q) q⟩
theorem cG{k:Nat}{g:TG}{u:EV}(a:BW k g)(f:Ji g)(h:EY k u)(j:Az u):EY k (bx g u):=fun x σ H Q ⟨v,r,e,q⟩ =>
 ⟨v,r,e,f _ _ _ _ _ (fun σ2 p ⟨q,l,s⟩=>j _ _ _ _ _ (fun σ3 t ⟨m,n,o⟩=>⟨m,n.trans l,fun i hi=>(o i hi).trans (s i hi)⟩) (h _ _ _ _ q)) (a _ _ _ _ q)⟩
theorem lg{K:Za}{k n:Nat}{t:EV}(h:EY k t):BW k (jk K n t):=fun x σ H Q ⟨a,f,e,g,i,q⟩=>⟨a,f,e,g,i,h _ _ _ _ q⟩
def Le(X:Cx)(ifs:List Expr)(t:TT):Prop :=
 ∀(J3:Zd) (s:Shared) (σ:St) (H:Hp) (Q:Bool->Hp->Prop),Inv X J3 σ H s->t σ H Q->wpAny (model X.prog X.w) X.A (Dl ifs X.env) (TP X J3 σ Q) X.xe s
def i5:TT:=fun _ H Q=>Q true H
theorem cU{X:Cx}:Le X [] i5:=fun a s σ H Q I h=>aQ ⟨H,I,h⟩
theorem eG{X:Cx}{c:Expr}{t:TT}(h:PT X c t):Le X [c] t:=by
 intro a s σ H Q I e;unfold Dl;rw[uO];simp only[if_true];refine am (am (du (h a s σ H Q I e) fun b f q=>aQ ?_));exact aQ q
def cN(k:Nat)(fi:List Nat)(wi:TI)(g:TG)(tc:TT)(te:TE):TE:=fun σ H Q=>wi σ H fun J H1=>∀l,H1 l=none->∃W:Nat->Nat->List V->Hp->Prop,(∃m,W 0 m [] (upd H1 l (.lst [])))/\∀i m vs H2,W i m vs H2->H2 l=some (.lst vs) /\
 ((J.stop i H2/\Q (.ref l) H2)∨(J.go i H2/\∀x H3,J.yld i H2 x H3->g x (cP k fi σ) H3 fun σ2 H4=>tc σ2 H4 fun b H5 =>
  if b=true then te σ2 H5 fun v H6=>H6 l=some (.lst vs)/\vs.length<ak/\∃m',m'<m/\W (i+1) m' (vs++[v]) (upd H6 l (.lst (vs++[v])))else ∃m',m'<m/\W (i+1) m' vs H5))
section
variable{X:Cx}{J3:Zd}{σ:St}
theorem KA{k:Nat}{N:Zb}{scope:Scope}{fi:List Nat}{H:Hp}{s:Shared}{p:List (Str×Addr)}{t:Ze}(S:pG X.env.scope scope k N X.N fi)(I:Inv X J3 σ H s)
  (f:∀x c,p.lookup x=some c->X.env.cells.lookup x=some c) (u:∀y∈scope.names,y.2=.free->(p.lookup y.1).isSome=true) (hf:∀b∈t,pE X J3 H b) (v:∀b∈t,b<s.heap.objs.size) :
  (eX X N scope s.heap.objs.size p s H t (X.pn++J3)).Ok where
 mod:=I.ok.mod
 kind:=S.kind
 glob:=I.ok.glob
 blt:=I.ok.blt
 above:=aR _
 inj:=fun x y c D E=>I.ok.inj x y c (f x c D) (f y c E)
 has:=fun x h=>by
  have w:∃y∈scope.names,y.1=x/\y.2=.free:=by
   have h':(relabel scope X.env).names.lookup x=some .cell∨(relabel scope X.env).names.lookup x=some .free:=h;have i:∀(l:List (Str×ko)) (kd:ko),l.lookup x=some kd->(x,kd)∈l:=by
    intro l
    induction l with
    |nil=>intro kd e;cases e
    |cons a r G =>
     intro kd e;obtain⟨n,A⟩:=a;rw[jx]at e;cases hx:x==n with
     |true =>
      rw[hx]at e;have:x=n:=by simpa using hx
      subst this;cases e;exact dz
     |false=>rw[hx]at e;exact gC _ (G kd e)
   have back:∀kd,(x,kd)∈(relabel scope X.env).names->kd=.cell∨kd=.free->∃y∈scope.names,y.1=x/\y.2=.free:=by
    intro kd J B;obtain⟨⟨n,A⟩,j,e⟩:=aE.mp J;dsimp only at e;by_cases m:(A==ml && X.env.scope.kind==.function && X.env.kindOf n==some .cell)=true
    ·have C:A=.free:=by
      simp only[iZ]at m;simpa using m.1.1
     rw[if_pos m]at e;cases e;exact⟨_,j,rfl,C⟩
    ·rw[if_neg m]at e;cases e;rcases B with rfl|rfl
     ·exact absurd rfl (S.cell _ j)
     ·exact⟨_,j,rfl,rfl⟩
   rcases h' with h'|h'
   ·exact back _ (i _ _ h') (.inl rfl)
   ·exact back _ (i _ _ h') (.inr rfl)
  obtain⟨y,j,rfl,B⟩:=w;exact yY.mp (u y j B)
 cab:=fun x c h=>by cases h
 hd:=I.ok.hd
 frames:=I.ok.frames
 stk:=.inl rfl
 exf:=fun b g=>⟨cK (v b g),fun x c e=>(hf b g).2.2.2.2.1 x c (f x c e)⟩
 bs:=I.bs
 bsz:=bI I.ok.bsz I.sz
 noex:=fun b o e g=>by
  rcases(hf b g).2.2.2.1 with z|z
  ·exact I.ok.noex b o e z
  ·exact absurd (ju (bg (I.ok.bs b o e).1) z) (sU _)
 exfs:=fun b g z=>by
  obtain⟨_,L,M,_⟩:=hf b g;rcases dC.mp (I.stkSub b z)with q|q
  ·exact L q
  ·exact M q
 funs:=I.stack
 frf:=I.stkFree
theorem IY{k:Nat}{N:Zb}{scope:Scope}{fi:List Nat}{H:Hp}{s:Shared}{E:List (Str×Addr)}{G:Ze}{f:Heap}{t':Nat}{m:Str->Option Value}(S:pG X.env.scope scope k N X.N fi)(I:Inv X J3 σ H s)
  (h:∀x c,E.lookup x=some c->X.env.cells.lookup x=some c) (B:∀y∈scope.names,y.2=.free->(E.lookup y.1).isSome=true) (hf:∀b∈G,pE X J3 H b) (J:∀b∈G,b<s.heap.objs.size)
  (hn:f.Ns s.heap.objs.size m) (g:∀b o,s.heap.get? b=some o->f.get? b=some o) :
  Inv (eX X N scope s.heap.objs.size E s H G (X.pn++J3)) [] (cP k fi σ) H { s with heap:=f,toks:=t' }:=by
 have A:∀(l:List (Str×ko)) (x:Str) (kd:ko),l.lookup x=some kd->(x,kd)∈l:=by
  intro l
  induction l with
  |nil=>intro x kd e;cases e
  |cons a r ih =>
   intro x kd e;obtain⟨n,k'⟩:=a;rw[jx]at e;cases hx:x==n with
   |true =>
    rw[hx]at e;have:x=n:=by simpa using hx
    subst this;cases e;exact dz
   |false=>rw[hx]at e;exact gC _ (ih x kd e)
 refine⟨KA S I h B hf J,rfl,I.bare,Un.kept g,⟨m,hn,fun i x v e1 e2 e3=>?_⟩,fun x c e=>?_,I.hok.fresh (aR _),fun x c e=>I.freeC x c (h x c e),fun p T=>?_,I.hok.kept g,?_⟩
 ·obtain⟨j,t,rfl,ht,hv⟩:=vR e2;obtain⟨y,hy,L,C⟩:=S.sl j t ht;have D:N[k+j]?=some x:=e1;rw[hy]at D;cases D;have w:=A _ _ _ C;obtain⟨c,U⟩:=yY.mp (B _ w rfl);have hX:=h _ _ U;obtain⟨mX,al,M⟩:=I.loc;have kX:=S.fr _ w rfl;obtain⟨u,ru,lk⟩:=M t x v L hv (by rcases kX with z|z;exact .inr (.inl z);exact .inr (.inr z));refine⟨u,ru,.inr ⟨?_,c,U,?_⟩⟩
  ·exact jc C
  ·rcases lk with⟨z,_⟩|⟨_,c',Y,q⟩
   ·have z':X.env.scope.names.lookup x=some .local:=z;rcases kX with kX|kX<;>rw[z']at kX<;>cases kX
   ·rw[hX]at Y;cases Y;obtain⟨o,O,Q⟩:=q;exact⟨o,g _ o O,Q⟩
 ·obtain⟨v,o,O,Q⟩:=I.cell x c (h x c e);exact⟨v,o,g _ o O,Q⟩
 ·rw[dS]at T;obtain⟨e,n,ne,nf,d⟩:=I.pin p T;refine⟨g _ _ e,n,cK (bg e),fun z=>?_,d⟩;rcases dC.mp (I.stkSub _ z)with q|q
  ·exact ne q
  ·exact nf q
 ·rw[Dw];exact S.len.symm
structure AB(X:Cx)(J3:Zd)(H:Hp)(C:Addr):Prop where
 free:H C=none
 loc:C≠X.env.locals
 young:X.s₀.heap.objs.size<=C
 cells:∀x c,X.env.cells.lookup x=some c->c≠C
 pin:∀p∈X.pn++J3,p.1≠C
theorem vP{elt iter tg:Expr}{ifs:List Expr}{scope:Scope}{pos:Pos}{k:Nat}{N:Zb}{fi:List Nat}{cl:List (Str×Addr)}{g:TG}{tc:TT}{te:TE}{it:Addr}{fp:Ze}{tn:Nat->Heap->Prop}{J:It}{s:Hp}{s2:Shared}{Q:VK}
  {E:Zc}{RR:Value->Addr->Result->Shared->Prop}
  (S:pG X.env.scope scope k N X.N fi) (hc:X.calm=true) (bl:∀x c,cl.lookup x=some c->X.env.cells.lookup x=some c) (ci:∀y∈scope.names,y.2=.free->(cl.lookup y.1).isSome=true)
  (hg:∀C cl G H ex pn,PG (eX X N scope C cl G H ex pn) tg g) (ho:BW k g) (ht:∀C cl G H ex pn,Le (eX X N scope C cl G H ex pn) ifs tc) (he:∀C cl G H ex pn,PE (eX X N scope C cl G H ex pn) elt te)
  (I2:Inv X J3 σ s s2) (T:tX X.prog X.w X.K tg J fp it tn) (bn:tn 0 s2.heap) (f2:∀b∈fp,pE X J3 s b)
  (hw:∀l,s l=none->∃W:Nat->Nat->List V->Hp->Prop,(∃m,W 0 m [] (upd s l (.lst [])))/\∀i m O s,W i m O s->s l=some (.lst O) /\
   ((J.stop i s/\Q (.ref l) s)∨(J.go i s/\∀x H3,J.yld i s x H3->g x (cP k fi σ) H3 fun σ2 H4=>tc σ2 H4 fun b H5 =>
    if b=true then te σ2 H5 fun v H6=>H6 l=some (.lst O)/\O.length<ak/\∃U,U<m/\W (i+1) U (O++[v]) (upd H6 l (.lst (O++[v])))else ∃U,U<m/\W (i+1) U O H5)))
  (hR:∀D C L s' U,Inv X J3 σ L s'->s'.heap.Ns C U->AB X J3 L C->Q (.ref D) L->RR (.ref D) C (.ok .next) s') :
  wpAny (model X.prog X.w) X.A (newList []) (fun acc s₃=>wpAny (model X.prog X.w) X.A (newFunctionEnv scope X.env.globals cl [] X.env.qual none .none (some X.env)) (fun aC s₄ =>
   zzl78 (model X.prog X.w) X.A (.compStart (.ListComp elt [⟨tg,iter,ifs,0⟩] scope pos) 0 (.ref it) acc { aC with scope:=relabel scope X.env }) (RR acc aC.locals) s₄) E s₃) E s2:=by
 have ap:s s2.heap.objs.size=none:=I2.fresh;obtain⟨W,⟨m0,w0⟩,turn⟩:=hw _ ap;refine j_ (wpAny_newFunctionEnv S.cell (by intro y hy;simp at hy) (fun I al an=>?_) S.kind);dsimp only at al an ⊢;have I3:Inv X J3 σ (upd s s2.heap.objs.size (.lst [])) { s2 with heap:=s2.heap.push { cls:=.type "list",data:=.seq ([]:Zf).toArray },toks:=s2.toks }:=I2.lnew (ys:=[]) .nil (c_ _);generalize b0:({ s2 with heap:=s2.heap.push { cls:=.type "list",data:=.seq ([]:Zf).toArray },toks:=s2.toks }:Shared)=B at I3;have as:B.heap=s2.heap.push { cls:=.type "list",data:=.seq ([]:Zf).toArray }:=by rw[<-b0]
 have cm:B.heap.objs.size=s2.heap.objs.size+1:=by rw[as,pM]
 have b1:∀b∈fp,b<s2.heap.objs.size:=fun b f=>by
  obtain⟨o,e,_⟩:=T.obj 0 _ bn b f;exact bg e
 have f3:∀b∈fp,pE X J3 (upd s s2.heap.objs.size (.lst [])) b:=fun b f=>⟨by rw[aj (cK (b1 b f))];exact(f2 b f).1,(f2 b f).2⟩;have a0:∀b∈fp,b<B.heap.objs.size:=fun b f=>by rw[cm];exact Nat.lt_succ_of_lt (b1 b f)
 have b2:∀b o,B.heap.get? b=some o->I.get? b=some o:=fun b o e=>by
  have f:b≠B.heap.objs.size:=cK (bg e);rw[as]at e f;exact an.extBut b o f (bt _ e)
 have co:I.Ns B.heap.objs.size (fun x=>([]:List (Str×Value)).reverse.lookup x):=by rw[as];exact al
 have I4:Inv (eX X N scope B.heap.objs.size cl B (upd s s2.heap.objs.size (.lst [])) fp (X.pn++J3)) [] (cP k fi σ) (upd s s2.heap.objs.size (.lst [])) { B with heap:=I,toks:=s2.toks+([]:List (Str×Value)).length } :=
  IY S I3 bl ci f3 a0 co b2
 have b3:tn 0 I:=T.keep _ _ _ bn fun b f o e=>b2 b o (by rw[as];exact bt _ e);generalize M:eX X N scope B.heap.objs.size cl B (upd s s2.heap.objs.size (.lst [])) fp (X.pn++J3)=Y at I4;have yp:Y.prog=X.prog:=by rw[<-M];rfl
 have yw:Y.w=X.w:=by rw[<-M];rfl
 have yK:Y.K=X.K:=by rw[<-M];rfl
 have yA:Y.A=X.A:=by rw[<-M];rfl
 have yx:Y.xe=XF:=by rw[<-M];rfl
 have yc:Y.calm=true:=by rw[<-M];exact hc
 have gY:PG Y tg g:=by rw[<-M];exact hg _ _ _ _ _ _
 have tY:Le Y ifs tc:=by rw[<-M];exact ht _ _ _ _ _ _
 have eY:PE Y elt te:=by rw[<-M];exact he _ _ _ _ _ _
 have b4:Y.env=compEnvC scope cl B.heap.objs.size X.env:=by rw[<-M];rfl
 have fY:∀{L:Hp},(∀b∈fp,L b=none)->∀b∈fp,pE Y [] L b:=fun hn b f=>by
  obtain⟨f0,f1,b5,b6,f4,f5⟩:=f3 b f;rw[<-M];refine⟨hn b f,cK (a0 b f),fun z=>?_,.inl f,fun x c e=>f4 x c (bl x c e),fun p hp=>?_⟩
  ·rcases dC.mp (I3.stkSub _ z)with q|q
   ·exact f1 q
   ·exact b5 q
  ·rw[dS]at hp;exact f5 p hp
 have a4:∀s4:Shared,s4={ B with heap:=I,toks:=s2.toks+([]:List (Str×Value)).length } ->
   zzl78 (model X.prog X.w) X.A (.compLoop (.ListComp elt [⟨tg,iter,ifs,0⟩] scope pos) 0 (.ref it) (.ref s2.heap.objs.size) Y.env) (RR (.ref s2.heap.objs.size) B.heap.objs.size) s4:=by
  rintro s4 rfl;refine Af (fun n s'=>∃i O L,Inv Y [] (cP k fi σ) L s'/\tn i s'.heap/\(∀b∈fp,L b=none)/\W i n O L) ?_ m0 ⟨0,[],_,I4,b3,fun b f=>(f3 b f).1,w0⟩;rintro n s5 ⟨i,O,H5,I5,b7,b8,w5⟩;obtain⟨da,a5⟩:=turn i n O H5 w5;rcases a5 with⟨stop,q⟩|⟨go,step⟩
  ·have d:=T.done Y yp yw yK yc i [] s5 _ H5 XF I5 (fY b8) b7 stop;rw[yA]at d;refine du d fun r s6 a=>?_;obtain⟨hr,I6⟩:=a;subst hr;have hu:Un (GS X.stack) fp (upd s s2.heap.objs.size (.lst [])) H5 B.heap s6.heap:=by have:=I6.base;rw[<-M]at this;exact this
   have cq:s6.os=B.os:=by have:=I6.os;rw[<-M]at this;exact this
   have b9:mP X.prog X.w X.K H5 s6.heap:=by have:=I6.hok;rw[<-M]at this;exact this
   have cs:H5 B.heap.objs.size=none:=by have:=I6.free;rw[<-M]at this;exact this
   obtain⟨m6,ca,_⟩:=I6.loc;have cc:s6.heap.Ns B.heap.objs.size m6:=by rw[<-M]at ca;exact ca
   have IX:Inv X J3 σ H5 s6:=I3.call' cq hu b9 I6.bare fun b f=>by
    obtain⟨f0,f1,b5,b6,f4,f5⟩:=f3 b f;exact⟨b6,f1,f4,f5⟩
   refine hR _ _ H5 s6 m6 IX cc ⟨cs,i_ I3.lt,I3.sz,fun x c e z=>?_,fun p hp z=>?_⟩ q
   ·obtain⟨v,o,ho,_⟩:=I3.cell x c e;exact absurd (bg ho) (by rw[z];exact sU _)
   ·exact absurd (bg (I3.pin p hp).1) (by rw[z];exact sU _)
  ·have d:=T.item Y yp yw yK yc i [] s5 _ H5 XF I5 (fY b8) b7 go;rw[yA]at d;refine du d fun r s6 a=>?_;obtain⟨u,hr,h6⟩:=a;subst hr;refine du h6 fun _ s7 a=>?_;obtain⟨x,H7,I7,r7,y7,a6,ct⟩:=a;have cL:=I7.pinned (fY ct) (T.obj _ _ a6);have a7:=gY _ s7 _ H7 x u _ cL r7 (ho _ _ _ _ (step x H7 y7));rw[yp,yw,yA,yx]at a7;refine du a7 fun _ s8 a=>?_;obtain⟨σ8,H8,I8,q8,l8,k8⟩:=a;have a8:=tY _ s8 σ8 H8 _ I8 q8;rw[yp,yw,yA,yx]at a8;have again:∀{H9:Hp}{s9:Shared}{bb:List V}{U:Nat},Inv Y ([]++vq fp s7.heap) σ8 H9 s9->U<n->W (i+1) U bb H9->∃m,m<n/\∃i O L,Inv Y [] (cP k fi σ) L s9/\tn i s9.heap/\(∀b∈fp,L b=none)/\W i m O L:=fun{H9 s9 bb U} I9 hm w9=>by
    refine⟨U,hm,i+1,bb,H9,(I9.unpinned).weak l8.symm (fun j v e=>?_),T.keep _ _ _ a6 fun b f o e=>(I9.pin (b,o) (cQ _ (cQ _ (lp f e)))).1,fun b f=>?_,w9⟩
    ·obtain⟨j',t,rfl,_,_⟩:=vR e;rw[k8 _ (Nat.le_add_right _ _)];exact e
    ·obtain⟨o,e,_⟩:=T.obj _ _ a6 b f;exact(I9.pin (b,o) (cQ _ (cQ _ (lp f e)))).2.1
   refine du a8 fun b s9 a=>?_;obtain⟨H9,I9,q9⟩:=a;cases b with
   |false =>
    rw[if_neg hV]at q9 ⊢;obtain⟨U,hm,w9⟩:=q9;exact again I9 hm w9
   |true =>
    rw[if_pos rfl]at q9 ⊢;have a9:=eY _ s9 σ8 H9 _ I9 q9;rw[yp,yw,yA,yx]at a9;refine du a9 fun y c0 a=>?_;obtain⟨v,cd,c1,c2,ce,bi,U,hm,c3⟩:=a;have ch:=cH (X:=Y) _ c0 σ8 cd (.ref s2.heap.objs.size) [v] (.ref s2.heap.objs.size) [y] (fun z L=>z=.non/\L=upd cd s2.heap.objs.size (.lst (O++[v]))) c1 rfl (.cons c2 .nil) ⟨_,O,v,rfl,rfl,ce,bi,rfl,rfl⟩;rw[yp,yw,yA,yx]at ch;refine du ch fun _ db a=>?_;obtain⟨_,dc,c4,_,_,c5⟩:=a;subst c5;exact again c4 hm c3
 have h:=codeAny_compStart_list (prog:=X.prog) (w:=X.w) (A:=X.A) (elt:=elt) (target:=tg) (iter:=iter) (ifs:=ifs) (rest:=[]) (scope:=scope) (pos:=pos) (it:=.ref it) (acc:=.ref s2.heap.objs.size) (env:=Y.env) (a4 _ rfl) (T.self _ 0 _ _ _ b3 (a4 _ rfl));rw[b4]at h;rw[<-b0]at h;exact h
end
section
variable{X:Cx}
theorem AB.turned{a:Zd}{σ:St}{H:Hp}{s:Shared}{C:Addr}{f:Heap}(c:AB X a H C)(I:Inv X a σ H s)(g:iN C s.heap f):Inv X a σ H { s with heap:=f } :=
 I.turned (t':=s.toks) (fun b o h e=>g.extBut b o h e) c.free c.loc (.inr c.young) c.cells c.pin
theorem Ke{m i p:Expr}{n:List Expr}{scope:Scope}{r:Pos}{k:Nat}{N:Zb}{fi:List Nat}{wi:TI}{g:TG}{G:TT}{L:TE}(O:nF X.env.scope scope k N X.N fi=true)(U:X.calm=true)(hi:PI X p i wi)
  (Y:∀C l a f ex o,PG (eX X N scope C l a f ex o) p g) (ho:BW k g) (ht:∀C l a f ex o,Le (eX X N scope C l a f ex o) n G) (he:∀C l a f ex o,PE (eX X N scope C l a f ex o) m L)
  (hs:∀x,AG i X.env x=pure x:=by intro _;rfl):PE X (.ListComp m [⟨p,i,n,0⟩] scope r) (cN k fi wi g G L):=by
 intro M s σ H Q I h;have S:=pG.of O;obtain⟨l,j,t,u⟩:=vS (env:=X.env) (scope:=scope) fun y hy e=>I.ok.has y.1 (S.fr y hy e);rw[eval_ListComp];refine wpAny_comprehension_free (use:=none) rfl hs j S.kind S.nm (du (hi M s σ H _ I h) fun v s1 h1=>du h1 fun al s2 h2=>?_);obtain⟨it,fp,tn,J,H2,e,I2,T,z,f2,hw⟩:=h2;subst e;refine vP (RR:=fun B C=>compPost (model X.prog X.w) X.A X.xe none (EP X M σ Q) B C) S U t u Y ho ht he I2 T z f2 hw ?_;intro D C H' s' m' I' hn ce q;exact⟨m',hn,fun h' E=>⟨.ref D,H',ce.turned I' E,rfl,q⟩⟩
theorem C5{m f B:Expr}{n:List Expr}{scope:Scope}{p o t:Pos}{k:Nat}{N:Zb}{fi:List Nat}{wi:TI}{g:TG}{tc:TT}{te:TE}{j:Nat}{y:Str}(hN:X.N.Nodup)(hj:X.N[j]?=some y)(L:Loc X.env.scope y)(hS:nF X.env.scope scope k N X.N fi=true)(hc:X.calm=true)(hi:PI X B f wi)
  (hg:∀C u i l ex E,PG (eX X N scope C u i l ex E) B g) (ho:BW k g) (ht:∀C u i l ex E,Le (eX X N scope C u i l ex E) n tc) (he:∀C u i l ex E,PE (eX X N scope C u i l ex E) m te)
  (M:uD (.ListComp m [⟨B,f,n,0⟩] scope p) (some (.Name y t)) o.line X.env=pure true:=by rfl)
  (hs:∀x,AG f X.env x=pure x:=by intro _;rfl) (hf:X.fn y=true∨X.env.scope.names.lookup y=some .local:=by first|exact .inl rfl|exact .inr rfl|assumption) :
  PS X (.Assign [.Name y t] (.ListComp m [⟨B,f,n,0⟩] scope p) o) (aT (cN k fi wi g tc te) (eR j)):=by
 intro O s σ H D I h;have S:=pG.of hS;obtain⟨u,r,U,Y⟩:=vS (env:=X.env) (scope:=scope) fun y L e=>I.ok.has y.1 (S.fr y L e);rw[exec_Assign_Name_used _ _ _ _ M];refine am (Ea (am ?_));show wpAny _ X.A (do let _ <- comprehension (.ListComp m [⟨B,f,n,0⟩] scope p) scope X.env _ (newList []) false (eval f X.env) (some (assign (.Name y t) X.env))) _ _ s
 refine am (pQ (wpAny_comprehension_free (use:=some (assign (.Name y t) X.env)) (Q:=fun _ G=>SP X O D .next G) rfl hs r S.kind S.nm
  (du (hi O s σ H _ I h) fun v s1 h1=>du h1 fun a5 s2 h2=>?_)) (fun _ G hq=>aQ (aQ hq)) fun _ _ e=>e)
 obtain⟨it,fp,tn,J,H2,e,I2,T,al,f2,hw⟩:=h2;subst e;refine vP (RR:=fun an C=>compPost (model X.prog X.w) X.A X.xe (some (assign (.Name y t) X.env)) (fun _ G=>SP X O D .next G) an C) (Q:=fun x H1=>eR j x σ H1 D.nx) S hc U Y hg ho ht he I2 T al f2 hw ?_;intro A C H' G m' I' hn ce q;show wpAny _ X.A (assign (.Name y t) X.env (.ref A)) _ _ _;refine wpAny_assign_Name (xm I' hN hj L (v:=.ref A) rfl (fun a6 ap as=>?_) hf);obtain⟨a,aC,ha⟩:=as;have a0:C≠a:=by
  rcases ha with z|z
  ·rw[z];exact ce.loc
  ·exact iO (ce.cells y a z)
 refine⟨m',hn.sameBut aC a0,fun h' a4=>?_⟩;exact⟨_,H',ce.turned ap a4,q⟩
end
theorem Inv.turnedNew{X:Cx}{i:Zd}{σ:St}{H:Hp}{s:Shared}{g:Heap}{p:Nat}{ch:Ze}{o:HO}(I:Inv X i σ H s)(hf:∀b∈ch,pE X i H b)
  (k:∀b q,b∉ch->s.heap.get? b=some q->g.get? b=some q) (M:∃q,g.get? s.heap.objs.size=some q) (t:∀y,o≠.own y) (new:cw X.prog X.w X.K (upd H s.heap.objs.size o) g s.heap.objs.size o) :
  Inv X i σ (upd H s.heap.objs.size o) { s with heap:=g,toks:=p }:=by
 have a:H s.heap.objs.size=none:=I.fresh;have j:∀b q,s.heap.get? b=some q->b≠s.heap.objs.size:=fun b q e=>cK (bg e);have l:∀b u,H b=some u->b∉ch:=fun b u e z=>by rw[(hf b z).1]at e;cases e
 refine I.step (g':=s.gens) (d':=s.drawn) (ch:=ch) (fun b h=>?_) (fun b q _ _ f e _=>k b q f e) (fun b q _ _ f e _=>⟨q.slots,k b q f e⟩) (fun b q _ e n=>by rw[aj (j b q e)];exact n) (fun b q f e=>⟨q,k b q f e⟩)
  (fun b x e=>by rw[aj (ae e a)];exact e) (fun b q u e=>by rw[aj (ae e a)];exact e) (fun b N e=>⟨#[],by rw[aj (ae e a),e];simp⟩) (fun m A=>?_) (fun b u e=>?_) I.bare
 ·obtain⟨O,B,Q,C,D,E⟩:=hf b h;exact⟨C,B,D,E⟩
 ·obtain⟨q,G,J,L,r⟩:=A;exact⟨q,G,J,k _ q (fun z=>(hf _ z).2.1 rfl) L,r⟩
 ·by_cases h:b=s.heap.objs.size
  ·subst h;rw[aa]at e;cases e;exact new
  ·rw[aj h]at e;refine(I.hok b u e).stay (fun c v f q=>k c v ?_ q) (fun c q=>by rw[aj (ae q a)];exact q) fun c x q=>by rw[aj (ae q a)];exact q
   rcases f with z|z
   ·subst z;exact l _ _ e
   ·exact l _ _ z
def LR(K:Za)(a:Addr):It :=
 ⟨fun i H=>∃xs x,ay K H a xs/\xs[i]?=some x,fun i H x H'=>∃p v,x=.ref p/\H p=none/\(∀xs,ay K H a xs->xs[i]?=some v)/\H'=upd H p (.tup [.int i,v]),fun i H=>∃xs,ay K H a xs/\xs.length<=i⟩
theorem Fe{P:bR}{w:World}{K:Za}{es:List Expr}{kx:Nat}{J6:Pos}(a e it:Addr)(n:e≠it):
  tX P w K (.Tuple es kx J6) (LR K a) [e,it] e (fun i h=>(∃f,IsEnum h e it i f)/\h.IsListIter it a i) where
 mem:=by simp
 obj:=fun i h st b m=>by
  obtain⟨⟨f,j⟩,o,G,J,hd⟩:=st;rcases dC.mp m with z|z
  ·subst z;exact⟨_,j,fun v z=>by cases z⟩
  ·have L:b=it:=by simpa using z
   subst L;exact⟨o,G,fun v z=>by rw[hd]at z;cases z⟩
 keep:=fun i h C st k=>⟨let⟨f,j⟩:=st.1;⟨f,k e (by simp) _ j⟩,st.2.at fun o e=>k it (by simp) o e⟩
 item:=by
  intro X M N O J i J3 s σ H E I hf st Q;subst M N O;obtain⟨⟨f,j⟩,l⟩:=st;obtain⟨xs,x,D,hx⟩:=Q;obtain⟨T,U,p,hz⟩:=I.list D;obtain⟨u,hu,ru⟩:=U.get hx;obtain⟨e0,e1,e2,e3,e4,e5⟩:=hf e (by simp);obtain⟨Y,f1,f2,f3,f4,f5⟩:=hf it (by simp);refine wpAny_pyNext_enum_item j l p.isList (x:=u) (by simpa using hu) n fun C al r an a8 ap=>?_;refine⟨_,rfl,wpAny_letOwnedTupleGo_enum (s:={ s with heap:=C,toks:=s.toks+1 }) al fun h2 as aC=>?_⟩;have g:iN e C h2:=aC;have t:s.heap.objs.size≠e:=i_ (bg j);have A:h2.get? s.heap.objs.size=some { cls:=.type "tuple",data:=.seq #[.int i s.toks,u] }:=g.extBut _ _ t an;have a0:H s.heap.objs.size=none:=I.fresh;have a4:upd H s.heap.objs.size (.tup [.int i,x]) e=none:=by rw[aj (iO t)];exact e0
  have a5:s.heap.objs.size≠it:=by
   obtain⟨o,G,_⟩:=l;exact i_ (bg G)
  have a6:upd H s.heap.objs.size (.tup [.int i,x]) it=none:=by rw[aj (iO a5)];exact Y
  have I2:Inv X J3 σ (upd H s.heap.objs.size (.tup [.int i,x])) { s with heap:=h2,toks:=s.toks+1 }:=by
   refine I.turnedNew (ch:=[e,it]) hf (fun b o m q=>?_) ⟨_,A⟩ (fun _ z=>nomatch z) ⟨by show 2<=ak;decide,[.int i s.toks,u],.cons ⟨_,rfl⟩ (.cons ru .nil),⟨_,A,rfl,_,rfl⟩⟩;have B:b≠e:=fun z=>m (by simp[z]);have a7:b≠it:=fun z=>m (by simp[z]);exact g.extBut _ _ B (ap b o B a7 q)
  refine⟨.ref s.heap.objs.size,_,I2,rfl,⟨_,x,rfl,a0,fun ys hy=>by rw[I.list_inj hy D];exact hx,rfl⟩,⟨⟨u,by simpa using as⟩,r.at fun o y=>(g.2 it (iO n)).trans y⟩,fun b m=>?_⟩;rcases dC.mp m with z|z
  ·subst z;exact a4
  ·have L:b=it:=by simpa using z
   subst L;exact a6
 done:=by
  intro X M N O J i J3 s σ H E I hf st Q;subst M N O;obtain⟨⟨f,j⟩,l⟩:=st;obtain⟨xs,D,hx⟩:=Q;obtain⟨T,U,p,hz⟩:=I.list D;obtain⟨Y,f1,f2,f3,f4,f5⟩:=hf it (by simp);have hl:=U.length;exact wpAny_pyNext_enum_end (I.ok.hd J) j l p.isList (by simp;omega) fun C eb=>⟨rfl,I.turned (t':=s.toks) (fun b o m e=>eb b o m e) Y f1 f3 f4 f5⟩
 self:=fun _ _ _ _ _ st h=>let⟨_,j⟩:=st.1;wpAny_pyIter_enum j h
section
variable{X:Cx}{p pos:Pos}{es:List Expr}{kx:Nat}{J6:Pos}
def tq(K:Za)(ta:TA):TI:=fun σ H R=>ta σ H fun vs H1=>∃a,vs=[.ref a]/\(∃xs,ay K H1 a xs)/\R (LR K a) H1
theorem k9{a:Expr}{n:TA}(w:Gl X "enumerate")(x:X.mg "enumerate"=none)(y:PA X [a] n)(A:a_ [a] X.env=[(false,eval a X.env)]:=by rfl):PI X (.Tuple es kx J6) (.Call (.Name "enumerate" p) [a] [] pos) (tq X.K n):=by
 intro r s σ H R I h;refine Call_ (o6 I w x boot_enumerate (AH (du (y pos r s σ H _ I h) fun T s1 i=>?_) A rfl));obtain⟨U,t,g,B,C⟩:=i;obtain⟨l,e,⟨Y,D⟩,q⟩:=C;subst e;obtain⟨u,rfl,E⟩:=vals1 B;cases E;obtain⟨G,rv,J,hz⟩:=g.list D;refine call_enumerate_list J.isList fun j v k L M=>?_;refine wpAny_pyIter_enum (s:={ s1 with heap:=j }) v ?_;have m:∀b o,s1.heap.get? b=some o->j.get? b=some o:=M;have N:Inv X r σ t { s1 with heap:=j }:=g.kept (t':=s1.toks) m;refine⟨_,[s1.heap.objs.size+1,s1.heap.objs.size],_,_,t,rfl,N,Fe l _ _ (Nat.succ_ne_self _),⟨⟨_,v⟩,k⟩,fun b O=>?_,q⟩;have f:s1.heap.objs.size<=b:=by
  rcases dC.mp O with z|z
  ·rw[z];exact DQ _
  ·have Q:b=s1.heap.objs.size:=by simpa using z
   rw[Q];exact aR _
 exact g.fpOk f (g.hok.fresh f)
end
def MV(x:Str):It:=⟨fun i _=>i<x.cps.size,fun i H y H'=>H'=H/\∃c,x.cps[i]?=some c/\y=.str ⟨#[c]⟩,fun i _=>x.cps.size<=i⟩
theorem Ci{P:bR}{w:World}{K:Za}{D:Expr}(x:Str)(t:Tok)(it:Addr):tX P w K D (MV x) [it] it (fun i h=>h.IsStrIter it "str_ascii_iterator" x t i) where
 mem:=by simp
 obj:=fun i h st b a=>by
  have e:b=it:=by simpa using a
  subst e;obtain⟨o,e,c,d⟩:=st;exact⟨o,e,fun v z=>by rw[d]at z;cases z⟩
 keep:=fun i h g st k=>by
  obtain⟨o,e,c,d⟩:=st;exact⟨o,k it (by simp) o e,c,d⟩
 item:=by
  intro X j l m B i C s σ H E I hf st n;subst j l m;have p:i<x.cps.size:=n;obtain⟨q,r,G,u,y,A⟩:=hf it (by simp);have hx:x.cps[i]?=some x.cps[i]:=by simp[p]
  refine wpAny_pyNext_ascii_item st hx fun g f J=>?_;have L:Inv X C σ H { s with heap:=g,toks:=s.toks+1 }:=I.turned (t':=s.toks+1) (fun b o a e=>(J.2 b a).trans e) q r u y A;obtain⟨o,e,c,d⟩:=id f;exact⟨_,rfl,vE (s:={ s with heap:=g,toks:=s.toks+1 }) e c d (by decide) ⟨.str ⟨#[x.cps[i]]⟩,H,L,⟨_,rfl⟩,⟨rfl,_,hx,rfl⟩,f,fun b a=>(hf b a).1⟩⟩
 done:=by
  intro X j l m B i C s σ H E I hf st n;subst j l m;have M:x.cps.size<=i:=n;obtain⟨q,r,G,u,y,A⟩:=hf it (by simp);exact wpAny_pyNext_ascii_end (I.ok.hd B) st (by simp;omega) fun g N=>⟨rfl,I.turned (t':=s.toks) (fun b o a e=>N b o a e) q r u y A⟩
 self:=fun _ _ _ _ _ st h=>wpAny_pyIter_striter_ascii st h
theorem Fc{P:bR}{w:World}{K:Za}{D:Expr}(x:Str)(t:Tok)(it:Addr):tX P w K D (MV x) [it] it (fun i h=>h.IsStrIter it "str_iterator" x t i) where
 mem:=by simp
 obj:=fun i h st b a=>by
  have e:b=it:=by simpa using a
  subst e;obtain⟨o,e,c,d⟩:=st;exact⟨o,e,fun v z=>by rw[d]at z;cases z⟩
 keep:=fun i h g st k=>by
  obtain⟨o,e,c,d⟩:=st;exact⟨o,k it (by simp) o e,c,d⟩
 item:=by
  intro X j l m B i C s σ H E I hf st n;subst j l m;have p:i<x.cps.size:=n;obtain⟨q,r,G,u,y,A⟩:=hf it (by simp);have hx:x.cps[i]?=some x.cps[i]:=by simp[p]
  refine wpAny_pyNext_wide_item st hx fun g f J=>?_;have L:Inv X C σ H { s with heap:=g,toks:=s.toks+1 }:=I.turned (t':=s.toks+1) (fun b o a e=>(J.2 b a).trans e) q r u y A;obtain⟨o,e,c,d⟩:=id f;exact⟨_,rfl,vE (s:={ s with heap:=g,toks:=s.toks+1 }) e c d (by decide) ⟨.str ⟨#[x.cps[i]]⟩,H,L,⟨_,rfl⟩,⟨rfl,_,hx,rfl⟩,f,fun b a=>(hf b a).1⟩⟩
 done:=by
  intro X j l m B i C s σ H E I hf st n;subst j l m;have M:x.cps.size<=i:=n;obtain⟨q,r,G,u,y,A⟩:=hf it (by simp);exact wpAny_pyNext_wide_end (I.ok.hd B) st (by simp;omega) fun g N=>⟨rfl,I.turned (t':=s.toks) (fun b o a e=>N b o a e) q r u y A⟩
 self:=fun _ _ _ _ _ st h=>wpAny_pyIter_striter_wide st h
section
variable{X:Cx}{p pos:Pos}{tg:Expr}
def Mj(tl:TE):TI:=fun σ H R=>tl σ H fun v H1=>∃x,v=.str x/\R (MV x) H1
theorem Ln{l:Expr}{k:TE}(r:PE X l k):PI X tg l (Mj k):=by
 intro m s σ H R I h;refine du (r m s σ H _ I h) fun v a i=>?_;obtain⟨y,j,g,u,w⟩:=i;obtain⟨x,e,q⟩:=w;subst e;obtain⟨t,rfl⟩:=u;have f:∀b∈[a.heap.objs.size],pE X m j b:=fun b z=>by
  have e:b=a.heap.objs.size:=by simpa using z
  subst e;exact g.fpOk (aR _) (g.hok.fresh (aR _))
 cases n:x.cps.all (·<128)
 ·refine wpAny_pyIter_wide n ?_;exact⟨a.heap.objs.size,[a.heap.objs.size],_,_,j,rfl,g.kept (t':=a.toks) fun b o e=>bt _ e,Fc x t _,⟨_,de _ rfl,rfl,rfl⟩,f,q⟩
 ·refine wpAny_pyIter_ascii n ?_;exact⟨a.heap.objs.size,[a.heap.objs.size],_,_,j,rfl,g.kept (t':=a.toks) fun b o e=>bt _ e,Ci x t _,⟨_,de _ rfl,rfl,rfl⟩,f,q⟩
end
def MU(K:Za)(a b:Addr):It :=
  ⟨fun i H=>∃xs ys x y,ay K H a xs/\ay K H b ys/\xs[i]?=some x/\ys[i]?=some y,
   fun i H x H'=>∃p u v,x=.ref p/\H p=none/\(∀xs,ay K H a xs->xs[i]?=some u)/\(∀ys,ay K H b ys->ys[i]?=some v)/\H'=upd H p (.tup [u,v]),
   fun i H=>∃xs ys,ay K H a xs/\ay K H b ys/\(xs.length<=i∨ys.length<=i)⟩
theorem Hd{P:bR}{w:World}{K:Za}{es:List Expr}{kx:Nat}{J6:Pos}(a b z TI TO t A:Addr)(D:rH z TI TO t A a b):
  tX P w K (.Tuple es kx J6) (MU K a b) [z,TI,TO,t,A] z (fun i h=>IsZip h z TI TO .none/\IsPair h TI (.ref t) (.ref A)/\(∃a b,IsPair h TO a b)/\h.IsListIter t a i/\h.IsListIter A b i) where
 mem:=by simp
 obj:=fun i h st c f=>by
  obtain⟨p,j,⟨u,v,l⟩,G,J⟩:=st;simp only[dC,mj,or_false]at f;rcases f with rfl|rfl|rfl|rfl|rfl
  ·exact⟨_,p,fun v z=>by cases z⟩
  ·exact⟨_,j,fun v z=>by cases z⟩
  ·exact⟨_,l,fun v z=>by cases z⟩
  ·obtain⟨o,e,c,d⟩:=G;exact⟨o,e,fun v z=>by rw[d]at z;cases z⟩
  ·obtain⟨o,e,c,d⟩:=J;exact⟨o,e,fun v z=>by rw[d]at z;cases z⟩
 keep:=fun i h M st k=>by
  obtain⟨p,j,⟨u,v,l⟩,G,J⟩:=st;exact⟨k z (by simp) _ p,k TI (by simp) _ j,⟨u,v,k TO (by simp) _ l⟩,G.at fun o e=>k t (by simp) o e,J.at fun o e=>k A (by simp) o e⟩
 item:=by
  intro X hP hw hK f i J3 s σ H E I hf st hg;subst hP hw hK;obtain⟨p,j,⟨u0,v0,l⟩,G,J⟩:=st;obtain⟨xs,ys,x,y,B,C,hx,hy⟩:=hg;obtain⟨ap,rx,px,zx⟩:=I.list B;obtain⟨as,ry,py,zy⟩:=I.list C;obtain⟨u,hu,ru⟩:=rx.get hx;obtain⟨v,hv,rv⟩:=ry.get hy;refine wpAny_pyNext_zip_item D p j l G J px.isList py.isList (x:=u) (y:=v) (by simpa using hu) (by simpa using hv) fun M a1 a2 a3 a4 a5 a6 hk=>?_;refine⟨_,rfl,wpAny_letOwnedTupleGo_zip (s:={ s with heap:=M }) a1 fun L aC a0=>?_⟩;have g:iN z M L:=a0;have N:s.heap.objs.size≠z:=i_ (bg p);have O:s.heap.objs.size≠TO:=i_ (bg l);have Q:s.heap.objs.size≠TI:=i_ (bg j);have T:s.heap.objs.size≠t:=by obtain⟨o,U,_⟩:=G;exact i_ (bg U)
  have Y:s.heap.objs.size≠A:=by obtain⟨o,U,_⟩:=J;exact i_ (bg U)
  have al:IsPair L s.heap.objs.size u v:=g.extBut _ _ N a5;have I2:Inv X J3 σ (upd H s.heap.objs.size (.tup [x,y])) { s with heap:=L,toks:=s.toks }:=by
   refine I.turnedNew (ch:=[z,TI,TO,t,A]) hf (fun c o f q=>?_) ⟨_,al⟩ (fun _ z=>nomatch z) ⟨by show 2<=ak;decide,[u,v],.cons ru (.cons rv .nil),⟨_,al,rfl,_,rfl⟩⟩;have n1:c≠z:=fun q=>f (by simp[q]);exact g.extBut _ _ n1 (hk c o n1 (fun q=>f (by simp[q])) (fun q=>f (by simp[q])) (fun q=>f (by simp[q])) q)
  refine⟨.ref s.heap.objs.size,_,I2,rfl,⟨_,x,y,rfl,I.fresh,fun zs p=>by rw[I.list_inj p B];exact hx,fun zs p=>by rw[I.list_inj p C];exact hy,rfl⟩,⟨aC,g.extBut _ _ D.TIz (hk _ _ D.TIz D.TITO D.TIi1 D.TIi2 j),⟨_,_,g.extBut _ _ D.TOz a2⟩,a3.at fun o e=>g.extBut _ _ D.i1z e,a4.at fun o e=>g.extBut _ _ D.i2z e⟩,fun c f=>?_⟩;have a7:=(hf c f).1;simp only[dC,mj,or_false]at f;have ne:c≠s.heap.objs.size:=by
   rcases f with rfl|rfl|rfl|rfl|rfl
   ·exact N.symm
   ·exact Q.symm
   ·exact O.symm
   ·exact T.symm
   ·exact Y.symm
  rw[aj ne];exact a7
 done:=by
  intro X hP hw hK f i J3 s σ H E I hf st hg;subst hP hw hK;obtain⟨p,j,⟨u0,v0,l⟩,G,J⟩:=st;obtain⟨xs,ys,B,C,an⟩:=hg;obtain⟨ap,rx,px,zx⟩:=I.list B;obtain⟨as,ry,py,zy⟩:=I.list C;have lx:=rx.length;have ly:=ry.length;refine wpAny_pyNext_zip_end (I.ok.hd f) D p j l G J px.isList py.isList (by rcases an with q|q;exact .inl (by simp;omega);exact .inr (by simp;omega)) fun M hk=>⟨rfl,?_⟩;have tr:∀c q,H c=some q->c∉[z,TI,TO,t,A]:=fun c q e m=>by rw[(hf c m).1]at e;cases e
  have kk:∀c o,c∉[z,TI,TO,t,A]->s.heap.get? c=some o->M.get? c=some o:=fun c o f q=>hk c o (fun q=>f (by simp[q])) (fun q=>f (by simp[q])) (fun q=>f (by simp[q])) (fun q=>f (by simp[q])) q;refine I.step (g':=s.gens) (d':=s.drawn) (t':=s.toks) (ch:=[z,TI,TO,t,A]) (fun c f=>?_) (fun c o _ _ f e _=>kk c o f e) (fun c o _ _ f e _=>⟨o.slots,kk c o f e⟩) (fun _ _ _ _ n=>n) (fun c o f e=>⟨o,kk c o f e⟩) (fun _ _ e=>e) (fun _ _ _ e=>e) (fun c ps e=>⟨#[],by rw[e];simp⟩) (fun m hm=>?_) (fun c q e=>?_) I.bare
  ·obtain⟨f0,f1,f2,f3,f4,f5⟩:=hf c f;exact⟨f3,f1,f4,f5⟩
  ·obtain⟨q,a8,ep,U,r⟩:=hm;exact⟨q,a8,ep,kk _ q (fun z=>(hf _ z).2.1 rfl) U,r⟩
  ·refine(I.hok c q e).stay (fun d v hd q'=>kk d v ?_ q') (fun _ q=>q) fun _ _ q=>q;rcases hd with z|z
   ·subst z;exact tr _ _ e
   ·exact tr _ _ z
 self:=fun _ _ _ _ _ st h=>yO st.1 h
section
variable{prog:bR}{w:World}{A:Around}{E:Zc}{s:Shared}
theorem lh{it t:Addr}{i:Nat}{items:Array Value}{x:Value}{Q:Zc}(st:s.heap.IsTupleIter it t i)(g:s.heap.IsTuple t items)(hx:items[i]?=some x)
  (k:∀f,f.IsTupleIter it t (i+1)->iN it s.heap f->Q x { s with heap:=f }):wpAny (model prog w) A (mi (.ref it)) Q E s:=by
 obtain⟨m,e,h,a⟩:=id st;obtain⟨n,j,_,o,l⟩:=g;unfold mi;refine am (mh (name:=mf "__next__") st.typeIs yN
  (q0 yN st.typeIs F.entry_tuple_iterator_next ?_ (F.args_tuple_iterator_next_1 _)))
 show wpAny _ _ (field (.ref it) 0 >>= _) _ _ s;refine am (h_ e a (x:=.ref t) rfl ?_);show wpAny _ _ (if(Value.ref t==Value.none)=true then _ else _) _ _ s
 rw[if_neg (show ¬((Value.ref t==Value.none)=true)from hV)];show wpAny _ _ (field (.ref it) 1 >>= _) _ _ s;refine am (h_ e a (x:=.int i 0) rfl ?_);show wpAny _ _ (seqItems? (.ref t) >>= _) _ _ s;refine am (me j l ?_);simp only[ka,hx];refine am (rG e a (by simp) (aQ ⟨x,rfl,aQ (k _ ?_ (kT ..))⟩));exact⟨_,uU _ e (Obj.isFreed_of_fields (rF a _)),(Obj.cls_mapFields ..).trans h,by
  rw[rF a];simp[rawInt]⟩
theorem sZ{it t:Addr}{i:Nat}{items:Array Value}{Q:Zc}(j:A.handled=none)(st:s.heap.IsTupleIter it t i)(l:s.heap.IsTuple t items)(hx:items[i]?=none)
  (k:∀f e,Heap.ExtBut it s.heap f->(∃o,f.get? e=some o/\o.cls=.type "StopIteration")->E (.ref e) { s with heap:=f }):wpAny (model prog w) A (mi (.ref it)) Q E s:=by
 obtain⟨q,g,r,h⟩:=id st;obtain⟨u,n,_,v,p⟩:=l;unfold mi;refine am (mh (name:=mf "__next__") st.typeIs yN
  (q0 yN st.typeIs F.entry_tuple_iterator_next ?_ (F.args_tuple_iterator_next_1 _)))
 show wpAny _ _ (field (.ref it) 0 >>= _) _ _ s;refine am (h_ g h (x:=.ref t) rfl ?_);show wpAny _ _ (if(Value.ref t==Value.none)=true then _ else _) _ _ s
 rw[if_neg (show ¬((Value.ref t==Value.none)=true)from hV)];show wpAny _ _ (field (.ref it) 1 >>= _) _ _ s;refine am (h_ g h (x:=.int i 0) rfl ?_);show wpAny _ _ (seqItems? (.ref t) >>= _) _ _ s;refine am (me n p ?_);simp only[ka,hx];refine am (pR (am (rG g h (by simp) ?_)));show wpAny _ _ (newExc (.type "StopIteration") [] >>= _) _ _ _;refine am ?_;simp only[newExc,newTuple];refine am (j_ ?_ (by size_fits));refine am (m:=rE _ _) (wpAny_of_eq (a:=Value.none) (by first|rfl|(simp only[rE];rfl)) ?_)
 refine j_ ?_ (by size_fits);simp only[raiseNew];refine am (wpAny_handled ?_)
 first|rw[show A.in1.handled=none from j] | rw[j]
 refine am (aQ (wpAny_throw ?_));exact k _ _ (((kT ..).extBut.push _).push _) ⟨_,de _ rfl,rfl⟩
theorem E_{z TI TO L M l1 l2:Addr}{k1 k2:Nat}{xs ys:Array Value}{x y a b:Value}{Q:Zc}(D:rH z TI TO L M l1 l2)
  (gz:IsZip s.heap z TI TO .none) (gI:IsPair s.heap TI (.ref L) (.ref M)) (gO:IsPair s.heap TO a b)
  (g1:s.heap.IsTupleIter L l1 k1) (g2:s.heap.IsTupleIter M l2 k2) (t1:s.heap.IsTuple l1 xs) (t2:s.heap.IsTuple l2 ys) (hx:xs[k1]?=some x) (hy:ys[k2]?=some y)
  (k:∀N,IsZip N z TI TO (rawInt s.heap.objs.size)->IsPair N TO x y->N.IsTupleIter L l1 (k1+1)->N.IsTupleIter M l2 (k2+1)->IsPair N s.heap.objs.size x y->N.objs.size=s.heap.objs.size+1 ->
   (∀c o,c≠z->c≠TO->c≠L->c≠M->s.heap.get? c=some o->N.get? c=some o)->Q (.ref s.heap.objs.size) { s with heap:=N }) :
  wpAny (model prog w) A (dD.«zip.__next__» ⟨[.ref z],[]⟩) (fun a4 s'=>∃v,a4=.done (.ret v)/\Q v s') E s:=by
 show wpAny _ _ (field (.ref z) 2 >>= _) _ _ _;refine am (h_ gz rfl (x:=.bool false) rfl ?_);show wpAny _ _ (field (.ref z) 3 >>= _) _ _ _;refine am (h_ gz rfl (x:=.ref TI) rfl ?_);refine am (me gI rfl ?_);show wpAny _ _ (yM (.ref z) >>= _) _ _ _;refine am ?_;unfold yM;refine am (h_ gz rfl (x:=.none) rfl (aQ ?_));simp only[if_true];refine am (pR ?_);refine am (h_ gz rfl (x:=.ref TO) rfl ?_);refine am (rD gz (by simp) fun m₁ q g=>?_)
 replace q:IsZip m₁ z TI TO .ellipsis:=q
 refine am ?_;simp only[List.zipIdx_cons,List.zipIdx_nil,uO,List.forIn_nil];refine am (am (yL ?_));show wpAny _ _ (mi (.ref L) >>= _) _ _ _;refine am (lh (g1.extBut g.extBut D.i1z) (t1.extBut g.extBut D.l1z) hx fun m₂ O h=>aQ ?_);have B:IsPair m₂ TO a b:=h.extBut _ _ D.TOi1 (g.extBut _ _ D.TOz gO);refine am (me B rfl ?_);refine am (wpAny_updateSeq_pair B fun m₃ t i=>?_)
 replace t:IsPair m₃ TO x b:=t
 refine am (wpAny_letGo (aQ ?_));refine am (am (yL ?_));show wpAny _ _ (mi (.ref M) >>= _) _ _ _;refine am (lh (((g2.extBut g.extBut D.i2z).extBut h.extBut D.i12.symm).extBut i.extBut D.TOi2.symm)
  (((t2.extBut g.extBut D.l2z).extBut h.extBut D.l2i1).extBut i.extBut D.l2TO) hy fun m₄ T m=>aQ ?_)
 have C:IsPair m₄ TO x b:=m.extBut _ _ D.TOi2 t;refine am (me C rfl ?_);refine am (wpAny_updateSeq_pair C fun f j n=>?_)
 replace j:IsPair f TO x y:=j
 refine am (wpAny_letGo (aQ (aQ ?_)));refine am (me j rfl ?_);refine am (wpAny_newTuple ?_);have as:f.objs.size=s.heap.objs.size:=by rw[n.1,m.1,i.1,h.1,g.1]
 have G:IsZip f z TI TO .ellipsis:=n.extBut _ _ D.TOz.symm (m.extBut _ _ D.i2z.symm (i.extBut _ _ D.TOz.symm (h.extBut _ _ D.i1z.symm q)));have U:∀c o,c≠z->c≠TO->c≠L->c≠M->s.heap.get? c=some o->f.get? c=some o:=fun c o Y c2 c3 c4 e =>
  n.extBut _ _ c2 (m.extBut _ _ c4 (i.extBut _ _ c2 (h.extBut _ _ c3 (g.extBut _ _ Y e))))
 have al:f.IsTupleIter L l1 (k1+1):=((O.extBut i.extBut D.TOi1.symm).extBut m.extBut D.i12).extBut n.extBut D.TOi1.symm;have an:f.IsTupleIter M l2 (k2+1):=T.extBut n.extBut D.TOi2.symm;have aC:z<f.objs.size:=bg G;show wpAny _ _ (dD.SmallTypes.ownedTupleHandOut (.ref z) (.ref f.objs.size) >>= _) _ _ _;refine am ?_;unfold dD.SmallTypes.ownedTupleHandOut;have ap:IsZip (f.push { cls:=.type "tuple",data:=.seq #[x,y] }) z TI TO .ellipsis:=bt _ G;refine am (rD ap (by simp) fun m₇ u H=>?_)
 replace u:IsZip m₇ z TI TO (rawInt f.objs.size):=u
 refine rD u (by simp) fun p l I=>?_
 replace l:IsZip p z TI TO (rawInt f.objs.size):=l
 have up:∀c o,c≠z->f.get? c=some o->p.get? c=some o:=fun c o Y e=>I.extBut _ _ Y (H.extBut _ _ Y (bt _ e));have J:IsPair p f.objs.size x y:=I.extBut _ _ (i_ aC) (H.extBut _ _ (i_ aC) (de _ rfl));have a0:p.objs.size=f.objs.size+1:=by rw[I.1,H.1,pM]
 rw[as]at l J a0;refine aQ ⟨_,rfl,?_⟩;show Q (.ref f.objs.size) _;rw[as];refine k p l (up _ _ D.TOz j) ?_ ?_ J a0 fun c o Y c2 c3 c4 e=>up c o Y (U c o Y c2 c3 c4 e)
 ·obtain⟨o,e,r⟩:=al;exact⟨o,up _ o D.i1z e,r⟩
 ·obtain⟨o,e,r⟩:=an;exact⟨o,up _ o D.i2z e,r⟩
theorem GX{z TI TO v y J L:Addr}{M N:Nat}{O T:Array Value}{a b:Value}{Q:Fin->Shared->Prop}(hh:A.handled=none)(D:rH z TI TO v y J L)
  (B:IsZip s.heap z TI TO .none) (gI:IsPair s.heap TI (.ref v) (.ref y)) (gO:IsPair s.heap TO a b)
  (g1:s.heap.IsTupleIter v J M) (g2:s.heap.IsTupleIter y L N) (t1:s.heap.IsTuple J O) (t2:s.heap.IsTuple L T) (U:O[M]?=none∨T[N]?=none)
  (k:∀Y e,(∀c o,c≠z->c≠TO->c≠v->c≠y->s.heap.get? c=some o->Y.get? c=some o)->(∃o,Y.get? e=some o/\o.cls=.type "StopIteration")->E (.ref e) { s with heap:=Y }) :
  wpAny (model prog w) A (dD.«zip.__next__» ⟨[.ref z],[]⟩) Q E s:=by
 show wpAny _ _ (field (.ref z) 2 >>= _) _ _ _;refine am (h_ B rfl (x:=.bool false) rfl ?_);show wpAny _ _ (field (.ref z) 3 >>= _) _ _ _;refine am (h_ B rfl (x:=.ref TI) rfl ?_);refine am (me gI rfl ?_);show wpAny _ _ (yM (.ref z) >>= _) _ _ _;refine am ?_;unfold yM;refine am (h_ B rfl (x:=.none) rfl (aQ ?_));simp only[if_true];refine am (pR ?_);refine am (h_ B rfl (x:=.ref TO) rfl ?_);refine am (rD B (by simp) fun m₁ i f=>?_)
 replace i:IsZip m₁ z TI TO .ellipsis:=i
 refine am ?_;simp only[List.zipIdx_cons,List.zipIdx_nil,uO,List.forIn_nil];refine am (am (yL ?_));show wpAny _ _ (mi (.ref v) >>= _) _ _ _;cases hx:O[M]? with
 |none =>
  refine am (sZ hh (g1.extBut f.extBut D.i1z) (t1.extBut f.extBut D.l1z) hx fun m₂ e g he=>?_);obtain⟨oe,t,C⟩:=he;have j:IsZip m₂ z TI TO .ellipsis:=g _ _ D.i1z.symm i;have u:e≠z:=fun q=>by subst q;rw[j]at t;cases t;simp at C
  refine rD j (by simp) fun n _ h=>k n e (fun c o G _ c3 _ q=>h.extBut _ _ G (g _ _ c3 (f.extBut _ _ G q))) ⟨oe,h.extBut _ _ u t,C⟩
 |some x =>
  have hy:T[N]?=none:=by rcases U with q|q;rw[hx]at q;cases q;exact q
  refine am (lh (g1.extBut f.extBut D.i1z) (t1.extBut f.extBut D.l1z) hx fun m₂ al g=>aQ ?_);have l:IsPair m₂ TO a b:=g.extBut _ _ D.TOi1 (f.extBut _ _ D.TOz gO);refine am (me l rfl ?_);refine am (wpAny_updateSeq_pair l fun n an h=>?_);refine am (wpAny_letGo (aQ ?_));refine am (am (yL ?_));show wpAny _ _ (mi (.ref y) >>= _) _ _ _;refine am (sZ hh (((g2.extBut f.extBut D.i2z).extBut g.extBut D.i12.symm).extBut h.extBut D.TOi2.symm)
   (((t2.extBut f.extBut D.l2z).extBut g.extBut D.l2i1).extBut h.extBut D.l2TO) hy fun H e p he=>?_)
  obtain⟨oe,t,C⟩:=he;have m:IsZip H z TI TO .ellipsis:=p _ _ D.i2z.symm (h.extBut _ _ D.TOz.symm (g.extBut _ _ D.i1z.symm i));have u:e≠z:=fun q=>by subst q;rw[m]at t;cases t;simp at C
  refine rD m (by simp) fun I _ r=>k I e (fun c o G c2 c3 c4 q=>r.extBut _ _ G (p _ _ c4 (h.extBut _ _ c2 (g.extBut _ _ c3 (f.extBut _ _ G q))))) ⟨oe,r.extBut _ _ u t,C⟩
theorem wP{z TI TO f g h i:Addr}{j l:Nat}{xs ys:Array Value}{x y a b:Value}{Q:Option Value->Shared->Prop}(D:rH z TI TO f g h i)
  (m:IsZip s.heap z TI TO .none) (p:IsPair s.heap TI (.ref f) (.ref g)) (q:IsPair s.heap TO a b)
  (r:s.heap.IsTupleIter f h j) (t:s.heap.IsTupleIter g i l) (u:s.heap.IsTuple h xs) (v:s.heap.IsTuple i ys) (hx:xs[j]?=some x) (B:ys[l]?=some y)
  (k:∀e,IsZip e z TI TO (rawInt s.heap.objs.size)->IsPair e TO x y->e.IsTupleIter f h (j+1)->e.IsTupleIter g i (l+1)->IsPair e s.heap.objs.size x y->e.objs.size=s.heap.objs.size+1 ->
   (∀c o,c≠z->c≠TO->c≠f->c≠g->s.heap.get? c=some o->e.get? c=some o)->Q (some (.ref s.heap.objs.size)) { s with heap:=e }) :
  wpAny (model prog w) A (pyNext (.ref z)) Q E s:=by
 have n:s.TypeIs (.ref z) "zip":=⟨_,m,rfl⟩;unfold pyNext;exact am (rC (mh (name:=mf "__next__") n yJ
  (q0 yJ n F.entry_zip_next
   (E_ D m p q r t u v hx B fun e a1 a2 a3 C G H I=>aQ (k e a1 a2 a3 C G H I)) (F.args_zip_next_1 _))))
theorem zS{z TI TO f g h i:Addr}{m n:Nat}{xs ys:Array Value}{a b:Value}{Q:Option Value->Shared->Prop}(r:A.handled=none)(D:rH z TI TO f g h i)
  (p:IsZip s.heap z TI TO .none) (t:IsPair s.heap TI (.ref f) (.ref g)) (u:IsPair s.heap TO a b)
  (v:s.heap.IsTupleIter f h m) (x:s.heap.IsTupleIter g i n) (y:s.heap.IsTuple h xs) (B:s.heap.IsTuple i ys) (j:xs[m]?=none∨ys[n]?=none)
  (k:∀l,(∀c o,c≠z->c≠TO->c≠f->c≠g->s.heap.get? c=some o->l.get? c=some o)->Q none { s with heap:=l }):wpAny (model prog w) A (pyNext (.ref z)) Q E s:=by
 have q:s.TypeIs (.ref z) "zip":=⟨_,p,rfl⟩;unfold pyNext;refine am (rC (mh (name:=mf "__next__") q yJ
  (q0 yJ q F.entry_zip_next (GX r D p t u v x y B j fun l e kp C=>?_) (F.args_zip_next_1 _))))
 obtain⟨o,G,H⟩:=C;refine am (AI (T:="StopIteration") (b:=true) ⟨o,G,H⟩ isSubtype_stop ?_);exact aQ (k _ kp)
end
abbrev MI(h:Heap)(l1:Addr):Heap:=h.push { cls:=.type "tuple_iterator",data:=.fields #[.ref l1,.int 0 0] }
abbrev MH(h:Heap)(l1 l2:Addr):Heap:=(MI h l1).push { cls:=.type "tuple_iterator",data:=.fields #[.ref l2,.int 0 0] }
abbrev MF(h:Heap)(l1 l2:Addr):Heap:=(MH h l1 l2).push { cls:=.type "tuple",data:=.seq #[.ref h.objs.size,.ref (MI h l1).objs.size] }
abbrev ME(h:Heap)(l1 l2:Addr):Heap:=(MF h l1 l2).push { cls:=.type "tuple",data:=.seq #[.none,.none] }
abbrev LV(h:Heap)(l1 l2:Addr):Heap:=(ME h l1 l2).push { cls:=.type "zip",data:=.fields #[.none,.bool false,.bool false,.ref (MH h l1 l2).objs.size,.ref (MF h l1 l2).objs.size] }
theorem Dd(l1 l2:Addr)(a e:Array Value):
  Meets (dD.«zip.__new__» ⟨[.type "zip",.ref l1,.ref l2],[]⟩) (fun _ R s=>s.heap.IsTuple l1 a/\s.heap.IsTuple l2 e /\
   R (.ok (.ret (.ref (ME s.heap l1 l2).objs.size))) { s with heap:=LV s.heap l1 l2 }) :=
 .of_wp fun f w A R s h=>by
  obtain⟨i,g,d,tk,os⟩:=s;obtain⟨k,l,h⟩:=h;have j:=sub_zip;have m:Heap.IsTuple (Shared.heap ⟨i,g,d,tk,os⟩) l1 a:=k;have n:Heap.IsTuple (Shared.heap ⟨i.push { cls:=.type "tuple_iterator",data:=.fields #[.ref l1,.int 0 0] },g,d,tk,os⟩) l2 e:=Heap.IsTuple.push l _
  wp_walk using DZ m,DZ n
  exact⟨_,rfl,h⟩
section
variable{prog:bR}{w:World}{A:Around}{E:Zc}{s:Shared}
theorem Gu{a e:Addr}{xs ys:Array Value}{Q:Zc}(r:s.heap.IsTuple a xs)(t:s.heap.IsTuple e ys)
  (k:∀f,IsZip f (s.heap.objs.size+4) (s.heap.objs.size+2) (s.heap.objs.size+3) .none->IsPair f (s.heap.objs.size+2) (.ref s.heap.objs.size) (.ref (s.heap.objs.size+1)) ->
   IsPair f (s.heap.objs.size+3) .none .none->f.IsTupleIter s.heap.objs.size a 0->f.IsTupleIter (s.heap.objs.size+1) e 0->(∀c o,s.heap.get? c=some o->f.get? c=some o)->Q (.ref (s.heap.objs.size+4)) { s with heap:=f }) :
  wpAny (model prog w) A (call (.type "zip") [.ref a,.ref e]) Q E s:=by
 refine callType_new F.called_zip (by decide) (F.typeCall_zip_2 _ _) (F.newCall_zip_2 _ _) (fun g=>F.args_object_init_3 g _ _) F.entry_zip_new
  (Dd a e xs ys) ⟨r,t,?_⟩
 have h:(MI s.heap a).objs.size=s.heap.objs.size+1:=pM ..;have i:(MH s.heap a e).objs.size=s.heap.objs.size+2:=by rw[pM,h]
 have j:(MF s.heap a e).objs.size=s.heap.objs.size+3:=by rw[pM,i]
 have m:(ME s.heap a e).objs.size=s.heap.objs.size+4:=by rw[pM,j]
 have l:(LV s.heap a e).get? (ME s.heap a e).objs.size=some _:=de _ rfl;have n:(LV s.heap a e).get? (MF s.heap a e).objs.size=some _:=bt _ (de _ rfl);have p:(LV s.heap a e).get? (MH s.heap a e).objs.size=some _:=bt _ (bt _ (de _ rfl));have q:(LV s.heap a e).get? (MI s.heap a).objs.size=some _:=bt _ (bt _ (bt _ (de _ rfl)));have u:(LV s.heap a e).get? s.heap.objs.size=some _:=bt _ (bt _ (bt _ (bt _ (de _ rfl))));show _/\_;rw[i,j,m]at l;rw[h,i]at p;rw[j]at n;rw[h]at q;rw[m];exact⟨⟨_,l,rfl⟩,k _ l p n ⟨_,u,rfl,rfl⟩ ⟨_,q,rfl,rfl⟩ fun c o x =>
  bt _ (bt _ (bt _ (bt _ (bt _ x))))⟩
end
def KL(K:Za)(a b:Addr):It :=
  ⟨fun i H=>∃xs ys x y,br K H a xs/\br K H b ys/\xs[i]?=some x/\ys[i]?=some y,
   fun i H x H'=>∃p u v,x=.ref p/\H p=none/\(∀xs,br K H a xs->xs[i]?=some u)/\(∀ys,br K H b ys->ys[i]?=some v)/\H'=upd H p (.tup [u,v]),
   fun i H=>∃xs ys,br K H a xs/\br K H b ys/\(xs.length<=i∨ys.length<=i)⟩
theorem Fb{P:bR}{w:World}{K:Za}{es:List Expr}{kx:Nat}{J6:Pos}(a b z TI TO t A:Addr)(D:rH z TI TO t A a b):
  tX P w K (.Tuple es kx J6) (KL K a b) [z,TI,TO,t,A] z (fun i h=>IsZip h z TI TO .none/\IsPair h TI (.ref t) (.ref A)/\(∃a b,IsPair h TO a b)/\h.IsTupleIter t a i/\h.IsTupleIter A b i) where
 mem:=by simp
 obj:=fun i h st c f=>by
  obtain⟨p,j,⟨u,v,l⟩,M,N⟩:=st;simp only[dC,mj,or_false]at f;rcases f with rfl|rfl|rfl|rfl|rfl
  ·exact⟨_,p,fun v z=>by cases z⟩
  ·exact⟨_,j,fun v z=>by cases z⟩
  ·exact⟨_,l,fun v z=>by cases z⟩
  ·obtain⟨o,e,c,d⟩:=M;exact⟨o,e,fun v z=>by rw[d]at z;cases z⟩
  ·obtain⟨o,e,c,d⟩:=N;exact⟨o,e,fun v z=>by rw[d]at z;cases z⟩
 keep:=fun i h O st k=>by
  obtain⟨p,j,⟨u,v,l⟩,⟨o1,e1,r1⟩,⟨o2,e2,r2⟩⟩:=st;exact⟨k z (by simp) _ p,k TI (by simp) _ j,⟨u,v,k TO (by simp) _ l⟩,⟨o1,k t (by simp) o1 e1,r1⟩,⟨o2,k A (by simp) o2 e2,r2⟩⟩
 item:=by
  intro X hP hw hK f i J3 s σ H E I hf st hg;subst hP hw hK;obtain⟨p,j,⟨u0,v0,l⟩,M,N⟩:=st;obtain⟨xs,ys,x,y,C,G,hx,hy⟩:=hg;obtain⟨J,rx,px,zx⟩:=I.tuple C;obtain⟨L,ry,py,zy⟩:=I.tuple G;obtain⟨u,hu,ru⟩:=rx.get hx;obtain⟨v,hv,rv⟩:=ry.get hy;refine wP D p j l M N (xs:=J.toArray) (ys:=L.toArray) px py (x:=u) (y:=v) (by simpa using hu) (by simpa using hv) fun O a1 a2 a3 a4 a5 a6 hk=>?_;refine⟨_,rfl,wpAny_letOwnedTupleGo_zip (s:={ s with heap:=O }) a1 fun B as aC=>?_⟩;have g:iN z O B:=aC;have Q:s.heap.objs.size≠z:=i_ (bg p);have T:s.heap.objs.size≠TO:=i_ (bg l);have U:s.heap.objs.size≠TI:=i_ (bg j);have Y:s.heap.objs.size≠t:=by obtain⟨o,ho,_⟩:=M;exact i_ (bg ho)
  have al:s.heap.objs.size≠A:=by obtain⟨o,ho,_⟩:=N;exact i_ (bg ho)
  have an:IsPair B s.heap.objs.size u v:=g.extBut _ _ Q a5;have I2:Inv X J3 σ (upd H s.heap.objs.size (.tup [x,y])) { s with heap:=B,toks:=s.toks }:=by
   refine I.turnedNew (ch:=[z,TI,TO,t,A]) hf (fun c o f q=>?_) ⟨_,an⟩ (fun _ z=>nomatch z) ⟨by show 2<=ak;decide,[u,v],.cons ru (.cons rv .nil),⟨_,an,rfl,_,rfl⟩⟩;have n1:c≠z:=fun q=>f (by simp[q]);exact g.extBut _ _ n1 (hk c o n1 (fun q=>f (by simp[q])) (fun q=>f (by simp[q])) (fun q=>f (by simp[q])) q)
  have a0:B.IsTupleIter t a (i+1):=by obtain⟨o,e,r⟩:=a3;exact⟨o,g.extBut _ _ D.i1z e,r⟩
  have a7:B.IsTupleIter A b (i+1):=by obtain⟨o,e,r⟩:=a4;exact⟨o,g.extBut _ _ D.i2z e,r⟩
  refine⟨.ref s.heap.objs.size,_,I2,rfl,⟨_,x,y,rfl,I.fresh,fun zs p=>by rw[I.tuple_inj p C];exact hx,fun zs p=>by rw[I.tuple_inj p G];exact hy,rfl⟩,⟨as,g.extBut _ _ D.TIz (hk _ _ D.TIz D.TITO D.TIi1 D.TIi2 j),⟨_,_,g.extBut _ _ D.TOz a2⟩,a0,a7⟩,fun c f=>?_⟩;have a8:=(hf c f).1;simp only[dC,mj,or_false]at f;have ne:c≠s.heap.objs.size:=by
   rcases f with rfl|rfl|rfl|rfl|rfl
   ·exact Q.symm
   ·exact U.symm
   ·exact T.symm
   ·exact Y.symm
   ·exact al.symm
  rw[aj ne];exact a8
 done:=by
  intro X hP hw hK f i J3 s σ H E I hf st hg;subst hP hw hK;obtain⟨p,j,⟨u0,v0,l⟩,M,N⟩:=st;obtain⟨xs,ys,C,G,ap⟩:=hg;obtain⟨J,rx,px,zx⟩:=I.tuple C;obtain⟨L,ry,py,zy⟩:=I.tuple G;have lx:=rx.length;have ly:=ry.length;refine zS (I.ok.hd f) D p j l M N (xs:=J.toArray) (ys:=L.toArray) px py (by rcases ap with q|q;exact .inl (by simp;omega);exact .inr (by simp;omega)) fun O hk=>⟨rfl,?_⟩;have tr:∀c q,H c=some q->c∉[z,TI,TO,t,A]:=fun c q e m=>by rw[(hf c m).1]at e;cases e
  have kk:∀c o,c∉[z,TI,TO,t,A]->s.heap.get? c=some o->O.get? c=some o:=fun c o f q=>hk c o (fun q=>f (by simp[q])) (fun q=>f (by simp[q])) (fun q=>f (by simp[q])) (fun q=>f (by simp[q])) q;refine I.step (g':=s.gens) (d':=s.drawn) (t':=s.toks) (ch:=[z,TI,TO,t,A]) (fun c f=>?_) (fun c o _ _ f e _=>kk c o f e) (fun c o _ _ f e _=>⟨o.slots,kk c o f e⟩) (fun _ _ _ _ n=>n) (fun c o f e=>⟨o,kk c o f e⟩) (fun _ _ e=>e) (fun _ _ _ e=>e) (fun c ps e=>⟨#[],by rw[e];simp⟩) (fun m hm=>?_) (fun c q e=>?_) I.bare
  ·obtain⟨f0,f1,f2,f3,f4,f5⟩:=hf c f;exact⟨f3,f1,f4,f5⟩
  ·obtain⟨q,a9,ep,ho,r⟩:=hm;exact⟨q,a9,ep,kk _ q (fun z=>(hf _ z).2.1 rfl) ho,r⟩
  ·refine(I.hok c q e).stay (fun d v hd q'=>kk d v ?_ q') (fun _ q=>q) fun _ _ q=>q;rcases hd with z|z
   ·subst z;exact tr _ _ e
   ·exact tr _ _ z
 self:=fun _ _ _ _ _ st h=>yO st.1 h
section
variable{X:Cx}{p pos:Pos}{es:List Expr}{kx:Nat}{J6:Pos}
def K3(K:Za)(ta:TA):TI:=fun σ H R=>ta σ H fun vs H1=>∃a b,vs=[.ref a,.ref b]/\(((∃xs,ay K H1 a xs)/\(∃ys,ay K H1 b ys)/\R (MU K a b) H1)∨((∃xs,br K H1 a xs)/\(∃ys,br K H1 b ys)/\R (KL K a b) H1))
theorem J7{a b:Expr}{J:TA}(O:Gl X "zip")(Q:X.mg "zip"=none)(T:PA X [a,b] J)(U:a_ [a,b] X.env=[(false,eval a X.env),(false,eval b X.env)]:=by rfl)(j:a_ [b] X.env=[(false,eval b X.env)]:=by rfl):
  PI X (.Tuple es kx J6) (.Call (.Name "zip" p) [a,b] [] pos) (K3 X.K J):=by
 intro x s σ H R I h;refine Call_ (o6 I O Q boot_zip (AH (du (T pos x s σ H _ I h) fun us s1 y=>?_) (by rw[U,j]) (by rw[j];rfl)));obtain⟨vs,k,f,Y,q1⟩:=y;obtain⟨L,M,e,q⟩:=q1;subst e;obtain⟨u,v,rfl,ru,rv⟩:=vals2 Y;cases ru;cases rv;have l:∀b∈[s1.heap.objs.size+4,s1.heap.objs.size+2,s1.heap.objs.size+3,s1.heap.objs.size,s1.heap.objs.size+1],pE X x k b:=fun b N=>by
  have m:s1.heap.objs.size<=b:=by
   simp only[dC,mj,or_false]at N;rcases N with rfl|rfl|rfl|rfl|rfl<;>omega
  exact f.fpOk m (f.hok.fresh m)
 rcases q with⟨⟨xs,hx⟩,⟨ys,z⟩,q⟩|⟨⟨xs,hx⟩,⟨ys,z⟩,q⟩
 ·obtain⟨n,rx,r,zx⟩:=f.list hx;obtain⟨t,ry,w,zy⟩:=f.list z;obtain⟨o1,n1,A,_⟩:=id r;obtain⟨o2,n2,B,_⟩:=id w;refine call_zip_2 r.isList w.isList fun g a1 a2 a3 C D a6 E=>?_;refine yO (s:={ s1 with heap:=g }) a1 ?_;have i:∀b o,s1.heap.get? b=some o->g.get? b=some o:=E;have G:Inv X x σ k { s1 with heap:=g }:=f.kept (t':=s1.toks) i;exact⟨_,_,_,_,k,rfl,G,Hd L M _ _ _ _ _ (zipApart_new (bg A) (bg B)),⟨a1,a2,⟨_,_,a3⟩,C,D⟩,l,q⟩
 ·obtain⟨n,rx,r,zx⟩:=f.tuple hx;obtain⟨t,ry,w,zy⟩:=f.tuple z;obtain⟨o1,A,_⟩:=id r;obtain⟨o2,B,_⟩:=id w;refine Gu (xs:=n.toArray) (ys:=t.toArray) r w fun g a1 a2 a3 C D E=>?_;refine yO (s:={ s1 with heap:=g }) a1 ?_;have i:∀b o,s1.heap.get? b=some o->g.get? b=some o:=E;have G:Inv X x σ k { s1 with heap:=g }:=f.kept (t':=s1.toks) i;exact⟨_,_,_,_,k,rfl,G,Fb L M _ _ _ _ _ (zipApart_new (bg A) (bg B)),⟨a1,a2,⟨_,_,a3⟩,C,D⟩,l,q⟩
end
inductive DT where
 |k (a:cX)
 |t (l:List DT)
 |s (l:List DT)
mutual
def Lc:(x y:DT)->Decidable (x=y)
 |.k a,.k b=>if h:a=b then Decidable.isTrue (by rw[h])else Decidable.isFalse fun e=>h (by injection e)
 |.t l,.t m=>match decDTs l m with
  |Decidable.isTrue h=>Decidable.isTrue (by rw[h])
  |Decidable.isFalse h=>Decidable.isFalse fun e=>h (by injection e)
 |.s l,.s m=>match decDTs l m with
  |Decidable.isTrue h=>Decidable.isTrue (by rw[h])
  |Decidable.isFalse h=>Decidable.isFalse fun e=>h (by injection e)
 |.k _,.t _=>Decidable.isFalse nofun
 |.k _,.s _=>Decidable.isFalse nofun
 |.t _,.k _=>Decidable.isFalse nofun
 |.t _,.s _=>Decidable.isFalse nofun
 |.s _,.k _=>Decidable.isFalse nofun
 |.s _,.t _=>Decidable.isFalse nofun
def decDTs:(x y:List DT)->Decidable (x=y)
 |[],[]=>Decidable.isTrue rfl
 |[],_::_=>Decidable.isFalse nofun
 |_::_,[]=>Decidable.isFalse nofun
 |a::l,b::m=>match Lc a b with
  |Decidable.isTrue h=>match decDTs l m with
   |Decidable.isTrue h'=>Decidable.isTrue (by rw[h,h'])
   |Decidable.isFalse h'=>Decidable.isFalse fun e=>h' (by injection e)
  |Decidable.isFalse h=>Decidable.isFalse fun e=>h (by injection e)
end
instance:DecidableEq DT:=Lc
mutual
def DT.depth:DT->Nat
 |.k _=>0
 |.t l=>DT.depths l+1
 |.s l=>DT.depths l+1
def DT.depths:List DT->Nat
 |[]=>0
 |a::r=>max (DT.depth a) (DT.depths r)
end
mutual
def uA(h:Heap):DT->Value->Prop
 |.k a,v=>dY a v=true
 |.t l,v=>∃a items,v=.ref a/\h.IsTuple a items/\DAts h l items.toList
 |.s l,v=>∃a items,v=.ref a/\h.IsList a items/\DAts h l items.toList
def DAts(h:Heap):List DT->List Value->Prop
 |[],vs=>vs=[]
 |k::r,vs=>∃v us,vs=v::us/\uA h k v/\DAts h r us
end
theorem DAts.length{h:Heap}:∀{f:List DT}{a:Zf},DAts h f a->f.length=a.length
 |[],a,e=>by have g:a=[]:=e;rw[g];rfl
 |x::f,a,e=>by
  obtain⟨v,j,rfl,_,i⟩:=e;simp[DAts.length i]
theorem DAts.get{h:Heap}:∀{f:List DT}{a:Zf}{i:Nat}{v:Value},DAts h f a->a[i]?=some v->∃x,f[i]?=some x/\uA h x v
 |[],a,i,v,e,q=>by have g:a=[]:=e;subst g;simp at q
 |x::f,a,i,v,e,q=>by
  obtain⟨u,n,rfl,j,k⟩:=e;cases i with
  |zero =>
   simp at q;subst q;exact⟨x,rfl,j⟩
  |succ i =>
   obtain⟨y,l,m⟩:=DAts.get k (i:=i) (v:=v) (by simpa using q);exact⟨y,by simpa using l,m⟩
theorem DT.depths_get{l:List DT}{x:DT}{i d:Nat}(h:DT.depths l<=d)(e:l[i]?=some x):x.depth<=d:=by
 induction l generalizing i with
 |nil=>simp at e
 |cons a r f =>
  have g:max a.depth (DT.depths r)<=d:=h;cases i with
  |zero=>simp at e;subst e;omega
  |succ i=>exact f (by omega) (by simpa using e)
theorem Dk{h:Heap}{a:Addr}{i j:Array Value}(x:h.IsList a i)(y:h.IsList a j):i=j:=by
 obtain⟨o,g,_,n,k⟩:=x;obtain⟨l,e,_,m,f⟩:=y;rw[g]at e;cases e;rw[k]at f;injection f
theorem BB{h:Heap}{a:Addr}{i j:Array Value}(x:h.IsTuple a i)(y:h.IsTuple a j):i=j:=by
 obtain⟨o,g,_,n,k⟩:=x;obtain⟨l,e,_,m,f⟩:=y;rw[g]at e;cases e;rw[k]at f;injection f
theorem kO{h:Heap}{a:Addr}{i j:Array Value}(x:h.IsList a i)(y:h.IsTuple a j):False:=by
 obtain⟨o,g,k,_⟩:=x;obtain⟨l,e,f,_⟩:=y;rw[g]at e;cases e;rw[k]at f;simp at f
theorem xC{a b:cX}{v:Value}(g:dY a v=true)(f:dY b v=true):a=b:=by
 rcases aH g with⟨i,t,rfl,rfl⟩|⟨i,t,rfl,rfl⟩
 ·rcases aH f with⟨j,u,rfl,e⟩|⟨j,u,rfl,e⟩
  ·cases e;rfl
  ·cases e
 ·rcases aH f with⟨j,u,rfl,e⟩|⟨j,u,rfl,e⟩
  ·cases e
  ·cases e;rfl
theorem js{a:cX}{b:Addr}(h:dY a (.ref b)=true):False:=by
 rcases aH h with⟨_,_,_,e⟩|⟨_,_,_,e⟩<;>cases e
theorem uA.inj{h:Heap}:∀(d:Nat) {x y:DT}{v:Value},x.depth<=d->uA h x v->uA h y v->x=y:=by
 have q:∀(d:Nat) (r:∀{x y:DT}{v:Value},x.depth<=d->uA h x v->uA h y v->x=y) (n g:List DT) (u:Zf),DT.depths n<=d->DAts h n u->DAts h g u->n=g:=by
  intro d r n
  induction n with
  |nil =>
   intro g u _ hx f;have w:u=[]:=hx;subst w;cases g with
   |nil=>rfl
   |cons y g=>obtain⟨_,_,e,_⟩:=f;cases e
  |cons x n z =>
   intro g u o hx f;obtain⟨v,I,rfl,A,B⟩:=hx;cases g with
   |nil=>have C:v::I=[]:=f;cases C
   |cons y g =>
    obtain⟨M,J,e,D,E⟩:=f;cases e;have L:max x.depth (DT.depths n)<=d:=o;rw[r (by omega) A D,z g I (by omega) B E]
 intro d
 induction d with
 |zero =>
  intro x y v o hx f;cases x with
  |t l=>exact absurd o (by show ¬(DT.depths l+1<=0);omega)
  |s l=>exact absurd o (by show ¬(DT.depths l+1<=0);omega)
  |k a =>
   cases y with
   |k b=>rw[xC hx f]
   |t l=>obtain⟨b,_,rfl,_⟩:=f;exact(js hx).elim
   |s l=>obtain⟨b,_,rfl,_⟩:=f;exact(js hx).elim
 |succ d r =>
  intro x y v o hx f;cases x with
  |k a =>
   cases y with
   |k b=>rw[xC hx f]
   |t l=>obtain⟨b,_,rfl,_⟩:=f;exact(js hx).elim
   |s l=>obtain⟨b,_,rfl,_⟩:=f;exact(js hx).elim
  |t l =>
   obtain⟨a,i,rfl,hi,hx⟩:=hx;cases y with
   |k b=>exact(js f).elim
   |t m =>
    obtain⟨G,j,e,p,f⟩:=f;cases e;rw[BB p hi]at f;rw[q d (fun H=>r H) l m i.toList (by have:DT.depths l+1<=d+1:=o;omega) hx f]
   |s m =>
    obtain⟨G,j,e,p,f⟩:=f;cases e;exact(kO p hi).elim
  |s l =>
   obtain⟨a,i,rfl,hi,hx⟩:=hx;cases y with
   |k b=>exact(js f).elim
   |s m =>
    obtain⟨G,j,e,p,f⟩:=f;cases e;rw[Dk p hi]at f;rw[q d (fun H=>r H) l m i.toList (by have:DT.depths l+1<=d+1:=o;omega) hx f]
   |t m =>
    obtain⟨G,j,e,p,f⟩:=f;cases e;exact(kO hi p).elim
theorem g6{l m:List DT}(f:l.length=m.length):((nT l.length).all fun j=>decide (l[j]?=m[j]?))=decide (l=m):=by
 by_cases e:l=m
 ·subst e;simp
 ·rw[zzr0 e];rw[List.all_eq_false];apply yI;intro h;apply e;apply List.ext_getElem?;intro i;by_cases hi:i<l.length
  ·apply yI;intro a;exact h ⟨i,List.mem_range.mpr hi,by simpa using a⟩
  ·rw[List.getElem?_eq_none (by omega),List.getElem?_eq_none (by omega)]
section
variable{s:Shared}
theorem K8:∀(d:Nat) {A:Around}{x y:DT}{u v:Value},y.depth<=d->A.units+d<cLine->uA s.heap x u->uA s.heap y v->bH A s u v (decide (x=y)):=by
 have leaves:∀{A:Around}{a b:cX}{u v:Value},dY a u=true->dY b v=true->bH A s u v (decide (DT.k a=DT.k b)):=by
  intro A a b u v B G;have J:decide (DT.k a=DT.k b)=decide (a=b):=by
   by_cases e:a=b
   ·subst e;simp
   ·have:¬(DT.k a=DT.k b):=fun z=>e (by injection z);rw[zzr0 this,zzr0 e]
  rw[J];rcases aH B with⟨i,t,rfl,rfl⟩|⟨i,t,rfl,rfl⟩
  ·rcases aH G with⟨j,u,rfl,rfl⟩|⟨j,u,rfl,rfl⟩
   ·rw[z9];exact bH.int_int i t j u
   ·rw[z7];exact bH.int_str i t j u
  ·rcases aH G with⟨j,u,rfl,rfl⟩|⟨j,u,rfl,rfl⟩
   ·rw[zY];exact bH.str_int i t j u
   ·rw[zX];have:=bH.str_str (A:=A) (s:=s) i t j u;rwa[show(i==j)=decide (i=j)from by by_cases e:i=j<;>simp[e]]at this
 have kt:∀{A:Around}{a:cX}{u:Value}{b:Addr}{items:Array Value},A.units<cLine->dY a u=true->s.heap.IsTuple b items->bH A s u (.ref b) false/\bH A s (.ref b) u false:=by
  intro A a u b items h B w;rcases aH B with⟨i,t,rfl,rfl⟩|⟨i,t,rfl,rfl⟩
  ·exact⟨bH.int_tuple i t w h,bH.tuple_int i t w h⟩
  ·exact⟨bH.str_tuple i t w h,bH.tuple_str i t w h⟩
 have L:∀{A:Around}{a:cX}{u:Value}{b:Addr}{items:Array Value},A.units<cLine->dY a u=true->s.heap.IsList b items->bH A s u (.ref b) false/\bH A s (.ref b) u false:=by
  intro A a u b items h B w;rcases aH B with⟨i,t,rfl,rfl⟩|⟨i,t,rfl,rfl⟩
  ·exact⟨bH.int_list i t w h,bH.list_int i t w h⟩
  ·exact⟨bH.str_list i t w h,bH.list_str i t w h⟩
 intro d
 induction d with
 |zero =>
  intro A x y u v o h hx f;cases y with
  |t l=>exact absurd o (by show ¬(DT.depths l+1<=0);omega)
  |s l=>exact absurd o (by show ¬(DT.depths l+1<=0);omega)
  |k b =>
   cases x with
   |t l =>
    obtain⟨a,i,rfl,hi,_⟩:=hx;rw[zzr0 (by intro z;cases z)];exact(kt (by omega) f hi).2
   |s l =>
    obtain⟨a,i,rfl,hi,_⟩:=hx;rw[zzr0 (by intro z;cases z)];exact(L (by omega) f hi).2
   |k a=>exact leaves hx f
 |succ d Q =>
  intro A x y u v o h hx f;have items:∀{l m:List DT}{i j:Array Value},DT.depths m<=d->DAts s.heap l i.toList->DAts s.heap m j.toList->∀n (B:n<i.size) (G:n<j.size),bH A.in1 s i[n] j[n] (decide (l[n]?=m[n]?)):=by
   intro l m i j H hi p n B G;obtain⟨x,ex,hx⟩:=hi.get (i:=n) (v:=i[n]) (by simp[B]);obtain⟨y,O,f⟩:=p.get (i:=n) (v:=j[n]) (by simp[G]);rw[ex,O];have J:decide ((some x:Option DT)=some y)=decide (x=y):=by
    by_cases e:x=y
    ·subst e;simp
    ·rw[zzr0 e,zzr0 fun z=>e (fW z)]
   rw[J];exact Q (DT.depths_get H O) (by show A.units+1+d<cLine;omega) hx f
  cases x with
  |k a =>
   cases y with
   |k b=>exact leaves hx f
   |t l =>
    obtain⟨b,i,rfl,hi,_⟩:=f;rw[zzr0 (by intro z;cases z)];exact(kt (by omega) hx hi).1
   |s l =>
    obtain⟨b,i,rfl,hi,_⟩:=f;rw[zzr0 (by intro z;cases z)];exact(L (by omega) hx hi).1
  |t l =>
   have C:=hx;obtain⟨a,i,rfl,hi,hx⟩:=hx;cases y with
   |k b =>
    rw[zzr0 (by intro z;cases z)];exact(kt (by omega) f hi).2
   |s m =>
    obtain⟨b,j,rfl,p,_⟩:=f;rw[zzr0 (by intro z;cases z)];exact bH.tuple_list hi p (by omega)
   |t m =>
    have H:DT.depths m<=d:=by have:DT.depths m+1<=d+1:=o;omega
    have D:=f;obtain⟨b,j,rfl,p,f⟩:=f;by_cases g:a=b
    ·subst g;have e:DT.t l=DT.t m:=uA.inj _ (aR _) C D;rw[zzr1 e];exact bH.same _
    ·have r:=SeqAt.RcAt.tuples (A:=A) hi p (by omega) (items H hx f);have I:=hx.length;have M:=f.length;simp only[md]at I M;have q:((nT (min i.size j.size)).all (fun n=>decide (l[n]?=m[n]?)) && i.size==j.size)=decide (DT.t l=DT.t m):=by
      by_cases e:l.length=m.length
      ·have N:i.size=j.size:=by omega
       rw[<-N,Nat.min_self,<-I,g6 e];by_cases E:l=m
       ·subst E;simp
       ·have:¬(DT.t l=DT.t m):=fun z=>E (by injection z);rw[zzr0 this,zzr0 E];rfl
      ·have N:(i.size==j.size)=false:=by simp;omega
       have:¬(DT.t l=DT.t m):=fun z=>e (by injection z with z;rw[z]);rw[N,zzr0 this,yU]
     rw[q]at r;exact .of_refs g r
  |s l =>
   have C:=hx;obtain⟨a,i,rfl,hi,hx⟩:=hx;cases y with
   |k b =>
    rw[zzr0 (by intro z;cases z)];exact(L (by omega) f hi).2
   |t m =>
    obtain⟨b,j,rfl,p,_⟩:=f;rw[zzr0 (by intro z;cases z)];exact bH.list_tuple hi p (by omega)
   |s m =>
    have H:DT.depths m<=d:=by have:DT.depths m+1<=d+1:=o;omega
    have D:=f;obtain⟨b,j,rfl,p,f⟩:=f;by_cases g:a=b
    ·subst g;have e:DT.s l=DT.s m:=uA.inj _ (aR _) C D;rw[zzr1 e];exact bH.same _
    ·have I:=hx.length;have M:=f.length;simp only[md]at I M;by_cases e:l.length=m.length
     ·have r:=SeqAt.RcAt.lists (A:=A) hi p (by omega) (by omega) (items H hx f);rw[<-I,g6 e]at r;have q:decide (l=m)=decide (DT.s l=DT.s m):=by
       by_cases E:l=m
       ·subst E;simp
       ·have:¬(DT.s l=DT.s m):=fun z=>E (by injection z);rw[zzr0 this,zzr0 E]
      rw[q]at r;exact .of_refs g r
     ·have:¬(DT.s l=DT.s m):=fun z=>e (by injection z with z;rw[z]);rw[zzr0 this];exact .of_refs g (SeqAt.RcAt.lists_lengths hi p (by simp;omega) (by omega))
end
theorem EK(a b:cX):decide (DT.k a=DT.k b)=decide (a=b):=by
 by_cases e:a=b
 ·subst e;simp
 ·rw[zzr0 e,zzr0 fun z=>e (by injection z)]
theorem K_(l m:List DT):decide (DT.t l=DT.t m)=decide (l=m):=by
 by_cases e:l=m
 ·subst e;simp
 ·rw[zzr0 e,zzr0 fun z=>e (by injection z)]
theorem La(l m:List DT):decide (DT.s l=DT.s m)=decide (l=m):=by
 by_cases e:l=m
 ·subst e;simp
 ·rw[zzr0 e,zzr0 fun z=>e (by injection z)]
theorem IQ(x y:DT):decide ((some x:Option DT)=some y)=decide (x=y):=by
 by_cases e:x=y
 ·subst e;simp
 ·rw[zzr0 e,zzr0 fun z=>e (fW z)]
section
variable{A:Around}{s:Shared}
theorem qR{d:Nat}(g:A.units+1+d<cLine){l m:List DT}{i j:Array Value}(h:DT.depths m<=d)(hi:DAts s.heap l i.toList)(k:DAts s.heap m j.toList):
  ∀n (a:n<i.size) (e:n<j.size),bH A.in1 s i[n] j[n] (decide (l[n]?=m[n]?)):=by
 intro n a e;obtain⟨x,ex,hx⟩:=hi.get (i:=n) (v:=i[n]) (by simp[a]);obtain⟨y,f,o⟩:=k.get (i:=n) (v:=j[n]) (by simp[e]);rw[ex,f,IQ];exact K8 d (DT.depths_get h f) g hx o
theorem Ee{l m:List DT}{i j:Array Value}(hi:DAts s.heap l i.toList)(g:DAts s.heap m j.toList):((nT (min i.size j.size)).all (fun n=>decide (l[n]?=m[n]?)) && i.size==j.size)=decide (l=m):=by
 have f:=hi.length;have h:=g.length;simp only[md]at f h;by_cases e:l.length=m.length
 ·have a:i.size=j.size:=by omega
  rw[<-a,Nat.min_self,<-f,g6 e];simp
 ·have a:(i.size==j.size)=false:=by simp;omega
  rw[a,zzr0 fun z=>e (by rw[z]),yU]
theorem K5{x y:DT}{u v:Value}(o:y.depth<=14)(w:A.units+16<cLine)(hx:uA s.heap x u)(f:uA s.heap y v):SeqAt.RcAt A s u v (decide (x=y)):=by
 cases x with
 |k a =>
  rcases aH (show dY a u=true from hx)with⟨i,t,rfl,rfl⟩|⟨i,t,rfl,rfl⟩
  ·cases y with
   |k b =>
    rw[EK];rcases aH (show dY b v=true from f)with⟨j,h,rfl,rfl⟩|⟨j,h,rfl,rfl⟩
    ·rw[z9];exact SeqAt.RcAt.int_int i t j h
    ·rw[z7];exact SeqAt.RcAt.int_str i t j h
   |t m=>obtain⟨b,j,rfl,g,_⟩:=f;rw[zzr0 (by intro z;cases z)];exact SeqAt.RcAt.int_tuple i t g (by omega)
   |s m=>obtain⟨b,j,rfl,g,_⟩:=f;rw[zzr0 (by intro z;cases z)];exact SeqAt.RcAt.int_list i t g (by omega)
  ·cases y with
   |k b =>
    rw[EK];rcases aH (show dY b v=true from f)with⟨j,h,rfl,rfl⟩|⟨j,h,rfl,rfl⟩
    ·rw[zY];exact SeqAt.RcAt.str_int i t j h
    ·rw[zX];have:=SeqAt.RcAt.str_str (A:=A) (s:=s) i t j h;rwa[show(i==j)=decide (i=j)from by by_cases e:i=j<;>simp[e]]at this
   |t m=>obtain⟨b,j,rfl,g,_⟩:=f;rw[zzr0 (by intro z;cases z)];exact SeqAt.RcAt.str_tuple i t g (by omega)
   |s m=>obtain⟨b,j,rfl,g,_⟩:=f;rw[zzr0 (by intro z;cases z)];exact SeqAt.RcAt.str_list i t g (by omega)
 |t l =>
  obtain⟨a,i,rfl,hi,hx⟩:=hx;cases y with
  |k b =>
   rw[zzr0 (by intro z;cases z)];rcases aH (show dY b v=true from f)with⟨j,h,rfl,rfl⟩|⟨j,h,rfl,rfl⟩
   ·exact SeqAt.RcAt.tuple_int j h hi (by omega)
   ·exact SeqAt.RcAt.tuple_str j h hi (by omega)
  |t m =>
   obtain⟨b,j,rfl,g,f⟩:=f;have n:DT.depths m<=13:=by have:DT.depths m+1<=14:=o;omega
   have r:=SeqAt.RcAt.tuples (A:=A) hi g (by omega) (qR (by omega) n hx f);rw[Ee hx f]at r;rw[K_];exact r
  |s m=>obtain⟨b,j,rfl,g,_⟩:=f;rw[zzr0 (by intro z;cases z)];exact SeqAt.RcAt.tuple_list hi g (by omega)
 |s l =>
  obtain⟨a,i,rfl,hi,hx⟩:=hx;cases y with
  |k b =>
   rw[zzr0 (by intro z;cases z)];rcases aH (show dY b v=true from f)with⟨j,h,rfl,rfl⟩|⟨j,h,rfl,rfl⟩
   ·exact SeqAt.RcAt.list_int j h hi (by omega)
   ·exact SeqAt.RcAt.list_str j h hi (by omega)
  |t m=>obtain⟨b,j,rfl,g,_⟩:=f;rw[zzr0 (by intro z;cases z)];exact SeqAt.RcAt.list_tuple hi g (by omega)
  |s m =>
   obtain⟨b,j,rfl,g,f⟩:=f;have n:DT.depths m<=13:=by have:DT.depths m+1<=14:=o;omega
   have p:=hx.length;have q:=f.length;simp only[md]at p q;rw[La];by_cases e:l.length=m.length
   ·have r:=SeqAt.RcAt.lists (A:=A) hi g (by omega) (by omega) (qR (by omega) n hx f);rw[<-p,g6 e]at r;exact r
   ·rw[zzr0 fun z=>e (by rw[z])];exact SeqAt.RcAt.lists_lengths hi g (by simp;omega) (by omega)
theorem K7{x y:DT}{u v:Value}(o:y.depth<=14)(w:A.units+16<cLine)(hx:uA s.heap x u)(f:uA s.heap y v):SeqAt.RcNeAt A s u v (!decide (x=y)):=by
 cases x with
 |k a =>
  rcases aH (show dY a u=true from hx)with⟨i,t,rfl,rfl⟩|⟨i,t,rfl,rfl⟩
  ·cases y with
   |k b =>
    rw[EK];rcases aH (show dY b v=true from f)with⟨j,h,rfl,rfl⟩|⟨j,h,rfl,rfl⟩
    ·rw[z9];exact SeqAt.RcNeAt.int_int i t j h
    ·rw[z7];exact SeqAt.RcNeAt.int_str i t j h
   |t m=>obtain⟨b,j,rfl,g,_⟩:=f;rw[zzr0 (by intro z;cases z)];exact SeqAt.RcNeAt.int_tuple i t g (by omega)
   |s m=>obtain⟨b,j,rfl,g,_⟩:=f;rw[zzr0 (by intro z;cases z)];exact SeqAt.RcNeAt.int_list i t g (by omega)
  ·cases y with
   |k b =>
    rw[EK];rcases aH (show dY b v=true from f)with⟨j,h,rfl,rfl⟩|⟨j,h,rfl,rfl⟩
    ·rw[zY];exact SeqAt.RcNeAt.str_int i t j h
    ·rw[zX];have:=SeqAt.RcNeAt.str_str (A:=A) (s:=s) i t j h;rwa[show(i==j)=decide (i=j)from by by_cases e:i=j<;>simp[e]]at this
   |t m=>obtain⟨b,j,rfl,g,_⟩:=f;rw[zzr0 (by intro z;cases z)];exact SeqAt.RcNeAt.str_tuple i t g (by omega)
   |s m=>obtain⟨b,j,rfl,g,_⟩:=f;rw[zzr0 (by intro z;cases z)];exact SeqAt.RcNeAt.str_list i t g (by omega)
 |t l =>
  obtain⟨a,i,rfl,hi,hx⟩:=hx;cases y with
  |k b =>
   rw[zzr0 (by intro z;cases z)];rcases aH (show dY b v=true from f)with⟨j,h,rfl,rfl⟩|⟨j,h,rfl,rfl⟩
   ·exact SeqAt.RcNeAt.tuple_int j h hi (by omega)
   ·exact SeqAt.RcNeAt.tuple_str j h hi (by omega)
  |t m =>
   obtain⟨b,j,rfl,g,f⟩:=f;have n:DT.depths m<=13:=by have:DT.depths m+1<=14:=o;omega
   have r:=SeqAt.RcNeAt.tuples (A:=A) hi g (by omega) (qR (by omega) n hx f);rw[Ee hx f]at r;rw[K_];exact r
  |s m=>obtain⟨b,j,rfl,g,_⟩:=f;rw[zzr0 (by intro z;cases z)];exact SeqAt.RcNeAt.tuple_list hi g (by omega)
 |s l =>
  obtain⟨a,i,rfl,hi,hx⟩:=hx;cases y with
  |k b =>
   rw[zzr0 (by intro z;cases z)];rcases aH (show dY b v=true from f)with⟨j,h,rfl,rfl⟩|⟨j,h,rfl,rfl⟩
   ·exact SeqAt.RcNeAt.list_int j h hi (by omega)
   ·exact SeqAt.RcNeAt.list_str j h hi (by omega)
  |t m=>obtain⟨b,j,rfl,g,_⟩:=f;rw[zzr0 (by intro z;cases z)];exact SeqAt.RcNeAt.list_tuple hi g (by omega)
  |s m =>
   obtain⟨b,j,rfl,g,f⟩:=f;have n:DT.depths m<=13:=by have:DT.depths m+1<=14:=o;omega
   have p:=hx.length;have q:=f.length;simp only[md]at p q;rw[La];by_cases e:l.length=m.length
   ·have r:=SeqAt.RcNeAt.lists (A:=A) hi g (by omega) (by omega) (qR (by omega) n hx f);rw[<-p,g6 e]at r;exact r
   ·rw[zzr0 fun z=>e (by rw[z])];exact SeqAt.RcNeAt.lists_lengths hi g (by simp;omega) (by omega)
end
mutual
def iK(K:Za)(H:Hp):DT->V->Prop
 |.k a,v=>v=kV a
 |.t l,v=>∃b xs,v=.ref b/\br K H b xs/\DIns K H l xs
 |.s l,v=>∃b xs,v=.ref b/\ay K H b xs/\DIns K H l xs
def DIns(K:Za)(H:Hp):List DT->List V->Prop
 |[],vs=>vs=[]
 |k::r,vs=>∃v us,vs=v::us/\iK K H k v/\DIns K H r us
end
section
variable{X:Cx}{J3:Zd}{σ:St}{H:Hp}{s:Shared}
theorem jL(I:Inv X J3 σ H s):∀(d:Nat) {k:DT}{v:V}{u:Value},k.depth<=d->iK X.K H k v->RelV v u->uA s.heap k u:=by
 have h:∀(d:Nat) (i:∀{k:DT}{v:V}{u:Value},k.depth<=d->iK X.K H k v->RelV v u->uA s.heap k u) (f:List DT) (j:List V) (o:Zf),DT.depths f<=d->DIns X.K H f j->bA j o->DAts s.heap f o:=by
  intro d i f
  induction f with
  |nil =>
   intro j o _ hx r;have e:j=[]:=hx;subst e;cases r
   rfl
  |cons k f p =>
   intro j o g hx r;obtain⟨v,q,rfl,m,B⟩:=hx;cases r with
   |@cons _ u _ n C D =>
    have E:max k.depth (DT.depths f)<=d:=g;exact⟨u,n,rfl,i (by omega) m C,p q n (by omega) B D⟩
 intro d
 induction d with
 |zero =>
  intro k v u g hx r;cases k with
  |t l=>exact absurd g (by show ¬(DT.depths l+1<=0);omega)
  |s l=>exact absurd g (by show ¬(DT.depths l+1<=0);omega)
  |k b =>
   have e:v=kV b:=hx;subst e;exact qM (P:=X.prog) (w:=X.w) r
 |succ d i =>
  intro k v u g hx r;cases k with
  |k b =>
   have e:v=kV b:=hx;subst e;exact qM (P:=X.prog) (w:=X.w) r
  |t l =>
   obtain⟨b,x,rfl,y,hi⟩:=hx;cases(show u=Value.ref b from r);obtain⟨a,z,A,_⟩:=I.tuple y;exact⟨b,a.toArray,rfl,A,by simpa using h d (fun m=>i m) l x a (by have:DT.depths l+1<=d+1:=g;omega) hi z⟩
  |s l =>
   obtain⟨b,x,rfl,y,hi⟩:=hx;cases(show u=Value.ref b from r);obtain⟨a,z,A,_⟩:=I.list y;exact⟨b,a.toArray,rfl,A.isList,by simpa using h d (fun m=>i m) l x a (by have:DT.depths l+1<=d+1:=g;omega) hi z⟩
theorem qT(I:Inv X J3 σ H s):∀{a:List DT}{f:List V}{g:Zf},DT.depths a<=8->DIns X.K H a f->bA f g->DAts s.heap a g
 |[],f,g,_,hx,r=>by
  have e:f=[]:=hx;subst e;cases r
  rfl
 |k::a,f,g,i,hx,r=>by
  obtain⟨v,j,rfl,l,m⟩:=hx;cases r with
  |@cons _ u _ h n o =>
   have p:max k.depth (DT.depths a)<=8:=i;exact⟨u,h,rfl,jL I 8 (by omega) l n,qT I (by omega) m o⟩
end
def kG(K:Za):R2:=fun x y H Q=>∃d e:DT,iK K H d x/\iK K H e y/\d.depth<=8/\e.depth<=8/\Q (.bl (decide (d=e))) H
def tU(K:Za):R2:=fun x y H Q=>∃d e:DT,iK K H d x/\iK K H e y/\d.depth<=8/\e.depth<=8/\Q (.bl (!decide (d=e))) H
section
variable{X:Cx}
theorem gq(f:X.A.units+16<cLine):nZ X (fu .Eq) (kG X.K):=by
 intro l s σ H x y v u Q I g i h;obtain⟨d,e,hx,j,k,a,q⟩:=h;exact K5 (bI a (by decide)) f (jL I 8 k hx g) (jL I 8 a j i) X.prog X.w X.xe _ ⟨.bl _,H,I,rfl,q⟩
theorem mH(f:X.A.units+16<cLine):nZ X (fu .NotEq) (tU X.K):=by
 intro l s σ H x y v u Q I g i h;obtain⟨d,e,hx,j,k,a,q⟩:=h;exact K7 (bI a (by decide)) f (jL I 8 k hx g) (jL I 8 a j i) X.prog X.w X.xe _ ⟨.bl _,H,I,rfl,q⟩
def Lm(K:Za):R2:=fun x y H Q=>∃d e:DT,iK K H d x/\iK K H e y/\d.depth<=40/\e.depth<=14/\Q (.bl (decide (d=e))) H
def HW(K:Za):R2:=fun x y H Q=>∃d e:DT,iK K H d x/\iK K H e y/\d.depth<=40/\e.depth<=14/\Q (.bl (!decide (d=e))) H
theorem Lv(f:X.A.units+16<cLine):nZ X (fu .Eq) (Lm X.K):=by
 intro l s σ H x y v u Q I g i h;obtain⟨d,e,hx,j,k,a,q⟩:=h;exact K5 a f (jL I 40 k hx g) (jL I 14 a j i) X.prog X.w X.xe _ ⟨.bl _,H,I,rfl,q⟩
theorem C_(f:X.A.units+16<cLine):nZ X (fu .NotEq) (HW X.K):=by
 intro l s σ H x y v u Q I g i h;obtain⟨d,e,hx,j,k,a,q⟩:=h;exact K7 a f (jL I 40 k hx g) (jL I 14 a j i) X.prog X.w X.xe _ ⟨.bl _,H,I,rfl,q⟩
def ii(K:Za)(neg:Bool):R2:=fun x y H Q=>∃(d:DT) (ds:List DT) (p:Addr) (xs:List V),iK K H d x/\y=.ref p/\(ay K H p xs∨br K H p xs)/\DIns K H ds xs/\d.depth<=8/\DT.depths ds<=8/\Q (.bl (if neg then !decide (d∈ds)else decide (d∈ds))) H
open Classical in
theorem qV{h:Heap}{d:DT}(g:d.depth<=8):∀{a:List DT}{f:Zf},DAts h a f->DT.depths a<=8->f.any (fun u=>@decide (uA h d u) (propDecidable _))=decide (d∈a)
 |[],f,e,_=>by
  have j:f=[]:=e;subst j
  rfl
 |x::a,f,e,k=>by
  obtain⟨u,l,rfl,i,m⟩:=e;have o:max x.depth (DT.depths a)<=8:=k;rw[mo,qV g m (by omega)];by_cases q:d=x
  ·subst q;simp[i]
  ·have n:¬uA h d u:=fun z=>q (uA.inj 8 g z i);simp[n,q]
open Classical in
theorem vy{A:Around}{s:Shared}{d:DT}{v:Value}(g:d.depth<=8)(i:A.units+8<cLine)(j:uA s.heap d v):∀{f:List DT}{a:Zf},DAts s.heap f a->DT.depths f<=8->∀u∈a,bH A s u v (@decide (uA s.heap d u) (propDecidable _))
 |[],a,e,_,u,hm=>by
  have k:a=[]:=e;subst k;cases hm
 |x::f,a,e,l,u,hm=>by
  obtain⟨r,m,rfl,h,o⟩:=e;have p:max x.depth (DT.depths f)<=8:=l;rcases dC.mp hm with rfl|hm
  ·have q:=K8 8 (A:=A) g i h j;by_cases z:x=d
   ·subst z;rw[zzr1 h];rwa[zzr1 rfl]at q
   ·have n:¬uA s.heap d u:=fun w=>z (uA.inj 8 g w h).symm;rw[zzr0 n];rwa[zzr0 z]at q
  ·exact vy g i j o (by omega) u hm
theorem kb(t:X.A.units+16<cLine):nZ X (fu .In) (ii X.K false):=by
 intro z s σ H x y v u Q I m n h;obtain⟨d,B,p,C,hx,rfl,hq,e,f,a,q⟩:=h;cases n;have l:=jL I 8 f hx m;have g:X.A.in1.units+8<cLine:=by show X.A.units+1+8<cLine;omega
 rcases hq with hq|hq
 ·obtain⟨i,r,j,o⟩:=I.list hq;have hi:=qT I a e r;refine SeqAt.in_listAt _ j.isList (fun w k=>vy f g l hi a w (by simpa using k)) ⟨.bl _,H,I,rfl,?_⟩;rw[yH,qV f hi a];exact q
 ·obtain⟨i,r,j,o⟩:=I.tuple hq;have hi:=qT I a e r;refine SeqAt.in_tupleAt _ j (fun w k=>vy f g l hi a w (by simpa using k)) ⟨.bl _,H,I,rfl,?_⟩;rw[yH,qV f hi a];exact q
theorem fL(t:X.A.units+16<cLine):nZ X (fu .NotIn) (ii X.K true):=by
 intro z s σ H x y v u Q I m n h;obtain⟨d,B,p,C,hx,rfl,hq,e,f,a,q⟩:=h;cases n;have l:=jL I 8 f hx m;have g:X.A.in1.units+8<cLine:=by show X.A.units+1+8<cLine;omega
 rcases hq with hq|hq
 ·obtain⟨i,r,j,o⟩:=I.list hq;have hi:=qT I a e r;refine SeqAt.notIn_listAt _ j.isList (fun w k=>vy f g l hi a w (by simpa using k)) ⟨.bl _,H,I,rfl,?_⟩;rw[yH,qV f hi a];exact q
 ·obtain⟨i,r,j,o⟩:=I.tuple hq;have hi:=qT I a e r;refine SeqAt.notIn_tupleAt _ j (fun w k=>vy f g l hi a w (by simpa using k)) ⟨.bl _,H,I,rfl,?_⟩;rw[yH,qV f hi a];exact q
end
def vM(z:Str)(lo hi:Option Int):Str:=⟨((z.cps.toList.drop (HT.sIx z.length 0 lo)).take (HT.sIx z.length z.length hi-HT.sIx z.length 0 lo)).toArray⟩
theorem sliceRange_one(a b:Nat):sliceRange (a:Int) (b:Int) 1=(nT (b-a)).map (fun k=>a+k):=by
 unfold sliceRange;simp only[show(1:Int) > 0 from by decide,if_true];by_cases h:(a:Int)<(b:Int)
 ·have e:(if(a:Int)<(b:Int)then((b:Int)-a+1-1) / 1 else 0).toNat=b-a:=by rw[if_pos h];omega
  rw[e];exact List.map_congr_left fun k _=>by omega
 ·have e:(if(a:Int)<(b:Int)then((b:Int)-a+1-1) / 1 else 0).toNat=b-a:=by rw[if_neg h];omega
  rw[e];exact List.map_congr_left fun k _=>by omega
theorem BM(v:Option Int)(n d:Nat):(match v with|none=>(d:Int)|some i=>max 0 (min (if i<0 then i+(n:Int)else i) (n:Int)))=((HT.sIx n d v:Nat):Int):=by
 cases v with
 |none=>rfl
 |some i =>
  rw[<-HT.clip_eq i n d];dsimp only;by_cases h:i<0
  ·rw[if_pos h,if_pos h];omega
  ·rw[if_neg h,if_neg h];omega
theorem qr(lo hi:Option Int)(n:Nat):uN lo hi 1 n=(nT (HT.sIx n n hi-HT.sIx n 0 lo)).map (fun k=>HT.sIx n 0 lo+k):=by
 have a:=BM lo n 0;have e:=BM hi n n;rw[<-sliceRange_one,<-a,<-e];unfold uN;simp only[show(1:Int) > 0 from by decide,if_true];cases lo<;>cases hi<;>rfl
theorem Ft(z:Str)(lo hi:Option Int):Txt.slice z lo hi=vM z lo hi:=by
 have k:HT.sIx z.length 0 lo<=z.length:=HT.sIx_le _ _ (c_ _) _;have l:HT.sIx z.length z.length hi<=z.length:=HT.sIx_le _ _ (aR _) _;have f:z.cps.toList.length=z.length:=by simp[Str.length]
 have e:(uN lo hi 1 z.length).filterMap (z.cps[·]?)=(z.cps.toList.drop (HT.sIx z.length 0 lo)).take (HT.sIx z.length z.length hi-HT.sIx z.length 0 lo):=by
  rw[qr];generalize HT.sIx z.length 0 lo=a at *;generalize HT.sIx z.length z.length hi=b at *;have h:=StrLaws.picks z.cps.toList (b-a) a (by omega);simpa using h
 unfold Txt.slice;by_cases h:((1:Int)==1 && (uN lo hi 1 z.length).length==z.length)=true
 ·rw[if_pos h];have g:(uN lo hi 1 z.length).length=z.length:=by simpa using h
  rw[qr,ai,List.length_range]at g;unfold vM;have i:HT.sIx z.length 0 lo=0:=by omega
  have j:HT.sIx z.length z.length hi-HT.sIx z.length 0 lo=z.cps.toList.length:=by omega
  rw[j,i,oA,bp]
 ·rw[if_neg h];unfold vM;rw[e]
section
variable{X:Cx}
def FR:V->Option Int->Option Int->Hp->VK->Prop:=fun x lo hi H Q=>∃z,x=.str z/\z.length<=ak/\Q (.str (vM z lo hi)) H
theorem zG:Ld X FR:=by
 intro g s σ H x v m n lo hi p Q I r y B f h;obtain⟨z,rfl,C,q⟩:=h;obtain⟨t,rfl⟩:=r;rw[<-Ft]at q;refine⟨"str",_,F.slot_str_getitem.lookup,typeIs_str _ _ _,?_⟩;obtain⟨o,D,E,G⟩:=y;have a:∀(l u:Option (Int×Tok)),m=partValue l->n=partValue u->lo=l.map (·.1)->hi=u.map (·.1)->wpAny (model X.prog X.w) X.A (oF (.str z t) (.ref p)) (EP X g σ Q) X.xe s:=by
  rintro l u rfl rfl rfl rfl;refine wpAny_getItem_str_slice (l:=l) (u:=u) (st:=none) ⟨o,D,E,G⟩ rfl (post_val_or_str ⟨bI (Txt.slice_le z _ _) C,fun e k=>⟨.str _,H,I.tok _,⟨_,rfl⟩,q⟩⟩)
 cases B with
 |none =>
  cases f with
  |none=>exact a none none rfl rfl rfl rfl
  |int j u=>exact a none (some (j,u)) rfl rfl rfl rfl
 |int i e =>
  cases f with
  |none=>exact a (some (i,e)) none rfl rfl rfl rfl
  |int j u=>exact a (some (i,e)) (some (j,u)) rfl rfl rfl rfl
theorem Lj:Ld X (fun x lo hi H Q=>qA X.K x lo hi H Q∨FR x lo hi H Q):=gf.or zG
def KS(K:Za):V->List V->Hp->VK->Prop:=fun x vs H Q=>∃z p ys,x=.str z/\vs=[.ref p]/\ay K H p (ys.map V.str)/\(ys.map (·.length)).sum+ys.length * z.length<=16777216/\Q (.str (yG z ys)) H
theorem JG{a:Zb}:∀{us:Zf},bA (a.map V.str) us->StrsAre us a:=by
 induction a with
 |nil=>intro us r;cases r;exact .nil
 |cons y a e =>
  intro us r;cases r with
  |cons f g =>
   obtain⟨t,rfl⟩:=f;exact .cons _ _ (e g)
theorem Kj:LY X "str.join" (KS X.K):=by
 intro m s σ H x n v o Q I a e h;obtain⟨z,p,w,rfl,rfl,f,g,q⟩:=h;obtain⟨t,rfl⟩:=a;obtain⟨u,rfl,i⟩:=e.one;cases i;obtain⟨j,r,l,_⟩:=I.list f;exact join_list l.isList (by simpa using JG r) g fun y k=>⟨.str _,H,I.tok _,⟨_,rfl⟩,q⟩
end
section
variable{X:Cx}
def LI(K:Za)(H:Hp)(x:V)(t:Value):Prop:=jN K H x t∨(∃a xs,x=.ref a/\t=.type "tuple"/\br K H a xs)∨(∃a xs,x=.ref a/\t=.type "list"/\ay K H a xs)
theorem Dj{k:Zd}{σ:St}{H:Hp}{s:Shared}{A:Around}{E:Zc}{Q:Zc}{c:Value}{b:Bool}{x:V}{u t:Value}(I:Inv X k σ H s)(f:RelV x u)(ty:LI X.K H x t)(e:DV X.K t c=some b)(h:∀tk,Q (.bool b) { s with toks:=tk }):
  wpAny (model X.prog X.w) A (call (.builtin "isinstance") [u,c]) Q E s:=by
 rcases ty with ty|⟨a,l,rfl,rfl,q⟩|⟨a,l,rfl,rfl,q⟩
 ·exact Ga I f ty e h
 ·cases(show u=Value.ref a from f);obtain⟨g,m,p,r⟩:=I.tuple q;obtain⟨o,i,j,_⟩:=p;exact kq PySem.W.kitx_tuple I.kIn ⟨o,i,j⟩ e (fun z=>nomatch z) h
 ·cases(show u=Value.ref a from f);obtain⟨g,m,p,r⟩:=I.list q;obtain⟨o,n,i,j,_⟩:=p;exact kq PySem.W.kitx_list I.kIn ⟨o,i,j⟩ e (fun z=>nomatch z) h
theorem eO:f_ X (.builtin "isinstance") (fun a H Q=>∃x c t b,a=[x,.ty c]/\LI X.K H x t/\DV X.K t (.type c)=some b/\Q (.bl b) H):=by
 intro i s σ H a j Q I r h;obtain⟨x,c,t,b,rfl,ty,e,q⟩:=h;obtain⟨u,v,rfl,f,g⟩:=vals2 r;cases(show v=Value.type c from g);exact Dj I f ty e fun tk=>⟨.bl b,H,I.tok _,rfl,q⟩
theorem I0{bs:List Bool}{a:Zf}(r:bA (bs.map V.bl) a){i:Nat}{v:Value}(h:a[i]?=some v):v=.bool ((bs[i]?).getD false)/\i<bs.length:=by
 have hi:i<a.length:=(bM.mp h).1;have g:=r.length;rw[ai]at g;have e:i<bs.length:=by omega
 obtain⟨u,f,j⟩:=r.get (i:=i) (x:=V.bl bs[i]) (by simp[e]);rw[h]at f;cases f;refine⟨?_,e⟩;rw[iY e];exact j
theorem Ap(bs:List Bool):((nT bs.length).all fun i=>(bs[i]?).getD false)=bs.all id:=by
 induction bs with
 |nil=>rfl
 |cons b bs a =>
  rw[fF,List.range_succ_eq_map,List.all_cons,List.all_map,List.all_cons,<-a]
  rfl
theorem Ao(bs:List Bool):((nT bs.length).any fun i=>(bs[i]?).getD false)=bs.any id:=by
 induction bs with
 |nil=>rfl
 |cons b bs a =>
  rw[fF,List.range_succ_eq_map,mo,List.any_map,mo,<-a]
  rfl
theorem j5(m:X.calm=true):f_ X (.builtin "all") (fun j H Q=>∃(p:Addr) (bs:List Bool),j=[.ref p]/\ay X.K H p (bs.map V.bl)/\Q (.bl (bs.all id)) H):=by
 intro t s σ H j G Q I r h;obtain⟨p,bs,rfl,x,q⟩:=h;obtain⟨u,rfl,y⟩:=vals1 r;cases y;obtain⟨a,k,f,J⟩:=I.list x;obtain⟨o,n,z,_⟩:=id f;have l:=k.length;rw[ai]at l;refine call_all_walk (xa f.isList ?_);refine⟨s.heap.objs.size,_,_,_,_,_,fun i=>(bs[i]?).getD false,rfl,Walks.list (prog:=X.prog) (w:=X.w) (A:=X.A.in1) (I.ok.hd m) s.heap.objs.size p (cK (bg z)) a.toArray,⟨⟨_,de _ rfl,rfl,rfl⟩,f.isList.push _⟩,?_,?_⟩
 ·intro i v L M N B g;obtain⟨e,_⟩:=I0 k (i:=i) (v:=v) (by simpa using B);rw[e];exact sW g
 ·intro C tk D;have E:Inv X t σ H { s with heap:=C,toks:=tk }:=I.kept fun b o e=>D b o (by simp;exact cK (bg e)) (bt _ e);rw[cb,<-l,Ap];exact⟨.bl _,H,E,rfl,q⟩
theorem BO(m:X.calm=true):f_ X (.builtin "any") (fun j H Q=>∃(p:Addr) (bs:List Bool),j=[.ref p]/\ay X.K H p (bs.map V.bl)/\Q (.bl (bs.any id)) H):=by
 intro t s σ H j G Q I r h;obtain⟨p,bs,rfl,x,q⟩:=h;obtain⟨u,rfl,y⟩:=vals1 r;cases y;obtain⟨a,k,f,J⟩:=I.list x;obtain⟨o,n,z,_⟩:=id f;have l:=k.length;rw[ai]at l;refine call_any_walk (xa f.isList ?_);refine⟨s.heap.objs.size,_,_,_,_,_,fun i=>(bs[i]?).getD false,rfl,Walks.list (prog:=X.prog) (w:=X.w) (A:=X.A.in1) (I.ok.hd m) s.heap.objs.size p (cK (bg z)) a.toArray,⟨⟨_,de _ rfl,rfl,rfl⟩,f.isList.push _⟩,?_,?_⟩
 ·intro i v L M N B g;obtain⟨e,_⟩:=I0 k (i:=i) (v:=v) (by simpa using B);rw[e];exact sW g
 ·intro C tk D;have E:Inv X t σ H { s with heap:=C,toks:=tk }:=I.kept fun b o e=>D b o (by simp;exact cK (bg e)) (bt _ e);rw[cb,<-l,Ao];exact⟨.bl _,H,E,rfl,q⟩
theorem Db:nZ X (fu .In) (fun x y H Q=>∃c j,x=.str ⟨#[c]⟩/\y=.str j/\Q (.bl (decide (c∈j.cps.toList))) H):=by
 intro a s σ H x y v u Q I e f h;obtain⟨c,j,rfl,rfl,q⟩:=h;rw[<-StrLaws.found_one]at q;exact FW a s σ H _ _ v u Q I e f ⟨_,_,rfl,rfl,q⟩
theorem vV(T:X.calm=true):f_ X (.type "list") (fun M H Q=>∃(d:Addr) (f:List (cX×V)),M=[.ref d]/\Rd H d (.dK f)/\∀l,H l=none->Q (.ref l) (upd H l (.lst (f.map fun g=>kV g.1)))):=by
 intro J3 s σ H M us Q I r h;obtain⟨d,f,rfl,U,q⟩:=h;obtain⟨u,rfl,Y⟩:=vals1 r;cases Y;obtain⟨z,n,N,y,dd⟩:=qS I.hok U;obtain⟨ep,E⟩:=dd.dictAt;have hl:=y.length;refine PySem.W.kdl_call (PySem.W.kdl_dict (knd:=cD X.prog X.w) (kvs:=N) (ep:=ep) n) (I.ok.hd T) E (by rw[<-hl];exact z) fun h' tk m c G hD A=>?_;have B:bA (f.map fun g=>kV g.1) m.toList:=by
  obtain⟨hn,hP⟩:=A;have J:∀(a:Zf) (L:List (cX×V)) (C:List (cX×Value)),KV L C->a.length=C.length->(∀(j:Nat) (v:Value),a[j]?=some v->∃k x,C[j]?=some (k,x)/\(cD X.prog X.w).is k v=true)->bA (L.map fun g=>kV g.1) a:=by
   intro a L C rl
   induction rl generalizing a with
   |nil=>intro D _;cases a with
    |nil=>exact .nil
    |cons _ _=>cases D
   |@cons p w' ps al hp _ ih =>
    intro D O;cases a with
    |nil=>cases D
    |cons v a =>
     obtain⟨k,x,e,G⟩:=O 0 v rfl;have e':w'=(k,x):=by simpa using e
     refine .cons ?_ (ih a (by simpa using D) fun j v B=>by simpa using O (j+1) v (by simpa using B));have ek:p.1=k:=by rw[hp.1,e']
     show RelV (kV p.1) v;rw[ek];rcases aH (show dY k v=true from G)with⟨i,t,rfl,rfl⟩|⟨i,t,rfl,rfl⟩
     ·exact⟨t,rfl⟩
     ·exact⟨t,rfl⟩
  exact J m.toList f N y (by rw[md];exact hn) fun j v B=>hP j v (by rw[<-uS];exact B)
 refine⟨.ref s.heap.objs.size,_,I.laid (o:=.lst (f.map fun g=>kV g.1)) G (aR _) ⟨by rw[ai];exact z,m.toList,c,B,by rw[Array.toArray_toList];exact hD⟩,rfl,q _ I.fresh⟩
end
section
variable{prog:bR}{w:World}{K:Type}[DecidableEq K]{knd:HeapKind prog w K}{A:Around}{E:Zc}{s:Shared}
theorem uX{d a:Addr}{h:List (K×Addr×Value)}{k:K}{v:Value}{Q:Zc}(u:knd.room A)(f:knd.is s.heap k a)(C:s.heap.DictOfH knd d h)
  (there:∀p,atKey h k=some p->Q p.2 { s with toks:=s.toks+knd.draws k })
  (new:atKey h k=none->∀r,r.DictOfH knd d (h++[(k,a,v)])->iN d s.heap r->Q v { s with heap:=r,toks:=s.toks+knd.draws k })
  (D:h.length<=ak):wpAny (model prog w) A (dictSetDefault d (.ref a) v) Q E s:=by
 obtain⟨o,I,G,i,H,g,q,l,t⟩:=C;unfold dictSetDefault
 try with_reducible refine lY ?_
 refine am (knd.pyHash u f ?_);refine am (wpAny_dictFind_heap (s:={ s with toks:=s.toks+knd.draws k }) u f i g q l t ?_ ?_)
 ·intro m;have n:k∉h.map (·.1):=not_mem_keys_of_get m;refine am (pR (am (wpAny_updateDictKeys (hz:=by have e:=size_of_entries q;omega) (s:={ s with toks:=s.toks+knd.draws k }) i g (aQ (new (atKey_none_of_get m) _ ⟨_,_,G+1,uU _ i (Obj.isFreed_of_dict (Obj.data_mapDictKeys g _)),
   H.mapDictKeys _,Obj.data_mapDictKeys g _,?_,?_,?_⟩ (kT ..))))))
  ·simp[q,Ec]
  ·intro x hx;rcases bf.mp hx with hx|hx
   ·exact knd.keeps (l x hx) i g (kT ..)
   ·simp only[cA]at hx;subst hx;exact knd.keeps f i g (kT ..)
  ·rw[ar,dk];refine⟨t,by simp,?_⟩;intro x hx y z;simp only[bL,yT,cA]at z;subst z;exact fun e=>n (e▸hx)
 ·intro j p B;refine am (oz (s:={ s with toks:=s.toks+knd.draws k }) i g ?_);rw[entry_at q j,B];exact am (pR (aQ (there p (atKey_of_get t B))))
theorem qK(knd:HeapKind prog w K)(d a:Addr)(l:(d==hZ)=false)(dflt:Value):
  MeetsIn prog w (dD.«dict.setdefault» ⟨[.ref d,.ref a,dflt],[]⟩) (fun A R s=>knd.room A.in1/\∃k e,knd.is s.heap k a/\s.heap.DictOfH knd d e/\e.length<=ak /\
   (∀p,atKey e k=some p->R (.ok (.ret p.2)) { s with toks:=s.toks+knd.draws k }) /\
   (atKey e k=none->∀f,f.DictOfH knd d (e++[(k,a,dflt)])->iN d s.heap f->R (.ok (.ret dflt)) { s with heap:=f,toks:=s.toks+knd.draws k })) :=
 .of_wp fun A R s ⟨m,k,e,g,j,n,o,q⟩=>by
  unfold dD.«dict.setdefault»;refine am ?_;unfold dD.Dict.keyAndDefault;refine am (uM j.typeIs ?_);show wpAny _ _ (pure (d,Value.ref a,some dflt)) _ _ s;refine aQ ?_;show wpAny _ _ (if(d==hZ)=true then _ else(dictSetDefault d (.ref a) dflt >>= _)) _ _ s
  rw[if_neg (by rw[l];exact hV)];exact am (uX m g j (fun p r=>aQ ⟨p.2,rfl,o p r⟩) (fun t f h i=>aQ ⟨dflt,rfl,q t f h i⟩) n)
end
section
variable{X:Cx}
def Ep:V->List V->Hp->VK->Prop:=fun x vs H Q=>∃(d b:Addr) (kvs:List (TK×V)) (k:TK) (z:V),x=.ref d/\vs=[.ref b,z]/\H d=some (.dT kvs)/\jO H k (.ref b)/\k.depth<=8/\kvs.length<ak /\
 (∀v,c6 kvs k=some v->Q v H)/\(c6 kvs k=none->Q z (upd H d (.dT (kvs++[(k,z)]))))
theorem FY(D:X.A.units+16<cLine):LY X "dict.setdefault" Ep:=by
 intro J3 s σ H x vs v us Q I E G h;obtain⟨d,b,a,k,z,rfl,rfl,l,q,j,hz,J,L⟩:=h;cases E;obtain⟨u,v,rfl,M,r⟩:=G.two;cases M;obtain⟨_,g,m,f,t⟩:=K6 I.hok I.kIn l;have hl:a.length=m.length:=Paired.length f;refine call_meetsIn PySem.F.slot_dict_setdefault t.typeIs PySem.F.entry_dict_setdefault (PySem.F.args_dict_setdefault_3 _ _ _) (qK (bO X.prog X.w) d b g v)
  ⟨jp D,k,m,zZ I.hok I.kIn (jO.c 8 j q) j,t,by omega,fun p N=>?_,fun O h' n T=>?_⟩
 ·have e:=f.val k;rw[N]at e;cases i:c6 a k with
  |none=>rw[i]at e;exact e.elim
  |some y =>
   rw[i]at e;exact⟨y,H,I.tok _,e,J y i⟩
 ·have e:=f.val k;rw[O]at e;have i:c6 a k=none:=by
   cases i:c6 a k with
   |none=>rfl
   |some y=>rw[i]at e;exact e.elim
  obtain⟨o,U,Y,B,h2,h3,h4,_,h5⟩:=n;refine⟨z,_,ux (ob:=.dT (a++[(k,z)])) I (by rw[l];exact jS) T ⟨o,B⟩ ⟨by rw[aA,yV];omega,g,_,KT.keeps (kvs:=a++[(k,z)]) (xs:=m++[(k,b,v)]) (ee f ⟨rfl,jO.c 8 j q,j,r⟩) fun c ys C=>?_,o,U,Y,B,h2,h3,h4,h5⟩,r,L i⟩;rw[aj (KZ C l (fun z=>nomatch z))];exact C
end
theorem gX:entryFor table "dict.update.loop"=some dD.«dict.update.loop»:=entryFor_of_fast (by kernel_rfl)
theorem cT:plainId "dict.update.loop"=true:=by decide +kernel
theorem zQ:typeLookup (.type "list") "keys"=pure none:=am_miss_of_fast (by decide +kernel)
section
variable{prog:bR}{w:World}{A:Around}{E:Zc}{s:Shared}
theorem xy{a:Addr}{o:Obj}{m:Array Value}{k:Nat}{Q:Option Value->Shared->Prop}(hx:s.heap.get? a=some o)(n:o.cls=.type "list")(f:o.data=.seq m k)(p:o.dict=none)(t:A.handled=none)
  (h:∀l tk,(∀b q,s.heap.get? b=some q->l.get? b=some q)->Q none { s with heap:=l,toks:=tk }):wpAny (model prog w) A (getAttr? (.ref a) "keys") Q E s:=by
 obtain⟨c,u,v,x⟩:=o;simp only at n f p;subst n f p;obtain⟨y,g,d,tk,os⟩:=s;have r:∀i,(⟨y,g,d,i,os⟩:Shared).TypeIs (.ref a) "list":=fun _=>⟨_,hx,rfl⟩;have z:=sub_AttributeError;have B:=F.slot_list_getattribute.lookup;have C:=F.slot_list_getattribute.bind (.ref a);have D:=am_list_getattr_none;unfold getAttr? getAttrBy? getAttrBy
 repeat (any_goals (first|assumption|exact r _|((with_reducible show wpAny _ _ (call (Value.builtin "list.__getattribute__") _ _) _ _ _);refine uT F.slot_list_getattribute (r _) am_entry_list_getattribute (F.args_list_getattribute_2 _ _) (meets_getattribute_miss_list a m k x "keys" _ zQ (by decide +kernel) (by decide +kernel)) ⟨hx,t,fun l i e j=>?_⟩)|wp_step))
 obtain⟨G,H,I⟩:=j.there;show wpAny _ _ (getattributeRaised _ _ _ _ _ _ _) _ _ _;unfold getattributeRaised hookOrError attributeErrorLeaves
 repeat (any_goals (first|assumption|wp_step))
 all_goals first|exact h _ _ j.keeps|trace_state
def Dz(h:Heap)(u:Value)(kv:cX×Value):Prop:=∃t ku,u=.ref t/\h.IsTuple t #[ku,kv.2]/\dY kv.1 ku=true
theorem CK{κ:Type}[DecidableEq κ](a:List (κ×Value))(k:κ)(v:Value):(stored a k v).length<=a.length+1:=by
 unfold stored;split
 ·rw[ai];omega
 ·rw[aA,yV];exact aR _
theorem G0{R:Result->Shared->Prop}(hh:A.handled=none){D it l:Addr}{items:Array Value}{ps:List (cX×Value)}(B:D≠it)(T:l≠it)(U:l≠D)(bb:ps.length=items.size):
  ∀(n i:Nat) (s:Shared) (a:List (cX×Value)),items.size-i=n->i<=items.size->a.length+(items.size-i)<=ak->s.heap.IsListIter it l i->s.heap.IsList l items->s.heap.DictOf (cD prog w) D a ->
   (∀(j:Nat) (u:Value) (N:cX×Value),items[j]?=some u->ps[j]?=some N->Dz s.heap u N) ->
   (∀z tk,z.DictOf (cD prog w) D (merged a (ps.drop i))->(∀b o,b≠D->b≠it->s.heap.get? b=some o->z.get? b=some o)->R (.ok (.ret .none)) { s with heap:=z,toks:=tk }) ->
   zzl78 (model prog w) A (.builtin "dict.update.loop" ⟨[.ref D,.ref it,rawInt i,.none],[]⟩) R s:=by
 intro n
 induction n with
 |zero =>
  intro i s a hn hi hz p O Q Y hR;have e:i=items.size:=by omega
  subst e;refine yF gX ?_;rw[yE cT _];show wpAny _ A.in1 (pyNext (.ref it) >>= _) _ _ s;refine am (wpAny_pyNext_list_end hh p O (by simp) fun z eb=>?_);show wpAny _ _ (dD.Dict.addKeywords D [] >>= _) _ _ _;refine am (aQ (aQ ?_));have C:z.DictOf (cD prog w) D a:=Q.extBut eb B;have q:=hR z s.toks (by rw[oy (by omega)];exact C) fun b o _ hb e=>eb b o hb e;exact q
 |succ n ih =>
  intro i s a hn hi hz p O Q Y hR;have I:i<items.size:=by omega
  refine yF gX ?_;rw[yE cT _];show wpAny _ A.in1 (pyNext (.ref it) >>= _) _ _ s;have hu:items[i]?=some items[i]:=by simp[I]
  have hk:ps[i]?=some ps[i]:=iY (by omega);obtain⟨t,ku,eu,ht,al⟩:=Y i _ _ hu hk;refine am (wpAny_pyNext_list_item p O (x:=items[i]) hu fun h J an=>?_);rw[eu];have m:iN it s.heap h:=an;have nt:t≠it:=by
   rintro rfl;obtain⟨o,G,L,_⟩:=ht;obtain⟨o',f,g,_⟩:=p;rw[G]at f;cases f;rw[L]at g;simp at g
  have M:h.IsTuple t #[ku,ps[i].2]:=ht.extBut m.extBut nt;have ap:uL { s with heap:=h } (.ref t) "tuple":=M.typeIs (s:={ s with heap:=h });obtain⟨ot,as,bi,bl,aC⟩:=id M;refine am (lY ?_);refine am (wpAny_tryCatch ?_);unfold dD.Dict.pairItems;refine am (yD ap ?_);rw[if_pos (by decide)];refine am (me as aC (aQ ?_));show wpAny _ _ (lV [ku,ps[i].2] (dictSet D ku ps[i].2)) _ _ _;have a0:h.DictOf (cD prog w) D a:=Q.extBut m.extBut B;refine lY (wpAny_dictSet_pairs (knd:=cD prog w) (k:=ps[i].1) al a0 (fun y a4 a5=>?_) (by omega));have v:iN D h y:=a5;show wpAny _ _ (again _) _ _ _;refine aQ ⟨yC cT _,?_⟩;have a6:h.IsList l items:=O.extBut m.extBut T;have kp:∀b o,b≠D->b≠it->s.heap.get? b=some o->y.get? b=some o:=fun b o h y e=>v.extBut b o h (m.extBut b o y e);refine ih (i+1) _ (stored a ps[i].1 ps[i].2) (by omega) I (by have:=CK a ps[i].1 ps[i].2;omega) (J.extBut v.extBut (iO B)) (a6.extBut v.extBut U) a4 (fun j u N h y=>?_) fun z tk C a7=>?_
  ·obtain⟨t2,a8,e2,H,a9⟩:=Y j u N h y;have n1:t2≠it:=by
    rintro rfl;obtain⟨o,G,L,_⟩:=H;obtain⟨o',f,g,_⟩:=p;rw[G]at f;cases f;rw[L]at g;simp at g
   have n2:t2≠D:=by
    rintro rfl;obtain⟨o,G,L,_⟩:=H;obtain⟨o',_,_,f,g,_⟩:=Q;rw[G]at f;cases f;have:=g.1;rw[L]at this;simp at this
   obtain⟨o,G,r⟩:=H;exact⟨t2,a8,e2,⟨o,kp _ o n2 n1 G,r⟩,a9⟩
  ·refine hR z tk ?_ fun b o h y e=>a7 b o h y (kp b o h y e);have ed:ps.drop i=ps[i]::ps.drop (i+1):=ox (by omega);rw[ed];exact C
theorem tV{l:Addr}{o:Obj}{items:Array Value}{n:Nat}{ps:List (cX×Value)}{Q:Zc}(T:A.handled=none)(U:s.heap.get? l=some o)(J:o.cls=.type "list")(v:o.data=.seq items n)(L:o.dict=none)
  (M:ps.length=items.size) (hp:∀(j:Nat) (u:Value) (H:cX×Value),items[j]?=some u->ps[j]?=some H->Dz s.heap u H) (hz:items.size<=ak)
  (h:∀x tk,x.DictOf (cD prog w) s.heap.objs.size (merged [] ps)->(∀b o,s.heap.get? b=some o->x.get? b=some o)->Q (.ref s.heap.objs.size) { s with heap:=x,toks:=tk }) :
  wpAny (model prog w) A (call (.type "dict") [.ref l]) Q E s:=by
 refine callType_codes (Q₁:=fun y m=>y=.ref s.heap.objs.size/\m={ s with heap:=s.heap.push { cls:=.type "dict",data:=.dict #[] } }) F.kt_called_dict (F.kt_typeCall_dict_1 _) F.entry_dict_init (kt_code_dict_new _ ⟨rfl,rfl⟩) ?_;rintro y m ⟨rfl,rfl⟩;have f:(s.heap.push { cls:=.type "dict",data:=.dict #[] }).DictOf (cD prog w) s.heap.objs.size []:=Heap.DictOf.new s.heap;have p:(s.heap.push { cls:=.type "dict",data:=.dict #[] }).get? l=some o:=bt _ U;have z:l<s.heap.objs.size:=bg U;refine⟨f.typeIs,F.args_dict_init_2 _ _,?_⟩;unfold dD.«dict.__init__»;refine am ?_;unfold dD.Dict.selfAndRest;refine am (uM f.typeIs ?_);show wpAny _ _ (pure (s.heap.objs.size,[Value.ref l])) _ _ _;refine aQ ?_;show wpAny _ _ (yB "dict.__init__" s.heap.objs.size (.ref l) [] .none) _ _ _;unfold yB;have N:uL { s with heap:=s.heap.push { cls:=.type "dict",data:=.dict #[] } } (.ref l) "list":=⟨o,p,J⟩;refine am (yD N ?_);rw[if_pos (by decide)];refine am (xy p J v L T fun q O k1=>?_);have k:∀b I,(s.heap.push { cls:=.type "dict",data:=.dict #[] }).get? b=some I->q.get? b=some I:=k1;rw[if_pos (by rfl:(none:Option Value).isNone=true)];refine am (pR ?_);have B:q.IsList l items:=⟨o,k _ _ p,J,n,v⟩;refine am (xa (s:={ s with heap:=q,toks:=O }) B ?_);have C:q.DictOf (cD prog w) s.heap.objs.size []:=by
  obtain⟨Y,es,ep,g,r⟩:=f;exact⟨Y,es,ep,k _ _ g,r⟩
 have i:s.heap.objs.size<q.objs.size:=by
  obtain⟨Y,es,ep,g,r⟩:=C;exact bg g
 refine aQ ⟨yC cT _,?_⟩;refine G0 (A:=A.in1) (prog:=prog) (w:=w) T (D:=s.heap.objs.size) (it:=q.objs.size) (l:=l) (items:=items) (ps:=ps) (cK i) (cK (uQ z i)) (cK z) M items.size 0 _ [] (uK _) (c_ _) (by rw[mn];omega)
  ⟨_,de _ rfl,rfl,rfl⟩ (B.push _) (C.push _) (fun j u H a b=>?_) fun x tk G kp=>?_
 ·obtain⟨t,ku,e,ht,hk⟩:=hp j u H a b;obtain⟨ot,g,r⟩:=ht;exact⟨t,ku,e,⟨ot,bt _ (k _ _ (bt _ g)),r⟩,hk⟩
 ·rw[oA]at G;refine⟨rfl,h x tk G fun b I e=>kp b I (cK (bg e)) (cK (uQ (bg e) i)) (bt _ (k _ _ (bt _ e)))⟩
end
section
variable{X:Cx}
theorem Ak(hc:X.calm=true):f_ X (.type "dict") (fun Y H Q=>∃(l:Addr) (k:Ze) (f:List (cX×V)),Y=[.ref l]/\ay X.K H l (k.map V.ref)/\k.length=f.length /\
  (∀(j:Nat) (t:Addr) (g:cX×V),k[j]?=some t->f[j]?=some g->H t=some (.tup [kV g.1,g.2]))/\∀p,H p=none->Q (.ref p) (upd H p (.dK (fS [] f)))):=by
 intro J3 s σ H Y us Q I r h;obtain⟨l,k,f,rfl,v,z,D,q⟩:=h;obtain⟨u,rfl,ru⟩:=vals1 r;cases ru;obtain⟨E,rv,⟨o,n,ho,G,J,L⟩,M⟩:=I.list v;have N:∀(k:Ze) (f:List (cX×V)),k.length=f.length->(∀(j:Nat) (t:Addr) (g:cX×V),k[j]?=some t->f[j]?=some g->H t=some (.tup [kV g.1,g.2]))->∃y:List (cX×Value),KV f y/\∀(j:Nat) (t:Addr) (g:cX×Value),k[j]?=some t->y[j]?=some g->Dz s.heap (.ref t) g:=by
  intro k
  induction k with
  |nil =>
   intro f v _;cases f with
   |nil=>exact⟨[],.nil,fun j t g e=>by simp at e⟩
   |cons _ _=>cases v
  |cons t k ih =>
   intro f v D;cases f with
   |nil=>cases v
   |cons g f =>
    obtain⟨y,O,r2⟩:=ih f (by simpa using v) fun j T m a b=>D (j+1) T m (by simpa using a) (by simpa using b);obtain⟨_,al,rt,p⟩:=(show cw X.prog X.w X.K H s.heap t (.tup [kV g.1,g.2])from I.hok t _ (D 0 t g rfl rfl));obtain⟨a,b,e,ra,rb⟩:=rt.two;subst e;refine⟨(g.1,b)::y,.cons ⟨rfl,rb⟩ O,fun j T m A U=>?_⟩;cases j with
    |zero =>
     simp at A U;subst A U;exact⟨t,a,rfl,p,qM (P:=X.prog) (w:=X.w) ra⟩
    |succ j=>exact r2 j T m (by simpa using A) (by simpa using U)
 obtain⟨y,B,pa⟩:=N k f z D;have C:=rv.length;rw[ai]at C;have an:=B.length;refine tV (prog:=X.prog) (w:=X.w) (ps:=y) (I.ok.hd hc) ho G L J (by rw[cb];omega) (fun j u g a b=>?_) (by rw[cb,<-C];rw[ai]at M;exact M) fun h' tk hD kp=>?_
 ·have a':E[j]?=some u:=by simpa using a
  have hj:j<k.length:=by
   have:=(bM.mp a').1;omega
  obtain⟨u',e1,O⟩:=rv.get (i:=j) (x:=V.ref k[j]) (by simp[hj]);rw[a']at e1;cases e1;cases(show u=Value.ref k[j]from O);exact pa j k[j] g (by simp[hj]) b
 ·have hm:(fS [] f).length<=ak:=by
   have A:=ke f [];rw[mn]at A;rw[ai]at M;omega
  exact⟨.ref s.heap.objs.size,_,I.laid (o:=.dK (fS [] f)) kp (aR _) (Dr hm (beq_eq_false_iff_ne.mpr (iO (cK I.big))) (B.merge .nil) hD),rfl,q _ I.fresh⟩
end
abbrev fZ:R2:=GP fun i j=>.int (i+j)
abbrev kF:R2:=rI Jl fun i j=>.int (i * j)
abbrev jZ:R2:=rI (fun _ j=>0<j) fun i j=>.int (i % j)
abbrev HX:R2:=rI MD fun i j=>.int (i / j)
abbrev KQ:R2:=rI Mz fun i j=>.int (i ^ j.toNat)
abbrev JW:R2:=GP fun i j=>.bl (decide (i<j))
abbrev Ll:R2:=GP fun i j=>.bl (decide (i<=j))
abbrev wO:R2:=GP fun i j=>.bl (decide (j<i))
abbrev rGeI:R2:=GP fun i j=>.bl (decide (j<=i))
abbrev HZ:R2:=fun x y H Q=>∃i j,x=.str i/\y=.str j/\i.length+j.length<=ak/\Q (.str (i++j)) H
abbrev rInS:R2:=fun x y H Q=>∃c j,x=.str ⟨#[c]⟩/\y=.str j/\Q (.bl (decide (c∈j.cps.toList))) H
abbrev rSlA(K:Za):V->Option Int->Option Int->Hp->VK->Prop:=fun x lo hi H Q=>qA K x lo hi H Q∨FR x lo hi H Q
abbrev sf(K:Za):List V->Hp->VK->Prop:=fun xs H Q=>∃x c t b,xs=[x,.ty c]/\LI K H x t/\DV K t (.type c)=some b/\Q (.bl b) H
abbrev JY(K:Za):List V->Hp->VK->Prop:=fun xs H Q=>∃(p:Addr) (bs:List Bool),xs=[.ref p]/\ay K H p (bs.map V.bl)/\Q (.bl (bs.all id)) H
abbrev rAny(K:Za):List V->Hp->VK->Prop:=fun xs H Q=>∃(p:Addr) (bs:List Bool),xs=[.ref p]/\ay K H p (bs.map V.bl)/\Q (.bl (bs.any id)) H
abbrev Eo(K:Za):List V->Hp->VK->Prop:=fun xs H Q=>∃p ys,xs=[.ref p]/\((ay K H p ys/\∀l,H l=none->Q (.ref l) (upd H l (.tup ys)))∨(br K H p ys/\Q (.ref p) H))
abbrev JX(K:Za):List V->Hp->VK->Prop:=fun xs H Q=>∃(l:Addr) (ts:Ze) (kvs:List (cX×V)),xs=[.ref l]/\ay K H l (ts.map V.ref)/\ts.length=kvs.length /\
  (∀(j:Nat) (t:Addr) (kv:cX×V),ts[j]?=some t->kvs[j]?=some kv->H t=some (.tup [kV kv.1,kv.2]))/\∀p,H p=none->Q (.ref p) (upd H p (.dK (fS [] kvs)))
abbrev dE(K:Za):List V->Hp->VK->Prop:=fun xs H Q =>
 (∃p ys,xs=[.ref p]/\(ay K H p ys∨br K H p ys)/\∀l,H l=none->Q (.ref l) (upd H l (.lst ys))) ∨
 (∃(d:Addr) (kvs:List (cX×V)),xs=[.ref d]/\Rd H d (.dK kvs)/\∀l,H l=none->Q (.ref l) (upd H l (.lst (kvs.map fun kv=>kV kv.1))))
abbrev fH(K:Za):List V->Hp->VK->Prop:=fun xs H Q =>
 (∃p ys,xs=[.ref p]/\(ay K H p ys∨br K H p ys)/\Q (.int ys.length) H)∨(∃z,xs=[.str z]/\z.length<=ak/\Q (.int z.length) H)
theorem eP:jT "isinstance"=some (.builtin "isinstance"):=by decide +kernel
theorem pc:jT "list"=some (.type "list"):=by decide +kernel
theorem iX:jT "tuple"=some (.type "tuple"):=by decide +kernel
theorem vW:jT "dict"=some (.type "dict"):=by decide +kernel
theorem Dy:jT "bool"=some (.type "bool"):=by decide +kernel
theorem Gx:jT "int"=some (.type "int"):=by decide +kernel
theorem Gw:jT "str"=some (.type "str"):=by decide +kernel
section
variable{X:Cx}{p pos:Pos}
theorem xN:f_ X (.builtin "len") (fH X.K):=Ai.or Ah
theorem Dx(a:X.calm=true):f_ X (.type "list") (dE X.K):=Ag.or (vV a)
theorem o0(a:Gl X "bool")(e:X.mg "bool"=none):PE X (.Name "bool" pos) (tC (.ty "bool")):=qI a e Dy rfl
theorem xv(a:Gl X "int")(e:X.mg "int"=none):PE X (.Name "int" pos) (tC (.ty "int")):=qI a e Gx rfl
theorem xu(a:Gl X "str")(e:X.mg "str"=none):PE X (.Name "str" pos) (tC (.ty "str")):=qI a e Gw rfl
theorem oZ(a:Gl X "list")(e:X.mg "list"=none):PE X (.Name "list" pos) (tC (.ty "list")):=qI a e pc rfl
theorem mE(a:Gl X "tuple")(e:X.mg "tuple"=none):PE X (.Name "tuple" pos) (tC (.ty "tuple")):=qI a e iX rfl
end
def Gc(mg:Str->Option Value)(x:Str)(v:V):Prop:=∃u,mg x=some u/\RelV v u
theorem fO{X:Cx}{x:Str}{v:V}{a:Pos}(e:Gl X x)(h:Gc X.mg x v)(f:(x==("__debug__":Str))=false:=by decide):PE X (.Name x a) (tC v):=by
 obtain⟨u,g,r⟩:=h;exact Kb e g r f
structure fU(P:bR)(w:World)(K:Za)(mg:Str->Option Value)(base:Heap)(x:Str)(ps:Zb)(k:Nat)(sp:Sp):Prop where
 ex:∃f fd,mR P w K mg base CX0 k f fd ps sp/\mg x=some (.ref f)/\kr K (.ref f)=true/\Binds K fd ps []
structure New(P:bR)(w:World)(K:Za)(mg:Str->Option Value)(base:Heap)(x:Str)(C:Addr)(ps:Zb)(k:Nat)(sp:Sp):Prop where
 ex:∃f fd,mR P w K mg base CX0 k f fd ps sp/\mg x=some (.ref C)/\Mk K C f/\Binds K fd ps []
structure GN(P:bR)(w:World)(K:Za)(mg:Str->Option Value)(base:Heap)(C:Addr)(m:Str)(ps:Zb)(k:Nat)(sp:Sp):Prop where
 ex:∃f fd,mR P w K mg base CX0 k f fd ps sp/\GO K C/\KI K C m f/\Binds K fd ps []
section
variable{X:Cx}{k:Nat}{ps:Zb}{sp:Sp}{x m:Str}{C:Addr}{p pos J5:Pos}{o e:Expr}{es:List Expr}{t:TA}{ta:TE}
theorem KY(D:fU X.prog X.w X.K X.mg X.base x ps k sp)(h:fN k X.A)(i:Gl X x)(j:PA X (e::es) t)(a:(x==("__debug__":Str))=false:=by decide)
  (l:a_ (e::es) X.env=(false,eval e X.env)::a_ es X.env:=by rfl) (g:(backTo pos (a_ es X.env)).any (·.1)=false:=by rfl) :
  PE X (.Call (.Name x p) (e::es) [] pos) (aL sp t):=by
 obtain⟨f,s,F,n,q,r⟩:=D.ex;exact Kf F h i n q r .nil Ey j a l g
theorem Ii(D:New X.prog X.w X.K X.mg X.base x C ps k sp)(h:fN (k+1) X.A)(i:Gl X x)(j:PA X (e::es) t)(a:(x==("__debug__":Str))=false:=by decide)
  (l:a_ (e::es) X.env=(false,eval e X.env)::a_ es X.env:=by rfl) (g:(backTo pos (a_ es X.env)).any (·.1)=false:=by rfl) :
  PE X (.Call (.Name x p) (e::es) [] pos) (El C sp [] E0 t):=by
 obtain⟨f,r,F,n,M,q⟩:=D.ex;exact Ka M F h i n q .nil Ey j a l g
theorem Lu{pl:Sem Bool}(M:GN X.prog X.w X.K X.mg X.base C m ps k sp)(i:fN k X.A)(j:PE X o ta)(l:PA X (e::es) t)
  (a:a_ (e::es) X.env=(false,eval e X.env)::a_ es X.env:=by rfl) (g:(backTo pos (a_ es X.env)).any (·.1)=false:=by rfl)
  (n:eval (.Call (.Attribute o m J5) (e::es) [] pos) X.env=(do
   let h <- eval o X.env
   sT J5.atName
   let(f,first) <- lV [h] (sQ h m pl)
   w8 pos f first (backTo pos (a_ (e::es) X.env)) (sP pos (sO [] X.env))):=by rfl) :
  PE X (.Call (.Attribute o m J5) (e::es) [] pos) (bZ C m sp [] E0 ta t):=by
 obtain⟨f,s,F,c,q,r⟩:=M.ex;exact J_ j c q F i r .nil Ey l a g n
theorem J9{pl:Sem Bool}(M:GN X.prog X.w X.K X.mg X.base C m ps k sp)(g:fN k X.A)(h:PE X o ta)
  (i:eval (.Call (.Attribute o m J5) [] [] pos) X.env=(do
   let a <- eval o X.env
   sT J5.atName
   let(f,first) <- lV [a] (sQ a m pl)
   w8 pos f first (backTo pos (a_ [] X.env)) (sP pos (sO [] X.env))):=by rfl) :
  PE X (.Call (.Attribute o m J5) [] [] pos) (bZ C m sp [] E0 ta aY):=by
 obtain⟨f,n,F,c,j,l⟩:=M.ex;exact Ij h c j F g l .nil Ey i
end
def Ml(K:Za)(tl:TE):TI:=fun σ H R=>tl σ H fun x H1=>∃a,x=.ref a/\(((∃xs,ay K H1 a xs)/\R (Ce K a) H1)∨((∃xs,br K H1 a xs)/\R (LN K a) H1))
theorem Lo{X:Cx}{u l:Expr}{r:TE}(w:PE X l r):PI X u l (Ml X.K r):=by
 intro t s σ H R I h;refine du (w t s σ H _ I h) fun v f j=>?_;obtain⟨x,k,g,y,z⟩:=j;obtain⟨a,e,q⟩:=z;subst e;cases y;have i:∀b∈[f.heap.objs.size],pE X t k b:=fun b A=>by
  have e:b=f.heap.objs.size:=by simpa using A
  subst e;exact g.fpOk (aR _) (g.hok.fresh (aR _))
 rcases q with⟨⟨B,m⟩,q⟩|⟨⟨B,m⟩,q⟩
 ·obtain⟨n,C,p,D⟩:=g.list m;refine xa p.isList ?_;exact⟨f.heap.objs.size,[f.heap.objs.size],_,_,k,rfl,g.kept (t':=f.toks) fun b o e=>bt _ e,xh a _,⟨_,de _ rfl,rfl,rfl⟩,i,q⟩
 ·obtain⟨n,C,p,D⟩:=g.tuple m;refine DZ p ?_;exact⟨f.heap.objs.size,[f.heap.objs.size],_,_,k,rfl,g.kept (t':=f.toks) fun b o e=>bt _ e,uY a _,⟨_,de _ rfl,rfl,rfl⟩,i,q⟩
theorem mL{K:Za}{a:Addr}{xs:List V}{g:TG}{k:TS}{D:pF}{σ:St}{H:Hp}(Pv:Nat->St->Hp->Prop)(n:Pv 0 σ H)(o:∀i σ H,i<=xs.length->Pv i σ H->ay K H a xs)
  (r:∀i x σ H p,xs[i]?=some x->Pv i σ H->H p=none->g (.ref p) σ (upd H p (.tup [.int i,x])) fun σ2 j=>k { D with nx:=Pv (i+1),ct:=Pv (i+1),bk:=D.nx } σ2 j) (s:∀σ H,Pv xs.length σ H->D.nx σ H) :
  ∃W:Nat->Nat->St->Hp->Prop,(∃m,W 0 m σ H)/\∀i m σ H,W i m σ H ->
   ((LR K a).stop i H/\D.nx σ H)∨((LR K a).go i H/\∃N:St->Hp->Prop,(∀σ' f,N σ' f->∃l,l<m/\W (i+1) l σ' f)/\∀x f,(LR K a).yld i H x f->g x σ f fun σ2 j=>k { D with nx:=N,ct:=N,bk:=D.nx } σ2 j):=by
 refine⟨fun i m σ H=>m=xs.length-i/\i<=xs.length/\Pv i σ H,⟨xs.length,by simp,c_ _,n⟩,?_⟩;rintro i m σ H ⟨rfl,hi,p⟩;have q:=o i σ H hi p;by_cases h:i<xs.length
 ·refine .inr ⟨⟨xs,xs[i],q,by simp[h]⟩,Pv (i+1),fun σ' f u=>⟨xs.length-(i+1),by omega,rfl,h,u⟩,fun x f y=>?_⟩;obtain⟨t,v,rfl,w,z,rfl⟩:=y;exact r i v σ H t (z xs q) p w
 ·have e:i=xs.length:=by omega
  subst e;exact .inl ⟨⟨xs,q,aR _⟩,s σ H p⟩
def Wc(n:Nat)(Pv:Nat->List V->Hp->Prop):Nat->Nat->List V->Hp->Prop:=fun i m vs H=>m=n-i/\i<=n/\Pv i vs H
theorem kL{n i:Nat}{Pv:Nat->List V->Hp->Prop}{a:List V}{H:Hp}(hi:i<n)(p:Pv (i+1) a H):∃e,e<n-i/\Wc n Pv (i+1) e a H:=⟨n-(i+1),by omega,rfl,hi,p⟩
abbrev cF(k:Nat)(fi:List Nat)(σ:St)(J:It)(g:TG)(tc:TT)(te:TE)(H1:Hp)(l:Addr)(Q:Hp->Prop):Prop :=
 ∃W:Nat->Nat->List V->Hp->Prop,(∃m,W 0 m [] (upd H1 l (.lst [])))/\∀i m vs H2,W i m vs H2->H2 l=some (.lst vs) /\
  ((J.stop i H2/\Q H2)∨(J.go i H2/\∀x H3,J.yld i H2 x H3->g x (cP k fi σ) H3 fun σ2 H4=>tc σ2 H4 fun b H5 =>
   if b=true then te σ2 H5 fun v H6=>H6 l=some (.lst vs)/\vs.length<ak/\∃m',m'<m/\W (i+1) m' (vs++[v]) (upd H6 l (.lst (vs++[v])))else ∃m',m'<m/\W (i+1) m' vs H5))
theorem jM{k:Nat}{fi:List Nat}{J:It}{g:TG}{r:TT}{s:TE}{σ:St}{t:Hp}{Q:Hp->Prop}{l:Addr}(n:Nat)(Pv:Nat->List V->Hp->Prop)(z:Pv 0 [] (upd t l (.lst [])))
  (A:∀i a H,i<=n->Pv i a H->H l=some (.lst a)) (o:∀i a H,i<n->Pv i a H->J.go i H) (q:∀a H,Pv n a H->J.stop n H/\Q H)
  (B:∀i a H x j,i<n->Pv i a H->J.yld i H x j->g x (cP k fi σ) j fun σ2 C=>r σ2 C fun b u =>
   if b=true then s σ2 u fun v w=>w l=some (.lst a)/\a.length<ak/\∃f,f<n-i/\Wc n Pv (i+1) f (a++[v]) (upd w l (.lst (a++[v])))else ∃f,f<n-i/\Wc n Pv (i+1) f a u) :
  cF k fi σ J g r s t l Q:=by
 refine⟨Wc n Pv,⟨n,by simp[Wc],c_ _,z⟩,?_⟩;rintro i m a H ⟨rfl,hi,p⟩;refine⟨A i a H hi p,?_⟩;by_cases h:i<n
 ·exact .inr ⟨o i a H h p,fun x j y=>B i a H x j h p y⟩
 ·have e:i=n:=by omega
  subst e;exact .inl (q a H p)
section
variable{K:Za}{k:Nat}{fi:List Nat}{g:TG}{tc:TT}{te:TE}{σ:St}{H1:Hp}{Q:Hp->Prop}{l:Addr}
theorem bQ{a:Addr}{xs:List V}(Pv:Nat->List V->Hp->Prop)(n:Pv 0 [] (upd H1 l (.lst [])))
  (h:∀i e H,i<=xs.length->Pv i e H->H l=some (.lst e)/\ay K H a xs) (o:∀e H,Pv xs.length e H->Q H)
  (q:∀i e H x,xs[i]?=some x->i<xs.length->Pv i e H->g x (cP k fi σ) H fun σ2 r=>tc σ2 r fun b j =>
   if b=true then te σ2 j fun v m=>m l=some (.lst e)/\e.length<ak/\∃f,f<xs.length-i/\Wc xs.length Pv (i+1) f (e++[v]) (upd m l (.lst (e++[v])))else ∃f,f<xs.length-i/\Wc xs.length Pv (i+1) f e j) :
  cF k fi σ (Ce K a) g tc te H1 l Q:=by
 refine jM xs.length Pv n (fun i e H hi p=>(h i e H hi p).1) (fun i e H hi p=>⟨xs,xs[i],(h i e H (cz hi) p).2,by simp[hi]⟩) (fun e H p=>⟨⟨xs,(h _ e H (aR _) p).2,aR _⟩,o e H p⟩) fun i e H x s hi p y=>?_;obtain⟨rfl,y⟩:=y;exact q i e _ x (y xs (h i e _ (cz hi) p).2) hi p
theorem BK{a:Addr}{xs:List V}(Pv:Nat->List V->Hp->Prop)(n:Pv 0 [] (upd H1 l (.lst [])))
  (h:∀i e H,i<=xs.length->Pv i e H->H l=some (.lst e)/\br K H a xs) (o:∀e H,Pv xs.length e H->Q H)
  (q:∀i e H x,xs[i]?=some x->i<xs.length->Pv i e H->g x (cP k fi σ) H fun σ2 r=>tc σ2 r fun b j =>
   if b=true then te σ2 j fun v m=>m l=some (.lst e)/\e.length<ak/\∃f,f<xs.length-i/\Wc xs.length Pv (i+1) f (e++[v]) (upd m l (.lst (e++[v])))else ∃f,f<xs.length-i/\Wc xs.length Pv (i+1) f e j) :
  cF k fi σ (LN K a) g tc te H1 l Q:=by
 refine jM xs.length Pv n (fun i e H hi p=>(h i e H hi p).1) (fun i e H hi p=>⟨xs,xs[i],(h i e H (cz hi) p).2,by simp[hi]⟩) (fun e H p=>⟨⟨xs,(h _ e H (aR _) p).2,aR _⟩,o e H p⟩) fun i e H x s hi p y=>?_;obtain⟨rfl,y⟩:=y;exact q i e _ x (y xs (h i e _ (cz hi) p).2) hi p
theorem Du{lo:Int}{n:Nat}(Pv:Nat->List V->Hp->Prop)(j:Pv 0 [] (upd H1 l (.lst [])))
  (m:∀i a H,i<=n->Pv i a H->H l=some (.lst a)) (o:∀a H,Pv n a H->Q H)
  (q:∀i a H,i<n->Pv i a H->g (.int (lo+i)) (cP k fi σ) H fun σ2 r=>tc σ2 r fun b f =>
   if b=true then te σ2 f fun v h=>h l=some (.lst a)/\a.length<ak/\∃e,e<n-i/\Wc n Pv (i+1) e (a++[v]) (upd h l (.lst (a++[v])))else ∃e,e<n-i/\Wc n Pv (i+1) e a f) :
  cF k fi σ (LO lo n) g tc te H1 l Q:=by
 refine jM n Pv j m (fun i a H hi p=>hi) (fun a H p=>⟨aR _,o a H p⟩) fun i a H x s hi p y=>?_;obtain⟨rfl,rfl⟩:=y;exact q i a _ hi p
theorem IV{x:Str}(Pv:Nat->List V->Hp->Prop)(j:Pv 0 [] (upd H1 l (.lst [])))
  (m:∀i a H,i<=x.cps.size->Pv i a H->H l=some (.lst a)) (n:∀a H,Pv x.cps.size a H->Q H)
  (o:∀i a H c,x.cps[i]?=some c->i<x.cps.size->Pv i a H->g (.str ⟨#[c]⟩) (cP k fi σ) H fun σ2 q=>tc σ2 q fun b f =>
   if b=true then te σ2 f fun v h=>h l=some (.lst a)/\a.length<ak/\∃e,e<x.cps.size-i/\Wc x.cps.size Pv (i+1) e (a++[v]) (upd h l (.lst (a++[v])))else ∃e,e<x.cps.size-i/\Wc x.cps.size Pv (i+1) e a f) :
  cF k fi σ (MV x) g tc te H1 l Q:=by
 refine jM x.cps.size Pv j m (fun i a H hi p=>hi) (fun a H p=>⟨aR _,n a H p⟩) fun i a H y t hi p r=>?_;obtain⟨rfl,c,s,rfl⟩:=r;exact o i a _ c s hi p
end
theorem gN{j:Nat}{x:V}{σ:St}{H:Hp}{Q:St->Hp->Prop}(h:Q (σ.set j (some x)) H):eR j x σ H Q:=h
theorem pS{σ:St}{H:Hp}{A B:Hp->Prop}(h:A H):i5 σ H (fun b a=>if b=true then A a else B a):=by
 show(if(true:Bool)=true then A H else B H)
 exact h
inductive GL{T0 T1:Type}(P:T0->T1->Prop):Prop
 |mk (x0:T0) (x1:T1):P x0 x1->GL P
inductive Lf{T0 T1 T2:Type}(P:T0->T1->T2->Prop):Prop
 |mk (x0:T0) (x1:T1) (x2:T2):P x0 x1 x2->Lf P
inductive Mu{T0 T1 T2 T3:Type}(P:T0->T1->T2->T3->Prop):Prop
 |mk (x0:T0) (x1:T1) (x2:T2) (x3:T3):P x0 x1 x2 x3->Mu P
inductive NE6{T0 T1 T2 T3 T4 T5:Type}(P:T0->T1->T2->T3->T4->T5->Prop):Prop
 |mk (x0:T0) (x1:T1) (x2:T2) (x3:T3) (x4:T4) (x5:T5):P x0 x1 x2 x3 x4 x5->NE6 P
inductive NE8{T0 T1 T2 T3 T4 T5 T6 T7:Type}(P:T0->T1->T2->T3->T4->T5->T6->T7->Prop):Prop
 |mk (x0:T0) (x1:T1) (x2:T2) (x3:T3) (x4:T4) (x5:T5) (x6:T6) (x7:T7):P x0 x1 x2 x3 x4 x5 x6 x7->NE8 P
inductive LM(p0 p1 p2:Prop):Prop
 |mk:p0->p1->p2->LM p0 p1 p2
inductive Js(p0 p1 p2 p3:Prop):Prop
 |mk:p0->p1->p2->p3->Js p0 p1 p2 p3
inductive KH(p0 p1 p2 p3 p4:Prop):Prop
 |mk:p0->p1->p2->p3->p4->KH p0 p1 p2 p3 p4
inductive Lg(p0 p1 p2 p3 p4 p5:Prop):Prop
 |mk:p0->p1->p2->p3->p4->p5->Lg p0 p1 p2 p3 p4 p5
end L2
namespace L2
open PySem PySem.W
theorem xk{K:Za}{H:Hp}:∀a:List Str,TKCs K H (a.map fun x=>TK.k (some (.inr x))) (a.map V.str)
 |[]=>by show TKCs K H [] [];unfold TKCs;rfl
 |x::a=>by
  rw[bL,bL];unfold TKCs;refine⟨_,_,rfl,?_,xk a⟩;unfold tG
  rfl
theorem Hg{K:Za}{H:Hp}{a:Addr}{xs:Zb}(h:bV K H a (xs.map V.str)):tG K H (.t (xs.map fun x=>TK.k (some (.inr x)))) (.ref a):=by
 unfold tG;exact⟨a,_,rfl,h,xk xs⟩
end L2
end

section
set_option Elab.async false
set_option linter.all false
set_option maxRecDepth 100000
namespace L2
open PySem PySem.Spec PyProof.Rows PySem.W
def KM:Expr->List Str
 |.Name x _=>[x]
 |.Tuple es _ _=>es.filterMap fun e=>match e with | .Name x _=>some x|_=>none
 |_=>[]
theorem bK{X:Cx}{b:List Stmt}{t:TS}{D:pF}{σ:St}{H:Hp}(r:t D σ H)(p:Cd X b t):∃t,Cd X b t/\t D σ H:=⟨t,p,r⟩
section
variable{X:Cx}{k k0:Nat}{ps:Zb}{sp:Sp}{x m:Str}{C:Addr}{p pos J5:Pos}{o e a b:Expr}{es:List Expr}{t:TA}{ta tb te:TE}
theorem qf(h:fN k0 X.A)(D:fU X.prog X.w X.K X.mg X.base x ps k sp)(i:PA X (e::es) t)(j:k<=k0:=by decide)(l:Gl X x:=by rfl)(f:(x==("__debug__":Str))=false:=by decide)
  (n:a_ (e::es) X.env=(false,eval e X.env)::a_ es X.env:=by rfl) (g:(backTo pos (a_ es X.env)).any (·.1)=false:=by rfl) :
  PE X (.Call (.Name x p) (e::es) [] pos) (aL sp t):=KY D (h.mono j) l i f n g
theorem qm{pl:Sem Bool}(j:fN k0 X.A)(M:GN X.prog X.w X.K X.mg X.base C m ps k sp)(l:PE X o ta)(n:PA X (e::es) t)(q:k<=k0:=by decide)
  (g:a_ (e::es) X.env=(false,eval e X.env)::a_ es X.env:=by rfl) (h:(backTo pos (a_ es X.env)).any (·.1)=false:=by rfl)
  (r:eval (.Call (.Attribute o m J5) (e::es) [] pos) X.env=(do
   let i <- eval o X.env
   sT J5.atName
   let(f,first) <- lV [i] (sQ i m pl)
   w8 pos f first (backTo pos (a_ (e::es) X.env)) (sP pos (sO [] X.env))):=by rfl) :
  PE X (.Call (.Attribute o m J5) (e::es) [] pos) (bZ C m sp [] E0 ta t):=Lu (pl:=pl) M (j.mono q) l n g h r
theorem qZ{pl:Sem Bool}(h:fN k0 X.A)(M:GN X.prog X.w X.K X.mg X.base C m ps k sp)(i:PE X o ta)(j:k<=k0:=by decide)
  (l:eval (.Call (.Attribute o m J5) [] [] pos) X.env=(do
   let g <- eval o X.env
   sT J5.atName
   let(f,first) <- lV [g] (sQ g m pl)
   w8 pos f first (backTo pos (a_ [] X.env)) (sP pos (sO [] X.env))):=by rfl) :
  PE X (.Call (.Attribute o m J5) [] [] pos) (bZ C m sp [] E0 ta aY):=J9 (pl:=pl) M (h.mono j) i l
theorem xl(f:PE X a ta)(g:PE X b tb)(h:GD b:=by exact fun _ _=>rfl):PE X (.Subscript a b pos) (aD (df X.K) ta tb):=Ev EE f g h
theorem xt(f:PE X a ta)(g:PE X b tb)(h:GD b:=by exact fun _ _=>rfl):PE X (.Subscript a b pos) (aD (jg X.K) ta tb):=Ev IA f g h
theorem xq(f:PE X a ta)(g:PE X b tb)(h:GD b:=by exact fun _ _=>rfl):PE X (.Subscript a b pos) (aD (hW X.K) ta tb):=Ev LB f g h
theorem xs'(f:PE X a ta)(g:PE X b tb)(h:GD b:=by exact fun _ _=>rfl):PE X (.Subscript a b pos) (aD C0 ta tb):=Ev IB f g h
theorem jb{f:CmpOp}{r:R2}(g:nZ X (fu f) r)(h:PE X a ta)(i:PE X b tb)(j:lX f b=false:=by exact Ip _):PT X (.Compare a [f] [b] pos) (aS (aD r ta tb)):=Es g h i j
theorem Gk{f:CmpOp}{r:R2}(g:nZ X (fu f) r)(h:PE X a ta)(i:PE X b tb)(j:lX f b=false:=by exact Ip _):PE X (.Compare a [f] [b] pos) (aD r ta tb):=Ew g h i j
theorem yZ{f:CmpOp}{r:R2}(g:nZ X (fu f) r)(h:PE X a ta)(i:PE X b tb)(j:lX f b=false:=by with_unfolding_all rfl):PT X (.Compare a [f] [b] pos) (aS (aD r ta tb)):=Es g h i j
theorem eci{f:CmpOp}{r:R2}(g:nZ X (fu f) r)(h:PE X a ta)(i:PE X b tb)(j:lX f b=false:=by with_unfolding_all rfl):PE X (.Compare a [f] [b] pos) (aD r ta tb):=Ew g h i j
theorem qB{id:String}{r:List V->Hp->VK->Prop}(h:f_ X (.builtin id) r)(i:X.mg x=none)(j:jT x=some (.builtin id))(l:PA X (e::es) t)(n:Gl X x:=by rfl)(q:x≠"__name__":=by decide)(f:(x==("__debug__":Str))=false:=by decide)
  (s:a_ (e::es) X.env=(false,eval e X.env)::a_ es X.env:=by rfl) (g:(backTo pos (a_ es X.env)).any (·.1)=false:=by rfl):PE X (.Call (.Name x p) (e::es) [] pos) (eM r t):=Bn h n i j l q f s g
theorem qL(g:X.calm=true)(h:X.mg "list"=none)(i:PA X (e::es) t)(j:Gl X "list":=by rfl)
  (l:a_ (e::es) X.env=(false,eval e X.env)::a_ es X.env:=by rfl) (f:(backTo pos (a_ es X.env)).any (·.1)=false:=by rfl):PE X (.Call (.Name "list" p) (e::es) [] pos) (eM (dE X.K) t):=im (Dx g) j h pc i (by decide) (by decide) l f
theorem ql(g:X.mg "len"=none)(h:PA X (e::es) t)(i:Gl X "len":=by rfl)
  (j:a_ (e::es) X.env=(false,eval e X.env)::a_ es X.env:=by rfl) (f:(backTo pos (a_ es X.env)).any (·.1)=false:=by rfl):PE X (.Call (.Name "len" p) (e::es) [] pos) (eM (fH X.K) t):=Bn xN i g PySem.boot_len h (by decide) (by decide) j f
theorem qs(i:Nat){f:Pos}(g:X.N.Nodup)(h:PE X e te)(hi:X.N[i]?=some x:=by rfl)(hx:Loc X.env.scope x:=by first|exact Or.inl rfl|exact Or.inr rfl)(j:uD e (some (.Name x f)) pos.line X.env=pure false:=by rfl)(hf:X.fn x=true∨X.env.scope.names.lookup x=some .local:=by first|exact .inl rfl|exact .inr rfl|assumption):
  PS X (.Assign [.Name x f] e pos) (aT te (eR i)):=Ia g hi hx h j hf
theorem gn(i:Nat)(f:X.N.Nodup)(hi:X.N[i]?=some x:=by rfl)(hx:Loc X.env.scope x:=by first|exact Or.inl rfl|exact Or.inr rfl)(hf:X.fn x=true∨X.env.scope.names.lookup x=some .local:=by first|exact .inl rfl|exact .inr rfl|assumption):PG X (.Name x pos) (eR i):=Eu f hi hx hf
theorem gc(i:Nat)(f:X.N.Nodup:=by exact of_decide_eq_true (by with_unfolding_all rfl))(hi:X.N[i]?=some x:=by rfl)(hx:Loc X.env.scope x:=by exact Or.inl rfl)(hf:X.fn x=true∨X.env.scope.names.lookup x=some .local:=by first|exact .inl rfl|exact .inr rfl|assumption):PG X (.Name x pos) (eR i):=Eu f hi hx hf
theorem a1(f:PE X a ta)(g:a_ [a] X.env=(false,eval a X.env)::a_ [] X.env:=by rfl):PA X [a] (av ta aY):=be f ba g
theorem a2(g:PE X a ta)(h:PE X b tb)(i:a_ [a,b] X.env=(false,eval a X.env)::a_ [b] X.env:=by rfl)(f:a_ [b] X.env=(false,eval b X.env)::a_ [] X.env:=by rfl):PA X [a,b] (av ta (av tb aY)):=be g (be h ba f) i
theorem a3{c:Expr}{h:TE}(i:PE X a ta)(j:PE X b tb)(l:PE X c h)(n:a_ [a,b,c] X.env=(false,eval a X.env)::a_ [b,c] X.env:=by rfl)(f:a_ [b,c] X.env=(false,eval b X.env)::a_ [c] X.env:=by rfl)(g:a_ [c] X.env=(false,eval c X.env)::a_ [] X.env:=by rfl):PA X [a,b,c] (av ta (av tb (av h aY))):=be i (a2 j l f g) n
variable{elt iter tg:Expr}{ifs:List Expr}{scope:Scope}{fi:List Nat}{wi:TI}{g:TG}{tc:TT}
theorem qc(hi:PI X tg iter wi)(q:BW k g)
  (h:∀C l f j ex n,PG (eX X (KM tg++fi.map fun i=>X.N.getD i "") scope C l f j ex n) tg g/\Le (eX X (KM tg++fi.map fun i=>X.N.getD i "") scope C l f j ex n) ifs tc/\PE (eX X (KM tg++fi.map fun i=>X.N.getD i "") scope C l f j ex n) elt te)
  (r:nF X.env.scope scope k (KM tg++fi.map fun i=>X.N.getD i "") X.N fi=true:=by with_unfolding_all rfl) (s:X.calm=true:=by rfl)
  (u:∀x,AG iter X.env x=pure x:=by intro _;rfl):PE X (.ListComp elt [⟨tg,iter,ifs,0⟩] scope pos) (cN k fi wi g tc te) :=
 Ke r s hi (fun _ _ _ _ _ _=>(h _ _ _ _ _ _).1) q (fun _ _ _ _ _ _=>(h _ _ _ _ _ _).2.1) (fun _ _ _ _ _ _=>(h _ _ _ _ _ _).2.2) u
theorem Me(j:Nat){y:Str}{n u:Pos}(v:X.N.Nodup)(hi:PI X tg iter wi)(w:BW k g)
  (h:∀C q f l ex r,PG (eX X (KM tg++fi.map fun i=>X.N.getD i "") scope C q f l ex r) tg g/\Le (eX X (KM tg++fi.map fun i=>X.N.getD i "") scope C q f l ex r) ifs tc/\PE (eX X (KM tg++fi.map fun i=>X.N.getD i "") scope C q f l ex r) elt te)
  (z:X.N[j]?=some y:=by rfl) (A:Loc X.env.scope y:=by first|exact Or.inl rfl|exact Or.inr rfl)
  (B:nF X.env.scope scope k (KM tg++fi.map fun i=>X.N.getD i "") X.N fi=true:=by with_unfolding_all rfl) (D:X.calm=true:=by rfl)
  (s:uD (.ListComp elt [⟨tg,iter,ifs,0⟩] scope pos) (some (.Name y u)) n.line X.env=pure true:=by rfl)
  (E:∀x,AG iter X.env x=pure x:=by intro _;rfl) (hf:X.fn y=true∨X.env.scope.names.lookup y=some .local:=by first|exact .inl rfl|exact .inr rfl|assumption) :
  PS X (.Assign [.Name y u] (.ListComp elt [⟨tg,iter,ifs,0⟩] scope pos) n) (aT (cN k fi wi g tc te) (eR j)) :=
 C5 v z A B D hi (fun _ _ _ _ _ _=>(h _ _ _ _ _ _).1) w (fun _ _ _ _ _ _=>(h _ _ _ _ _ _).2.1) (fun _ _ _ _ _ _=>(h _ _ _ _ _ _).2.2) s E hf
end
end L2
end

section
set_option Elab.async false
set_option linter.all false
set_option maxRecDepth 100000
namespace L2
open PySem PySem.Spec PyProof.Rows
def LQ(d:Addr)(o:Obj)(kvs:List (cX×V)):It :=
 ⟨fun i H=>H d=some (.frz o (.dK kvs))/\i<kvs.length,fun i H x H'=>H'=H/\∃kv,kvs[i]?=some kv/\x=kV kv.1,fun i H=>H d=some (.frz o (.dK kvs))/\kvs.length<=i⟩
theorem LA{k:cX}{v:Value}(h:dY k v=true):RelV (kV k) v:=by
 rcases aH h with⟨i,t,rfl,rfl⟩|⟨i,t,rfl,rfl⟩
 ·exact⟨t,rfl⟩
 ·exact⟨t,rfl⟩
theorem xw{α β:Type}{F:α->β->Prop}{e:List α}{f:List β}(g:Paired F e f){i:Nat}{a:α}{b:β}(h:e[i]?=some a)(j:f[i]?=some b):F a b:=by
 induction g generalizing i with
 |nil=>cases h
 |cons r _ k =>
  cases i with
  |zero=>injection h with h;injection j with j;subst h j;exact r
  |succ i=>exact k h j
theorem vG{P:bR}{w:World}{K:Za}{H:Hp}{h:Heap}{d:Addr}{o:Obj}{a:List (cX×V)}{k:Array ic}{n:Nat}(l:mP P w K H h)(e:H d=some (.frz o (.dK a)))(p:o.data=.dict k n):
  (d==hZ)=false/\∃j,KV a j/\h.DictAt (cD P w) d j n:=by
 obtain⟨g,_,f,j,m,s⟩:=(show cw P w K H h d (.frz o (.dK a))from l d _ e);obtain⟨t,v,x,i,u,q,r⟩:=s.dictAt;rw[g]at i;cases i;rw[p]at q;cases q;exact⟨f,j,m,o,_,g,u,p,r⟩
theorem Ff{P:bR}{w:World}{K:Za}{Y:Expr}(d it:Addr)(o:Obj)(a:List (cX×V)){r:Array ic}{N:Nat}(O:o.data=.dict r N):tX P w K Y (LQ d o a) [it] it (fun i h=>h.IsKeyIter it d i a.length N) where
 mem:=by simp
 obj:=fun i h st b g=>by
  have e:b=it:=by simpa using g
  subst e;obtain⟨o,e,c,d⟩:=st;exact⟨o,e,fun v z=>by rw[d]at z;cases z⟩
 keep:=fun i h p st k=>by
  obtain⟨Q,e,c⟩:=st;exact⟨Q,k it (by simp) Q e,c⟩
 item:=by
  intro X t u x T i U s σ H E I hf st y;subst t u x;obtain⟨hd,hi⟩:=y;obtain⟨m,l,f,A⟩:=vG I.hok hd O;have q:=f.length;obtain⟨B,C,f2,D,G,J⟩:=hf it (by simp);have L:i<l.length:=by omega
  have hx:l[i]?=some (l[i].1,l[i].2):=by simp[L]
  rw[q]at st;refine wpAny_pyNext_dict_item st A hx fun M p hk j sb=>?_;have I1:Inv X U σ H { s with heap:=p }:=I.turned (t':=s.toks) (fun b o g e=>(sb.2 b g).trans e) B C D G J;obtain⟨oi,e,c,dd⟩:=id j;have n:a[i]?=some a[i]:=by simp[hi]
  have ek:a[i].1=l[i].1:=(xw f n hx).1;rw[<-q]at j;exact⟨M,rfl,vE (s:={ s with heap:=p }) e c dd (by decide) ⟨kV a[i].1,H,I1,LA (by rw[ek];exact hk),⟨rfl,a[i],n,rfl⟩,j,fun b g=>(hf b g).1⟩⟩
 done:=by
  intro X t u x T i U s σ H E I hf st y;subst t u x;obtain⟨hd,hi⟩:=y;obtain⟨m,l,f,A⟩:=vG I.hok hd O;have q:=f.length;obtain⟨B,C,f2,D,G,J⟩:=hf it (by simp);rw[q]at st;exact wpAny_pyNext_dict_end (I.ok.hd T) st A (by simp;omega) fun p eb=>⟨rfl,I.turned (t':=s.toks) (fun b o g e=>eb b o g e) B C D G J⟩
 self:=fun _ _ _ _ _ st h=>wpAny_pyIter_keyiter st h
def K4(tl:TE):TI:=fun σ H R=>tl σ H fun x H1=>∃d kvs,x=.ref d /\
 ((H1 d=some (.dK kvs)/\∀o,R (LQ d o kvs) (upd H1 d (.frz o (.dK kvs))))∨∃o,H1 d=some (.frz o (.dK kvs))/\R (LQ d o kvs) H1)
theorem IJ{P:bR}{w:World}{K:Za}{H:Hp}{h:Heap}{d:Addr}{o:Obj}{e:List (cX×V)}(x:cw P w K H h d (.frz o (.dK e))):∃f i,o.data=.dict f i:=by
 obtain⟨g,_,_,m,_,j⟩:=x;obtain⟨k,n,p,a,q,l,r⟩:=j.dictAt;rw[g]at a;cases a;exact⟨_,_,l⟩
theorem J8{X:Cx}{B l:Expr}{C:TE}(p:PE X l C):PI X B l (K4 C):=by
 intro n s σ H R I h;refine du (p n s σ H _ I h) fun v s1 t=>?_;obtain⟨x,u,y,G,J⟩:=t;obtain⟨d,a,e,q⟩:=J;subst e;cases G;have g:∀(k:Hp) (o:Obj),Inv X n σ k s1->k d=some (.frz o (.dK a))->R (LQ d o a) k->wpAny (model X.prog X.w) X.A (pyIter (.ref d)) (MS X n σ B R) X.xe s1:=by
  intro k o i e q;obtain⟨L,M,m⟩:=IJ (i.hok d _ e);obtain⟨f,D,j,N⟩:=vG i.hok e m;have p:=j.length;refine wpAny_pyIter_dict f N ?_;refine⟨s1.heap.objs.size,[s1.heap.objs.size],_,_,k,rfl,i.kept (t':=s1.toks) fun b o e=>bt _ e,Ff d _ o a m,?_,fun b O=>?_,q⟩
  ·rw[p];exact⟨_,de _ rfl,rfl,rfl⟩
  ·have e:b=s1.heap.objs.size:=by simpa using O
   subst e;exact i.fpOk (aR _) (i.hok.fresh (aR _))
 rcases q with⟨e,q⟩|⟨o,e,q⟩
 ·obtain⟨z,f,D,j,E⟩:=(show cw X.prog X.w X.K u s1.heap d (.dK a)from y.hok d _ e);obtain⟨M,o,Q,m,r⟩:=id E.dictAt;have i:Inv X n σ (upd u d (.frz o (.dK a))) { s1 with heap:=s1.heap,toks:=s1.toks } :=
   y.write (x:=d) (e:=d) (t':=s1.toks) (by rw[e];trivial) (.inl rfl) (fun _ _ _ q=>q) ⟨o,m⟩ ⟨m,z,f,D,j,E⟩
  exact g _ o i aa (q o)
 ·exact g u o y e q
abbrev KR(K:Za):List V->Hp->VK->Prop:=fun xs H Q=>fH K xs H Q∨∃(d:Addr) (kvs:List (cX×V)),xs=[.ref d]/\Rd H d (.dK kvs)/\Q (.int kvs.length) H
theorem Gv{X:Cx}:f_ X (.builtin "len") (KR X.K):=by
 refine xN.or ?_;intro i s σ H j k Q I r h;obtain⟨d,a,rfl,e,q⟩:=h;obtain⟨u,rfl,f⟩:=vals1 r;cases f;exact Mo I e fun t l g=>⟨.int a.length,H,g,⟨t,rfl⟩,q⟩
structure pf(h:Heap)(d:Addr)(es:Array ic)(ep:Nat):Prop where
 ex:∃o,h.get? d=some o/\o.ExactDict/\o.data=.dict es ep
section
variable{prog:bR}{w:World}{A:Around}{E:Zc}{s:Shared}{d v it:Addr}{es:Array ic}{ep i:Nat}
theorem pf.ty(h:pf s.heap d es ep):s.TypeIs (.ref d) "dict":=let⟨o,a,e,_⟩:=h.ex;⟨o,a,e.1⟩
end
structure LU(P:bR)(w:World)(K:Za)(d:Addr)(o:Obj)(u:HO)(n:Nat)(ent:Nat->Hp->V->V->Prop)(es:Array ic)(ep:Nat):Prop where
 ex:o.ExactDict
 dat:o.data=.dict es ep
 sz:es.size=n
 get:∀{H:Hp}{h:Heap}{i:Nat}(hi:i<es.size),mP P w K H h->H d=some (.frz o u)->∃a b,ent i H a b/\RelV a es[i].key/\RelV b es[i].val
def LD(K:Za)(kvs:List (TK×V)):Nat->Hp->V->V->Prop:=fun i H a b=>∃k,kvs[i]?=some (k,b)/\tG K H k a
theorem xG{P:bR}{w:World}{K:Za}{H:Hp}{h:Heap}{d:Addr}{o:Obj}{f:List (TK×V)}(s:mP P w K H h)(e:H d=some (.frz o (.dT f))):
  (d==hZ)=false/\∃es t,LU P w K d o (.dT f) f.length (LD K f) es t:=by
 obtain⟨g,z,n,D,u,Y,es,t,p,ex,y,v,nd⟩:=(show cw P w K H h d (.frz o (.dT f))from s d _ e);rw[g]at p;cases p;have E:es.size=D.length:=by rw[<-md,v,ai]
 refine⟨n,es,t,ex,y,by rw[E,Paired.length u],fun{G I i} hi q J=>?_⟩;obtain⟨L,z',x,xs',j,M,N,O,k,Q,r,l,T⟩:=(show cw P w K G I d (.frz o (.dT f))from q d _ J);rw[L]at k;cases k;rw[y]at r;cases r;have U:es.size=xs'.length:=by rw[<-md,l,ai]
 have m:i<xs'.length:=by omega
 have A:i<f.length:=by rw[Paired.length j];exact m
 have B:=xw j (i:=i) (a:=f[i]) (b:=xs'[i]) (by simp[A]) (by simp[m]);have C:es[i]=Ec (bO P w) xs'[i]:=by
  have:es.toList[i]?=some es[i]:=by simp[hi]
  rw[l,cS,iY m]at this;injection this with this;exact this.symm
 refine⟨.ref xs'[i].2.1,f[i].2,⟨f[i].1,by simp[A],B.2.1⟩,?_,?_⟩
 ·rw[C];exact rfl
 ·rw[C];exact B.2.2.2
section
variable{prog:bR}{w:World}{A:Around}{E:Zc}{s:Shared}{d v it:Addr}{es:Array ic}{ep i:Nat}
theorem CZ{Q:Zc}(h:pf s.heap d es ep)(a:(d==hZ)=false)(q:Q (.ref s.heap.objs.size) { s with heap:=s.heap.push { cls:=.type "dict_values",data:=.fields #[.ref d] } }):
  wpAny (model prog w) A (call (.builtin "dict.values") [.ref d]) Q E s:=by
 refine q0 F.slot_dict_values h.ty F.entry_dict_values ?_ (F.args_dict_values_1 _);refine am ?_;unfold dD.Dict.noArgs;refine am <| uM h.ty <| ?_;refine aQ (show wpAny _ _ (yz d >>= _) _ _ s from ?_);unfold yz;rw[if_neg (fun z=>by rw[a]at z;cases z)];exact am <| aQ <| am <| j_ <| aQ ⟨_,rfl,q⟩
theorem FO{Q:Option Value->Shared->Prop}(j:s.heap.IsValIter it d i es.size ep)(h:pf s.heap d es ep)(hi:i<es.size)
  (q:∀k,k.IsValIter it d (i+1) es.size ep->iN it s.heap k->Q (some es[i].val) { s with heap:=k }):wpAny (model prog w) A (pyNext (.ref it)) Q E s:=by
 obtain⟨r,f,l,a⟩:=id j;obtain⟨o,m,hx,e⟩:=h.ex;have g:=j.typeIs;unfold pyNext;refine am <| rC <| mh (name:=mf "__next__") g uJ <| q0 uJ g F.entry_dict_valueiterator_next ?_ (F.args_dict_valueiterator_next_1 _);refine am <| aQ <| am <| am ?_
 first|refine am <| yy g <| aQ ?_|refine am <| yv g <| aQ ?_
 refine am <| yu f a ?_;simp only[show uI "dict_valueiterator"=false by decide,nU,if_false];show wpAny _ _ (if(Value.ref d==Value.none)=true then _ else _) _ _ _
 rw[if_neg (show ¬((Value.ref d==Value.none)=true)from hV)];refine am <| aQ <| am <| oz m e ?_;rw[if_neg (by simp)];refine am <| aQ <| am <| rB m e ?_;rw[if_neg (by simp)];refine aQ ?_;simp only[show ¬((i:Int)<0)from by omega,if_false,ka,Array.getElem?_eq_getElem hi];refine am ?_
 first|refine am <| yy g <| aQ ?_|refine am <| yv g <| aQ ?_
 refine am <| wpAny_isOneOf_valiter g ?_;show wpAny _ _ (yt (.ref it) 1 (rawInt ((i:Int)+1)) >>= _) _ _ s;refine am <| rG f a (by simp) ?_;have n:(s.heap.update it (yq (·.setIfInBounds 1 (rawInt ((i:Int)+1))))).IsValIter it d (i+1) es.size ep:=⟨_,uU _ f (Obj.isFreed_of_fields (rF a _)),(Obj.cls_mapFields ..).trans l,by rw[rF a];simp[rawInt]⟩;have p:=Heap.IsValIter.typeIs (s:={ s with heap:=s.heap.update it (yq (·.setIfInBounds 1 (rawInt ((i:Int)+1)))) }) n;refine am <| lY <| am <| wpAny_isOneOf_valiter p <| am <| wpAny_isOneOf_valiter p ?_;show wpAny _ _ (pure es[i].val) _ _ _;exact aQ <| aQ ⟨_,rfl,aQ <| q _ n (kT ..)⟩
theorem HQ{Q:Option Value->Shared->Prop}(p:A.handled=none)(g:s.heap.IsValIter it d i es.size ep)(h:pf s.heap d es ep)(hi:es.size<=i)
  (q:∀l,Heap.ExtBut it s.heap l->Q none { s with heap:=l }):wpAny (model prog w) A (pyNext (.ref it)) Q E s:=by
 obtain⟨t,j,r,k⟩:=id g;obtain⟨o,n,hx,e⟩:=h.ex;have f:=g.typeIs;unfold pyNext;refine am <| rC <| mh (name:=mf "__next__") f uJ <| q0 uJ f F.entry_dict_valueiterator_next ?_ (F.args_dict_valueiterator_next_1 _);refine am <| aQ <| am <| am ?_
 first|refine am <| yy f <| aQ ?_|refine am <| yv f <| aQ ?_
 refine am <| yu j k ?_;simp only[show uI "dict_valueiterator"=false by decide,nU,if_false];show wpAny _ _ (if(Value.ref d==Value.none)=true then _ else _) _ _ _
 rw[if_neg (show ¬((Value.ref d==Value.none)=true)from hV)];refine am <| aQ <| am <| oz n e ?_;rw[if_neg (by simp)];refine am <| aQ <| am <| rB n e ?_;rw[if_neg (by simp)];refine aQ ?_;simp only[show ¬((i:Int)<0)from by omega,if_false,ka,Array.getElem?_eq_none hi];refine am ?_
 first|refine am <| yy f <| aQ ?_|refine am <| yv f <| aQ ?_
 show wpAny _ _ (yt (.ref it) 0 .none >>= _) _ _ s;refine am <| rG j k (by simp) ?_;show wpAny _ _ (newExc (.type "StopIteration") [] >>= _) _ _ _;refine am ?_;simp only[newExc,newTuple];refine am <| j_ ?_ (by size_fits);refine am (m:=rE _ _) <| wpAny_of_eq (a:=Value.none) (by first|rfl|(simp only[rE];rfl)) <| j_ ?_ (by size_fits)
 simp only[raiseNew];refine am <| wpAny_handled ?_;rw[show A.in1.handled=none from p];refine am <| aQ <| wpAny_throw ?_;refine am (AI (b:=true) (T:="StopIteration") ⟨_,de _ rfl,rfl⟩ isSubtype_stop (aQ (q _ (((kT ..).extBut.push _).push _))))
end
end L2
end

section
set_option Elab.async false
set_option linter.all false
set_option maxRecDepth 100000
namespace L2
open PySem PySem.Spec PyProof.Rows
section
variable{prog:bR}{w:World}{A:Around}{E:Zc}{s:Shared}{d v it:Addr}{es:Array ic}{ep i:Nat}
theorem FQ{Q:Zc}(j:(d==hZ)=false)(h:pf s.heap d es ep)
  (q:∀f,f.IsKeyIter s.heap.objs.size d 0 es.size ep->(∀b o,s.heap.get? b=some o->f.get? b=some o)->Q (.ref s.heap.objs.size) { s with heap:=f }):wpAny (model prog w) A (pyIter (.ref d)) Q E s:=by
 obtain⟨o,g,hx,a⟩:=h.ex;refine wpAny_pyIter_slot h.ty F.slot_dict_iter <| q0 F.slot_dict_iter h.ty F.entry_dict_iter ?_ (F.args_dict_iter_1 _);unfold dD.«dict.__iter__»;refine am ?_;unfold dD.Dict.dictSlotNone;refine am <| uM h.ty <| ?_;refine aQ (show wpAny _ _ (yz d >>= _) _ _ s from ?_);unfold yz;rw[if_neg (fun z=>by rw[j]at z;cases z)];refine am <| aQ <| am <| oz g a <| am <| rB g a ?_;refine am (j_ (aQ ⟨_,rfl,"dict_keyiterator",_,⟨_,de _ rfl,rfl⟩,uH.lookup,?_⟩));exact q _ ⟨_,de _ rfl,rfl,by simp[rawInt]⟩ fun b o e=>bt _ e
theorem FP{Q:Option Value->Shared->Prop}(j:s.heap.IsKeyIter it d i es.size ep)(h:pf s.heap d es ep)(hi:i<es.size)
  (q:∀k,k.IsKeyIter it d (i+1) es.size ep->iN it s.heap k->Q (some es[i].key) { s with heap:=k }):wpAny (model prog w) A (pyNext (.ref it)) Q E s:=by
 obtain⟨r,f,l,a⟩:=id j;obtain⟨o,m,hx,e⟩:=h.ex;have g:=j.typeIs;unfold pyNext;refine am <| rC <| mh (name:=mf "__next__") g uH <| q0 uH g F.entry_dict_keyiterator_next ?_ (F.args_dict_keyiterator_next_1 _);refine am <| aQ <| am <| am ?_
 first|refine am <| yo g <| aQ ?_|refine am <| yn g <| aQ ?_
 refine am <| yu f a ?_;simp only[show uI "dict_keyiterator"=false by decide,nU,if_false];show wpAny _ _ (if(Value.ref d==Value.none)=true then _ else _) _ _ _
 rw[if_neg (show ¬((Value.ref d==Value.none)=true)from hV)];refine am <| aQ <| am <| oz m e ?_;rw[if_neg (by simp)];refine am <| aQ <| am <| rB m e ?_;rw[if_neg (by simp)];refine aQ ?_;simp only[show ¬((i:Int)<0)from by omega,if_false,ka,Array.getElem?_eq_getElem hi];refine am ?_
 first|refine am <| yo g <| aQ ?_|refine am <| yn g <| aQ ?_
 refine am <| wpAny_isOneOf_keyiter g ?_;show wpAny _ _ (yt (.ref it) 1 (rawInt ((i:Int)+1)) >>= _) _ _ s;refine am <| rG f a (by simp) ?_;have n:(s.heap.update it (yq (·.setIfInBounds 1 (rawInt ((i:Int)+1))))).IsKeyIter it d (i+1) es.size ep:=⟨_,uU _ f (Obj.isFreed_of_fields (rF a _)),(Obj.cls_mapFields ..).trans l,by rw[rF a];simp[rawInt]⟩;have p:=Heap.IsKeyIter.typeIs (s:={ s with heap:=s.heap.update it (yq (·.setIfInBounds 1 (rawInt ((i:Int)+1)))) }) n;refine am <| lY <| am <| wpAny_isOneOf_keyiter p ?_;show wpAny _ _ (pure es[i].key) _ _ _;exact aQ <| aQ ⟨_,rfl,aQ <| q _ n (kT ..)⟩
theorem HR{Q:Option Value->Shared->Prop}(p:A.handled=none)(g:s.heap.IsKeyIter it d i es.size ep)(h:pf s.heap d es ep)(hi:es.size<=i)
  (q:∀l,Heap.ExtBut it s.heap l->Q none { s with heap:=l }):wpAny (model prog w) A (pyNext (.ref it)) Q E s:=by
 obtain⟨t,j,r,k⟩:=id g;obtain⟨o,n,hx,e⟩:=h.ex;have f:=g.typeIs;unfold pyNext;refine am <| rC <| mh (name:=mf "__next__") f uH <| q0 uH f F.entry_dict_keyiterator_next ?_ (F.args_dict_keyiterator_next_1 _);refine am <| aQ <| am <| am ?_
 first|refine am <| yo f <| aQ ?_|refine am <| yn f <| aQ ?_
 refine am <| yu j k ?_;simp only[show uI "dict_keyiterator"=false by decide,nU,if_false];show wpAny _ _ (if(Value.ref d==Value.none)=true then _ else _) _ _ _
 rw[if_neg (show ¬((Value.ref d==Value.none)=true)from hV)];refine am <| aQ <| am <| oz n e ?_;rw[if_neg (by simp)];refine am <| aQ <| am <| rB n e ?_;rw[if_neg (by simp)];refine aQ ?_;simp only[show ¬((i:Int)<0)from by omega,if_false,ka,Array.getElem?_eq_none hi];refine am ?_
 first|refine am <| yo f <| aQ ?_|refine am <| yn f <| aQ ?_
 show wpAny _ _ (yt (.ref it) 0 .none >>= _) _ _ s;refine am <| rG j k (by simp) ?_;show wpAny _ _ (newExc (.type "StopIteration") [] >>= _) _ _ _;refine am ?_;simp only[newExc,newTuple];refine am <| j_ ?_ (by size_fits);refine am (m:=rE _ _) <| wpAny_of_eq (a:=Value.none) (by first|rfl|(simp only[rE];rfl)) <| j_ ?_ (by size_fits)
 simp only[raiseNew];refine am <| wpAny_handled ?_;rw[show A.in1.handled=none from p];refine am <| aQ <| wpAny_throw ?_;refine am (AI (b:=true) (T:="StopIteration") ⟨_,de _ rfl,rfl⟩ isSubtype_stop (aQ (q _ (((kT ..).extBut.push _).push _))))
end
def LP(d:Addr)(o:Obj)(u:HO)(n:Nat)(ent:Nat->Hp->V->V->Prop):It :=
 ⟨fun i H=>H d=some (.frz o u)/\i<n,fun i H x H'=>H'=H/\∃b,ent i H x b,fun i H=>H d=some (.frz o u)/\n<=i⟩
theorem Fd{P:bR}{w:World}{K:Za}{Q:Expr}{d it:Addr}{o:Obj}{u:HO}{n:Nat}{l:Nat->Hp->V->V->Prop}{L:Array ic}{M:Nat}(f:LU P w K d o u n l L M):
  tX P w K Q (LP d o u n l) [it] it (fun i h=>h.IsKeyIter it d i n M) where
 mem:=by simp
 obj:=fun i h st b j=>by
  have e:b=it:=by simpa using j
  subst e;obtain⟨o,e,c,d⟩:=st;exact⟨o,e,fun v z=>by rw[d]at z;cases z⟩
 keep:=fun i h q st k=>st.at fun o e=>k it (by simp) o e
 item:=by
  intro X t x y N i O s σ H E I hf st A;subst t x y;obtain⟨r,hi⟩:=A;have m:i<L.size:=by rw[f.sz];exact hi
  obtain⟨g,T⟩:=(show cw X.prog X.w X.K H s.heap d (.frz o u)from I.hok d _ r);obtain⟨a,b,U,Y,rb⟩:=f.get m I.hok r;obtain⟨B,C,f2,D,G,J⟩:=hf it (by simp);rw[<-f.sz]at st;refine FP st ⟨o,g,f.ex,f.dat⟩ m fun q p sb=>?_;have I1:Inv X O σ H { s with heap:=q }:=I.turned (t':=s.toks) (fun b o j e=>(sb.2 b j).trans e) B C D G J;obtain⟨oi,e,c,dd⟩:=id p;exact⟨_,rfl,vE (s:={ s with heap:=q }) e c dd (by decide) ⟨a,H,I1,Y,⟨rfl,b,U⟩,by rw[<-f.sz];exact p,fun b j=>(hf b j).1⟩⟩
 done:=by
  intro X t x y N i O s σ H E I hf st A;subst t x y;obtain⟨r,hi⟩:=A;obtain⟨g,T⟩:=(show cw X.prog X.w X.K H s.heap d (.frz o u)from I.hok d _ r);obtain⟨B,C,f2,D,G,J⟩:=hf it (by simp);rw[<-f.sz]at st;exact HR (I.ok.hd N) st ⟨o,g,f.ex,f.dat⟩ (by rw[f.sz];exact hi) fun q eb=>⟨rfl,I.turned (t':=s.toks) (fun b o j e=>eb b o j e) B C D G J⟩
 self:=fun _ _ _ _ _ st h=>wpAny_pyIter_keyiter st h
def IC(K:Za)(tl:TE):TI:=fun σ H R=>tl σ H fun x H1=>∃d kvs,x=.ref d /\
 ((H1 d=some (.dT kvs)/\∀o,R (LP d o (.dT kvs) kvs.length (LD K kvs)) (upd H1 d (.frz o (.dT kvs))))∨∃o,H1 d=some (.frz o (.dT kvs))/\R (LP d o (.dT kvs) kvs.length (LD K kvs)) H1)
section
variable{X:Cx}{J3:Zd}{σ:St}{l tg:Expr}{tl:TE}
theorem xB{R:It->Hp->Prop}{a:Hp}{s1:Shared}{d:Addr}{o:Obj}{u:HO}{n:Nat}{f:Nat->Hp->V->V->Prop}{m:Array ic}{p:Nat}(i:LU X.prog X.w X.K d o u n f m p)(h:(d==hZ)=false)(j:Inv X J3 σ a s1)(e:a d=some (.frz o u))(q:R (LP d o u n f) a):
  wpAny (model X.prog X.w) X.A (pyIter (.ref d)) (MS X J3 σ tg R) X.xe s1:=by
 obtain⟨g,_⟩:=(show cw X.prog X.w X.K a s1.heap d (.frz o u)from j.hok d _ e);refine FQ h ⟨o,g,i.ex,i.dat⟩ fun r k s=>?_;have t:Inv X J3 σ a { s1 with heap:=r,toks:=s1.toks }:=j.kept (t':=s1.toks) s;refine⟨_,[_],_,_,a,rfl,t,Fd i,by rw[<-i.sz];exact k,fun b v=>?_,q⟩;have e:b=s1.heap.objs.size:=by simpa using v
 subst e;exact j.fpOk (aR _) (j.hok.fresh (aR _))
theorem Ih(D:PE X l tl):PI X tg l (IC X.K tl):=by
 intro J3 s σ H R I h;refine du (D J3 s σ H _ I h) fun v s1 k=>?_;obtain⟨x,m,j,E,d,g,ex,q⟩:=k;subst ex;cases E;rcases q with⟨e,q⟩|⟨o,e,q⟩
 ·obtain⟨z,i,xs',n,o,G,J,t,r⟩:=id (show cw X.prog X.w X.K m s1.heap d (.dT g)from j.hok d _ e);have C:Inv X J3 σ (upd m d (.frz o (.dT g))) { s1 with heap:=s1.heap,toks:=s1.toks } :=
   j.write (x:=d) (e:=d) (t':=s1.toks) (by rw[e];trivial) (.inl rfl) (fun _ _ _ q=>q) ⟨o,t⟩ ⟨t,z,i,xs',Paired.mapP n (fun p q r=>⟨r.1,tG.keeps (fun b L u=>by rw[aj (fun z=>by rw[z,e]at u;cases u)];exact u) 8 r.2.2.1 r.2.1,r.2.2⟩),o,G,J,t,r⟩
  obtain⟨f,y,A,B⟩:=xG C.hok (aa (H:=m) (a:=d));exact xB B f C aa (q o)
 ·obtain⟨f,y,A,B⟩:=xG j.hok e;exact xB B f j e q
end
end L2
end

section
set_option Elab.async false
set_option linter.all false
set_option maxRecDepth 100000
namespace HT
open PySem PySem.Spec PyProof.Rows
end HT
namespace L2
open PySem PySem.Spec PyProof.Rows
end L2
namespace HT
open PySem PySem.Spec PyProof.Rows
end HT
namespace L2
open PySem PySem.Spec PyProof.Rows
end L2
end

section
set_option Elab.async false
set_option linter.all false
set_option maxRecDepth 100000
namespace L2
open PySem PySem.Spec PyProof.Rows
def MB(_ j:Int):Prop:=0<j/\j.natAbs.log2<9000
abbrev Er:List V->Hp->VK->Prop:=fun xs H Q=>∃i j,xs=[.int i,.int j]/\MB i j/\∀p,H p=none->Q (.ref p) (upd H p (.tup [.int (i / j),.int (i % j)]))
section
variable{X:Cx}
theorem Aj:f_ X (.builtin "divmod") Er:=by
 intro k s σ H l m Q I r h;obtain⟨i,j,rfl,a,q⟩:=h;obtain⟨u,v,rfl,f,g⟩:=vals2 r;obtain⟨t,rfl⟩:=f;obtain⟨n,rfl⟩:=g;have p:0<j:=a.1;refine divmod_int (by omega) ?_ (.inl (PyProof.noPylong_of_log2 a.2));rw[Int.fdiv_eq_ediv_of_nonneg i (by omega),Int.fmod_eq_emod_of_nonneg i (by omega)];exact⟨.ref s.heap.objs.size,_,I.laid (t':=s.toks+1+1) (fun b o e=>bt _ e) (aR _) (show cw X.prog X.w X.K _ _ _ (.tup [.int (i / j),.int (i % j)])from⟨by show 2<=ak;decide,_,.cons ⟨_,rfl⟩ (.cons ⟨_,rfl⟩ .nil),IsTup.new _ _⟩),rfl,q _ (I.hok.fresh (aR _))⟩
variable{tg l:Expr}{ta:TA}{p pos:Pos}
end
end L2
namespace L2
open PySem PySem.Spec PyProof.Rows
end L2
end

section
set_option Elab.async false
set_option linter.all false
set_option maxRecDepth 100000
namespace L2
open PySem PySem.Spec PyProof.Rows
end L2
end

section
set_option Elab.async false
set_option linter.all false
set_option maxRecDepth 100000
namespace HT
open PySem PyProof.Rows
end HT
namespace L2
open PySem PySem.Spec PyProof.Rows
end L2
end

section
set_option Elab.async false
set_option linter.all false
set_option maxRecDepth 100000
namespace HT
open PySem PyProof.Rows
section
variable{prog:bR}{w:World}{A:Around}{E:Zc}{s:Shared}
end
end HT
end

section
set_option Elab.async false
set_option linter.all false
set_option maxRecDepth 100000
namespace L2
open PySem PySem.Spec PyProof.Rows
theorem pf.kept{h h':Heap}{d:Addr}{a:Array ic}{f:Nat}(r:pf h d a f)(k:∀o,h.get? d=some o->h'.get? d=some o):pf h' d a f:=let⟨o,g,e⟩:=r.ex;⟨o,k o g,e⟩
end L2
end

section
set_option Elab.async false
set_option linter.all false
set_option maxRecDepth 100000
namespace HT
open PySem PyProof.Rows
end HT
end

section
set_option Elab.async false
set_option linter.all false
set_option maxRecDepth 100000
namespace L2
open PySem PySem.Spec PyProof.Rows
def txK(f:Zb):TK:=.t (f.map fun x=>TK.k (some (.inr x)))
theorem xg{K:Za}{H:Hp}:∀{e:Zb}{a:List V},TKCs K H (e.map fun x=>TK.k (some (.inr x))) a->a=e.map V.str
 |[],a,h=>by rw[yT]at h;unfold TKCs at h;exact h
 |s::e,a,h=>by
  rw[bL]at h;unfold TKCs at h;obtain⟨v,i,rfl,f,g⟩:=h;unfold tG at f;rw[f,xg g]
  rfl
theorem Hc{K:Za}{H:Hp}{f:Zb}{a:V}(h:tG K H (txK f) a):∃b,a=.ref b/\bV K H b (f.map V.str):=by
 unfold txK tG at h;obtain⟨b,i,rfl,e,g⟩:=h;rw[xg g]at e;exact⟨b,rfl,e⟩
section
variable{prog:bR}{w:World}{A:Around}{s:Shared}{d v:Addr}{es:Array ic}{ep:Nat}
theorem CY(e:s.heap.IsValuesView v d)(h:pf s.heap d es ep):∃i:Obj,(∀(E Q:Zc),Q (.ref s.heap.objs.size) { s with heap:=s.heap.push i }->wpAny (model prog w) A (pyIter (.ref v)) Q E s)/\(s.heap.push i).IsValIter s.heap.objs.size d 0 es.size ep:=by
 obtain⟨l,f,k,g⟩:=id e;obtain⟨o,j,hx,a⟩:=h.ex;refine⟨{ cls:=.type "dict_valueiterator",data:=.fields #[.ref d,rawInt 0,rawInt es.size,rawInt ep] },fun E Q q=>?_,⟨_,de _ rfl,rfl,by simp[rawInt]⟩⟩;refine wpAny_pyIter_slot e.typeIs F.slot_dict_values_iter <| q0 F.slot_dict_values_iter e.typeIs F.entry_dict_values_iter ?_ (F.args_dict_values_iter_1 _);unfold dD.«dict_values.__iter__» dD.Dict_items.dictOf dD.Dict_items.newIterator;refine am <| aQ <| am <| am <| h_ f g (x:=.ref d) rfl <| aQ <| am <| am <| oz j a <| am <| rB j a ?_;simp only[show uI "dict_valueiterator"=false by decide,nU,if_false];exact j_ (aQ ⟨_,rfl,"dict_valueiterator",_,⟨_,de _ rfl,rfl⟩,uJ.lookup,q⟩)
theorem GZ:PySem.W.KdlSrc prog w "dict_values" v d es.size (fun i x=>(es[i]?).map (·.val)=some x) fun h=>h.IsValuesView v d/\pf h d es ep where
 type:=fun s r=>r.1.typeIs
 there:=fun h r=>by obtain⟨o,f,_⟩:=r.2.ex;obtain⟨C,g,_⟩:=r.1;exact⟨bg g,bg f⟩
 keep:=fun h j r k=>⟨let⟨o,e,c⟩:=r.1;⟨o,k v (.inl rfl) o e,c⟩,r.2.kept (k d (.inr rfl))⟩
 notList:=by decide
 notTuple:=by decide
 hint:=fun A E s Q r q=>PySem.W.kdl_hint_values r.1.typeIs q
 iter:=fun A s p r=>by
  obtain⟨t,u,y⟩:=CY (prog:=prog) (w:=w) (A:=A) r.1 r.2;have ne:d≠s.heap.objs.size:=by obtain⟨o,f,_⟩:=r.2.ex;exact cK (bg f)
  refine⟨t,fun i h=>h.IsValIter s.heap.objs.size d i es.size ep/\pf h d es ep,u,⟨by simp,?_,?_,?_,?_⟩,y,r.2.kept fun o e=>bt _ e⟩
  ·rintro i h j ⟨a,b⟩ k;obtain⟨o,e,c⟩:=a;exact⟨⟨o,k _ (by simp) o e,c⟩,b.kept fun o e=>k d (by simp) o e⟩
  ·rintro i m Q E hi ⟨a,b⟩ q;refine FO a b hi fun j z n=>q _ _ _ (by simp[hi]) ⟨z,b.kept fun o e=>(n.2 d ne).trans e⟩ fun b o l e=>(n.2 b (by simpa using l)).trans e
  ·rintro m Q E ⟨a,b⟩ q;exact HQ p a b (aR _) fun j B=>q _ _ fun b o l e=>B b o (by simpa using l) e
  ·rintro i m Q E ⟨a,b⟩ q;exact wpAny_pyIter_valiter a q
end
def Hl(tl:TE):TE:=fun σ H Q=>tl σ H fun x H1=>∃(d:Addr) (kvs:List (TK×V)),x=.ref d/\Rd H1 d (.dT kvs)/\∀l,H1 l=none->Q (.ref l) (upd H1 l (.lst (kvs.map ym)))
section
variable{X:Cx}{p2 pos2 J5 J4:Pos}
theorem Bl{l:Expr}{J:TE}(O:X.calm=true)(T:Gl X "list")(D:X.mg "list"=none)(U:PE X l J)(i:w_ l "values" X.env (eval l X.env)=eval l X.env:=by rfl)(k:(J5.endLine==J4.line)=true:=by rfl)
  (r:a_ [.Call (.Attribute l "values" J5) [] [] J4] X.env=[(false,eval (.Call (.Attribute l "values" J5) [] [] J4) X.env)]:=by rfl) :
  PE X (.Call (.Name "list" p2) [.Call (.Attribute l "values" J5) [] [] J4] [] pos2) (Hl J):=by
 intro Y s σ H Q I h;refine Call_ (o6 I T D pc (AH ?_ (by rw[r];rfl) (by rfl)));rw[r];show wpAny _ _ (spliced ((false,eval (.Call (.Attribute l "values" J5) [] [] J4) X.env)::[])) _ _ s;refine DU ?_;refine wpAny_Call_method0_late i k (du (U Y s σ H _ I h) fun v s1 E=>?_);obtain⟨x,H1,G,r1,d,m,ex,e,q⟩:=E;subst ex;cases r1;obtain⟨z,t,B,u,o,es,ep,L,ex,hd,n,nd⟩:=id (show cw X.prog X.w X.K H1 s1.heap d (.dT m)from HD G.hok e);have p:pf s1.heap d es ep:=⟨o,L,ex,hd⟩;refine⟨"dict","dict.values",F.plainAttrs_dict,F.slot_dict_values,F.type_dict_values,p.ty,fun a z=>?_,yW rfl (PySem.evalArgs_none (CZ p t ?_))⟩
 ·cases z;exact⟨o,L,ex.2.1⟩
 refine Calls.spliced_nil ?_;have g:=Paired.length u;have y:es.size=B.length:=by rw[<-md,n,ai]
 refine PySem.W.kdl_call (s:={ s1 with heap:=s1.heap.push { cls:=.type "dict_values",data:=.fields #[.ref d] } }) (GZ (v:=s1.heap.objs.size) (d:=d) (es:=es) (ep:=ep)) (I.ok.hd O) ⟨⟨_,de _ rfl,rfl,rfl⟩,p.kept fun o e=>bt _ e⟩ (by rw[y,<-g];exact z) fun h' tk f c hk hD A=>?_;obtain⟨hn,hP⟩:=A;have M:f.toList=B.map fun x=>x.2.2:=by
  apply List.ext_getElem?;intro j;by_cases hj:j<f.size
  ·have C:f[j]?=some f[j]:=by simp[hj]
   have e2:=hP j _ C;have e3:es[j]?=(B[j]?).map fun x=>Ec (bO X.prog X.w) x:=by rw[<-uS,n,cS]
   rw[uS,C,cS,<-e2,e3];cases B[j]?<;>rfl
  ·have C:f[j]?=none:=by simp;omega
   rw[uS,C,cS,List.getElem?_eq_none (by omega)]
   rfl
 have hv:bA (m.map ym) f.toList:=by
  rw[M];clear M g y n nd e q z
  induction u with
  |nil=>exact .nil
  |cons h _ ih=>exact .cons h.2.2.2 ih
 have N:s1.heap.objs.size<=(s1.heap.push { cls:=.type "dict_values",data:=.fields #[.ref d] }).objs.size:=by rw[pM];exact DQ _
 exact⟨.ref _,_,G.laid (o:=.lst (m.map ym)) (fun b o e=>hk b o (bt _ e)) N ⟨by rw[ai];exact z,f.toList,c,hv,by rw[Array.toArray_toList];exact hD⟩,rfl,q _ (G.hok.fresh N)⟩
end
section
variable{prog:bR}{w:World}{A:Around}{E:Zc}{s:Shared}
def Je(prog:bR)(w:World)(h:Heap)(u:Value)(x:TK×Addr×Value):Prop:=∃t,u=.ref t/\h.IsTuple t #[.ref x.2.1,x.2.2]/\(bO prog w).is h x.1 x.2.1
def storeAll(acc xs:List (TK×Addr×Value)):List (TK×Addr×Value):=xs.foldl (fun a x=>oB a x.1 x.2.1 x.2.2) acc
theorem A9(e:List (TK×Addr×Value))(k:TK)(a:Addr)(v:Value):(oB e k a v).length<=e.length+1:=by
 unfold oB;split
 ·rw[ai];omega
 ·rw[aA,yV];exact aR _
theorem uc{h h':Heap}{k:TK}{a:Addr}(t:(bO prog w).is h k a)(m:∀b o items n,h.get? b=some o->o.cls=.type "tuple"->o.data=.seq items n->h'.get? b=some o):(bO prog w).is h' k a:=⟨nH.mono m 8 t.2 t.1,t.2⟩
theorem uy{h f:Heap}{D:Addr}{a:List (TK×Addr×Value)}(g:h.DictOfH (bO prog w) D a)(e:∀o,h.get? D=some o->f.get? D=some o)(m:∀b o items n,h.get? b=some o->o.cls=.type "tuple"->o.data=.seq items n->f.get? b=some o):f.DictOfH (bO prog w) D a:=by
 obtain⟨o,i,j,k,l,p,q,r,t⟩:=g;exact⟨o,i,j,e o k,l,p,q,fun x hx=>uc (r x hx) m,t⟩
theorem Fa{R:Result->Shared->Prop}(hh:A.handled=none)(hu:A.units+14<cLine){D it l:Addr}{items:Array Value}{ps:List (TK×Addr×Value)}(C:D≠it)(U:l≠it)(Y:l≠D)(bb:ps.length=items.size):
  ∀(n i:Nat) (s:Shared) (a:List (TK×Addr×Value)),items.size-i=n->i<=items.size->a.length+(items.size-i)<=ak->s.heap.IsListIter it l i->s.heap.IsList l items->s.heap.DictOfH (bO prog w) D a ->
   (∀(j:Nat) (u:Value) (x:TK×Addr×Value),items[j]?=some u->ps[j]?=some x->Je prog w s.heap u x) ->
   (∀y tk,y.DictOfH (bO prog w) D (storeAll a (ps.drop i))->(∀b o,b≠D->b≠it->s.heap.get? b=some o->y.get? b=some o)->R (.ok (.ret .none)) { s with heap:=y,toks:=tk }) ->
   zzl78 (model prog w) A (.builtin "dict.update.loop" ⟨[.ref D,.ref it,rawInt i,.none],[]⟩) R s:=by
 intro n
 induction n with
 |zero =>
  intro i s a hn hi hz p Q T hp hR;have e:i=items.size:=by omega
  subst e;refine yF gX ?_;rw[yE cT _];show wpAny _ A.in1 (pyNext (.ref it) >>= _) _ _ s;refine am (wpAny_pyNext_list_end hh p Q (by simp) fun y eb=>?_);show wpAny _ _ (dD.Dict.addKeywords D [] >>= _) _ _ _;refine am (aQ (aQ ?_));have G:∀b o,b≠it->s.heap.get? b=some o->y.get? b=some o:=fun b o hb e=>eb b o hb e;have H:y.DictOfH (bO prog w) D a:=uy T (fun o e=>G D o C e) fun b o items n e c d=>G b o (by
   rintro rfl;obtain⟨o',f,h,_⟩:=p;rw[e]at f;cases f;rw[c]at h;simp at h) e
  have q:=hR y s.toks (by rw[oy (by omega)];exact H) fun b o _ hb e=>G b o hb e;exact q
 |succ n ih =>
  intro i s a hn hi hz p Q T hp hR;have I:i<items.size:=by omega
  refine yF gX ?_;rw[yE cT _];show wpAny _ A.in1 (pyNext (.ref it) >>= _) _ _ s;have J:items[i]?=some items[i]:=by simp[I]
  have hk:ps[i]?=some ps[i]:=iY (by omega);obtain⟨t,eu,ht,al⟩:=hp i _ _ J hk;refine am (wpAny_pyNext_list_item p Q (x:=items[i]) J fun m L an=>?_);rw[eu];have g:iN it s.heap m:=an;have z:∀b o,s.heap.get? b=some o->o.cls=.type "tuple"->b≠it:=by
   rintro b o e c rfl;obtain⟨o',f,h,_⟩:=p;rw[e]at f;cases f;rw[c]at h;simp at h
  have nD:∀b o,s.heap.get? b=some o->o.cls=.type "tuple"->b≠D:=by
   rintro b o e c rfl;obtain⟨o',_,_,f,h,_⟩:=T;rw[e]at f;cases f;have:=h.1;rw[c]at this;simp at this
  have nt:t≠it:=by
   obtain⟨o,M,N,_⟩:=ht;exact z t o M N
  have O:m.IsTuple t #[.ref ps[i].2.1,ps[i].2.2]:=ht.extBut g.extBut nt;have ap:uL { s with heap:=m } (.ref t) "tuple":=O.typeIs (s:={ s with heap:=m });obtain⟨ot,as,bi,bl,aC⟩:=id O;refine am (lY ?_);refine am (wpAny_tryCatch ?_);unfold dD.Dict.pairItems;refine am (yD ap ?_);rw[if_pos (by decide)];refine am (me as aC (aQ ?_));show wpAny _ _ (lV [.ref ps[i].2.1,ps[i].2.2] (dictSet D (.ref ps[i].2.1) ps[i].2.2)) _ _ _;have m1:∀b o items n,s.heap.get? b=some o->o.cls=.type "tuple"->o.data=.seq items n->m.get? b=some o:=fun b o _ _ e c _=>(g.2 b (z b o e c)).trans e;have a0:m.DictOfH (bO prog w) D a:=uy T (fun o e=>(g.2 D C).trans e) m1;refine lY (wpAny_dictSet_heap (knd:=bO prog w) (k:=ps[i].1) (by show A.units+1+8<cLine;omega) (uc al m1) a0 (fun B a4 a5=>?_) (by omega));have v:iN D m B:=a5;show wpAny _ _ (again _) _ _ _;refine aQ ⟨yC cT _,?_⟩;have a6:m.IsList l items:=Q.extBut g.extBut U;have kp:∀b o,b≠D->b≠it->s.heap.get? b=some o->B.get? b=some o:=fun b o m B e=>v.extBut b o m (g.extBut b o B e);refine ih (i+1) _ (oB a ps[i].1 ps[i].2.1 ps[i].2.2) (by omega) I (by have:=A9 a ps[i].1 ps[i].2.1 ps[i].2.2;omega) (L.extBut v.extBut (iO C)) (a6.extBut v.extBut Y) a4 (fun j u x m B=>?_) fun y tk H a7=>?_
  ·obtain⟨t2,e2,a8,a9⟩:=hp j u x m B;obtain⟨o,M,N,r⟩:=id a8;exact⟨t2,e2,⟨o,kp _ o (nD t2 o M N) (z t2 o M N) M,N,r⟩,uc a9 fun b o _ _ e c _=>kp b o (nD b o e c) (z b o e c) e⟩
  ·refine hR y tk ?_ fun b o m B e=>a7 b o m B (kp b o m B e);have ed:ps.drop i=ps[i]::ps.drop (i+1):=ox (by omega);rw[ed];exact H
theorem sB{l:Addr}{o:Obj}{items:Array Value}{n:Nat}{ps:List (TK×Addr×Value)}{Q:Zc}(U:A.handled=none)(hu:A.units+16<cLine)(Y:s.heap.get? l=some o)(L:o.cls=.type "list")(v:o.data=.seq items n)(M:o.dict=none)
  (N:ps.length=items.size) (hp:∀(j:Nat) (u:Value) (x:TK×Addr×Value),items[j]?=some u->ps[j]?=some x->Je prog w s.heap u x) (hz:items.size<=ak)
  (h:∀y tk,y.DictOfH (bO prog w) s.heap.objs.size (storeAll [] ps)->(∀b o,s.heap.get? b=some o->y.get? b=some o)->Q (.ref s.heap.objs.size) { s with heap:=y,toks:=tk }) :
  wpAny (model prog w) A (call (.type "dict") [.ref l]) Q E s:=by
 refine callType_codes (Q₁:=fun z k=>z=.ref s.heap.objs.size/\k={ s with heap:=s.heap.push { cls:=.type "dict",data:=.dict #[] } }) F.kt_called_dict (F.kt_typeCall_dict_1 _) F.entry_dict_init (kt_code_dict_new _ ⟨rfl,rfl⟩) ?_;rintro z k ⟨rfl,rfl⟩;have m:(s.heap.push { cls:=.type "dict",data:=.dict #[] }).DictOfH (bO prog w) s.heap.objs.size []:=Heap.DictOfH.new s.heap;have p:(s.heap.push { cls:=.type "dict",data:=.dict #[] }).get? l=some o:=bt _ Y;have B:l<s.heap.objs.size:=bg Y;have C:uL { s with heap:=s.heap.push { cls:=.type "dict",data:=.dict #[] } } (.ref s.heap.objs.size) "dict":=m.typeIs;refine⟨C,F.args_dict_init_2 _ _,?_⟩;unfold dD.«dict.__init__»;refine am ?_;unfold dD.Dict.selfAndRest;refine am (uM C ?_);show wpAny _ _ (pure (s.heap.objs.size,[Value.ref l])) _ _ _;refine aQ ?_;show wpAny _ _ (yB "dict.__init__" s.heap.objs.size (.ref l) [] .none) _ _ _;unfold yB;have O:uL { s with heap:=s.heap.push { cls:=.type "dict",data:=.dict #[] } } (.ref l) "list":=⟨o,p,L⟩;refine am (yD O ?_);rw[if_pos (by decide)];refine am (xy p L v M U fun q T k1=>?_);have f:∀b J,(s.heap.push { cls:=.type "dict",data:=.dict #[] }).get? b=some J->q.get? b=some J:=k1;rw[if_pos (by rfl:(none:Option Value).isNone=true)];refine am (pR ?_);have G:q.IsList l items:=⟨o,f _ _ p,L,n,v⟩;refine am (xa (s:={ s with heap:=q,toks:=T }) G ?_);have H:q.DictOfH (bO prog w) s.heap.objs.size []:=uy m (fun o e=>f _ o e) fun b o _ _ e _ _=>f b o e;have i:s.heap.objs.size<q.objs.size:=by
  obtain⟨od,es,ep,g,r⟩:=H;exact bg g
 refine aQ ⟨yC cT _,?_⟩;refine Fa (A:=A.in1) (prog:=prog) (w:=w) U (by show A.units+1+14<cLine;omega) (D:=s.heap.objs.size) (it:=q.objs.size) (l:=l) (items:=items) (ps:=ps) (cK i) (cK (uQ B i)) (cK B) N items.size 0 _ [] (uK _) (c_ _) (by rw[mn];omega)
  ⟨_,de _ rfl,rfl,rfl⟩ (G.push _) (uy H (fun o e=>bt _ e) fun b o _ _ e _ _=>bt _ e) (fun j u x a b=>?_) fun y tk I kp=>?_
 ·obtain⟨t,e,ht,hk⟩:=hp j u x a b;obtain⟨ot,g,r⟩:=ht;exact⟨t,e,⟨ot,bt _ (f _ _ (bt _ g)),r⟩,uc hk fun b o _ _ e _ _=>bt _ (f _ _ (bt _ e))⟩
 ·rw[oA]at I;refine⟨rfl,h y tk I fun b J e=>kp b J (cK (bg e)) (cK (uQ (bg e) i)) (bt _ (f _ _ (bt _ e)))⟩
end
def putAll(acc:List (TK×V))(kvs:List (TK×V)):List (TK×V):=kvs.foldl (fun a x=>dP a x.1 x.2) acc
theorem vp:∀(e a:List (TK×V)),(putAll a e).length<=a.length+e.length
 |[],a=>aR _
 |kv::e,a=>by
  have f:=vp e (dP a kv.1 kv.2);have g:=j4 a kv.1 kv.2;show(putAll (dP a kv.1 kv.2) e).length<=_;rw[fF];omega
abbrev HY(K:Za):List V->Hp->VK->Prop:=fun xs H Q=>∃(l:Addr) (ts bs:Ze) (kvs:List (TK×V)),xs=[.ref l]/\ay K H l (ts.map V.ref)/\ts.length=kvs.length/\bs.length=kvs.length /\
  (∀(j:Nat) (t b:Addr) (kv:TK×V),ts[j]?=some t->bs[j]?=some b->kvs[j]?=some kv->H t=some (.tup [.ref b,kv.2])/\tG K H kv.1 (.ref b)/\kv.1.depth<=8)/\∀p,H p=none->Q (.ref p) (upd H p (.dT (putAll [] kvs)))
theorem wS{X:Cx}(hc:X.calm=true)(hu:X.A.units+16<cLine):f_ X (.type "dict") (HY X.K):=by
 intro J3 s σ H xs us Q I r h;obtain⟨l,ts,bs,f,rfl,m,v,k,J,q⟩:=h;obtain⟨u,rfl,ru⟩:=vals1 r;cases ru;obtain⟨L,rv,⟨o,n,ho,M,N,O⟩,T⟩:=I.list m;have U:∀(ts bs:Ze) (f:List (TK×V)),ts.length=f.length->bs.length=f.length->(∀(j:Nat) (t b:Addr) (g:TK×V),ts[j]?=some t->bs[j]?=some b->f[j]?=some g->H t=some (.tup [.ref b,g.2])/\tG X.K H g.1 (.ref b)/\g.1.depth<=8)->∃ps:List (TK×Addr×Value),KT X.K H f ps/\∀(j:Nat) (t:Addr) (x:TK×Addr×Value),ts[j]?=some t->ps[j]?=some x->Je X.prog X.w s.heap (.ref t) x:=by
  intro ts
  induction ts with
  |nil =>
   intro bs f m _ _;cases f with
   |nil=>exact⟨[],.nil,fun j t g e=>by simp at e⟩
   |cons _ _=>cases m
  |cons t ts Y =>
   intro bs f m hb J;cases f with
   |nil=>cases m
   |cons g f =>
    cases bs with
    |nil=>cases hb
    |cons b bs =>
     obtain⟨ps,r1,r2⟩:=Y bs f (by simpa using m) (by simpa using hb) fun j t' b' al a c d=>J (j+1) t' b' al (by simpa using a) (by simpa using c) (by simpa using d);obtain⟨g1,g2,g3⟩:=J 0 t b g rfl rfl rfl;obtain⟨_,an,rt,p⟩:=(show cw X.prog X.w X.K H s.heap t (.tup [.ref b,g.2])from I.hok t _ g1);obtain⟨x,y,e,rx,ry⟩:=rt.two;subst e;cases(show x=Value.ref b from rx);refine⟨(g.1,b,y)::ps,.cons ⟨rfl,g2,g3,ry⟩ r1,fun j t' x' B C=>?_⟩;cases j with
     |zero =>
      simp at B C;subst B C;exact⟨t,rfl,p,zZ I.hok I.kIn g2 g3⟩
     |succ j=>exact r2 j t' x' (by simpa using B) (by simpa using C)
 obtain⟨ps,D,pa⟩:=U ts bs f v k J;have E:=rv.length;rw[ai]at E;have ap:=Paired.length D;have all:∀{f:List (TK×V)}{ps:List (TK×Addr×Value)},KT X.K H f ps->∀{acc:List (TK×V)}{acc':List (TK×Addr×Value)},KT X.K H acc acc'->KT X.K H (putAll acc f) (storeAll acc' ps):=by
  intro f ps r
  induction r with
  |nil=>exact fun a=>a
  |@cons p q ps qs h t Y =>
   intro acc acc' a;show KT X.K H (putAll (dP acc p.1 p.2) ps) (storeAll (oB acc' q.1 q.2.1 q.2.2) qs);refine Y ?_;rw[<-h.1];exact a.put p.1 h.2.1 h.2.2.1 h.2.2.2
 refine sB (prog:=X.prog) (w:=X.w) (ps:=ps) (I.ok.hd hc) hu ho M O N (by rw[cb];omega) (fun j u x a b=>?_) (by rw[cb,<-E];rw[ai]at T;exact T) fun h' tk hD kp=>?_
 ·have a':L[j]?=some u:=by simpa using a
  have hj:j<ts.length:=by
   have:=(bM.mp a').1;omega
  obtain⟨u',e1,r1⟩:=rv.get (i:=j) (x:=V.ref ts[j]) (by simp[hj]);rw[a']at e1;cases e1;cases(show u=Value.ref ts[j]from r1);exact pa j ts[j] x (by simp[hj]) b
 ·have hm:(putAll [] f).length<=ak:=by
   have B:=vp f [];rw[mn]at B;rw[ai]at T;omega
  obtain⟨q',es,ep,hq,C,h3,h4,_,h5⟩:=hD;have G:=all D (acc:=[]) (acc':=[]) .nil;have fr:H s.heap.objs.size=none:=I.fresh;exact⟨.ref s.heap.objs.size,_,I.laid (o:=.dT (putAll [] f)) kp (aR _) ⟨hm,beq_eq_false_iff_ne.mpr (iO (cK I.big)),_,G.keeps fun c ys ec=>by rw[aj (fun z=>by rw[z,fr]at ec;cases ec)];exact ec,q',es,ep,hq,C,h3,h4,h5⟩,rfl,q _ fr⟩
def Mm(K:Za)(n:Nat)(t:EV):TG:=fun v σ H Q=>∃a xs,v=.ref a/\ay K H a xs/\xs.length=n/\t xs σ H Q
theorem Lp{X:Cx}{g:Pos}{f:List Expr}{k:Nat}{t:EV}{n:Nat}(w:X.calm=true)(h:Mt X f t)
  (x:(sS f X.env).length=n:=by rfl) (i:(sS f X.env).findIdx? (·.1)=none:=by rfl):PG X (.Tuple f k g) (Mm X.K n t):=by
 intro p s σ H v u Q I r j;obtain⟨a,y,z,A,B,j⟩:=j;subst z;cases r;obtain⟨l,q,C,G⟩:=I.list A;have m:l.toArray.size=n:=by rw[cb,<-q.length,B]
 rw[assign_Tuple];refine am (Ea ?_);unfold unpack;rw[i,x,<-m];refine am (lY (PySem.W.kun_itemsOf (I.ok.hd w) C.isList fun D hx=>?_));have E:Inv X p σ H { s with heap:=D }:=I.kept (t':=s.toks) fun b o e=>hx b o (cK (bg e)) e;exact h p _ σ H y _ Q E (by simpa using q) j
end L2
end

section
set_option Elab.async false
set_option linter.all false
set_option maxRecDepth 100000
namespace HT
open PySem PyProof.Rows
end HT
namespace L2
open PySem PySem.Spec PyProof.Rows
abbrev HV:R2:=fun x y H Q=>∃b,y=.bl b/\Q (.bl (!decide (x=.bl b))) H
section
variable{X:Cx}{p pos:Pos}
theorem Ez:nZ X (fu .IsNot) HV:=by
 intro j s σ H x y v u Q I g l h;obtain⟨b,rfl,q⟩:=h;cases(show u=Value.bool b from l);have f:∀k:Bool,k=!decide (x=.bl b)->EP X j σ Q (.bool k) s:=fun k e=>⟨.bl k,H,I,rfl,by rw[e];exact q⟩;cases x with
 |non=>cases(show v=Value.none from g);exact aQ (f _ rfl)
 |bl a =>
  cases(show v=Value.bool a from g);refine aQ (f _ ?_);cases a<;>cases b<;>rfl
 |int i=>obtain⟨t,rfl⟩:=g;exact aQ (f _ rfl)
 |str i=>obtain⟨t,rfl⟩:=g;exact aQ (f _ rfl)
 |byt i=>obtain⟨t,rfl⟩:=g;exact aQ (f _ rfl)
 |flt i=>obtain⟨t,rfl⟩:=g;exact aQ (f _ rfl)
 |ref a=>cases(show v=Value.ref a from g);exact aQ (f _ rfl)
 |ty n=>cases(show v=Value.type n from g);exact aQ (f _ rfl)
end
section
variable{X:Cx}
theorem cC{l:List Expr}{p:Pos}{a:List Expr}{e:TE}{t:TA}(f:PE X (.List l p) e)(g:PA X a t):PA X (.List l p::a) (av e t):=be f g rfl
theorem qsL(i:Nat){x:Str}{l:List Expr}{p e a:Pos}{f:TE}(g:X.N.Nodup)(h:PE X (.List l p) f)(hi:X.N[i]?=some x:=by rfl)(hx:Loc X.env.scope x:=by first|exact Or.inl rfl|exact Or.inr rfl)(hf:X.fn x=true∨X.env.scope.names.lookup x=some .local:=by first|exact .inl rfl|exact .inr rfl|assumption):
  PS X (.Assign [.Name x a] (.List l p) e) (aT f (eR i)):=Ia g hi hx h rfl hf
end
end L2
end
set_option Elab.async false
set_option linter.all false
set_option maxRecDepth 100000
set_option maxHeartbeats 4000000
namespace Mum
open PySem PySem.Spec PyProof.Rows L2
def zc(K:Za):TS :=
 au (cJ (aS (aD rGeI V0 (aD KQ (tC (.int 10)) (tC (.int 18))))) (bo V0) (bB))
 (au (aT (aD jZ (aD fZ (aD fZ (aD kF (aD jZ V0 (tC (.int 1000000007))) (tC (.int 69069))) (aD kF V1 (tC (.int 40503)))) (tC (.int 977))) (tC (.int 2147483629))) U2)
 (au (aT (aD jZ (aD fZ (aD fZ (aD kF V2 V2) (aD kF V1 (tC (.int 7919)))) (aD jZ V0 (tC (.int 65537)))) (tC (.int 2147483587))) U3)
 (au (aT (aD jZ (aD fZ (aD fZ (aD kF V3 V3) (aD kF V2 (tC (.int 31)))) (tC (.int 5))) (tC (.int 2147483563))) U4)
 (bo (aD fZ (aD kF (aD fZ (aD kF V2 (tC (.int 2147483659))) V3) (tC (.int 2147483693))) V4)))))
def Au:List Str:=["cell","at","one","two","three"]
def Cr(K:Za):TS :=
 au (aT (eM (dE K) (aB (Cc (qA K) V0 (eU) (iP (tC (.int 12)))))) U1)
 (au (eA (tq K (aB (Cc (qA K) V0 (iP (tC (.int 12))) (iP (tC (.int 63)))))) (jk K 2 (bx U2 (bx U3 (iW)))) (aT (aD fZ (aD (df K) V1 (aD jZ V2 (tC (.int 12)))) V3) (Gi V1 (aD jZ V2 (tC (.int 12))) xr)))
 (bo (bC (dq V1 (tC (.int 0)) (tC (.int 0))))))
def DG:List Str:=["script","cells","k","cell"]
def Co(K:Za)(sp_law_spread:Sp):TS :=
 au (cJ (aS (aD JW (aD (df K) V0 (tC (.int 2))) V1)) (au (aT (aD (df K) V0 (tC (.int 1))) U2)
 (au (aT (tC (.int 0)) U3)
 (au (cJ (aS (aD JW V2 (eM (fH K) (aB (aD (df K) V0 (tC (.int 0))))))) (aT (aD (df K) (aD (df K) V0 (tC (.int 0))) V2) U3) (cJ (aS (aD wO (eM (fH K) (aB (aD (df K) V0 (tC (.int 0))))) (tC (.int 0)))) (aT (aD jZ (aD (df K) (aD (df K) V0 (tC (.int 0))) (aD jZ (aD fZ (aD kF V2 (tC (.int 5))) (tC (.int 3))) (eM (fH K) (aB (aD (df K) V0 (tC (.int 0))))))) (aD fZ (aD KQ (tC (.int 10)) (tC (.int 17))) V2)) U3) (bB)))
 (au (aT (aD fZ V2 (tC (.int 1))) (Gi V0 (tC (.int 1)) xr))
 (aT (aL sp_law_spread (aO V3 V2)) (Gi V0 (tC (.int 2)) xr)))))) (bB))
 (au (aT (aD jZ (aD (df K) V0 (tC (.int 2))) V1) U4)
 (au (aT (aD HX (aD (df K) V0 (tC (.int 2))) V1) (Gi V0 (tC (.int 2)) xr))
 (bo V4)))
def DD:List Str:=["pen","many","at","cell","found"]
def AS(K:Za)(sp_law_take:Sp):TS :=
 au (aT (tC (.str "abcdefghijklmnopqrstuvwxyz")) U2)
 (au (aT (vi K "str" (KS K) (tC (.str "")) (av (cN 1 [2,0] (vD (aB (tC (.int 7)))) U0 (i5) (aD C0 V1 (aL sp_law_take (aO V2 (tC (.int 26)))))) aY)) U3)
 (au (aT (aL sp_law_take (aO V0 (tC (.int 3)))) U4)
 (au (aT (aL sp_law_take (aO V0 (tC (.int 26)))) U5)
 (au (aT (aL sp_law_take (aO V0 (tC (.int 8)))) U6)
 (au (aT (bC (aY)) U7)
 (au (eA (vD (aB V1)) U8 (au (aT (aD C0 V2 (aD jZ (aD fZ V5 (aD kF (tC (.int 3)) V8)) (tC (.int 26)))) U9)
 (au (aT (Cc FR V3 (eU) (iP (aD jZ (aD fZ V6 (aD kF V8 (aD jZ V4 (tC (.int 2))))) (tC (.int 8))))) Mq)
 (au (aT (aD (df K) (bC (dq (tC (.int 0)) (eM (fH K) (aB GB)) (aD HX (eM (fH K) (aB GB)) (tC (.int 2))))) V4) U11)
 (cM (vi K "list" dX V7 (aB (aD HZ (aD HZ (Cc FR GB (eU) (iP V11)) V9) (Cc FR GB (iP V11) (eU))))))))))
 (bo V7)))))))
def B6:List Str:=["pen","many","letters","base","way","turn","size","found","k","sign","part","at"]
def Fj(K:Za):TS :=
 cJ (aS (aD (ii K true) V1 V0)) (cM (vi K "list" dX V0 (aB V1))) (bB)
def GG:List Str:=["doors","door"]
def rR(K:Za)(sp_law_take:Sp)(sp_law_put:Sp):TS :=
 au (aT (bC (aY)) U5)
 (au (aT (aL sp_law_take (aO V0 (tC (.int 2)))) U6)
 (au (eA (tq K (aB V3)) (jk K 2 (bx U7 (bx U8 (iW)))) (au (eA (vD (av (aD (df K) (bC (av (tC (.int 0)) (dq (tC (.int 1)) (tC (.int 1)) (tC (.int 2))))) (aL sp_law_take (aO V0 (tC (.int 4))))) aY)) U9 (au (aT (bP (av (tC (.str "say")) (av (aD (df K) V2 (aL sp_law_take (aO V0 (eM (fH K) (aB V2))))) aY))) Mq)
 (cM (aL sp_law_put (av V5 (av (bP (av V8 (av GB (av (aD (df K) V3 (aL sp_law_take (aO V0 (eM (fH K) (aB V3))))) aY)))) aY))))))
 (au (eA (bG K V1) U11 (eA (vD (av (aD (df K) (bC (av V4 (dq (tC (.int 1)) (tC (.int 1)) (tC (.int 2))))) (aL sp_law_take (aO V0 (tC (.int 4))))) aY)) U9 (cM (aL sp_law_put (av V5 (av (bP (av V8 (av (bP (aO (tC (.str "ask")) V11)) (av (aD (df K) V3 (aL sp_law_take (aO V0 (eM (fH K) (aB V3))))) aY)))) aY))))))
 (au (aT (aD (df K) (bC (av (Cc (qA K) V3 (iP (aD fZ V7 (tC (.int 1)))) (eU)) (aB (Cc (qA K) V3 (eU) (iP V7))))) V6) U12)
 (cJ (nQ (aS (aD (tU K) V12 (bC (aY)))) (aS (aD GQ (aL sp_law_take (aO V0 (tC (.int 3)))) (tC (.int 0))))) (cM (aL sp_law_put (av V5 (av (bP (av V8 (av (bP (aB (tC (.str "still")))) (av (aD (hW K) V12 (aL sp_law_take (aO V0 (eM (fH K) (aB V12))))) aY)))) aY)))) (bB))))))
 (bo V5)))
def sH:List Str:=["pen","asks","says","rooms","full","doors","down","k","room","turn","sign","ask","later"]
def wu(K:Za)(C_Machine:Addr)(sp_Machine_init:Sp):TS :=
 bo (El C_Machine sp_Machine_init [] E0 (av (eM (dE K) (aB (aD (hW K) V0 (tC (.int 0))))) (av (eM (dE K) (aB (aD (hW K) V0 (tC (.int 1))))) (av (eM (dE K) (aB (aD (hW K) V0 (tC (.int 2))))) (av (eM (dE K) (aB (aD (hW K) V0 (tC (.int 3))))) aY)))))
def wW:List Str:=["told"]
def Fl(K:Za):TS :=
 bo (p8 (aD LW V0 (tC (.str ""))) (p8 (aD Ll (eM (fH K) (aB V0)) (tC (.int 8))) (eM (JY K) (aB (cN 1 [] (Mj V0) U0 (i5) (aD rInS V0 (tC (.str "abcdefghijklmnopqrstuvwxyz"))))))))
def GI:List Str:=["text"]
def Fn(K:Za):TS :=
 au (aT (r9) U1)
 (au (eA (bG K V0) U2 (mB V1 V2 (tC (.bl true))))
 (bo V1))
def GK:List Str:=["things","keys","thing"]
def oN(K:Za)(sp_is_name:Sp)(sp_as_keys:Sp):TS :=
 au (cJ (aS (aD GQ (eM (fH K) (aB V0)) (tC (.int 0)))) (bo (tC (.int 0))) (bB))
 (au (aT (aL sp_as_keys (aB V2)) U3)
 (au (eA (tq K (aB V0)) (jk K 2 (bx U4 (bx U5 (iW)))) (au (cJ (Cy (aS (aD GQ V4 V1)) (Cy (tB (Fq K V5 V3)) (rW (tB (aL sp_is_name (aB V5)))))) (bo V4) (bB))
 (mB V3 V5 (tC (.bl true)))))
 (bo (tC .non))))
def pj:List Str:=["names","most","taken","ahead","number","name"]
def zm(K:Za)(a_STILL:Addr):TS :=
 bo (aD gR (aD gR (cN 1 [] (bG K V0) U0 (i5) (bP (aO (tC (.str "ask")) V0))) (cN 1 [] (bG K V1) U0 (i5) (bP (aO (tC (.str "say")) V0)))) (bC (aB (tC (.ref a_STILL)))))
def Ax:List Str:=["asks","says"]
def oO(K:Za)(sp_as_keys:Sp):TS :=
 au (aT (aL sp_as_keys (aB V1)) U3)
 (au (aT (CJ) U4)
 (au (eA (tq K (aB V0)) (jk K 2 (bx U5 (bx U6 (iW)))) (au (cJ (Cy (aS (aD GQ V5 (tC (.int 2000)))) (tB (Fq K V6 V4))) (bo V5) (bB))
 (au (cJ (Cy (tB (mV K (aD (hW K) V6 (tC (.int 0))) V3)) (Cy (aS (aD (ii K true) (aD (hW K) V6 (tC (.int 1))) V2)) (tB (mV K (aD (hW K) V6 (tC (.int 2))) V3)))) (bo V5) (bB))
 (mB V4 V6 (tC (.bl true))))))
 (bo (tC .non))))
def pk:List Str:=["doors","rooms","signs","own_rooms","ahead","number","door"]
def jQ(K:Za):TS :=
 au (aT (CJ) U1)
 (au (eA (bG K V0) (jk K 3 (bx U2 (bx U3 (bx U4 (iW))))) (cM (vi K "list" dX (vi K "dict" Ep V1 (aO (bP (av V2 (aB V3))) (bC (aY)))) (aB V4))))
 (bo V1))
def jR:List Str:=["doors","goals","start","sign","goal"]
def uZ(K:Za)(a_STILL:Addr):TS :=
 au (aT (r9) U2)
 (au (aT (bC (aB V1)) U3)
 (au (u7 (aS (aD wO (eM (fH K) (aB V3)) (tC (.int 0)))) (au (aT (Fs K "list" HU V3) U4)
 (eA (Ml K (vh K V0 (bP (aO V4 (tC (.ref a_STILL)))) (bP (aY)))) U5 (cJ (tB (mV K V5 V2)) (au (mB V2 V5 (tC (.bl true)))
 (cM (vi K "list" dX V3 (aB V5)))) (bB)))))
 (bo V2)))
def v6:List Str:=["goals","room","led","waiting","here","goal"]
def pT(K:Za):TS :=
 au (eA (tq K (aB V0)) (jk K 2 (bx U2 (bx U3 (iW)))) (cJ (tB (Fq K V3 (sX K V1 V3))) (bo V2) (bB)))
 (bo (tC .non))
def qW:List Str:=["rooms","led","number","room"]
def AN(K:Za):TS :=
 cJ (tB (Hk V1)) (oT) (bB)
def BX:List Str:=["part","number"]
def zb(K:Za)(sp_need_none:Sp)(sp_first_wrong_door:Sp)(sp_door_signs:Sp)(sp_first_wrong_name:Sp):TS :=
 au (cM (aL sp_need_none (aO (tC (.str "asks")) (aL sp_first_wrong_name (dq V0 (tC (.int 4)) (bC (aY)))))))
 (au (cM (aL sp_need_none (aO (tC (.str "says")) (aL sp_first_wrong_name (dq V1 (tC (.int 4)) V0)))))
 (au (cM (aL sp_need_none (aO (tC (.str "rooms")) (aL sp_first_wrong_name (dq V2 (tC (.int 150)) (bC (aY)))))))
 (cM (aL sp_need_none (av (tC (.str "doors")) (aB (aL sp_first_wrong_door (dq V3 V2 (aL sp_door_signs (aO V0 V1))))))))))
def At:List Str:=["asks","says","rooms","doors"]
def rV(K:Za):TS :=
 au (aT (r9) U2)
 (au (eA (bG K V0) U3 (mB V2 V3 (bC (aY))))
 (au (eA (bG K V1) U4 (cM (vi K "list" dX (sX K V2 (aD (hW K) V4 (tC (.int 0)))) (aB V4))))
 (bo V2)))
def sL:List Str:=["rooms","doors","leaving","room","door"]
def rS(K:Za):TS :=
 bo (eM (JY K) (av (cN 1 [] (bG K V0) U0 (i5) (aD GQ (aD (hW K) (aD (hW K) V0 (tC (.int 1))) (tC (.int 0))) (tC (.str "ask")))) aY))
def sI:List Str:=["doors"]
def oR(K:Za)(sp_need_none:Sp)(sp_first_led_round:Sp)(sp_led_by_still:Sp)(sp_goals_by_start_and_sign:Sp)(sp_as_keys:Sp)(sp_has_asks_alone:Sp)(sp_doors_by_start:Sp)(sp_need_parts:Sp):TS :=
 au (cM (aL sp_need_parts (av V1 (dq V2 V3 V4))))
 (au (zH K V0 (eM (dE K) (aB V1)) "own_asks")
 (au (zH K V0 (eM (dE K) (aB V2)) "own_says")
 (au (zH K V0 (eM (dE K) (aB V3)) "own_rooms")
 (au (zH K V0 (eM (dE K) (aB V4)) "own_doors")
 (au (zH K V0 (aL sp_doors_by_start (aO V3 V4)) "leaving")
 (au (zH K V0 (aL sp_as_keys (av (cN 1 [0] (bG K V3) U0 (tB (aL sp_has_asks_alone (aB (sX K (tO K V1 "leaving") V0)))) V0) aY)) "quiet")
 (au (zH K V0 (aL sp_goals_by_start_and_sign (aB V4)) "sign_goals")
 (au (zH K V0 (eM (JX K) (av (cN 1 [0] (bG K V3) U0 (i5) (bP (aO V0 (aL sp_led_by_still (av (tO K V1 "sign_goals") (aB V0)))))) aY)) "still_led")
 (cM (aL sp_need_none (aO (tC (.str "still")) (aL sp_first_led_round (av V3 (aB (tO K V0 "still_led")))))))))))))))
def pB:List Str:=["self","asks","says","rooms","doors"]
def oQ(K:Za):TS :=
 bo (Fq K V1 (tO K V0 "quiet"))
def pA:List Str:=["self","room"]
def nW(K:Za)(sp_with_still:Sp)(C_Machine:Addr)(sp_Machine_goals:Sp)(a_HUSH:Addr)(sp_Machine_is_quiet:Sp):TS :=
 au (cJ (aS (aD (kG K) V2 (tC (.ref a_HUSH)))) (bo (eM (Eo K) (aB (cN 1 [0] (Kl K V1) U0 (tB (bZ C_Machine "is_quiet" sp_Machine_is_quiet [] E0 V1 (aB V0))) V0)))) (bB))
 (au (aT (bC (aY)) U3)
 (au (eA (Kl K V1) U4 (cM (vi K "list" qC V3 (aB (bZ C_Machine "goals" sp_Machine_goals [] E0 V0 (aO V4 V2))))))
 (bo (aL sp_with_still (aO V0 V3)))))
def n5:List Str:=["M","face","sign","goals","room"]
def dZ(p:Addr)(H H':Hp):Prop:=∀b o,H b=some o->b≠p->H' b=some o
theorem dZ.refl(p:Addr)(H:Hp):dZ p H H:=fun _ _ h _=>h
theorem dZ.trans{p:Addr}{H e f:Hp}(a:dZ p H e)(b:dZ p e f):dZ p H f:=fun c o h n=>b c o (a c o h n) n
theorem ab.exB{p:Addr}{H e:Hp}(a:ab H e):dZ p H e:=fun b o h _=>a b o h
theorem dZ.upd(p:Addr)(H:Hp)(o:HO):dZ p H (upd H p o):=fun b u h n=>by rw[aj n];exact h
theorem ab.new{H:Hp}{a:Addr}{o:HO}(h:H a=none):ab H (upd H a o):=fun b u e=>by rw[aj (ae e h)];exact e
theorem dZ.free{p:Addr}{H a:Hp}(e:dZ p H a){u:HO}(f:a p=some u){l:Addr}(h:a l=none):H l=none:=by
 cases q:H l with
 |none=>rfl
 |some o =>
  by_cases z:l=p
  ·subst z;rw[f]at h;cases h
  ·rw[e l o q z]at h;cases h
theorem kp{H:Hp}{a b:Addr}{o x:HO}(h:H b=some o)(n:H a=none):upd H a x b=some o:=by rw[aj (ae h n)];exact h
structure EX(H:Hp)(p c:Addr)(at_ rest:Int)(ns:List Int):Prop where
 pen:H p=some (.lst [.ref c,.int at_,.int rest])
 cells:H c=some (.lst (ns.map V.int))
 at0:0<=at_
 rest0:0<=rest
theorem EX.ne{H:Hp}{p c:Addr}{a r:Int}{g:List Int}(h:EX H p c a r g):c≠p:=by
 intro e;have i:=h.pen;have f:=h.cells;rw[e,i]at f;injection f with f;injection f with f;cases g with
 |nil=>cases f
 |cons n g=>injection f with f;cases f
def gM(H:Hp)(p c:Addr):Prop:=∃a r ns,EX H p c a r ns
theorem gM.ex{H H':Hp}{p c:Addr}(h:gM H p c)(e:ab H H'):gM H' p c:=by
 obtain⟨a,r,f,g,i,j,k⟩:=h;exact⟨a,r,f,e _ _ g,e _ _ i,j,k⟩
theorem gM.pen{H:Hp}{p c:Addr}(h:gM H p c):∃o,H p=some o:=by
 obtain⟨a,r,f,e,_⟩:=h;exact⟨_,e⟩
theorem gM.cell{H:Hp}{p c:Addr}(h:gM H p c):∃o,H c=some o:=by
 obtain⟨a,r,f,_,e,_⟩:=h;exact⟨_,e⟩
theorem gM.upd{H:Hp}{p c l:Addr}{o:HO}(h:gM H p c)(e:p≠l)(f:c≠l):gM (upd H l o) p c:=by
 obtain⟨a,r,g,i,j,k,m⟩:=h;exact⟨a,r,g,by rw[aj e];exact i,by rw[aj f];exact j,k,m⟩
theorem gM.nep{H:Hp}{p c l:Addr}(h:gM H p c)(a:H l=none):p≠l:=let⟨_,e⟩:=h.pen;ae e a
theorem gM.nec{H:Hp}{p c l:Addr}(h:gM H p c)(a:H l=none):c≠l:=let⟨_,e⟩:=h.cell;ae e a
theorem dZ.new{p:Addr}{H:Hp}{a:Addr}{o:HO}(h:H a=none):dZ p H (L2.upd H a o):=fun b u e _=>by rw[aj (ae e h)];exact e
inductive m7 (vs:List V)(H:Hp)(Q:VK)(E:XK):Prop
 |mk (c a:Int):(vs=[.int c,.int a])->(0<=a)->(∀r:Int,0<=r->Q (.int r) H)->m7  vs H Q E
theorem qU{i j:Int}(a:-(2 ^ 64)<j)(e:j<2 ^ 64):Jl i j:=.inr ⟨a,e⟩
theorem Fz{K:Za}{f:List V}{H:Hp}{Q:VK}{E:XK}(h:m7 f H Q E):zc K (bN Q) (start Au f) H:=by
 obtain⟨c,a,rfl,x,k⟩:=h;refine⟨_,rfl,_,_,rfl,rfl,⟨by decide,by decide,by decide⟩,_,_,rfl,rfl,_,rfl,?_⟩;refine l6 (fun h=>?_) (fun _=>?_)
 ·refine⟨_,rfl,k _ ?_⟩;have:=of_decide_eq_true h;have e:((10:Int) ^ (18:Int).toNat)=1000000000000000000:=by decide
  omega
 ·have one:∀z:Int,0<=z % 2147483629/\z % 2147483629<2147483629:=fun z=>⟨rA _ (by decide),rq _ (by decide)⟩;have two:∀z:Int,0<=z % 2147483587/\z % 2147483587<2147483587:=fun z=>⟨rA _ (by decide),rq _ (by decide)⟩;have three:∀z:Int,0<=z % 2147483563/\z % 2147483563<2147483563:=fun z=>⟨rA _ (by decide),rq _ (by decide)⟩;refine⟨_,rfl,_,_,rfl,rfl,(by show(0:Int)<1000000007;decide),_,_,rfl,rfl,qU (by decide) (by decide),_,rfl,_,_,rfl,rfl,qU (by decide) (by decide),_,_,rfl,rfl,_,_,rfl,rfl,_,_,rfl,rfl,(by show(0:Int)<2147483629;decide),?_⟩;generalize l:(c % 1000000007 * 69069+a * 40503+977)=g;obtain⟨m,n⟩:=one g;generalize g % 2147483629=o at m n ⊢;refine⟨_,rfl,_,rfl,_,_,rfl,rfl,qU (by omega) (by omega),_,rfl,_,_,rfl,rfl,qU (by decide) (by decide),_,_,rfl,rfl,_,rfl,_,_,rfl,rfl,(by show(0:Int)<65537;decide),_,_,rfl,rfl,_,_,rfl,rfl,(by show(0:Int)<2147483587;decide),?_⟩;generalize p:(o * o+a * 7919+c % 65537)=i;obtain⟨s,t⟩:=two i;generalize i % 2147483587=q at s t ⊢;refine⟨_,rfl,_,rfl,_,_,rfl,rfl,qU (by omega) (by omega),_,rfl,_,_,rfl,rfl,qU (by decide) (by decide),_,_,rfl,rfl,_,_,rfl,rfl,_,_,rfl,rfl,(by show(0:Int)<2147483563;decide),?_⟩;generalize u:(q * q+o * 31+5)=j;obtain⟨v,w⟩:=three j;generalize j % 2147483563=r at v w ⊢;refine⟨_,rfl,_,_,rfl,rfl,qU (by decide) (by decide),_,rfl,_,_,rfl,rfl,_,_,rfl,rfl,qU (by decide) (by decide),_,rfl,_,_,rfl,rfl,k _ ?_⟩;omega
theorem EO{ns:List Int}{a:Int}(e:0<=a)(g:a<ns.length):∃z,xT (ns.map V.int) a=some (.int z):=by
 obtain⟨n,rfl⟩:=kS e;have f:n<ns.length:=by omega
 exact⟨ns[n],cn (by simp[f])⟩
inductive gb (vs:List V)(H:Hp)(Q:VK)(E:XK):Prop
 |mk (p c:Addr) (m:Int):(vs=[.ref p,.int m])->(gM H p c)->(0<m)->(m<1073741824)->(∀(r:Int) (H':Hp),0<=r->r<m->gM H' p c->dZ p H H'->Q (.int r) H')->gb  vs H Q E
theorem fG{H:Hp}{Q:VK}{E:XK}{p c:Addr}{m:Int}(e:gM H p c)(f:0<m)(g:m<1073741824)(k:∀(r:Int) (a:Hp),0<=r->r<m->gM a p c->dZ p H a->Q (.int r) a):gb [.ref p,.int m] H Q E:=by
 exact⟨p,c,m,rfl,e,f,g,k⟩
theorem JM{K:Za}{t:List V}{H:Hp}{Q:VK}{E:XK}(h:gb t H Q E):Co K m7 (bN Q) (start DD t) H:=by
 obtain⟨p,c,m,rfl,⟨a,r,ns,h⟩,j,l,k⟩:=h;have f:∀(H':Hp) (n u:Int) (x y:Option V),EX H' p c n u ns->dZ p H H' ->
   (au (aT (aD jZ (aD (df K) V0 (tC (.int 2))) V1) U4) (au (aT (aD HX (aD (df K) V0 (tC (.int 2))) V1) (Gi V0 (tC (.int 2)) xr)) (bo V4)))
    (bN Q) [some (.ref p),some (.int m),x,y,none] H':=by
  intro H' n u x y g ex;refine⟨_,rfl,p,_,2,_,rfl,rfl,ay.of g.pen,rfl,_,rfl,_,_,rfl,rfl,j,?_⟩;refine⟨_,rfl,p,_,2,_,rfl,rfl,ay.of g.pen,rfl,_,rfl,_,_,rfl,rfl,⟨j,l⟩,_,rfl,p,_,_,_,rfl,rfl,g.pen,rfl,?_⟩;refine⟨_,rfl,k _ _ (rA _ (by omega)) (rq _ j) ⟨n,_,ns,aa,?_,g.at0,Int.ediv_nonneg g.rest0 (by omega)⟩ (ex.trans (dZ.upd _ _ _))⟩;rw[aj g.ne];exact g.cells
 refine⟨_,rfl,p,_,2,_,rfl,rfl,ay.of h.pen,rfl,_,rfl,_,_,rfl,rfl,_,rfl,?_⟩;refine l6 (fun B=>?_) (fun B=>?_)
 ·-- at=pen[1];cell=0;if at<len(pen[0])
  refine⟨_,rfl,p,_,1,_,rfl,rfl,ay.of h.pen,rfl,?_⟩;have o:(V.int ((ns.map V.int).length:Nat))=V.int (ns.length:Nat):=by rw[ai]
  refine⟨_,rfl,_,rfl,p,_,0,_,rfl,rfl,ay.of h.pen,rfl,.inl ⟨c,_,rfl,.inl (ay.of h.cells),_,_,rfl,o,_,rfl,?_⟩⟩;refine l6 (fun v=>?_) (fun v=>?_)
  ·obtain⟨z,s⟩:=EO (ns:=ns) h.at0 (of_decide_eq_true v);refine⟨_,rfl,p,_,0,_,rfl,rfl,ay.of h.pen,rfl,_,rfl,c,_,_,_,rfl,rfl,ay.of h.cells,s,?_⟩;refine⟨_,rfl,_,_,rfl,rfl,_,rfl,p,_,_,_,rfl,rfl,h.pen,rfl,?_⟩;refine⟨_,rfl,_,rfl,_,_,rfl,h.at0,fun q i=>⟨_,rfl,p,_,_,_,rfl,rfl,aa,rfl,?_⟩⟩;rw[t_];refine f _ (a+1) q _ _ ⟨aa,by rw[aj h.ne];exact h.cells,by have:=h.at0;omega,i⟩ (dZ.upd _ _ _)
  ·refine⟨_,rfl,p,_,0,_,rfl,rfl,ay.of h.pen,rfl,.inl ⟨c,_,rfl,.inl (ay.of h.cells),_,_,o,rfl,_,rfl,?_⟩⟩;refine l6 (fun w=>?_) (fun w=>?_)
   ·have A:(0:Int)<ns.length:=of_decide_eq_true w;obtain⟨z,s⟩:=EO (ns:=ns) (a:=(a * 5+3) % (ns.length:Int)) (rA _ (by omega)) (rq _ A);refine⟨_,rfl,p,_,0,_,rfl,rfl,ay.of h.pen,rfl,_,rfl,_,_,rfl,rfl,qU (by decide) (by decide),_,_,rfl,rfl,_,rfl,p,_,0,_,rfl,rfl,ay.of h.pen,rfl,.inl ⟨c,_,rfl,.inl (ay.of h.cells),_,_,rfl,o,A,c,_,_,_,rfl,rfl,ay.of h.cells,s,?_⟩⟩;refine⟨_,_,rfl,rfl,⟨by decide,by decide,by decide⟩,_,rfl,_,_,rfl,rfl,_,_,rfl,rfl,?_,?_⟩
    ·have e:((10:Int) ^ (17:Int).toNat)=100000000000000000:=by decide
     have:=h.at0;show(0:Int)<10 ^ (17:Int).toNat+a;omega
    refine⟨_,rfl,_,_,rfl,rfl,_,rfl,p,_,_,_,rfl,rfl,h.pen,rfl,?_⟩;refine⟨_,rfl,_,rfl,_,_,rfl,h.at0,fun q i=>⟨_,rfl,p,_,_,_,rfl,rfl,aa,rfl,?_⟩⟩;rw[t_];refine f _ (a+1) q _ _ ⟨aa,by rw[aj h.ne];exact h.cells,by have:=h.at0;omega,i⟩ (dZ.upd _ _ _)
   ·refine⟨_,rfl,_,_,rfl,rfl,_,rfl,p,_,_,_,rfl,rfl,h.pen,rfl,?_⟩;refine⟨_,rfl,_,rfl,_,_,rfl,h.at0,fun q i=>⟨_,rfl,p,_,_,_,rfl,rfl,aa,rfl,?_⟩⟩;rw[t_];refine f _ (a+1) q _ _ ⟨aa,by rw[aj h.ne];exact h.cells,by have:=h.at0;omega,i⟩ (dZ.upd _ _ _)
 ·exact f H a r _ _ h (dZ.refl _ _)
inductive uh(K:Za)(vs:List V)(H:Hp)(Q:VK)(E:XK):Prop
 |mk (a:Addr) (ns:List Int):(vs=[.ref a])->(ay K H a (ns.map V.int))->(ns.length<=63)->(∀(p c:Addr) (H':Hp),H p=none->gM H' p c->ab H H'->Q (.ref p) H')->uh K vs H Q E
theorem xL(a:List Int)(lo hi:Option Int):∃e:List Int,gv (a.map V.int) lo hi=e.map V.int/\e.length=(gv (a.map V.int) lo hi).length:=by
 refine⟨(a.drop (HT.sIx (a.map V.int).length 0 lo)).take (HT.sIx (a.map V.int).length (a.map V.int).length hi-HT.sIx (a.map V.int).length 0 lo),?_,?_⟩
 ·unfold gv;rw[yk,yj]
 ·unfold gv;rw[aX,aX,ie,ie,ai]
theorem JR{K:Za}{vs:List V}{H:Hp}{Q:VK}{E:XK}(h:uh K vs H Q E):Cr K (bN Q) (start DG vs) H:=by
 obtain⟨a,s,rfl,hs,hn,k⟩:=h;obtain⟨D,e0,l0⟩:=xL s none (some 12);obtain⟨B,e1,l1⟩:=xL s (some 12) (some 63);have G:B≠[]->D.length=12:=by
  intro L;have l:0<B.length:=by cases B with|nil=>exact absurd rfl L|cons _ _=>simp
  rw[l1]at l;rw[l0];unfold gv at l ⊢;rw[aX,ie,ai]at l;rw[aX,ie,ai];have s1:HT.sIx s.length 0 (some 12)=min 12 s.length:=HT.sIx_nat _ _ 12;have s2:HT.sIx s.length s.length (some 12)=min 12 s.length:=HT.sIx_nat _ _ 12;rw[HT.sIx_none,s2];rw[s1]at l;omega
 refine⟨_,rfl,_,rfl,a,_,rfl,hs,fun q hq=>.inl ⟨q,_,rfl,.inl (ay.of aa),fun c C=>?_⟩⟩;rw[e0]at C ⊢;have M:H c=none:=by
  have:c≠q:=fun z=>by subst z;rw[aa]at C;cases C
  rw[aj this]at C;exact C
 have hS:ab H (upd (upd H q (.lst (D.map V.int))) c (.lst (D.map V.int))):=(ab.new hq).trans (ab.new C);refine⟨_,rfl,_,rfl,_,rfl,a,_,rfl,hS.seq hs,fun r N=>⟨r,rfl,⟨_,ay.of aa⟩,?_⟩⟩;rw[e1];have O:c≠r:=ae aa N
 let T:Nat->L2.St->Hp->Prop:=fun i σ w=>Lf fun(j:List Int) (x y:Option V)=>KH (σ=[some (.ref a),some (.ref c),x,y]) (w c=some (.lst (j.map V.int))) (j.length=D.length) (w r=some (.lst (B.map V.int))) (ab H w)
 refine mL (xs:=B.map V.int) T
  ⟨D,none,none,rfl,kp aa N,rfl,aa,hS.trans (ab.new N)⟩ (fun i σ w _ zq=>by obtain⟨j,x,y,_,_,_,h,_⟩:=zq;exact ay.of h) ?_ ?_
 ·rintro i x σ w t hi ⟨j,u,v,rfl,f,I,J,m⟩ U;have A:i<B.length:=by
   have:=(bM.mp hi).1;rwa[ai]at this
  have an:=G (fun z=>by rw[z]at A;simp at A);obtain⟨z,rfl⟩:∃z,x=V.int z:=by
   rw[cS,iY A]at hi;exact⟨_,(fW hi).symm⟩
  have g:upd w t (.tup [.int i,.int z]) c=some (.lst (j.map V.int)):=kp f U;have n:(i:Int) % 12=((i % 12:Nat):Int):=by omega
  have Y:i % 12<j.length:=by omega
  refine⟨t,_,rfl,br.of aa,rfl,_,_,rfl,_,_,rfl,rfl,?_⟩;have al:xT (j.map V.int) ((i:Int) % 12)=some (.int j[i % 12]):=by rw[n];exact cn (by simp[Y])
  refine⟨_,rfl,_,rfl,_,_,rfl,rfl,(by show(0:Int)<12;decide),c,_,_,_,rfl,rfl,ay.of g,al,_,rfl,_,_,rfl,rfl,_,rfl,_,rfl,_,_,rfl,rfl,(by show(0:Int)<12;decide),c,_,_,i % 12,rfl,rfl,g,?_,?_⟩
  ·rw[n];unfold Jo;rw[if_pos (by omega),if_pos (by rw[ai];omega)];rw[ka]
  ·refine⟨j.set (i % 12) (j[i % 12]+z),_,_,rfl,?_,by rw[List.length_set];exact I,?_,?_⟩
   ·rw[aa,List.map_set]
   ·rw[aj O.symm];exact kp J U
   ·intro b o e;rw[aj (ae e M)];exact kp (m b o e) U
 ·rintro σ w ⟨j,x,y,rfl,f,I,J,m⟩;refine⟨_,rfl,(by show 3<=ak;decide),fun p hp=>k p c _ (m.free hp) ⟨0,0,j,aa,kp f hp,Int.le_refl _,Int.le_refl _⟩ (m.trans (ab.new hp))⟩
def vz(c:Nat):Prop:=97<=c/\c<=122
structure pD(w:Str):Prop where
 lo:1<=w.length
 hi:w.length<=8
 al:∀c∈w.cps.toList,vz c
theorem ER:∀n:Nat,n<26->(("abcdefghijklmnopqrstuvwxyz":Str).cps.toList)[n]?=some (97+n):=by decide +kernel
theorem EQ:("abcdefghijklmnopqrstuvwxyz":Str).length<=ak:=by decide +kernel
theorem Jd{r:Int}(a:0<=r)(e:r<26):xT (("abcdefghijklmnopqrstuvwxyz":Str).cps.toList) r=some (97+r.toNat):=by
 obtain⟨n,rfl⟩:=kS a;rw[ka];exact cn (ER n (by omega))
theorem wQ(f:List Nat):∀a:Array Nat,((f.map fun c=>(⟨#[c]⟩:Str)).foldl (fun a p=>a++("":Str).cps++p.cps) a).toList=a.toList++f:=by
 have e:("":Str).cps=#[]:=by decide +kernel
 induction f with
 |nil=>intro a;simp
 |cons c f g =>
  intro a;rw[bL,List.foldl_cons,g,e];simp
theorem Di(a:List Nat):(yG "" (a.map fun c=>(⟨#[c]⟩:Str))).cps.toList=a:=by
 unfold yG dD.Str.glued;cases a with
 |nil=>rfl
 |cons c a =>
  rw[bL];show((a.map fun c=>(⟨#[c]⟩:Str)).foldl (fun e p=>e++("":Str).cps++p.cps) #[c]).toList=_;rw[wQ]
  rfl
theorem JH{a b:Str}(h:a.cps.toList=b.cps.toList):a=b:=by
 cases a with|mk x=>cases b with|mk y=>exact congrArg Str.mk (Array.toList_inj.mp h)
theorem ga(a:Str):a.length=a.cps.toList.length:=by simp[Str.length]
theorem An(a b:Str):(a++b).cps.toList=a.cps.toList++b.cps.toList:=by
 show(a.cps++b.cps).toList=_;simp
theorem IS(z:Str)(m:Nat):(vM z none (some (m:Int))).cps.toList=z.cps.toList.take m:=by
 unfold vM;rw[HT.sIx_none,HT.sIx_nat,oA,uK,ga];show List.take _ _=_;rw[List.take_eq_take_iff];omega
theorem IT(z:Str)(m:Nat):(vM z (some (m:Int)) none).cps.toList=z.cps.toList.drop m:=by
 unfold vM;rw[HT.sIx_none,HT.sIx_nat,ga];show List.take _ _=_;rw[yi (by rw[ie];omega)];by_cases h:m<=z.cps.toList.length
 ·rw[Nat.min_eq_left h]
 ·rw[Nat.min_eq_right (by omega),List.drop_length,oy (by omega)]
def fR(way size k:Nat):Nat:=(size+k * (way % 2)) % 8
def Cb(way m:Nat):Nat:=if way=0 then 0 else if way=1 then m else m / 2
def nV(b:List Nat)(way turn size k:Nat):List Nat :=
 (b.take (fR way size k)).take (Cb way (fR way size k))++[97+(turn+3 * k) % 26]++(b.take (fR way size k)).drop (Cb way (fR way size k))
def AJ(b:List Nat)(way turn size k:Nat):Str:=⟨(nV b way turn size k).toArray⟩
theorem rM{b:List Nat}(f:b.length=7)(e turn a k:Nat):(nV b e turn a k).length=fR e a k+1:=by
 have g:fR e a k<8:=uG _ (by decide);unfold nV;rw[aA,aA,aX,ie,aX,f];have:Cb e (fR e a k)<=fR e a k:=by unfold Cb;split;omega;split;omega;omega
 simp;omega
theorem Jw{b:List Nat}(i:b.length=7)(g:∀c∈b,vz c)(f turn a k:Nat):pD (AJ b f turn a k):=by
 have j:fR f a k<8:=uG _ (by decide);have h:=rM i f turn a k;have e:(AJ b f turn a k).cps.toList=nV b f turn a k:=by simp[AJ]
 refine⟨?_,?_,?_⟩
 ·rw[ga,e];omega
 ·rw[ga,e];omega
 ·rw[e];intro c hc;unfold nV at hc;rcases bf.mp hc with hc|hc
  ·rcases bf.mp hc with hc|hc
   ·exact g c (jw (jw hc))
   ·have:c=97+(turn+3 * k) % 26:=by simpa using hc
    subst this;have:(turn+3 * k) % 26<26:=uG _ (by decide);exact⟨by omega,by omega⟩
  ·exact g c (jw (List.mem_of_mem_drop hc))
theorem GY{b:List Nat}(g:b.length=7){f turn a:Nat}(t:f<3){j k:Nat}(u:j<26)(v:k<26)(h:AJ b f turn a j=AJ b f turn a k):j=k:=by
 have o:∀i,fR f a i<8:=fun i=>uG _ (by decide);have e:nV b f turn a j=nV b f turn a k:=by
  have:=congrArg (fun s=>Str.cps s |>.toList) h;simpa[AJ]using this
 have p:fR f a j=fR f a k:=by
  have:=congrArg List.length e;rw[rM g,rM g]at this;omega
 have q:97+(turn+3 * j) % 26=97+(turn+3 * k) % 26:=by
  have l:∀i,Cb f (fR f a i)<=fR f a i:=fun i=>by unfold Cb;split;omega;split;omega;omega
  have get:∀i,(nV b f turn a i)[Cb f (fR f a i)]?=some (97+(turn+3 * i) % 26):=by
   intro i;unfold nV;have r:((b.take (fR f a i)).take (Cb f (fR f a i))).length=Cb f (fR f a i):=by
    rw[aX,aX,g];have:=o i;have:=l i;omega
   rw[d_,mq (by omega),r,rp]
   rfl
  have m:=get j;have n:=get k;rw[e,p]at m;rw[m]at n;exact fW n
 omega
def iJ(ws:Zb):Prop:=ws.Nodup/\∀w∈ws,pD w
def kU(b:List Nat)(way turn size n:Nat):List Str:=(nT n).map (AJ b way turn size)
theorem Cg{b:List Nat}(g:b.length=7)(i:∀c∈b,vz c){a turn e n:Nat}(l:a<3)(q:n<=26):iJ (kU b a turn e n):=by
 refine⟨?_,fun w m=>?_⟩
 ·unfold kU;rw[List.nodup_iff_pairwise_ne,jv];refine(List.nodup_range (n:=n)).imp_of_mem ?_;intro j k o p f h;exact f (GY g l (by have:=List.mem_range.mp o;omega) (by have:=List.mem_range.mp p;omega) h)
 ·obtain⟨k,_,rfl⟩:=aE.mp m;exact Jw g i _ _ _ _
inductive my (vs:List V)(H:Hp)(Q:VK)(E:XK):Prop
 |mk (p c:Addr) (n:Nat):(vs=[.ref p,.int n])->(gM H p c)->(n<=26)->(∀(l:Addr) (ws:Zb) (H':Hp),iJ ws->ws.length=n->H l=none->H' l=some (.lst (ws.map V.str))->gM H' p c->dZ p H H'->Q (.ref l) H')->my  vs H Q E
theorem HF{K:Za}{A:List V}{H:Hp}{Q:VK}{E:XK}(h:my A H Q E):AS K gb (bN Q) (start B6 A) H:=by
 obtain⟨p,c,n,rfl,C,hn,k⟩:=h;refine⟨rfl,7,rfl,by decide,by decide,fun l I=>?_⟩
 let aC:Nat->List V->Hp->Prop:=fun i A u=>∃o:List Nat,A=o.map (fun c=>V.str ⟨#[c]⟩)/\o.length=i/\(∀c∈o,vz c)/\gM u p c/\dZ p H u/\u l=some (.lst A)
 refine Du (lo:=0) (n:=Int.toNat 7) aC
  ⟨[],rfl,rfl,(fun _ h=>nomatch h),C.ex (ab.new I),dZ.new I,aa⟩ (fun i A u _ zq=>by obtain⟨_,_,_,_,_,_,h⟩:=zq;exact h) ?_ ?_
 rotate_left
 ·rintro i A u hi ⟨o,rfl,g,w,v,a0,a4⟩;have J:=C.nep I;have a5:=C.nec I;refine gN (pS ?_);refine⟨_,rfl,_,rfl,fG v (by decide) (by decide) fun r H2 h0 h1 D s=>⟨_,r,_,rfl,rfl,EQ,Jd h0 h1,?_⟩⟩;have a6:=s l _ a4 J.symm;refine⟨a6,by rw[ai,g];exact aq (by omega),kL hi ⟨o++[97+r.toNat],by rw[ar];rfl,by rw[aA,g];rfl,?_,D.upd J a5,?_,aa⟩⟩
  ·intro x hc;rcases bf.mp hc with hc|hc
   ·exact w x hc
   ·have:x=97+r.toNat:=by simpa using hc
    subst this;exact⟨by omega,by omega⟩
  ·intro b o' e nb;rw[aj (ae e I)];exact s b o' (a0 b o' e nb) nb
 ·rintro A H1 ⟨o,rfl,g,w,a7,L,a8⟩;refine⟨"",l,o.map fun c=>(⟨#[c]⟩:Str),rfl,rfl,ay.of (by rw[a8,ow];rfl),?_,?_⟩
  ·have e0:("":Str).length=0:=by decide +kernel
   rw[e0,Nat.mul_zero,ow];have:∀o:List Nat,(o.map ((fun x=>Str.length x) ∘ fun c=>(⟨#[c]⟩:Str))).sum=o.length:=by
    intro o
    induction o with
    |nil=>rfl
    |cons c o ih=>rw[bL,List.sum_cons,ih,fF];show 1+_=_;omega
   rw[this,g];decide
  refine⟨_,rfl,fG a7 (by decide) (by decide) fun b0 H2 w0 w1 D s=>?_⟩;refine⟨_,rfl,fG D (by decide) (by decide) fun turn H3 t0 t1 a9 M=>?_⟩;refine⟨_,rfl,fG a9 (by decide) (by decide) fun bn H4 s0 s1 N O=>?_⟩;have T:dZ p H H4:=((L.trans s).trans M).trans O;obtain⟨j,rfl⟩:=kS w0;obtain⟨G,rfl⟩:=kS t0;obtain⟨sz,rfl⟩:=kS s0;have hb:=Di o;generalize yG "" (o.map fun c=>(⟨#[c]⟩:Str))=base at hb ⊢;refine⟨(by show 0<=ak;decide),fun f hf=>?_⟩;obtain⟨op,bb⟩:=N.pen;have y:H f=none:=T.free bb hf;have U:=C.nep y;have Y:=C.nec y;refine⟨_,rfl,n,rfl,by omega,by omega,kP (lo:=0) (n:=((n:Int)).toNat) (fun i σ u=>∃(a b c' d:Option V),σ=[some (.ref p),some (.int n),some (.str "abcdefghijklmnopqrstuvwxyz"),some (.str base),some (.int j),some (.int G),some (.int sz),some (.ref f),a,b,c',d] /\
   gM u p c/\dZ p H u/\u f=some (.lst ((kU o j G sz i).map V.str)))
   ⟨_,_,_,_,rfl,N.upd U Y,T.trans (dZ.new hf),aa⟩ ?_ ?_⟩
  ·rintro i σ u hi ⟨a,b,c',d,rfl,v,t,z⟩;have b1:i<n:=by omega
   have b2:j<3:=by omega
   have bi:((G:Int)+3 * (0+(i:Int))) % 26=(((G+3 * i) % 26:Nat):Int):=by omega
   refine⟨_,rfl,_,rfl,_,rfl,_,_,rfl,rfl,.inl ⟨by decide,by decide⟩,_,_,rfl,rfl,_,_,rfl,rfl,(by show(0:Int)<26;decide),_,_,_,rfl,rfl,EQ,Jd (rA _ (by decide)) (rq _ (by decide)),?_⟩;have al:base.length<=ak:=by rw[ga,hb,g];decide
   have e8:((sz:Int)+(0+(i:Int)) * ((j:Int) % 2)) % 8=((fR j sz i:Nat):Int):=by
    unfold fR;have:j=0∨j=1∨j=2:=by omega
    rcases this with rfl|rfl|rfl<;>simp<;>omega
   refine⟨_,rfl,_,rfl,_,rfl,_,rfl,_,_,rfl,rfl,(by show(0:Int)<2;decide),_,_,rfl,rfl,.inr ⟨by omega,by omega⟩,_,_,rfl,rfl,_,_,rfl,rfl,(by show(0:Int)<8;decide),_,rfl,base,rfl,al,?_⟩;rw[e8];have m:=IS base (fR j sz i);rw[hb]at m;generalize vM base none (some ((fR j sz i:Nat):Int))=part at m ⊢;have h8:fR j sz i<8:=uG _ (by decide);have B:part.length=fR j sz i:=by rw[ga,m,aX,g];omega
   have pz:part.length<=ak:=by rw[B];exact cz (aq (by omega))
   refine⟨_,rfl,.inr ⟨part,rfl,pz,_,rfl,.inr ⟨part,rfl,pz,_,_,rfl,rfl,⟨by decide,by decide⟩,(by show 3<=ak;decide),fun q hq=>?_⟩⟩⟩;have an:H q=none:=by
    obtain⟨b3,ap⟩:=v.pen;exact t.free ap hq
   have bl:xT [V.int 0,V.int (part.length:Nat),V.int ((part.length:Int) / 2)] (j:Int)=some (.int (Cb j (fR j sz i):Nat)):=by
    rw[B];have:j=0∨j=1∨j=2:=by omega
    rcases this with rfl|rfl|rfl
    ·rfl
    ·rfl
    ·show some (V.int (((fR 2 sz i:Nat):Int) / 2))=some (V.int ((Cb 2 (fR 2 sz i):Nat):Int));have:Cb 2 (fR 2 sz i)=fR 2 sz i / 2:=rfl;rw[this];congr 2
   refine⟨_,rfl,q,_,_,_,rfl,rfl,ay.of aa,bl,?_⟩;have as:upd u q (.lst [V.int 0,V.int (part.length:Nat),V.int ((part.length:Int) / 2)]) f=some (.lst ((kU o j G sz i).map V.str)):=kp z hq;have c1:=IS part (Cb j (fR j sz i));have c2:=IT part (Cb j (fR j sz i));have l1:(vM part none (some ((Cb j (fR j sz i):Nat):Int))).length<=8:=by rw[ga,c1,aX,m,aX,g];omega
   have l2:(vM part (some ((Cb j (fR j sz i):Nat):Int)) none).length<=8:=by rw[ga,c2,ie,m,aX,g];omega
   refine⟨_,rfl,.inl ⟨rfl,_,ay.of as⟩,_,rfl,_,rfl,_,rfl,part,rfl,pz,_,rfl,_,_,rfl,rfl,?_,_,rfl,_,rfl,_,rfl,part,rfl,pz,_,_,rfl,rfl,?_,f,_,_,rfl,rfl,as,?_,?_⟩
   ·have:Str.length ⟨#[97+(((G:Int)+3 * (0+(i:Int))) % 26).toNat]⟩=1:=rfl;rw[this];exact cz (aq (by omega))
   ·rw[ga,An,aA,<-ga,<-ga];have:Str.length ⟨#[97+(((G:Int)+3 * (0+(i:Int))) % 26).toNat]⟩=1:=rfl;rw[this];exact cz (aq (by omega))
   ·rw[ai];unfold kU;rw[ai,List.length_range];exact aq (by omega)
   ·refine⟨_,_,_,_,rfl,(v.upd (C.nep an) (C.nec an)).upd U Y,?_,?_⟩
    ·intro b' o' e nb;rw[aj (ae e y)];exact kp (t b' o' e nb) hq
    ·rw[aa];unfold kU;rw[List.range_succ,ar,ar];congr 3;show[V.str _]=[V.str _];congr 2;refine JH ?_;rw[An,An,c1,c2,m,bi,ka];simp[AJ,nV]
  ·rintro σ u ⟨a,b,c',d,rfl,v,t,z⟩;have en:((n:Int)).toNat=n:=by omega
   rw[en]at z;exact⟨_,rfl,k f _ u (Cg g w (by omega) hn) (by unfold kU;rw[ai,List.length_range]) y z v t⟩
structure ah where
 a:Str
 sg:List Str
 b:Str
deriving DecidableEq
def SignAt(H:Hp)(s:Addr)(sg:Zb):Prop:=H s=some (.tup (sg.map V.str))
def iy(H:Hp)(t:Addr)(d:ah):Prop:=∃s,H t=some (.tup [.str d.a,.ref s,.str d.b])/\SignAt H s d.sg
def gx(H H':Hp):Prop:=∀b xs,H b=some (.tup xs)->H' b=some (.tup xs)
theorem iy.kt{H H':Hp}{t:Addr}{d:ah}(k:gx H H')(h:iy H t d):iy H' t d:=by
 obtain⟨s,a,e⟩:=h;exact⟨s,k _ _ a,k _ _ e⟩
theorem dZ.kt{p:Addr}{H a:Hp}{f:List V}(e:dZ p H a)(g:H p=some (.lst f)):gx H a:=fun b i h=>e b _ h (fun z=>by rw[z,g]at h;cases h)
theorem ab.kt{H a:Hp}(e:ab H a):gx H a:=fun b f h=>e b _ h
theorem gx.trans{H e f:Hp}(a:gx H e)(b:gx e f):gx H f:=fun x g h=>b x g (a x g h)
theorem cO{H:Hp}{l:Addr}{a:List V}{o:HO}(h:H l=some (.lst a)):gx H (upd H l o):=fun b f e=>by
 rw[aj (fun z=>by rw[z,h]at e;cases e)];exact e
abbrev dg(H:Hp)(ts:Ze)(ds:List ah):Prop:=Paired (iy H) ts ds
theorem Paired.get{α β:Type}{R:α->β->Prop}{a:List α}{e:List β}{i:Nat}{y:β}(g:Paired R a e)(h:e[i]?=some y):∃x,a[i]?=some x/\R x y:=by
 induction g generalizing i with
 |nil=>cases h
 |cons r _ f =>
  cases i with
  |zero=>injection h with h;subst h;exact⟨_,rfl,r⟩
  |succ i=>exact f h
theorem Paired.getL{α β:Type}{R:α->β->Prop}{a:List α}{e:List β}{i:Nat}{x:α}(g:Paired R a e)(h:a[i]?=some x):∃y,e[i]?=some y/\R x y:=by
 induction g generalizing i with
 |nil=>cases h
 |cons r _ f =>
  cases i with
  |zero=>injection h with h;subst h;exact⟨_,rfl,r⟩
  |succ i=>exact f h
theorem dg.kt{H H':Hp}{a:Ze}{e:List ah}(k:gx H H')(h:dg H a e):dg H' a e:=Paired.mapP h fun _ _ r=>r.kt k
theorem Lh{H:Hp}{a:Addr}{o:HO}(h:H a=some o):upd H a o=H:=by
 funext b;by_cases e:b=a
 ·subst e;rw[aa,h]
 ·rw[aj e]
def dh(x:Str):DT:=.k (.inr x)
def vK(d:ah):DT:=.t [dh d.a,.t (d.sg.map dh),dh d.b]
theorem qv{x y:Str}(h:dh x=dh y):x=y:=by
 unfold dh at h;injection h with h;injection h
theorem gD:∀{x y:Zb},x.map dh=y.map dh->x=y
 |[],[],_=>rfl
 |[],_::_,h=>by cases h
 |_::_,[],h=>by cases h
 |a::x,b::y,h=>by
  rw[bL,bL]at h;injection h with e f;rw[qv e,gD f]
theorem Kz{x y:ah}(h:vK x=vK y):x=y:=by
 unfold vK at h;injection h with h;injection h with e h;injection h with a h;injection h with f h;injection a with a;cases x;cases y;simp only at *;rw[qv e,gD a,qv f]
theorem f8(a:Zb):DT.depths (a.map dh)=0:=by
 induction a with
 |nil=>rfl
 |cons x a e=>rw[bL];show max (DT.depth (dh x)) (DT.depths _)=0;rw[e];rfl
theorem uv(d:ah):(vK d).depth=2:=by
 show DT.depths [dh d.a,.t (d.sg.map dh),dh d.b]+1=2;show max (DT.depth (dh d.a)) (max (DT.depths (d.sg.map dh)+1) (max (DT.depth (dh d.b)) 0))+1=2;rw[f8]
 rfl
theorem xK(a:List ah):DT.depths (a.map vK)<=8:=by
 induction a with
 |nil=>exact c_ _
 |cons x e f=>rw[bL];show max (DT.depth (vK x)) (DT.depths _)<=8;rw[uv];omega
theorem gu{K:Za}{H:Hp}:∀a:List Str,DIns K H (a.map dh) (a.map V.str)
 |[]=>by show DIns K H [] [];unfold DIns;rfl
 |x::a=>by
  rw[bL,bL];unfold DIns;refine⟨_,_,rfl,?_,gu a⟩;unfold dh iK
  rfl
theorem mM{K:Za}{H:Hp}(x:Str):iK K H (dh x) (.str x):=by unfold dh iK;rfl
theorem aW{K:Za}{H:Hp}{s:Addr}{a:Zb}(h:br K H s (a.map V.str)):iK K H (.t (a.map dh)) (.ref s):=by
 unfold iK;exact⟨s,_,rfl,h,gu _⟩
theorem iy.dIn{K:Za}{H:Hp}{t:Addr}{d:ah}(h:iy H t d):iK K H (vK d) (.ref t):=by
 obtain⟨s,a,e⟩:=h;unfold vK;unfold iK;refine⟨t,_,rfl,br.of a,?_⟩;unfold DIns;refine⟨_,_,rfl,mM _,?_⟩;unfold DIns;refine⟨_,_,rfl,aW (br.of e),?_⟩;unfold DIns;refine⟨_,_,rfl,mM _,?_⟩;unfold DIns
 rfl
theorem dg.dIns{K:Za}{H:Hp}{a:Ze}{e:List ah}(h:dg H a e):DIns K H (e.map vK) (a.map V.ref):=by
 induction h with
 |nil=>show DIns K H [] [];unfold DIns;rfl
 |cons r _ f =>
  rw[bL,bL];unfold DIns;exact⟨_,_,rfl,r.dIn,f⟩
theorem zU{d:ah}{a:List ah}:vK d∈a.map vK↔d∈a:=by
 constructor
 ·intro h;obtain⟨x,hx,e⟩:=aE.mp h;rw[<-Kz e];exact hx
 ·exact fQ
def qE(ds:List ah)(d:ah):List ah:=if d∈ds then ds else ds++[d]
inductive r_ (vs:List V)(H:Hp)(Q:VK)(E:XK):Prop
 |mk (l t:Addr) (ts:Ze) (ds:List ah) (d:ah):(vs=[.ref l,.ref t])->(H l=some (.lst (ts.map V.ref)))->(dg H ts ds)->(iy H t d)->(ds.length<=1000)->(∀ts':List Addr,dg H ts' (qE ds d)->Q .non (upd H l (.lst (ts'.map V.ref))))->r_  vs H Q E
theorem Lk{K:Za}{i:List V}{H:Hp}{Q:VK}{E:XK}(h:r_ i H Q E):Fj K (bN Q) (start GG i) H:=by
 obtain⟨l,t,j,g,d,rfl,a,e,m,n,k⟩:=h;refine⟨_,rfl,_,rfl,vK d,g.map vK,l,_,m.dIn,rfl,.inl (ay.of a),e.dIns,by rw[uv];decide,xK g,_,rfl,?_⟩;by_cases f:d∈g
 ·rw[if_pos rfl,zzr1 (zU.mpr f)];refine bd ?_;have:=k j (by unfold qE;rw[if_pos f];exact e);rw[Lh a]at this;exact this
 ·rw[if_pos rfl,zzr0 (fun z=>f (zU.mp z))];refine bU ?_;refine⟨_,rfl,.inl ⟨rfl,_,ay.of a⟩,_,rfl,l,_,_,rfl,rfl,a,?_,?_⟩
  ·rw[ai,Paired.length e];exact aq n
  ·have:=k (j++[t]) (by unfold qE;rw[if_neg f];exact ee e m);rw[ar]at this;exact this
structure DI(R:ah->Prop)(H0:Hp)(p c l:Addr)(m:Nat)(H:Hp):Prop where
 pen:gM H p c
 ds:∃ts ds,H l=some (.lst (ts.map V.ref))/\dg H ts ds/\ds.Nodup/\(∀d∈ds,R d)/\ds.length<=m
 ex:dZ p H0 H
 fr:H0 l=none
 pl:p≠l
 cl:c≠l
section
variable{R:ah->Prop}{H0 H H':Hp}{p c l:Addr}{m:Nat}
theorem gM.lst{H:Hp}{p c:Addr}(h:gM H p c):∃e,H p=some (.lst e):=by
 obtain⟨a,r,g,f,_⟩:=h;exact⟨_,f⟩
theorem DI.took(h:DI R H0 p c l m H)(a:gM H' p c)(e:dZ p H H'):DI R H0 p c l m H':=by
 obtain⟨f,g,i,j,k⟩:=h.ds;obtain⟨n,hx⟩:=h.pen.lst;exact⟨a,⟨f,g,e _ _ i h.pl.symm,j.kt (e.kt hx),k⟩,h.ex.trans e,h.fr,h.pl,h.cl⟩
theorem DI.new(h:DI R H0 p c l m H){q:Addr}{o:HO}(a:H q=none):DI R H0 p c l m (upd H q o) :=
 h.took (h.pen.ex (ab.new a)) (dZ.new a)
theorem DI.up(h:DI R H0 p c l m H){n:Nat}(a:m<=n):DI R H0 p c l n H:=by
 obtain⟨e,f,g,i,j,k,o⟩:=h.ds;exact⟨h.pen,⟨e,f,g,i,j,k,bI o a⟩,h.ex,h.fr,h.pl,h.cl⟩
theorem DI.put(h:DI R H0 p c l m H){t:Addr}{d:ah}{Q:VK}{E:XK}(r:iy H t d)(s:R d)(u:m<=1000)(k:∀H',DI R H0 p c l (m+1) H'->Q .non H'):r_ [.ref l,.ref t] H Q E:=by
 obtain⟨v,f,i,w,j,q,y⟩:=h.ds;refine⟨l,t,v,f,d,rfl,i,w,r,bI y u,fun g z=>k _ ⟨h.pen.upd h.pl h.cl,⟨g,qE f d,aa,z.kt (cO i),?_,?_,?_⟩,?_,h.fr,h.pl,h.cl⟩⟩
 ·unfold qE;split
  ·exact j
  ·next A =>
   rw[dk];refine⟨j,by simp,?_⟩;intro a B b C e;have:b=d:=by simpa using C
   subst this;exact A (e▸B)
 ·intro x hx;unfold qE at hx;split at hx
  ·exact q x hx
  ·rcases bf.mp hx with hx|hx
   ·exact q x hx
   ·have:x=d:=by simpa using hx
    rw[this];exact s
 ·unfold qE;split
  ·omega
  ·rw[aA];show f.length+1<=m+1;omega
 ·intro b o e n;rw[aj (ae e h.fr)];exact h.ex b o e n
end
theorem gM.ne_strs{H:Hp}{p c a:Addr}{g:Zb}(h:gM H p c)(f:H a=some (.lst (g.map V.str))):a≠p:=by
 intro e;obtain⟨x,y,j,i,_⟩:=h;rw[e,i]at f;injection f with f;injection f with f;cases g with
 |nil=>cases f
 |cons w g=>injection f with f;cases f
theorem um{K:Za}{r:R2}(B:∀x y H Q,df K x y H Q->r x y H Q){σ:L2.St}{H:Hp}{Q:VK}{p c a:Addr}{j:Nat}{e:Zb}(C:σ[0]?=some (some (.ref p)))(o:σ[j]?=some (some (.ref a)))(q:gM H p c)
  (g:H a=some (.lst (e.map V.str))) (h:e≠[]) (s:e.length<=1000) (k:∀w∈e,∀H',gM H' p c->dZ p H H'->Q (.str w) H') :
  ∃v,σ[j]?=some (some v)/\∃t,σ[0]?=some (some t)/\∃u,σ[j]?=some (some u)/\fH K [u] H fun y D=>gb [t,y] D (fun y E=>r v y E Q) E0:=by
 have I:0<e.length:=by cases e with|nil=>exact absurd rfl h|cons _ _=>simp
 have G:(V.int ((e.map V.str).length:Nat))=V.int (e.length:Nat):=by rw[ai]
 have i:=q.ne_strs g;have l:∀(x:Int) (H':Hp),0<=x->x<(e.length:Int)->gM H' p c->dZ p H H'->df K (.ref a) (.int x) H' Q:=by
  intro x H' m z f ex;obtain⟨n,rfl⟩:=kS m;have A:n<e.length:=by omega
  exact⟨a,_,(n:Int),.str e[n],rfl,rfl,ay.of (ex _ _ g i),cn (by simp[A]),k _ (List.getElem_mem A) H' f ex⟩
 exact⟨_,o,_,C,_,o,.inl ⟨a,_,rfl,.inl (ay.of g),by rw[G];exact fG q (by omega) (by omega) fun x H' m z f ex=>B _ _ _ _ (l x H' m z f ex)⟩⟩
def Up(up:Bool)(rooms:Zb)(a b:Str):Prop:=∃i j:Nat,rooms[i]?=some a/\rooms[j]?=some b/\(if up=true then i<j else j<i)
structure mQ(J0 J2 rooms:Zb)(up:Bool)(d:ah):Prop where
 a:d.a∈rooms
 b:d.b∈rooms
 sg:(∃w∈J0,d.sg=[("ask":Str),w])∨(∃w∈J2,d.sg=[("say":Str),w])∨(d.sg=[("still":Str)]/\Up up rooms d.a d.b)
def ao:List Str:=[("still":Str)]
structure wc(J0 J2 rooms:Zb)(d:ah):Prop where
 a:d.a∈rooms
 b:d.b∈rooms
 sg:(∃w∈J0,d.sg=[("ask":Str),w])∨(∃w∈J2,d.sg=[("say":Str),w])∨d.sg=ao
theorem mQ.d{J0 e rooms:Zb}{up:Bool}{d:ah}(h:mQ J0 e rooms up d):wc J0 e rooms d:=⟨h.a,h.b,h.sg.imp id (Or.imp id And.left)⟩
inductive Reach(ds:List ah)(a:Str):Str->Prop
 |one {b:Str}(h:(⟨a,ao,b⟩:ah)∈ds):Reach ds a b
 |step {b c:Str}(r:Reach ds a b) (h:(⟨b,ao,c⟩:ah)∈ds):Reach ds a c
theorem qP{rooms:Zb}(m:rooms.Nodup){i j:Nat}{a:Str}(hi:rooms[i]?=some a)(n:rooms[j]?=some a):i=j:=by
 obtain⟨e,f⟩:=bM.mp hi;obtain⟨g,k⟩:=bM.mp n;have l:=List.pairwise_iff_getElem.mp m;rcases Nat.lt_trichotomy i j with h|h|h
 ·exact absurd (f.trans k.symm) (l i j e g h)
 ·exact h
 ·exact absurd (k.trans f.symm) (l j i g e h)
theorem Up.trans{up:Bool}{rooms:Zb}(f:rooms.Nodup){a b c:Str}(g:Up up rooms a b)(l:Up up rooms b c):Up up rooms a c:=by
 obtain⟨i,j,m,n,h⟩:=g;obtain⟨q,k,o,p,e⟩:=l;have:=qP f n o;subst this;refine⟨i,k,m,p,?_⟩;cases up
 ·simp at h e ⊢;omega
 ·simp at h e ⊢;omega
theorem Up.irr{up:Bool}{rooms:Zb}(e:rooms.Nodup){a:Str}(h:Up up rooms a a):False:=by
 obtain⟨i,j,f,g,h⟩:=h;have:=qP e f g;subst this;cases up
 ·simp at h
 ·simp at h
theorem G_{i j rooms:Zb}{g:List ah}{up:Bool}(k:rooms.Nodup)(m:∀d∈g,mQ i j rooms up d){a b:Str}(h:Reach g a b):Up up rooms a b:=by
 have f:∀{a b:Str},(⟨a,ao,b⟩:ah)∈g->Up up rooms a b:=by
  intro a b h;rcases(m _ h).sg with⟨w,_,e⟩|⟨w,_,e⟩|⟨_,e⟩
  ·cases e
  ·cases e
  ·exact e
 induction h with
 |one h=>exact f h
 |step r h l=>exact l.trans k (f h)
theorem at4{x r:Int}(a:0<=x)(e:x<=2)(f:0<=r)(g:r<4):∃j:Int,xT [V.int x,.int 1,.int 1,.int 2] r=some (.int j)/\0<=j/\j<=2:=by
 have:r=0∨r=1∨r=2∨r=3:=by omega
 rcases this with rfl|rfl|rfl|rfl
 ·exact⟨x,rfl,a,e⟩
 ·exact⟨1,rfl,by decide,by decide⟩
 ·exact⟨1,rfl,by decide,by decide⟩
 ·exact⟨2,rfl,by decide,by decide⟩
theorem Gp(a:Zb)(k:Nat):gv (a.map V.str) (some (k:Int)) none=(a.drop k).map V.str:=by
 unfold gv;rw[HT.sIx_none,HT.sIx_nat,ai,yi (by rw[ie,ai];omega),yj];by_cases h:k<=a.length
 ·rw[Nat.min_eq_left h]
 ·rw[Nat.min_eq_right (by omega),oy (by simp),oy (by rw[ai];omega)]
theorem uz(a:Zb)(k:Nat):gv (a.map V.str) none (some (k:Int))=(a.take k).map V.str:=by
 unfold gv;rw[HT.sIx_none,HT.sIx_nat,ai,oA,uK,yk,List.take_eq_take_iff,ai];omega
theorem vJ{K:Za}{H:Hp}{a:Addr}{e:Zb}(h:ay K H a (e.map V.str)):iK K H (.s (e.map dh)) (.ref a):=by
 unfold iK;exact⟨a,_,rfl,h,gu _⟩
theorem Ae{K:Za}{H:Hp}{a:Addr}(h:ay K H a []):iK K H (.s []) (.ref a):=by
 unfold iK;refine⟨a,_,rfl,h,?_⟩;unfold DIns
 rfl
structure ax(J0 J2 rooms:Zb)(ds:List ah):Prop where
 okA:iJ J0
 okS:iJ J2
 apart:∀w∈J2,w∉J0
 okR:iJ rooms
 asks0:J0≠[]
 says0:J2≠[]
 rooms0:rooms≠[]
 asks4:J0.length<=4
 says4:J2.length<=4
 rooms26:rooms.length<=150
 nodup:ds.Nodup
 good:∀d∈ds,wc J0 J2 rooms d
 few:ds.length<=1000
 noround:∀r,¬Reach ds r r
structure gK(H:Hp)(t l1 l2 l3 l4:Addr)(ts:Ze)(J0 J2 rooms:Zb)(ds:List ah):Prop where
 t:H t=some (.tup [.ref l1,.ref l2,.ref l3,.ref l4])
 a1:H l1=some (.lst (J0.map V.str))
 a2:H l2=some (.lst (J2.map V.str))
 a3:H l3=some (.lst (rooms.map V.str))
 a4:H l4=some (.lst (ts.map V.ref))
 ds:dg H ts ds
theorem gM.ne_refs{H:Hp}{p c a:Addr}{ts:Ze}(h:gM H p c)(f:H a=some (.lst (ts.map V.ref))):a≠p:=by
 intro e;obtain⟨x,y,j,i,_⟩:=h;rw[e,i]at f;injection f with f;injection f with f;cases ts with
 |nil=>cases f
 |cons w g =>
  injection f with _ f;cases g with
  |nil=>cases f
  |cons w g=>injection f with f;cases f
theorem gK.ex{H f:Hp}{p c t g i l3 j:Addr}{k:Ze}{l m rooms:Zb}{n:List ah}(h:gK H t g i l3 j k l m rooms n)(a:gM H p c)(e:dZ p H f):gK f t g i l3 j k l m rooms n:=by
 obtain⟨o,hx⟩:=a.lst;exact⟨e.kt hx _ _ h.t,e _ _ h.a1 (a.ne_strs h.a1),e _ _ h.a2 (a.ne_strs h.a2),e _ _ h.a3 (a.ne_strs h.a3),e _ _ h.a4 (a.ne_refs h.a4),h.ds.kt (e.kt hx)⟩
theorem gK.same{H a:Hp}{t f g l3 i:Addr}{j:Ze}{k l rooms:Zb}{m:List ah}(h:gK H t f g l3 i j k l rooms m)(e:ab H a):gK a t f g l3 i j k l rooms m :=
 ⟨e _ _ h.t,e _ _ h.a1,e _ _ h.a2,e _ _ h.a3,e _ _ h.a4,h.ds.kt (ab.kt e)⟩
theorem bh{a:Zb}{i:Nat}{x:V}(h:(a.map V.str)[i]?=some x):∃w,a[i]?=some w/\x=.str w:=by
 rw[cS]at h;cases q:a[i]? with
 |none=>rw[q]at h;cases h
 |some r=>rw[q]at h;exact⟨r,rfl,(fW h).symm⟩
theorem take_snoc{α:Type}{a:List α}{i:Nat}{w:α}(h:a[i]?=some w):a.take (i+1)=a.take i++[w]:=by
 obtain⟨hi,rfl⟩:=bM.mp h;rw[List.take_succ_eq_append_getElem hi]
def qJ(w:Str):Bool:=!decide (w=("":Str)) && (decide (w.length<=8) && w.cps.toList.all fun c=>decide (c∈("abcdefghijklmnopqrstuvwxyz":Str).cps.toList))
theorem pD.b{w:Str}(h:pD w):qJ w=true:=by
 unfold qJ;have a:¬(w=("":Str)):=fun e=>by
  have:=h.lo;rw[e]at this;exact absurd this (by decide +kernel)
 rw[zzr0 a,zzr1 h.hi,Bool.not_false,uF,uF,yQ];intro c f;obtain⟨g,i⟩:=h.al c f;refine zzr1 ?_;have:=ER (c-97) (by omega);have e:97+(c-97)=c:=by omega
 rw[e]at this;exact bX this
inductive sp_is_name (vs:List V)(H:Hp)(Q:VK)(E:XK):Prop
 |mk (w:Str):(vs=[.str w])->(w.length<=1000)->(∀H',ab H H'->Q (.bl (qJ w)) H')->sp_is_name  vs H Q E
theorem CU{K:Za}{a:List V}{H:Hp}{Q:VK}{E:XK}(h:sp_is_name a H Q E):Fl K (bN Q) (start GI a) H:=by
 obtain⟨w,rfl,s,k⟩:=h;refine⟨_,rfl,rfl,_,rfl,?_⟩;have t:(!decide (V.str w=V.str ("":Str)))=!decide (w=("":Str)):=by
  congr 1;by_cases e:w=("":Str)
  ·rw[zzr1 e,zzr1 (by rw[e])]
  ·rw[zzr0 e,zzr0 (fun z=>e (by injection z))]
 rw[t];refine l6 (fun m=>?_) (fun m=>?_)
 ·refine⟨_,rfl,.inr ⟨w,rfl,cz (aq s),_,_,rfl,rfl,_,rfl,?_⟩⟩;refine l6 (fun n=>?_) (fun n=>?_)
  ·refine⟨_,rfl,w,rfl,fun l r=>?_⟩
   let p:Nat->List V->Hp->Prop:=fun i a j=>a=((w.cps.toList.take i).map fun c=>V.bl (decide (c∈("abcdefghijklmnopqrstuvwxyz":Str).cps.toList)))/\ab H j/\j l=some (.lst a)
   refine IV p
    ⟨rfl,ab.new r,aa⟩ (fun i a j _ h=>h.2.2) ?_ ?_
   ·rintro a j ⟨rfl,q,f⟩;refine⟨l,w.cps.toList.map fun c=>decide (c∈("abcdefghijklmnopqrstuvwxyz":Str).cps.toList),rfl,ay.of ?_,?_⟩
    ·rw[f,ow];have:w.cps.toList.take w.cps.size=w.cps.toList:=by
      rw[yi];simp
     rw[this]
     rfl
    ·have:=k j q;have g:decide (w.length<=8)=true:=zzr1 (by have:=of_decide_eq_true n;omega);unfold qJ at this;rw[m,g,uF,uF]at this;rw[List.all_map];exact this
   ·rintro i a j c u hi ⟨rfl,q,f⟩;refine gN (pS ?_);refine⟨_,rfl,c,_,rfl,rfl,f,?_,kL hi ⟨?_,?_,aa⟩⟩
    ·rw[ai,aX];have:w.length=w.cps.toList.length:=ga w;exact aq (by omega)
    ·rw[take_snoc (by rw[<-u];simp),ar]
     rfl
    ·intro b o e;rw[aj (ae e r)];exact q b o e
  ·have:=k H (ab.refl H);have g:decide (w.length<=8)=false:=zzr0 (fun z=>n (zzr1 (by omega)));unfold qJ at this;rw[m,g,uF,D0]at this;exact this
 ·have:=k H (ab.refl H);unfold qJ at this;rw[Bool.eq_false_iff.mpr m,D0]at this;exact this
def bq(ws:Zb):List (cX×V):=ws.foldl (fun acc w=>dP acc (.inr w) (.bl true)) []
theorem eQ(a:Zb)(w:Str):bq (a++[w])=dP (bq a) (.inr w) (.bl true):=by
 unfold bq;rw[rj]
 rfl
theorem Bi{κ:Type}[DecidableEq κ](a:List (κ×V))(k:κ)(v:V):(dP a k v).length<=a.length+1:=by
 unfold dP;split
 ·rw[ai];omega
 ·rw[aA];exact aR _
theorem kB{α:Type}(P:List α->Prop)(f:P [])(g:∀a w,P a->P (a++[w]))(a:List α):P a:=by
 have:∀n (a:List α),a.length=n->P a:=by
  intro n
  induction n with
  |zero=>intro a h;rw[List.length_eq_zero_iff.mp h];exact f
  |succ n i =>
   intro a h;have e:a≠[]:=fun z=>by rw[z]at h;cases h
   rw[<-List.dropLast_concat_getLast e];exact g _ _ (i _ (by rw[List.length_dropLast,h];rfl))
 exact this _ a rfl
theorem lq(a:Zb):(bq a).length<=a.length:=by
 refine kB (fun a=>(bq a).length<=a.length) (aR _) (fun a w h=>?_) a;show(bq (a++[w])).length<=(a++[w]).length;rw[eQ,aA];have:=Bi (bq a) (.inr w) (.bl true);show _<=a.length+1;omega
theorem vA(a:Zb)(x:Str):c6 (bq a) (.inr x)=if x∈a then some (.bl true)else none:=by
 refine kB (fun a=>c6 (bq a) (.inr x)=if x∈a then some (.bl true)else none) rfl (fun a w h=>?_) a
 show c6 (bq (a++[w])) (.inr x)=_;rw[eQ,AL,h];by_cases e:x=w
 ·subst e;rw[if_pos rfl,if_pos (by simp)]
 ·have f:¬((Sum.inr x:cX)=.inr w):=fun z=>e (by injection z);rw[if_neg f];by_cases m:x∈a
  ·rw[if_pos m,if_pos (cu _ m)]
  ·rw[if_neg m,if_neg (fun z=>by rcases bf.mp z with z|z;exact m z;exact e (by simpa using z))]
theorem fM(a:Zb)(x:Str):(c6 (bq a) (.inr x)).isSome=decide (x∈a):=by
 rw[vA];by_cases m:x∈a
 ·rw[if_pos m,zzr1 m];rfl
 ·rw[if_neg m,zzr0 m];rfl
inductive sp_as_keys(K:Za)(vs:List V)(H:Hp)(Q:VK)(E:XK):Prop
 |mk (l:Addr) (ws:Zb):(vs=[.ref l])->(ay K H l (ws.map V.str))->(ws.length<=1000)->(∀d,H d=none->Q (.ref d) (upd H d (.dK (bq ws))))->sp_as_keys K vs H Q E
theorem CW{K:Za}{o:List V}{H:Hp}{Q:VK}{E:XK}(h:sp_as_keys K o H Q E):Fn K (bN Q) (start GK o) H:=by
 obtain⟨l,j,rfl,q,t,k⟩:=h;refine fun d p=>?_;have a:∀f,ay K (upd H d (.dK f)) l (j.map V.str):=fun f=>(ab.new p).seq q;refine⟨_,rfl,l,rfl,⟨_,a _⟩,?_⟩
 let n:Nat->L2.St->Hp->Prop:=fun i σ m=>∃x,σ=[some (.ref l),some (.ref d),x]/\m=upd H d (.dK (bq (j.take i)))
 refine bw (xs:=j.map V.str) n ⟨_,rfl,rfl⟩ (fun i σ m _ r=>by obtain⟨_,_,e⟩:=r;exact by rw[e];exact a _) ?_ ?_
 ·rintro i x σ m hi ⟨y,rfl,rfl⟩;obtain⟨w,s,rfl⟩:=bh hi;have g:(bq (j.take i)).length<ak:=aq (bI (lq _) (by rw[aX];omega));refine⟨_,rfl,_,rfl,d,_,rfl,.inl ⟨_,.inr w,aa,rfl,g,rfl⟩,_,rfl,?_⟩;rw[t_,take_snoc s,eQ]
 ·rintro σ m ⟨x,rfl,rfl⟩;rw[ai,bp];exact⟨_,rfl,k d p⟩
def IH(most:Nat):Nat->List Str->List Str->Option Nat
 |_,_,[]=>none
 |i,ahead,n::ns=>if i=most∨n∈ahead∨qJ n=false then some i else IH most (i+1) (ahead++[n]) ns
def dI(names:Zb)(most:Nat)(taken:Zb):Option Nat:=if names=[]then some 0 else IH most 0 taken names
def oV:Option Nat->V
 |none=>.non
 |some i=>.int i
inductive sp_first_wrong_name(K:Za)(vs:List V)(H:Hp)(Q:VK)(E:XK):Prop
 |mk (l t:Addr) (names taken:Zb) (most:Nat):(vs=[.ref l,.int most,.ref t])->(ay K H l (names.map V.str))->(ay K H t (taken.map V.str))->(names.length+taken.length<=1000)->((∀w∈names,w.length<=1000))->(∀H',ab H H'->Q (oV (dI names most taken)) H')->sp_first_wrong_name K vs H Q E
theorem sC{K:Za}{H:Hp}{Q:VK}{E:XK}{l:Addr}{ws:Zb}(a:ay K H l (ws.map V.str))(e:ws.length<=1000)(k:∀d,H d=none->Q (.ref d) (upd H d (.dK (bq ws)))):sp_as_keys K [.ref l] H Q E:=by
 exact⟨l,ws,rfl,a,e,k⟩
theorem Gb{H:Hp}{Q:VK}{E:XK}{w:Str}(e:w.length<=1000)(k:∀a,ab H a->Q (.bl (qJ w)) a):sp_is_name [.str w] H Q E:=by
 exact⟨w,rfl,e,k⟩
theorem nR{K:Za}{M:List V}{H:Hp}{Q:VK}{E:XK}(h:sp_first_wrong_name K M H Q E):oN K sp_is_name (sp_as_keys K) (bN Q) (start pj M) H:=by
 obtain⟨l,t,names,taken,a,rfl,v,U,hz,Y,k⟩:=h;refine⟨_,rfl,.inl ⟨l,_,rfl,.inl v,rfl,_,rfl,?_⟩⟩;by_cases A:names=[]
 ·subst A;refine bU ?_;have:=k H (ab.refl H);exact this
 have e0:decide (V.int ((names.map V.str).length:Nat)=V.int 0)=false:=zzr0 (fun z=>A (by
  injection z with z;rw[ai]at z;exact List.length_eq_zero_iff.mp (by omega)))
 rw[e0];refine bd ?_;have r:∀H',ab H H'->Q (oV (IH a 0 taken names)) H':=by
  unfold dI at k;rw[if_neg A]at k;exact k
 refine⟨_,rfl,sC U (by omega) fun d B=>?_⟩;refine⟨_,rfl,l,rfl,⟨_,(ab.new B).seq v⟩,?_⟩
 let C:Nat->L2.St->Hp->Prop:=fun i σ H'=>∃x y,σ=[some (.ref l),some (.int a),some (.ref t),some (.ref d),x,y]/\ab H H'/\H' d=some (.dK (bq (taken++names.take i)))/\IH a i (taken++names.take i) (names.drop i)=IH a 0 taken names
 refine mL (xs:=names.map V.str) C
  ⟨_,_,rfl,ab.new B,by rw[yh,dS];exact aa,by rw[yh,dS,oA]⟩ (fun i σ H' _ zq=>by obtain⟨_,_,_,n,_⟩:=zq;exact n.seq v) ?_ ?_
 ·rintro i x σ H' q hi ⟨x4,x5,rfl,n,D,hf⟩ N;obtain⟨w,f,rfl⟩:=bh hi;have G:i<names.length:=(bM.mp f).1;have ed:names.drop i=w::names.drop (i+1):=by
   rw[ox G];congr 1;exact(bM.mp f).2
  rw[ed]at hf;have j:upd H' q (.tup [.int i,.str w]) d=some (.dK (bq (taken++names.take i))):=kp D N;have g:ab H (upd H' q (.tup [.int i,.str w])):=n.trans (ab.new N);have I:w.length<=1000:=Y w (bX f);refine⟨q,_,rfl,br.of aa,rfl,_,_,rfl,_,_,rfl,rfl,?_⟩;generalize upd H' q (.tup [.int i,.str w])=O at j g ⊢;refine⟨_,rfl,_,rfl,rfl,_,rfl,?_⟩;by_cases s:i=a
  ·have J:decide (V.int (i:Nat)=V.int (a:Nat))=true:=zzr1 (by rw[s]);rw[J];refine bU (bU ?_);refine⟨_,rfl,?_⟩;have:=r O g;rw[<-hf]at this;unfold IH at this;rw[if_pos (.inl s)]at this;exact this
  have J:decide (V.int (i:Nat)=V.int (a:Nat))=false:=zzr0 (fun z=>s (by injection z with z;omega));rw[J];refine bd ?_;refine⟨_,rfl,_,rfl,d,_,rfl,.inl ⟨_,.inr w,.inl j,rfl,rfl⟩,_,rfl,?_⟩;rw[fM];by_cases u:w∈taken++names.take i
  ·rw[zzr1 u];refine bU (bU ?_);refine⟨_,rfl,?_⟩;have:=r O g;rw[<-hf]at this;unfold IH at this;rw[if_pos (.inr (.inl u))]at this;exact this
  rw[zzr0 u];refine bd ?_;refine⟨_,rfl,Gb I fun H3 m=>⟨_,rfl,?_⟩⟩;have L:=m _ _ j;cases T:qJ w with
  |false =>
   refine bU ?_;refine⟨_,rfl,?_⟩;have:=r H3 (g.trans m);rw[<-hf]at this;unfold IH at this;rw[if_pos (.inr (.inr T))]at this;exact this
  |true =>
   refine bd ?_;have p:(bq (taken++names.take i)).length<ak:=aq (bI (lq _) (by rw[aA,aX];omega));refine⟨_,rfl,_,rfl,d,_,rfl,.inl ⟨_,.inr w,L,rfl,p,rfl⟩,_,_,rfl,?_,?_,?_⟩
   ·intro b o e;rw[aj (ae e B)];exact m _ _ (g _ _ e)
   ·rw[aa,take_snoc f,<-d_,eQ]
   ·rw[<-hf,take_snoc f,<-d_]
    conv=>rhs;unfold IH
    rw[if_neg];rintro(z|z|z)
    ·exact s z
    ·exact u z
    ·rw[T]at z;cases z
 ·rintro σ H' ⟨x,y,rfl,n,_,hf⟩;rw[ai,List.drop_length]at hf;have:=r H' n;rw[<-hf]at this;exact this
theorem BC{a:Nat}:∀(e ahead:Zb) (i:Nat),i+e.length<=a->(ahead++e).Nodup->(∀w∈e,pD w)->IH a i ahead e=none
 |[],_,_,_,_,_=>rfl
 |n::e,ahead,i,h,f,g=>by
  rw[fF]at h;unfold IH;rw[if_neg]
  ·refine BC e (ahead++[n]) (i+1) (by omega) (by rw[d_];exact f) fun w j=>g w (gC _ j)
  ·rintro(z|z|z)
   ·omega
   ·rw[dk]at f;exact f.2.2 n z n (dz) rfl
   ·rw[(g n dz).b]at z;cases z
theorem i7{a:Nat}{e taken:Zb}(f:e≠[])(i:e.length<=a)(g:(taken++e).Nodup)(h:∀w∈e,pD w):dI e a taken=none:=by
 unfold dI;rw[if_neg f];exact BC e taken 0 (by omega) g h
theorem ig{n:Nat}(h:n<=9000):n<ak:=yS h (by decide)
def pK(x:Str):TK:=.k (some (.inr x))
def uu(sg:Zb):TK:=.t (sg.map pK)
def EN(d:ah):TK:=.t [pK d.a,uu d.sg,pK d.b]
theorem uk{x y:Str}(h:pK x=pK y):x=y:=by
 unfold pK at h;injection h with h;injection h with h;injection h
theorem s_:∀{x y:Zb},x.map pK=y.map pK->x=y
 |[],[],_=>rfl
 |[],_::_,h=>by cases h
 |_::_,[],h=>by cases h
 |a::x,b::y,h=>by
  rw[bL,bL]at h;injection h with e f;rw[uk e,s_ f]
theorem Ad{x y:Zb}(h:uu x=uu y):x=y:=by
 unfold uu at h;injection h with h;exact s_ h
theorem Ky{x y:ah}(h:EN x=EN y):x=y:=by
 unfold EN at h;injection h with h;injection h with a h;injection h with e h;injection h with f h;cases x;cases y;simp only at *;rw[uk a,Ad e,uk f]
theorem Cj(a:Zb):TK.depths (a.map pK)=0:=by
 induction a with
 |nil=>rfl
 |cons x a e=>rw[bL];show max (TK.depth (pK x)) (TK.depths _)=0;rw[e];rfl
theorem xi(a:Zb):(uu a).depth=1:=by
 show TK.depths (a.map pK)+1=1;rw[Cj]
theorem xj(d:ah):(EN d).depth=2:=by
 show max (TK.depth (pK d.a)) (max (TK.depth (uu d.sg)) (max (TK.depth (pK d.b)) 0))+1=2;rw[xi]
 rfl
theorem Ek{H:Hp}:∀a:List Str,TKAts H (a.map pK) (a.map V.str)
 |[]=>by show TKAts H [] [];unfold TKAts;rfl
 |x::a=>by
  rw[bL,bL];unfold TKAts;refine⟨_,_,rfl,?_,Ek a⟩;unfold pK jO
  rfl
theorem Ck{H:Hp}(x:Str):jO H (pK x) (.str x):=by unfold pK jO;rfl
theorem SignAt.tk{H:Hp}{s:Addr}{a:Zb}(h:SignAt H s a):jO H (uu a) (.ref s):=by
 unfold uu jO;exact⟨s,_,rfl,h,Ek _⟩
theorem iy.tk{H:Hp}{t:Addr}{d:ah}(h:iy H t d):jO H (EN d) (.ref t):=by
 obtain⟨s,a,e⟩:=h;unfold EN jO;refine⟨t,_,rfl,a,?_⟩;unfold TKAts;refine⟨_,_,rfl,Ck _,?_⟩;unfold TKAts;refine⟨_,_,rfl,SignAt.tk e,?_⟩;unfold TKAts;refine⟨_,_,rfl,Ck _,?_⟩;unfold TKAts
 rfl
section
variable{κ:Type}[DecidableEq κ]
def lZ(ks:List κ):List (κ×V):=ks.foldl (fun acc k=>dP acc k (.bl true)) []
theorem o7(a:List κ)(w:κ):lZ (a++[w])=dP (lZ a) w (.bl true):=by
 unfold lZ;rw[rj]
 rfl
theorem F_(a:List κ):(lZ a).length<=a.length:=by
 refine kB (fun a=>(lZ a).length<=a.length) (aR _) (fun a w h=>?_) a;show(lZ (a++[w])).length<=(a++[w]).length;rw[o7,aA];have:=Bi (lZ a) w (.bl true);show _<=a.length+1;omega
theorem Iz(a:List κ)(x:κ):(c6 (lZ a) x).isSome=decide (x∈a):=by
 refine kB (fun a=>(c6 (lZ a) x).isSome=decide (x∈a)) rfl (fun a w h=>?_) a;show(c6 (lZ (a++[w])) x).isSome=_;rw[o7,AL];by_cases e:x=w
 ·subst e;rw[if_pos rfl,zzr1 (by simp)]
  rfl
 ·rw[if_neg e,h];by_cases m:x∈a
  ·rw[zzr1 m,zzr1 (cu _ m)]
  ·rw[zzr0 m,zzr0 (fun z=>by rcases bf.mp z with z|z;exact m z;exact e (by simpa using z))]
end
theorem ED{d:ah}{a:List ah}:EN d∈a.map EN↔d∈a:=by
 constructor
 ·intro h;obtain⟨x,hx,e⟩:=aE.mp h;rw[<-Ky e];exact hx
 ·exact fQ
def pe(K:Za)(H:Hp)(v:V)(sg:Zb):Prop:=∃s,v=.ref s/\br K H s (sg.map V.str)
theorem ab.sqT{K:Za}{H f:Hp}{a:Addr}{g:List V}(e:ab H f)(h:br K H a g):br K f a g:=by
 rcases h with(h|⟨o,h⟩)|h
 ·exact .inl (.inl (e _ _ h))
 ·exact .inl (.inr ⟨o,e _ _ h⟩)
 ·exact .inr h
theorem Signs.same{K:Za}{H f:Hp}(e:ab H f){xs:List V}{a:List (List Str)}(h:Paired (pe K H) xs a):Paired (pe K f) xs a :=
 Paired.mapP h fun _ _ ⟨s,g,i⟩=>⟨s,g,ab.sqT e i⟩
def fT(sg:Zb):DT:=.t (sg.map dh)
theorem EH{x y:Zb}(h:fT x=fT y):x=y:=by
 unfold fT at h;injection h with h;exact gD h
theorem bz(a:Zb):(fT a).depth=1:=by
 show DT.depths (a.map dh)+1=1;rw[f8]
theorem Gm(a:List (List Str)):DT.depths (a.map fT)<=8:=by
 induction a with
 |nil=>exact c_ _
 |cons x e f=>rw[bL];show max (DT.depth (fT x)) (DT.depths _)<=8;rw[bz];omega
theorem Signs.dIns{K:Za}{H:Hp}{xs:List V}{a:List (List Str)}(h:Paired (pe K H) xs a):DIns K H (a.map fT) xs:=by
 induction h with
 |nil=>show DIns K H [] [];unfold DIns;rfl
 |cons q _ f =>
  obtain⟨s,e,r⟩:=q;rw[bL];unfold DIns;refine⟨_,_,rfl,?_,f⟩;rw[e];exact aW r
theorem EC{d:Zb}{a:List (List Str)}:fT d∈a.map fT↔d∈a:=by
 constructor
 ·intro h;obtain⟨x,hx,e⟩:=aE.mp h;rw[<-EH e];exact hx
 ·exact fQ
theorem Paired.app{α β:Type}{R:α->β->Prop}{a:List α}{b:List β}{c:List α}{d:List β}(g:Paired R a b)(h:Paired R c d):Paired R (a++c) (b++d):=by
 induction g with
 |nil=>exact h
 |cons r _ e=>exact .cons r e
def bT(w:Str):List Str:=[("ask":Str),w]
def cv(w:Str):List Str:=[("say":Str),w]
def gG(J0 J2:Zb):List (List Str):=J0.map bT++J2.map cv++[ao]
theorem vm{K:Za}{h:Str}{σ:L2.St}{H:Hp}{a l:Addr}{j:Zb}{Q:Hp->Prop}(B:H a=some (.lst (j.map V.str)))(A:H l=none)(J:j.length<=1000)
  (k:∀(xs:List V) (f:Hp),Paired (pe K f) xs (j.map fun w=>[h,w])->ab H f->f l=some (.lst xs)->Q f) :
  cF 1 [] σ (Ce K a) U0 i5 (bP (aO (tC (.str h)) V0)) H l Q:=by
 let r:Nat->List V->Hp->Prop:=fun i g f=>Paired (pe K f) g ((j.take i).map fun w=>[h,w])/\ab H f/\f l=some (.lst g)
 refine bQ (xs:=j.map V.str) r
  ⟨.nil,ab.new A,aa⟩ (fun i g f _ C=>by obtain⟨_,D,E⟩:=C;exact⟨E,ay.of (D _ _ B)⟩) ?_ ?_
 ·rintro g f ⟨m,u,n⟩;rw[ai,bp]at m;exact k g f m u n
 ·rintro i g f x hx hi ⟨m,u,n⟩;obtain⟨w,G,rfl⟩:=bh hx;refine gN (pS ?_);refine⟨_,rfl,(by show 2<=ak;decide),fun t p=>⟨kp n p,?_,kL hi ⟨?_,?_,aa⟩⟩⟩
  ·rw[Paired.length m,ai,aX];exact aq (by omega)
  ·rw[take_snoc G,ar];have q:gx (upd f t (.tup [.str h,.str w])) (upd (upd f t (.tup [.str h,.str w])) l (.lst (g++[.ref t]))):=cO (kp n p);have y:gx f (upd (upd f t (.tup [.str h,.str w])) l (.lst (g++[.ref t]))):=(ab.kt (ab.new p)).trans q;refine Paired.app (Paired.mapP m fun v L ⟨s,I,e2⟩=>⟨s,I,?_⟩) (.cons ⟨t,rfl,br.of (q _ _ aa)⟩ .nil);rcases e2 with(e2|⟨o,e2⟩)|e2
   ·exact .inl (.inl (y _ _ e2))
   ·refine .inl (.inr ⟨o,?_⟩);rw[aj (fun z=>by rw[z,n]at e2;cases e2)];exact kp e2 p
   ·exact .inr e2
  ·intro b o e;rw[aj (ae e A)];exact kp (u _ _ e) p
inductive sp_door_signs(K:Za)(vs:List V)(H:Hp)(Q:VK)(E:XK):Prop
 |mk (l1 l2:Addr) (J0 J2:Zb):(vs=[.ref l1,.ref l2])->(H l1=some (.lst (J0.map V.str)))->(H l2=some (.lst (J2.map V.str)))->(J0.length<=100)->(J2.length<=100)->(∀(l:Addr) (xs:List V) (H':Hp),Paired (pe K H') xs (gG J0 J2)->ab H H'->H' l=some (.lst xs)->Q (.ref l) H')->sp_door_signs K vs H Q E
theorem wN{K:Za}{st:Addr}(i:∀H,br K H st (ao.map V.str)){n:List V}{H:Hp}{Q:VK}{E:XK}(h:sp_door_signs K n H Q E):zm K st (bN Q) (start Ax n) H:=by
 obtain⟨y,z,J,L,rfl,o,p,A,B,k⟩:=h;refine⟨_,rfl,y,rfl,⟨_,ay.of o⟩,fun a C=>?_⟩;refine vm o C (by omega) fun f M q j D=>?_;refine⟨_,rfl,z,rfl,⟨_,ay.of (j _ _ p)⟩,fun b G=>?_⟩;refine vm (j _ _ p) G (by omega) fun g r s l I=>?_;have t:f.length<=100:=by rw[Paired.length q,ai];exact A
 have u:g.length<=100:=by rw[Paired.length s,ai];exact B
 refine⟨a,b,f,g,rfl,rfl,l _ _ D,I,cz (aq (by omega)),fun c v=>?_⟩;refine⟨(by show 1<=ak;decide),fun d m=>?_⟩;refine⟨c,d,_,_,rfl,rfl,kp aa m,aa,?_,fun e w=>k e _ _ ?_ ?_ aa⟩
 ·rw[aA];show _+1<=ak;exact cz (aq (by omega))
 ·have x:ab r (upd (upd (upd r c (.lst (f++g))) d (.lst [.ref st])) e (.lst (f++g++[.ref st]))):=((ab.new v).trans (ab.new m)).trans (ab.new w);exact Paired.app (Paired.app (Signs.same (l.trans x) q) (Signs.same x s)) (.cons ⟨st,rfl,i _⟩ .nil)
 ·exact(((j.trans l).trans (ab.new v)).trans (ab.new m)).trans (ab.new w)
def Kp(rooms:Zb)(sgs:List (List Str)):Nat->List ah->List ah->Option Nat
 |_,_,[]=>none
 |i,ahead,d::ds=>if i=2000∨d∈ahead∨d.a∉rooms∨d.sg∉sgs∨d.b∉rooms then some i else Kp rooms sgs (i+1) (ahead++[d]) ds
inductive sp_first_wrong_door(K:Za)(vs:List V)(H:Hp)(Q:VK)(E:XK):Prop
 |mk (l l3 sl:Addr) (ts:Ze) (ds:List ah) (rooms:Zb) (xs:List V) (sgs:List (List Str)):(vs=[.ref l,.ref l3,.ref sl])->(H l=some (.lst (ts.map V.ref)))->(dg H ts ds)->(H l3=some (.lst (rooms.map V.str)))->(rooms.length<=1000)->(H sl=some (.lst xs))->(Paired (pe K H) xs sgs)->(ds.length<=9000)->(∀H',ab H H'->Q (oV (Kp rooms sgs 0 [] ds)) H')->sp_first_wrong_door K vs H Q E
theorem cg{a:Ze}{i:Nat}{x:V}(h:(a.map V.ref)[i]?=some x):∃w,a[i]?=some w/\x=.ref w:=by
 rw[cS]at h;cases q:a[i]? with
 |none=>rw[q]at h;cases h
 |some r=>rw[q]at h;exact⟨r,rfl,(fW h).symm⟩
theorem nS{K:Za}{vs:List V}{H:Hp}{Q:VK}{E:XK}(h:sp_first_wrong_door K vs H Q E):oO K (sp_as_keys K) (bN Q) (start pk vs) H:=by
 obtain⟨l,l3,sl,ts,p,rooms,xs,m,rfl,hl,A,h3,hr,T,U,hz,k⟩:=h;refine⟨_,rfl,sC (ay.of h3) hr fun d hd=>?_⟩;refine fun e Y=>?_;have B:ab H (upd (upd H d (.dK (bq rooms))) e (.dT [])):=(ab.new hd).trans (ab.new Y);have al:H e=none:=(ab.new hd).free Y;refine⟨_,rfl,l,rfl,⟨_,ay.of (B _ _ hl)⟩,?_⟩
 let an:Nat->L2.St->Hp->Prop:=fun i σ H'=>∃x y,σ=[some (.ref l),some (.ref l3),some (.ref sl),some (.ref d),some (.ref e),x,y]/\ab H H'/\H' d=some (.dK (bq rooms))/\H' e=some (.dT (lZ ((p.take i).map EN)))/\Kp rooms m i (p.take i) (p.drop i)=Kp rooms m 0 [] p
 refine mL (xs:=ts.map V.ref) an
  ⟨_,_,rfl,B,kp aa Y,aa,rfl⟩ (fun i σ H' _ zq=>by obtain⟨_,_,_,C,_⟩:=zq;exact ay.of (C _ _ hl)) ?_ ?_
 ·rintro i x σ H' q hi ⟨x5,x6,rfl,C,ap,as,hf⟩ hq;obtain⟨t,ht,rfl⟩:=cg hi;obtain⟨f,r,aC⟩:=Paired.getL A ht;have a0:i<p.length:=(bM.mp r).1;have ed:p.drop i=f::p.drop (i+1):=by
   rw[ox a0];congr 1;exact(bM.mp r).2
  rw[ed]at hf;have g:ab H (upd H' q (.tup [.int i,.ref t])):=C.trans (ab.new hq);have j:upd H' q (.tup [.int i,.ref t]) d=_:=kp ap hq;have u:upd H' q (.tup [.int i,.ref t]) e=_:=kp as hq;refine⟨q,_,rfl,br.of aa,rfl,_,_,rfl,_,_,rfl,rfl,?_⟩;generalize upd H' q (.tup [.int i,.ref t])=H2 at j u g ⊢;have w:=aC.kt (ab.kt g);have a4:lA K H2 (EN f) (.ref t):=jO.isIn 8 (by rw[xj];decide) w.tk;have D:(EN f).depth<=8:=by rw[xj];decide
  obtain⟨s,v,G⟩:=w;have n:(i=2000∨f∈p.take i∨f.a∉rooms∨f.sg∉m∨f.b∉rooms)->Q (.int i) H2:=by
   intro c;have:=k H2 g;rw[<-hf]at this;unfold Kp at this;rw[if_pos c]at this;exact this
  refine⟨_,rfl,rfl,_,rfl,?_⟩;by_cases J:i=2000
  ·have e1:decide (V.int (i:Nat)=V.int 2000)=true:=zzr1 (by rw[J];rfl);rw[e1];exact bU (bU ⟨_,rfl,n (.inl J)⟩)
  have e1:decide (V.int (i:Nat)=V.int 2000)=false:=zzr0 (fun z=>J (by injection z with z;omega));rw[e1];refine bd ?_;refine⟨_,rfl,_,rfl,e,_,rfl,.inr ⟨_,EN f,t,.inl u,rfl,a4,D,rfl⟩,_,rfl,?_⟩;rw[Iz];by_cases L:f∈p.take i
  ·rw[zzr1 (ED.mpr L)];exact bU ⟨_,rfl,n (.inr (.inl L))⟩
  rw[zzr0 (fun z=>L (ED.mp z))];refine bd ?_;refine⟨_,rfl,.inr (.inl ⟨t,_,0,_,rfl,rfl,br.of v,rfl,_,rfl,d,_,rfl,.inl ⟨_,.inr f.a,.inl j,rfl,rfl⟩,_,rfl,?_⟩)⟩;rw[fM];by_cases M:f.a∈rooms;rotate_left
  ·rw[zzr0 M];exact bU (bU ⟨_,rfl,n (.inr (.inr (.inl M)))⟩)
  rw[zzr1 M];refine bd ?_;refine⟨_,rfl,.inr (.inl ⟨t,_,1,_,rfl,rfl,br.of v,rfl,_,rfl,fT f.sg,m.map fT,sl,xs,aW (br.of G),rfl,.inl (ay.of (g _ _ T)),Signs.dIns (Signs.same g U),by rw[bz];decide,Gm _,_,rfl,?_⟩)⟩;rw[if_pos rfl];by_cases N:f.sg∈m;rotate_left
  ·rw[zzr0 (fun z=>N (EC.mp z))];exact bU (bU ⟨_,rfl,n (.inr (.inr (.inr (.inl N))))⟩)
  rw[zzr1 (EC.mpr N)];refine bd ?_;refine⟨_,rfl,.inr (.inl ⟨t,_,2,_,rfl,rfl,br.of v,rfl,_,rfl,d,_,rfl,.inl ⟨_,.inr f.b,.inl j,rfl,rfl⟩,_,rfl,?_⟩)⟩;rw[fM];by_cases O:f.b∈rooms;rotate_left
  ·rw[zzr0 O];exact bU ⟨_,rfl,n (.inr (.inr (.inr (.inr O))))⟩
  rw[zzr1 O];refine bd ?_;have I:(lZ ((p.take i).map EN)).length<ak:=ig (bI (F_ _) (by rw[ai,aX];omega));refine⟨_,rfl,_,rfl,e,_,rfl,.inr ⟨_,EN f,t,u,rfl,iy.tk ⟨s,v,G⟩,D,I,rfl⟩,_,_,rfl,?_,?_,?_,?_⟩
  ·intro b o q;rw[aj (ae q al)];exact g _ _ q
  ·rw[aj (fun z=>by rw[z,u]at j;cases j)];exact j
  ·rw[aa,take_snoc r,ar];exact congrArg (fun z=>some (HO.dT z)) (o7 _ _).symm
  ·rw[<-hf,take_snoc r]
   conv=>rhs;unfold Kp
   rw[if_neg];rintro(z|z|z|z|z)
   ·exact J z
   ·exact L z
   ·exact z M
   ·exact z N
   ·exact z O
 ·rintro σ H' ⟨x,y,rfl,C,_,_,hf⟩;have:=k H' C;rw[<-hf,ai,Paired.length A,List.drop_length]at this;exact this
theorem BD{rooms:Zb}{e:List (List Str)}:∀(f ahead:List ah) (i:Nat),i+f.length<=2000->(ahead++f).Nodup->(∀d∈f,d.a∈rooms/\d.sg∈e/\d.b∈rooms)->Kp rooms e i ahead f=none
 |[],_,_,_,_,_=>rfl
 |n::j,ahead,i,k,g,h=>by
  rw[fF]at k;unfold Kp;rw[if_neg]
  ·refine BD j (ahead++[n]) (i+1) (by omega) (by rw[d_];exact g) fun w l=>h w (gC _ l)
  ·have:=h n dz;rintro(z|z|z|z|z)
   ·omega
   ·rw[dk]at g;exact g.2.2 n z n (dz) rfl
   ·exact z this.1
   ·exact z this.2.1
   ·exact z this.2.2
inductive sp_need_none (vs:List V)(H:Hp)(Q:VK)(E:XK):Prop
 |mk (x:V):(vs=[x,.non])->(Q .non H)->sp_need_none  vs H Q E
theorem zM{K:Za}{a:List V}{H:Hp}{Q:VK}{E:XK}(h:sp_need_none a H Q E):AN K (bN Q) (start BX a) H:=by
 obtain⟨x,rfl,k⟩:=h;refine⟨_,rfl,_,rfl,?_⟩;have e:(!decide (V.non=V.non))=false:=by rw[zzr1 rfl];rfl
 rw[e];exact bd k
structure Lists(H:Hp)(l1 l2 l3 l4:Addr)(ts:Ze)(J0 J2 rooms:Zb)(ds:List ah):Prop where
 a1:H l1=some (.lst (J0.map V.str))
 a2:H l2=some (.lst (J2.map V.str))
 a3:H l3=some (.lst (rooms.map V.str))
 a4:H l4=some (.lst (ts.map V.ref))
 ds:dg H ts ds
theorem Lists.same{H a:Hp}{f g l3 i:Addr}{j:Ze}{k l rooms:Zb}{m:List ah}(h:Lists H f g l3 i j k l rooms m)(e:ab H a):Lists a f g l3 i j k l rooms m :=
 ⟨e _ _ h.a1,e _ _ h.a2,e _ _ h.a3,e _ _ h.a4,h.ds.kt (ab.kt e)⟩
inductive sp_need_parts (vs:List V)(H:Hp)(Q:VK)(E:XK):Prop
 |mk (l1 l2 l3 l4:Addr) (ts:Ze) (J0 J2 rooms:Zb) (ds:List ah):(vs=[.ref l1,.ref l2,.ref l3,.ref l4])->(Lists H l1 l2 l3 l4 ts J0 J2 rooms ds)->(ax J0 J2 rooms ds)->(∀H',ab H H'->Q .non H')->sp_need_parts  vs H Q E
theorem ax.signs{J0 h rooms:Zb}{i:List ah}(m:ax J0 h rooms i):∀d∈i,d.a∈rooms/\d.sg∈gG J0 h/\d.b∈rooms:=by
 intro d j;have g:=m.good d j;refine⟨g.a,?_,g.b⟩;unfold gG;rcases g.sg with⟨w,f,e⟩|⟨w,f,e⟩|e
 ·rw[e];exact cu _ (cu _ (aE.mpr ⟨w,f,rfl⟩))
 ·rw[e];exact cu _ (cQ _ (aE.mpr ⟨w,f,rfl⟩))
 ·rw[e];exact cQ _ (by simp[ao])
theorem sk{a:Zb}(h:iJ a):∀w∈a,w.length<=1000:=fun w e=>bI (h.2 w e).hi (by decide)
theorem wJ{K:Za}{r:List V}{H:Hp}{Q:VK}{E:XK}(h:sp_need_parts r H Q E):zb K sp_need_none (sp_first_wrong_door K) (sp_door_signs K) (sp_first_wrong_name K) (bN Q) (start At r) H:=by
 obtain⟨j,s,t,w,x,f,g,rooms,l,rfl,L,m,k⟩:=h;have y:dI f 4 []=none:=i7 m.asks0 m.asks4 m.okA.1 m.okA.2;have z:dI g 4 f=none:=i7 m.says0 m.says4 (by
  rw[dk];exact⟨m.okA.1,m.okS.1,fun a A b B e=>m.apart b B (e▸A)⟩) m.okS.2
 have C:dI rooms 150 []=none:=i7 m.rooms0 (by have:=m.rooms26;omega) m.okR.1 m.okR.2;have D:Kp rooms (gG f g) 0 [] l=none:=BD l [] 0 (by have:=m.few;omega) m.nodup m.signs;have Y:=m.asks4;have z2:=m.says4;have z3:=m.rooms26;have z4:=m.few;refine⟨_,rfl,(by show 0<=ak;decide),fun e i=>⟨j,e,f,[],4,rfl,ay.of (kp L.a1 i),ay.of aa,by simp;omega,sk m.okA,fun H1 G=>?_⟩⟩;rw[y];refine⟨_,rfl,?_⟩;have n:=(ab.new i).trans G;refine⟨_,rfl,_,rfl,s,j,g,f,4,rfl,ay.of (n _ _ L.a2),ay.of (n _ _ L.a1),by omega,sk m.okS,fun H2 I=>?_⟩;rw[z];refine⟨_,rfl,?_⟩;have u:=n.trans I;refine⟨_,rfl,(by show 0<=ak;decide),fun e i=>⟨t,e,rooms,[],150,rfl,ay.of (kp (u _ _ L.a3) i),ay.of aa,by simp;omega,sk m.okR,fun H3 J=>?_⟩⟩;rw[C];refine⟨_,rfl,?_⟩;have o:=(u.trans (ab.new i)).trans J;refine⟨_,rfl,_,rfl,_,rfl,_,rfl,j,s,f,g,rfl,o _ _ L.a1,o _ _ L.a2,by omega,by omega,fun M N H4 hx O p=>?_⟩;have v:=o.trans O;have q:=L.same v;refine⟨w,t,M,x,l,rooms,N,gG f g,rfl,q.a4,q.ds,q.a3,by omega,p,hx,by omega,fun T U=>?_⟩;rw[D];exact⟨_,rfl,k T (v.trans U)⟩
section
variable{κ ι:Type}[DecidableEq κ]{e:ι->κ}
def fg(e:ι->κ)(ps:List (ι×Addr)):List (κ×V):=ps.map fun x=>(e x.1,V.ref x.2)
theorem nu(inj:∀x y,e x=e y->x=y){i:ι}:∀{a:List (ι×Addr)},i∉a.map (·.1)->c6 (fg e a) (e i)=none
 |[],_=>rfl
 |x::a,h=>by
  rw[bL,dC]at h;show c6 ((e x.1,V.ref x.2)::fg e a) (e i)=none;rw[dU (fun z=>h (.inl (inj _ _ z).symm))];exact nu inj (fun z=>h (.inr z))
theorem fD(inj:∀x y,e x=e y->x=y){i:ι}{a:Addr}:∀{f:List (ι×Addr)},(f.map (·.1)).Nodup->(i,a)∈f->c6 (fg e f) (e i)=some (.ref a)
 |[],_,h=>by cases h
 |x::f,g,h=>by
  rw[bL,jA]at g;show c6 ((e x.1,V.ref x.2)::fg e f) (e i)=_;rcases dC.mp h with h|h
  ·rw[<-h];exact eK rfl
  ·rw[dU (fun z=>g.1 (by rw[inj _ _ z];exact aE.mpr ⟨_,h,rfl⟩))];exact fD inj g.2 h
theorem xA(f:List (ι×Addr))(i:ι)(a:Addr):fg e (f++[(i,a)])=fg e f++[(e i,.ref a)]:=by
 unfold fg;rw[ar]
 rfl
end
structure DL{ι:Type}(H0 H:Hp)(d:Addr)(ps:List (ι×Addr)):Prop where
 nd:(ps.map (·.1)).Nodup
 na:(ps.map (·.2)).Nodup
 fr:∀x∈ps,H0 x.2=none
 frd:H0 d=none
 ned:∀x∈ps,x.2≠d
 same:ab H0 H
theorem DL.snoc{ι:Type}{f H k:Hp}{d:Addr}{g:List (ι×Addr)}{i:ι}{a:Addr}(h:DL f H d g)(hi:i∉g.map (·.1))(l:∀x∈g,x.2≠a)(m:f a=none)(n:a≠d)(s:ab f k):DL f k d (g++[(i,a)]):=by
 refine⟨?_,?_,?_,h.frd,?_,s⟩
 ·rw[ar,dk];refine⟨h.nd,by simp,fun x hx y j e=>?_⟩;have:y=i:=by simpa using j
  exact hi (by rw[<-this,<-e];exact hx)
 ·rw[ar,dk];refine⟨h.na,by simp,fun x hx y j e=>?_⟩;have:y=a:=by simpa using j
  obtain⟨z,o,rfl⟩:=aE.mp hx;exact l z o (e.trans this)
 ·intro x hx;rcases bf.mp hx with hx|hx
  ·exact h.fr x hx
  ·have:x=(i,a):=by simpa using hx
   rw[this];exact m
 ·intro x hx;rcases bf.mp hx with hx|hx
  ·exact h.ned x hx
  ·have:x=(i,a):=by simpa using hx
   rw[this];exact n
theorem Iu{ι:Type}:∀{a:List (ι×Addr)},(a.map (·.2)).Nodup->∀{x y:ι×Addr},x∈a->y∈a->x.2=y.2->x=y
 |[],_,x,_,h,_,_=>by cases h
 |p::a,f,x,y,hx,g,e=>by
  rw[bL,jA]at f;rcases dC.mp hx with hx'|hx'<;>rcases dC.mp g with hy'|hy'
  ·rw[hx',hy']
  ·exact absurd (aE.mpr ⟨y,hy',by rw[<-e,hx']⟩) f.1
  ·exact absurd (aE.mpr ⟨x,hx',by rw[e,hy']⟩) f.1
  ·exact Iu f.2 hx' hy' e
theorem ji:∀x y:Str,(Sum.inr x:cX)=Sum.inr y->x=y:=fun x y h=>by injection h
def bJ(ds:List ah)(r:Str):List ah:=ds.filter fun d=>decide (d.a=r)
inductive sp_doors_by_start (vs:List V)(H:Hp)(Q:VK)(E:XK):Prop
 |mk (l3 l4:Addr) (ts:Ze) (rooms:Zb) (ds:List ah):(vs=[.ref l3,.ref l4])->(H l3=some (.lst (rooms.map V.str)))->(H l4=some (.lst (ts.map V.ref)))->(dg H ts ds)->(rooms.Nodup)->(rooms.length<=1000)->(ds.length<=9000)->((∀d∈ds,d.a∈rooms))->(∀(d:Addr) (ps:List (Str×Addr)) (H':Hp),ps.map (·.1)=rooms->H' d=some (.dK (fg Sum.inr ps))->(∀x∈ps,∃us,H' x.2=some (.lst (us.map V.ref))/\dg H' us (bJ ds x.1))->ab H H'->Q (.ref d) H')->sp_doors_by_start  vs H Q E
theorem qz{K:Za}{vs:List V}{H:Hp}{Q:VK}{E:XK}(h:sp_doors_by_start vs H Q E):rV K (bN Q) (start sL vs) H:=by
 obtain⟨l3,l4,ts,rooms,L,rfl,h3,h4,M,aC,hz,bn,a0,k⟩:=h;refine fun d hd=>?_;refine⟨_,rfl,l3,rfl,⟨_,ay.of (kp h3 hd)⟩,?_⟩
 let a4:Nat->L2.St->Hp->Prop:=fun i σ j=>∃x y,σ=[some (.ref l3),some (.ref l4),some (.ref d),x,y]/\∃l:List (Str×Addr),l.map (·.1)=rooms.take i/\j d=some (.dK (fg Sum.inr l))/\DL H j d l/\∀x∈l,j x.2=some (.lst [])
 refine bw (xs:=rooms.map V.str) a4
  ⟨_,_,rfl,[],rfl,aa,⟨by simp,by simp,by simp,hd,by simp,ab.new hd⟩,by simp⟩ (fun i σ j _ zq=>by obtain⟨_,_,_,_,_,_,D,_⟩:=zq;exact ay.of (D.same _ _ h3)) ?_ ?_
 ·rintro i x σ j hi ⟨x3,N,rfl,l,m,n,D,g⟩;obtain⟨w,hw,rfl⟩:=bh hi;have v:w∉l.map (·.1):=by
   rw[m];intro z;have:=aC;rw[<-yg (i+1) rooms,take_snoc hw,dk]at this;have:=this.1;rw[dk]at this;exact this.2.2 w z w (by simp) rfl
  refine⟨(by show 0<=ak;decide),fun a G=>?_⟩;have O:(fg (Sum.inr:Str->cX) l).length<ak:=aq (by
   unfold fg;rw[ai,<-ai (f:=(·.1)) (as:=l),m,aX];omega)
  have a5:H a=none:=D.same.free G;have T:a≠d:=(ae n G).symm;have U:∀x∈l,x.2≠a:=fun x hx=>ae (g x hx) G;refine⟨_,rfl,_,rfl,d,_,rfl,.inl ⟨_,.inr w,kp n G,rfl,O,rfl⟩,_,_,rfl,l++[(w,a)],?_,?_,?_,?_⟩
  ·rw[ar,m,take_snoc hw];rfl
  ·rw[aa,qD _ (nu ji v),xA]
  ·refine D.snoc v U a5 T ?_;intro b o q;rw[aj (ae q hd)];exact kp (D.same _ _ q) G
  ·intro x hx;rcases bf.mp hx with hx|hx
   ·rw[aj (D.ned x hx)];exact kp (g x hx) G
   ·have:x=(w,a):=by simpa using hx
    rw[this,aj T];exact aa
 ·rintro σ H1 ⟨x3,N,rfl,l,m,a6,D1,g⟩;rw[ai,bp]at m;refine⟨_,rfl,l4,rfl,⟨_,ay.of (D1.same _ _ h4)⟩,?_⟩
  let a7:Nat->L2.St->Hp->Prop:=fun i σ j=>∃N,σ=[some (.ref l3),some (.ref l4),some (.ref d),x3,N]/\j d=some (.dK (fg Sum.inr l))/\DL H j d l/\∀x∈l,∃I,j x.2=some (.lst (I.map V.ref))/\dg j I (bJ (L.take i) x.1)
  refine bw (xs:=ts.map V.ref) a7
   ⟨_,rfl,a6,D1,fun x hx=>⟨[],g x hx,.nil⟩⟩ (fun i σ j _ zq=>by obtain⟨_,_,_,D,_⟩:=zq;exact ay.of (D.same _ _ h4)) ?_ ?_
  ·rintro i x σ j hi ⟨N,rfl,n,D,g⟩;obtain⟨t,ht,rfl⟩:=cg hi;obtain⟨u,B,a8⟩:=Paired.getL M ht;have A:=a8.kt (ab.kt D.same);have Y:=A;obtain⟨s,a9,b0⟩:=A;have al:u.a∈l.map (·.1):=by rw[m];exact a0 u (bX B)
   obtain⟨⟨r,a⟩,p,er⟩:=aE.mp al;obtain rfl:r=u.a:=er;obtain⟨I,C,an⟩:=g _ p;have b1:i<L.length:=(bM.mp B).1;have bb:I.length<=9000:=by
    rw[Paired.length an];refine bI (b_ _ _) ?_;rw[aX];omega
   have KT:gx j (upd j a (.lst (I.map V.ref++[.ref t]))):=cO C;refine⟨_,rfl,_,rfl,.inr (.inl ⟨t,_,0,_,rfl,rfl,br.of a9,rfl,d,.ref a,rfl,.inl ⟨_,.inr u.a,.inl n,rfl,(fD ji D.nd p).symm⟩,.inl ⟨rfl,_,ay.of C⟩,_,rfl,a,_,_,rfl,rfl,C,?_,_,rfl,?_,?_,?_⟩)⟩
   ·rw[ai];exact ig bb
   ·rw[aj (D.ned _ p).symm];exact n
   ·refine⟨D.nd,D.na,D.fr,D.frd,D.ned,fun b o q=>?_⟩;rw[aj (ae q (D.fr _ p))];exact D.same _ _ q
   ·intro x hx;have ap:∀r',bJ (L.take (i+1)) r'=bJ (L.take i) r'++(if u.a=r' then[u]else[]):=by
     intro r';unfold bJ;rw[take_snoc B,gQ];congr 1;by_cases c:u.a=r'
     ·rw[if_pos c];simp[c]
     ·rw[if_neg c];simp[c]
    by_cases c:x.2=a
    ·have ex:=Iu D.na hx p c;subst ex;refine⟨I++[t],?_,?_⟩
     ·show upd j a _ a=_;rw[aa,ar];rfl
     ·rw[ap];show dg _ _ (bJ (L.take i) u.a++(if u.a=u.a then[u]else[]))
      rw[if_pos rfl];exact Paired.app (an.kt KT) (.cons (Y.kt KT) .nil)
    ·obtain⟨bi,h1,h2⟩:=g x hx;have bl:¬(u.a=x.1):=fun z=>by
      have e1:=fD (e:=(Sum.inr:Str->cX)) ji D.nd p;have J:=fD (e:=(Sum.inr:Str->cX)) (i:=x.1) (a:=x.2) ji D.nd hx;rw[<-z,e1]at J;injection J with J;injection J with J;exact c J.symm
     refine⟨bi,by rw[aj c];exact h1,?_⟩;rw[ap,if_neg bl,dS];exact h2.kt KT
  ·rintro σ j ⟨N,rfl,n,D,g⟩;rw[ai,Paired.length M,bp]at g;exact⟨_,rfl,k d l j m n g D.same⟩
def iU(d:ah):Bool:=match d.sg with
 |s::_=>decide (s=("ask":Str))
 |[]=>false
inductive sp_has_asks_alone (vs:List V)(H:Hp)(Q:VK)(E:XK):Prop
 |mk (a:Addr) (us:Ze) (ds:List ah):(vs=[.ref a])->(H a=some (.lst (us.map V.ref)))->(dg H us ds)->(ds.length<=9000)->((∀d∈ds,d.sg≠[]))->(∀H',ab H H'->Q (.bl (ds.all iU)) H')->sp_has_asks_alone  vs H Q E
theorem qw{K:Za}{f:List V}{H:Hp}{Q:VK}{E:XK}(h:sp_has_asks_alone f H Q E):rS K (bN Q) (start sI f) H:=by
 obtain⟨a,O,L,rfl,M,v,Y,C,k⟩:=h;refine⟨_,rfl,a,rfl,⟨_,ay.of M⟩,fun l N=>?_⟩
 let D:Nat->List V->Hp->Prop:=fun i f n=>f=(L.take i).map (fun d=>V.bl (iU d))/\ab H n/\n l=some (.lst f)
 refine bQ (xs:=O.map V.ref) D
  ⟨rfl,ab.new N,aa⟩ (fun i f n _ T=>by obtain⟨_,p,r⟩:=T;exact⟨r,ay.of (p _ _ M)⟩) ?_ ?_
 ·rintro f n ⟨rfl,p,r⟩;rw[ai,Paired.length v,bp]at r;refine⟨l,L.map iU,rfl,ay.of (by rw[r,ow];rfl),?_⟩;rw[List.all_map];exact k n p
 ·rintro i f n x hx hi ⟨rfl,p,r⟩;obtain⟨t,U,rfl⟩:=cg hx;obtain⟨G,w,I⟩:=Paired.getL v U;obtain⟨s,J,m⟩:=I.kt (ab.kt p);have A:=bX w;obtain⟨u,g,B⟩:∃u g,G.sg=u::g:=by
   cases q:G.sg with
   |nil=>exact absurd q (C G A)
   |cons x y=>exact⟨x,y,rfl⟩
  unfold SignAt at m;rw[B]at m;refine gN (pS ?_);refine⟨_,rfl,.inr (.inl ⟨t,_,1,_,rfl,rfl,br.of J,rfl,.inr (.inl ⟨s,_,0,.str u,rfl,rfl,br.of m,cn (j:=0) rfl,rfl,r,?_,kL hi ⟨?_,?_,aa⟩⟩)⟩)⟩
  ·rw[ai,aX];exact ig (by omega)
  ·rw[take_snoc w,ar];congr 1;show[V.bl _]=[V.bl _];congr 2;unfold iU;rw[B];show decide (V.str u=V.str _)=decide (u=_);by_cases c:u=("ask":Str)
   ·rw[zzr1 c,zzr1 (by rw[c])]
   ·rw[zzr0 c,zzr0 (fun z=>c (by injection z))]
  ·intro b o e;rw[aj (ae e N)];exact p _ _ e
def wm(x:Str×List Str):TK:=.t [pK x.1,uu x.2]
theorem jf:∀x y:Str×List Str,wm x=wm y->x=y:=by
 intro x y h;unfold wm at h;injection h with h;injection h with a h;injection h with e h;cases x;cases y;simp only at *;rw[uk a,Ad e]
theorem se(x:Str×List Str):(wm x).depth<=8:=by
 show max (TK.depth (pK x.1)) (max (TK.depth (uu x.2)) 0)+1<=8;rw[xi];show max 0 (max 1 0)+1<=8
 decide
def aF(ds:List ah)(x:Str×List Str):List Str:=(ds.filter fun d=>decide (d.a=x.1/\d.sg=x.2)).map (·.b)
theorem Ac(e:List ah)(d:ah)(x:Str×List Str):aF (e++[d]) x=aF e x++(if(d.a,d.sg)=x then[d.b]else[]):=by
 unfold aF;rw[gQ,ar];congr 1;by_cases c:(d.a,d.sg)=x
 ·subst c;simp
 ·rw[if_neg c];have:¬(d.a=x.1/\d.sg=x.2):=fun z=>c (by cases x;simp only at z;rw[z.1,z.2]);simp[rh];intro f g;exact this ⟨f,g⟩
theorem mK{e:List ah}{x:Str×List Str}(h:∀d∈e,(d.a,d.sg)≠x):aF e x=[]:=by
 unfold aF;rw[List.map_eq_nil_iff,List.filter_eq_nil_iff];intro d f;have:¬(d.a=x.1/\d.sg=x.2):=fun z=>h d f (by cases x;simp only at z;rw[z.1,z.2]);simp;intro g i;exact this ⟨g,i⟩
theorem bj{a:List ah}{x:Str×List Str}{b:Str}:b∈aF a x↔(⟨x.1,x.2,b⟩:ah)∈a:=by
 unfold aF;rw[aE];constructor
 ·rintro⟨d,e,rfl⟩;rw[bW]at e;obtain⟨i,j⟩:=e;obtain⟨f,g⟩:=of_decide_eq_true j;cases d;simp only at f g;rw[<-f,<-g];exact i
 ·intro h;exact⟨_,bW.mpr ⟨h,zzr1 ⟨rfl,rfl⟩⟩,rfl⟩
structure j6(H:Hp)(g:Addr)(ps:List ((Str×List Str)×Addr))(ds:List ah):Prop where
 nd:(ps.map (·.1)).Nodup
 g:H g=some (.dT (fg wm ps))
 ls:∀x∈ps,H x.2=some (.lst ((aF ds x.1).map V.str))
 all:∀d∈ds,(d.a,d.sg)∈ps.map (·.1)
theorem j6.same{H H':Hp}{g:Addr}{a:List ((Str×List Str)×Addr)}{e:List ah}(h:j6 H g a e)(s:ab H H'):j6 H' g a e:=⟨h.nd,s _ _ h.g,fun x hx=>s _ _ (h.ls x hx),h.all⟩
inductive qj (vs:List V)(H:Hp)(Q:VK)(E:XK):Prop
 |mk (l4:Addr) (ts:Ze) (ds:List ah):(vs=[.ref l4])->(H l4=some (.lst (ts.map V.ref)))->(dg H ts ds)->(ds.length<=9000)->(∀(g:Addr) (ps:List ((Str×List Str)×Addr)) (H':Hp),j6 H' g ps ds->ab H H'->Q (.ref g) H')->qj  vs H Q E
theorem jD{K:Za}{vs:List V}{H:Hp}{Q:VK}{E:XK}(h:qj vs H Q E):jQ K (bN Q) (start jR vs) H:=by
 obtain⟨l4,ts,T,rfl,h4,al,hz,k⟩:=h;refine fun g hg=>?_;refine⟨_,rfl,l4,rfl,⟨_,ay.of (kp h4 hg)⟩,?_⟩
 let a4:Nat->L2.St->Hp->Prop:=fun i σ u=>∃x y z,σ=[some (.ref l4),some (.ref g),x,y,z]/\∃p:List ((Str×List Str)×Addr),DL H u g p/\u g=some (.dT (fg wm p))/\p.length<=i/\(∀x∈p,u x.2=some (.lst ((aF (T.take i) x.1).map V.str)))/\∀d∈T.take i,(d.a,d.sg)∈p.map (·.1)
 refine bw (xs:=ts.map V.ref) a4
  ⟨_,_,_,rfl,[],⟨by simp,by simp,by simp,hg,by simp,ab.new hg⟩,aa,by simp,by simp,by simp⟩ (fun i σ u _ zq=>by obtain⟨_,_,_,_,_,D,_⟩:=zq;exact ay.of (D.same _ _ h4)) ?_ ?_
 ·rintro i x σ u hi ⟨x2,x3,x4,rfl,p,D,w,an,m,l⟩;obtain⟨t,ht,rfl⟩:=cg hi;obtain⟨f,C,a5⟩:=Paired.getL al ht;have bi:i<T.length:=(bM.mp C).1;obtain⟨s,a6,a7⟩:=a5.kt (ab.kt D.same);refine⟨t,_,rfl,br.of a6,rfl,_,_,rfl,_,_,rfl,_,_,rfl,rfl,?_⟩;refine⟨_,rfl,.inr (.inr (.inl ⟨rfl,.inr ⟨_,w⟩⟩)),_,rfl,_,rfl,(by show 2<=ak;decide),fun kt ap=>⟨(by show 0<=ak;decide),fun nl U=>?_⟩⟩;have G:ab u (upd (upd u kt (.tup [.str f.a,.ref s])) nl (.lst [])):=(ab.new ap).trans (ab.new U);have L:upd (upd u kt (.tup [.str f.a,.ref s])) nl (.lst []) kt=some (.tup [.str f.a,.ref s]):=kp aa U;have M:upd (upd u kt (.tup [.str f.a,.ref s])) nl (.lst []) nl=some (.lst []):=aa;have j:u nl=none:=(ab.new ap).free U;generalize upd (upd u kt (.tup [.str f.a,.ref s])) nl (.lst [])=H2 at G L M ⊢;have a8:jO H2 (wm (f.a,f.sg)) (.ref kt):=by
   unfold wm jO;refine⟨kt,_,rfl,L,?_⟩;unfold TKAts;refine⟨_,_,rfl,Ck _,?_⟩;unfold TKAts;refine⟨_,_,rfl,SignAt.tk (G _ _ a7),?_⟩;unfold TKAts
   rfl
  have a9:(fg wm p).length<ak:=ig (by unfold fg;rw[ai];omega);have I:∀x,aF (T.take (i+1)) x=aF (T.take i) x++(if(f.a,f.sg)=x then[f.b]else[]):=fun x=>by rw[take_snoc C,Ac]
  have bb:∀x,(aF (T.take i) x).length<=9000:=fun x=>by
   unfold aF;rw[ai];refine bI (b_ _ _) ?_;rw[aX];omega
  refine⟨g,kt,_,wm (f.a,f.sg),.ref nl,rfl,rfl,G _ _ w,a8,se _,a9,fun v J=>?_,fun J=>?_⟩
  ·-- there as
   have N:(f.a,f.sg)∈p.map (·.1):=by
    refine yI fun z=>?_;rw[nu jf z]at J;cases J
   obtain⟨⟨r,a⟩,n,er⟩:=aE.mp N;obtain rfl:r=(f.a,f.sg):=er;rw[fD jf D.nd n]at J;injection J with J;subst J;have aC:=G _ _ (m _ n);refine⟨.inl ⟨rfl,_,ay.of aC⟩,_,rfl,a,_,_,rfl,rfl,aC,by rw[ai];exact ig (bb _),_,_,_,rfl,p,⟨D.nd,D.na,D.fr,D.frd,D.ned,fun b o q=>?_⟩,?_,by omega,?_,?_⟩
   ·rw[aj (ae q (D.fr _ n))];exact G _ _ (D.same _ _ q)
   ·rw[aj (D.ned _ n).symm];exact G _ _ w
   ·intro x hx;by_cases c:x.2=a
    ·have ex:=Iu D.na hx n c;subst ex;show upd H2 a _ a=_;rw[aa,I,if_pos rfl,ar];rfl
    ·have Y:¬((f.a,f.sg)=x.1):=fun z=>by
      have e1:=fD (e:=wm) jf D.nd n;have e2:=fD (e:=wm) (i:=x.1) (a:=x.2) jf D.nd hx;rw[<-z,e1]at e2;injection e2 with e2;injection e2 with e2;exact c e2.symm
     rw[aj c,I,if_neg Y,dS];exact G _ _ (m x hx)
   ·intro d hd;rw[take_snoc C]at hd;rcases bf.mp hd with hd|hd
    ·exact l d hd
    ·have:d=f:=by simpa using hd
     rw[this];exact N
  ·-- a new list
   have A:(f.a,f.sg)∉p.map (·.1):=by
    intro z;obtain⟨⟨r,a⟩,n,er⟩:=aE.mp z;obtain rfl:r=(f.a,f.sg):=er;rw[fD jf D.nd n]at J;cases J
   have B:nl≠g:=(ae w j).symm;have O:upd H2 g (.dT (fg wm p++[(wm (f.a,f.sg),.ref nl)])) nl=some (.lst []):=by rw[aj B];exact M
   refine⟨.inl ⟨rfl,_,ay.of O⟩,_,rfl,nl,_,_,rfl,rfl,O,(by show 0<ak;decide),_,_,_,rfl,p++[((f.a,f.sg),nl)],?_,?_,?_,?_,?_⟩
   ·refine D.snoc A (fun x hx=>ae (m x hx) j) (D.same.free j) B ?_;intro b o q;rw[aj (ae q (D.same.free j)),aj (ae q hg)];exact G _ _ (D.same _ _ q)
   ·rw[aj B.symm,aa,xA]
   ·rw[aA];show _+1<=_;omega
   ·intro x hx;rcases bf.mp hx with hx|hx
    ·have Y:¬((f.a,f.sg)=x.1):=fun z=>A (by rw[z];exact aE.mpr ⟨x,hx,rfl⟩);rw[aj (ae (m x hx) j),aj (D.ned x hx),I,if_neg Y,dS];exact G _ _ (m x hx)
    ·have:x=((f.a,f.sg),nl):=by simpa using hx
     subst this;have a0:aF (T.take i) (f.a,f.sg)=[]:=mK fun d hd z=>A (by rw[<-z];exact l d hd);show upd _ nl _ nl=_;rw[aa,I,if_pos rfl,a0]
     rfl
   ·intro d hd;rw[ar];rw[take_snoc C]at hd;rcases bf.mp hd with hd|hd
    ·exact cu _ (l d hd)
    ·have:d=f:=by simpa using hd
     rw[this];exact cQ _ (by simp)
 ·rintro σ u ⟨x2,x3,x4,rfl,p,D,w,an,m,l⟩;rw[ai,Paired.length al,bp]at m l;exact⟨_,rfl,k g p u ⟨D.nd,w,m,l⟩ D.same⟩
theorem jH:∀{L R:Zb},L.Nodup->(∀y∈L,y∈R)->L.length<=R.length
 |[],_,_,_=>c_ _
 |x::L,R,a,h=>by
  rw[jA]at a;have hx:=h x dz;have:=jH (L:=L) (R:=R.erase x) a.2 fun y f=>(List.mem_erase_of_ne (fun e:y=x=>a.1 (by rw[<-e];exact f))).mpr (h y (gC _ f));rw[List.length_erase_of_mem hx]at this;have:0<R.length:=List.length_pos_of_mem hx;rw[fF];omega
theorem Reach.in_{e:List ah}{a b:Str}{rooms:Zb}(f:∀d∈e,d.b∈rooms)(h:Reach e a b):b∈rooms:=by
 cases h with
 |one h=>exact f _ h
 |step r h=>exact f _ h
inductive zD (vs:List V)(H:Hp)(Q:VK)(E:XK):Prop
 |mk (g:Addr) (room:Str) (ps:List ((Str×List Str)×Addr)) (ds:List ah) (rooms:Zb):(vs=[.ref g,.str room])->(j6 H g ps ds)->((∀d∈ds,d.b∈rooms))->(rooms.length<=1000)->(∀(d:Addr) (L:Zb) (H':Hp),H' d=some (.dK (bq L))->L.Nodup->(∀w,w∈L↔Reach ds room w)->H d=none->ab H H'->Q (.ref d) H')->zD  vs H Q E
structure LZ(H0 H:Hp)(ds:List ah)(room:Str)(d w:Addr)(L W:Zb)(open_:Str->Prop):Prop where
 d:H d=some (.dK (bq L))
 w:H w=some (.lst (W.map V.str))
 same:ab H0 H
 nd:L.Nodup
 sound:∀y∈L,Reach ds room y
 wait:∀y∈W,y=room∨y∈L
 closed:∀y,(y=room∨y∈L)->y∉W->¬open_ y->∀c∈aF ds (y,ao),c∈L
theorem tT{K:Za}{st:Addr}(b1:∀H,br K H st (ao.map V.str)){vs:List V}{H:Hp}{Q:VK}{E:XK}(h:zD vs H Q E):uZ K st (bN Q) (start v6 vs) H:=by
 obtain⟨g,room,ps,ds,rooms,rfl,G,b2,hz,k⟩:=h;refine fun d hd=>?_;refine⟨_,rfl,(by show 1<=ak;decide),fun w hw=>?_⟩;have aC:H w=none:=(ab.new hd).free hw;have U:d≠w:=ae aa hw;refine⟨fun m σ B=>∃(L W:Zb) (x y:Option V),σ=[some (.ref g),some (.str room),some (.ref d),some (.ref w),x,y]/\LZ H B ds room d w L W (fun _=>False)/\m=2 * (rooms.length-L.length)+W.length/\m<=2 * rooms.length+1,
  ⟨_,[],[room],_,_,rfl,⟨kp aa hw,aa,(ab.new hd).trans (ab.new hw),rJ,by simp,by simp,?_⟩,rfl,aR _⟩,?_⟩
 ·intro y hy O;rcases hy with rfl|hy
  ·simp at O
  ·cases hy
 rintro m σ H1 ⟨L,W,x4,x5,rfl,D,rfl,hbound⟩;have T:∀{l:Zb},l.Nodup->(∀y∈l,Reach ds room y)->l.length<=rooms.length:=fun nd sd=>jH nd fun y hy=>(sd y hy).in_ b2;refine⟨_,rfl,.inl ⟨w,_,rfl,.inl (ay.of D.w),_,_,rfl,rfl,_,rfl,?_⟩⟩;refine l6 (fun A=>?_) (fun A=>?_)
 ·have a0:W≠[]:=by
   intro z;rw[z]at A;exact absurd (of_decide_eq_true A) (by decide)
  obtain⟨s,f,rfl⟩:∃s f,W=s++[f]:=⟨W.dropLast,W.getLast a0,(List.dropLast_concat_getLast a0).symm⟩;have Y:f=room∨f∈L:=D.wait f (by simp);refine⟨fun σ' B=>∃(l n:Zb) (x y:Option V),σ'=[some (.ref g),some (.str room),some (.ref d),some (.ref w),x,y]/\LZ H B ds room d w l n (fun _=>False)/\2 * (rooms.length-l.length)+n.length<2 * (rooms.length-L.length)+(s++[f]).length,
   fun σ' B ⟨l,n,x,y,e,D',hm⟩=>⟨_,hm,l,n,x,y,e,D',rfl,by omega⟩,?_⟩
  have al:((s++[f]).map V.str)[((s++[f]).map V.str).length-1]?=some (.str f):=by simp
  have an:((s++[f]).map V.str).dropLast=s.map V.str:=by rw[ar];simp
  refine⟨_,rfl,.inl ⟨rfl,_,ay.of D.w⟩,w,_,_,rfl,rfl,D.w,al,?_⟩;rw[an];have a4:upd H1 w (.lst (s.map V.str)) d=some (.dK (bq L)):=by rw[aj U];exact D.d
  have a5:upd H1 w (.lst (s.map V.str)) w=some (.lst (s.map V.str)):=aa;have S1:ab H (upd H1 w (.lst (s.map V.str))):=fun b o q=>by rw[aj (ae q aC)];exact D.same _ _ q
  generalize upd H1 w (.lst (s.map V.str))=H2 at a4 a5 S1 ⊢;have G2:=G.same S1;refine⟨_,rfl,g,rfl,.inr ⟨_,.inl G2.g⟩,_,rfl,(by show 2<=ak;decide),fun kt a6=>⟨(by show 0<=ak;decide),fun et ap=>⟨c6 (fg wm ps) (wm (f,ao)),.inr ⟨_,wm (f,ao),kt,.inl ?_,rfl,?_,se _,rfl⟩,?_⟩⟩⟩
  ·exact kp (kp G2.g a6) ap
  ·unfold wm lA;refine⟨kt,_,rfl,br.of (kp aa ap),?_⟩;unfold TKIns;refine⟨_,_,rfl,?_,?_⟩
   ·unfold pK lA;rfl
   unfold TKIns;refine⟨_,_,rfl,?_,?_⟩
   ·unfold uu lA;refine⟨st,_,rfl,b1 _,?_⟩;unfold ao;show TKIns K _ [pK _] [V.str _];unfold TKIns;refine⟨_,_,rfl,?_,?_⟩
    ·unfold pK lA;rfl
    unfold TKIns;rfl
   unfold TKIns;rfl
  have S3:ab H2 (upd (upd H2 kt (.tup [.str f,.ref st])) et (.tup [])):=(ab.new a6).trans (ab.new ap);have C:upd (upd H2 kt (.tup [.str f,.ref st])) et (.tup []) et=some (.tup []):=aa;generalize upd (upd H2 kt (.tup [.str f,.ref st])) et (.tup [])=H3 at S3 C ⊢;have D3:LZ H H3 ds room d w L s (fun y=>y=f):=⟨S3 _ _ a4,S3 _ _ a5,S1.trans S3,D.nd,D.sound,fun y hy=>D.wait y (cu _ hy),fun y hy O ho=>D.closed y hy (fun z=>by rcases bf.mp z with z|z;exact O z;exact ho (by simpa using z)) (fun z=>z)⟩;have a7:2 * (rooms.length-L.length)+s.length<2 * (rooms.length-L.length)+(s++[f]).length:=by rw[aA];show _<_+(_+1);omega
  have a8:∀(H4:Hp) (l n:Zb) (x y:Option V),LZ H H4 ds room d w l n (fun y=>y=f)->(∀c∈aF ds (f,ao),c∈l)->2 * (rooms.length-l.length)+n.length<2 * (rooms.length-L.length)+(s++[f]).length ->
    ∃(l n:Zb) (x' y':Option V),[some (V.ref g),some (.str room),some (.ref d),some (.ref w),x,y]=[some (.ref g),some (.str room),some (.ref d),some (.ref w),x',y']/\LZ H H4 ds room d w l n (fun _=>False)/\2 * (rooms.length-l.length)+n.length<2 * (rooms.length-L.length)+(s++[f]).length:=by
   intro H4 l n x y p hc hm;refine⟨l,n,x,y,rfl,⟨p.d,p.w,p.same,p.nd,p.sound,p.wait,fun y hy O _=>?_⟩,hm⟩;by_cases e:y=f
   ·rw[e];exact hc
   ·exact p.closed y hy O e
  by_cases I:(f,ao)∈ps.map (·.1)
  ·obtain⟨⟨r,a⟩,a9,er⟩:=aE.mp I;obtain rfl:r=(f,ao):=er;rw[fD jf G.nd a9];have bb:=G.ls _ a9;refine⟨a,rfl,.inl ⟨⟨_,ay.of ((S1.trans S3) _ _ bb)⟩,?_⟩⟩
   let as:Nat->L2.St->Hp->Prop:=fun j σ B=>Lf fun(l n:Zb) (y:Option V)=>KH (σ=[some (.ref g),some (.str room),some (.ref d),some (.ref w),some (.str f),y]) (LZ H B ds room d w l n (fun y=>y=f)) ((f=room∨f∈l)) ((∀c∈(aF ds (f,ao)).take j,c∈l)) (2 * (rooms.length-l.length)+n.length<2 * (rooms.length-L.length)+(s++[f]).length)
   refine bw (xs:=(aF ds (f,ao)).map V.str) as
    ⟨L,s,_,rfl,D3,Y,by simp,a7⟩ (fun j σ B _ zq=>by obtain⟨_,_,_,_,D',_,_,_⟩:=zq;exact ay.of (D'.same _ _ bb)) ?_ ?_
   ·rintro j x σ H4 hj ⟨l,n,y,rfl,p,hh,hc,hm⟩;obtain⟨i,t,rfl⟩:=bh hj;have u:(⟨f,ao,i⟩:ah)∈ds:=bj.mp (bX t);have N:Reach ds room i:=by
     rcases hh with hh|hh
     ·rw[hh]at u;exact .one u
     ·exact .step (p.sound _ hh) u
    have b3:=T p.nd p.sound;refine⟨_,rfl,_,rfl,d,_,rfl,.inl ⟨_,.inr i,.inl p.d,rfl,rfl⟩,_,rfl,?_⟩;rw[fM];by_cases c:i∈l
    ·rw[zzr1 c];refine bd ⟨l,n,_,rfl,p,hh,?_,hm⟩;intro c' v;rw[take_snoc t]at v;rcases bf.mp v with h|h
     ·exact hc c' h
     ·have:c'=i:=by simpa using h
      rw[this];exact c
    ·rw[zzr0 c];refine bU ?_;have bi:(l++[i]).Nodup:=by
      rw[dk];refine⟨p.nd,by simp,fun a ha b hb e=>?_⟩;have:b=i:=by simpa using hb
      exact c (by rw[<-this,<-e];exact ha)
     have bn:∀y∈l++[i],Reach ds room y:=by
      intro y hy;rcases bf.mp hy with hy|hy
      ·exact p.sound y hy
      ·have:y=i:=by simpa using hy
       rw[this];exact N
     have J:=T bi bn;rw[aA]at J;have b4:l.length+1<=rooms.length:=J;have b5:n.length<=9000:=by omega
     refine⟨_,rfl,_,rfl,d,_,rfl,.inl ⟨_,.inr i,p.d,rfl,aq (bI (lq _) (by omega)),rfl⟩,?_⟩;have b0:upd H4 d (.dK (dP (bq l) (.inr i) (.bl true))) w=some (.lst (n.map V.str)):=by rw[aj U.symm];exact p.w
     refine⟨_,rfl,.inl ⟨rfl,_,ay.of b0⟩,_,rfl,w,_,_,rfl,rfl,b0,by rw[ai];exact ig b5,l++[i],n++[i],_,rfl,⟨?_,?_,?_,bi,bn,?_,?_⟩,?_,?_,?_⟩
     ·rw[aj U,aa,eQ]
     ·rw[aa,ar];rfl
     ·intro b o q;rw[aj (ae q aC),aj (ae q hd)];exact p.same _ _ q
     ·intro y hy;rcases bf.mp hy with hy|hy
      ·rcases p.wait y hy with h|h
       ·exact .inl h
       ·exact .inr (cu _ h)
      ·exact .inr (cQ _ hy)
     ·intro y hy O ho c' v;have b6:y∉n:=fun z=>O (cu _ z);have b7:y≠i:=fun z=>O (cQ _ (by simp[z]));refine cu _ (p.closed y ?_ b6 ho c' v);rcases hy with hy|hy
      ·exact .inl hy
      ·rcases bf.mp hy with hy|hy
       ·exact .inr hy
       ·exact absurd (by simpa using hy) b7
     ·rcases hh with h|h
      ·exact .inl h
      ·exact .inr (cu _ h)
     ·intro c' v;rw[take_snoc t]at v;rcases bf.mp v with h|h
      ·exact cu _ (hc c' h)
      ·exact cQ _ h
     ·rw[aA,aA];show 2 * (rooms.length-(l.length+1))+(n.length+1)<_;omega
   ·rintro σ H4 ⟨l,n,y,rfl,p,hh,hc,hm⟩;rw[ai,bp]at hc;exact a8 H4 l n _ _ p hc hm
  ·rw[nu jf I];refine⟨et,rfl,.inr ⟨⟨_,br.of C⟩,?_⟩⟩;have M:aF ds (f,ao)=[]:=mK fun x hx z=>I (by rw[<-z];exact G.all x hx)
   let as:Nat->L2.St->Hp->Prop:=fun j σ B=>σ=[some (.ref g),some (.str room),some (.ref d),some (.ref w),some (.str f),x5]/\B=H3
   refine EI (xs:=[]) as ⟨rfl,rfl⟩ (fun j σ B _ zq=>by obtain⟨_,e⟩:=zq;exact by rw[e];exact br.of C) (fun j x σ B hj=>by cases hj) ?_;rintro σ B ⟨rfl,rfl⟩;exact a8 _ L s _ _ D3 (by rw[M];simp) a7
 ·have M:W=[]:=by
   cases W with
   |nil=>rfl
   |cons a W=>exact absurd (zzr1 (by rw[ai,fF];omega)) A
  subst M;refine⟨_,rfl,k d L H1 D.d D.nd (fun w=>⟨D.sound w,fun hr=>?_⟩) hd D.same⟩
  induction hr with
  |one h=>exact D.closed room (.inl rfl) (by simp) (fun z=>z) _ (bj.mpr h)
  |step r h ih=>exact D.closed _ (.inr ih) (by simp) (fun z=>z) _ (bj.mpr h)
inductive sp_first_led_round (vs:List V)(H:Hp)(Q:VK)(E:XK):Prop
 |mk (l3 d:Addr) (rooms:Zb) (ps:List (Str×Addr)):(vs=[.ref l3,.ref d])->(H l3=some (.lst (rooms.map V.str)))->(H d=some (.dK (fg Sum.inr ps)))->(ps.map (·.1)=rooms)->(rooms.Nodup)->((∀x∈ps,∃L,H x.2=some (.dK (bq L))/\x.1∉L))->(∀H',ab H H'->Q .non H')->sp_first_led_round  vs H Q E
theorem oY{K:Za}{p:List V}{H:Hp}{Q:VK}{E:XK}(h:sp_first_led_round p H Q E):pT K (bN Q) (start qW p) H:=by
 obtain⟨q,d,rooms,u,rfl,s,v,f,m,z,k⟩:=h;refine⟨_,rfl,q,rfl,⟨_,ay.of s⟩,?_⟩
 let n:Nat->L2.St->Hp->Prop:=fun i σ e=>∃x y,σ=[some (.ref q),some (.ref d),x,y]/\ab H e
 refine mL (xs:=rooms.map V.str) n ⟨_,_,rfl,ab.refl H⟩ (fun i σ e _ A=>by obtain⟨_,_,_,S⟩:=A;exact ay.of (S _ _ s)) ?_ ?_
 ·rintro i x σ e t hi ⟨I,J,rfl,S⟩ B;obtain⟨w,C,rfl⟩:=bh hi;refine⟨t,_,rfl,br.of aa,rfl,_,_,rfl,_,_,rfl,rfl,?_⟩;have l:ab H (upd e t (.tup [.int i,.str w])):=S.trans (ab.new B);generalize upd e t (.tup [.int i,.str w])=M at l ⊢;have g:w∈u.map (·.1):=by rw[f];exact bX C
  obtain⟨⟨r,a⟩,j,D⟩:=aE.mp g;obtain rfl:r=w:=D;obtain⟨L,o,G⟩:=z _ j;refine⟨_,rfl,_,rfl,_,rfl,d,.ref a,rfl,.inl ⟨_,.inr r,.inl (l _ _ v),rfl,(fD ji (by rw[f];exact m) j).symm⟩,a,_,rfl,.inl ⟨_,.inr r,.inl (l _ _ o),rfl,rfl⟩,_,rfl,?_⟩;rw[fM,zzr0 G];exact bd ⟨_,_,rfl,l⟩
 ·rintro σ e ⟨x,y,rfl,S⟩;exact k e S
abbrev lk(f:Str)(fs:List (Str×V)):Option V:=fs.lookup f
def eg(ds:List ah)(r:Str):Bool:=(bJ ds r).all iU
structure bc(C:Addr)(H:Hp)(x:Addr)(J0 J2 rooms:Zb)(ds:List ah):Prop where
 at_:∃(dx:Addr) (fs:List (Str×V)) (o1 o2 o3 o4 lv qu sg sl:Addr) (ts:Ze) (lps:List (Str×Addr)) (gps:List ((Str×List Str)×Addr)) (sps:List (Str×Addr)),
  H x=some (.ins C dx fs)/\lk "is_quiet" fs=none/\lk "goals" fs=none/\lk "led_from" fs=none/\lk "rooms" fs=none /\
  lk "own_asks" fs=some (.ref o1)/\lk "own_says" fs=some (.ref o2)/\lk "own_rooms" fs=some (.ref o3)/\lk "own_doors" fs=some (.ref o4) /\
  lk "leaving" fs=some (.ref lv)/\lk "quiet" fs=some (.ref qu)/\lk "sign_goals" fs=some (.ref sg)/\lk "still_led" fs=some (.ref sl) /\
  Lists H o1 o2 o3 o4 ts J0 J2 rooms ds /\
  lps.map (·.1)=rooms/\H lv=some (.dK (fg Sum.inr lps))/\(∀x∈lps,∃us,H x.2=some (.lst (us.map V.ref))/\dg H us (bJ ds x.1)) /\
  H qu=some (.dK (bq (rooms.filter (eg ds))))/\j6 H sg gps ds /\
  sps.map (·.1)=rooms/\H sl=some (.dK (fg Sum.inr sps))/\(∀x∈sps,∃L,H x.2=some (.dK (bq L))/\L.Nodup/\∀w,w∈L↔Reach ds x.1 w)
 ok:ax J0 J2 rooms ds
 more:∃(dx:Addr) (fs:List (Str×V)),H x=some (.ins C dx fs)/\lk "asks" fs=none/\lk "says" fs=none/\lk "doors" fs=none/\lk "doors_from" fs=none
theorem iT(f:Str)(v:V):∀fs:List (Str×V),(eB f v fs).length<=fs.length+1
 |[]=>aR _
 | (g,x)::r=>by
  unfold eB;split
  ·exact DQ _
  ·rw[fF,fF];have:=iT f v r;omega
theorem vx:∀(a qs:List (Str×Addr)),((qs++a).map (·.1)).Nodup->fS (fg Sum.inr qs) (fg Sum.inr a)=fg Sum.inr (qs++a)
 |[],qs,_=>by rw[dS];rfl
 |p::a,qs,g=>by
  show fS (dP (fg Sum.inr qs) (Sum.inr p.1) (.ref p.2)) (fg Sum.inr a)=_;have e:qs++p::a=(qs++[p])++a:=by simp
  rw[e]at g ⊢;have f:p.1∉qs.map (·.1):=by
   rw[ar,ar,dk]at g;have:=g.1;rw[dk]at this;intro z;exact this.2.2 _ z _ (by simp) rfl
  rw[qD _ (nu ji f)];have:=vx a (qs++[p]) g;rw[<-this];have h:fg (Sum.inr:Str->cX) (qs++[p])=fg Sum.inr qs++[(Sum.inr p.1,V.ref p.2)]:=by
   unfold fg;rw[ar];rfl
  rw[h]
inductive qh(C:Addr)(vs:List V)(H:Hp)(Q:VK)(E:XK):Prop
 |mk (x dx l1 l2 l3 l4:Addr) (ts:Ze) (J0 J2 rooms:Zb) (ds:List ah):(vs=[.ref x,.ref l1,.ref l2,.ref l3,.ref l4])->(H x=some (.ins C dx []))->(Lists H l1 l2 l3 l4 ts J0 J2 rooms ds)->(ax J0 J2 rooms ds)->(∀H',bc C H' x J0 J2 rooms ds->dZ x H H'->Q .non H')->qh C vs H Q E
theorem Lists.exI{H f:Hp}{x C p:Addr}{fs:List (Str×V)}{g i l3 j:Addr}{k:Ze}{l m rooms:Zb}{n:List ah}(h:Lists H g i l3 j k l m rooms n)(hx:H x=some (.ins C p fs))(e:dZ x H f):Lists f g i l3 j k l m rooms n:=by
 have ne:∀{b:Addr}{o:List V},H b=some (.lst o)->b≠x:=fun a z=>by rw[z,hx]at a;cases a
 exact⟨e _ _ h.a1 (ne h.a1),e _ _ h.a2 (ne h.a2),e _ _ h.a3 (ne h.a3),e _ _ h.a4 (ne h.a4),h.ds.kt fun b o a=>e _ _ a fun z=>by rw[z,hx]at a;cases a⟩
theorem dZ.ktI{H f:Hp}{x C g:Addr}{fs:List (Str×V)}(e:dZ x H f)(hx:H x=some (.ins C g fs)):gx H f:=fun b h a=>e _ _ a fun z=>by rw[z,hx]at a;cases a
theorem dZ.neI{H:Hp}{x C e:Addr}{fs:List (Str×V)}(hx:H x=some (.ins C e fs)){b:Addr}{f:List V}(a:H b=some (.lst f)):b≠x:=fun z=>by rw[z,hx]at a;cases a
theorem Ir{H:Hp}{x C f:Addr}{fs:List (Str×V)}(hx:H x=some (.ins C f fs)){b:Addr}{a:List (cX×V)}(e:H b=some (.dK a)):b≠x:=fun z=>by rw[z,hx]at e;cases e
theorem K0{H:Hp}{x C f:Addr}{fs:List (Str×V)}(hx:H x=some (.ins C f fs)){b:Addr}{a:List (TK×V)}(e:H b=some (.dT a)):b≠x:=fun z=>by rw[z,hx]at e;cases e
structure MC(K:Za)(C:Addr):Prop where
 cls:GO K C
 a1:g8 K C "own_asks"
 a2:g8 K C "own_says"
 a3:g8 K C "own_rooms"
 a4:g8 K C "own_doors"
 a5:g8 K C "leaving"
 a6:g8 K C "quiet"
 a7:g8 K C "sign_goals"
 a8:g8 K C "still_led"
theorem BE{H:Hp}{x C a:Addr}{fs:List (Str×V)}(f:Str)(y:V)(hx:H x=some (.ins C a fs)):∃e,e=upd H x (.ins C a (eB f y fs))/\e x=some (.ins C a (eB f y fs))/\dZ x H e :=
 ⟨_,rfl,aa,dZ.upd _ _ _⟩
theorem dB{p:Str->Bool}{a:Zb}{i:Nat}{w:Str}(h:a[i]?=some w):(a.take (i+1)).filter p=(a.take i).filter p++(if p w=true then[w]else[]):=by
 rw[take_snoc h,gQ];congr 1;by_cases c:p w=true
 ·rw[if_pos c];simp[c]
 ·rw[if_neg c];simp[c]
theorem Dh(a:List ah)(r:Str):(bJ a r).length<=a.length:=b_ _ _
theorem ax.sg0{a f rooms:Zb}{ds:List ah}(m:ax a f rooms ds){r:Str}:∀d∈bJ ds r,d.sg≠[]:=by
 intro d g;have:=m.good d (bW.mp g).1;rcases this.sg with⟨w,_,e⟩|⟨w,_,e⟩|e<;>rw[e]<;>exact List.cons_ne_nil _ _
theorem JS{K:Za}{C:Addr}(M:MC K C){B:List V}{H:Hp}{Q:VK}{E:XK}(h:qh C B H Q E):
  oR K sp_need_none sp_first_led_round zD qj (sp_as_keys K) sp_has_asks_alone sp_doors_by_start sp_need_parts (bN Q) (start pB B) H:=by
 obtain⟨x,G,l1,l2,l3,l4,ts,J0,J2,rooms,ds,rfl,hx,L,m,k⟩:=h;have z3:=m.rooms26;have z4:=m.few;refine⟨_,rfl,_,rfl,_,rfl,_,rfl,l1,l2,l3,l4,ts,J0,J2,rooms,ds,rfl,L,m,fun H1 S1=>?_⟩;have a0:=S1 _ _ hx;have L1:=L.same S1;have E1:dZ x H H1:=ab.exB S1;refine⟨_,rfl,.inl ⟨l1,_,rfl,.inl (ay.of L1.a1),fun o1 a9=>⟨_,rfl,x,C,G,_,rfl,kp a0 a9,M.cls,M.a1,(by show 0<1000;decide),?_⟩⟩⟩;obtain⟨H2,e2,bb,F2⟩:=BE "own_asks" (.ref o1) (kp (x:=.lst (J0.map V.str)) a0 a9);rw[<-e2];have n1:o1≠x:=(ae a0 a9).symm;have f1:=F2 _ _ aa n1;have E2:dZ x H1 H2:=(dZ.new a9).trans F2;have ci:=L1.exI a0 E2;have d0:(eB ("own_asks":Str) (.ref o1) []).length<=1:=iT _ _ _;clear e2 F2;refine⟨_,rfl,.inl ⟨l2,_,rfl,.inl (ay.of ci.a2),fun o2 bi=>⟨_,rfl,x,C,G,_,rfl,kp bb bi,M.cls,M.a2,by omega,?_⟩⟩⟩;obtain⟨H3,e3,bl,F3⟩:=BE "own_says" (.ref o2) (kp (x:=.lst (J2.map V.str)) bb bi);rw[<-e3];have n2:o2≠x:=(ae bb bi).symm;have f2:=F3 _ _ aa n2;have E3:dZ x H2 H3:=(dZ.new bi).trans F3;have L3:=ci.exI bb E3;have d1:=iT ("own_says":Str) (.ref o2) (eB ("own_asks":Str) (.ref o1) []);clear e3 F3;refine⟨_,rfl,.inl ⟨l3,_,rfl,.inl (ay.of L3.a3),fun o3 bn=>⟨_,rfl,x,C,G,_,rfl,kp bl bn,M.cls,M.a3,by omega,?_⟩⟩⟩;obtain⟨H4,e4,b0,F4⟩:=BE "own_rooms" (.ref o3) (kp (x:=.lst (rooms.map V.str)) bl bn);rw[<-e4];have n3:o3≠x:=(ae bl bn).symm;have f3:=F4 _ _ aa n3;have E4:dZ x H3 H4:=(dZ.new bn).trans F4;have L4:=L3.exI bl E4;have d2:=iT ("own_rooms":Str) (.ref o3) (eB ("own_says":Str) (.ref o2) (eB ("own_asks":Str) (.ref o1) []));clear e4 F4;refine⟨_,rfl,.inl ⟨l4,_,rfl,.inl (ay.of L4.a4),fun o4 b1=>⟨_,rfl,x,C,G,_,rfl,kp b0 b1,M.cls,M.a4,by omega,?_⟩⟩⟩;obtain⟨H5,e5,n,F5⟩:=BE "own_doors" (.ref o4) (kp (x:=.lst (ts.map V.ref)) b0 b1);rw[<-e5];have n4:o4≠x:=(ae b0 b1).symm;have f4:=F5 _ _ aa n4;have E5:dZ x H4 H5:=(dZ.new b1).trans F5;have L5:=L4.exI b0 E5;generalize b7:eB ("own_doors":Str) (.ref o4) (eB ("own_rooms":Str) (.ref o3) (eB ("own_says":Str) (.ref o2) (eB ("own_asks":Str) (.ref o1) [])))=s at n;have d3:s.length<=4:=by
  rw[<-b7];have:=iT ("own_doors":Str) (.ref o4) (eB ("own_rooms":Str) (.ref o3) (eB ("own_says":Str) (.ref o2) (eB ("own_asks":Str) (.ref o1) [])));omega
 clear e5 F5;refine⟨_,rfl,_,rfl,l3,l4,ts,rooms,ds,rfl,L5.a3,L5.a4,L5.ds,m.okR.1,by omega,by omega,fun d hd=>(m.good d hd).a,fun N b2 d7 O T b8 S6=>⟨_,rfl,x,C,G,s,rfl,S6 _ _ n,M.cls,M.a5,by omega,?_⟩⟩;obtain⟨H6,e6,u,F6⟩:=BE "leaving" (.ref N) (S6 _ _ n);rw[<-e6];have E6:dZ x H5 H6:=(ab.exB S6).trans F6;have L6:=L5.exI n E6;have b9:=F6 _ _ T (Ir (S6 _ _ n) T);have cl:∀y∈b2,∃A,H6 y.2=some (.lst (A.map V.ref))/\dg H6 A (bJ ds y.1):=fun y hy=>by
  obtain⟨A,I,g2⟩:=b8 y hy;exact⟨A,F6 _ _ I (dZ.neI (S6 _ _ n) I),g2.kt (F6.ktI (S6 _ _ n))⟩
 have c3:(b2.map (·.1)).Nodup:=by rw[O];exact m.okR.1
 have d4:=iT ("leaving":Str) (.ref N) s;have c4:lk "leaving" (eB ("leaving":Str) (.ref N) s)=some (.ref N):=by
  show l_ _ _=_;rw[gE,if_pos rfl]
 clear e6 F6 T b8;refine⟨_,rfl,l3,rfl,⟨_,ay.of L6.a3⟩,fun f hf=>?_⟩
 let c5:Nat->List V->Hp->Prop:=fun i B U=>B=((rooms.take i).filter (eg ds)).map V.str/\ab H6 U/\U f=some (.lst B)
 refine bQ (xs:=rooms.map V.str) c5 ⟨rfl,ab.new hf,aa⟩ (fun i B U _ zq=>by obtain⟨_,S,h'⟩:=zq;exact⟨h',ay.of (S _ _ L6.a3)⟩) ?_ ?_;rotate_left
 ·rintro i B U x' ca hi ⟨rfl,S,f'⟩;obtain⟨r,hr,rfl⟩:=bh ca;obtain⟨⟨r',a⟩,cm,er⟩:=aE.mp (show r∈b2.map (·.1) by rw[O];exact bX hr);obtain rfl:r'=r:=er;obtain⟨A,da,db⟩:=cl _ cm;refine gN ?_;refine⟨_,rfl,x,C,G,_,.ref N,rfl,S _ _ u,M.cls,M.a5,c4,_,rfl,N,.ref a,rfl,.inl ⟨_,.inr r',.inl (S _ _ b9),rfl,(fD ji c3 cm).symm⟩,a,A,bJ ds r',rfl,S _ _ da,db.kt (ab.kt S),bI (Dh _ _) (by omega),m.sg0,fun b3 l=>⟨_,rfl,?_⟩⟩;have co:(((rooms.take i).filter (eg ds)).map V.str).length<ak:=by
   rw[ai];refine aq (bI (b_ _ _) ?_);rw[aX];omega
  refine l6 (fun hq=>?_) (fun hq=>?_)
  ·refine⟨_,rfl,l _ _ f',co,kL hi ⟨?_,?_,aa⟩⟩
   ·rw[dB hr,if_pos (show eg ds r'=true from hq),ar];rfl
   ·intro b o q;rw[aj (ae q hf)];exact l _ _ (S _ _ q)
  ·refine kL hi ⟨?_,S.trans l,?_⟩
   ·rw[dB hr,if_neg (show ¬eg ds r'=true from hq),dS]
   ·exact l _ _ f'
 rintro B d8 ⟨rfl,S7,f7⟩;rw[ai,bp]at f7;refine sC (ws:=rooms.filter (eg ds)) (ay.of f7) (bI (b_ _ _) (by omega)) fun qu b4=>⟨_,rfl,x,C,G,_,rfl,kp (S7 _ _ u) b4,M.cls,M.a6,by omega,?_⟩;obtain⟨H7,e7,al,F7⟩:=BE "quiet" (.ref qu) (kp (x:=.dK (bq (rooms.filter (eg ds)))) (S7 _ _ u) b4);rw[<-e7];have n7:qu≠x:=(ae (S7 _ _ u) b4).symm;have dc:=F7 _ _ aa n7;have E7:dZ x H6 H7:=((ab.exB S7).trans (dZ.new b4)).trans F7;have L7:=L6.exI u E7;have d5:=iT ("quiet":Str) (.ref qu) (eB ("leaving":Str) (.ref N) s);clear e7 F7;refine⟨_,rfl,l4,ts,ds,rfl,L7.a4,L7.ds,by omega,fun sg cc d9 G' S8=>⟨_,rfl,x,C,G,_,rfl,S8 _ _ al,M.cls,M.a7,by omega,?_⟩⟩;obtain⟨H8,e8,v,F8⟩:=BE "sign_goals" (.ref sg) (S8 _ _ al);rw[<-e8];have E8:dZ x H7 H8:=(ab.exB S8).trans F8;have L8:=L7.exI al E8;have G8:j6 H8 sg cc ds:=⟨G'.nd,F8 _ _ G'.g (K0 (S8 _ _ al) G'.g),fun y hy=>F8 _ _ (G'.ls y hy) (dZ.neI (S8 _ _ al) (G'.ls y hy)),G'.all⟩;have d6:=iT ("sign_goals":Str) (.ref sg) (eB ("quiet":Str) (.ref qu) (eB ("leaving":Str) (.ref N) s));have dd:lk "sign_goals" (eB ("sign_goals":Str) (.ref sg) (eB ("quiet":Str) (.ref qu) (eB ("leaving":Str) (.ref N) s)))=some (.ref sg):=by
  show l_ _ _=_;rw[gE,if_pos rfl]
 clear e8 F8 G';refine⟨_,rfl,l3,rfl,⟨_,ay.of L8.a3⟩,fun b5 cq=>?_⟩
 let di:Nat->List V->Hp->Prop:=fun i B U=>GL fun(A:Ze) (pl:List (Str×Addr))=>Lg (B=A.map V.ref) (Paired (fun t (p:Str×Addr)=>U t=some (.tup [.str p.1,.ref p.2])) A pl) (pl.map (·.1)=rooms.take i) ((∀p∈pl,∃L,U p.2=some (.dK (bq L))/\L.Nodup/\∀w,w∈L↔Reach ds p.1 w)) (ab H8 U) (U b5=some (.lst B))
 refine bQ (xs:=rooms.map V.str) di
  ⟨[],[],rfl,.nil,rfl,by simp,ab.new cq,aa⟩ (fun i B U _ zq=>by obtain⟨_,_,_,_,_,_,S,h'⟩:=zq;exact⟨h',ay.of (S _ _ L8.a3)⟩) ?_ ?_
 rotate_left
 ·rintro i B U x' ca hi ⟨A,pl,rfl,an,cs,dm,S,f'⟩;obtain⟨r,hr,rfl⟩:=bh ca;have dn:A.length<=150:=by
   rw[Paired.length an,<-ai (f:=(·.1)) (as:=pl),cs,aX];omega
  refine gN (pS ?_);refine⟨_,rfl,_,rfl,x,C,G,_,.ref sg,rfl,S _ _ v,M.cls,M.a7,dd,_,rfl,sg,r,cc,ds,rooms,rfl,G8.same S,fun d hd=>(m.good d hd).b,by omega,fun ld Lr b3 dp nd dr ea l=>⟨(by show 2<=ak;decide),fun t ht=>⟨?_,?_,kL hi ⟨A++[t],pl++[(r,ld)],?_,?_,?_,?_,?_,aa⟩⟩⟩⟩
  ·exact kp (l _ _ f') ht
  ·rw[ai];exact aq (by omega)
  ·rw[ar];rfl
  ·have KT:gx (upd b3 t (.tup [.str r,.ref ld])) (upd (upd b3 t (.tup [.str r,.ref ld])) b5 (.lst (A.map V.ref++[.ref t]))):=cO (kp (l _ _ f') ht);exact Paired.app (Paired.mapP an fun t' p' e=>KT _ _ (kp (l _ _ e) ht)) (.cons (KT _ _ aa) .nil)
  ·rw[ar,cs,take_snoc hr];rfl
  ·have ct:∀{b:Addr}{dt:List (cX×V)},upd b3 t (.tup [.str r,.ref ld]) b=some (.dK dt)->b≠b5:=fun hb z=>by rw[z,kp (l _ _ f') ht]at hb;cases hb
   intro p hp;rcases bf.mp hp with hp|hp
   ·obtain⟨L0,I,g2⟩:=dm p hp;refine⟨L0,?_,g2⟩;have:=kp (x:=.tup [.str r,.ref ld]) (l _ _ I) ht;rw[aj (ct this)];exact this
   ·have:p=(r,ld):=by simpa using hp
    subst this;refine⟨Lr,?_,nd,dr⟩;have:=kp (x:=.tup [.str r,.ref ld]) dp ht;rw[aj (ct this)];exact this
  ·intro b o q;rw[aj (ae q cq)];exact kp (l _ _ (S _ _ q)) ht
 rintro B eb ⟨A,sps,rfl,an,D,cL,S9,f9⟩;rw[ai,bp]at D;have dy:(sps.map (·.1)).Nodup:=by rw[D];exact m.okR.1
 refine⟨b5,A,fg Sum.inr sps,rfl,ay.of f9,?_,?_,fun sl J=>⟨_,rfl,x,C,G,_,rfl,kp (S9 _ _ v) J,M.cls,M.a8,by omega,?_⟩⟩
 ·rw[Paired.length an];unfold fg;rw[ai]
 ·intro j t kv hj cd;obtain⟨p,hp,e⟩:=Paired.getL an hj;unfold fg at cd;rw[cS,hp]at cd;have:=fW cd;rw[<-this];exact e
 have b6:fS [] (fg Sum.inr sps)=fg Sum.inr sps:=vx sps [] dy;rw[b6];obtain⟨H9,e9,ce,F9⟩:=BE "still_led" (.ref sl) (kp (x:=.dK (fg Sum.inr sps)) (S9 _ _ v) J);rw[<-e9];have n9:sl≠x:=(ae (S9 _ _ v) J).symm;have c0:=F9 _ _ aa n9;have E9:dZ x H8 H9:=((ab.exB S9).trans (dZ.new J)).trans F9;have L9:=L8.exI v E9;have ap:∀p∈sps,∃L,H9 p.2=some (.dK (bq L))/\L.Nodup/\∀w,w∈L↔Reach ds p.1 w:=fun p hp=>by
  obtain⟨L0,I,g2⟩:=cL p hp;have g3:=kp (x:=.dK (fg Sum.inr sps)) I J;exact⟨L0,F9 _ _ g3 (Ir (kp (S9 _ _ v) J) g3),g2⟩
 clear e9 F9;have c1:lk "still_led" (eB ("still_led":Str) (.ref sl) (eB ("sign_goals":Str) (.ref sg) (eB ("quiet":Str) (.ref qu) (eB ("leaving":Str) (.ref N) s))))=some (.ref sl):=by
  show l_ _ _=_;rw[gE,if_pos rfl]
 refine⟨_,rfl,_,rfl,x,C,G,_,.ref sl,rfl,ce,M.cls,M.a8,c1,l3,sl,rooms,sps,rfl,L9.a3,c0,D,m.okR.1,fun p hp=>?_,fun c2 aC=>⟨_,rfl,k c2 ?_ ?_⟩⟩
 ·obtain⟨L0,I,g2,g3⟩:=ap p hp;exact⟨L0,I,fun z=>m.noround _ ((g3 _).mp z)⟩
 ·have ch:dZ x H6 H9:=(E7.trans E8).trans E9;have dT:=((E6.trans E7).trans E8).trans E9;have Y:∀{b:Addr}{o:HO},H9 b=some o->c2 b=some o:=fun h=>aC _ _ h;have LL:Lists H5 o1 o2 o3 o4 ts J0 J2 rooms ds:=⟨(E3.trans (E4.trans E5)) _ _ f1 n1,(E4.trans E5) _ _ f2 n2,E5 _ _ f3 n3,f4,L5.ds⟩;refine⟨⟨G,_,o1,o2,o3,o4,N,qu,sg,sl,ts,b2,cc,sps,Y ce,?_,?_,?_,?_,?_,?_,?_,?_,?_,?_,?_,c1,(LL.exI n dT).same aC,O,?_,?_,?_,?_,D,Y c0,fun p hp=>?_⟩,m,⟨G,_,Y ce,?_,?_,?_,?_⟩⟩
  rotate_right 9
  ·exact Y (ch _ _ b9 (Ir u b9))
  ·intro y hy;obtain⟨dV,I,g2⟩:=cl y hy;exact⟨dV,Y (ch _ _ I (dZ.neI u I)),(g2.kt (ch.ktI u)).kt (ab.kt aC)⟩
  ·exact Y ((E8.trans E9) _ _ dc n7)
  ·exact j6.same ⟨G8.nd,E9 _ _ G8.g (K0 v G8.g),fun y hy=>E9 _ _ (G8.ls y hy) (dZ.neI v (G8.ls y hy)),G8.all⟩ aC
  ·obtain⟨L0,I,g2⟩:=ap p hp;exact⟨L0,Y I,g2⟩
  all_goals(show l_ _ _=_;subst b7;repeat (rw[gE];first|rw[if_pos rfl] | rw[if_neg (by decide +kernel)]))
  all_goals rfl
 ·exact((((((((E1.trans E2).trans E3).trans E4).trans E5).trans E6).trans E7).trans E8).trans E9).trans (ab.exB aC)
theorem Kv(a b:Str):decide (dh a=dh b)=decide (a=b):=by
 by_cases e:a=b
 ·rw[zzr1 e,zzr1 (by rw[e])]
 ·rw[zzr0 e,zzr0 (fun z=>e (qv z))]
theorem bc.by{C:Addr}{H e:Hp}{x:Addr}{s t rooms:Zb}{u:List ah}(h:bc C H x s t rooms u)
  (j:∀b v,H b=some (.lst (List.map V.str v))->e b=some (.lst (List.map V.str v))) (w:∀b k,H b=some (.lst (List.map V.ref k))->e b=some (.lst (List.map V.ref k))) (z:gx H e)
  (l:∀b a,H b=some (.dK a)->e b=some (.dK a)) (A:∀b a,H b=some (.dT a)->e b=some (.dT a)) (hi:∀b C f fs,H b=some (.ins C f fs)->e b=some (.ins C f fs)):bc C e x s t rooms u:=by
 obtain⟨f,fs,B,D,E,I,J,M,N,O,k,m,n,o,Q,a1,a2,a3,T,U,Y,b3,b4,b5,b6,b7,b8,L,c1,c2,c3,c4,G,d1,d2,d3⟩:=h.at_;refine⟨⟨f,fs,B,D,E,I,J,M,N,O,k,m,n,o,hi _ _ _ _ Q,a1,a2,a3,T,U,Y,b3,b4,b5,b6,b7,b8,⟨j _ _ L.a1,j _ _ L.a2,j _ _ L.a3,w _ _ L.a4,L.ds.kt z⟩,c1,l _ _ c2,fun y i=>?_,l _ _ c4,⟨G.nd,A _ _ G.g,fun y i=>j _ _ (G.ls y i),G.all⟩,d1,l _ _ d2,fun y i=>?_⟩,h.ok,by obtain⟨f,fs,g,r⟩:=h.more;exact⟨f,fs,hi _ _ _ _ g,r⟩⟩
 ·obtain⟨us,p,q⟩:=c3 y i;exact⟨us,w _ _ p,q.kt z⟩
 ·obtain⟨L0,p,q⟩:=d3 y i;exact⟨L0,l _ _ p,q⟩
theorem bc.same{C:Addr}{H a:Hp}{x:Addr}{f g rooms:Zb}{i:List ah}(h:bc C H x f g rooms i)(S:ab H a):bc C a x f g rooms i :=
 h.by (fun _ _ e=>S _ _ e) (fun _ _ e=>S _ _ e) (ab.kt S) (fun _ _ e=>S _ _ e) (fun _ _ e=>S _ _ e) (fun _ _ _ _ e=>S _ _ e)
theorem bc.ex{C:Addr}{H f:Hp}{x p c:Addr}{g i rooms:Zb}{j:List ah}(h:bc C H x g i rooms j)(a:gM H p c)(S:dZ p H f):bc C f x g i rooms j:=by
 obtain⟨k,hx⟩:=a.lst;exact h.by (fun _ _ e=>S _ _ e (a.ne_strs e)) (fun _ _ e=>S _ _ e (a.ne_refs e)) (S.kt hx) (fun _ _ e=>S _ _ e (fun z=>by rw[z,hx]at e;cases e)) (fun _ _ e=>S _ _ e (fun z=>by rw[z,hx]at e;cases e)) (fun _ _ _ _ e=>S _ _ e (fun z=>by rw[z,hx]at e;cases e))
inductive iS(C:Addr)(vs:List V)(H:Hp)(Q:VK)(E:XK):Prop
 |mk (x:Addr) (w:Str) (J0 J2 rooms:Zb) (ds:List ah):(vs=[.ref x,.str w])->(bc C H x J0 J2 rooms ds)->(Q (.bl (decide (w∈rooms.filter (eg ds)))) H)->iS C vs H Q E
theorem Bg{K:Za}{C:Addr}(M:MC K C){a:List V}{H:Hp}{Q:VK}{E:XK}(h:iS C a H Q E):oQ K (bN Q) (start pA a) H:=by
 obtain⟨x,w,o,p,rooms,q,rfl,h,k⟩:=h;obtain⟨f,fs,r,s,t,u,v,e,y,z,A,g,i,j,l,a1,a2,a3,B,D,G,I,J,N,m,O,T,L,U,Y,c3,n,_⟩:=h.at_;refine⟨_,rfl,_,rfl,x,C,f,fs,.ref e,rfl,l,M.cls,M.a6,m,e,_,rfl,.inl ⟨_,.inr w,.inl n,rfl,rfl⟩,?_⟩;rw[fM];exact k
def az:List Str:=[("hush":Str)]
inductive k5(C:Addr)(vs:List V)(H:Hp)(Q:VK)(E:XK):Prop
 |mk (t l1 l2 l3 l4:Addr) (ts:Ze) (J0 J2 rooms:Zb) (ds:List ah):(vs=[.ref t])->(gK H t l1 l2 l3 l4 ts J0 J2 rooms ds)->(ax J0 J2 rooms ds)->(∀(x:Addr) (H':Hp),bc C H' x J0 J2 rooms ds->ab H H'->Q (.ref x) H')->k5 C vs H Q E
theorem CT{K:Za}{C:Addr}{B:List V}{H:Hp}{Q:VK}{E:XK}(h:k5 C B H Q E):wu K C (qh C) (bN Q) (start wW B) H:=by
 obtain⟨t,J,L,N,O,f,g,i,rooms,U,rfl,T,m,k⟩:=h;refine⟨_,rfl,.inr (.inl ⟨t,_,0,_,rfl,rfl,br.of T.t,rfl,.inl ⟨J,_,rfl,.inl (ay.of T.a1),fun r D=>?_⟩⟩)⟩;have s:=T.same (ab.new (o:=.lst (g.map V.str)) D);refine⟨_,rfl,.inr (.inl ⟨t,_,1,_,rfl,rfl,br.of s.t,rfl,.inl ⟨L,_,rfl,.inl (ay.of s.a2),fun u v=>?_⟩⟩)⟩;have w:=s.same (ab.new (o:=.lst (i.map V.str)) v);refine⟨_,rfl,.inr (.inl ⟨t,_,2,_,rfl,rfl,br.of w.t,rfl,.inl ⟨N,_,rfl,.inl (ay.of w.a3),fun y n=>?_⟩⟩)⟩;have z:=w.same (ab.new (o:=.lst (rooms.map V.str)) n);refine⟨_,rfl,.inr (.inl ⟨t,_,3,_,rfl,rfl,br.of z.t,rfl,.inl ⟨O,_,rfl,.inl (ay.of z.a4),fun A j=>?_⟩⟩)⟩;have T4:=z.same (ab.new (o:=.lst (f.map V.ref)) j);have G:=(((ab.new (o:=.lst (g.map V.str)) D).trans (ab.new (o:=.lst (i.map V.str)) v)).trans (ab.new (o:=.lst (rooms.map V.str)) n)).trans (ab.new (o:=.lst (f.map V.ref)) j);refine fun x p hx a l=>?_;have I:ab H (upd (upd (upd (upd (upd (upd H r (.lst (g.map V.str))) u (.lst (i.map V.str))) y (.lst (rooms.map V.str))) A (.lst (f.map V.ref))) p (.own x)) x (.ins C p [])) :=
  (G.trans (ab.new a)).trans (ab.new (by rw[aj l.symm];exact hx))
 have e:upd (upd (upd (upd (upd H r (.lst (g.map V.str))) u (.lst (i.map V.str))) y (.lst (rooms.map V.str))) A (.lst (f.map V.ref))) p (.own x) x=none:=by rw[aj l.symm];exact hx
 refine⟨x,p,r,u,y,A,f,g,i,rooms,U,rfl,aa,⟨?_,?_,?_,?_,T.ds.kt (ab.kt I)⟩,m,fun Y M ex=>⟨rfl,k x Y M fun b o q=>?_⟩⟩
 ·exact kp (kp (kp (kp (kp aa v) n) j) a) e
 ·exact kp (kp (kp (kp aa n) j) a) e
 ·exact kp (kp (kp aa j) a) e
 ·exact kp (kp aa a) e
 ·have hq:=I _ _ q;exact ex _ _ hq (ae (G.trans (ab.new a) _ _ q) e)
def c8(ds:List ah):List Str:=(ds.filter fun d=>!iU d).map (·.a)
theorem k7(e:List ah)(r:Str):eg e r=decide (r∉c8 e):=by
 unfold eg c8 bJ;rw[pO,yQ,decide_eq_true_iff];constructor
 ·intro h z;obtain⟨d,a,rfl⟩:=aE.mp z;rw[bW]at a;have:=h d (bW.mpr ⟨a.1,zzr1 rfl⟩);rw[this]at a;exact absurd a.2 (by decide)
 ·intro h d a;rw[bW]at a;cases q:iU d with
  |true=>rfl
  |false =>
   refine absurd (aE.mpr ⟨d,bW.mpr ⟨a.1,by rw[q];rfl⟩,?_⟩) h;exact of_decide_eq_true a.2
theorem uq{w:Str}{a:Zb}:dh w∈a.map dh↔w∈a:=by
 constructor
 ·intro h;obtain⟨x,hx,e⟩:=aE.mp h;rw[<-qv e];exact hx
 ·exact fQ
def y9(K:Za)(C_Machine:Addr)(sp_Machine_rooms:Sp)(sp_Machine_led_from:Sp):TS :=
 au (aT (r9) U2)
 (au (eA (bG K V1) U3 (cJ (tB (mV K V3 V2)) (au (mB V2 V3 (tC (.bl true)))
 (eA (bG K (bZ C_Machine "led_from" sp_Machine_led_from [] E0 V0 (aB V3))) U4 (mB V2 V4 (tC (.bl true))))) (bB)))
 (bo (eM (Eo K) (aB (cN 1 [2] (bG K (bZ C_Machine "rooms" sp_Machine_rooms [] E0 V0 aY)) U0 (tB (Fq K V0 V1)) V0)))))
def Ar:List Str:=["M","rooms","found","room","led"]
def tJ(K:Za):TS :=
 bo (eM (dE K) (aB (tO K V0 "own_rooms")))
def t6:List Str:=["self"]
def oP(K:Za):TS :=
 bo (eM (dE K) (aB (vh K (tO K V0 "still_led") V1 (bP (aY)))))
def pq:List Str:=["self","room"]
def tK(K:Za):TS :=
 bo (eM (dE K) (aB (vh K (tO K V0 "sign_goals") (bP (aO V1 V2)) (bP (aY)))))
def t7:List Str:=["self","room","sign"]
def u1(K:Za):TS :=
 au (aT (eM (dE K) (aB V1)) U2)
 (au (aT (tC (.int 0)) U3)
 (au (u7 (aS (aD JW V3 (eM (fH K) (aB V2)))) (au (eA (bG K V0) (jk K 3 (bx U4 (bx U5 (bx U6 (iW))))) (cJ (nQ (aS (aD (kG K) V4 (aD (hW K) V2 V3))) (nQ (aS (aD (kG K) V5 (bP (aB (tC (.str "still")))))) (aS (aD (ii K true) V6 V2)))) (cM (vi K "list" dX V2 (aB V6))) (bB)))
 (aT (aD fZ V3 (tC (.int 1))) U3)))
 (bo V2)))
def v8:List Str:=["doors","rooms","found","at","room","sign","other"]
inductive fX(C:Addr)(vs:List V)(H:Hp)(Q:VK)(E:XK):Prop
 |mk (x:Addr) (J0 J2 rooms:Zb) (ds:List ah):(vs=[.ref x])->(bc C H x J0 J2 rooms ds)->(∀l,H l=none->Q (.ref l) (upd H l (.lst (rooms.map V.str))))->fX C vs H Q E
theorem HC{K:Za}{C:Addr}(M:MC K C){a:List V}{H:Hp}{Q:VK}{E:XK}(h:fX C a H Q E):tJ K (bN Q) (start t6 a) H:=by
 obtain⟨x,n,o,rooms,p,rfl,h,k⟩:=h;obtain⟨f,fs,q,r,e,s,t,u,v,w,y,g,i,j,l,a1,a2,a3,z,A,B,m,D,G,I,J,N,L,_⟩:=h.at_;exact⟨_,rfl,x,C,f,fs,.ref e,rfl,l,M.cls,M.a3,m,.inl ⟨e,_,rfl,.inl (ay.of L.a3),k⟩⟩
theorem Bz:∀{L:Zb},L.Nodup->(bq L).map (fun a=>kV a.1)=L.map V.str:=by
 intro L;refine kB (fun L=>L.Nodup->(bq L).map (fun a=>kV a.1)=L.map V.str) (fun _=>rfl) (fun f w g e=>?_) L;rw[dk]at e;have h:c6 (bq f) (.inr w)=none:=by
  rw[vA,if_neg (fun z=>e.2.2 w z w (by simp) rfl)]
 show(bq (f++[w])).map _=_;rw[eQ,qD _ h,ar,g e.1,ar]
 rfl
inductive iR(C:Addr)(vs:List V)(H:Hp)(Q:VK)(E:XK):Prop
 |mk (x:Addr) (r:Str) (J0 J2 rooms:Zb) (ds:List ah):(vs=[.ref x,.str r])->(bc C H x J0 J2 rooms ds)->(r∈rooms)->(∀(l:Addr) (L:Zb) (H':Hp),H' l=some (.lst (L.map V.str))->L.Nodup->(∀w,w∈L↔Reach ds r w)->H l=none->ab H H'->Q (.ref l) H')->iR C vs H Q E
theorem Be{K:Za}{C:Addr}(M:MC K C){j:List V}{H:Hp}{Q:VK}{E:XK}(h:iR C j H Q E):oP K (bN Q) (start pq j) H:=by
 obtain⟨x,r,N,O,rooms,T,rfl,h,t,k⟩:=h;obtain⟨u,fs,U,Y,o3,o4,lv,qu,sg,m,ts,v,w,g,y,a1,a2,a3,a4,b1,b2,b3,b4,b5,b6,b7,z,L,c1,c2,c3,c4,G,n,o,A⟩:=h.at_;have i:=h.ok.okR.1;obtain⟨⟨p,a⟩,f,B⟩:=aE.mp (show r∈g.map (·.1) by rw[n];exact t);obtain rfl:p=r:=B;obtain⟨D,I,q,J⟩:=A _ f;refine⟨_,rfl,x,C,u,fs,.ref m,rfl,y,M.cls,M.a8,z,m,rfl,.inl ⟨_,.inl o⟩,_,rfl,(by show 0<=ak;decide),fun et e=>⟨_,.inl ⟨_,.inr p,.inl (kp o e),rfl,rfl⟩,?_⟩⟩;rw[fD ji (by rw[n];exact i) f];refine .inr ⟨a,_,rfl,.inl (kp I e),fun l s=>k l D _ ?_ q J ((ab.new e).free s) ((ab.new e).trans (ab.new s))⟩;rw[aa,Bz q]
theorem Reach.trans{ds:List ah}{a b c:Str}(e:Reach ds a b)(f:Reach ds b c):Reach ds a c:=by
 induction f with
 |one h=>exact .step e h
 |step r h g=>exact .step g h
def gL(ds:List ah)(gs:Zb)(w:Str):Prop:=∃g∈gs,w=g∨Reach ds g w
theorem gL.in_{a:List ah}{e rooms:Zb}{w:Str}(f:∀g∈e,g∈rooms)(i:∀d∈a,d.b∈rooms)(h:gL a e w):w∈rooms:=by
 obtain⟨g,j,rfl|h2⟩:=h
 ·exact f _ j
 ·exact h2.in_ i
def tW(F:Zb)(w:Str):List Str:=if w∈F then F else F++[w]
theorem By(F:Zb):∀e∈bq F,e.2=.bl true:=by
 refine kB (fun F=>∀e∈bq F,e.2=.bl true) (by intro e h;cases h) (fun g w f=>?_) F;intro e a;rw[eQ]at a;unfold dP at a;split at a
 ·obtain⟨x,hx,rfl⟩:=aE.mp a;split
  ·rfl
  ·exact f x hx
 ·rcases bf.mp a with h|h
  ·exact f e h
  ·have:e=(.inr w,.bl true):=by simpa using h
   rw[this]
theorem vB(F:Zb)(w:Str):dP (bq F) (.inr w) (.bl true)=bq (tW F w):=by
 unfold tW;by_cases c:w∈F
 ·rw[if_pos c];have f:((bq F).any fun a=>decide (a.1=(.inr w:cX)))=true:=by
   rw[kA,fM,zzr1 c]
  unfold dP;rw[if_pos f];have:∀l:List (cX×V),(∀a∈l,a.2=.bl true)->l.map (fun a=>if a.1=(.inr w:cX)then(a.1,V.bl true)else a)=l:=by
   intro l
   induction l with
   |nil=>intro _;rfl
   |cons x l g =>
    intro h;rw[bL,g fun a e=>h a (gC _ e)];congr 1;split
    ·rw[<-h x dz]
    ·rfl
  exact this _ (By F)
 ·rw[if_neg c,eQ]
theorem v5{F:Zb}(h:F.Nodup)(w:Str):(tW F w).Nodup:=by
 unfold tW;split
 ·exact h
 ·next c =>
  rw[dk];refine⟨h,by simp,fun a f b g e=>?_⟩;have:b=w:=by simpa using g
  exact c (by rw[<-this,<-e];exact f)
theorem Bw{F:Zb}{w y:Str}:y∈tW F w↔y∈F∨y=w:=by
 unfold tW;split
 ·next c=>exact⟨.inl,fun h=>h.elim id fun e=>by rw[e];exact c⟩
 ·rw[bf];simp
inductive sp_with_still(C:Addr)(vs:List V)(H:Hp)(Q:VK)(E:XK):Prop
 |mk (x l:Addr) (gs J0 J2 rooms:Zb) (ds:List ah):(vs=[.ref x,.ref l])->(bc C H x J0 J2 rooms ds)->(H l=some (.lst (gs.map V.str)))->((∀g∈gs,g∈rooms))->(∀(t:Addr) (F:Zb) (H':Hp),H' t=some (.tup ((rooms.filter fun r=>decide (r∈F)).map V.str))->(∀w,w∈F↔gL ds gs w)->ab H H'->Q (.ref t) H')->sp_with_still C vs H Q E
theorem wI{K:Za}{C:Addr}{B:List V}{H:Hp}{Q:VK}{E:XK}(h:sp_with_still C B H Q E):y9 K C (fX C) (iR C) (bN Q) (start Ar B) H:=by
 obtain⟨x,l,gs,J0,J2,rooms,D,rfl,M,hl,hg,k⟩:=h;have O:∀d∈D,d.b∈rooms:=fun d hd=>(M.ok.good d hd).b;have z3:=M.ok.rooms26;refine fun d hd=>?_;refine⟨_,rfl,l,rfl,⟨_,ay.of (kp hl hd)⟩,?_⟩
 let a5:Nat->L2.St->Hp->Prop:=fun i σ a=>Lf fun(F:Zb) (x3 x4:Option V)=>KH (σ=[some (.ref x),some (.ref l),some (.ref d),x3,x4]) (a d=some (.dK (bq F))) (ab H a) (F.Nodup) (∀w,w∈F↔gL D (gs.take i) w)
 refine bw (xs:=gs.map V.str) a5
  ⟨[],_,_,rfl,aa,ab.new hd,rJ,fun w=>⟨fun h=>(by cases h),fun⟨g,h,_⟩=>(by cases h)⟩⟩ (fun i σ a _ zq=>by obtain⟨_,_,_,_,_,S,_,_⟩:=zq;exact ay.of (S _ _ hl)) ?_ ?_
 ·rintro i y σ G hi ⟨F,x3,x4,rfl,p,S1,nd,T⟩;obtain⟨r,hr,rfl⟩:=bh hi;have ap:r∈rooms:=hg r (bX hr);have as:∀w∈F,w∈rooms:=fun w hw=>((T w).mp hw).in_ (fun g hg'=>hg g (jw hg')) O;refine⟨_,rfl,_,rfl,d,_,rfl,.inl ⟨_,.inr r,.inl p,rfl,rfl⟩,_,rfl,?_⟩;rw[fM];have s:∀w,gL D (gs.take (i+1)) w↔(gL D (gs.take i) w∨w=r∨Reach D r w):=by
   intro w;rw[take_snoc hr];constructor
   ·rintro⟨g,hg',h⟩;rcases bf.mp hg' with hg'|hg'
    ·exact .inl ⟨g,hg',h⟩
    ·have:g=r:=by simpa using hg'
     subst this;exact .inr h
   ·rintro(⟨g,hg',h⟩|h)
    ·exact⟨g,cu _ hg',h⟩
    ·exact⟨r,cQ _ (by simp),h⟩
  by_cases c:r∈F
  ·rw[zzr1 c];refine bd ⟨F,_,_,rfl,p,S1,nd,fun w=>?_⟩;rw[s,T];refine⟨.inl,fun h=>h.elim id fun h=>?_⟩;obtain⟨g,hg',hgr⟩:=(T r).mp c;rcases h with h|h
   ·rw[h];exact⟨g,hg',hgr⟩
   ·refine⟨g,hg',.inr ?_⟩;rcases hgr with e|hgr
    ·rw[<-e];exact h
    ·exact hgr.trans h
  ·rw[zzr0 c];refine bU ?_;have m:∀{F:Zb},F.Nodup->(∀w∈F,w∈rooms)->(bq F).length<ak:=fun nd hs=>aq (bI (lq _) (bI (jH nd hs) (by omega)));refine⟨_,rfl,_,rfl,d,_,rfl,.inl ⟨_,.inr r,p,rfl,m nd as,rfl⟩,?_⟩;rw[vB];have U:ab H (upd G d (.dK (bq (tW F r)))):=fun b o q=>by rw[aj (ae q hd)];exact S1 _ _ q
   have n:upd G d (.dK (bq (tW F r))) d=some (.dK (bq (tW F r))):=aa;generalize upd G d (.dK (bq (tW F r)))=H2 at U n ⊢;have M2:=M.same U;obtain⟨dx,fs,o1,o2,o3,o4,lv,qu,sg,sl,ts,a6,a7,a8,g1,a1,a2,a3,a4,_⟩:=M2.at_;refine⟨_,rfl,x,dx,fs,rfl,g1,a3,_,rfl,x,r,J0,J2,rooms,D,rfl,M2,ap,fun ll L H3 aC b1 hL Y S3=>⟨ll,rfl,⟨_,ay.of aC⟩,?_⟩⟩;have a9:=S3 _ _ n;have b2:H ll=none:=U.free Y;have bb:ll≠d:=fun z=>by rw[z,n]at Y;cases Y
   let bi:Nat->L2.St->Hp->Prop:=fun j σ a=>GL fun(I:Zb) (x4:Option V)=>Lg (σ=[some (.ref x),some (.ref l),some (.ref d),some (.str r),x4]) (a d=some (.dK (bq I))) (a ll=some (.lst (L.map V.str))) (ab H a) (I.Nodup) (∀w,w∈I↔(gL D (gs.take i) w∨w=r∨w∈L.take j))
   refine bw (xs:=L.map V.str) bi
    ⟨tW F r,_,rfl,a9,aC,U.trans S3,v5 nd r,fun w=>?_⟩ (fun j σ a _ zq=>by obtain⟨_,_,_,_,h,_,_,_⟩:=zq;exact ay.of h) ?_ ?_
   ·rw[Bw,T];simp
   ·rintro j y σ H4 hj ⟨I,bl,rfl,al,J,S4,A,u⟩;obtain⟨v,hv,rfl⟩:=bh hj;have an:∀w∈I,w∈rooms:=by
     intro w hw;rcases(u w).mp hw with h|h|h
     ·exact h.in_ (fun g hg'=>hg g (jw hg')) O
     ·rw[h];exact ap
     ·exact((hL w).mp (jw h)).in_ O
    refine⟨_,rfl,_,rfl,d,_,rfl,.inl ⟨_,.inr v,al,rfl,m A an,rfl⟩,tW I v,_,rfl,?_,?_,?_,v5 A v,fun w=>?_⟩
    ·rw[aa,vB]
    ·rw[aj bb];exact J
    ·intro b o q;rw[aj (ae q hd)];exact S4 _ _ q
    ·rw[Bw,u,take_snoc hv,bf];simp only[cA];constructor
     ·rintro((h|h|h)|h)
      ·exact .inl h
      ·exact .inr (.inl h)
      ·exact .inr (.inr (.inl h))
      ·exact .inr (.inr (.inr h))
     ·rintro(h|h|h|h)
      ·exact .inl (.inl h)
      ·exact .inl (.inr (.inl h))
      ·exact .inl (.inr (.inr h))
      ·exact .inr h
   ·rintro σ H4 ⟨I,bl,rfl,al,J,S4,A,u⟩;rw[ai,bp]at u;refine⟨I,_,_,rfl,al,S4,A,fun w=>?_⟩;rw[s,u,hL]
 ·rintro σ G ⟨F,x3,x4,rfl,p,S1,nd,T⟩;rw[ai,bp]at T;have M1:=M.same S1;obtain⟨dx,fs,o1,o2,o3,o4,lv,qu,sg,sl,ts,a6,a7,a8,g1,a1,a2,a3,a4,_⟩:=M1.at_;refine⟨_,rfl,x,dx,fs,rfl,g1,a4,x,J0,J2,rooms,D,rfl,M1,fun rl a0=>⟨rl,rfl,⟨_,ay.of aa⟩,fun f hf=>?_⟩⟩;have U:ab H (upd G rl (.lst (rooms.map V.str))):=S1.trans (ab.new a0);have n:upd G rl (.lst (rooms.map V.str)) d=some (.dK (bq F)):=kp p a0;have N:upd G rl (.lst (rooms.map V.str)) rl=some (.lst (rooms.map V.str)):=aa;generalize upd G rl (.lst (rooms.map V.str))=H2 at U n N hf ⊢
  let bn:Nat->List V->Hp->Prop:=fun i B a=>B=((rooms.take i).filter fun r=>decide (r∈F)).map V.str/\ab H2 a/\a f=some (.lst B)
  refine bQ (xs:=rooms.map V.str) bn ⟨rfl,ab.new hf,aa⟩ (fun i B a _ zq=>by obtain⟨_,S,h'⟩:=zq;exact⟨h',ay.of (S _ _ N)⟩) ?_ ?_
  ·rintro B a ⟨rfl,S,f'⟩;rw[ai,bp]at f';exact⟨f,_,rfl,.inl ⟨ay.of f',fun t ht=>k t F _ aa T (U.trans (S.trans (ab.new ht)))⟩⟩
  ·rintro i B a x' b0 hi ⟨rfl,S,f'⟩;obtain⟨r,hr,rfl⟩:=bh b0;refine gN ?_;refine⟨_,rfl,_,rfl,d,_,rfl,.inl ⟨_,.inr r,.inl (S _ _ n),rfl,rfl⟩,_,rfl,?_⟩;rw[fM];have m:(((rooms.take i).filter fun r=>decide (r∈F)).map V.str).length<ak:=by
    rw[ai];refine aq (bI (b_ _ _) ?_);rw[aX];omega
   refine l6 (fun hq=>?_) (fun hq=>?_)
   ·refine⟨_,rfl,f',m,kL hi ⟨?_,?_,aa⟩⟩
    ·rw[dB hr,if_pos hq,ar];rfl
    ·intro b o q;rw[aj (ae q hf)];exact S _ _ q
   ·refine kL hi ⟨?_,S,f'⟩;rw[dB hr,if_neg hq,dS]
inductive iQ(K:Za)(vs:List V)(H:Hp)(Q:VK)(E:XK):Prop
 |mk (l4 l:Addr) (ts:Ze) (ds:List ah) (gs rooms:Zb):(vs=[.ref l4,.ref l])->(H l4=some (.lst (ts.map V.ref)))->(dg H ts ds)->(H l=some (.lst (gs.map V.str)))->((∀d∈ds,d.b∈rooms))->(rooms.length<=1000)->(gs.length<=1000)->(∀(f:Addr) (F:Zb) (H':Hp),H' f=some (.lst (F.map V.str))->(∀w,w∈F↔gL ds gs w)->F.length<=2000->H f=none->ab H H'->Q (.ref f) H')->iQ K vs H Q E
structure SO(H0 H:Hp)(ds:List ah)(gs:Zb)(f:Addr)(X:Zb):Prop where
 f:H f=some (.lst ((gs++X).map V.str))
 same:ab H0 H
 nd:X.Nodup
 new:∀y∈X,y∉gs
 sound:∀y∈X,gL ds gs y
theorem gL.step{ds:List ah}{f:Zb}{a b:Str}(h:gL ds f a)(e:(⟨a,ao,b⟩:ah)∈ds):gL ds f b:=by
 obtain⟨g,i,rfl|h⟩:=h
 ·exact⟨_,i,.inr (.one e)⟩
 ·exact⟨g,i,.inr (.step h e)⟩
theorem eI(a b:Zb):decide (fT a=fT b)=decide (a=b):=by
 by_cases e:a=b
 ·rw[zzr1 e,zzr1 (by rw[e])]
 ·rw[zzr0 e,zzr0 (fun z=>e (EH z))]
inductive SoI(l4 l f:Addr)(at_:Int)(H:Hp)(ds:List ah)(gs X:Zb)(here:Str)(j:Nat)(σ:L2.St)(H':Hp):Prop
 |mk (X' Y:Zb) (x y z:Option V):σ=[some (.ref l4),some (.ref l),some (.ref f),some (.int at_),x,y,z]->X'=X++Y->SO H H' ds gs f X'->(∀d∈ds.take j,d.a=here->d.sg=ao->d.b∈gs++X')->SoI l4 l f at_ H ds gs X here j σ H'
theorem Bc{K:Za}{vs:List V}{H:Hp}{Q:VK}{E:XK}(h:iQ K vs H Q E):u1 K (bN Q) (start v8 vs) H:=by
 obtain⟨l4,l,ts,ds,p,rooms,rfl,h4,an,hl,a7,hz,b3,k⟩:=h;refine⟨_,rfl,.inl ⟨l,_,rfl,.inl (ay.of hl),fun f hf=>?_⟩⟩;have L:∀{X:Zb},X.Nodup->(∀y∈X,y∉p)->(∀y∈X,gL ds p y)->X.length<=rooms.length:=fun nd nw sd=>jH nd fun y hy=>by
  obtain⟨g,hg,e|h⟩:=sd y hy
  ·exact absurd (by rw[e];exact hg) (nw y hy)
  ·exact h.in_ a7
 refine⟨fun m σ H'=>∃(X:Zb) (at_:Nat) (x y z:Option V),σ=[some (.ref l4),some (.ref l),some (.ref f),some (.int at_),x,y,z]/\SO H H' ds p f X/\at_<=(p++X).length/\(∀i y,i<at_->(p++X)[i]?=some y->∀c,(⟨y,ao,c⟩:ah)∈ds->c∈p++X)/\m=p.length+rooms.length-at_,
  ⟨_,[],0,_,_,_,rfl,⟨by rw[dS];exact aa,ab.new hf,rJ,by simp,by simp⟩,c_ _,fun i y h=>by omega,rfl⟩,?_⟩
 rintro m σ H1 ⟨X,at_,x4,x5,x6,rfl,D,b4,ap,rfl⟩;have b5:=L D.nd D.new D.sound;refine⟨_,rfl,_,rfl,.inl ⟨f,_,rfl,.inl (ay.of D.f),_,_,rfl,rfl,_,rfl,?_⟩⟩;refine l6 (fun N=>?_) (fun N=>?_)
 ·have B:at_<(p++X).length:=by
   have:=of_decide_eq_true N;rw[ai]at this;omega
  have b0:at_<p.length+rooms.length:=by rw[aA]at B;omega
  generalize O:(p++X)[at_]=here;have I:(p++X)[at_]?=some here:=by rw[<-O];exact iY B
  have T:∀{Y:Zb}{y:Str},(∀y∈Y,gL ds p y)->y∈p++Y->gL ds p y:=fun sd hy=>by
   rcases bf.mp hy with hy|hy
   ·exact⟨_,hy,.inl rfl⟩
   ·exact sd _ hy
  refine⟨fun σ' H'=>∃(M:Zb) (x y z:Option V),σ'=[some (.ref l4),some (.ref l),some (.ref f),some (.int ((at_+1:Nat):Int)),x,y,z]/\SO H H' ds p f M/\at_+1<=(p++M).length/\(∀i y,i<at_+1->(p++M)[i]?=some y->∀c,(⟨y,ao,c⟩:ah)∈ds->c∈p++M),
   fun σ' H' ⟨M,x,y,z,e,D',h1,h2⟩=>⟨_,(by omega:p.length+rooms.length-(at_+1)<p.length+rooms.length-at_),M,at_+1,x,y,z,e,D',h1,h2,rfl⟩,?_⟩
  refine⟨_,rfl,l4,rfl,⟨_,ay.of (D.same _ _ h4)⟩,?_⟩;refine bw (xs:=ts.map V.ref) (SoI l4 l f at_ H ds p X here)
   ⟨X,[],_,_,_,rfl,by simp,D,by simp⟩ (fun j σ H' _ zq=>by obtain⟨_,_,_,_,_,_,_,D',_⟩:=zq;exact ay.of (D'.same _ _ h4)) ?_ ?_
  ·rintro j y σ H2 hj ⟨M,Y,a8,a9,bb,rfl,rfl,C,v⟩;obtain⟨t,ht,rfl⟩:=cg hj;obtain⟨u,as,aC⟩:=Paired.getL an ht;obtain⟨s,bi,bl⟩:=aC.kt (ab.kt C.same);have a0:=bX as;have b1:=L C.nd C.new C.sound;have U:(p++(X++Y))[at_]?=some here:=by
    rw[<-d_,rL B];exact I
   refine⟨t,_,rfl,br.of bi,rfl,_,_,rfl,_,_,rfl,_,_,rfl,rfl,?_⟩;have A:∀(H3:Hp) (X3 Y3:Zb) (q4 q5 q6:Option V),X3=X++Y3->SO H H3 ds p f X3->(∀y∈X++Y,y∈X3)->(u.a=here->u.sg=ao->u.b∈p++X3) ->
     SoI l4 l f at_ H ds p X here (j+1) [some (.ref l4),some (.ref l),some (.ref f),some (.int at_),q4,q5,q6] H3:=by
    intro H3 X3 Y3 q4 q5 q6 e G a4 a5;refine⟨X3,Y3,q4,q5,q6,rfl,e,G,fun d hd e1 e2=>?_⟩;rw[take_snoc as]at hd;rcases bf.mp hd with hd|hd
    ·rcases bf.mp (v d hd e1 e2)with h|h
     ·exact cu _ h
     ·exact cQ _ (a4 _ h)
    ·have:d=u:=by simpa using hd
     subst this;exact a5 e1 e2
   refine⟨_,rfl,_,rfl,_,rfl,.inl ⟨f,_,_,_,rfl,rfl,ay.of C.f,cn (j:=at_) (by rw[cS,U];rfl),dh u.a,dh here,mM _,mM _,(by show 0<=8;decide),(by show 0<=8;decide),_,rfl,?_⟩⟩;rw[Kv];by_cases c1:u.a=here;rotate_left
   ·rw[zzr0 c1];exact bd (bd (A H2 _ _ _ _ _ rfl C (fun _ h=>h) fun e=>absurd e c1))
   rw[zzr1 c1];refine bU ?_;refine⟨_,rfl,(by show 1<=ak;decide),fun st J=>⟨fT u.sg,fT ao,aW (br.of (kp bl J)),aW (br.of aa),by rw[bz];decide,by rw[bz];decide,_,rfl,?_⟩⟩;rw[eI];have G:SO H (upd H2 st (.tup [.str "still"])) ds p f (X++Y):=⟨kp C.f J,C.same.trans (ab.new J),C.nd,C.new,C.sound⟩;have b2:H st=none:=C.same.free J;generalize upd H2 st (.tup [.str "still"])=H3 at G ⊢;by_cases c2:u.sg=ao;rotate_left
   ·rw[zzr0 c2];exact bd (bd (A H3 _ _ _ _ _ rfl G (fun _ h=>h) fun _ e=>absurd e c2))
   rw[zzr1 c2];refine bU ?_;refine⟨_,rfl,_,rfl,dh u.b,(p++(X++Y)).map dh,f,_,mM _,rfl,.inl (ay.of G.f),gu _,(by show 0<=8;decide),by rw[f8];decide,_,rfl,?_⟩;rw[if_pos rfl];by_cases c3:u.b∈p++(X++Y)
   ·rw[zzr1 (uq.mpr c3)];exact bd (A H3 _ _ _ _ _ rfl G (fun _ h=>h) fun _ _=>c3)
   rw[zzr0 (fun z=>c3 (uq.mp z))];refine bU ?_;refine⟨_,rfl,.inl ⟨rfl,_,ay.of G.f⟩,_,rfl,f,_,_,rfl,rfl,G.f,by rw[ai,aA];exact ig (by omega),?_⟩;have al:(⟨here,ao,u.b⟩:ah)∈ds:=by
    have:u=⟨here,ao,u.b⟩:=by cases u;simp only at c1 c2;rw[c1,c2]
    rw[<-this];exact a0
   refine A _ (X++(Y++[u.b])) _ _ _ _ rfl ⟨?_,?_,?_,?_,?_⟩ ?_ ?_
   ·rw[aa];have:p++(X++(Y++[u.b]))=p++(X++Y)++[u.b]:=by simp
    rw[this,ar (l₂:=[u.b])]
    rfl
   ·intro b o q;rw[aj (ae q hf)];exact G.same _ _ q
   ·rw[<-d_,dk];refine⟨G.nd,by simp,fun a ha b hb e=>?_⟩;have:b=u.b:=by simpa using hb
    exact c3 (cQ _ (by rw[<-this,<-e];exact ha))
   ·intro y hy;rw[<-d_]at hy;rcases bf.mp hy with hy|hy
    ·exact G.new y hy
    ·have:y=u.b:=by simpa using hy
     rw[this];exact fun z=>c3 (cu _ z)
   ·intro y hy;rw[<-d_]at hy;rcases bf.mp hy with hy|hy
    ·exact G.sound y hy
    ·have:y=u.b:=by simpa using hy
     rw[this];exact(T D.sound (bX I)).step al
   ·intro y hy;rw[<-d_];exact cu _ hy
   ·intro _ _;exact cQ _ (by simp)
  ·rintro σ H2 ⟨M,Y,a8,a9,bb,rfl,rfl,C,v⟩;rw[ai,Paired.length an,bp]at v;refine⟨_,rfl,_,_,rfl,rfl,X++Y,_,_,_,rfl,C,?_,fun i y hi hy c hc=>?_⟩
   ·rw[<-d_,aA];omega
   ·by_cases e:i=at_
    ·subst e;rw[<-d_,rL B,I]at hy;have:=fW hy;subst this;exact v _ hc rfl rfl
    ·have bn:i<at_:=by omega
     rw[<-d_,rL (by omega)]at hy;have:=ap i y bn hy c hc;rw[<-d_];exact cu _ this
 ·have a6:at_=(p++X).length:=by
   have:¬(at_<(p++X).length):=fun z=>N (zzr1 (by rw[ai];omega));omega
  refine⟨_,rfl,k f (p++X) H1 D.f (fun w=>⟨fun hw=>?_,fun hw=>?_⟩) (by rw[aA];omega) hf D.same⟩
  ·rcases bf.mp hw with hw|hw
   ·exact⟨_,hw,.inl rfl⟩
   ·exact D.sound _ hw
  ·have closed:∀y∈p++X,∀c,(⟨y,ao,c⟩:ah)∈ds->c∈p++X:=fun y hy c hc=>by
    obtain⟨n,hn⟩:=oq hy;exact ap n y (by rw[a6];exact(bM.mp hn).1) hn c hc
   obtain⟨g,hg,rfl|h⟩:=hw
   ·exact cu _ hg
   ·induction h with
    |one e=>exact closed _ (cu _ hg) _ e
    |step r e ih=>exact closed _ ih _ e

theorem Bj(a:List ah)(d:ah):(qE a d).length<=a.length+1:=by
 unfold qE;split
 ·omega
 ·rw[aA];exact aR _
def cV(ds:List ah)(sg:Zb)(face:Zb):List Str:=face.flatMap fun r=>aF ds (r,sg)
theorem wR{a:List ah}{e face:Zb}{i:Nat}{r:Str}(h:face[i]?=some r):cV a e (face.take (i+1))=cV a e (face.take i)++aF a (r,e):=by
 unfold cV;rw[take_snoc h,oo];simp
theorem tz(a:List ah)(x:Str×List Str):(aF a x).length<=a.length:=by
 unfold aF;rw[ai];exact b_ _ _
theorem qO(a:List ah)(e:Zb):∀face:List Str,(cV a e face).length<=face.length * a.length
 |[]=>c_ _
 |r::face=>by
  show((aF a (r,e))++cV a e face).length<=(face.length+1) * a.length;rw[aA,Nat.succ_mul];have f:=tz a (r,e);have g:=qO a e face;omega
theorem cj{e:List ah}{f face:Zb}{b:Str}:b∈cV e f face↔∃r∈face,(⟨r,f,b⟩:ah)∈e:=by
 unfold cV;rw[gp];constructor
 ·rintro⟨r,a,h⟩;exact⟨r,a,bj.mp h⟩
 ·rintro⟨r,a,h⟩;exact⟨r,a,bj.mpr h⟩
inductive qk(C:Addr)(vs:List V)(H:Hp)(Q:VK)(E:XK):Prop
 |mk (x t s:Addr) (face sg J0 J2 rooms:Zb) (ds:List ah):(vs=[.ref x,.ref t,.ref s])->(bc C H x J0 J2 rooms ds)->(H t=some (.tup (face.map V.str)))->(H s=some (.tup (sg.map V.str)))->(sg≠az)->(face.length<=1000)->(∀(t':Addr) (F:Zb) (H':Hp),H' t'=some (.tup ((rooms.filter fun r=>decide (r∈F)).map V.str))->(∀w,w∈F↔gL ds (cV ds sg face) w)->ab H H'->Q (.ref t') H')->qk C vs H Q E
theorem gW{a:List ah}{i:Nat}{d:ah}{p:ah->Bool}(h:a[i]?=some d):(a.take (i+1)).filter p=(a.take i).filter p++(if p d=true then[d]else[]):=by
 rw[take_snoc h,gQ];congr 1;by_cases c:p d=true
 ·rw[if_pos c];simp[c]
 ·rw[if_neg c];simp[c]
def zi(K:Za)(sp_with_still:Sp)(C_Machine:Addr)(sp_Machine_rooms:Sp):TS :=
 bo (aL sp_with_still (aO V0 (Cc (qA K) (bZ C_Machine "rooms" sp_Machine_rooms [] E0 V0 aY) (eU) (iP (tC (.int 1))))))
def Aw:List Str:=["M"]
inductive fj(C:Addr)(vs:List V)(H:Hp)(Q:VK)(E:XK):Prop
 |mk (x:Addr) (J0 J2 rooms:Zb) (ds:List ah):(vs=[.ref x])->(bc C H x J0 J2 rooms ds)->(∀(t':Addr) (F:Zb) (H':Hp),H' t'=some (.tup ((rooms.filter fun r=>decide (r∈F)).map V.str))->(∀w,w∈F↔gL ds (rooms.take 1) w)->ab H H'->Q (.ref t') H')->fj C vs H Q E
theorem wK{K:Za}{C:Addr}{e:List V}{H:Hp}{Q:VK}{E:XK}(h:fj C e H Q E):zi K (sp_with_still C) C (fX C) (bN Q) (start Aw e) H:=by
 obtain⟨x,f,i,rooms,j,rfl,M,k⟩:=h;obtain⟨n,fs,G,I,J,L,N,O,o,T,U,p,q,r,s,a1,a2,a3,t,_⟩:=M.at_;have u:gv (rooms.map V.str) none (some 1)=(rooms.take 1).map V.str:=uz rooms 1;refine⟨_,rfl,_,rfl,x,n,fs,rfl,s,t,x,f,i,rooms,j,rfl,M,fun m a=>⟨_,rfl,m,_,rfl,ay.of aa,fun l v=>?_⟩⟩;rw[u];have S:ab H (upd (upd H m (.lst (rooms.map V.str))) l (.lst ((rooms.take 1).map V.str))):=(ab.new a).trans (ab.new v);exact⟨x,l,rooms.take 1,f,i,rooms,j,rfl,M.same S,aa,fun g w=>jw w,fun y F z A B D=>k y F z A B (S.trans D)⟩
theorem uw(o:Str)(L:Zb):decide (dh o∈L.map dh)=decide (o∈L):=by
 by_cases c:o∈L
 ·rw[zzr1 (uq.mpr c),zzr1 c]
 ·rw[zzr0 (fun z=>c (uq.mp z)),zzr0 c]
theorem br.same{K:Za}{H e:Hp}{a:Addr}{f:List V}(S:ab H e)(h:br K H a f):br K e a f:=by
 rcases h with(h|⟨o,h⟩)|h
 ·exact .inl (.inl (S _ _ h))
 ·exact .inl (.inr ⟨o,S _ _ h⟩)
 ·exact .inr h
theorem ay.same{K:Za}{H e:Hp}{a:Addr}{f:List V}(S:ab H e)(h:ay K H a f):ay K e a f:=by
 rcases h with(h|⟨o,h⟩)|h
 ·exact .inl (.inl (S _ _ h))
 ·exact .inl (.inr ⟨o,S _ _ h⟩)
 ·exact .inr h
mutual
theorem iK.same{K:Za}{H g:Hp}(S:ab H g):∀{d:DT}{v:V},iK K H d v->iK K g d v
 |.k a,v,h=>by unfold iK at h ⊢;exact h
 |.t l,v,h=>by
  unfold iK at h ⊢;obtain⟨b,f,e,q,r⟩:=h;exact⟨b,f,e,br.same S q,DIns.same S r⟩
 |.s l,v,h=>by
  unfold iK at h ⊢;obtain⟨b,f,e,q,r⟩:=h;exact⟨b,f,e,ay.same S q,DIns.same S r⟩
theorem DIns.same{K:Za}{H g:Hp}(S:ab H g):∀{f:List DT}{a:List V},DIns K H f a->DIns K g f a
 |[],a,h=>by unfold DIns at h ⊢;exact h
 |d::f,a,h=>by
  unfold DIns at h ⊢;obtain⟨v,i,e,q,r⟩:=h;exact⟨v,i,e,iK.same S q,DIns.same S r⟩
end
theorem DIns.get{K:Za}{H:Hp}:∀{f:List DT}{a:List V}{i:Nat}{v:V},DIns K H f a->a[i]?=some v->∃d,f[i]?=some d/\iK K H d v
 |[],a,i,v,h,e=>by unfold DIns at h;subst h;simp at e
 |d::f,a,i,v,h,e=>by
  unfold DIns at h;obtain⟨l,m,rfl,q,r⟩:=h;cases i with
  |zero=>simp at e;subst e;exact⟨d,rfl,q⟩
  |succ i =>
   simp at e;obtain⟨g,j,k⟩:=DIns.get r e;exact⟨g,by simpa using j,k⟩
theorem DIns.len{K:Za}{H:Hp}:∀{e:List DT}{a:List V},DIns K H e a->a.length=e.length
 |[],a,h=>by unfold DIns at h;subst h;rfl
 |d::e,a,h=>by
  unfold DIns at h;obtain⟨f,g,rfl,q,r⟩:=h;rw[fF,fF,DIns.len r]
theorem vI{n:Nat}:∀{a:List DT}{i:Nat}{d:DT},DT.depths a<=n->a[i]?=some d->d.depth<=n
 |[],i,d,_,e=>by simp at e
 |x::a,i,d,h,e=>by
  have f:max (DT.depth x) (DT.depths a)<=n:=h;cases i with
  |zero=>simp at e;subst e;omega
  |succ i=>simp at e;exact vI (by omega) e
theorem Kt{l:List DT}{n:Nat}(h:(DT.t l).depth<=n+1):DT.depths l<=n:=by
 have:DT.depths l+1<=n+1:=h;omega
theorem Ku{l:List DT}{n:Nat}(h:(DT.s l).depth<=n+1):DT.depths l<=n:=by
 have:DT.depths l+1<=n+1:=h;omega
theorem IN{l:List DT}{n:Nat}(h:(DT.t l).depth<=n):1<=n:=by
 have:DT.depths l+1<=n:=h;omega
theorem IP{l:List DT}{n:Nat}(h:(DT.s l).depth<=n):1<=n:=by
 have:DT.depths l+1<=n:=h;omega
inductive Kd(K:Za)(H:Hp):DT->V->Prop
 |int (i:Int):Kd K H (.k (.inl i)) (.int i)
 |str (x:Str):Kd K H (.k (.inr x)) (.str x)
 |tup {a:Addr}{xs:List V}{l:List DT}(q:br K H a xs) (r:DIns K H l xs):Kd K H (.t l) (.ref a)
 |lst {a:Addr}{xs:List V}{l:List DT}(q:ay K H a xs) (r:DIns K H l xs):Kd K H (.s l) (.ref a)
theorem iK.kd{K:Za}{H:Hp}:∀{d:DT}{v:V},iK K H d v->Kd K H d v
 |.k (.inl i),v,h=>by unfold iK at h;subst h;exact .int i
 |.k (.inr x),v,h=>by unfold iK at h;subst h;exact .str x
 |.t l,v,h=>by
  unfold iK at h;obtain⟨b,a,rfl,q,r⟩:=h;exact .tup q r
 |.s l,v,h=>by
  unfold iK at h;obtain⟨b,a,rfl,q,r⟩:=h;exact .lst q r
def Hh(K:Za)(sp_law_still_on:Sp):TS :=
 au (aT (aL sp_law_still_on (aO (aD (hW K) V0 (tC (.int 3))) V1)) U2)
 (bo (eM (Eo K) (av (cN 1 [2] (bG K (aD (hW K) V0 (tC (.int 2)))) U0 (aS (aD (ii K false) V0 V1)) V0) aY)))
def Jf:List Str:=["told","some","there"]
def Fm(K:Za)(sp_face_behind:Sp)(fj:Sp):TS :=
 au (aT (aL fj (aB V0)) U2)
 (au (eA (bG K V1) U3 (aT (aL sp_face_behind (dq V0 V2 V3)) U2))
 (bo V2))
def GJ:List Str:=["M","story","face","sign"]
def Cu(K:Za)(sp_face_of:Sp):TS :=
 bo (aD wO (eM (fH K) (aB (aL sp_face_of (aO V0 V1)))) (tC (.int 0)))
def DK:List Str:=["M","story"]
open Classical in
def closF(rooms:Zb)(ds:List ah)(gs:Zb):List Str:=rooms.filter fun r=>decide (gL ds gs r)
open Classical in
theorem vT{rooms F a:Zb}{e:List ah}(f:∀w,w∈F↔gL e a w):rooms.filter (fun r=>decide (r∈F))=closF rooms e a:=by
 unfold closF;refine om fun r _=>?_;by_cases c:r∈F
 ·rw[zzr1 c,zzr1 ((f r).mp c)]
 ·rw[zzr0 c,zzr0 fun z=>c ((f r).mpr z)]
open Classical in
theorem BL{rooms i a:Zb}{f:List ah}(h:∀g,g∈i↔g∈a):closF rooms f i=closF rooms f a:=by
 have:∀r,gL f i r↔gL f a r:=fun r=>⟨fun⟨g,j,e⟩=>⟨g,(h g).mp j,e⟩,fun⟨g,j,e⟩=>⟨g,(h g).mpr j,e⟩⟩;unfold closF;refine om fun r _=>?_;by_cases c:gL f i r
 ·rw[zzr1 c,zzr1 ((this r).mp c)]
 ·rw[zzr0 c,zzr0 fun z=>c ((this r).mpr z)]
theorem sy{rooms a:Zb}{e:List ah}:∀r∈closF rooms e a,r∈rooms:=fun r h=>(bW.mp h).1
theorem nG{rooms a:Zb}{e:List ah}:(closF rooms e a).length<=rooms.length:=b_ _ _
def behF(rooms:Zb)(ds:List ah)(face sg:Zb):List Str:=if sg=az then face.filter (fun r=>decide (r∉c8 ds))else closF rooms ds (cV ds sg face)
theorem BR{rooms face a:Zb}{e:List ah}(hf:∀r∈face,r∈rooms):∀r∈behF rooms e face a,r∈rooms:=by
 intro r h;unfold behF at h;split at h
 ·exact hf r (bW.mp h).1
 ·exact sy r h
theorem Jb{rooms face a:Zb}{e:List ah}(f:rooms.length<=1000)(hf:face.length<=1000):(behF rooms e face a).length<=1000:=by
 unfold behF;split
 ·exact bI (b_ _ _) hf
 ·exact bI nG f
theorem H_{rooms:Zb}{a:List ah}{e:Zb}(f:∀r∈e,r∈rooms):(e.filter fun r=>decide (r∈rooms.filter (eg a)))=e.filter fun r=>decide (r∉c8 a):=by
 refine om fun r g=>?_;rw[<-k7];cases q:eg a r with
 |true=>exact zzr1 (bW.mpr ⟨f r g,q⟩)
 |false=>exact zzr0 (fun z=>by rw[(bW.mp z).2]at q;cases q)
inductive uj(K:Za)(C:Addr)(vs:List V)(H:Hp)(Q:VK)(E:XK):Prop
 |mk (x t s:Addr) (face sg J0 J2 rooms:Zb) (ds:List ah):(vs=[.ref x,.ref t,.ref s])->(bc C H x J0 J2 rooms ds)->(H t=some (.tup (face.map V.str)))->(br K H s (sg.map V.str))->((sg=az∨H s=some (.tup (sg.map V.str))))->((∀r∈face,r∈rooms))->(face.length<=1000)->(∀(t':Addr) (H':Hp),H' t'=some (.tup ((behF rooms ds face sg).map V.str))->ab H H'->Q (.ref t') H')->uj K C vs H Q E
inductive Bb (vs:List V)(H:Hp)(Q:VK)(E:XK):Prop
 |mk (t l l1 l2 l3 l4:Addr) (ts:Ze) (J0 J2 rooms gs:Zb) (ds:List ah):(vs=[.ref t,.ref l])->(gK H t l1 l2 l3 l4 ts J0 J2 rooms ds)->(ax J0 J2 rooms ds)->(H l=some (.lst (gs.map V.str)))->(gs.length<=1000)->(∀(t':Addr) (H':Hp),H' t'=some (.tup ((closF rooms ds gs).map V.str))->ab H H'->Q (.ref t') H')->Bb  vs H Q E
theorem Md{K:Za}{a:List V}{H:Hp}{Q:VK}{E:XK}(h:Bb a H Q E):Hh K (iQ K) (bN Q) (start Jf a) H:=by
 obtain⟨t,l,l1,l2,z,A,B,J0,J2,rooms,C,D,rfl,T,m,G,I,k⟩:=h;have z3:=m.rooms26;refine⟨_,rfl,.inr (.inl ⟨t,_,3,_,rfl,rfl,br.of T.t,rfl,_,rfl,A,l,B,D,C,rooms,rfl,T.a4,T.ds,G,fun d J=>(m.good d J).b,by omega,I,fun L F M n N O fr x=>?_⟩)⟩;have p:=T.same x;refine⟨_,rfl,.inr (.inl ⟨t,_,2,_,rfl,rfl,br.of p.t,rfl,z,rfl,⟨_,ay.of p.a3⟩,fun f hf=>?_⟩)⟩
 let s:Nat->List V->Hp->Prop:=fun i a e=>a=((rooms.take i).filter fun r=>decide (r∈F)).map V.str/\ab M e/\e f=some (.lst a)
 refine bQ (xs:=rooms.map V.str) s ⟨rfl,ab.new hf,aa⟩ (fun i a e _ U=>by obtain⟨_,S,Y⟩:=U;exact⟨Y,ay.of (S _ _ p.a3)⟩) ?_ ?_
 ·rintro a e ⟨rfl,S,g⟩;rw[ai,bp,vT N]at g;exact⟨f,_,rfl,.inl ⟨ay.of g,fun t' u=>k t' _ aa ((x.trans S).trans (ab.new u))⟩⟩
 ·rintro i a e x' v hi ⟨rfl,S,g⟩;obtain⟨r,y,rfl⟩:=bh v;refine gN ?_;refine⟨_,rfl,_,rfl,dh r,F.map dh,L,_,mM r,rfl,.inl (ay.of (S _ _ n)),gu _,(by show 0<=8;decide),by rw[f8];decide,_,rfl,?_⟩;rw[if_neg hV,uw];have j:(((rooms.take i).filter fun r=>decide (r∈F)).map V.str).length<ak:=by
   rw[ai];refine aq (bI (b_ _ _) ?_);rw[aX];omega
  refine l6 (fun w=>?_) (fun w=>?_)
  ·refine⟨_,rfl,g,j,kL hi ⟨?_,?_,aa⟩⟩
   ·rw[dB y,if_pos w,ar];rfl
   ·intro b o q;rw[aj (ae q hf)];exact S _ _ q
  ·refine kL hi ⟨?_,S,g⟩;rw[dB y,if_neg w,dS]
theorem Ds(a:List ah):DT.depths (a.map vK)<=2:=by
 induction a with
 |nil=>exact c_ _
 |cons x e f=>rw[bL];show max (DT.depth (vK x)) (DT.depths _)<=2;rw[uv];omega
theorem Fv{j k rooms:Zb}{i:ah}(g:wc j k rooms i):∃f a,i.sg=f::a/\(!decide (V.str f=V.str ("ask":Str)))=!iU i:=by
 obtain⟨f,a,h⟩:∃f a,i.sg=f::a:=by
  rcases g.sg with⟨w,_,e⟩|⟨w,_,e⟩|e<;>exact⟨_,_,e⟩
 refine⟨f,a,h,?_⟩;unfold iU;rw[h];congr 1;show _=decide (f=("ask":Str));by_cases c:f=("ask":Str)
 ·rw[zzr1 c,zzr1 (by rw[c])]
 ·rw[zzr0 c,zzr0 (fun z=>c (by injection z))]
inductive kC (vs:List V)(H:Hp)(Q:VK)(E:XK):Prop
 |mk (t l1 l2 l3 l4:Addr) (ts:Ze) (J0 J2 rooms:Zb) (ds:List ah) (r:Str):(vs=[.ref t,.str r])->(gK H t l1 l2 l3 l4 ts J0 J2 rooms ds)->(ax J0 J2 rooms ds)->(∀H',ab H H'->Q (.bl (decide (r∉c8 ds))) H')->kC  vs H Q E
inductive vk(K:Za)(vs:List V)(H:Hp)(Q:VK)(E:XK):Prop
 |mk (t ft s l1 l2 l3 l4:Addr) (ts:Ze) (J0 J2 rooms face sg:Zb) (ds:List ah):(vs=[.ref t,.ref ft,.ref s])->(gK H t l1 l2 l3 l4 ts J0 J2 rooms ds)->(ax J0 J2 rooms ds)->(H ft=some (.tup (face.map V.str)))->(br K H s (sg.map V.str))->(face.length<=1000)->(∀(t':Addr) (H':Hp),H' t'=some (.tup ((behF rooms ds face sg).map V.str))->ab H H'->Q (.ref t') H')->vk K vs H Q E
abbrev bY(H:Hp)(us:Ze)(L:List (List Str)):Prop:=Paired (SignAt H) us L
theorem bY.kt{H H':Hp}{a:Ze}{L:List (List Str)}(k:gx H H')(h:bY H a L):bY H' a L:=Paired.mapP h fun _ _ r=>k _ _ r
theorem bY.dIns{K:Za}{H:Hp}:∀{a:Ze}{L:List (List Str)},bY H a L->DIns K H (L.map fT) (a.map V.ref)
 |_,_,.nil=>by show DIns K H [] [];unfold DIns;rfl
 |_,_,.cons r t=>by
  rw[bL,bL];unfold DIns;exact⟨_,_,rfl,aW (br.of r),bY.dIns t⟩
theorem o9(L:List (List Str)):DT.depths (L.map fT)<=1:=by
 induction L with
 |nil=>exact c_ _
 |cons x a e=>rw[bL];show max (DT.depth (fT x)) (DT.depths _)<=1;rw[bz];omega
theorem vN{K:Za}{σ:L2.St}{H:Hp}{a l:Addr}{g:Zb}{kd:Str}{Q:Hp->Prop}(v:H a=some (.lst (g.map V.str)))(A:g.length<=1000)(t:H l=none)
  (k:∀(f:Ze) (e:Hp),e l=some (.lst (f.map V.ref))->bY e f (g.map fun w=>[kd,w])->ab H e->Q e) :
  cF 1 [] σ (Ce K a) U0 i5 (bP (aO (tC (.str kd)) V0)) H l Q:=by
 let n:Nat->List V->Hp->Prop:=fun i h e=>∃f:List Addr,h=f.map V.ref/\ab H e/\e l=some (.lst h)/\bY e f ((g.take i).map fun w=>[kd,w])
 refine bQ (xs:=g.map V.str) n ⟨[],rfl,ab.new t,aa,.nil⟩ (fun i h e _ x=>by obtain⟨_,_,S,p,_⟩:=x;exact⟨p,ay.of (S _ _ v)⟩) ?_ ?_
 ·rintro h e ⟨f,rfl,S,p,j⟩;rw[ai,bp]at j;exact k f e p j S
 ·rintro i h e B r hi ⟨f,rfl,S,s,j⟩;obtain⟨w,y,rfl⟩:=bh r;refine gN (pS ?_);refine⟨_,rfl,(by show 2<=ak;decide),fun u m=>⟨kp s m,?_,kL hi ⟨f++[u],by rw[ar];rfl,?_,aa,?_⟩⟩⟩
  ·rw[ai,Paired.length j,ai,aX];exact aq (by omega)
  ·intro b o q;rw[aj (ae q t)];exact kp (S _ _ q) m
  ·rw[take_snoc y,ar];have z:gx e (upd (upd e u (.tup [.str kd,.str w])) l (.lst (f.map V.ref++[.ref u]))):=(ab.kt (ab.new m)).trans (cO (kp s m));exact ee (bY.kt z j) ((cO (kp s m)) _ _ aa)
theorem BI(a:List V)(k:Nat):gv a none (some (k:Int))=a.take k:=by
 unfold gv;rw[HT.sIx_none,HT.sIx_nat,oA,uK,List.take_eq_take_iff];omega
theorem vL(a:List V)(k:Nat):gv a (some (k:Int)) none=a.drop k:=by
 unfold gv;rw[HT.sIx_none,HT.sIx_nat,yi (by rw[ie];omega)];by_cases h:k<=a.length
 ·rw[Nat.min_eq_left h]
 ·rw[Nat.min_eq_right (by omega),oy (by simp),oy (by omega)]
theorem Paired.takeP{α β:Type}{R:α->β->Prop}:∀(n:Nat) {a:List α}{e:List β},Paired R a e->Paired R (a.take n) (e.take n)
 |0,_,_,_=>by rw[yh,yh];exact .nil
 |_+1,_,_,.nil=>.nil
 |n+1,_,_,.cons r t=>.cons r (Paired.takeP n t)
theorem Paired.dropP{α β:Type}{R:α->β->Prop}:∀(n:Nat) {a:List α}{e:List β},Paired R a e->Paired R (a.drop n) (e.drop n)
 |0,_,_,h=>h
 |_+1,_,_,.nil=>.nil
 |n+1,_,_,.cons r t=>Paired.dropP n t
def faceOf(rooms:Zb)(ds:List ah)(story:List (List Str)):List Str:=story.foldl (behF rooms ds) (closF rooms ds (rooms.take 1))
theorem gF(rooms:Zb)(e:List ah)(a:List (List Str))(f:Zb):faceOf rooms e (a++[f])=behF rooms e (faceOf rooms e a) f:=by
 unfold faceOf;rw[rj]
 rfl
theorem nE{rooms:Zb}{ds:List ah}(i:rooms.length<=1000)(a:List (List Str)):(∀r∈faceOf rooms ds a,r∈rooms)/\(faceOf rooms ds a).length<=1000:=by
 have e:∀(L:List (List Str)) (f:Zb),(∀r∈f,r∈rooms)->f.length<=1000->(∀r∈L.foldl (behF rooms ds) f,r∈rooms)/\(L.foldl (behF rooms ds) f).length<=1000:=by
  intro L
  induction L with
  |nil=>intro f g h;exact⟨g,h⟩
  |cons k L j=>intro f g h;exact j _ (BR g) (Jb i h)
 exact e a _ sy (bI nG i)
inductive sp_face_of(C:Addr)(vs:List V)(H:Hp)(Q:VK)(E:XK):Prop
 |mk (x st:Addr) (us:Ze) (story:List (List Str)) (J0 J2 rooms:Zb) (ds:List ah):(vs=[.ref x,.ref st])->(bc C H x J0 J2 rooms ds)->(H st=some (.lst (us.map V.ref)))->(bY H us story)->(∀(t':Addr) (H':Hp),H' t'=some (.tup ((faceOf rooms ds story).map V.str))->ab H H'->Q (.ref t') H')->sp_face_of C vs H Q E
theorem CV{K:Za}{C:Addr}{r:List V}{H:Hp}{Q:VK}{E:XK}(h:sp_face_of C r H Q E):Fm K (uj K C) (fj C) (bN Q) (start GJ r) H:=by
 obtain⟨x,st,A,a,s,t,rooms,ds,rfl,M,g,v,k⟩:=h;have U:=M.ok.rooms26;refine⟨_,rfl,x,s,t,rooms,ds,rfl,M,fun B F Y j D w=>?_⟩;rw[vT D]at j;refine⟨_,rfl,st,rfl,⟨_,ay.of (w _ _ g)⟩,?_⟩;refine bw (xs:=A.map V.ref) (fun i σ m=>GL fun(f:Addr) (n:Option V)=>LM (σ=[some (.ref x),some (.ref st),some (.ref f),n]) (m f=some (.tup ((faceOf rooms ds (a.take i)).map V.str))) (ab H m))
  ⟨B,_,rfl,j,w⟩ (fun i σ m _ G=>by obtain⟨_,_,_,_,S⟩:=G;exact ay.of (S _ _ g)) ?_ ?_
 ·rintro i y σ z hi ⟨f,n,rfl,hf,l⟩;obtain⟨u,I,rfl⟩:=cg hi;obtain⟨J,o,p⟩:=Paired.getL v I;have e:=l _ _ p;obtain⟨L,N⟩:=nE (ds:=ds) (show rooms.length<=1000 by omega) (a.take i);refine⟨_,rfl,_,rfl,_,rfl,x,f,u,_,J,s,t,rooms,ds,rfl,M.same l,hf,br.of e,.inr e,L,N,fun O H3 q T=>⟨O,_,rfl,?_,l.trans T⟩⟩;rw[take_snoc o,gF];exact q
 ·rintro σ z ⟨f,n,rfl,hf,l⟩;rw[ai,Paired.length v,bp]at hf;exact⟨_,rfl,k f z hf l⟩
inductive dA(C:Addr)(vs:List V)(H:Hp)(Q:VK)(E:XK):Prop
 |mk (x st:Addr) (us:Ze) (story:List (List Str)) (J0 J2 rooms:Zb) (ds:List ah):(vs=[.ref x,.ref st])->(bc C H x J0 J2 rooms ds)->(H st=some (.lst (us.map V.ref)))->(bY H us story)->(∀H',ab H H'->Q (.bl (decide (faceOf rooms ds story≠[]))) H')->dA C vs H Q E
theorem Bf{K:Za}{C:Addr}{j:List V}{H:Hp}{Q:VK}{E:XK}(h:dA C j H Q E):Cu K (sp_face_of C) (bN Q) (start DK j) H:=by
 obtain⟨x,st,l,a,m,n,rooms,g,rfl,M,i,o,k⟩:=h;refine⟨_,rfl,_,rfl,x,st,l,a,m,n,rooms,g,rfl,M,i,o,fun f p hf q=>.inl ⟨f,_,rfl,.inr (br.of hf),_,_,rfl,rfl,?_⟩⟩;have e:decide ((0:Int)<(((faceOf rooms g a).map V.str).length:Nat))=decide (faceOf rooms g a≠[]):=by
  rw[ai];by_cases c:faceOf rooms g a=[]
  ·rw[c];rfl
  ·rw[zzr1 c];have:=uE.mpr c;exact zzr1 (by omega)
 have:=k p q;rw[<-e]at this;exact this
def u6(K:Za):TS :=
 bo (eM (dE K) (aB (tO K V0 "own_asks")))
def wa:List Str:=["self"]
def u4(K:Za):TS :=
 bo (eM (dE K) (aB (tO K V0 "own_says")))
def v_:List Str:=["self"]
def mv(K:Za):TS :=
 bo (eM (dE K) (aB (vh K (tO K V0 "leaving") V1 (bP (aY)))))
def mO:List Str:=["self","room"]
def Ct(K:Za)(sp_law_behind:Sp)(sp_law_on:Sp):TS :=
 au (aT (aL sp_law_on (aO V0 (Cc (rSlA K) (aD (hW K) V0 (tC (.int 2))) (eU) (iP (tC (.int 1)))))) U2)
 (au (eA (bG K V1) U3 (aT (aL sp_law_behind (dq V0 V2 V3)) U2))
 (bo V2))
def DH:List Str:=["told","story","face","sign"]


theorem CM{C x:Addr}{H:Hp}{k l rooms:Zb}{m:List ah}(h:bc C H x k l rooms m):∃(j:Addr) (fs:List (Str×V)) (f g i:Addr) (a:List (Str×Addr)),H x=some (.ins C j fs)/\lk "asks" fs=none/\lk "says" fs=none/\lk "doors_from" fs=none/\lk "is_quiet" fs=none/\lk "own_asks" fs=some (.ref f)/\lk "own_says" fs=some (.ref g)/\lk "leaving" fs=some (.ref i) /\
  H f=some (.lst (k.map V.str))/\H g=some (.lst (l.map V.str))/\a.map (·.1)=rooms/\H i=some (.dK (fg Sum.inr a))/\(∀x∈a,∃n,H x.2=some (.lst (n.map V.ref))/\dg H n (bJ m x.1)):=by
 obtain⟨j,fs,f,g,E,I,i,J,M,N,O,a,p,q,o,a1,a2,a3,Q,r,s,T,U,t,Y,b7,b8,L,u,v,w,c4,G,d1,d2,d3⟩:=h.at_;obtain⟨y,z,e,A,B,e3,D⟩:=h.more;rw[o]at e;cases e;exact⟨j,fs,f,g,i,a,o,A,B,D,a1,r,s,t,L.a1,L.a2,u,v,w⟩
inductive jY(C:Addr)(vs:List V)(H:Hp)(Q:VK)(E:XK):Prop
 |mk (x:Addr) (J0 J2 rooms:Zb) (ds:List ah):(vs=[.ref x])->(bc C H x J0 J2 rooms ds)->(∀l,H l=none->Q (.ref l) (upd H l (.lst (J0.map V.str))))->jY C vs H Q E
theorem JV{K:Za}{C:Addr}(M:MC K C){a:List V}{H:Hp}{Q:VK}{E:XK}(h:jY C a H Q E):u6 K (bN Q) (start wa a) H:=by
 obtain⟨x,m,n,rooms,o,rfl,h,k⟩:=h;obtain⟨f,fs,e,p,q,g,i,a1,a2,a3,r,j,s,t,l,u,_⟩:=CM h;exact⟨_,rfl,x,C,f,fs,.ref e,rfl,i,M.cls,M.a1,j,.inl ⟨e,_,rfl,.inl (ay.of l),k⟩⟩
inductive jX(C:Addr)(vs:List V)(H:Hp)(Q:VK)(E:XK):Prop
 |mk (x:Addr) (J0 J2 rooms:Zb) (ds:List ah):(vs=[.ref x])->(bc C H x J0 J2 rooms ds)->(∀l,H l=none->Q (.ref l) (upd H l (.lst (J2.map V.str))))->jX C vs H Q E
theorem JO{K:Za}{C:Addr}(M:MC K C){a:List V}{H:Hp}{Q:VK}{E:XK}(h:jX C a H Q E):u4 K (bN Q) (start v_ a) H:=by
 obtain⟨x,m,n,rooms,o,rfl,h,k⟩:=h;obtain⟨f,fs,p,e,q,g,i,a1,a2,a3,r,s,j,t,u,l,_⟩:=CM h;exact⟨_,rfl,x,C,f,fs,.ref e,rfl,i,M.cls,M.a2,j,.inl ⟨e,_,rfl,.inl (ay.of l),k⟩⟩
inductive iF(C:Addr)(vs:List V)(H:Hp)(Q:VK)(E:XK):Prop
 |mk (x:Addr) (r:Str) (J0 J2 rooms:Zb) (ds:List ah):(vs=[.ref x,.str r])->(bc C H x J0 J2 rooms ds)->(r∈rooms)->(∀(l:Addr) (us:Ze) (H':Hp),H' l=some (.lst (us.map V.ref))->dg H' us (bJ ds r)->H l=none->ab H H'->Q (.ref l) H')->iF C vs H Q E
theorem wM{K:Za}{C:Addr}(M:MC K C){n:List V}{H:Hp}{Q:VK}{E:XK}(h:iF C n H Q E):mv K (bN Q) (start mO n) H:=by
 obtain⟨x,r,I,J,rooms,L,rfl,h,t,k⟩:=h;obtain⟨u,fs,N,O,o,i,v,a1,a2,a3,T,U,Y,w,c1,c2,p,q,y⟩:=CM h;have j:=h.ok.okR.1;obtain⟨⟨s,a⟩,e,z⟩:=aE.mp (show r∈i.map (·.1) by rw[p];exact t);obtain rfl:s=r:=z;obtain⟨A,B,D⟩:=y _ e;refine⟨_,rfl,x,C,u,fs,.ref o,rfl,v,M.cls,M.a5,w,o,rfl,.inl ⟨_,.inl q⟩,_,rfl,(by show 0<=ak;decide),fun G f=>⟨_,.inl ⟨_,.inr s,.inl (kp q f),rfl,rfl⟩,?_⟩⟩;rw[fD ji (by rw[p];exact j) e];have g:ab H (upd H G (.tup [])):=ab.new f;refine .inl ⟨a,_,rfl,.inl (ay.of (g _ _ B)),fun l m=>k l A _ aa ?_ (g.free m) (g.trans (ab.new m))⟩;exact D.kt (ab.kt (g.trans (ab.new m)))
def sgB(ds:List ah)(face:Zb)(sg:Zb):Bool:=ds.any fun d=>decide (d.a∈face) && decide (d.sg=sg)
theorem En{f:List ah}{face g:Zb}:sgB f face g=true↔∃d∈f,d.a∈face/\d.sg=g:=by
 unfold sgB;rw[List.any_eq_true];constructor
 ·rintro⟨d,e,h⟩;rw[iZ]at h;exact⟨d,e,of_decide_eq_true h.1,of_decide_eq_true h.2⟩
 ·rintro⟨d,e,i,j⟩;exact⟨d,e,by rw[zzr1 i,zzr1 j];rfl⟩
open Classical in
theorem fk{rooms a:Zb}{e:List ah}{r:Str}:r∈closF rooms e a↔r∈rooms/\gL e a r:=by
 unfold closF;rw[bW,decide_eq_true_iff]
theorem MP(a:Zb):(fT a).depth<=8:=by rw[bz];decide
def tL(K:Za):TS :=
 bo (eM (dE K) (aB (tO K V0 "own_doors")))
def t8:List Str:=["self"]
def BZ:List Str:=["found","due"]



def AQ(K:Za)(sp_law_same:Sp):TS :=
 au (cJ (tB (Ho V1)) (bo (Ho V0)) (bB))
 (au (cJ (tB (eM (sf K) (aO V1 (tC (.ty "bool"))))) (bo (p8 (eM (sf K) (aO V0 (tC (.ty "bool")))) (aD GQ V0 V1))) (bB))
 (au (cJ (tB (eM (sf K) (aO V1 (tC (.ty "str"))))) (bo (p8 (eM (sf K) (aO V0 (tC (.ty "str")))) (aD (kG K) V0 V1))) (bB))
 (au (cJ (tB (eM (sf K) (aO V1 (tC (.ty "int"))))) (bo (p8 (eM (sf K) (aO V0 (tC (.ty "int")))) (p8 (KN (eM (sf K) (aO V0 (tC (.ty "bool"))))) (aD (kG K) V0 V1)))) (bB))
 (au (cJ (nQ (tB (eM (sf K) (aO V1 (tC (.ty "tuple"))))) (rW (tB (eM (sf K) (aO V0 (tC (.ty "tuple"))))))) (bo (tC (.bl false))) (bB))
 (au (cJ (nQ (tB (eM (sf K) (aO V1 (tC (.ty "list"))))) (rW (tB (eM (sf K) (aO V0 (tC (.ty "list"))))))) (bo (tC (.bl false))) (bB))
 (au (cJ (aS (aD LW (eM (fH K) (aB V0)) (eM (fH K) (aB V1)))) (bo (tC (.bl false))) (bB))
 (bo (eM (JY K) (av (cN 2 [] (K3 K (aO V0 V1)) (jk K 2 (bx U0 (bx U1 (iW)))) (i5) (aL sp_law_same (aO V0 V1))) aY)))))))))




def JC(K:Za)(C_Machine:Addr)(sp_Machine_led_from:Sp)(sp_Machine_goals:Sp):TS :=
 bo (eM (rAny K) (av (cN 1 [0,2] (bG K (aD gR (bC (aB V1)) (bZ C_Machine "led_from" sp_Machine_led_from [] E0 V0 (aB V1)))) U0 (i5) (aD wO (eM (fH K) (av (bZ C_Machine "goals" sp_Machine_goals [] E0 V1 (aO V0 (bP (av (tC (.str "ask")) (aB V2))))) aY)) (tC (.int 0)))) aY))
def KG:List Str:=["I","room","ask"]
def wr(K:Za)(sp_law_put:Sp)(sp_law_take:Sp)(sp_law_still_on:Sp):TS :=
 au (aT V1 (jk K 4 (bx U2 (bx U3 (bx U4 (bx U5 (iW)))))))
 (au (aT (eM (dE K) (aB V5)) U5)
 (au (eA (bG K V4) U6 (eA (bG K V2) U7 (au (aT (aL sp_law_still_on (aO V5 (bC (aB V6)))) U8)
 (cJ (aS (aD (kG K) (cN 1 [8,7] (bG K V5) U0 (nQ (aS (aD (ii K false) (aD (hW K) V0 (tC (.int 0))) V1)) (aS (aD (kG K) (aD (hW K) V0 (tC (.int 1))) (bP (aO (tC (.str "ask")) V2))))) V0) (bC (aY)))) (au (aT (aD (df K) (bC (av V6 (av (aD (df K) V4 (aL sp_law_take (aO V0 (eM (fH K) (aB V4))))) aY))) (aL sp_law_take (aO V0 (tC (.int 2))))) U9)
 (cM (aL sp_law_put (av V5 (av (bP (dq V6 (bP (aO (tC (.str "ask")) V7)) V9)) aY))))) (bB)))))
 (bo (bP (av V2 (dq V3 V4 V5))))))
def wU:List Str:=["pen","told","asks","says","rooms","doors","room","ask","there","other"]
def kW(K:Za)(C_Machine:Addr)(sp_Machine_rooms:Sp)(sp_Machine_asks:Sp)(sp_takes:Sp):TS :=
 eA (bG K (bZ C_Machine "rooms" sp_Machine_rooms [] E0 V0 aY)) U1 (eA (bG K (bZ C_Machine "asks" sp_Machine_asks [] E0 V0 aY)) U2 (cJ (rW (tB (aL sp_takes (dq V0 V1 V2)))) (oT) (bB)))
def lB:List Str:=["I","room","ask"]


def qp(C:Addr):Sp:=fun vs H Q _=>∃(x dx o4:Addr) (fs:List (Str×V)) (ts:Ze),vs=[.ref x]/\H x=some (.ins C dx fs)/\lk "own_doors" fs=some (.ref o4)/\H o4=some (.lst (ts.map V.ref))/\∀l,H l=none->Q (.ref l) (upd H l (.lst (ts.map V.ref)))
theorem HL{K:Za}{C:Addr}(M:MC K C){a:List V}{H:Hp}{Q:VK}{E:XK}(h:qp C a H Q E):tL K (bN Q) (start t8 a) H:=by
 obtain⟨x,f,e,fs,l,rfl,g,i,j,k⟩:=h;exact⟨_,rfl,x,C,f,fs,.ref e,rfl,g,M.cls,M.a4,i,.inl ⟨e,_,rfl,.inl (ay.of j),k⟩⟩
theorem Reach.mono{f ds':List ah}(h:∀a b,(⟨a,ao,b⟩:ah)∈f->(⟨a,ao,b⟩:ah)∈ds'){a b:Str}(r:Reach f a b):Reach ds' a b:=by
 induction r with
 |one e=>exact .one (h _ _ e)
 |step _ e g=>exact .step g (h _ _ e)
theorem Reach.front{f:List ah}{a b:Str}(r:Reach f a b):∃g,(⟨a,ao,g⟩:ah)∈f/\(b=g∨Reach f g b):=by
 induction r with
 |one e=>exact⟨_,e,.inl rfl⟩
 |step _ e h =>
  obtain⟨g,i,z⟩:=h;refine⟨g,i,.inr ?_⟩;rcases z with z|z
  ·subst z;exact .one e
  ·exact .step z e
def gJ(ds:List ah)(r a:Str):Prop:=∃h,(h=r∨Reach ds r h)/\∃b,(⟨h,bT a,b⟩:ah)∈ds
open Classical in
def takesB(ds:List ah)(r a:Str):Bool:=decide (gJ ds r a)
theorem mr{ds:List ah}{r a:Str}:takesB ds r a=true↔gJ ds r a:=by unfold takesB;exact @decide_eq_true_iff _ (Classical.propDecidable _)
theorem y6{ds:List ah}{r a:Str}:takesB ds r a=false↔¬gJ ds r a:=by unfold takesB;exact @decide_eq_false_iff_not _ (Classical.propDecidable _)
theorem tw{e:List ah}{h:Str}{f:Zb}:0<(aF e (h,f)).length↔∃b,(⟨h,f,b⟩:ah)∈e:=by
 rw[List.length_pos_iff_exists_mem];constructor
 ·rintro⟨b,a⟩;exact⟨b,bj.mp a⟩
 ·rintro⟨b,a⟩;exact⟨b,bj.mpr a⟩
theorem Fh{ds:List ah}{r a:Str}{L:Zb}(i:∀w,w∈L↔Reach ds r w):((r::L).map fun h=>decide ((0:Int)<(aF ds (h,bT a)).length)).any id=takesB ds r a:=by
 rw[pO,mr,List.any_eq_true];constructor
 ·rintro⟨b,f,e⟩;obtain⟨h,g,rfl⟩:=aE.mp f;have:=of_decide_eq_true e;refine⟨h,?_,tw.mp (by omega)⟩;rcases dC.mp g with e|e
  ·exact .inl e
  ·exact .inr ((i h).mp e)
 ·rintro⟨h,g,f⟩;refine⟨true,aE.mpr ⟨h,?_,zzr1 (by have:=tw.mpr f;omega)⟩,rfl⟩;rcases g with e|e
  ·rw[e];exact dz
  ·exact gC _ ((i h).mpr e)
inductive sp_takes(C:Addr)(vs:List V)(H:Hp)(Q:VK)(E:XK):Prop
 |mk (x:Addr) (r a:Str) (J0 J2 rooms:Zb) (ds:List ah):(vs=[.ref x,.str r,.str a])->(bc C H x J0 J2 rooms ds)->(r∈rooms)->(∀H',ab H H'->Q (.bl (takesB ds r a)) H')->sp_takes C vs H Q E
def BU(F:Zb)(a:Str)(d:ah):Bool:=decide (d.a∈F) && decide (d.sg=bT a)
theorem BT{f:List ah}{F:Zb}{r a:Str}(i:∀w,w∈F↔gL f [r] w):f.filter (BU F a)=[]↔takesB f r a=false:=by
 rw[y6,List.filter_eq_nil_iff];constructor
 ·rintro h ⟨w,j,b,k⟩;refine h _ k ?_;unfold BU;rw[zzr1,zzr1]
  ·rfl
  ·rfl
  ·exact(i w).mpr ⟨r,dz,j⟩
 ·intro n d hd q;unfold BU at q;rw[iZ]at q;have l:=of_decide_eq_true q.1;have m:=of_decide_eq_true q.2;obtain⟨g,o,e⟩:=(i _).mp l;have:g=r:=by simpa using o
  subst this;obtain⟨x,p,b⟩:=d;exact n ⟨x,e,b,by rw[<-m];exact hd⟩
theorem Jc{K:Za}{σ:L2.St}{jt ja:Nat}{I f l:Addr}{B:Ze}{r:List ah}{F:Zb}{a:Str}{m:Hp}{Q:Hp->Prop}(st:σ[jt]?=some (some (.ref f)))(N:σ[ja]?=some (some (.str a)))
  (O:m I=some (.lst (B.map V.ref))) (hd:dg m B r) (hf:m f=some (.lst (F.map V.str))) (z:r.length<=1000) (J:m l=none)
  (k:∀(g:Ze) (e:Hp),e l=some (.lst (g.map V.ref))->dg e g (r.filter (BU F a))->ab m e->Q e) :
  cF 1 [jt,ja] σ (Ce K I) U0 (nQ (aS (aD (ii K false) (aD (hW K) V0 (tC (.int 0))) V1)) (aS (aD (kG K) (aD (hW K) V0 (tC (.int 1))) (bP (aO (tC (.str "ask")) V2))))) V0 m l Q:=by
 have T:cP 1 [jt,ja] σ=[none,some (.ref f),some (.str a)]:=by simp[cP,st,N]
 let C:Nat->List V->Hp->Prop:=fun i t e=>∃g:List Addr,t=g.map V.ref/\dg e g ((r.take i).filter (BU F a))/\ab m e/\e l=some (.lst t)
 refine bQ (xs:=B.map V.ref) C
  ⟨[],rfl,.nil,ab.new J,aa⟩ (fun i t e _ U=>by obtain⟨_,_,_,S,n⟩:=U;exact⟨n,ay.of (S _ _ O)⟩) ?_ ?_
 ·rintro t e ⟨g,rfl,D,S,n⟩;rw[ai,Paired.length hd,bp]at D;exact k g e n D S
 ·rintro i t e y Y hi ⟨g,rfl,D,S,n⟩;obtain⟨u,hu,rfl⟩:=cg Y;obtain⟨w,j,E⟩:=Paired.getL hd hu;obtain⟨sb,p,v⟩:=E.kt (ab.kt S);have al:i<r.length:=(bM.mp j).1;have zu:g.length<=i:=by
   have:=Paired.length D;rw[this];refine bI (b_ _ _) ?_;rw[aX];omega
  rw[T];refine gN ?_;refine⟨_,rfl,.inr (.inl ⟨u,_,0,_,rfl,rfl,br.of p,rfl,_,rfl,dh w.a,F.map dh,f,_,mM _,rfl,.inl (ay.of (S _ _ hf)),gu _,(by show 0<=8;decide),by rw[f8];decide,_,rfl,?_⟩)⟩;rw[if_neg hV,uw];by_cases x:w.a∈F;rotate_left
  ·rw[zzr0 x];refine bd (bd (kL hi ⟨g,rfl,?_,S,n⟩));rw[gW j,if_neg (by unfold BU;rw[zzr0 x,D0];decide),dS];exact D
  rw[zzr1 x];refine bU ?_;refine⟨_,rfl,.inr (.inl ⟨u,_,1,_,rfl,rfl,br.of p,rfl,_,rfl,(by show 2<=ak;decide),fun s hs=>?_⟩)⟩;have h:ab e (upd e s (.tup ((bT a).map V.str))):=ab.new hs;have L:upd e s (.tup ((bT a).map V.str)) s=some (.tup ((bT a).map V.str)):=aa;have G:(.tup [.str "ask",.str a]:HO)=.tup ((bT a).map V.str):=rfl;rw[G];generalize upd e s (.tup ((bT a).map V.str))=H at h L ⊢;have M:=D.kt (ab.kt h);refine⟨fT w.sg,fT (bT a),aW (br.of (h _ _ v)),aW (br.of L),by rw[bz];decide,by rw[bz];decide,_,rfl,?_⟩;rw[eI];by_cases A:w.sg=bT a;rotate_left
  ·rw[zzr0 A];refine bd (kL hi ⟨g,rfl,?_,S.trans h,h _ _ n⟩);rw[gW j,if_neg (by unfold BU;rw[zzr0 A,yU];decide),dS];exact M
  rw[zzr1 A];refine bU ?_;have S3:ab m (upd H l (.lst (g.map V.ref++[.ref u]))):=fun b o q=>by
   rw[aj (ae q J)];exact h _ _ (S _ _ q)
  have kt:gx H (upd H l (.lst (g.map V.ref++[.ref u]))):=fun b xs q=>by
   rw[aj (fun z=>by rw[z,h _ _ n]at q;cases q)];exact q
  refine⟨_,rfl,h _ _ n,by rw[ai];exact aq (by omega),kL hi ⟨g++[u],by rw[ar];rfl,?_,S3,aa⟩⟩;rw[gW j,if_pos (by unfold BU;rw[zzr1 x,zzr1 A];rfl)];exact ee (M.kt kt) ⟨sb,kt _ _ (h _ _ p),kt _ _ (h _ _ v)⟩
theorem IL{K:Za}{H:Hp}{l q:Addr}{e:Ze}{a:List ah}{Q:VK}(f:H l=some (.lst (e.map V.ref)))(g:dg H e a)(i:H q=some (.lst []))(h:Q (.bl (decide (a=[]))) H):kG K (.ref l) (.ref q) H Q:=by
 refine⟨.s (a.map vK),.s [],(by unfold iK;exact⟨l,_,rfl,ay.of f,g.dIns⟩),(by unfold iK;exact⟨q,_,rfl,ay.of i,by unfold DIns;rfl⟩),?_,(by decide),?_⟩
 ·show DT.depths _+1<=8;have:=Ds a;omega
 ·rw[decide_eq_decide.mpr (show DT.s (a.map vK)=DT.s []↔a=[]from⟨fun z=>List.map_eq_nil_iff.mp (by injection z),fun z=>by rw[z];rfl⟩)];exact h
theorem Reach.unask{ds:List ah}{d:ah}(n:d.sg≠ao){a b:Str}(r:Reach (ds++[d]) a b):Reach ds a b:=by
 have f:∀{x y:Str},(⟨x,ao,y⟩:ah)∈ds++[d]->(⟨x,ao,y⟩:ah)∈ds:=fun q=>by
  rcases bf.mp q with q|q
  ·exact q
  ·have e:=cA.mp q;exact absurd (by rw[<-e]) n
 induction r with
 |one q=>exact .one (f q)
 |step _ q g=>exact .step g (f q)
theorem gJ.mono{ds e:List ah}(h:∀d∈ds,d∈e){r a:Str}:gJ ds r a->gJ e r a:=fun⟨w,f,b,g⟩=>⟨w,f.imp id (Reach.mono fun x y=>h _),b,h _ g⟩
theorem mem_putD{a:List ah}{d x:ah}:x∈qE a d↔x∈a∨x=d:=by
 unfold qE;split
 ·rename_i h;exact⟨.inl,fun z=>z.elim id fun e=>by rw[e];exact h⟩
 ·simp
theorem ax.putOne{i j rooms:Zb}{f:List ah}{d:ah}(m:ax i j rooms f)(g:wc i j rooms d)(n:d.sg≠ao)(z:f.length+1<=1000):ax i j rooms (qE f d):=by
 refine⟨m.okA,m.okS,m.apart,m.okR,m.asks0,m.says0,m.rooms0,m.asks4,m.says4,m.rooms26,?_,fun x hx=>?_,?_,fun r q=>?_⟩
 ·unfold qE;split
  ·exact m.nodup
  ·rename_i h;rw[dk];exact⟨m.nodup,by simp,fun a k b l e=>h (by rw[<-cA.1 l,<-e];exact k)⟩
 ·rcases mem_putD.mp hx with h|h
  ·exact m.good x h
  ·rw[h];exact g
 ·have:=Bj f d;omega
 ·refine m.noround r ?_;unfold qE at q;split at q
  ·exact q
  ·exact q.unask n
theorem Gz(a:Str):bT a≠ao:=by unfold bT ao;intro h;injection h with _ h;cases h
structure TX(H0:Hp)(p c l:Addr)(R:List ah->Prop)(H:Hp):Prop where
 pen:gM H p c
 ds:∃ts ds,H l=some (.lst (ts.map V.ref))/\dg H ts ds/\R ds
 ex:dZ p H0 H
 fr:H0 l=none
 pl:p≠l
 cl:c≠l
section
variable{H0 H H':Hp}{p c l:Addr}{R R':List ah->Prop}
theorem TX.took(h:TX H0 p c l R H)(a:gM H' p c)(e:dZ p H H'):TX H0 p c l R H':=by
 obtain⟨f,g,i,j,k⟩:=h.ds;obtain⟨m,hx⟩:=h.pen.lst;exact⟨a,⟨f,g,e _ _ i h.pl.symm,j.kt (e.kt hx),k⟩,h.ex.trans e,h.fr,h.pl,h.cl⟩
theorem TX.same(h:TX H0 p c l R H)(S:ab H H'):TX H0 p c l R H':=h.took (h.pen.ex S) (ab.exB S)
theorem TX.imp(h:TX H0 p c l R H)(q:∀a,R a->R' a):TX H0 p c l R' H:=by
 obtain⟨e,a,f,g,i⟩:=h.ds;exact⟨h.pen,⟨e,a,f,g,q _ i⟩,h.ex,h.fr,h.pl,h.cl⟩
theorem TX.put{a:Ze}{e:List ah}(h:TX H0 p c l R H)(g:∃f,H l=some (.lst f))(i:dg H a e)(r:R' e):TX H0 p c l R' (upd H l (.lst (a.map V.ref))):=by
 obtain⟨f,hx⟩:=g;refine⟨h.pen.upd h.pl h.cl,⟨a,e,aa,i.kt fun b j q=>?_,r⟩,fun b o q n=>?_,h.fr,h.pl,h.cl⟩
 ·rw[aj (fun z=>by rw[z,hx]at q;cases q)];exact q
 ·rw[aj (ae q h.fr)];exact h.ex _ _ q n
end
def WR(J0 J2 rooms:Zb)(D:List (Str×Str))(n:Nat)(ds:List ah):Prop:=ax J0 J2 rooms ds/\ds.length<=n/\∀x∈D,gJ ds x.1 x.2
theorem WR.up{J0 a rooms:Zb}{D:List (Str×Str)}{n e:Nat}{f:List ah}(h:WR J0 a rooms D n f)(z:n<=e):WR J0 a rooms D e f:=⟨h.1,bI h.2.1 z,h.2.2⟩
inductive kZ (vs:List V)(H:Hp)(Q:VK)(E:XK):Prop
 |mk (p c t l1 l2 l3 l4:Addr) (ts:Ze) (J0 J2 rooms:Zb) (ds:List ah):(vs=[.ref p,.ref t])->(gM H p c)->(gK H t l1 l2 l3 l4 ts J0 J2 rooms ds)->(ax J0 J2 rooms ds)->(rooms.length<=26)->(ds.length<=800)->(∀(t' l4':Addr) (ts':Ze) (ds':List ah) (H':Hp),gK H' t' l1 l2 l3 l4' ts' J0 J2 rooms ds'->ax J0 J2 rooms ds'->(∀r∈rooms,∀a∈J0,gJ ds' r a)->ds'.length<=ds.length+4 * rooms.length->gM H' p c->dZ p H H'->Q (.ref t') H')->kZ  vs H Q E
theorem CQ{K:Za}{vs:List V}{H:Hp}{Q:VK}{E:XK}(h:kZ vs H Q E):wr K r_ gb (iQ K) (bN Q) (start wU vs) H:=by
 obtain⟨p,c,t,l1,l2,N,l4,ts,J0,O,rooms,ds,rfl,hp,T,m,b8,z8,k⟩:=h;have a4:=m.asks4;refine⟨_,rfl,t,_,rfl,br.of T.t,rfl,_,_,rfl,_,_,rfl,_,_,rfl,_,_,rfl,rfl,?_⟩;refine⟨_,rfl,.inl ⟨l4,_,rfl,.inl (ay.of T.a4),fun f hf=>?_⟩⟩;have B0:TX H p c f (WR J0 O rooms [] ds.length) (upd H f (.lst (ts.map V.ref))):=⟨hp.ex (ab.new hf),⟨ts,ds,aa,T.ds.kt (ab.kt (ab.new hf)),m,aR _,by simp⟩,dZ.new hf,hf,hp.nep hf,hp.nec hf⟩;generalize upd H f (.lst (ts.map V.ref))=H1 at B0 ⊢;have A:∀{G:Hp}{R:List ah->Prop},TX H p c f R G->G l1=some (.lst (J0.map V.str))/\G l2=some (.lst (O.map V.str))/\G N=some (.lst (rooms.map V.str)):=fun B =>
  ⟨B.ex _ _ T.a1 (hp.ne_strs T.a1),B.ex _ _ T.a2 (hp.ne_strs T.a2),B.ex _ _ T.a3 (hp.ne_strs T.a3)⟩
 refine⟨_,rfl,N,rfl,⟨_,ay.of (A B0).2.2⟩,?_⟩
 let bb:Nat->L2.St->Hp->Prop:=fun i σ G=>Mu fun(a6 U Y a9:Option V)=>σ=[some (.ref p),some (.ref t),some (.ref l1),some (.ref l2),some (.ref N),some (.ref f),a6,U,Y,a9]/\TX H p c f (WR J0 O rooms ((rooms.take i).flatMap fun r=>J0.map fun a=>(r,a)) (ds.length+4 * i)) G
 refine bw (xs:=rooms.map V.str) bb
  ⟨_,_,_,_,rfl,B0⟩ (fun i σ G _ zq=>by obtain⟨_,_,_,_,_,B⟩:=zq;exact ay.of (A B).2.2) ?_ ?_
 ·rintro i v σ H2 hi ⟨a6,U,Y,a9,rfl,J⟩;obtain⟨r,hr,rfl⟩:=bh hi;have b9:i<rooms.length:=(bM.mp hr).1;have al:=bX hr;refine⟨_,rfl,l1,rfl,⟨_,ay.of (A J).1⟩,?_⟩
  let bi:Nat->L2.St->Hp->Prop:=fun j σ G=>Lf fun(U Y a9:Option V)=>σ=[some (.ref p),some (.ref t),some (.ref l1),some (.ref l2),some (.ref N),some (.ref f),some (.str r),U,Y,a9]/\TX H p c f (WR J0 O rooms ((rooms.take i).flatMap (fun r=>J0.map fun a=>(r,a))++(J0.take j).map fun a=>(r,a)) (ds.length+4 * i+j)) G
  refine bw (xs:=J0.map V.str) bi
   ⟨_,_,_,rfl,J.imp fun ds h=>by simpa using h⟩ (fun i σ G _ zq=>by obtain⟨_,_,_,_,B⟩:=zq;exact ay.of (A B).1) ?_ ?_
  ·rintro j v σ H3 hj ⟨U,Y,a9,rfl,B3⟩;obtain⟨a,ha,rfl⟩:=bh hj;have ca:j<J0.length:=(bM.mp ha).1;have bl:=bX ha;have an:∀C n,WR J0 O rooms ((rooms.take i).flatMap (fun r=>J0.map fun a=>(r,a))++(J0.take j).map fun a=>(r,a)) n C->gJ C r a->WR J0 O rooms ((rooms.take i).flatMap (fun r=>J0.map fun a=>(r,a))++(J0.take (j+1)).map fun a=>(r,a)) n C:=fun C n w tk=>by
    refine⟨w.1,w.2.1,fun x hx=>?_⟩;rw[take_snoc ha,ar,<-d_]at hx;rcases bf.mp hx with h|h
    ·exact w.2.2 x h
    ·have:x=(r,a):=by simpa using h
     rw[this];exact tk
   refine⟨_,rfl,_,rfl,(by show 1<=ak;decide),fun q hq=>?_⟩;have B4:=B3.same (ab.new (o:=.lst [.str r]) hq);have q4:upd H3 q (.lst [.str r]) q=some (.lst [.str r]):=aa;generalize upd H3 q (.lst [.str r])=H4 at B4 q4 ⊢;obtain⟨us,C,g1,g2,D⟩:=B4.ds;refine⟨f,q,us,C,[r],rooms,rfl,g1,g2,q4,fun d hd=>(D.1.good d hd).b,by omega,(by show 1<=1000;decide),fun th F H5 bn hF _ _ S5=>?_⟩;have B5:=B4.same S5;have f5:=S5 _ _ g1;have d5:=g2.kt (ab.kt S5);refine⟨_,rfl,f,rfl,⟨_,ay.of f5⟩,fun l hl=>?_⟩;refine Jc (K:=K) (jt:=8) (ja:=7) rfl rfl f5 d5 bn D.1.few hl fun vs H6 h6 D6 S6=>⟨(by show 0<=ak;decide),fun e he=>?_⟩;refine IL (kp h6 he) (D6.kt (ab.kt (ab.new he))) aa ⟨_,rfl,?_⟩;have S7:ab H5 (upd H6 e (.lst [])):=S6.trans (ab.new he);generalize upd H6 e (.lst [])=H7 at S7 ⊢;have f7:=S7 _ _ f5;have d7:=d5.kt (ab.kt S7);have B7:TX H p c f (fun ap=>ap=C) H7:=by
    have B:=B5.same S7;exact⟨B.pen,⟨us,C,f7,d7,rfl⟩,B.ex,B.fr,B.pl,B.cl⟩
   cases q:takesB C r a with
   |true =>
    rw[zzr0 (fun z=>by rw[BT hF,q]at z;cases z)];exact bd ⟨_,_,_,rfl,B7.imp fun ap e=>by rw[e];exact an _ _ (D.up (by omega)) (mr.mp q)⟩
   |false =>
    rw[zzr1 ((BT hF).mpr q)];refine bU ?_;have b0:=(A B7).2.2;refine⟨_,rfl,_,rfl,_,rfl,_,rfl,.inl ⟨N,_,rfl,.inl (ay.of b0),?_⟩⟩;rw[ai];refine fG B7.pen (by omega) (by omega) fun x H8 x0 x1 b1 b2=>?_;obtain⟨n,rfl⟩:=kS x0;have B8:=B7.took b1 b2;obtain⟨w,hw⟩:∃w,rooms[n]?=some w:=⟨_,iY (by omega)⟩;refine⟨N,_,(n:Int),.str w,rfl,rfl,ay.of (A B8).2.2,cn (j:=n) (by rw[cS,hw];rfl),(by show 2<=ak;decide),fun u hu=>?_⟩;have B9:=B8.same (ab.new (o:=.lst [.str r,.str w]) hu);have u9:upd H8 u (.lst [.str r,.str w]) u=some (.lst ([r,w].map V.str)):=aa;generalize upd H8 u (.lst [.str r,.str w])=H9 at B9 u9 ⊢;refine⟨_,rfl,fG B9.pen (by decide) (by decide) fun y I y0 y1 as L=>?_⟩;have b3:=B9.took as L;obtain⟨g,hg,b4⟩:∃g,xT ([r,w].map V.str) y=some (.str g)/\g∈rooms:=by
     have:y=0∨y=1:=by omega
     rcases this with rfl|rfl
     ·exact⟨r,rfl,al⟩
     ·exact⟨w,rfl,bX hw⟩
    refine⟨u,_,y,.str g,rfl,rfl,ay.of (L _ _ u9 (B9.pen.ne_strs u9)),hg,?_⟩;refine⟨_,rfl,_,rfl,_,rfl,(by show 2<=ak;decide),fun s hs=>⟨_,rfl,(by show 3<=ak;decide),fun d hd=>?_⟩⟩;have aC:ab I (upd (upd I s (.tup [.str "ask",.str a])) d (.tup [.str r,.ref s,.str g])):=(ab.new hs).trans (ab.new hd);have M:iy (upd (upd I s (.tup [.str "ask",.str a])) d (.tup [.str r,.ref s,.str g])) d ⟨r,bT a,g⟩:=⟨s,aa,kp aa hd⟩;generalize upd (upd I s (.tup [.str "ask",.str a])) d (.tup [.str r,.ref s,.str g])=cc at aC M ⊢;have a0:=b3.same aC;obtain⟨b5,b6,k1,k2,rfl⟩:=id a0.ds;have zz:=D.2.1;have a5:wc J0 O rooms ⟨r,bT a,g⟩:=⟨al,b4,.inl ⟨a,bl,rfl⟩⟩;refine⟨f,d,b5,_,⟨r,bT a,g⟩,rfl,k1,k2,M,D.1.few,fun cd D2=>?_⟩;refine⟨_,_,_,rfl,a0.put ⟨_,k1⟩ D2 (an _ _ ⟨D.1.putOne a5 (Gz a) (by omega),?_,fun x hx=>(D.2.2 x hx).mono fun y hy=>mem_putD.mpr (.inl hy)⟩ ⟨r,.inl rfl,g,mem_putD.mpr (.inr rfl)⟩)⟩;have:=Bj b6 ⟨r,bT a,g⟩;omega
  ·rintro σ H3 ⟨U,Y,a9,rfl,B3⟩;refine⟨_,_,_,_,rfl,B3.imp fun C h=>?_⟩;rw[ai]at h;refine⟨h.1,by have:=h.2.1;omega,fun x hx=>h.2.2 x ?_⟩;rw[take_snoc hr,oo]at hx;rw[bp];simpa using hx
 ·rintro σ H2 ⟨a6,U,Y,a9,rfl,J⟩;rw[ai,bp]at J;obtain⟨us,C,g1,g2,D⟩:=J.ds;obtain⟨q1,q2,q3⟩:=A J;refine⟨_,rfl,_,rfl,_,rfl,_,rfl,(by show 4<=ak;decide),fun t' b7=>?_⟩;have S3:=ab.new (o:=.tup [.ref l1,.ref l2,.ref N,.ref f]) b7;exact k t' f us C _ ⟨aa,S3 _ _ q1,S3 _ _ q2,S3 _ _ q3,S3 _ _ g1,g2.kt (ab.kt S3)⟩ D.1 (fun r hr a ha=>D.2.2 (r,a) (gp.mpr ⟨r,hr,aE.mpr ⟨a,ha,rfl⟩⟩)) D.2.1 (J.pen.ex S3) (J.ex.trans (ab.exB S3))
abbrev Sg:=List Str
structure FMs where
 fs:List (List Str)
 ss:List (List Sg)
abbrev FMst:=FMs×List (List (Sg×Nat))
theorem xx{α:Type}[DecidableEq α]:∀{L R:List α},L.Nodup->(∀y∈L,y∈R)->L.length<=R.length
 |[],_,_,_=>c_ _
 |x::L,R,h,a=>by
  rw[jA]at h;have hx:x∈R:=a x dz;have g:∀y∈L,y∈R.erase x:=fun y f=>(List.mem_erase_of_ne (fun e=>h.1 (by rw[<-e];exact f))).2 (a y (gC _ f));have i:=xx h.2 g;rw[List.length_erase_of_mem hx]at i;have j:0<R.length:=List.length_pos_of_mem hx;rw[fF];omega
theorem Eg{K:Za}{a:Addr}{e:List V}(h:∀H,br K H a e)(H:Hp):bV K H a e:=by
 rcases h (fun _=>none)with(h|⟨o,h⟩)|h
 ·cases h
 ·cases h
 ·exact .inr h
theorem Jz{κ:Type}[DecidableEq κ]{a:List (κ×V)}{k:κ}(h:∀e∈a,e.1≠k):c6 a k=none:=by
 unfold c6;rw[List.find?_eq_none.2 fun e f=>by simpa using h e f]
 rfl
theorem sw(e:Zb):(uu e).depth<=8:=by
 have:∀l:List Str,TK.depths (l.map pK)=0:=by
  intro l
  induction l with
  |nil=>rfl
  |cons a l f=>show max (TK.depth (pK a)) (TK.depths _)=0;rw[f];rfl
 show TK.depths (e.map pK)+1<=8;rw[this];decide
theorem ifQ{b:Bool}{P X Y:Prop}(h:b=true↔P)(a:P->X)(e:¬P->Y):if b=true then X else Y:=by
 cases b with
 |true=>exact a (h.1 rfl)
 |false=>exact e fun z=>by cases h.2 z
abbrev EW(K:Za)(H:Hp)(w:Addr)(s:List Sg):Prop:=∃gs:List Addr,H w=some (.lst (gs.map V.ref))/\Paired (fun g (sg:Sg)=>bV K H g (sg.map V.str)) gs s
theorem bV.kt{K:Za}{H e:Hp}{a:Addr}{f:List V}(k:gx H e)(h:bV K H a f):bV K e a f:=h.keeps k
theorem Ei{K:Za}{H:Hp}:∀a:List Str,TKIns K H (a.map pK) (a.map V.str)
 |[]=>by show TKIns K H [] [];unfold TKIns;rfl
 |x::a=>by
  rw[bL,bL];unfold TKIns;refine⟨_,_,rfl,?_,Ei a⟩;unfold pK lA
  rfl
theorem bV.sq{K:Za}{H:Hp}{a:Addr}{e:List V}(h:bV K H a e):br K H a e:=h.imp .inl id
theorem Ej{K:Za}{H:Hp}{a:Addr}{f:Zb}(h:bV K H a (f.map V.str)):lA K H (uu f) (.ref a):=by
 unfold uu lA;exact⟨a,_,rfl,bV.sq h,Ei f⟩
theorem Paired.rev{α β:Type}{R:α->β->Prop}:∀{a:List α}{b:List β},Paired R a b->Paired R a.reverse b.reverse
 |_,_,.nil=>.nil
 |_,_,.cons r t=>by
  rw[rK,rK];exact Paired.app (Paired.rev t) (.cons r .nil)
def Aq(ds:List ah)(f:Zb):Prop:=∀d∈ds,d.sg=ao->d.a∈f->d.b∈f
theorem xp{rooms i:Zb}{e:List ah}(j:∀d∈e,d.b∈rooms):Aq e (closF rooms e i):=by
 classical
 intro d h f g;unfold closF at g ⊢;rw[bW]at g ⊢;obtain⟨a,k,b⟩:=d;have f:k=ao:=f;subst f;exact⟨j _ h,zzr1 (gL.step (of_decide_eq_true g.2) h)⟩
inductive je(C:Addr)(vs:List V)(H:Hp)(Q:VK)(E:XK):Prop
 |mk (x:Addr) (J0 J2 rooms:Zb) (ds:List ah):(vs=[.ref x])->(bc C H x J0 J2 rooms ds)->((∀r∈rooms,∀a∈J0,gJ ds r a))->(∀H',ab H H'->Q .non H')->je C vs H Q E
theorem zN{K:Za}{C:Addr}{J:List V}{H:Hp}{Q:VK}{E:XK}(h:je C J H Q E):kW K C (fX C) (jY C) (sp_takes C) (bN Q) (start lB J) H:=by
 obtain⟨x,e,q,rooms,s,rfl,M,tk,k⟩:=h;obtain⟨t,fs,o1,o2,o3,o4,lv,qu,O,sl,ts,T,U,Y,u,a1,a2,a3,a4,_⟩:=id M.at_;refine⟨_,rfl,x,t,fs,rfl,u,a4,x,e,q,rooms,s,rfl,M,fun f h1=>?_⟩;have n:ab H (upd H f (.lst (rooms.map V.str))):=ab.new h1;have w:upd H f (.lst (rooms.map V.str)) f=some (.lst (rooms.map V.str)):=aa;generalize upd H f (.lst (rooms.map V.str))=L at n w ⊢;refine⟨f,rfl,⟨_,ay.of w⟩,?_⟩
 let A:Nat->L2.St->Hp->Prop:=fun i σ g=>∃y z,σ=[some (.ref x),y,z]/\ab L g
 refine bw (xs:=rooms.map V.str) A ⟨_,_,rfl,ab.refl _⟩ (fun i σ g _ B=>by obtain⟨_,_,_,S⟩:=B;exact ay.of (S _ _ w)) ?_ ?_
 ·rintro i v σ l hi ⟨y,z,rfl,o⟩;obtain⟨r,N,rfl⟩:=bh hi;have M2:=M.same (n.trans o);obtain⟨t,fs,u,a1,_⟩:=id M2.more;refine⟨_,rfl,x,t,fs,rfl,u,a1,x,e,q,rooms,s,rfl,M2,fun m h2=>?_⟩;have D:ab L (upd l m (.lst (e.map V.str))):=o.trans (ab.new h2);have G:upd l m (.lst (e.map V.str)) m=some (.lst (e.map V.str)):=aa;generalize upd l m (.lst (e.map V.str))=H3 at D G ⊢;refine⟨m,rfl,⟨_,ay.of G⟩,?_⟩
  let I:Nat->L2.St->Hp->Prop:=fun j σ g=>∃z,σ=[some (.ref x),some (.str r),z]/\ab H3 g
  refine bw (xs:=e.map V.str) I ⟨_,rfl,ab.refl _⟩ (fun i σ g _ B=>by obtain⟨_,_,S⟩:=B;exact ay.of (S _ _ G)) ?_ ?_
  ·rintro j v σ H4 hj ⟨z,rfl,p⟩;obtain⟨a,ha,rfl⟩:=bh hj;refine⟨_,rfl,_,rfl,_,rfl,x,r,a,e,q,rooms,s,rfl,M.same ((n.trans D).trans p),bX N,fun H5 S5=>⟨_,rfl,?_⟩⟩;rw[mr.2 (tk r (bX N) a (bX ha))];exact bd ⟨_,rfl,p.trans S5⟩
  ·rintro σ H4 ⟨z,rfl,p⟩;exact⟨_,_,rfl,D.trans p⟩
 ·rintro σ l ⟨y,z,rfl,o⟩;exact k l (n.trans o)
abbrev FPr:=List Str×List Str
open Builtin.Int (intBits)
def rP(K:Za):TS :=
 au (aT (eM Er (aO V0 (eM (fH K) (aB (tC (.str "abcdefghijklmnopqrstuvwxyz")))))) (jk K 2 (bx U1 (bx U2 (iW)))))
 (bo (aD HZ (aD C0 (tC (.str "abcdefghijklmnopqrstuvwxyz")) V1) (aD C0 (tC (.str "abcdefghijklmnopqrstuvwxyz")) V2)))
def sF:List Str:=["number","tens","ones"]
def Hj(K:Za):TS :=
 bo (cN 1 [1] (bG K V0) U0 (aS (aD (ii K false) V0 V1)) V0)
def Jh:List Str:=["words","others"]
def Cm(K:Za)(sp_common:Sp)(C_Machine:Addr)(sp_Machine_asks:Sp)(sp_Machine_says:Sp):TS :=
 bo (aD gR (aL sp_common (aO (bZ C_Machine "says" sp_Machine_says [] E0 V0 aY) (bZ C_Machine "asks" sp_Machine_asks [] E0 V1 aY))) (aL sp_common (aO (bZ C_Machine "says" sp_Machine_says [] E0 V1 aY) (bZ C_Machine "asks" sp_Machine_asks [] E0 V0 aY))))
def DB:List Str:=["M","N"]
def u2(K:Za)(C_Machine:Addr)(sp_Machine_asks:Sp)(sp_wires_of:Sp):TS :=
 au (aT (aL sp_wires_of (aO V0 V1)) U2)
 (bo (cN 1 [2] (bG K (aD gR (bZ C_Machine "asks" sp_Machine_asks [] E0 V0 aY) (bZ C_Machine "asks" sp_Machine_asks [] E0 V1 aY))) U0 (aS (aD (ii K true) V0 V1)) V0))
def v9:List Str:=["M","N","wires"]
def Cv(K:Za)(C_Machine:Addr)(sp_Machine_doors:Sp)(sp_Machine_rooms:Sp):TS :=
 bo (p8 (aD Ll (eM (fH K) (aB (bZ C_Machine "rooms" sp_Machine_rooms [] E0 V0 aY))) (tC (.int 10))) (aD Ll (eM (fH K) (aB (bZ C_Machine "doors" sp_Machine_doors [] E0 V0 aY))) (tC (.int 40))))
def DM:List Str:=["M"]
def AO(K:Za)(C_Machine:Addr)(sp_Machine_says:Sp)(sp_asks_of_both:Sp)(sp_common:Sp)(sp_Machine_asks:Sp)(sp_is_small:Sp):TS :=
 au (cJ (Cy (rW (tB (aL sp_is_small (aB V0)))) (rW (tB (aL sp_is_small (aB V1))))) (oT) (bB))
 (au (cJ (Cy (aS (aD wO (eM (fH K) (aB (aL sp_common (aO (bZ C_Machine "asks" sp_Machine_asks [] E0 V0 aY) (bZ C_Machine "asks" sp_Machine_asks [] E0 V1 aY))))) (tC (.int 0)))) (aS (aD wO (eM (fH K) (aB (aL sp_common (aO (bZ C_Machine "says" sp_Machine_says [] E0 V0 aY) (bZ C_Machine "says" sp_Machine_says [] E0 V1 aY))))) (tC (.int 0))))) (oT) (bB))
 (au (cJ (aS (aD GQ (eM (fH K) (aB (aL sp_asks_of_both (aO V0 V1)))) (tC (.int 0)))) (oT) (bB))
 (cJ (Cy (aS (aD wO (eM (fH K) (aB (aL sp_asks_of_both (aO V0 V1)))) (tC (.int 4)))) (aS (aD wO (eM (fH K) (aB (aD gR (bZ C_Machine "says" sp_Machine_says [] E0 V0 aY) (bZ C_Machine "says" sp_Machine_says [] E0 V1 aY)))) (tC (.int 4))))) (oT) (bB))))
def BY:List Str:=["M","N"]
def zn(K:Za)(C_Machine:Addr)(sp_Machine_doors_from:Sp)(a_STILL:Addr):TS :=
 bo (cN 3 [2] (bG K (bZ C_Machine "doors_from" sp_Machine_doors_from [] E0 V0 (aB V1))) (jk K 3 (bx U0 (bx U1 (bx U2 (iW))))) (Cy (aS (aD (kG K) V1 (tC (.ref a_STILL)))) (aS (aD (ii K true) (aD (jg K) V1 (tC (.int 1))) V3))) (bP (aO V1 V2)))
def Ay:List Str:=["M","room","wires"]
def wx(K:Za)(sp_alone_from:Sp):TS :=
 au (aT V2 (jk K 2 (bx U4 (bx U5 (iW)))))
 (au (aT (cN 2 [2,5] (bG K (aL sp_alone_from (dq V0 V4 V3))) (jk K 2 (bx U0 (bx U1 (iW)))) (i5) (bP (dq V2 V0 (bP (aO V1 V3))))) U6)
 (bo (aD gR V6 (cN 2 [2,4] (bG K (aL sp_alone_from (dq V1 V5 V3))) (jk K 2 (bx U0 (bx U1 (iW)))) (i5) (bP (dq V2 V0 (bP (aO V3 V1))))))))
def wZ:List Str:=["M","N","here","wires","one","other","doors"]
def y_(K:Za)(C_Machine:Addr)(sp_Machine_goals:Sp)(sp_Machine_says:Sp):TS :=
 bo (bZ C_Machine "goals" sp_Machine_goals [] E0 V0 (av V1 (av (bP (aO (tIf (aS (aD (ii K false) V2 (bZ C_Machine "says" sp_Machine_says [] E0 V0 aY))) (tC (.str "say")) (tC (.str "ask"))) V2)) aY)))
def As:List Str:=["M","room","word"]
def rT(K:Za)(sp_wire_goals:Sp):TS :=
 au (aT (bC (aY)) U4)
 (au (eA (bG K V3) U5 (au (aT (aL sp_wire_goals (dq V1 (aD (jg K) V2 (tC (.int 1))) V5)) U6)
 (eA (bG K (aL sp_wire_goals (dq V0 (aD (jg K) V2 (tC (.int 0))) V5))) U7 (cM (vi K "list" qC V4 (av (cN 1 [2,5,7] (bG K V6) U0 (i5) (bP (dq V1 (bP (aO (tC (.str "say")) V2)) (bP (aO V3 V0))))) aY))))))
 (bo V4))
def sK:List Str:=["M","N","here","wires","doors","word","others","goal"]
def rO(K:Za)(C_Machine:Addr)(sp_Machine_rooms:Sp):TS :=
 au (aT (bC (aY)) U2)
 (au (eA (bG K (bZ C_Machine "rooms" sp_Machine_rooms [] E0 V0 aY)) U3 (cM (vi K "list" qC V2 (aB (cN 1 [3] (bG K (bZ C_Machine "rooms" sp_Machine_rooms [] E0 V1 aY)) U0 (i5) (bP (aO V1 V0)))))))
 (bo V2))
def sE:List Str:=["M","N","pairs","room"]
theorem bc.mth{C x:Addr}{H:Hp}{g i rooms:Zb}{j:List ah}(h:bc C H x g i rooms j):∃(e:Addr) (fs:List (Str×V)),H x=some (.ins C e fs)/\lk "asks" fs=none/\lk "says" fs=none/\lk "rooms" fs=none/\lk "doors" fs=none/\lk "doors_from" fs=none/\lk "goals" fs=none:=by
 obtain⟨e,fs,u,v,w,y,z,A,B,D,E,k,l,m,f,a1,a2,a3,n,_⟩:=h.at_;obtain⟨o,p,a,q,r,s,t⟩:=h.more;rw[f]at a;cases a;exact⟨e,fs,f,q,r,n,s,t,a2⟩
theorem gH:∀a:List Str,DT.depths (a.map dh)=0
 |[]=>rfl
 |w::a=>by show max 0 (DT.depths (a.map dh))=0;rw[gH a];rfl
theorem o_{K:Za}{σ:L2.St}{H:Hp}{fi:List Nat}{a b l:Addr}{g os:Zb}{neg:Bool}{Q:Hp->Prop}(hσ:cP 1 fi σ=[none,some (.ref b)])(r:H a=some (.lst (g.map V.str)))(s:H b=some (.lst (os.map V.str)))(n:H l=none)(D:g.length<=900)
  (k:∀f,ab H f->f l=some (.lst ((g.filter fun w=>if neg=true then !decide (w∈os)else decide (w∈os)).map V.str))->Q f) :
  cF 1 fi σ (Ce K a) U0 (aS (aD (ii K neg) V0 V1)) V0 H l Q:=by
 let t:Nat->List V->Hp->Prop:=fun i j f=>j=((g.take i).filter fun w=>if neg=true then !decide (w∈os)else decide (w∈os)).map V.str/\ab H f/\f l=some (.lst j)
 refine bQ (xs:=g.map V.str) t ⟨rfl,ab.new n,aa⟩ (fun i j f _ u=>by obtain⟨_,S,y⟩:=u;exact⟨y,ay.of (S _ _ r)⟩) ?_ ?_
 ·rintro j p ⟨rfl,S,m⟩;rw[ai,bp]at m;exact k p S m
 ·rintro i j p x hx hi ⟨rfl,S,m⟩;obtain⟨w,q,rfl⟩:=bh hx;rw[hσ];refine gN ⟨_,rfl,_,rfl,dh w,os.map dh,b,_,rfl,rfl,.inl (ay.of (S _ _ s)),gu os,c_ _,by rw[gH];decide,_,rfl,?_⟩;have A:(dh w∈os.map dh)↔w∈os:=⟨fun z=>by obtain⟨v,B,e⟩:=aE.1 z;have e:DT.k (.inr v)=DT.k (.inr w):=e;injection e with e;injection e with e;rw[<-e];exact B,fQ⟩;have C:(if neg=true then !decide (dh w∈os.map dh)else decide (dh w∈os.map dh))=(if neg=true then !decide (w∈os)else decide (w∈os)):=by rw[decide_eq_decide.2 A]
  rw[C];by_cases c:(if neg=true then !decide (w∈os)else decide (w∈os))=true
  ·rw[c];refine bU ⟨_,rfl,m,?_,kL hi ⟨?_,fun b o e=>?_,aa⟩⟩
   ·have:=b_ (fun w=>if neg=true then !decide (w∈os)else decide (w∈os)) (g.take i)
    rw[aX]at this;rw[ai]at hi ⊢;exact aq (by omega)
   ·rw[take_snoc q,gQ,ar];have:[w].filter (fun w=>if neg=true then !decide (w∈os)else decide (w∈os))=[w]:=by rw[rh,if_pos c];rfl
    rw[this];rfl
   ·rw[aj (ae e n)];exact S _ _ e
  ·rw[Bool.eq_false_iff.2 c];refine bd (kL hi ⟨?_,S,m⟩);rw[take_snoc q,gQ];have:[w].filter (fun w=>if neg=true then !decide (w∈os)else decide (w∈os))=[]:=by rw[rh,if_neg c];rfl
   rw[this,dS]
inductive sp_common(vs:List V)(H:Hp)(Q:VK)(E:XK):Prop
 |mk (a b:Addr) (ws os:Zb):(vs=[.ref a,.ref b])->(H a=some (.lst (ws.map V.str)))->(H b=some (.lst (os.map V.str)))->(ws.length<=900)->(∀(l:Addr) (H':Hp),H' l=some (.lst ((ws.filter fun w=>decide (w∈os)).map V.str))->H l=none->ab H H'->Q (.ref l) H')->sp_common vs H Q E
theorem FL{K:Za}{e:List V}{H:Hp}{Q:VK}{E:XK}(h:sp_common e H Q E):Hj K (bN Q) (start Jh e) H:=by
 obtain⟨a,b,o,os,rfl,f,i,j,k⟩:=h;refine⟨_,rfl,a,rfl,⟨_,ay.of f⟩,fun l g=>?_⟩;exact o_ (neg:=false) rfl f i g j fun m S n=>k l m n g S
def aM(J0 J2 asks' says':Zb):List Str:=J2.filter (fun w=>decide (w∈asks'))++says'.filter fun w=>decide (w∈J0)
def dQ(J0 J2 asks' says':Zb):List Str:=(J0++asks').filter fun w=>!decide (w∈aM J0 J2 asks' says')
inductive mx(C:Addr)(vs:List V)(H:Hp)(Q:VK)(E:XK):Prop
 |mk (M N:Addr) (J0 J2 rooms asks' says' rooms':Zb) (ds ds':List ah):(vs=[.ref M,.ref N])->(bc C H M J0 J2 rooms ds)->(bc C H N asks' says' rooms' ds')->(∀(l:Addr) (H':Hp),H' l=some (.lst ((aM J0 J2 asks' says').map V.str))->H l=none->ab H H'->Q (.ref l) H')->mx C vs H Q E
theorem Hz{K:Za}{C:Addr}{vs:List V}{H:Hp}{Q:VK}{E:XK}(h:mx C vs H Q E):Cm K sp_common C (jY C) (jX C) (bN Q) (start DB vs) H:=by
 obtain⟨M,N,g,i,rooms,a,e,f,ds,t,rfl,L,U,k⟩:=h;have z1:=L.ok.says4;have z2:=U.ok.says4;obtain⟨Y,al,g1,b6,an,_⟩:=L.mth;refine⟨_,rfl,M,Y,al,rfl,g1,an,M,g,i,rooms,ds,rfl,L,fun r ap=>?_⟩;have j:ab H (upd H r (.lst (i.map V.str))):=ab.new ap;have u:upd H r (.lst (i.map V.str)) r=some (.lst (i.map V.str)):=aa;generalize upd H r (.lst (i.map V.str))=v at j u ⊢;have x:=U.same j;obtain⟨as,aC,h1,a0,b7,_⟩:=x.mth;refine⟨_,rfl,N,as,aC,rfl,h1,a0,N,a,e,f,t,rfl,x,fun m a4=>?_⟩;have n:ab v (upd v m (.lst (a.map V.str))):=ab.new a4;have y:upd v m (.lst (a.map V.str)) m=some (.lst (a.map V.str)):=aa;have z:=n _ _ u;show sp_common [.ref r,.ref m] (upd v m (.lst (a.map V.str))) _ _;generalize upd v m (.lst (a.map V.str))=F1 at n y z ⊢;refine⟨r,m,i,a,rfl,z,y,by omega,fun la O a5 b4 a6=>?_⟩;have T:=(j.trans n).trans a6;have a7:=L.same T;have A:=U.same T;obtain⟨a8,a9,g2,b8,bb,_⟩:=A.mth;refine⟨_,rfl,N,a8,a9,rfl,g2,bb,N,a,e,f,t,rfl,A,fun s bi=>?_⟩;have o:ab O (upd O s (.lst (e.map V.str))):=ab.new bi;have B:upd O s (.lst (e.map V.str)) s=some (.lst (e.map V.str)):=aa;generalize upd O s (.lst (e.map V.str))=D at o B ⊢;have G:=a7.same o;obtain⟨bl,bn,h2,b0,b9,_⟩:=G.mth;refine⟨_,rfl,M,bl,bn,rfl,h2,b0,M,g,i,rooms,ds,rfl,G,fun p b1=>?_⟩;have q:ab D (upd D p (.lst (g.map V.str))):=ab.new b1;have I:upd D p (.lst (g.map V.str)) p=some (.lst (g.map V.str)):=aa;have J:=q _ _ B;show sp_common [.ref s,.ref p] (upd D p (.lst (g.map V.str))) _ _;generalize upd D p (.lst (g.map V.str))=F2 at q I J ⊢;refine⟨s,p,e,g,rfl,J,I,by omega,fun lb H2 b2 b5 b3=>?_⟩;have S2:=(o.trans q).trans b3;refine⟨la,lb,_,_,rfl,rfl,S2 _ _ a5,b2,?_,fun l hl=>?_⟩
 ·rw[ai,ai];have h1:=b_ (fun w=>decide (w∈a)) i;have h2:=b_ (fun w=>decide (w∈g)) e;exact cz (aq (by omega))
 exact k l _ (by rw[aa,<-ar];rfl) ((T.trans S2).free hl) ((T.trans S2).trans (ab.new hl))
inductive mz(C:Addr)(vs:List V)(H:Hp)(Q:VK)(E:XK):Prop
 |mk (M N:Addr) (J0 J2 rooms asks' says' rooms':Zb) (ds ds':List ah):(vs=[.ref M,.ref N])->(bc C H M J0 J2 rooms ds)->(bc C H N asks' says' rooms' ds')->(∀(l:Addr) (H':Hp),H' l=some (.lst ((dQ J0 J2 asks' says').map V.str))->H l=none->ab H H'->Q (.ref l) H')->mz C vs H Q E
theorem HM{K:Za}{C:Addr}{B:List V}{H:Hp}{Q:VK}{E:XK}(h:mz C B H Q E):u2 K C (jY C) (mx C) (bN Q) (start v9 B) H:=by
 obtain⟨M,N,i,D,rooms,a,f,e,G,m,rfl,t,u,k⟩:=h;have z1:=t.ok.asks4;have z2:=u.ok.asks4;refine⟨_,rfl,_,rfl,M,N,i,D,rooms,a,f,e,G,m,rfl,t,u,fun wl q x _ r=>?_⟩;have n:=t.same r;obtain⟨T,fs,g,a1,_⟩:=n.mth;refine⟨_,rfl,M,T,fs,rfl,g,a1,M,i,D,rooms,G,rfl,n,fun w U=>?_⟩;have y:ab q (upd q w (.lst (i.map V.str))):=ab.new U;have I:upd q w (.lst (i.map V.str)) w=some (.lst (i.map V.str)):=aa;generalize upd q w (.lst (i.map V.str))=o at y I ⊢;have p:=u.same (r.trans y);obtain⟨Y,gs,g',b1,_⟩:=p.mth;refine⟨_,rfl,N,Y,gs,rfl,g',b1,N,a,f,e,m,rfl,p,fun v hv=>?_⟩;have z:ab o (upd o v (.lst (a.map V.str))):=ab.new hv;have J:upd o v (.lst (a.map V.str)) v=some (.lst (a.map V.str)):=aa;show gR (.ref w) (.ref v) (upd o v (.lst (a.map V.str))) _;generalize upd o v (.lst (a.map V.str))=s at z J ⊢;refine⟨w,v,_,_,rfl,rfl,z _ _ I,J,by rw[ai,ai];exact cz (aq (by omega)),fun c hc=>?_⟩;have L:ab s (upd s c (.lst (i.map V.str++a.map V.str))):=ab.new hc;have O:upd s c (.lst (i.map V.str++a.map V.str)) c=some (.lst ((i++a).map V.str)):=by rw[aa,ar]
 refine⟨c,rfl,⟨_,ay.of aa⟩,fun l A=>?_⟩;generalize upd s c (.lst (i.map V.str++a.map V.str))=H4 at L O A ⊢;have j:=y.trans (z.trans L);refine o_ (neg:=true) rfl O (j _ _ x) A (by rw[aA];omega) fun H' S h'=>k l H' h' ((r.trans j).free A) (r.trans (j.trans S))
theorem bc.own{C x:Addr}{H:Hp}{k l rooms:Zb}{i:List ah}(h:bc C H x k l rooms i):∃(g e:Addr) (fs:List (Str×V)) (f:Ze),H x=some (.ins C g fs)/\lk "rooms" fs=none/\lk "doors" fs=none/\lk "own_doors" fs=some (.ref e)/\H e=some (.lst (f.map V.ref))/\dg H f i:=by
 obtain⟨g,fs,u,v,w,e,y,z,A,B,f,m,n,o,j,a1,a2,a3,p,D,E,G,q,I,J,M,N,L,_⟩:=h.at_;obtain⟨r,s,a,O,Q,t,T⟩:=h.more;rw[j]at a;cases a;exact⟨g,e,fs,f,j,p,t,q,L.a4,L.ds⟩
inductive qb(C:Addr)(vs:List V)(H:Hp)(Q:VK)(E:XK):Prop
 |mk (M:Addr) (J0 J2 rooms:Zb) (ds:List ah):(vs=[.ref M])->(bc C H M J0 J2 rooms ds)->(rooms.length<=10)->(ds.length<=40)->(∀H',ab H H'->Q (.bl true) H')->qb C vs H Q E
theorem HB{K:Za}{C:Addr}{s:List V}{H:Hp}{Q:VK}{E:XK}(h:qb C s H Q E):Cv K C (qp C) (fX C) (bN Q) (start DM s) H:=by
 obtain⟨M,x,y,rooms,z,rfl,i,L,N,k⟩:=h;obtain⟨A,O,fs,T,g,a1,a2,_⟩:=i.own;refine⟨_,rfl,M,A,fs,rfl,g,a1,M,x,y,rooms,z,rfl,i,fun w B=>?_⟩;have j:ab H (upd H w (.lst (rooms.map V.str))):=ab.new B;have t:upd H w (.lst (rooms.map V.str)) w=some (.lst (rooms.map V.str)):=aa;generalize upd H w (.lst (rooms.map V.str))=l at j t ⊢;refine .inl ⟨w,_,rfl,.inl (ay.of t),_,_,rfl,rfl,_,rfl,?_⟩;rw[ai,zzr1 (by omega)];refine bU ?_;have m:=i.same j;obtain⟨e,n,f,a,u,D,o,p,q,r⟩:=m.own;refine⟨_,rfl,M,e,f,rfl,u,o,M,e,n,f,a,rfl,u,p,q,fun v G=>?_⟩;have I:ab l (upd l v (.lst (a.map V.ref))):=ab.new G;have J:upd l v (.lst (a.map V.ref)) v=some (.lst (a.map V.ref)):=aa;refine .inl ⟨v,_,rfl,.inl (ay.of J),_,_,rfl,rfl,?_⟩;have:=Paired.length r;rw[ai];show Q (.bl (decide ((a.length:Int)<=40))) _;rw[zzr1 (by omega)];exact k _ (j.trans I)
structure JoinOk(J0 J2 rooms asks' says' rooms':Zb)(ds ds':List ah):Prop where
 r1:rooms.length<=10
 d1:ds.length<=40
 r2:rooms'.length<=10
 d2:ds'.length<=40
 apA:∀w∈J0,w∉asks'
 apS:∀w∈J2,w∉says'
 a0:dQ J0 J2 asks' says'≠[]
 a4:(dQ J0 J2 asks' says').length<=4
 s4:(J2++says').length<=4
inductive qe(C:Addr)(vs:List V)(H:Hp)(Q:VK)(E:XK):Prop
 |mk (M N:Addr) (J0 J2 rooms asks' says' rooms':Zb) (ds ds':List ah):(vs=[.ref M,.ref N])->(bc C H M J0 J2 rooms ds)->(bc C H N asks' says' rooms' ds')->(JoinOk J0 J2 rooms asks' says' rooms' ds ds')->(∀H',ab H H'->Q .non H')->qe C vs H Q E
theorem tD{a os:Zb}(h:∀w∈a,w∉os):a.filter (fun w=>decide (w∈os))=[]:=List.filter_eq_nil_iff.2 fun w e z=>h w e (of_decide_eq_true z)
theorem HE{K:Za}{C:Addr}{vs:List V}{H:Hp}{Q:VK}{E:XK}(h:qe C vs H Q E):AO K C (jX C) (mz C) sp_common (jY C) (qb C) (bN Q) (start BY vs) H:=by
 obtain⟨M,N,n,i,rooms,e,a,f,L,l,rfl,o,p,J,k⟩:=h;have y1:=o.ok.asks4;have y2:=o.ok.says4;have y3:=p.ok.asks4;have y4:=p.ok.says4;refine⟨_,rfl,M,n,i,rooms,L,rfl,o,J.r1,J.d1,fun H1 S1=>⟨_,rfl,bd ?_⟩⟩;refine⟨_,rfl,N,e,a,f,l,rfl,p.same S1,J.r2,J.d2,fun H2 S2=>⟨_,rfl,bd ?_⟩⟩;have u:=S1.trans S2;obtain⟨dx,fs,g,a1,_⟩:=(o.same u).mth;refine⟨_,rfl,M,dx,fs,rfl,g,a1,M,n,i,rooms,L,rfl,o.same u,fun w hw=>?_⟩;have S3:ab H2 (upd H2 w (.lst (n.map V.str))):=ab.new hw;have w3:upd H2 w (.lst (n.map V.str)) w=some (.lst (n.map V.str)):=aa;generalize upd H2 w (.lst (n.map V.str))=T at S3 w3 ⊢;have x:=u.trans S3;obtain⟨a6,a7,g',b1,_⟩:=(p.same x).mth;refine⟨_,rfl,N,a6,a7,rfl,g',b1,N,e,a,f,l,rfl,p.same x,fun v hv=>?_⟩;have S4:ab T (upd T v (.lst (e.map V.str))):=ab.new hv;have v4:upd T v (.lst (e.map V.str)) v=some (.lst (e.map V.str)):=aa;show sp_common [.ref w,.ref v] (upd T v (.lst (e.map V.str))) _ _;generalize upd T v (.lst (e.map V.str))=H4 at S4 v4 ⊢;refine⟨w,v,n,e,rfl,S4 _ _ w3,v4,by omega,fun c H5 hc _ S5=>?_⟩;rw[tD J.apA]at hc;refine .inl ⟨c,_,rfl,.inl (ay.of hc),_,_,rfl,rfl,_,rfl,?_⟩;rw[zzr0 (by decide)];refine bd ?_;have y:=x.trans (S4.trans S5);obtain⟨ex,es,e1,_,e2,_⟩:=(o.same y).mth;refine⟨_,rfl,M,ex,es,rfl,e1,e2,M,n,i,rooms,L,rfl,o.same y,fun O a8=>?_⟩;have S6:ab H5 (upd H5 O (.lst (i.map V.str))):=ab.new a8;have w6:upd H5 O (.lst (i.map V.str)) O=some (.lst (i.map V.str)):=aa;generalize upd H5 O (.lst (i.map V.str))=U at S6 w6 ⊢;have A:=y.trans S6;obtain⟨a9,bb,bi,_,bl,_⟩:=(p.same A).mth;refine⟨_,rfl,N,a9,bb,rfl,bi,bl,N,e,a,f,l,rfl,p.same A,fun B bn=>?_⟩;have S7:ab U (upd U B (.lst (a.map V.str))):=ab.new bn;have v7:upd U B (.lst (a.map V.str)) B=some (.lst (a.map V.str)):=aa;show sp_common [.ref O,.ref B] (upd U B (.lst (a.map V.str))) _ _;generalize upd U B (.lst (a.map V.str))=H7 at S7 v7 ⊢;refine⟨O,B,i,a,rfl,S7 _ _ w6,v7,by omega,fun c2 H8 Y _ S8=>?_⟩;rw[tD J.apS]at Y;refine .inl ⟨c2,_,rfl,.inl (ay.of Y),_,_,rfl,rfl,_,rfl,?_⟩;rw[zzr0 (by decide)];refine bd ?_;have D:=A.trans (S7.trans S8);refine⟨_,rfl,_,rfl,M,N,n,i,rooms,e,a,f,L,l,rfl,o.same D,p.same D,fun al H9 b0 _ S9=>?_⟩;refine .inl ⟨al,_,rfl,.inl (ay.of b0),rfl,_,rfl,?_⟩;have cd:=uE.2 J.a0;rw[ai,zzr0 (by intro z;injection z with z;omega)];refine bd ?_;have G:=D.trans S9;refine⟨_,rfl,_,rfl,M,N,n,i,rooms,e,a,f,L,l,rfl,o.same G,p.same G,fun b2 t an _ b3=>?_⟩;have a4:=J.a4;have s4:=J.s4;refine .inl ⟨b2,_,rfl,.inl (ay.of an),_,_,rfl,rfl,_,rfl,?_⟩;rw[ai,zzr0 (by omega)];refine bd ?_;have q:=G.trans b3;obtain⟨fx,fz,f1,_,f2,_⟩:=(o.same q).mth;refine⟨_,rfl,M,fx,fz,rfl,f1,f2,M,n,i,rooms,L,rfl,o.same q,fun m b4=>?_⟩;have ap:ab t (upd t m (.lst (i.map V.str))):=ab.new b4;have as:upd t m (.lst (i.map V.str)) m=some (.lst (i.map V.str)):=aa;generalize upd t m (.lst (i.map V.str))=r at ap as ⊢;have s:=q.trans ap;obtain⟨b5,b6,b7,_,b8,_⟩:=(p.same s).mth;refine⟨_,rfl,N,b5,b6,rfl,b7,b8,N,e,a,f,l,rfl,p.same s,fun j b9=>?_⟩;have I:ab r (upd r j (.lst (a.map V.str))):=ab.new b9;have aC:upd r j (.lst (a.map V.str)) j=some (.lst (a.map V.str)):=aa;show gR (.ref m) (.ref j) (upd r j (.lst (a.map V.str))) _;generalize upd r j (.lst (a.map V.str))=a5 at I aC ⊢;rw[aA]at s4;refine⟨m,j,_,_,rfl,rfl,I _ _ as,aC,by rw[ai,ai];exact cz (aq (by omega)),fun c3 ca=>?_⟩;have cc:ab a5 (upd a5 c3 (.lst (i.map V.str++a.map V.str))):=ab.new ca;refine .inl ⟨c3,_,rfl,.inl (ay.of aa),_,_,rfl,rfl,_,rfl,?_⟩;rw[aA,ai,ai,zzr0 (by omega)];exact bd (k _ (s.trans (I.trans cc)))
def aN(rooms rooms':Zb):List (Str×Str):=rooms.flatMap fun r=>rooms'.map fun o=>(r,o)
def MQ(H:Hp)(u:Addr)(p:Str×Str):Prop:=H u=some (.tup [.str p.1,.str p.2])
theorem Bo{rooms a:Zb}{i:Nat}{r:Str}(h:rooms[i]?=some r):aN (rooms.take (i+1)) a=aN (rooms.take i) a++a.map fun o=>(r,o):=by
 unfold aN;rw[take_snoc h,oo,yf]
theorem io{rooms a:Zb}:(aN rooms a).length=rooms.length * a.length:=by
 unfold aN
 induction rooms with
 |nil=>simp
 |cons r f e=>rw[List.flatMap_cons,aA,e,ai,fF,Nat.succ_mul,Nat.add_comm]
inductive m8(C:Addr)(vs:List V)(H:Hp)(Q:VK)(E:XK):Prop
 |mk (M N:Addr) (J0 J2 rooms asks' says' rooms':Zb) (ds ds':List ah):(vs=[.ref M,.ref N])->(bc C H M J0 J2 rooms ds)->(bc C H N asks' says' rooms' ds')->(rooms.length<=10)->(rooms'.length<=10)->(∀(l:Addr) (us:Ze) (H':Hp),H' l=some (.lst (us.map V.ref))->Paired (MQ H') us (aN rooms rooms')->H l=none->ab H H'->Q (.ref l) H')->m8 C vs H Q E
theorem FC{K:Za}{C:Addr}{vs:List V}{H:Hp}{Q:VK}{E:XK}(h:m8 C vs H Q E):rO K C (fX C) (bN Q) (start sE vs) H:=by
 obtain⟨M,N,J0,J2,rooms,m,p,a,ds,al,rfl,MM,MN,z1,z2,k⟩:=h;refine⟨(by show 0<=ak;decide),fun e s=>?_⟩;have O:ab H (upd H e (.lst [])):=ab.new s;have p0:upd H e (.lst []) e=some (.lst (([]:Ze).map V.ref)):=aa;generalize upd H e (.lst [])=T at O p0 ⊢;obtain⟨dx,fs,g,_,_,a1,_⟩:=(MM.same O).mth;refine⟨_,rfl,M,dx,fs,rfl,g,a1,M,J0,J2,rooms,ds,rfl,MM.same O,fun t B=>?_⟩;have S1:ab T (upd T t (.lst (rooms.map V.str))):=ab.new B;have r1:upd T t (.lst (rooms.map V.str)) t=some (.lst (rooms.map V.str)):=aa;have an:t≠e:=(ae p0 B).symm;refine⟨t,rfl,⟨_,ay.of aa⟩,?_⟩;generalize upd T t (.lst (rooms.map V.str))=H1 at S1 r1 ⊢
 let zI:Nat->L2.St->Hp->Prop:=fun i σ f=>GL fun(v:Ze) (x3:Option V)=>KH (σ=[some (.ref M),some (.ref N),some (.ref e),x3]) (f e=some (.lst (v.map V.ref))) (Paired (MQ f) v (aN (rooms.take i) a)) (ab H f) (f t=some (.lst (rooms.map V.str)))
 refine bw (xs:=rooms.map V.str) zI ⟨[],_,rfl,S1 _ _ p0,.nil,O.trans S1,r1⟩ (fun i σ f _ zq=>by obtain⟨_,_,_,_,_,_,h'⟩:=zq;exact ay.of h') ?_ ?_;rotate_left
 ·rintro σ z ⟨v,x3,rfl,U,D,G,_⟩;rw[ai,bp]at D;exact⟨_,rfl,k e v z U D s G⟩
 rintro i x σ z hx ⟨v,x3,rfl,U,D,G,ap⟩;obtain⟨r,hr,rfl⟩:=bh hx;have il:=(bM.1 hr).1;obtain⟨dy,gs,g',_,_,b1,_⟩:=(MN.same G).mth;refine⟨_,rfl,.inl ⟨rfl,_,ay.of U⟩,_,rfl,N,dy,gs,rfl,g',b1,N,m,p,a,al,rfl,MN.same G,fun I as=>?_⟩;have S3:ab z (upd z I (.lst (a.map V.str))):=ab.new as;have o3:upd z I (.lst (a.map V.str)) I=some (.lst (a.map V.str)):=aa;refine⟨I,rfl,⟨_,ay.of aa⟩,fun cl w=>?_⟩;generalize upd z I (.lst (a.map V.str))=H3 at S3 o3 w ⊢
 let zC:Nat->List V->Hp->Prop:=fun n vs f=>∃l:List Addr,Js (vs=l.map V.ref) (ab H3 f) (f cl=some (.lst vs)) (Paired (MQ f) l ((a.take n).map fun o=>(r,o)))
 refine bQ (xs:=a.map V.str) zC ⟨[],rfl,ab.new w,aa,.nil⟩ (fun i vs f _ zq=>by obtain⟨_,_,S,h',_⟩:=zq;exact⟨h',ay.of (S _ _ o3)⟩) ?_ ?_
 ·rintro vs y ⟨l,rfl,S4,Y,A⟩;rw[ai,bp]at A;have j:=S3.trans S4;have J:=j _ _ U;have lu:=Paired.length D;have lw:=Paired.length A;rw[io,aX]at lu;rw[ai]at lw;have a0:min i rooms.length * a.length<=10 * 10:=rg (by omega) z2;have kt:gx y (upd y e (.lst (v.map V.ref++l.map V.ref))):=cO J;refine⟨e,cl,_,_,rfl,rfl,J,Y,by rw[ai,ai];exact cz (aq (by omega)),v++l,_,rfl,by rw[aa,ar],?_,fun b o q=>?_,?_⟩
  ·rw[Bo hr];exact Paired.app (Paired.mapP D fun _ _ q=>kt _ _ (j _ _ q)) (Paired.mapP A fun _ _ q=>kt _ _ q)
  ·rw[aj (ae q s)];exact j _ _ (G _ _ q)
  ·rw[aj an];exact j _ _ ap
 ·rintro n vs y x hx hn ⟨l,rfl,S4,Y,A⟩;obtain⟨o,ho,rfl⟩:=bh hx;have nl:=(bM.1 ho).1;refine gN (pS ⟨_,rfl,_,rfl,(by show 2<=ak;decide),fun u aC=>?_⟩);have L:ab y (upd y u (.tup [.str r,.str o])):=ab.new aC;have u5:upd y u (.tup [.str r,.str o]) u=some (.tup [.str r,.str o]):=aa;generalize upd y u (.tup [.str r,.str o])=H5 at L u5 ⊢;have kt:gx H5 (upd H5 cl (.lst (l.map V.ref++[.ref u]))):=cO (L _ _ Y);refine⟨L _ _ Y,by rw[ai,Paired.length A,ai,aX];exact aq (by omega),kL hn ⟨l++[u],by rw[ar];rfl,fun b o q=>?_,aa,?_⟩⟩
  ·rw[aj (ae q w)];exact L _ _ (S4 _ _ q)
  ·rw[take_snoc ho,ar];exact ee (Paired.mapP A fun _ _ q=>kt _ _ (L _ _ q)) (kt _ _ u5)
def cZ(J2:Zb)(w:Str):List Str:=if w∈J2 then cv w else bT w
inductive p_(C:Addr)(vs:List V)(H:Hp)(Q:VK)(E:XK):Prop
 |mk (M:Addr) (r w:Str) (J0 J2 rooms:Zb) (ds:List ah):(vs=[.ref M,.str r,.str w])->(bc C H M J0 J2 rooms ds)->(∀(l:Addr) (H':Hp),H' l=some (.lst ((aF ds (r,cZ J2 w)).map V.str))->H l=none->ab H H'->Q (.ref l) H')->p_ C vs H Q E
def oK(sg:Zb):Str:=sg.getD 1 ""
def cW(wires:Zb)(d:ah):Bool:=decide (d.sg=ao) || !decide (oK d.sg∈wires)
def lz(ds:List ah)(r:Str)(wires:Zb):List ah:=(bJ ds r).filter (cW wires)
def DP(H:Hp)(u:Addr)(d:ah):Prop:=∃s,H u=some (.tup [.ref s,.str d.b])/\SignAt H s d.sg
theorem DP.kt{H H':Hp}{u:Addr}{d:ah}(k:gx H H')(h:DP H u d):DP H' u d:=by
 obtain⟨s,a,e⟩:=h;exact⟨s,k _ _ a,k _ _ e⟩
theorem qQ{l:List ah}{p:ah->Bool}{i:Nat}{e:ah}(h:l[i]?=some e):(l.take (i+1)).filter p=(l.take i).filter p++(if p e=true then[e]else[]):=by
 rw[take_snoc h,gQ];by_cases c:p e=true
 ·rw[if_pos c];simp[c]
 ·rw[if_neg c];simp[c]
theorem tj{ds:List ah}{r:Str}:(bJ ds r).length<=ds.length:=by
 unfold bJ
 first|exact b_ _ _|(rw[ai];exact b_ _ _)
inductive qq(C:Addr)(vs:List V)(H:Hp)(Q:VK)(E:XK):Prop
 |mk (M wl:Addr) (r:Str) (J0 J2 rooms wires:Zb) (ds:List ah):(vs=[.ref M,.str r,.ref wl])->(bc C H M J0 J2 rooms ds)->(r∈rooms)->(H wl=some (.lst (wires.map V.str)))->(ds.length<=40)->(∀(l:Addr) (us:Ze) (H':Hp),H' l=some (.lst (us.map V.ref))->Paired (DP H') us (lz ds r wires)->H l=none->ab H H'->Q (.ref l) H')->qq C vs H Q E
theorem HP{K:Za}{C st:Addr}(al:∀H,br K H st (ao.map V.str)){p:List V}{H:Hp}{Q:VK}{E:XK}(h:qq C p H Q E):zn K C (iF C) st (bN Q) (start Ay p) H:=by
 obtain⟨M,wl,r,J0,J2,rooms,f,ds,rfl,MA,hr,an,zd,k⟩:=h;obtain⟨dx,fs,g,_,_,_,_,a5,_⟩:=MA.mth;refine⟨_,rfl,M,dx,fs,rfl,g,a5,_,rfl,M,r,J0,J2,rooms,ds,rfl,MA,hr,fun dl us H1 N y _ S1=>⟨dl,rfl,⟨_,ay.of N⟩,fun O A=>?_⟩⟩;have t:∀d∈bJ ds r,wc J0 J2 rooms d:=fun d B=>MA.ok.good d (by unfold bJ at B;exact(bW.1 B).1);have ll:=tj (ds:=ds) (r:=r);unfold lz at k;generalize bJ ds r=L at y t ll k
 let zC:Nat->List V->Hp->Prop:=fun n p Y=>∃l:List Addr,Js (p=l.map V.ref) (ab H1 Y) (Y O=some (.lst p)) (Paired (DP Y) l ((L.take n).filter (cW f)))
 refine bQ (xs:=us.map V.ref) zC ⟨[],rfl,ab.new A,aa,.nil⟩ (fun i p Y _ zq=>by obtain⟨_,_,S,h',_⟩:=zq;exact⟨h',ay.of (S _ _ N)⟩) ?_ ?_
 ·rintro p m ⟨l,rfl,D,T,I⟩;rw[ai,Paired.length y,bp]at I;exact k O l m T I (S1.free A) (S1.trans D)
 ·rintro n p m x hx hn ⟨l,rfl,D,T,I⟩;obtain⟨u,hu,rfl⟩:=cg hx;obtain⟨d,B,s,g1,g2⟩:=Paired.getL y hu;have nl:=(bM.1 B).1;have ap:=D _ _ g1;have G:m s=some (.tup (d.sg.map V.str)):=D _ _ g2;refine⟨u,_,rfl,br.of ap,rfl,_,_,rfl,_,_,rfl,_,_,rfl,rfl,?_⟩;refine⟨_,rfl,fT d.sg,fT ao,aW (br.of G),aW (al m),by rw[bz];decide,by rw[bz];decide,_,rfl,?_⟩;rw[eI];have U:cW f d=true->(bP (aO V1 V2)) [some (.str d.a),some (.ref s),some (.str d.b),some (.ref wl)] m fun v H6=>H6 O=some (.lst (l.map V.ref))/\(l.map V.ref).length<ak/\∃m',m'<(us.map V.ref).length-n/\Wc (us.map V.ref).length zC (n+1) m' (l.map V.ref++[v]) (upd H6 O (.lst (l.map V.ref++[v]))):=fun c=>by
   refine⟨_,rfl,_,rfl,(by show 2<=ak;decide),fun q hq=>?_⟩;have J:ab m (upd m q (.tup [.ref s,.str d.b])):=ab.new hq;have q3:upd m q (.tup [.ref s,.str d.b]) q=some (.tup [.ref s,.str d.b]):=aa;generalize upd m q (.tup [.ref s,.str d.b])=H3 at J q3 ⊢;have kt:gx H3 (upd H3 O (.lst (l.map V.ref++[.ref q]))):=cO (J _ _ T);refine⟨J _ _ T,?_,kL hn ⟨l++[q],by rw[ar];rfl,fun b o e=>?_,aa,?_⟩⟩
   ·have:=b_ (cW f) (L.take n);rw[aX]at this;rw[ai,Paired.length I];exact aq (by omega)
   ·rw[aj (ae e A)];exact J _ _ (D _ _ e)
   ·rw[qQ B,if_pos c];exact ee (Paired.mapP I fun _ _ x=>DP.kt (fun b xs e=>kt _ _ (J _ _ e)) x) ⟨s,kt _ _ q3,kt _ _ (J _ _ G)⟩
  by_cases c:d.sg=ao
  ·rw[zzr1 c];exact bU (bU (U (by unfold cW;rw[zzr1 c];rfl)))
  rw[zzr0 c];obtain⟨kd,w,ew⟩:∃kd w,d.sg=[kd,w]:=by
   rcases(t d (bX B)).sg with⟨w,_,e⟩|⟨w,_,e⟩|e
   ·exact⟨_,w,e⟩
   ·exact⟨_,w,e⟩
   ·exact absurd e c
  have ea:cW f d=!decide (w∈f):=by unfold cW oK;rw[zzr0 c,ew];rfl
  refine bd ⟨_,rfl,s,_,1,.str w,rfl,rfl,br.of G,by rw[ew];exact cn (j:=1) rfl,_,rfl,dh w,f.map dh,wl,_,rfl,rfl,.inl (ay.of ((S1.trans D) _ _ an)),gu f,c_ _,by rw[gH];decide,_,rfl,?_⟩;have em:(dh w∈f.map dh)↔w∈f:=⟨fun z=>by obtain⟨v,hv,e⟩:=aE.1 z;have e:DT.k (.inr v)=DT.k (.inr w):=e;injection e with e;injection e with e;rw[<-e];exact hv,fQ⟩;have ec:(if true=true then !decide (dh w∈f.map dh)else decide (dh w∈f.map dh))=cW f d:=by
   rw[ea];show(!decide (dh w∈f.map dh))=_;rw[decide_eq_decide.2 em]
  rw[ec];by_cases cc:cW f d=true
  ·rw[cc];exact bU (U cc)
  ·rw[Bool.eq_false_iff.2 cc];refine bd (kL hn ⟨l,rfl,D,T,?_⟩);rw[qQ B,if_neg cc,dS];exact I
structure JD where
 a:Str×Str
 sg:List Str
 b:Str×Str
def Ie(p:Str×Str):List V:=[.str p.1,.str p.2]
def iw(K:Za)(H:Hp)(u:Addr)(e:JD):Prop:=∃h s g:Addr,H u=some (.tup [.ref h,.ref s,.ref g])/\bV K H h (Ie e.a)/\SignAt H s e.sg/\H g=some (.tup (Ie e.b))
theorem iw.kt{K:Za}{H a:Hp}{u:Addr}{e:JD}(k:gx H a)(h:iw K H u e):iw K a u e:=by
 obtain⟨x,s,g,f,i,j,l⟩:=h;exact⟨x,s,g,k _ _ f,bV.kt k i,k _ _ j,k _ _ l⟩
theorem vQ{K:Za}{σ:L2.St}{H:Hp}{M l w:Addr}{fi:List Nat}{B:Ze}{L:List ah}{p:Str×Str}{x:Str}{N:TE}{f:ah->JD}{Q:Hp->Prop}(hσ:cP 2 fi σ=[none,none,some (.ref w),some (.str x)])(C:H M=some (.lst (B.map V.ref)))(O:Paired (DP H) B L)(Y:bV K H w (Ie p))(m:H l=none)(hz:L.length<=900)
  (D:∀(d:ah) (s:Addr) (J:Hp) (R:VK),J s=some (.tup (d.sg.map V.str))->bV K J w (Ie p)->(∀(q:Addr) (E:Hp),iw K E q (f d)->ab J E->R (.ref q) E)->N [some (.ref s),some (.str d.b),some (.ref w),some (.str x)] J R)
  (k:∀(a:Ze) (g:Hp),g l=some (.lst (a.map V.ref))->Paired (iw K g) a (L.map f)->ab H g->Q g) :
  cF 2 fi σ (Ce K M) (jk K 2 (bx U0 (bx U1 (iW)))) (i5) N H l Q:=by
 let zC:Nat->List V->Hp->Prop:=fun n t g=>∃a:List Addr,Js (t=a.map V.ref) (ab H g) (g l=some (.lst t)) (Paired (iw K g) a ((L.take n).map f))
 refine bQ (xs:=B.map V.ref) zC ⟨[],rfl,ab.new m,aa,.nil⟩ (fun i t g _ zq=>by obtain⟨_,_,S,h',_⟩:=zq;exact⟨h',ay.of (S _ _ C)⟩) ?_ ?_
 ·rintro t G ⟨a,rfl,j,z,v⟩;rw[ai,Paired.length O,bp]at v;exact k a G z v j
 ·rintro n t G y hy hn ⟨a,rfl,j,z,v⟩;obtain⟨u,I,rfl⟩:=cg hy;obtain⟨d,T,s,g1,g2⟩:=Paired.getL O I;have nl:=(bM.1 T).1;rw[hσ];refine⟨u,_,rfl,br.of (j _ _ g1),rfl,_,_,rfl,_,_,rfl,rfl,pS ?_⟩;refine D d s G _ (j _ _ g2) (bV.kt (ab.kt j) Y) fun q U hq A=>?_;have kt:gx U (upd U l (.lst (a.map V.ref++[.ref q]))):=cO (A _ _ z);refine⟨A _ _ z,by rw[ai,Paired.length v,ai,aX];exact aq (by omega),kL hn ⟨a++[q],by rw[ar];rfl,fun b o e=>?_,aa,?_⟩⟩
  ·rw[aj (ae e m)];exact A _ _ (j _ _ e)
  ·rw[take_snoc T,ar];exact ee (Paired.mapP v fun _ _ r=>iw.kt (fun b xs e=>kt _ _ (A _ _ e)) r) (hq.kt kt)
def pd(ds ds':List ah)(wires:Zb)(p:Str×Str):List JD:=(lz ds p.1 wires).map (fun d=>⟨p,d.sg,(d.b,p.2)⟩)++(lz ds' p.2 wires).map fun d=>⟨p,d.sg,(p.1,d.b)⟩
theorem vY{ds:List ah}{r:Str}{wires:Zb}:(lz ds r wires).length<=ds.length:=bI (b_ _ _) tj
inductive ni(K:Za)(C:Addr)(vs:List V)(H:Hp)(Q:VK)(E:XK):Prop
 |mk (M N hr wl:Addr) (p:Str×Str) (J0 J2 rooms asks' says' rooms' wires:Zb) (ds ds':List ah):(vs=[.ref M,.ref N,.ref hr,.ref wl])->(bc C H M J0 J2 rooms ds)->(bc C H N asks' says' rooms' ds')->(bV K H hr (Ie p))->(p.1∈rooms)->(p.2∈rooms')->(H wl=some (.lst (wires.map V.str)))->(ds.length<=40)->(ds'.length<=40)->(∀(l:Addr) (us:Ze) (H':Hp),H' l=some (.lst (us.map V.ref))->Paired (iw K H') us (pd ds ds' wires p)->H l=none->ab H H'->Q (.ref l) H')->ni K C vs H Q E
theorem FK{K:Za}{C:Addr}{vs:List V}{H:Hp}{Q:VK}{E:XK}(h:ni K C vs H Q E):wx K (qq C) (bN Q) (start wZ vs) H:=by
 obtain⟨M,N,o,wl,p,J0,J2,rooms,t,u,i,a,ds,x,rfl,MM,MN,O,p1,p2,y,z1,z2,k⟩:=h;refine⟨_,rfl,o,_,rfl,bV.sq O,rfl,_,_,rfl,_,_,rfl,rfl,?_⟩;refine⟨_,rfl,_,rfl,_,rfl,M,wl,p.1,J0,J2,rooms,a,ds,rfl,MM,p1,y,z1,fun al us H1 z T _ S1=>⟨al,rfl,⟨_,ay.of z⟩,fun cl U=>?_⟩⟩;have l1:=vY (ds:=ds) (r:=p.1) (wires:=a);have l2:=vY (ds:=x) (r:=p.2) (wires:=a);refine vQ (p:=p) (f:=fun d=>⟨p,d.sg,(d.b,p.2)⟩) rfl z T (bV.kt (ab.kt S1) O) U (by omega) (fun d s J R Y v kk=>?_) fun ws H2 h2 hw S2=>?_
 ·refine⟨_,rfl,_,rfl,_,rfl,_,rfl,(by show 2<=ak;decide),fun g hg=>⟨(by show 3<=ak;decide),fun q w=>?_⟩⟩;have Sg:ab J (upd J g (.tup [.str d.b,.str p.2])):=ab.new hg;have A:upd J g (.tup [.str d.b,.str p.2]) g=some (.tup (Ie (d.b,p.2))):=aa
  change upd J g (.tup [.str d.b,.str p.2]) q=none at w
  show R (.ref q) (upd (upd J g (.tup [.str d.b,.str p.2])) q (.tup [.ref o,.ref s,.ref g]));generalize upd J g (.tup [.str d.b,.str p.2])=B at Sg A w ⊢;have j:ab B (upd B q (.tup [.ref o,.ref s,.ref g])):=ab.new w;exact kk q _ ⟨o,s,g,aa,bV.kt (ab.kt (Sg.trans j)) v,(Sg.trans j) _ _ Y,j _ _ A⟩ (Sg.trans j)
 have e:=S1.trans S2;refine⟨_,rfl,_,rfl,_,rfl,_,rfl,N,wl,p.2,t,u,i,a,x,rfl,MN.same e,p2,e _ _ y,z2,fun an a0 H3 n D _ S3=>⟨an,rfl,⟨_,ay.of n⟩,fun ap G=>?_⟩⟩;have as:=e.trans S3;refine vQ (p:=p) (f:=fun d=>⟨p,d.sg,(p.1,d.b)⟩) rfl n D (bV.kt (ab.kt as) O) G (by omega) (fun d s J R Y v kk=>?_) fun I H4 h4 L S4=>?_
 ·refine⟨_,rfl,_,rfl,_,rfl,_,rfl,(by show 2<=ak;decide),fun g hg=>⟨(by show 3<=ak;decide),fun q w=>?_⟩⟩;have Sg:ab J (upd J g (.tup [.str p.1,.str d.b])):=ab.new hg;have A:upd J g (.tup [.str p.1,.str d.b]) g=some (.tup (Ie (p.1,d.b))):=aa
  change upd J g (.tup [.str p.1,.str d.b]) q=none at w
  show R (.ref q) (upd (upd J g (.tup [.str p.1,.str d.b])) q (.tup [.ref o,.ref s,.ref g]));generalize upd J g (.tup [.str p.1,.str d.b])=B at Sg A w ⊢;have j:ab B (upd B q (.tup [.ref o,.ref s,.ref g])):=ab.new w;exact kk q _ ⟨o,s,g,aa,bV.kt (ab.kt (Sg.trans j)) v,(Sg.trans j) _ _ Y,j _ _ A⟩ (Sg.trans j)
 have m:=S3.trans S4;have lw:=Paired.length hw;have aC:=Paired.length L;rw[ai]at lw aC;refine⟨cl,ap,_,_,rfl,rfl,m _ _ h2,h4,by rw[ai,ai];exact cz (aq (by omega)),fun l hl=>?_⟩;have S5:ab H4 (upd H4 l (.lst (ws.map V.ref++I.map V.ref))):=ab.new hl;refine k l (ws++I) _ (by rw[aa,ar]) ?_ ((e.trans m).free hl) (e.trans (m.trans S5));exact Paired.app (Paired.mapP hw fun _ _ r=>iw.kt (ab.kt (m.trans S5)) r) (Paired.mapP L fun _ _ r=>iw.kt (ab.kt S5) r)
def nK(p:Str×Str)(w:Str)(os:Zb)(g:Str):List JD:=os.map fun o=>⟨p,cv w,(g,o)⟩
def wo(ds ds':List ah)(J2 says':Zb)(p:Str×Str)(w:Str):List JD:=(aF ds (p.1,cZ J2 w)).flatMap (nK p w (aF ds' (p.2,cZ says' w)))
def rN(ds ds':List ah)(J2 says' wires:Zb)(p:Str×Str):List JD:=wires.flatMap (wo ds ds' J2 says' p)
theorem nA{ds:List ah}{x:Str×List Str}:(aF ds x).length<=ds.length:=by
 unfold aF;rw[ai];exact b_ _ _
theorem nB{α β:Type}{f:α->List β}{n:Nat}(h:∀a,(f a).length<=n):∀l:List α,(l.flatMap f).length<=l.length * n
 |[]=>by simp
 |a::l=>by
  rw[List.flatMap_cons,aA,fF,Nat.succ_mul];have:=h a;have:=nB h l;omega
theorem He{ds h:List ah}{i e:Zb}{p:Str×Str}{w:Str}(j:ds.length<=40)(k:h.length<=40):(wo ds h i e p w).length<=1600:=by
 have a:=nA (ds:=ds) (x:=(p.1,cZ i w));have b:=nA (ds:=h) (x:=(p.2,cZ e w));have:=nB (f:=nK p w (aF h (p.2,cZ e w))) (n:=40) (fun g=>by unfold nK;rw[ai];omega) (aF ds (p.1,cZ i w));unfold wo;omega
theorem IU{K:Za}{σ:L2.St}{H:Hp}{J t l:Addr}{fi:List Nat}{os:Zb}{p:Str×Str}{w g:Str}{Q:Hp->Prop}(hσ:cP 1 fi σ=[none,some (.ref l),some (.str w),some (.str g)])(E:H J=some (.lst (os.map V.str)))(Y:bV K H l (Ie p))(u:H t=none)(hz:os.length<=900)
  (k:∀(f:Ze) (j:Hp),j t=some (.lst (f.map V.ref))->Paired (iw K j) f (nK p w os g)->ab H j->Q j) :
  cF 1 fi σ (Ce K J) U0 (i5) (bP (dq V1 (bP (aO (tC (.str "say")) V2)) (bP (aO V3 V0)))) H t Q:=by
 let zC:Nat->List V->Hp->Prop:=fun n v j=>∃f:List Addr,Js (v=f.map V.ref) (ab H j) (j t=some (.lst v)) (Paired (iw K j) f (nK p w (os.take n) g))
 refine bQ (xs:=os.map V.str) zC ⟨[],rfl,ab.new u,aa,.nil⟩ (fun i v j _ zq=>by obtain⟨_,_,S,h',_⟩:=zq;exact⟨h',ay.of (S _ _ E)⟩) ?_ ?_
 ·rintro v m ⟨f,rfl,A,B,x⟩;rw[ai,bp]at x;exact k f m B x A
 ·rintro n v m y hy hn ⟨f,rfl,A,B,x⟩;obtain⟨o,L,rfl⟩:=bh hy;have nl:=(bM.1 L).1;rw[hσ];refine gN (pS ⟨_,rfl,_,rfl,(by show 2<=ak;decide),fun s hs=>?_⟩);have M:ab m (upd m s (.tup [.str "say",.str w])):=ab.new hs;have N:upd m s (.tup [.str "say",.str w]) s=some (.tup ((cv w).map V.str)):=aa;generalize upd m s (.tup [.str "say",.str w])=z at M N ⊢;refine⟨_,rfl,_,rfl,(by show 2<=ak;decide),fun q hq=>⟨(by show 3<=ak;decide),fun d G=>?_⟩⟩;have I:ab z (upd z q (.tup [.str g,.str o])):=ab.new hq;have O:upd z q (.tup [.str g,.str o]) q=some (.tup (Ie (g,o))):=aa
  change upd z q (.tup [.str g,.str o]) d=none at G
  generalize upd z q (.tup [.str g,.str o])=C at I O G ⊢;have D:ab C (upd C d (.tup [.ref l,.ref s,.ref q])):=ab.new G;have T:upd C d (.tup [.ref l,.ref s,.ref q]) d=some (.tup [.ref l,.ref s,.ref q]):=aa;generalize upd C d (.tup [.ref l,.ref s,.ref q])=U at D T ⊢;have a:=M.trans (I.trans D);have kt:gx U (upd U t (.lst (f.map V.ref++[.ref d]))):=cO (a _ _ B);refine⟨a _ _ B,by rw[ai,Paired.length x];unfold nK;rw[ai,aX];exact aq (by omega),kL hn ⟨f++[d],by rw[ar];rfl,fun b o e=>?_,aa,?_⟩⟩
  ·rw[aj (ae e u)];exact a _ _ (A _ _ e)
  ·unfold nK;rw[take_snoc L,ar];refine ee (Paired.mapP x fun _ _ r=>iw.kt (fun b xs e=>kt _ _ (a _ _ e)) r) (iw.kt kt ⟨l,s,q,T,bV.kt (ab.kt ((A.trans a))) Y,(I.trans D) _ _ N,D _ _ O⟩)
inductive nc(K:Za)(C:Addr)(vs:List V)(H:Hp)(Q:VK)(E:XK):Prop
 |mk (M N hr wl:Addr) (p:Str×Str) (J0 J2 rooms asks' says' rooms' wires:Zb) (ds ds':List ah):(vs=[.ref M,.ref N,.ref hr,.ref wl])->(bc C H M J0 J2 rooms ds)->(bc C H N asks' says' rooms' ds')->(bV K H hr (Ie p))->(H wl=some (.lst (wires.map V.str)))->(wires.length<=8)->(ds.length<=40)->(ds'.length<=40)->(∀(l:Addr) (us:Ze) (H':Hp),H' l=some (.lst (us.map V.ref))->Paired (iw K H') us (rN ds ds' J2 says' wires p)->H l=none->ab H H'->Q (.ref l) H')->nc K C vs H Q E
theorem FJ{K:Za}{C:Addr}{vs:List V}{H:Hp}{Q:VK}{E:XK}(h:nc K C vs H Q E):rT K (p_ C) (bN Q) (start sK vs) H:=by
 obtain⟨M,N,hr,wl,p,J0,u,rooms,L,a,z,l,ds,m,rfl,MM,MN,hp,as,zw,z1,z2,k⟩:=h;refine⟨(by show 0<=ak;decide),fun dl U=>?_⟩;have S0:ab H (upd H dl (.lst [])):=ab.new U;have d0:upd H dl (.lst []) dl=some (.lst (([]:Ze).map V.ref)):=aa;generalize upd H dl (.lst [])=H0 at S0 d0 ⊢;refine⟨_,rfl,wl,rfl,⟨_,ay.of (S0 _ _ as)⟩,?_⟩
 let zI:Nat->L2.St->Hp->Prop:=fun i σ s=>Mu fun(v:Ze) (x5 x6 Y:Option V)=>Js (σ=[some (.ref M),some (.ref N),some (.ref hr),some (.ref wl),some (.ref dl),x5,x6,Y]) (s dl=some (.lst (v.map V.ref))) (Paired (iw K s) v (rN ds m u a (l.take i) p)) (ab H s)
 refine bw (xs:=l.map V.str) zI ⟨[],_,_,_,rfl,d0,.nil,S0⟩ (fun i σ s _ zq=>by obtain⟨_,_,_,_,_,_,_,S⟩:=zq;exact ay.of (S _ _ as)) ?_ ?_;rotate_left
 ·rintro σ H1 ⟨v,x5,x6,Y,rfl,hd,hu,S1⟩;rw[ai,bp]at hu;exact⟨_,rfl,k dl v H1 hd hu U S1⟩
 rintro i x σ H1 hx ⟨v,x5,x6,Y,rfl,A,aC,S1⟩;obtain⟨w,hw,rfl⟩:=bh hx;have il:=(bM.1 hw).1;refine⟨_,rfl,_,rfl,hr,_,1,.str p.2,rfl,rfl,bV.sq (bV.kt (ab.kt S1) hp),cn (j:=1) rfl,_,rfl,N,p.2,w,L,a,z,m,rfl,MN.same S1,fun ol H2 a0 a8 S2=>?_⟩;have al:=S1.trans S2;refine⟨_,rfl,_,rfl,hr,_,0,.str p.1,rfl,rfl,bV.sq (bV.kt (ab.kt al) hp),cn (j:=0) rfl,_,rfl,M,p.1,w,J0,u,rooms,ds,rfl,MM.same al,fun gl H3 an a9 S3=>⟨gl,rfl,⟨_,ay.of an⟩,?_⟩⟩;have ap:=S2.trans S3;have bb:=S1.trans ap;have bi:ol≠dl:=(ae A a8).symm;have bl:gl≠dl:=(ae (S2 _ _ A) a9).symm;have J:=S3 _ _ a0;have bn:=ap _ _ A;have lG:=nA (ds:=ds) (x:=(p.1,cZ u w));have lO:=nA (ds:=m) (x:=(p.2,cZ a w));have eW:rN ds m u a (l.take (i+1)) p=rN ds m u a (l.take i) p++wo ds m u a p w:=by unfold rN;rw[take_snoc hw,oo,yf]
 have lT:(rN ds m u a (l.take i) p).length<=12800:=by
  have h1:=nB (f:=wo ds m u a p) (n:=1600) (fun w=>He z1 z2) (l.take i);rw[aX]at h1;unfold rN;have:min i l.length * 1600<=8 * 1600:=Nat.mul_le_mul_right _ (by omega);omega
 have a4:=Paired.mapP aC fun _ _ r=>iw.kt (ab.kt ap) r;unfold wo at eW;generalize aF ds (p.1,cZ u w)=G at an lG eW;generalize aF m (p.2,cZ a w)=O at J lO eW;generalize rN ds m u a (l.take i) p=T at a4 eW lT;clear a0 A aC S2 S3 al
 let zJ:Nat->L2.St->Hp->Prop:=fun j σ s=>GL fun(v:Ze) (Y:Option V)=>Lg (σ=[some (.ref M),some (.ref N),some (.ref hr),some (.ref wl),some (.ref dl),some (.str w),some (.ref ol),Y]) (s dl=some (.lst (v.map V.ref))) (Paired (iw K s) v (T++(G.take j).flatMap (nK p w O))) (ab H s) (s ol=some (.lst (O.map V.str))) (s gl=some (.lst (G.map V.str)))
 refine bw (xs:=G.map V.str) zJ ⟨v,_,rfl,bn,by show Paired _ v (T++[]);rw[dS];exact a4,bb,J,an⟩ (fun j σ s _ zq=>by obtain⟨_,_,_,_,_,_,_,h'⟩:=zq;exact ay.of h') ?_ ?_
 ·rintro j y σ H4 hy ⟨B,Y,rfl,D,t,S4,I,a5⟩;obtain⟨g,hg,rfl⟩:=bh hy;have jl:=(bM.1 hg).1;refine⟨_,rfl,.inl ⟨rfl,_,ay.of D⟩,_,rfl,ol,rfl,⟨_,ay.of I⟩,fun cl b0=>?_⟩;refine IU (p:=p) (w:=w) (g:=g) rfl I (bV.kt (ab.kt S4) hp) b0 (by omega) fun ws H5 h5 a6 S5=>?_;have a7:=S5 _ _ D;have kt:gx H5 (upd H5 dl (.lst (B.map V.ref++ws.map V.ref))):=cO a7;have lu:=Paired.length t;have lw:=Paired.length a6;have lf:=nB (f:=nK p w O) (n:=40) (fun g=>by unfold nK;rw[ai];omega) (G.take j);rw[aX]at lf;have lm:min j G.length * 40<=40 * 40:=Nat.mul_le_mul_right _ (by omega);rw[aA]at lu;unfold nK at lw;rw[ai]at lw;refine⟨dl,cl,_,_,rfl,rfl,a7,h5,by rw[ai,ai];have:100000<=ak:=(by decide);omega,B++ws,_,rfl,by rw[aa,ar],?_,fun b o q=>?_,by rw[aj bi];exact S5 _ _ I,by rw[aj bl];exact S5 _ _ a5⟩
  ·rw[take_snoc hg,oo,yf,<-d_];exact Paired.app (Paired.mapP t fun _ _ r=>iw.kt (fun b xs e=>kt _ _ (S5 _ _ e)) r) (Paired.mapP a6 fun _ _ r=>r.kt kt)
  ·rw[aj (ae q U)];exact S5 _ _ (S4 _ _ q)
 ·rintro σ H4 ⟨B,Y,rfl,D,t,S4,I,a5⟩;rw[ai,bp,<-eW]at t;exact⟨B,_,_,_,rfl,D,t,S4⟩
def GR(n:Nat):Str:=⟨#[97+n / 26,97+n % 26]⟩
theorem Ki{n m:Nat}(h:GR n=GR m):n=m:=by
 unfold GR at h;injection h with h;injection h with h;injection h with e a;injection a with a _;omega
theorem Iq{n:Nat}(h:n<200):pD (GR n):=⟨by show 1<=2;decide,by show 2<=8;decide,fun c a=>by
 have a:c∈[97+n / 26,97+n % 26]:=a;simp only[dC,mj,or_false]at a;unfold vz;omega⟩
def j3(rooms rooms':Zb)(p:Str×Str):Str:=GR (List.idxOf p (aN rooms rooms'))
def jK(ds ds':List ah)(J2 says' wires:Zb)(p:Str×Str):List JD:=pd ds ds' wires p++rN ds ds' J2 says' wires p
def Lw(rooms rooms':Zb)(e:JD):ah:=⟨j3 rooms rooms' e.a,e.sg,j3 rooms rooms' e.b⟩
def BA(ds ds':List ah)(J2 says' rooms rooms' wires:Zb):List JD:=(aN rooms rooms').flatMap (jK ds ds' J2 says' wires)
def pL(ds ds':List ah)(J2 says' rooms rooms' wires:Zb):List ah:=(BA ds ds' J2 says' rooms rooms' wires).map (Lw rooms rooms')
def cx(rooms rooms':Zb):List Str:=(aN rooms rooms').map (j3 rooms rooms')
theorem bF{rooms a:Zb}{p:Str×Str}:p∈aN rooms a↔p.1∈rooms/\p.2∈a:=by
 unfold aN;rw[gp];constructor
 ·rintro⟨r,e,h⟩;obtain⟨o,f,rfl⟩:=aE.1 h;exact⟨e,f⟩
 ·rintro⟨g,i⟩;exact⟨p.1,g,aE.2 ⟨p.2,i,rfl⟩⟩
theorem le{rooms e:Zb}(f:rooms.Nodup)(g:e.Nodup):(aN rooms e).Nodup:=by
 unfold aN rf;rw[ye];refine⟨fun a _=>?_,oj (fun{a b} n x hx y h=>?_) f⟩
 ·rw[jv];exact oj (fun{a b} n z=>n (by injection z)) g
 ·obtain⟨_,_,rfl⟩:=aE.1 hx;obtain⟨_,_,rfl⟩:=aE.1 h;intro z;injection z with z;exact n z
theorem jh{rooms rooms':Zb}{p q:Str×Str}(a:p∈aN rooms rooms')(f:q∈aN rooms rooms')(h:j3 rooms rooms' p=j3 rooms rooms' q):p=q:=by
 have e:=Ki h;have g:=List.idxOf_lt_length_iff.2 a;have i:=List.idxOf_lt_length_iff.2 f;have j:=List.getElem_idxOf g;have k:=List.getElem_idxOf i;rw[<-j,<-k];congr 1
inductive Jr(ds ds':List ah)(J2 says' wires:Zb)(p:Str×Str)(sg:Zb)(q:Str×Str):Prop
 |l (b:Str):⟨p.1,sg,b⟩∈ds->cW wires ⟨p.1,sg,b⟩=true->q=(b,p.2)->Jr ds ds' J2 says' wires p sg q
 |r (b:Str):⟨p.2,sg,b⟩∈ds'->cW wires ⟨p.2,sg,b⟩=true->q=(p.1,b)->Jr ds ds' J2 says' wires p sg q
 |t (w g o:Str):w∈wires->sg=cv w->⟨p.1,cZ J2 w,g⟩∈ds->⟨p.2,cZ says' w,o⟩∈ds'->q=(g,o)->Jr ds ds' J2 says' wires p sg q
theorem c7{f:List ah}{r:Str}{e:Zb}{d:ah}:d∈lz f r e↔d∈f/\d.a=r/\cW e d=true:=by
 unfold lz bJ;rw[bW,bW,decide_eq_true_iff,and_assoc]
theorem gr{x ds':List ah}{y f i:Zb}{p:Str×Str}{e:JD}:e∈jK x ds' y f i p↔e.a=p/\Jr x ds' y f i p e.sg e.b:=by
 unfold jK pd rN wo nK;rw[bf,bf,aE,aE,gp];constructor
 ·rintro((⟨d,m,rfl⟩|⟨d,m,rfl⟩)|⟨w,n,h⟩)
  ·obtain⟨j,k,q⟩:=c7.1 m;obtain⟨a,s,b⟩:=d;cases k;exact⟨rfl,.l b j q rfl⟩
  ·obtain⟨j,k,q⟩:=c7.1 m;obtain⟨a,s,b⟩:=d;cases k;exact⟨rfl,.r b j q rfl⟩
  ·obtain⟨g,z,h⟩:=gp.1 h;obtain⟨o,A,rfl⟩:=aE.1 h;exact⟨rfl,.t w g o n rfl (bj.1 z) (bj.1 A) rfl⟩
 ·obtain⟨a,B,b⟩:=e;rintro⟨e,h⟩;have e:a=p:=e;subst e;rcases h with⟨u,j,k,e⟩|⟨u,j,k,e⟩|⟨w,g,o,n,v,j,k,e⟩
  ·have e:b=(u,a.2):=e;subst e;exact .inl (.inl ⟨_,c7.2 ⟨j,rfl,k⟩,rfl⟩)
  ·have e:b=(a.1,u):=e;subst e;exact .inl (.inr ⟨_,c7.2 ⟨j,rfl,k⟩,rfl⟩)
  ·have e:b=(g,o):=e;have v:B=cv w:=v;subst e;subst v;exact .inr ⟨w,n,gp.2 ⟨g,bj.2 j,aE.2 ⟨o,bj.2 k,rfl⟩⟩⟩
theorem Jr.in_{s l rooms f e a i:Zb}{n j:List ah}(m:ax s l rooms n)(r:ax f e a j){p q:Str×Str}{t:Zb}(u:p∈aN rooms a)(h:Jr n j l e i p t q):q∈aN rooms a:=by
 obtain⟨v,x⟩:=bF.1 u;rcases h with⟨b,k,_,rfl⟩|⟨b,k,_,rfl⟩|⟨w,g,o,_,_,k,y,rfl⟩
 ·exact bF.2 ⟨(m.good _ k).b,x⟩
 ·exact bF.2 ⟨v,(r.good _ k).b⟩
 ·exact bF.2 ⟨(m.good _ k).b,(r.good _ y).b⟩
theorem iH{s n rooms j g f i:Zb}{o k:List ah}(m:ax s n rooms o)(t:ax j g f k){d:ah}:d∈pL o k n g rooms f i↔∃p q,p∈aN rooms f/\q∈aN rooms f/\Jr o k n g i p d.sg q/\d=⟨j3 rooms f p,d.sg,j3 rooms f q⟩:=by
 unfold pL BA;rw[aE];constructor
 ·rintro⟨e,r,rfl⟩;obtain⟨p,l,r⟩:=gp.1 r;obtain⟨rfl,h⟩:=gr.1 r;exact⟨e.a,e.b,l,h.in_ m t l,h,rfl⟩
 ·rintro⟨p,q,l,u,h,e⟩;exact⟨⟨p,d.sg,q⟩,gp.2 ⟨p,l,gr.2 ⟨rfl,h⟩⟩,e.symm⟩
theorem tu{f:List ah}(h:f.Nodup)(x:Str×List Str):(aF f x).Nodup:=by
 unfold aF;have j:(f.filter fun d=>decide (d.a=x.1/\d.sg=x.2)).Nodup:=h.filter _;unfold rf;rw[jv];refine re (fun{d e} k l n z=>n ?_) j;obtain⟨a1,a2⟩:=of_decide_eq_true (bW.1 k).2;obtain⟨g,i⟩:=of_decide_eq_true (bW.1 l).2;obtain⟨a,s,b⟩:=d;obtain⟨m,o,p⟩:=e;simp only at a1 a2 g i z;rw[a1,a2,g,i,z]
theorem fI{e:Zb}{a b k w:Str}(h:cW e ⟨a,[k,w],b⟩=true):w∉e:=by
 unfold cW oK at h;rw[zzr0 (show ¬[k,w]=ao from fun z=>by cases z)]at h;intro z;have h:(!decide (w∈e))=true:=h;rw[zzr1 z]at h;cases h
theorem AK{i g f e:Zb}(j:g.Nodup)(k:e.Nodup)(l:∀w∈g,w∉e):(aM i g f e).Nodup:=by
 unfold aM;refine dk.2 ⟨j.filter _,k.filter _,fun a h b m z=>?_⟩;rw[z]at h;exact l b (bW.1 h).1 (bW.1 m).1
theorem cY{f g a e:Zb}{w:Str}:w∈aM f g a e↔(w∈g/\w∈a)∨(w∈e/\w∈f):=by
 unfold aM;rw[bf,bW,bW,decide_eq_true_iff,decide_eq_true_iff]
theorem iu{J0 f a e:Zb}{w:Str}:w∈dQ J0 f a e↔(w∈J0∨w∈a)/\w∉aM J0 f a e:=by
 unfold dQ;rw[bW,bf,Bool.not_eq_true',decide_eq_false_iff_not]
section
variable{J0 J2 rooms asks' says' rooms':Zb}{ds ds':List ah}
theorem xJ(m:ax J0 J2 rooms ds)(r:ax asks' says' rooms' ds')(J:JoinOk J0 J2 rooms asks' says' rooms' ds ds'):(pL ds ds' J2 says' rooms rooms' (aM J0 J2 asks' says')).Nodup:=by
 unfold pL BA rf;rw[jv,ye];have inj:=fun{p q:Str×Str}=>jh (rooms:=rooms) (rooms':=rooms') (p:=p) (q:=q);refine⟨fun p v=>?_,re (fun{p q} v I n x hx y i z=>?_) (le m.okR.1 r.okR.1)⟩
 ·obtain⟨U,Y⟩:=bF.1 v;have same:∀{x y:JD},x∈jK ds ds' J2 says' (aM J0 J2 asks' says') p->y∈jK ds ds' J2 says' (aM J0 J2 asks' says') p->Lw rooms rooms' x=Lw rooms rooms' y->x.sg=y.sg/\x.b=y.b:=fun{x y} hx i z=>by
   unfold Lw at z;injection z with _ h H;exact⟨h,inj ((gr.1 hx).2.in_ m r v) ((gr.1 i).2.in_ m r v) H⟩
  have big:(jK ds ds' J2 says' (aM J0 J2 asks' says') p).Pairwise fun x y=>¬(x.sg=y.sg/\x.b=y.b):=by
   have L:∀{x:JD},x∈pd ds ds' (aM J0 J2 asks' says') p->∀{k w:Str},x.sg=[k,w]->w∉aM J0 J2 asks' says':=fun{x} hx {k w} e=>by
    unfold pd at hx;rcases bf.1 hx with hx|hx
    ·obtain⟨d,j,rfl⟩:=aE.1 hx;obtain⟨_,_,A⟩:=c7.1 j;obtain⟨a,s,b⟩:=d;have e:s=[k,w]:=e;rw[e]at A;exact fI A
    ·obtain⟨d,j,rfl⟩:=aE.1 hx;obtain⟨_,_,A⟩:=c7.1 j;obtain⟨a,s,b⟩:=d;have e:s=[k,w]:=e;rw[e]at A;exact fI A
   unfold jK;refine List.pairwise_append.2 ⟨?_,?_,fun x hx y i z=>?_⟩
   ·unfold pd;refine List.pairwise_append.2 ⟨?_,?_,fun x hx y i z=>?_⟩
    ·rw[jv];have C:(lz ds p.1 (aM J0 J2 asks' says')).Nodup:=(m.nodup.filter _).filter _;refine re (fun{d e} j B n z=>n ?_) C;obtain⟨_,a1,_⟩:=c7.1 j;obtain⟨_,u,_⟩:=c7.1 B;obtain⟨a,s,b⟩:=d;obtain⟨M,N,O⟩:=e;obtain⟨f,h⟩:=z;simp only at a1 u f h;injection h with h;rw[a1,u,f,h]
    ·rw[jv];have C:(lz ds' p.2 (aM J0 J2 asks' says')).Nodup:=(r.nodup.filter _).filter _;refine re (fun{d e} j B n z=>n ?_) C;obtain⟨_,a1,_⟩:=c7.1 j;obtain⟨_,u,_⟩:=c7.1 B;obtain⟨a,s,b⟩:=d;obtain⟨M,N,O⟩:=e;obtain⟨f,h⟩:=z;simp only at a1 u f h;injection h with _ h;rw[a1,u,f,h]
    ·obtain⟨d,j,rfl⟩:=aE.1 hx;obtain⟨e,B,rfl⟩:=aE.1 i;obtain⟨D,a1,_⟩:=c7.1 j;obtain⟨E,u,_⟩:=c7.1 B;obtain⟨f,h⟩:=z;have f:d.sg=e.sg:=f;have h:(d.b,p.2)=(p.1,e.b):=h;injection h with h H;rcases(m.good d D).sg with⟨w,l,q⟩|⟨w,l,q⟩|q<;>rcases(r.good e E).sg with⟨G,t,q'⟩|⟨G,t,q'⟩|q'<;>rw[q,q']at f
     ·injection f with _ f;injection f with f;rw[f]at l;exact J.apA _ l t
     ·injection f with f;exact absurd f (by decide)
     ·cases f
     ·injection f with f;exact absurd f (by decide)
     ·injection f with _ f;injection f with f;rw[f]at l;exact J.apS _ l t
     ·cases f
     ·cases f
     ·cases f
     ·refine m.noround p.1 (.one ?_);obtain⟨a,s,b⟩:=d;simp only at a1 q h;rw[<-q];rw[a1,h]at D;exact D
   ·unfold rN;rw[ye];refine⟨fun w l=>?_,oj (fun{w G} n x hx y i z=>n ?_) (AK m.okS.1 r.okS.1 J.apS)⟩
    ·unfold wo;rw[ye];refine⟨fun g hg=>?_,oj (fun{g g'} n x hx y i z=>n ?_) (tu m.nodup _)⟩
     ·unfold nK;rw[jv];refine oj (fun{o Q} n z=>n ?_) (tu r.nodup _);have h:(g,o)=(g,Q):=z.2;injection h
     ·unfold nK at hx i;obtain⟨_,_,rfl⟩:=aE.1 hx;obtain⟨_,_,rfl⟩:=aE.1 i;have h:=z.2;simp only at h;injection h
    ·unfold wo nK at hx i;obtain⟨_,_,hx⟩:=gp.1 hx;obtain⟨_,_,i⟩:=gp.1 i;obtain⟨_,_,rfl⟩:=aE.1 hx;obtain⟨_,_,rfl⟩:=aE.1 i;have f:cv w=cv G:=z.1;unfold cv at f;injection f with _ f;injection f
   ·unfold rN wo nK at i;obtain⟨w,l,i⟩:=gp.1 i;obtain⟨_,_,i⟩:=gp.1 i;obtain⟨_,_,rfl⟩:=aE.1 i;exact L hx (show x.sg=[("say":Str),w]from z.1) l
  exact re (fun{x y} hx i n z=>n (same hx i z)) big
 ·have E:=(gr.1 hx).1;have T:=(gr.1 i).1;unfold Lw at z;injection z with z;rw[E,T]at z;exact n (inj v I z)
def l9(ds:List ah)(a b:Str):Prop:=b=a∨Reach ds a b
theorem l9.trans{ds:List ah}{a b c:Str}(h1:l9 ds a b)(h2:l9 ds b c):l9 ds a c:=by
 rcases h1 with rfl|h1
 ·exact h2
 ·rcases h2 with rfl|h2
  ·exact .inr h1
  ·exact .inr (h1.trans h2)
theorem mW{p q:Str×Str}{f:Zb}:Jr ds ds' J2 says' f p ao q↔(∃b,(⟨p.1,ao,b⟩:ah)∈ds/\q=(b,p.2))∨∃b,(⟨p.2,ao,b⟩:ah)∈ds'/\q=(p.1,b):=by
 constructor
 ·rintro(⟨b,h,_,rfl⟩|⟨b,h,_,rfl⟩|⟨w,g,o,j,e,_⟩)
  ·exact .inl ⟨b,h,rfl⟩
  ·exact .inr ⟨b,h,rfl⟩
  ·cases e
 ·have i:∀a b:Str,cW f ⟨a,ao,b⟩=true:=fun a b=>by unfold cW;rw[zzr1 rfl];rfl
  rintro(⟨b,h,rfl⟩|⟨b,h,rfl⟩)
  ·exact .l b h (i _ _) rfl
  ·exact .r b h (i _ _) rfl
theorem Hy(m:ax J0 J2 rooms ds)(n:ax asks' says' rooms' ds'){f:Zb}{x y:Str}(h:Reach (pL ds ds' J2 says' rooms rooms' f) x y):∃p q,p∈aN rooms rooms'/\q∈aN rooms rooms'/\x=j3 rooms rooms' p/\y=j3 rooms rooms' q/\l9 ds p.1 q.1/\l9 ds' p.2 q.2/\(Reach ds p.1 q.1∨Reach ds' p.2 q.2):=by
 induction h with
 |one h =>
  obtain⟨p,q,g,i,st,e⟩:=(iH m n).1 h;injection e with j _ k;refine⟨p,q,g,i,j,k,?_⟩;rcases mW.1 st with⟨b,a,rfl⟩|⟨b,a,rfl⟩
  ·exact⟨.inr (.one a),.inl rfl,.inl (.one a)⟩
  ·exact⟨.inl rfl,.inr (.one a),.inr (.one a)⟩
 |step r h o =>
  obtain⟨p,q,g,i,j,k,l1,l2,z⟩:=o;obtain⟨t,s,l,u,st,e⟩:=(iH m n).1 h;injection e with v _ w;obtain rfl:q=t:=jh i l (k.symm.trans v);refine⟨p,s,g,u,j,w,?_⟩;rcases mW.1 st with⟨b,a,rfl⟩|⟨b,a,rfl⟩
  ·exact⟨l1.trans (.inr (.one a)),l2,.inl (by rcases l1 with e|l1;rw[<-e];exact .one a;exact .step l1 a)⟩
  ·exact⟨l1,l2.trans (.inr (.one a)),.inr (by rcases l2 with e|l2;rw[<-e];exact .one a;exact .step l2 a)⟩
theorem Ly(m:ax J0 J2 rooms ds)(j:ax asks' says' rooms' ds'){e:Zb}{a b o:Str}(g:a∈rooms)(i:o∈rooms')(h:l9 ds a b):l9 (pL ds ds' J2 says' rooms rooms' e) (j3 rooms rooms' (a,o)) (j3 rooms rooms' (b,o)):=by
 rcases h with rfl|h
 ·exact .inl rfl
 ·have f:∀{a b:Str},a∈rooms->(⟨a,ao,b⟩:ah)∈ds->(⟨j3 rooms rooms' (a,o),ao,j3 rooms rooms' (b,o)⟩:ah)∈pL ds ds' J2 says' rooms rooms' e:=fun{a b} g h=>(iH m j).2 ⟨(a,o),(b,o),bF.2 ⟨g,i⟩,bF.2 ⟨(m.good _ h).b,i⟩,mW.2 (.inl ⟨b,h,rfl⟩),rfl⟩;refine .inr ?_
  induction h with
  |one h=>exact .one (f g h)
  |step r h k=>exact .step k (f (m.good _ h).a h)
theorem Lx(m:ax J0 J2 rooms ds)(g:ax asks' says' rooms' ds'){e:Zb}{a b o:Str}(i:a∈rooms')(j:o∈rooms)(h:l9 ds' a b):l9 (pL ds ds' J2 says' rooms rooms' e) (j3 rooms rooms' (o,a)) (j3 rooms rooms' (o,b)):=by
 rcases h with rfl|h
 ·exact .inl rfl
 ·have f:∀{a b:Str},a∈rooms'->(⟨a,ao,b⟩:ah)∈ds'->(⟨j3 rooms rooms' (o,a),ao,j3 rooms rooms' (o,b)⟩:ah)∈pL ds ds' J2 says' rooms rooms' e:=fun{a b} i h=>(iH m g).2 ⟨(o,a),(o,b),bF.2 ⟨j,i⟩,bF.2 ⟨j,(g.good _ h).b⟩,mW.2 (.inr ⟨b,h,rfl⟩),rfl⟩;refine .inr ?_
  induction h with
  |one h=>exact .one (f i h)
  |step r h k=>exact .step k (f (g.good _ h).a h)
theorem Kk(m:ax J0 J2 rooms ds)(f:ax asks' says' rooms' ds'){a:Zb}{p q:Str×Str}(g:p∈aN rooms rooms')(i:q∈aN rooms rooms'):l9 (pL ds ds' J2 says' rooms rooms' a) (j3 rooms rooms' p) (j3 rooms rooms' q)↔l9 ds p.1 q.1/\l9 ds' p.2 q.2:=by
 constructor
 ·rintro(e|h)
  ·rw[jh i g e];exact⟨.inl rfl,.inl rfl⟩
  ·obtain⟨x,y,j,k,n,o,r,s,_⟩:=Hy m f h;rw[jh g j n,jh i k o];exact⟨r,s⟩
 ·rintro⟨t,u⟩;obtain⟨v,l⟩:=bF.1 g;obtain⟨w,z⟩:=bF.1 i;exact(Ly m f v l t).trans (Lx m f l w u)
theorem Iv(m:ax J0 J2 rooms ds)(i:ax asks' says' rooms' ds')(J:JoinOk J0 J2 rooms asks' says' rooms' ds ds')(few:(pL ds ds' J2 says' rooms rooms' (aM J0 J2 asks' says')).length<=1000):
  ax (dQ J0 J2 asks' says') (J2++says') (cx rooms rooms') (pL ds ds' J2 says' rooms rooms' (aM J0 J2 asks' says')) where
 okA:=⟨by unfold dQ;exact(dk.2 ⟨m.okA.1,i.okA.1,fun a ha b t z=>J.apA a ha (z▸t)⟩).filter _,fun w f=>(iu.1 f).1.elim (m.okA.2 w) (i.okA.2 w)⟩
 okS:=⟨dk.2 ⟨m.okS.1,i.okS.1,fun a ha b t z=>J.apS a ha (z▸t)⟩,fun w f=>(bf.1 f).elim (m.okS.2 w) (i.okS.2 w)⟩
 apart:=fun w f z=>by
  obtain⟨k,j⟩:=iu.1 z;rcases bf.1 f with hs|hs<;>rcases k with ha|ha
  ·exact m.apart w hs ha
  ·exact j (cY.2 (.inl ⟨hs,ha⟩))
  ·exact j (cY.2 (.inr ⟨hs,ha⟩))
  ·exact i.apart w hs ha
 okR:=by
  unfold cx;refine⟨?_,fun w f=>?_⟩
  ·unfold rf;rw[jv];exact re (fun{p q} l s n z=>n (jh l s z)) (le m.okR.1 i.okR.1)
  ·obtain⟨p,l,rfl⟩:=aE.1 f;have:=List.idxOf_lt_length_iff.2 l;rw[io]at this;have:rooms.length * rooms'.length<=10 * 10:=rg J.r1 J.r2;exact Iq (by omega)
 asks0:=J.a0
 says0:=fun z=>m.says0 (List.append_eq_nil_iff.1 z).1
 rooms0:=fun z=>by
  unfold cx at z;have z:=congrArg List.length z;rw[ai,io,mn]at z;have k:=uE.2 m.rooms0;have j:=uE.2 i.rooms0;have:=Nat.mul_pos k j;omega
 asks4:=J.a4
 says4:=J.s4
 rooms26:=by
  unfold cx;rw[ai,io];have:rooms.length * rooms'.length<=10 * 10:=rg J.r1 J.r2;omega
 nodup:=xJ m i J
 good:=fun d v=>by
  obtain⟨p,q,l,s,st,e⟩:=(iH m i).1 v;refine⟨by rw[e];exact fQ l,by rw[e];exact fQ s,?_⟩;rcases st with⟨b,k,j,_⟩|⟨b,k,j,_⟩|⟨w,g,o,f,x,_⟩
  ·rcases(m.good _ k).sg with⟨w,f,e'⟩|⟨w,f,e'⟩|e'
   ·have e':d.sg=[("ask":Str),w]:=e';rw[e']at j;exact .inl ⟨w,iu.2 ⟨.inl f,fI j⟩,e'⟩
   ·exact .inr (.inl ⟨w,cu _ f,e'⟩)
   ·exact .inr (.inr e')
  ·rcases(i.good _ k).sg with⟨w,f,e'⟩|⟨w,f,e'⟩|e'
   ·have e':d.sg=[("ask":Str),w]:=e';rw[e']at j;exact .inl ⟨w,iu.2 ⟨.inr f,fI j⟩,e'⟩
   ·exact .inr (.inl ⟨w,cQ _ f,e'⟩)
   ·exact .inr (.inr e')
  ·refine .inr (.inl ⟨w,?_,x⟩);rcases cY.1 f with h|h
   ·exact cu _ h.1
   ·exact cQ _ h.1
 few:=few
 noround:=fun r h=>by
  obtain⟨p,q,l,s,y,A,_,_,u⟩:=Hy m i h;rw[jh l s (y.symm.trans A)]at u;exact u.elim (m.noround _) (i.noround _)
end
def kJ(rooms rooms' f g:Zb):List Str:=((aN rooms rooms').filter fun p=>decide (p.1∈f) && decide (p.2∈g)).map (j3 rooms rooms')
def gV(J0 J2 sg:Zb):Option (List Str):=if sg=az then some sg else if oK sg∈J0 then some (bT (oK sg))else if oK sg∈J2 then some (cv (oK sg))else none
def besF(J0 J2 rooms:Zb)(ds:List ah)(f sg:Zb):List Str:=((gV J0 J2 sg).map (behF rooms ds f)).getD f
theorem nr{rooms a f g:Zb}{x:Str}:x∈kJ rooms a f g↔∃p,p∈aN rooms a/\p.1∈f/\p.2∈g/\x=j3 rooms a p:=by
 unfold kJ;rw[aE];constructor
 ·rintro⟨p,i,rfl⟩;obtain⟨h,e⟩:=bW.1 i;rw[iZ,decide_eq_true_iff,decide_eq_true_iff]at e;exact⟨p,h,e.1,e.2,rfl⟩
 ·rintro⟨p,h,e,j,rfl⟩;exact⟨p,bW.2 ⟨h,by rw[iZ,decide_eq_true_iff,decide_eq_true_iff];exact⟨e,j⟩⟩,rfl⟩
theorem Ic{rooms rooms' f g:Zb}(hf:∀r∈f,r∈rooms)(l:∀r∈g,r∈rooms'):kJ rooms rooms' f g≠[]↔f≠[]/\g≠[]:=by
 constructor
 ·intro h;obtain⟨x,hx⟩:=rc _ h;obtain⟨p,_,e,i,_⟩:=nr.1 hx;exact⟨q_ e,q_ i⟩
 ·rintro⟨e,i⟩;obtain⟨a,j⟩:=rc _ e;obtain⟨b,k⟩:=rc _ i;exact q_ (nr.2 ⟨(a,b),bF.2 ⟨hf a j,l b k⟩,j,k,rfl⟩)
def Jn(ds:List ah)(f sg:Zb)(r:Str):Prop:=∃a∈f,∃b,(⟨a,sg,b⟩:ah)∈ds/\l9 ds b r
theorem gU{rooms f e:Zb}{ds:List ah}{r:Str}(k:e≠az)(l:r∈rooms):r∈behF rooms ds f e↔Jn ds f e r:=by
 unfold behF;rw[if_neg k,fk];constructor
 ·rintro⟨_,g,m,h⟩;obtain⟨a,i,j⟩:=cj.1 m;exact⟨a,i,g,j,h⟩
 ·rintro⟨a,i,b,j,h⟩;exact⟨l,b,cj.2 ⟨a,i,j⟩,h⟩
theorem Aq.led{g:List ah}{f:Zb}(h:Aq g f){a b:Str}(i:a∈f)(r:l9 g a b):b∈f:=by
 rcases r with rfl|r
 ·exact i
 ·induction r with
  |one e=>exact h _ e rfl i
  |step _ e j=>exact h _ e rfl j
section
variable{J0 J2 rooms asks' says' rooms':Zb}{ds ds':List ah}
def XJ(ds ds':List ah)(J2 says' rooms rooms' wires f f' sg:Zb)(q:Str×Str):Prop:=∃p b,p∈aN rooms rooms'/\p.1∈f/\p.2∈f'/\Jr ds ds' J2 says' wires p sg b/\l9 ds b.1 q.1/\l9 ds' b.2 q.2
theorem Kq(m:ax J0 J2 rooms ds)(j:ax asks' says' rooms' ds'){a f u v:Zb}{q:Str×Str}(w:q∈aN rooms rooms'):gL (pL ds ds' J2 says' rooms rooms' a) (cV (pL ds ds' J2 says' rooms rooms' a) v (kJ rooms rooms' f u)) (j3 rooms rooms' q)↔XJ ds ds' J2 says' rooms rooms' a f u v q:=by
 constructor
 ·rintro⟨g,x,h⟩;obtain⟨r,y,z⟩:=cj.1 x;obtain⟨p,i,l,n,rfl⟩:=nr.1 y;obtain⟨C,b,o,k,st,e⟩:=(iH m j).1 z;injection e with A _ B;obtain rfl:=jh i o A;have h:l9 _ g _:=h;rw[B]at h;obtain⟨s,t⟩:=(Kk m j k w).1 h;exact⟨p,b,i,l,n,st,s,t⟩
 ·rintro⟨p,b,i,l,n,st,s,t⟩;have k:=st.in_ m j i;exact⟨j3 rooms rooms' b,cj.2 ⟨j3 rooms rooms' p,nr.2 ⟨p,i,l,n,rfl⟩,(iH m j).2 ⟨p,b,i,k,st,rfl⟩⟩,(Kk m j k w).2 ⟨s,t⟩⟩
theorem xM{a g e:Zb}{D:List ah}(h:∀q∈aN rooms rooms',gL D a (j3 rooms rooms' q)↔q.1∈g/\q.2∈e):closF (cx rooms rooms') D a=kJ rooms rooms' g e:=by
 unfold closF kJ cx;rw[List.filter_map];congr 1;refine om fun q f=>?_;rw[pO];simp only[Function.comp,decide_eq_true_iff,iZ];exact h q f
theorem ES{g f f' h:Zb}{q:Str×Str}(hf:∀r∈f,r∈rooms)(j:∀r∈f',r∈rooms')(o:Aq ds' f')(s:∀a b,(⟨a,h,b⟩:ah)∉ds')(t:∀a b,cW g ⟨a,h,b⟩=true)(u:∀w∈g,h≠cv w):
  XJ ds ds' J2 says' rooms rooms' g f f' h q↔Jn ds f h q.1/\q.2∈f':=by
 constructor
 ·rintro⟨p,b,A,v,x,st,k,y⟩;rcases st with⟨c,i,_,rfl⟩|⟨c,i,_⟩|⟨w,_,_,z,e,_⟩
  ·exact⟨⟨p.1,v,c,i,k⟩,o.led x y⟩
  ·exact absurd i (s _ _)
  ·exact absurd e (u w z)
 ·rintro⟨⟨a,m,c,i,k⟩,n⟩;exact⟨(a,q.2),(c,q.2),bF.2 ⟨hf a m,j _ n⟩,m,n,.l c i (t _ _) rfl,k,.inl rfl⟩
theorem BV{g f f' h:Zb}{q:Str×Str}(hf:∀r∈f,r∈rooms)(j:∀r∈f',r∈rooms')(n:Aq ds f)(o:∀a b,(⟨a,h,b⟩:ah)∉ds)(s:∀a b,cW g ⟨a,h,b⟩=true)(t:∀w∈g,h≠cv w):
  XJ ds ds' J2 says' rooms rooms' g f f' h q↔q.1∈f/\Jn ds' f' h q.2:=by
 constructor
 ·rintro⟨p,b,z,u,v,st,k,x⟩;rcases st with⟨c,i,_⟩|⟨c,i,_,rfl⟩|⟨w,_,_,y,e,_⟩
  ·exact absurd i (o _ _)
  ·exact⟨n.led u k,⟨p.2,v,c,i,x⟩⟩
  ·exact absurd e (t w y)
 ·rintro⟨l,⟨a,m,c,i,k⟩⟩;exact⟨(q.1,a),(q.1,c),bF.2 ⟨hf _ l,j _ m⟩,l,m,.r c i (s _ _) rfl,.inl rfl,k⟩
theorem ET{h f l:Zb}{w:Str}{q:Str×Str}(hf:∀r∈f,r∈rooms)(m:∀r∈l,r∈rooms')(n:w∈h):
  XJ ds ds' J2 says' rooms rooms' h f l (cv w) q↔Jn ds f (cZ J2 w) q.1/\Jn ds' l (cZ says' w) q.2:=by
 constructor
 ·rintro⟨p,b,E,z,A,st,s,B⟩;rcases st with⟨c,i,j,_⟩|⟨c,i,j,_⟩|⟨G,g,o,C,e,i,j,rfl⟩
  ·exact absurd n (fI j)
  ·exact absurd n (fI j)
  ·unfold cv at e;injection e with _ e;injection e with e;rw[<-e]at i j;exact⟨⟨p.1,z,g,i,s⟩,⟨p.2,A,o,j,B⟩⟩
 ·rintro⟨⟨a,x,c,i,s⟩,⟨D,k,y,u,v⟩⟩;exact⟨(a,D),(c,y),bF.2 ⟨hf _ x,m _ k⟩,x,k,.t w c y n rfl i u rfl,s,v⟩
theorem kM{r:Str}:r∈c8 ds↔∃d∈ds,iU d=false/\d.a=r:=by
 unfold c8;rw[aE];constructor
 ·rintro⟨d,h,e⟩;obtain⟨f,g⟩:=bW.1 h;exact⟨d,f,by simpa using g,e⟩
 ·rintro⟨d,f,g,e⟩;exact⟨d,bW.2 ⟨f,by rw[g];rfl⟩,e⟩
theorem kN{a w b:Str}(h:(⟨a,cv w,b⟩:ah)∈ds):a∈c8 ds:=kM.2 ⟨_,h,by show decide (("say":Str)="ask")=false;decide,rfl⟩
theorem jI{a b:Str}(h:(⟨a,ao,b⟩:ah)∈ds):a∈c8 ds:=kM.2 ⟨_,h,by show decide (("still":Str)="ask")=false;decide,rfl⟩
theorem Bx(m:ax J0 J2 rooms ds){r:Str}(h:r∈c8 ds):∃b,(∃w∈J2,(⟨r,cv w,b⟩:ah)∈ds)∨(⟨r,ao,b⟩:ah)∈ds:=by
 obtain⟨d,f,g,rfl⟩:=kM.1 h;obtain⟨a,s,b⟩:=d;rcases(m.good _ f).sg with⟨w,i,e⟩|⟨w,i,e⟩|e
 ·have e:s=[("ask":Str),w]:=e;subst e;have g:decide (("ask":Str)="ask")=false:=g;exact absurd g (by decide)
 ·have e:s=[("say":Str),w]:=e;subst e;exact⟨b,.inl ⟨w,i,f⟩⟩
 ·have e:s=ao:=e;subst e;exact⟨b,.inr f⟩
theorem Mh(m:ax J0 J2 rooms ds)(u:ax asks' says' rooms' ds')(J:JoinOk J0 J2 rooms asks' says' rooms' ds ds')(tk:∀r∈rooms,∀a∈J0,gJ ds r a)(A:∀r∈rooms',∀a∈asks',gJ ds' r a){p:Str×Str}(v:p∈aN rooms rooms'):
  j3 rooms rooms' p∈c8 (pL ds ds' J2 says' rooms rooms' (aM J0 J2 asks' says'))↔p.1∈c8 ds∨p.2∈c8 ds':=by
 obtain⟨L,M⟩:=bF.1 v;have f:∀{y q},Jr ds ds' J2 says' (aM J0 J2 asks' says') p y q->(⟨j3 rooms rooms' p,y,j3 rooms rooms' q⟩:ah)∈pL ds ds' J2 says' rooms rooms' (aM J0 J2 asks' says'):=fun{y q} st=>(iH m u).2 ⟨p,q,v,st.in_ m u v,st,rfl⟩;constructor
 ·intro h;obtain⟨d,hd,G,e⟩:=kM.1 h;obtain⟨O,q,B,Q,st,N⟩:=(iH m u).1 hd;have H:=congrArg ah.a N;rw[e]at H;obtain rfl:=jh v B H;obtain⟨T,y,U⟩:=d;rcases st with⟨c,k,_⟩|⟨c,k,_⟩|⟨w,g,o,j,Y,k,C,_⟩
  ·exact .inl (kM.2 ⟨_,k,G,rfl⟩)
  ·exact .inr (kM.2 ⟨_,k,G,rfl⟩)
  ·rcases cY.1 j with⟨a,_⟩|⟨a,_⟩
   ·unfold cZ at k;rw[if_pos a]at k;exact .inl (kN k)
   ·unfold cZ at C;rw[if_pos a]at C;exact .inr (kN C)
 ·have i:∀(W:Zb) (a b:Str),cW W ⟨a,ao,b⟩=true:=fun W a b=>by unfold cW;rw[zzr1 rfl];rfl
  have s:∀{W:Zb}{w:Str}(a b:Str),w∉W->cW W ⟨a,cv w,b⟩=true:=fun{W w} a b h=>by
   unfold cW;rw[yP];refine .inr ?_;show(!decide (w∈W))=true;rw[zzr0 h];rfl
  rintro(h|h)
  ·obtain⟨b,⟨w,j,hd⟩|hd⟩:=Bx m h
   ·by_cases c:w∈aM J0 J2 asks' says'
    ·have n:w∈asks':=by
      rcases cY.1 c with⟨_,a⟩|⟨a,_⟩
      ·exact a
      ·exact absurd a (J.apS w j)
     obtain⟨x,hx,o,D⟩:=A p.2 M w n;rcases hx with rfl|hx
     ·refine kN (w:=w) (f (.t w b o c rfl ?_ ?_ rfl))
      ·unfold cZ;rw[if_pos j];exact hd
      ·unfold cZ;rw[if_neg (J.apS w j)];exact D
     ·obtain⟨g,E,_⟩:=hx.front;exact jI (f (.r g E (i _ _ _) rfl))
    ·exact kN (f (.l b hd (s _ _ c) rfl))
   ·exact jI (f (.l b hd (i _ _ _) rfl))
  ·obtain⟨b,⟨w,j,hd⟩|hd⟩:=Bx u h
   ·have I:w∉J2:=fun z=>J.apS w z j;by_cases c:w∈aM J0 J2 asks' says'
    ·have n:w∈J0:=by
      rcases cY.1 c with⟨a,_⟩|⟨_,a⟩
      ·exact absurd a I
      ·exact a
     obtain⟨x,hx,o,D⟩:=tk p.1 L w n;rcases hx with rfl|hx
     ·refine kN (w:=w) (f (.t w o b c rfl ?_ ?_ rfl))
      ·unfold cZ;rw[if_neg I];exact D
      ·unfold cZ;rw[if_pos j];exact hd
     ·obtain⟨g,E,_⟩:=hx.front;exact jI (f (.l g E (i _ _ _) rfl))
    ·exact kN (f (.r b hd (s _ _ c) rfl))
   ·exact jI (f (.r b hd (i _ _ _) rfl))
theorem o8{A S:Zb}:gV A S az=some az:=by unfold gV;rw[if_pos rfl]
theorem xE{A S:Zb}{w:Str}:gV A S (bT w)=if w∈A then some (bT w)else if w∈S then some (cv w)else none:=by unfold gV;rw[if_neg (fun z=>by cases z)];rfl
theorem xD{A S:Zb}{w:Str}:gV A S (cv w)=if w∈A then some (bT w)else if w∈S then some (cv w)else none:=by unfold gV;rw[if_neg (fun z=>by cases z)];rfl
def LX(J0 J2 asks' says' sg:Zb):Prop:=(∃w∈dQ J0 J2 asks' says',sg=bT w)∨(∃w∈J2++says',sg=cv w)∨sg=az
theorem I_(m:ax J0 J2 rooms ds)(v:ax asks' says' rooms' ds')(J:JoinOk J0 J2 rooms asks' says' rooms' ds ds')(tk:∀r∈rooms,∀a∈J0,gJ ds r a)(U:∀r∈rooms',∀a∈asks',gJ ds' r a){f g l:Zb}(hf:∀r∈f,r∈rooms)(i:∀r∈g,r∈rooms')(sh:Aq ds f)(x:Aq ds' g)(hs:LX J0 J2 asks' says' l):
  behF (cx rooms rooms') (pL ds ds' J2 says' rooms rooms' (aM J0 J2 asks' says')) (kJ rooms rooms' f g) l=kJ rooms rooms' (besF J0 J2 rooms ds f l) (besF asks' says' rooms' ds' g l):=by
 by_cases Y:l=az
 ·subst Y;unfold besF;rw[o8,o8];show behF _ _ _ az=kJ _ _ (behF rooms ds f az) (behF rooms' ds' g az);unfold behF;rw[if_pos rfl,if_pos rfl,if_pos rfl];unfold kJ;rw[List.filter_map,List.filter_filter];congr 1;refine om fun p hp=>?_;have:=Mh m v J tk U hp;rw[pO];simp only[iZ,decide_eq_true_iff,bW,Function.comp];rw[this,not_or];constructor
  ·rintro⟨⟨a,b⟩,c,d⟩;exact⟨⟨c,a⟩,d,b⟩
  ·rintro⟨⟨c,a⟩,d,b⟩;exact⟨⟨a,b⟩,c,d⟩
 have y:∀q∈aN rooms rooms',XJ ds ds' J2 says' rooms rooms' (aM J0 J2 asks' says') f g l q↔q.1∈besF J0 J2 rooms ds f l/\q.2∈besF asks' says' rooms' ds' g l:=by
  intro q I;obtain⟨L,N⟩:=bF.1 I;have O:∀{w:Str},bT w≠az:=fun z=>by cases z
  have Q:∀{w:Str},cv w≠az:=fun z=>by cases z
  have B:∀{w:Str},w∉aM J0 J2 asks' says'->∀a b,cW (aM J0 J2 asks' says') ⟨a,bT w,b⟩=true:=fun{w} h a b=>by
   unfold cW;rw[yP];refine .inr ?_;show(!decide (w∈aM J0 J2 asks' says'))=true;rw[zzr0 h];rfl
  have C:∀{w:Str},w∉aM J0 J2 asks' says'->∀a b,cW (aM J0 J2 asks' says') ⟨a,cv w,b⟩=true:=fun{w} h a b=>by
   unfold cW;rw[yP];refine .inr ?_;show(!decide (w∈aM J0 J2 asks' says'))=true;rw[zzr0 h];rfl
  have E:∀{A S R:Zb}{D:List ah}{w:Str},ax A S R D->w∉A->∀a b,(⟨a,bT w,b⟩:ah)∉D:=fun{A S R D w} M h a b z=>by
   rcases(M.good _ z).sg with⟨j,t,e⟩|⟨j,_,e⟩|e
   ·have e:bT w=[("ask":Str),j]:=e;unfold bT at e;injection e with _ e;injection e with e;exact h (e▸t)
   ·have e:bT w=[("say":Str),j]:=e;unfold bT at e;injection e with e;exact absurd e (by decide)
   ·have e:bT w=ao:=e;cases e
  have G:∀{A S R:Zb}{D:List ah}{w:Str},ax A S R D->w∉S->∀a b,(⟨a,cv w,b⟩:ah)∉D:=fun{A S R D w} M h a b z=>by
   rcases(M.good _ z).sg with⟨j,_,e⟩|⟨j,t,e⟩|e
   ·have e:cv w=[("ask":Str),j]:=e;unfold cv at e;injection e with e;exact absurd e (by decide)
   ·have e:cv w=[("say":Str),j]:=e;unfold cv at e;injection e with _ e;injection e with e;exact h (e▸t)
   ·have e:cv w=ao:=e;cases e
  have o:∀{w:Str},∀j∈aM J0 J2 asks' says',bT w≠cv j:=fun{w} j _ e=>by
   unfold bT cv at e;injection e with e;exact absurd e (by decide)
  have s:∀{w:Str},w∉aM J0 J2 asks' says'->∀j∈aM J0 J2 asks' says',cv w≠cv j:=fun{w} h j al e=>by
   unfold cv at e;injection e with _ e;injection e with e;exact h (e▸al)
  unfold besF;rcases hs with⟨w,t,rfl⟩|⟨w,t,rfl⟩|e
  ·obtain⟨h1,T⟩:=iu.1 t;rw[xE,xE];rcases h1 with ha|ha
   ·have k:=J.apA w ha;have u:w∉says':=fun z=>T (cY.2 (.inr ⟨z,ha⟩));rw[if_pos ha,if_neg k,if_neg u];show _↔q.1∈behF rooms ds f (bT w)/\q.2∈g;rw[ES hf i x (E v k) (B T) o,gU O L]
   ·have k:w∉J0:=fun z=>J.apA w z ha;have u:w∉J2:=fun z=>T (cY.2 (.inl ⟨z,ha⟩));rw[if_pos ha,if_neg k,if_neg u];show _↔q.1∈f/\q.2∈behF rooms' ds' g (bT w);rw[BV hf i sh (E m k) (B T) o,gU O N]
  ·rw[xD,xD];rcases bf.1 t with hs|hs
   ·have n1:=m.apart w hs;have n:=J.apS w hs;rw[if_neg n1,if_pos hs];by_cases c:w∈asks'
    ·rw[if_pos c];show _↔q.1∈behF rooms ds f (cv w)/\q.2∈behF rooms' ds' g (bT w);rw[ET hf i (cY.2 (.inl ⟨hs,c⟩)),gU Q L,gU O N];unfold cZ;rw[if_pos hs,if_neg n]
    ·rw[if_neg c,if_neg n];have H:w∉aM J0 J2 asks' says':=fun z=>by
      rcases cY.1 z with z|z
      ·exact c z.2
      ·exact n z.1
     show _↔q.1∈behF rooms ds f (cv w)/\q.2∈g;rw[ES hf i x (G v n) (C H) (s H),gU Q L]
   ·have n1:=v.apart w hs;have n:w∉J2:=fun z=>J.apS w z hs;rw[if_neg n1,if_pos hs];by_cases c:w∈J0
    ·rw[if_pos c];show _↔q.1∈behF rooms ds f (bT w)/\q.2∈behF rooms' ds' g (cv w);rw[ET hf i (cY.2 (.inr ⟨hs,c⟩)),gU O L,gU Q N];unfold cZ;rw[if_pos hs,if_neg n]
    ·rw[if_neg c,if_neg n];have H:w∉aM J0 J2 asks' says':=fun z=>by
      rcases cY.1 z with z|z
      ·exact n z.1
      ·exact c z.2
     show _↔q.1∈f/\q.2∈behF rooms' ds' g (cv w);rw[BV hf i sh (G m n) (C H) (s H),gU Q N]
  ·exact absurd e Y
 have e0:∀(R:Zb) (D:List ah) (F:Zb),behF R D F l=closF R D (cV D l F):=fun R D F=>by unfold behF;rw[if_neg Y]
 rw[e0];exact xM fun q I=>(Kq m v I).trans (y q I)
end
structure LS(rooms:Zb)(ds:List ah)(f:Zb):Prop where
 sub:∀r∈f,r∈rooms
 ne:f≠[]
 shut:Aq ds f
 len:f.length<=rooms.length
theorem JI{o p rooms f i:Zb}{j:List ah}(m:ax o p rooms j)(n:i≠az):sgB j f i=true↔behF rooms j f i≠[]:=by
 rw[En];constructor
 ·rintro⟨d,e,k,rfl⟩;exact q_ ((gU n (m.good d e).b).2 ⟨d.a,k,d.b,e,.inl rfl⟩)
 ·intro h;obtain⟨r,l⟩:=rc _ h;unfold behF at l;rw[if_neg n,fk]at l;obtain⟨_,g,q,_⟩:=l;obtain⟨a,k,e⟩:=cj.1 q;exact⟨_,e,k,rfl⟩
theorem nC{g h rooms:Zb}{a:List ah}(m:ax g h rooms a):LS rooms a (closF rooms a (rooms.take 1)):=by
 refine⟨sy,?_,xp fun d i=>(m.good d i).b,nG⟩;obtain⟨r,f⟩:=rc _ m.rooms0;cases e:rooms with
 |nil=>rw[e]at f;cases f
 |cons x j=>exact q_ (fk.2 ⟨dz,x,dz,.inl rfl⟩)
section
variable{J0 J2 rooms asks' says' rooms':Zb}{ds ds':List ah}
theorem Dp(m:ax J0 J2 rooms ds)(l:ax asks' says' rooms' ds'){f:Zb}:closF (cx rooms rooms') (pL ds ds' J2 says' rooms rooms' f) ((cx rooms rooms').take 1)=kJ rooms rooms' (closF rooms ds (rooms.take 1)) (closF rooms' ds' (rooms'.take 1)):=by
 refine xM fun q n=>?_;obtain⟨s,t⟩:=bF.1 n;obtain⟨x,a,rfl⟩:∃x a,rooms=x::a:=by
  cases e:rooms with
  |nil=>exact absurd e m.rooms0
  |cons x a=>exact⟨x,a,rfl⟩
 obtain⟨y,i,rfl⟩:∃y i,rooms'=y::i:=by
  cases e:rooms' with
  |nil=>exact absurd e l.rooms0
  |cons x a=>exact⟨x,a,rfl⟩
 have r:(x,y)∈aN (x::a) (y::i):=bF.2 ⟨dz,dz⟩;have e:(cx (x::a) (y::i)).take 1=[j3 (x::a) (y::i) (x,y)]:=rfl;rw[e,fk,fk];constructor
 ·rintro⟨g,o,h⟩;rw[cA.1 o]at h;obtain⟨j,k⟩:=(Kk m l r n).1 h;exact⟨⟨s,x,dz,j⟩,t,y,dz,k⟩
 ·rintro⟨⟨_,g,o,j⟩,_,u,p,k⟩;rw[cA.1 o]at j;rw[cA.1 p]at k;exact⟨_,dz,(Kk m l r n).2 ⟨j,k⟩⟩
theorem BQ{f a:Zb}(h:gV J0 J2 a=none):besF J0 J2 rooms ds f a=f:=by unfold besF;rw[h];rfl
theorem BP{f a g:Zb}(h:gV J0 J2 a=some g):besF J0 J2 rooms ds f a=behF rooms ds f g:=by unfold besF;rw[h];rfl
theorem Ks(m:ax J0 J2 rooms ds)(t:ax asks' says' rooms' ds')(J:JoinOk J0 J2 rooms asks' says' rooms' ds ds')(D:rooms.length<=3)(u:rooms'.length<=3):(pL ds ds' J2 says' rooms rooms' (aM J0 J2 asks' says')).length<=1000:=by
 have E:=xJ m t J
 let S:List (List Str):=gG (dQ J0 J2 asks' says') (J2++says')
 let R:List (Str×List Str×Str):=(cx rooms rooms').flatMap fun a=>S.flatMap fun s=>(cx rooms rooms').map fun b=>(a,s,b)
 have G:(cx rooms rooms').length<=9:=by
  unfold cx;rw[ai,io];exact rg D u
 have N:S.length<=9:=by
  show(gG (dQ J0 J2 asks' says') (J2++says')).length<=9;unfold gG;have:=J.a4;have:=J.s4;rw[aA,aA,ai,ai];show _+_+1<=9;omega
 have O:R.length<=1000:=by
  have j:∀a:Str,(S.flatMap fun s=>(cx rooms rooms').map fun b=>(a,s,b)).length<=81:=fun a=>by
   have:=nB (f:=fun s=>(cx rooms rooms').map fun b=>(a,s,b)) (n:=9) (fun s=>by rw[ai];exact G) S;omega
  have:=nB (f:=fun a=>S.flatMap fun s=>(cx rooms rooms').map fun b=>(a,s,b)) (n:=81) j (cx rooms rooms');show(List.flatMap _ _).length<=1000;omega
 have v:((pL ds ds' J2 says' rooms rooms' (aM J0 J2 asks' says')).map fun d=>(d.a,d.sg,d.b)).Nodup:=by
  unfold rf;rw[jv];refine oj (fun{d e} n z=>n ?_) E;obtain⟨a,s,b⟩:=d;obtain⟨Q,T,U⟩:=e;injection z with y r;injection r with r A;simp only at y r A;rw[y,r,A]
 have:=xx v (R:=R) fun x hx=>by
  obtain⟨d,H,rfl⟩:=aE.1 hx;obtain⟨p,q,I,L,st,e⟩:=(iH m t).1 H;have k:d.sg∈S:=by
   show d.sg∈(dQ J0 J2 asks' says').map bT++(J2++says').map cv++[ao];rcases st with⟨b,j,l,_⟩|⟨b,j,l,_⟩|⟨w,g,o,i,M,_⟩
   ·rcases(m.good _ j).sg with⟨w,i,e'⟩|⟨w,i,e'⟩|e'
    ·have e':d.sg=[("ask":Str),w]:=e';rw[e']at l;exact cu _ (cu _ (aE.2 ⟨w,iu.2 ⟨.inl i,fI l⟩,e'.symm⟩))
    ·exact cu _ (cQ _ (aE.2 ⟨w,cu _ i,e'.symm⟩))
    ·exact cQ _ (cA.2 e')
   ·rcases(t.good _ j).sg with⟨w,i,e'⟩|⟨w,i,e'⟩|e'
    ·have e':d.sg=[("ask":Str),w]:=e';rw[e']at l;exact cu _ (cu _ (aE.2 ⟨w,iu.2 ⟨.inr i,fI l⟩,e'.symm⟩))
    ·exact cu _ (cQ _ (aE.2 ⟨w,cQ _ i,e'.symm⟩))
    ·exact cQ _ (cA.2 e')
   ·refine cu _ (cQ _ (aE.2 ⟨w,?_,M.symm⟩));rcases cY.1 i with h|h
    ·exact cu _ h.1
    ·exact cQ _ h.1
  have B:=congrArg ah.a e;have C:=congrArg ah.b e;simp only at B C;rw[B,C];exact gp.2 ⟨_,fQ I,gp.2 ⟨d.sg,k,aE.2 ⟨_,fQ L,rfl⟩⟩⟩
 rw[ai]at this;omega
end
def Hi(K:Za)(C_Machine:Addr)(sp_Machine_init:Sp)(sp_Machine_says:Sp)(sp_asks_of_both:Sp)(sp_doors_alone:Sp)(sp_doors_together:Sp)(sp_pairs_of_rooms:Sp)(sp_name_of_number:Sp)(sp_wires_of:Sp)(sp_need_all_asks_taken:Sp)(sp_need_join:Sp):TS :=
 au (cM (aL sp_need_join (aO V0 V1)))
 (au (cM (aL sp_need_all_asks_taken (aB V0)))
 (au (cM (aL sp_need_all_asks_taken (aB V1)))
 (au (aT (aL sp_wires_of (aO V0 V1)) U2)
 (au (aT (eM (HY K) (av (cN 2 [] (tq K (aB (aL sp_pairs_of_rooms (aO V0 V1)))) (jk K 2 (bx U0 (bx U1 (iW)))) (i5) (bP (aO V1 (aL sp_name_of_number (aB V0))))) aY)) U3)
 (au (aT (bC (aY)) U4)
 (au (eA (IC K V3) U5 (cM (vi K "list" qC V4 (aB (aD gR (aL sp_doors_alone (av V0 (dq V1 V5 V2))) (aL sp_doors_together (av V0 (dq V1 V5 V2))))))))
 (au (aT (cN 3 [3] (bG K V4) (jk K 3 (bx U0 (bx U1 (bx U2 (iW))))) (i5) (bP (dq (sX K V3 V0) V1 (sX K V3 V2)))) U6)
 (bo (El C_Machine sp_Machine_init [] E0 (av (aL sp_asks_of_both (aO V0 V1)) (dq (aD gR (bZ C_Machine "says" sp_Machine_says [] E0 V0 aY) (bZ C_Machine "says" sp_Machine_says [] E0 V1 aY)) (Hl V3) V6)))))))))))
def Jg:List Str:=["M","N","wires","names","doors","here","named_doors"]
def tH(K:Za)(sp_law_asks_left:Sp)(sp_law_take:Sp)(sp_law_names:Sp):TS :=
 au (aT (aL sp_law_names (aO V0 (tC (.int 13)))) U2)
 (au (aT (bC (av (bC (aY)) (dq (bC (aY)) (bC (aY)) (bC (aY))))) U3)
 (au (aT (bC (av (bC (aB (tC (.int 0)))) (av (bC (aB (tC (.int 0)))) (av (bC (aB (tC (.int 1)))) (av (bC (aB (tC (.int 1)))) (av (bC (aB (tC (.int 2)))) (av (bC (aB (tC (.int 2)))) (av (bC (aB (tC (.int 3)))) (av (bC (aB (tC (.int 3)))) (av (bC (aO (tC (.int 1)) (tC (.int 2)))) (av (bC (aO (tC (.int 1)) (tC (.int 2)))) (av (bC (aO (tC (.int 0)) (tC (.int 3)))) (av (bC (aO (tC (.int 0)) (tC (.int 3)))) (av (bC (aY)) (av (bC (aO (tC (.int 0)) (tC (.int 2)))) (aB (bC (aO (tC (.int 1)) (tC (.int 3)))))))))))))))))))) U4)
 (au (eA (bG K (Cc (qA K) V2 (eU) (iP (tC (.int 8))))) U5 (eA (bG K (aD (df K) V4 (aL sp_law_take (aO V0 (aD fZ (tC (.int 13)) (aD kF (tC (.int 2)) V1)))))) U6 (cJ (aS (aD JW (eM (fH K) (aB (aD (df K) V3 V6))) (aD fZ (tC (.int 2)) (aD kF (tC (.int 2)) V1)))) (cM (vi K "list" dX (aD (df K) V3 V6) (aB V5))) (bB))))
 (au (eA (vD (aB (tC (.int 4)))) U6 (cJ (aS (aD (kG K) (aD (df K) V3 V6) (bC (aY)))) (cM (vi K "list" dX (aD (df K) V3 V6) (aB (aD (df K) V2 (aD fZ (tC (.int 8)) V6))))) (bB)))
 (au (cJ (nQ (aS (aD GQ V1 (tC (.int 0)))) (aS (aD (kG K) (aL sp_law_asks_left (aB V3)) (bC (aY))))) (cM (vi K "list" dX (aD (df K) V3 (tC (.int 0))) (aB (aD (df K) V2 (tC (.int 12)))))) (bB))
 (bo V3))))))
def tZ:List Str:=["pen","loose","words","some","ways","word","at"]
def tI(K:Za):TS :=
 au (aT (aD gR (cN 1 [0] (bG K (aD (df K) V0 (tC (.int 1)))) U0 (aS (aD (ii K false) V0 (aD (df K) V1 (tC (.int 2))))) V0) (cN 1 [0] (bG K (aD (df K) V0 (tC (.int 3)))) U0 (aS (aD (ii K false) V0 (aD (df K) V1 (tC (.int 0))))) V0)) U1)
 (bo (cN 1 [1] (bG K (aD gR (aD (df K) V0 (tC (.int 0))) (aD (df K) V0 (tC (.int 2))))) U0 (aS (aD (ii K true) V0 V1)) V0))
def t4:List Str:=["some","wired"]
def Cq(K:Za)(sp_law_draw_doors:Sp)(sp_law_take:Sp)(sp_law_names:Sp):TS :=
 au (aT (aL sp_law_names (aO V0 (aD fZ (tC (.int 1)) (aL sp_law_take (av V0 (aB V3)))))) U4)
 (au (aT (aL sp_law_draw_doors (av V0 (av V1 (av V2 (av V4 (aB (aL sp_law_take (aO V0 (tC (.int 2)))))))))) U5)
 (bo (bP (av V1 (dq V2 V4 V5)))))
def DF:List Str:=["pen","asks","says","most","rooms","doors"]
def rQ(K:Za)(sp_law_willing:Sp)(sp_law_part:Sp)(sp_law_two_words:Sp):TS :=
 au (aT (aL sp_law_two_words (aO V0 (tC (.int 0)))) U3)
 (au (aT (aL sp_law_willing (av V0 (av (aL sp_law_part (av V0 (dq (aD (hW K) V3 (tC (.int 0))) (aD (hW K) V3 (tC (.int 1))) V1))) aY))) U4)
 (au (aT (aL sp_law_willing (av V0 (av (aL sp_law_part (av V0 (dq (aD (hW K) V3 (tC (.int 2))) (aD (hW K) V3 (tC (.int 3))) V2))) aY))) U5)
 (bo (bC (aO V4 V5)))))
def sG:List Str:=["pen","one","two","some","first","second"]
def AT(K:Za):TS :=
 au (cJ (aS (aD (kG K) V1 (bP (aB (tC (.str "hush")))))) (bo V1) (bB))
 (au (cJ (aS (aD (ii K false) (aD (hW K) V1 (tC (.int 1))) (aD (hW K) V0 (tC (.int 0))))) (bo (bP (aO (tC (.str "ask")) (aD (hW K) V1 (tC (.int 1)))))) (bB))
 (au (cJ (aS (aD (ii K false) (aD (hW K) V1 (tC (.int 1))) (aD (hW K) V0 (tC (.int 1))))) (bo (bP (aO (tC (.str "say")) (aD (hW K) V1 (tC (.int 1)))))) (bB))
 (bo (tC .non))))
def B_:List Str:=["told","sign"]
def ze(K:Za)(sp_law_face_on:Sp)(sp_law_heard:Sp):TS :=
 au (aT (aL sp_law_heard (aO V0 V2)) U3)
 (au (cJ (tB (Ho V3)) (bo V1) (bB))
 (bo (aL sp_law_face_on (dq V0 V1 V3))))
def Av:List Str:=["told","face","sign","heard"]

theorem Gr{K:Za}{k:Nat}{fi:List Nat}{g:TG}{o:TT}{q:TE}{σ:L2.St}{r:Hp}{Q:Hp->Prop}{l a b:Addr}{xs ys:List V}(z:xs.length<=ys.length)(Pv:Nat->List V->Hp->Prop)(A:Pv 0 [] (upd r l (.lst [])))
  (m:∀i e H,i<=xs.length->Pv i e H->H l=some (.lst e)/\ay K H a xs/\ay K H b ys) (B:∀e H,Pv xs.length e H->Q H)
  (C:∀i e H x y p,xs[i]?=some x->ys[i]?=some y->i<xs.length->Pv i e H->H p=none->g (.ref p) (cP k fi σ) (upd H p (.tup [x,y])) fun σ2 D=>o σ2 D fun b s =>
   if b=true then q σ2 s fun v w=>w l=some (.lst e)/\e.length<ak/\∃f,f<xs.length-i/\Wc xs.length Pv (i+1) f (e++[v]) (upd w l (.lst (e++[v])))else ∃f,f<xs.length-i/\Wc xs.length Pv (i+1) f e s) :
  cF k fi σ (MU K a b) g o q r l Q:=by
 refine jM xs.length Pv A (fun i e H hi p=>(m i e H hi p).1) (fun i e H hi p=>?_) (fun e H p=>?_) fun i e H x J hi p y=>?_
 ·obtain⟨_,h,j⟩:=m i e H (cz hi) p;have n:i<ys.length:=by omega
  exact⟨xs,ys,xs[i],ys[i],h,j,by simp[hi],by simp[n]⟩
 ·obtain⟨_,h,j⟩:=m _ e H (aR _) p;exact⟨⟨xs,ys,h,j,.inl (aR _)⟩,B e H p⟩
 ·obtain⟨_,h,j⟩:=m i e H (cz hi) p;obtain⟨t,u,v,rfl,E,G,I,rfl⟩:=y;exact C i e H u v t (G xs h) (I ys j) hi p E
open Builtin.Int (intBits)
open Builtin.Int (intBits)
open Builtin.Int (intBits)
open Builtin.Int (intBits)
def hB:Nat->Nat
 |0=>0
 |d+1=>12+25 * hB d
open Builtin.Int (intBits)
open Builtin.Int (intBits)

abbrev sD(K:Za)(H:Hp)(gs:Ze)(s:List Sg):Prop:=Paired (fun g (sg:Sg)=>bV K H g (sg.map V.str)) gs s
theorem sD.same{K:Za}{H a:Hp}{e:Ze}{s:List Sg}(S:ab H a)(h:sD K H e s):sD K a e s:=Paired.mapP h fun _ _ r=>bV.kt (ab.kt S) r
def pU(K:Za)(C_Machine:Addr)(sp_Machine_goals:Sp)(a_STILL:Addr):TS :=
 au (aT (eM (dE K) (aB V1)) U2)
 (u7 (aS (aD wO (eM (fH K) (aB V2)) (tC (.int 0)))) (au (aT (Fs K "list" HU V2) U3)
 (eA (bG K (bZ C_Machine "goals" sp_Machine_goals [] E0 V0 (aO V3 (tC (.ref a_STILL))))) U4 (cJ (tB (mV K V4 V1)) (au (mB V1 V4 (bP (dq V3 (tC (.ref a_STILL)) V4)))
 (cM (vi K "list" dX V2 (aB V4)))) (bB)))))
def qX:List Str:=["M","steps","waiting","room","goal"]
def Cn(K:Za)(a_HUSH:Addr)(C_Machine:Addr)(sp_Machine_is_quiet:Sp)(sp_Machine_goals:Sp):TS :=
 au (aT (r9) U3)
 (au (eA (K4 V1) U4 (cJ (aS (aD (kG K) V2 (tC (.ref a_HUSH)))) (cJ (tB (bZ C_Machine "is_quiet" sp_Machine_is_quiet [] E0 V0 (aB V4))) (mB V3 V4 (bP (dq V4 (tC (.ref a_HUSH)) V4))) (bB)) (eA (bG K (bZ C_Machine "goals" sp_Machine_goals [] E0 V0 (aO V4 V2))) U5 (mB V3 V5 (bP (dq V4 V2 V5))))))
 (bo V3))
def DC:List Str:=["M","rooms","sign","steps","room","goal"]
def wq(K:Za)(sp_add_still_steps:Sp)(sp_steps_by:Sp)(C_Machine:Addr)(sp_Machine_rooms:Sp):TS :=
 au (aT (KO [(aD (df K) (bZ C_Machine "rooms" sp_Machine_rooms [] E0 V0 aY) (tC (.int 0)),tC .non)]) U2)
 (au (aT (bC (aB V2)) U3)
 (au (cM (aL sp_add_still_steps (aO V0 V2)))
 (au (eA (bG K V1) U4 (au (aT (aL sp_steps_by (dq V0 V2 V4)) U2)
 (au (cM (vi K "list" dX V3 (aB V2)))
 (cM (aL sp_add_still_steps (aO V0 V2))))))
 (bo V3))))
def wT:List Str:=["M","story","steps","along","sign"]
def Fi(K:Za)(a_STILL:Addr)(sp_steps_along:Sp):TS :=
 au (aT (aL sp_steps_along (aO V0 V1)) U2)
 (au (cJ (aS (aD GQ (eM (KR K) (aB (aD (df K) V2 (tUn (rU fun i=>.int (-i)) (tC (.int 1)))))) (tC (.int 0)))) (bo (tC .non)) (bB))
 (au (aT (aD (df K) (eM (dE K) (aB (aD (df K) V2 (tUn (rU fun i=>.int (-i)) (tC (.int 1)))))) (tC (.int 0))) U3)
 (au (aT (bC (aY)) U4)
 (au (aT (Fs K "list" HU V2) U5)
 (au (u7 (tB (Hk (sX K V5 V3))) (au (aT (sX K V5 V3) U6)
 (au (cM (vi K "list" dX V4 (aB V6)))
 (au (aT (aD (jg K) V6 (tC (.int 0))) U3)
 (cJ (aS (aD (tU K) (aD (jg K) V6 (tC (.int 1))) (tC (.ref a_STILL)))) (aT (Fs K "list" HU V2) U5) (bB))))))
 (au (cM (Fs K "list" Bh V4))
 (bo V4)))))))
def GF:List Str:=["M","story","along","room","walk","steps","step"]
def eV(K:Za)(C:Addr):Sp:=fun vs H Q _=>∃(x s:Addr) (r:Str) (sg J0 J2 rooms:Zb) (ds:List ah),vs=[.ref x,.str r,.ref s]/\bc C H x J0 J2 rooms ds/\br K H s (sg.map V.str) /\
 ∀(l:Addr) (H':Hp),H' l=some (.lst ((aF ds (r,sg)).map V.str))->H l=none->ab H H'->Q (.ref l) H'
theorem Eh{K:Za}{H:Hp}:∀a:List Str,TKIns K H (a.map pK) (a.map V.str)
 |[]=>by unfold TKIns;rfl
 |x::a=>by
  rw[bL,bL];unfold TKIns;exact⟨_,_,rfl,by unfold pK lA;rfl,Eh a⟩
theorem CS{K:Za}{C:Addr}(M:MC K C){t:List V}{H:Hp}{Q:VK}{E:XK}(h:eV K C t H Q E):tK K (bN Q) (start t7 t) H:=by
 obtain⟨x,s,r,e,Y,J2,rooms,w,rfl,h,A,k⟩:=h;obtain⟨B,fs,o1,o2,o3,o4,lv,qu,u,sl,ts,D,m,I,J,a1,a2,a3,a4,b1,b2,b3,b4,b5,b6,N,b8,L,c1,c2,c3,c4,G,d1,d2,d3⟩:=h.at_;have O:=h.ok.okR.1;refine⟨_,rfl,x,C,B,fs,.ref u,rfl,J,M.cls,M.a7,N,u,rfl,.inr ⟨_,.inl G.g⟩,_,rfl,_,rfl,(by show 2<=ak;decide),fun kt j=>⟨(by show 0<=ak;decide),fun v i=>⟨c6 (fg wm m) (wm (r,e)),.inr ⟨_,wm (r,e),kt,.inl (kp (kp G.g j) i),rfl,?_,se _,rfl⟩,?_⟩⟩⟩
 ·unfold wm lA;refine⟨kt,_,rfl,br.of (kp aa i),?_⟩;unfold TKIns;refine⟨_,_,rfl,by unfold pK lA;rfl,?_⟩;unfold TKIns;refine⟨_,_,rfl,?_,by unfold TKIns;rfl⟩;unfold uu lA;exact⟨s,_,rfl,br.same ((ab.new j).trans (ab.new i)) A,Eh e⟩
 have n:ab H (upd (upd H kt (.tup [.str r,.ref s])) v (.tup [])):=(ab.new j).trans (ab.new i);by_cases f:(r,e)∈m.map (·.1)
 ·obtain⟨⟨y,a⟩,o,T⟩:=aE.mp f;obtain rfl:y=(r,e):=T;rw[fD jf G.nd o];exact .inl ⟨a,_,rfl,.inl (ay.of (n _ _ (G.ls _ o))),fun l p=>k l _ aa (n.free p) (n.trans (ab.new p))⟩
 ·rw[nu jf f];have q:aF w (r,e)=[]:=mK fun y U z=>f (by rw[<-z];exact G.all y U);refine .inl ⟨v,[],rfl,.inr (br.of aa),fun l p=>k l _ ?_ (n.free p) (n.trans (ab.new p))⟩;rw[q];exact aa
abbrev aG:=List (Str×Option ah)
def jd(st:aG)(r:Str):Option (Option ah):=(st.find? fun p=>decide (p.1=r)).map (·.2)
def jV(st:aG)(r:Str)(d:Option ah):aG:=if(st.any fun p=>decide (p.1=r))=true then st.map (fun p=>if p.1=r then(p.1,d)else p)else st++[(r,d)]
section
variable{K:Za}
theorem mY{st:aG}{r:Str}:jd st r=none↔r∉st.map (·.1):=by
 unfold jd;rw[Option.map_eq_none_iff,List.find?_eq_none];constructor
 ·intro h e;obtain⟨p,a,e⟩:=aE.mp e;exact h p a (zzr1 e)
 ·intro h p a e;exact h (aE.mpr ⟨p,a,of_decide_eq_true e⟩)
theorem xn{st:aG}{r:Str}{d:Option ah}(h:r∉st.map (·.1)):jV st r d=st++[(r,d)]:=by
 unfold jV;rw[if_neg];intro e;obtain⟨p,a,e⟩:=List.any_eq_true.mp e;exact h (aE.mpr ⟨p,a,of_decide_eq_true e⟩)
inductive cp(ds:List ah):aG->aG->Prop
 |refl (st:aG):cp ds st st
 |step {st st':aG}{d:ah}(h:cp ds st st') (hd:d.sg=ao) (ha:d.a∈st'.map (·.1)) (hb:d.b∈aF ds (d.a,d.sg)) (hn:d.b∉st'.map (·.1)):cp ds st (st'++[(d.b,some d)])
theorem cp.trans{ds:List ah}{a b c:aG}(x:cp ds a b)(y:cp ds b c):cp ds a c:=by
 induction y with
 |refl=>exact x
 |step _ e f g h i=>exact .step i e f g h
theorem cp.keys{e:List ah}{a b:aG}(x:cp e a b):∀r∈a.map (·.1),r∈b.map (·.1):=by
 induction x with
 |refl=>exact fun r h=>h
 |step _ _ _ _ _ f=>exact fun r h=>by rw[ar];exact cu _ (f r h)
theorem cp.nodup{f:List ah}{a b:aG}(x:cp f a b)(h:(a.map (·.1)).Nodup):(b.map (·.1)).Nodup:=by
 induction x with
 |refl=>exact h
 |@step g d _ l m n i j =>
  rw[ar,dk];refine⟨j,by simp,fun x hx y k z=>?_⟩;have e:y=d.b:=by simpa using k
  exact i (by rw[<-e,<-z];exact hx)
end
theorem cp.rooms{f:List ah}{rooms:Zb}{a b:aG}(x:cp f a b)(h:∀r∈a.map (·.1),r∈rooms)(k:∀d∈f,d.b∈rooms)(l:∀{w i g},g∈aF f (w,i)->(⟨w,i,g⟩:ah)∈f):∀r∈b.map (·.1),r∈rooms:=by
 induction x with
 |refl=>exact h
 |@step m d _ _ _ n _ o =>
  intro r j;rw[ar]at j;rcases bf.mp j with z|z
  ·exact o r z
  ·have e:r=d.b:=by simpa using z
   rw[e];exact k _ (l n)
structure Wt(ds:List ah)(st st':aG)(wait:Zb):Prop where
 on:cp ds st st'
 there:∀r∈wait,r∈st'.map (·.1)
 done:∀r∈st'.map (·.1),r∈wait∨∀g∈aF ds (r,ao),g∈st'.map (·.1)

def iV(ds:List ah)(sg:Zb)(r:Str)(gs:Zb)(acc:aG):aG:=gs.foldl (fun acc g=>jV acc g (some ⟨r,sg,g⟩)) acc
def dW(rooms:Zb)(ds:List ah)(sg:Zb)(acc:aG)(r:Str):aG :=
 if sg=az then(if r∈rooms.filter (eg ds)then jV acc r (some ⟨r,az,r⟩)else acc)else iV ds sg r (aF ds (r,sg)) acc
def fB(rooms:Zb)(ds:List ah)(sg:Zb)(keys:Zb):aG:=keys.foldl (dW rooms ds sg) []
theorem vj{st:aG}{r:Str}{d:Option ah}:(jV st r d).map (·.1)=if r∈st.map (·.1)then st.map (·.1)else st.map (·.1)++[r]:=by
 by_cases z:r∈st.map (·.1)
 ·rw[if_pos z];unfold jV;have:(st.any fun p=>decide (p.1=r))=true:=by
   obtain⟨p,a,e⟩:=aE.mp z;exact List.any_eq_true.mpr ⟨p,a,zzr1 e⟩
  rw[if_pos this,ow];apply List.map_congr_left;intro p _;show(if p.1=r then(p.1,d)else p).1=p.1
  by_cases y:p.1=r
  ·rw[if_pos y]
  ·rw[if_neg y]
 ·rw[if_neg z,xn z,ar];rfl
structure wb(rooms:Zb)(st:aG):Prop where
 nd:(st.map (·.1)).Nodup
 inr:∀r∈st.map (·.1),r∈rooms
theorem wb.put{rooms:Zb}{st:aG}{r:Str}{d:Option ah}(h:wb rooms st)(a:r∈rooms):wb rooms (jV st r d):=by
 refine⟨?_,?_⟩<;>rw[vj]<;>by_cases z:r∈st.map (·.1)
 ·rw[if_pos z];exact h.nd
 ·rw[if_neg z,dk];refine⟨h.nd,by simp,fun x hx y f e=>z ?_⟩;have:y=r:=by simpa using f
  rw[<-this,<-e];exact hx
 ·rw[if_pos z];exact h.inr
 ·rw[if_neg z];intro x hx;rcases bf.mp hx with y|y
  ·exact h.inr x y
  ·have:x=r:=by simpa using y
   rw[this];exact a
theorem wb.len{rooms:Zb}{st:aG}(h:wb rooms st):st.length<=rooms.length:=by simpa using jH h.nd h.inr
theorem wb.goals{rooms:Zb}{ds:List ah}{sg:Zb}{r:Str}:∀{gs:Zb}{a:aG},wb rooms a->(∀g∈gs,g∈rooms)->wb rooms (iV ds sg r gs a)
 |[],_,h,_=>h
 |g::gs,a,h,e=>wb.goals (ds:=ds) (gs:=gs) (h.put (e g dz)) fun x hx=>e x (gC _ hx)
theorem wb.room{rooms:Zb}{e:List ah}{f:Zb}{r:Str}{a:aG}(h:wb rooms a)(i:∀d∈e,d.b∈rooms):wb rooms (dW rooms e f a r):=by
 unfold dW;by_cases z:f=az
 ·rw[if_pos z];by_cases y:r∈rooms.filter (eg e)
  ·rw[if_pos y];exact h.put (bW.mp y).1
  ·rw[if_neg y];exact h
 ·rw[if_neg z];exact h.goals fun g j=>i _ (bj.mp j)
theorem wb.by_{rooms:Zb}{e:List ah}{g:Zb}(f:∀d∈e,d.b∈rooms):∀(keys:Zb) {a:aG},wb rooms a->wb rooms (keys.foldl (dW rooms e g) a)
 |[],_,h=>h
 |r::keys,a,h=>wb.by_ f keys (h.room f)
theorem mw{rooms:Zb}{a:List ah}{e:Zb}(f:∀d∈a,d.b∈rooms)(keys:Zb):wb rooms (fB rooms a e keys):=wb.by_ f keys ⟨rJ,by simp⟩
theorem zB{rooms:Zb}{ds:List ah}{sg:Zb}{keys:Zb}{i:Nat}{r:Str}(h:keys[i]?=some r):fB rooms ds sg (keys.take (i+1))=dW rooms ds sg (fB rooms ds sg (keys.take i)) r:=by
 unfold fB;rw[List.take_add_one,h,rj];rfl


theorem Km:az≠ao:=by decide +kernel
def dJ(rooms:Zb):Str:=rooms.headD ""
theorem ax.first{a e rooms:Zb}{f:List ah}(m:ax a e rooms f):rooms[0]?=some (dJ rooms)/\dJ rooms∈rooms:=by
 have:=m.rooms0;cases rooms with
 |nil=>exact absurd rfl this
 |cons r l=>exact⟨rfl,dz⟩
theorem ax.take1{a e rooms:Zb}{f:List ah}(m:ax a e rooms f):rooms.take 1=[dJ rooms]:=by
 have:=m.rooms0;cases rooms with
 |nil=>exact absurd rfl this
 |cons r l=>rfl
def Jp(ds:List ah):Str->List ah->Bool
 |_,[]=>true
 |r,d::w=>decide (d.a=r) && ((if d.sg=az then decide (d.b=r) && decide (r∉c8 ds)else decide (d∈ds)) && Jp ds d.b w)
def dw(w:List ah):List (List Str):=(w.filter fun d=>!decide (d.sg=ao)).map (·.sg)
theorem xF(w v:List ah):dw (w++v)=dw w++dw v:=by
 unfold dw;rw[gQ,ar]
def Hs(ds:List ah)(d:ah):Prop:=(d.sg=az->d.b=d.a/\d.a∉c8 ds)/\(d.sg≠az->d∈ds)
inductive Jq(ds:List ah)(r0:Str):List ah->Str->Prop
 |nil:Jq ds r0 [] r0
 |snoc {w:List ah}{d:ah}(h:Jq ds r0 w d.a) (ok:Hs ds d):Jq ds r0 (w++[d]) d.b
theorem Jq.go{ds:List ah}{e:Str}{w:List ah}{r:Str}(h:Jq ds e w r):∀v,Jp ds e (w++v)=Jp ds r v:=by
 induction h with
 |nil=>intro v;rfl
 |@snoc w d h ok f =>
  intro v;rw[d_,f];show(decide (d.a=d.a) && ((if d.sg=az then decide (d.b=d.a) && decide (d.a∉c8 ds)else decide (d∈ds)) && Jp ds d.b v))=Jp ds d.b v
  rw[zzr1 rfl];by_cases z:d.sg=az
  ·rw[if_pos z,zzr1 (ok.1 z).1,zzr1 (ok.1 z).2];rfl
  ·rw[if_neg z,zzr1 (ok.2 z)];rfl
theorem Jq.ok{a:List ah}{e:Str}{w:List ah}{r:Str}(h:Jq a e w r):Jp a e w=true:=by
 have:=h.go [];rw[dS]at this;rw[this];rfl
theorem Ht{st:aG}{r:Str}{v:Option ah}(h:jd st r=some v):(r,v)∈st:=by
 unfold jd at h;obtain⟨p,a,rfl⟩:=oh.mp h;have f:=List.find?_some a;have g:=List.mem_of_find?_eq_some a;have e:p.1=r:=of_decide_eq_true f;rw[<-e];exact g
theorem xo{st:aG}{r:Str}(h:r∈st.map (·.1)):∃v,jd st r=some v:=by
 cases q:jd st r with
 |none=>exact absurd h (mY.mp q)
 |some v=>exact⟨v,rfl⟩
theorem Hu{st:aG}{x:aG}{r:Str}(h:r∈st.map (·.1)):jd (st++x) r=jd st r:=by
 obtain⟨v,a⟩:=xo h;rw[a];unfold jd at a ⊢;obtain⟨p,e,rfl⟩:=oh.mp a;rw[List.find?_append,e];rfl
theorem Ba{st:aG}{r:Str}{v:Option ah}(h:r∉st.map (·.1)):jd (st++[(r,v)]) r=some v:=by
 have a:=mY.mpr h;unfold jd at a ⊢;rw[Option.map_eq_none_iff]at a;rw[List.find?_append,a];show((([(r,v)]:aG).find? fun p=>decide (p.1=r)).map (·.2))=some v;rw[jy,show decide ((r,v).1=r)=true from zzr1 rfl];rfl
theorem cp.at_{e:List ah}{a b:aG}(x:cp e a b){r:Str}(h:r∈a.map (·.1)):jd b r=jd a r:=by
 induction x with
 |refl=>rfl
 |step y _ _ _ _ f=>rw[Hu (y.keys r h),f]
theorem xz{st:aG}{r:Str}{d:Option ah}{p:Str×Option ah}(h:p∈jV st r d):p∈st∨p=(r,d):=by
 unfold jV at h;split at h
 ·obtain⟨q,a,e⟩:=aE.mp h;by_cases z:q.1=r
  ·rw[if_pos z]at e;rw[<-e,z];exact .inr rfl
  ·rw[if_neg z]at e;rw[<-e];exact .inl a
 ·rcases bf.mp h with z|z
  ·exact .inl z
  ·exact .inr (by simpa using z)
theorem mJ{st:aG}{r:Str}{d:Option ah}{x:Str}:x∈(jV st r d).map (·.1)↔x∈st.map (·.1)∨x=r:=by
 rw[vj];by_cases z:r∈st.map (·.1)
 ·rw[if_pos z];exact⟨.inl,fun h=>h.elim id fun e=>by rw[e];exact z⟩
 ·rw[if_neg z,bf];simp
def vw(rooms:Zb)(ds:List ah)(sg:Zb)(k:Str):List Str:=if sg=az then(if k∈rooms.filter (eg ds)then[k]else[])else aF ds (k,sg)
def Jm(ds:List ah)(sg:Zb)(ks:Zb)(p:Str×Option ah):Prop:=∃d,p.2=some d/\d.b=p.1/\d.sg=sg/\d.a∈ks/\Hs ds d
theorem qN{ds:List ah}{a:Zb}{r:Str}{P:Str×Option ah->Prop}:∀{gs:Zb}{acc:aG},(∀p∈acc,P p)->(∀g∈gs,P (g,some ⟨r,a,g⟩))->∀p∈iV ds a r gs acc,P p
 |[],_,h,_=>h
 |g::gs,acc,h,e=>qN (ds:=ds) (gs:=gs) (acc:=jV acc g (some ⟨r,a,g⟩)) (fun p f=>by
   rcases xz f with z|z
   ·exact h p z
   ·rw[z];exact e g dz) fun x hx=>e x (gC _ hx)
theorem nY{ds:List ah}{e:Zb}{r x:Str}:∀{gs:Zb}{a:aG},x∈(iV ds e r gs a).map (·.1)↔x∈a.map (·.1)∨x∈gs
 |[],a=>by show x∈a.map (·.1)↔_;simp
 |g::gs,a=>by
  show x∈(iV ds e r gs (jV a g (some ⟨r,e,g⟩))).map (·.1)↔_;rw[nY (ds:=ds) (gs:=gs),mJ,dC];exact⟨fun h=>by rcases h with(h|h)|h;exact .inl h;exact .inr (.inl h);exact .inr (.inr h),fun h=>by rcases h with h|h|h;exact .inl (.inl h);exact .inl (.inr h);exact .inr h⟩
theorem zK{rooms:Zb}{e:List ah}{f:Zb}{a:aG}{k x:Str}:x∈(dW rooms e f a k).map (·.1)↔x∈a.map (·.1)∨x∈vw rooms e f k:=by
 unfold dW vw;by_cases z:f=az
 ·rw[if_pos z,if_pos z];by_cases y:k∈rooms.filter (eg e)
  ·rw[if_pos y,if_pos y,mJ];simp
  ·rw[if_neg y,if_neg y];simp
 ·rw[if_neg z,if_neg z,nY]
theorem CP{rooms:Zb}{f:List ah}{sg:Zb}{a:aG}{k:Str}{i:Zb}(j:k∈i)(h:∀p∈a,Jm f sg i p):∀p∈dW rooms f sg a k,Jm f sg i p:=by
 unfold dW;by_cases z:sg=az
 ·rw[if_pos z];by_cases y:k∈rooms.filter (eg f)
  ·rw[if_pos y];intro p l;rcases xz l with x|x
   ·exact h p x
   ·rw[x];have q:=(bW.mp y).2;rw[k7]at q;exact⟨⟨k,az,k⟩,rfl,rfl,z.symm,j,fun _=>⟨rfl,of_decide_eq_true q⟩,fun n=>absurd rfl n⟩
  ·rw[if_neg y];exact h
 ·rw[if_neg z];exact qN h fun g m=>⟨⟨k,sg,g⟩,rfl,rfl,rfl,j,fun e=>absurd e z,fun _=>bj.mp m⟩
theorem tF{rooms:Zb}{e:List ah}{f:Zb}{x:Str}:∀{ks:Zb}{a:aG},x∈(ks.foldl (dW rooms e f) a).map (·.1)↔x∈a.map (·.1)∨∃k∈ks,x∈vw rooms e f k
 |[],a=>by show x∈a.map (·.1)↔_;simp
 |k::ks,a=>by
  show x∈(ks.foldl (dW rooms e f) (dW rooms e f a k)).map (·.1)↔_;rw[tF (ks:=ks),zK];constructor
  ·rintro((h|h)|⟨j,hj,h⟩)
   ·exact .inl h
   ·exact .inr ⟨k,dz,h⟩
   ·exact .inr ⟨j,gC _ hj,h⟩
  ·rintro(h|⟨j,hj,h⟩)
   ·exact .inl (.inl h)
   ·rcases dC.mp hj with rfl|hj
    ·exact .inl (.inr h)
    ·exact .inr ⟨j,hj,h⟩
theorem xO{rooms:Zb}{e:List ah}{f:Zb}{K:Zb}:∀{ks:Zb}{a:aG},(∀k∈ks,k∈K)->(∀p∈a,Jm e f K p)->∀p∈ks.foldl (dW rooms e f) a,Jm e f K p
 |[],_,_,h=>h
 |k::ks,a,g,h=>xO (ks:=ks) (fun x hx=>g x (gC _ hx)) (CP (g k dz) h)
theorem p9{rooms:Zb}{a:List ah}{e f:Zb}{x:Str}:x∈(fB rooms a e f).map (·.1)↔∃k∈f,x∈vw rooms a e k:=by
 unfold fB;rw[tF];simp
theorem CL{rooms:Zb}{ds:List ah}{a e:Zb}:∀p∈fB rooms ds a e,Jm ds a e p:=xO (fun _ h=>h) fun _ h=>nomatch h
def mN(ds:List ah)(a b:aG):Prop:=cp ds a b/\∀r∈b.map (·.1),∀g∈aF ds (r,ao),g∈b.map (·.1)
inductive mS(rooms:Zb)(ds:List ah):List (List Str)->List aG->aG->Prop
 |nil {st:aG}(h:mN ds [(dJ rooms,none)] st):mS rooms ds [] [] st
 |snoc {story:List (List Str)}{fz:List aG}{st:aG}{sg:Zb}{st':aG}(a:mS rooms ds story fz st) (h:mN ds (fB rooms ds sg (st.map (·.1))) st'):mS rooms ds (story++[sg]) (st::fz) st'
theorem mN.from_{k:List ah}{a b:aG}(h:mN k a b){r:Str}:r∈b.map (·.1)↔gL k (a.map (·.1)) r:=by
 obtain⟨on,l⟩:=h;constructor
 ·clear l;intro m
  induction on generalizing r with
  |refl=>exact⟨r,m,.inl rfl⟩
  |@step n d y o p s t j =>
   rw[ar]at m;rcases bf.mp m with z|z
   ·exact j z
   ·have e:r=d.b:=by simpa using z
    have f:(⟨d.a,ao,d.b⟩:ah)∈k:=by
     have:=bj.mp s;rw[o]at this;exact this
    obtain⟨g,i,q⟩:=j p;rw[e];rcases q with q|q
    ·exact⟨g,i,.inr (.one (by rw[<-q];exact f))⟩
    ·exact⟨g,i,.inr (.step q f)⟩
 ·rintro⟨g,i,rfl|q⟩
  ·exact on.keys _ i
  ·induction q with
   |one e=>exact l g (on.keys _ i) _ (bj.mpr e)
   |step _ e j=>exact l _ j _ (bj.mpr e)
theorem FS{a:List ah}{r:Str}(h:r∉c8 a){g:Str}:(⟨r,ao,g⟩:ah)∉a:=fun z=>h (aE.mpr ⟨_,bW.mpr ⟨z,by show(!decide (("still":Str)="ask"))=true;decide +kernel⟩,rfl⟩)
theorem Do{ds:List ah}{a:Zb}(h:∀g∈a,g∉c8 ds){r:Str}:gL ds a r↔r∈a:=by
 constructor
 ·rintro⟨g,f,rfl|q⟩
  ·exact f
  ·exfalso;have:∀{x},Reach ds g x->∃y,(⟨g,ao,y⟩:ah)∈ds:=by
    intro x q
    induction q with
    |one e=>exact⟨_,e⟩
    |step _ _ i=>exact i
   obtain⟨y,j⟩:=this q;exact FS (h g f) j
 ·exact fun k=>⟨r,k,.inl rfl⟩
section
variable{J0 J2 rooms:Zb}{ds:List ah}
theorem mS.face(m:ax J0 J2 rooms ds){f:List (List Str)}{t:List aG}{st:aG}(h:mS rooms ds f t st):∀r,r∈st.map (·.1)↔r∈faceOf rooms ds f:=by
 have l:∀d∈ds,d.b∈rooms:=fun d l=>(m.good d l).b
 induction h with
 |@nil st h =>
  intro r;rw[h.from_];show _↔r∈closF rooms ds (rooms.take 1);rw[fk,m.take1];have v:∀g∈[dJ rooms],g∈rooms:=fun g i=>by
   rw[cA.mp i];exact m.first.2
  exact⟨fun q=>⟨q.in_ v l,q⟩,fun q=>q.2⟩
 |@snoc f t st n w a h p =>
  intro r;rw[h.from_,gF];have s:∀k∈st.map (·.1),k∈rooms:=fun k j=>(nE (by have:=m.rooms26;omega) f).1 k ((p k).mp j);unfold behF;by_cases z:n=az
  ·rw[if_pos z,bW,decide_eq_true_iff,<-p r];have o:∀g,g∈(fB rooms ds n (st.map (·.1))).map (·.1)↔g∈st.map (·.1)/\g∉c8 ds:=by
    intro g;rw[p9];constructor
    ·rintro⟨k,j,i⟩;unfold vw at i;rw[if_pos z]at i;by_cases y:k∈rooms.filter (eg ds)
     ·rw[if_pos y]at i;have e:g=k:=by simpa using i
      have q:=(bW.mp y).2;rw[k7]at q;rw[e];exact⟨j,of_decide_eq_true q⟩
     ·rw[if_neg y]at i;cases i
    ·rintro⟨j,A⟩;refine⟨g,j,?_⟩;unfold vw;rw[if_pos z,if_pos (bW.mpr ⟨s g j,by rw[k7];exact zzr1 A⟩)];exact dz
   rw[Do fun g i=>((o g).mp i).2,o]
  ·rw[if_neg z,fk];have o:∀g,g∈(fB rooms ds n (st.map (·.1))).map (·.1)↔g∈cV ds n (faceOf rooms ds f):=by
    intro g;rw[p9,cj];unfold vw;simp only[if_neg z];exact⟨fun⟨k,j,i⟩=>⟨k,(p k).mp j,bj.mp i⟩,fun⟨k,j,i⟩=>⟨k,(p k).mpr j,bj.mpr i⟩⟩
   constructor
   ·rintro⟨g,i,q⟩;have u:gL ds (cV ds n (faceOf rooms ds f)) r:=⟨g,(o g).mp i,q⟩;exact⟨u.in_ (fun x hx=>by obtain⟨y,_,B⟩:=cj.mp hx;exact l _ B) l,u⟩
   ·rintro⟨_,g,i,q⟩;exact⟨g,(o g).mpr i,q⟩
theorem mS.kin(m:ax J0 J2 rooms ds){e:List (List Str)}{g:List aG}{st:aG}(h:mS rooms ds e g st):wb rooms st:=by
 have f:∀d∈ds,d.b∈rooms:=fun d f=>(m.good d f).b;refine⟨?_,fun r i=>(nE (by have:=m.rooms26;omega) e).1 r ((h.face m r).mp i)⟩;cases h with
 |nil h=>exact h.1.nodup (by simp)
 |snoc a h=>exact h.1.nodup (mw f _).nd
end
inductive wd:List aG->aG->Str->List ah->Prop
 |stop {fz:List aG}{st:aG}{r:Str}(h:jd st r=some none):wd fz st r []
 |still {fz:List aG}{st:aG}{r:Str}{d:ah}{ws:List ah}(h:jd st r=some (some d)) (e:d.sg=ao) (b:wd fz st d.a ws):wd fz st r (d::ws)
 |pop {fz:List aG}{st st':aG}{r:Str}{d:ah}{ws:List ah}(h:jd st r=some (some d)) (e:d.sg≠ao) (b:wd fz st' d.a ws):wd (st'::fz) st r (d::ws)
section
variable{J0 J2 rooms:Zb}{ds:List ah}
theorem vX{q:List aG}{a st:aG}{f:List (List Str)}{N:Nat}(h:cp ds a st)(base:∀r∈a.map (·.1),∃w,Jq ds (dJ rooms) w r/\dw w=f/\w.length<=N+a.length/\wd q st r w.reverse):
  ∀{b:aG},cp ds a b->cp ds b st->∀r∈b.map (·.1),∃w,Jq ds (dJ rooms) w r/\dw w=f/\w.length<=N+b.length/\wd q st r w.reverse:=by
 intro b j
 induction j with
 |refl=>exact fun _=>base
 |@step b d y k s j t u =>
  intro on r v;have g:cp ds b st:=(cp.step (.refl b) k s j t).trans on;rw[ar]at v;rcases bf.mp v with z|z
  ·obtain⟨w,l,m,x,n⟩:=u g r z;exact⟨w,l,m,by rw[aA];omega,n⟩
  ·have e:r=d.b:=by simpa using z
   obtain⟨w,l,m,x,n⟩:=u g d.a s;have i:d.b∈(b++[(d.b,some d)]).map (·.1):=by rw[ar];exact cQ _ (by simp)
   have o:jd st d.b=some (some d):=by rw[on.at_ i,Ba t]
   have p:d∈ds:=bj.mp j;have A:d.sg≠az:=by rw[k];exact fun z=>Km z.symm
   rw[e];refine⟨w++[d],.snoc l ⟨fun z=>absurd z A,fun _=>p⟩,?_,?_,?_⟩
   ·rw[xF,m];have:dw [d]=[]:=by unfold dw;rw[List.filter_cons_of_neg (by rw[k];simp)];rfl
    rw[this,dS]
   ·rw[aA,aA];show w.length+1<=N+(b.length+1);omega
   ·rw[List.reverse_append];exact .still o k n
theorem mS.back(m:ax J0 J2 rooms ds){f:List (List Str)}{l:List aG}{st:aG}(h:mS rooms ds f l st):(∀g∈f,g≠ao)->∀r∈st.map (·.1),∃w,Jq ds (dJ rooms) w r/\dw w=f/\w.length<=f.length * 151+st.length/\wd l st r w.reverse:=by
 induction h with
 |@nil st h =>
  intro _;refine vX (N:=0) h.1 (fun r i=>?_) h.1 (.refl _);have e:r=dJ rooms:=by simpa using i
  refine⟨[],by rw[e];exact .nil,rfl,c_ _,.stop ?_⟩;rw[h.1.at_ i,e];exact Ba (st:=[]) (by simp)
 |@snoc f l st g u a h x =>
  intro q;have n:∀s∈f,s≠ao:=fun s y=>q s (cu _ y);have j:g≠ao:=q g (cQ _ (by simp));have I:=(a.kin m).len;have z:=m.rooms26;refine vX (N:=(f++[g]).length * 151) h.1 (fun r i=>?_) h.1 (.refl _);obtain⟨v,t⟩:=xo i;obtain⟨d,A,B,o,C,D⟩:=CL (r,v) (Ht t);have p:v=some d:=A;have k:d.b=r:=B;subst p;obtain⟨w,E,G,J,H⟩:=x n d.a C;rw[<-k];refine⟨w++[d],.snoc E D,?_,?_,?_⟩
  ·rw[xF,G];have:dw [d]=[g]:=by unfold dw;rw[List.filter_cons_of_pos (by rw[o];simp[j])];show[d.sg]=_;rw[o]
   rw[this]
  ·rw[aA,aA];show w.length+1<=(f.length+1) * 151+_;omega
  ·rw[List.reverse_append];exact .pop (by rw[k,h.1.at_ i];exact t) (by rw[o];exact j) H
end
def GC(K:Za)(H:Hp)(v:V):Option ah->Prop
 |none=>v=.non
 |some d=>∃t s,v=.ref t/\H t=some (.tup [.str d.a,.ref s,.str d.b])/\bV K H s (d.sg.map V.str)
theorem GC.kt{K:Za}{H a:Hp}{v:V}{o:Option ah}(k:gx H a)(h:GC K H v o):GC K a v o:=by
 cases o with
 |none=>exact h
 |some d =>
  obtain⟨t,s,e,f,g⟩:=h;exact⟨t,s,e,k _ _ f,bV.kt k g⟩
def KvAt(K:Za)(H:Hp)(kv:cX×V)(p:Str×Option ah):Prop:=kv.1=.inr p.1/\GC K H kv.2 p.2
abbrev g7(K:Za)(H:Hp)(kvs:List (cX×V))(st:aG):Prop:=Paired (KvAt K H) kvs st
theorem g7.kt{K:Za}{H e:Hp}{a:List (cX×V)}{st:aG}(k:gx H e)(h:g7 K H a st):g7 K e a st:=Paired.mapP h fun _ _ r=>⟨r.1,r.2.kt k⟩
theorem g7.look{K:Za}{H:Hp}{r:Str}:∀{e:List (cX×V)}{st:aG},g7 K H e st->(c6 e (.inr r:cX)=none/\jd st r=none)∨∃v o,c6 e (.inr r:cX)=some v/\jd st r=some o/\GC K H v o
 |_,_,.nil=>.inl ⟨rfl,rfl⟩
 |_,_,.cons (a:=f) (b:=p) (l₁:=e) (l₂:=st) h t=>by
  obtain⟨g,i⟩:=h;by_cases c:p.1=r
  ·refine .inr ⟨f.2,p.2,?_,?_,i⟩
   ·unfold c6;rw[jy,g,zzr1 (by rw[c])];rfl
   ·unfold jd;rw[jy,zzr1 c];rfl
  ·have j:c6 (f::e) (.inr r:cX)=c6 e (.inr r:cX):=by
    unfold c6;rw[jy,g,zzr0 (fun z=>c (by injection z))]
   have k:jd (p::st) r=jd st r:=by
    unfold jd;rw[jy,zzr0 c]
   rw[j,k];exact g7.look t
theorem g7.keys{K:Za}{H:Hp}:∀{a:List (cX×V)}{st:aG},g7 K H a st->(a.map fun e=>kV e.1)=(st.map (·.1)).map V.str
 |_,_,.nil=>rfl
 |_,_,.cons h t=>by
  rw[bL,bL,bL,g7.keys t,h.1];rfl
theorem g7.put{K:Za}{H:Hp}{e:List (cX×V)}{st:aG}{r:Str}{v:V}{o:Option ah}(h:g7 K H e st)(g:GC K H v o):g7 K H (dP e (.inr r:cX) v) (jV st r o):=by
 have i:(e.any fun j=>decide (j.1=(.inr r:cX)))=st.any fun p=>decide (p.1=r):=by
  induction h with
  |nil=>rfl
  |cons a t f =>
   rw[mo,mo,f,a.1];congr 1;exact decide_eq_decide.2 ⟨fun z=>by injection z,fun z=>by rw[z]⟩
 unfold dP jV;rw[i];split
 ·next k =>
  clear i k
  induction h with
  |nil=>exact .nil
  |@cons j p e st a t f =>
   rw[bL,bL];refine .cons ?_ f;by_cases c:p.1=r
   ·rw[if_pos (by rw[a.1,c]),if_pos c];exact⟨a.1,g⟩
   ·rw[if_neg (by rw[a.1];intro z;exact c (by injection z)),if_neg c];exact a
 ·exact ee h ⟨rfl,g⟩
inductive nk(K:Za)(C:Addr)(vs:List V)(H:Hp)(Q:VK)(E:XK):Prop
 |mk (H0:Hp) (x d:Addr) (kvs:List (cX×V)) (st:aG) (J0 J2 rooms:Zb) (ds:List ah):(vs=[.ref x,.ref d])->(bc C H0 x J0 J2 rooms ds)->(H0 d=none)->(ab H0 H)->(H d=some (.dK kvs))->(g7 K H kvs st)->(wb rooms st) ->
  (∀(kvs':List (cX×V)) (st':aG) (H':Hp),H' d=some (.dK kvs')->g7 K H' kvs' st'->mN ds st st'->dZ d H H'->Q .non H')->nk K C vs H Q E
theorem FN{K:Za}{C a:Addr}(ha:∀H,br K H a (ao.map V.str)){vs:List V}{H:Hp}{Q:VK}{E:XK}(h:nk K C vs H Q E):pU K C (eV K C) a (bN Q) (start qX vs) H:=by
 obtain⟨H0,x,d,a5,st,J0,J2,rooms,A,rfl,MA,ca,S0,hd,a6,kin,k⟩:=h;have z3:=MA.ok.rooms26;have a7:=MA.ok.good;have gd:∀q∈A,q.b∈rooms:=fun q hq=>(a7 q hq).b;have rm:∀{j},cp A st j->j.length<=rooms.length:=fun{j} o=>by
  have:=jH (o.nodup kin.nd) (o.rooms kin.inr gd fun hg=>bj.mp hg);simpa using this
 refine⟨_,rfl,.inr ⟨d,a5,rfl,.inl hd,fun s B=>?_⟩⟩;rw[a6.keys];have S1:ab H (upd H s (.lst ((st.map (·.1)).map V.str))):=ab.new B;have a8:upd H s (.lst ((st.map (·.1)).map V.str)) s=some (.lst ((st.map (·.1)).map V.str)):=aa;have as:s≠d:=(ae hd B).symm;have c0:H0 s=none:=S0.free B;generalize upd H s (.lst ((st.map (·.1)).map V.str))=H1 at S1 a8 ⊢;refine⟨fun n σ G=>∃(m:List (cX×V)) (j:aG) (f:Zb) (x3 Y:Option V),σ=[some (.ref x),some (.ref d),some (.ref s),x3,Y]/\G d=some (.dK m)/\g7 K G m j/\G s=some (.lst (f.map V.str))/\Wt A st j f/\n=f.length+2 * (rooms.length-j.length)/\n<=300/\∀b o,H b=some o->b≠d->G b=some o,
  ⟨_,a5,st,st.map (·.1),_,_,rfl,S1 _ _ hd,a6.kt (ab.kt S1),a8,⟨.refl _,fun r h=>h,fun r h=>.inl h⟩,rfl,by rw[ai];have:=rm (.refl st);omega,fun b o e _=>S1 _ _ e⟩,?_⟩
 rintro n σ G ⟨D,L,f,x3,Y,rfl,a9,al,M,W,rfl,cL,bb⟩;refine⟨_,rfl,.inl ⟨s,_,rfl,.inl (ay.of M),_,_,rfl,rfl,_,rfl,?_⟩⟩;rw[ai];rcases List.eq_nil_or_concat f with e0|⟨u,room,e1⟩
 ·rw[e0,zzr0 (by show ¬(0:Int)<(([]:Zb).length:Nat);decide)];refine bd (k D L G a9 al ⟨W.on,fun r hr=>?_⟩ fun b o e nb=>bb b o e nb);rcases W.done r hr with z|z
  ·rw[e0]at z;cases z
  ·exact z
 rw[List.concat_eq_append]at e1;subst e1;rw[zzr1 (by show(0:Int)<((u++[room]).length:Nat);rw[aA];show(0:Int)<((u.length+1:Nat));omega)];refine bU ?_;have l1:=rm W.on;refine⟨fun σ' I=>∃(m:List (cX×V)) (j:aG) (f:Zb) (x3 Y:Option V),σ'=[some (.ref x),some (.ref d),some (.ref s),x3,Y]/\I d=some (.dK m)/\g7 K I m j/\I s=some (.lst (f.map V.str))/\Wt A st j f/\f.length+2 * (rooms.length-j.length)<(u++[room]).length+2 * (rooms.length-L.length)/\∀b o,H b=some o->b≠d->I b=some o,?_,?_⟩
 ·rintro σ' I ⟨m,j,f,x3,Y,rfl,b1,b2,b3,b4,b5,b6⟩;exact⟨_,b5,m,j,f,x3,Y,rfl,b1,b2,b3,b4,rfl,by omega,b6⟩
 refine⟨_,rfl,.inl ⟨rfl,_,ay.of M⟩,s,_,.str room,rfl,rfl,M,?_,?_⟩
 ·rw[ar,aA,mq (by show _<=_+1-1;omega)];show[V.str room][_+1-1-_]?=_;rw[Nat.add_sub_cancel,rp];rfl
 have cc:((u++[room]).map V.str).dropLast=u.map V.str:=by
  rw[ar];exact List.dropLast_concat
 rw[cc];have cd:gx G (upd G s (.lst (u.map V.str))):=cO M;have aC:upd G s (.lst (u.map V.str)) d=some (.dK D):=by rw[aj as.symm];exact a9
 have a0:upd G s (.lst (u.map V.str)) s=some (.lst (u.map V.str)):=aa;have a4:∀b o,H b=some o->b≠d->upd G s (.lst (u.map V.str)) b=some o:=fun b o e nb=>by rw[aj (ae e B)];exact bb b o e nb
 have an:=al.kt cd;generalize upd G s (.lst (u.map V.str))=G2 at aC a0 a4 an ⊢;have ce:ab H0 G2:=fun b o e=>a4 _ _ (S0 _ _ e) (ae e ca);have M2:=MA.same ce;obtain⟨dm,fm,_,_,_,_,_,_,_,_,_,_,_,_,q1,_,q2,_⟩:=M2.at_;refine⟨_,rfl,x,dm,fm,rfl,q1,q2,_,rfl,x,a,room,ao,J0,J2,rooms,A,rfl,M2,ha _,fun gl G3 bi bl S3=>⟨gl,rfl,⟨_,ay.of bi⟩,?_⟩⟩;have ch:gl≠d:=(ae aC bl).symm;have ci:gl≠s:=(ae a0 bl).symm;refine bw (xs:=(aF A (room,ao)).map V.str) (fun i σ' I=>∃(m:List (cX×V)) (j:aG) (f:Zb) (Y:Option V),σ'=[some (.ref x),some (.ref d),some (.ref s),some (.str room),Y]/\I d=some (.dK m)/\g7 K I m j/\I s=some (.lst (f.map V.str))/\cp A st j/\room∈j.map (·.1)/\(∀r∈f,r∈j.map (·.1))/\(∀r∈j.map (·.1),r=room∨r∈f∨∀g∈aF A (r,ao),g∈j.map (·.1))/\(∀g∈(aF A (room,ao)).take i,g∈j.map (·.1))/\f.length+2 * (rooms.length-j.length)<(u++[room]).length+2 * (rooms.length-L.length)/\∀b o,G3 b=some o->b≠d->b≠s->I b=some o)
  ⟨D,L,u,_,rfl,S3 _ _ aC,an.kt (ab.kt S3),S3 _ _ a0,W.on,W.there room (by simp),fun r h=>W.there r (by simp[h]),fun r h=>?_,by simp,by simp,fun _ _ e _ _=>e⟩ (fun i σ' I _ zq=>by obtain⟨_,_,_,_,_,_,_,_,_,_,_,_,_,_,ex⟩:=zq;exact ay.of (ex _ _ bi ch ci)) ?_ ?_
 ·rcases W.done r h with z|z
  ·rcases bf.mp z with z|z
   ·exact .inr (.inl z)
   ·exact .inl (by simpa using z)
  ·exact .inr (.inr z)
 ·rintro i y σ' G4 hy ⟨l,p,w4,cl,rfl,J,t,N,on,ir,th,dn,tk,lt,O⟩;obtain⟨g,hg,rfl⟩:=bh hy;have bn:∀{T:aG},g∈T.map (·.1)->(∀y∈p.map (·.1),y∈T.map (·.1))->∀y∈(aF A (room,ao)).take (i+1),y∈T.map (·.1):=fun{T} h1 h2 y hy=>by
   rw[take_snoc hg]at hy;rcases bf.mp hy with z|z
   ·exact h2 y (tk y z)
   ·rw[cA.1 z];exact h1
  have gi:g∈aF A (room,ao):=bX hg;refine⟨_,rfl,_,rfl,d,_,rfl,.inl ⟨l,.inr g,.inl J,rfl,rfl⟩,_,rfl,?_⟩;rcases t.look (r:=g)with⟨e1,e2⟩|⟨v,o,e1,e2,_⟩
  ·rw[e1];refine bU ?_;have ng:g∉p.map (·.1):=mY.1 e2;refine⟨_,rfl,_,rfl,(by show 3<=ak;decide),fun w cm=>?_⟩;have S5:ab G4 (upd G4 w (.tup [.str room,.ref a,.str g])):=ab.new cm;have t5:upd G4 w (.tup [.str room,.ref a,.str g]) w=some (.tup [.str room,.ref a,.str g]):=aa;generalize upd G4 w (.tup [.str room,.ref a,.str g])=G5 at S5 t5 ⊢;have b0:=S5 _ _ J;have co:=S5 _ _ N;have b7:cp A st (p++[(g,some (⟨room,ao,g⟩:ah))]):=.step (d:=⟨room,ao,g⟩) on rfl ir gi ng;have l3:=rm b7;rw[aA]at l3;have l3:p.length+1<=rooms.length:=l3;have zk:l.length=p.length:=Paired.length t;refine⟨_,rfl,_,rfl,d,_,rfl,.inl ⟨l,.inr g,b0,rfl,by rw[ma];omega,rfl⟩,?_⟩;have cq:gx G5 (upd G5 d (.dK (dP l (.inr g) (.ref w)))):=fun b xs q=>by rw[aj (fun z=>by rw[z,b0]at q;cases q)];exact q
   have ap:g7 K (upd G5 d (.dK (dP l (.inr g) (.ref w)))) (dP l (.inr g) (.ref w)) (p++[(g,some (⟨room,ao,g⟩:ah))]):=by
    rw[<-xn ng];exact((t.kt (ab.kt S5)).put (o:=some (⟨room,ao,g⟩:ah)) ⟨w,a,rfl,t5,Eg ha _⟩).kt cq
   have U:upd G5 d (.dK (dP l (.inr g) (.ref w))) s=some (.lst (w4.map V.str)):=by rw[aj as];exact co
   have b8:upd G5 d (.dK (dP l (.inr g) (.ref w))) d=some (.dK (dP l (.inr g) (.ref w))):=aa;have b9:∀b o,G5 b=some o->b≠d->upd G5 d (.dK (dP l (.inr g) (.ref w))) b=some o:=fun b o q n=>by rw[aj n];exact q
   generalize upd G5 d (.dK (dP l (.inr g) (.ref w)))=G6 at ap U b8 b9 ⊢;have k3:∀y∈p.map (·.1),y∈(p++[(g,some (⟨room,ao,g⟩:ah))]).map (·.1):=fun y h=>by rw[ar];exact cu _ h
   have kg:g∈(p++[(g,some (⟨room,ao,g⟩:ah))]).map (·.1):=by rw[ar];exact cQ _ (by simp)
   refine⟨_,rfl,.inl ⟨rfl,_,ay.of U⟩,_,rfl,s,_,_,rfl,rfl,U,by rw[ai];exact aq (by omega),?_⟩;have cs:gx G6 (upd G6 s (.lst (w4.map V.str++[.str g]))):=cO U;refine⟨_,_,w4++[g],_,rfl,by rw[aj as.symm];exact b8,ap.kt cs,by rw[aa,ar];rfl,b7,k3 _ ir,fun r h=>?_,fun r h=>?_,bn kg k3,?_,fun b o q n1 n2=>?_⟩
   ·rcases bf.1 h with h|h
    ·exact k3 r (th r h)
    ·rw[cA.1 h];exact kg
   ·rw[ar]at h;rcases bf.1 h with h|h
    ·rcases dn r h with z|z|z
     ·exact .inl z
     ·exact .inr (.inl (cu _ z))
     ·exact .inr (.inr fun y hy=>k3 y (z y hy))
    ·have:r=g:=by simpa using h
     rw[this];exact .inr (.inl (cQ _ (by simp)))
   ·rw[aA,aA];have:([g]:Zb).length=1:=rfl;have:([(g,some (⟨room,ao,g⟩:ah))]:aG).length=1:=rfl;omega
   ·rw[aj n2];exact b9 _ _ (S5 _ _ (O _ _ q n1 n2)) n1
  ·rw[e1];refine bd ?_;have ct:g∈p.map (·.1):=by
    cases Classical.em (g∈p.map (·.1))with
    |inl h=>exact h
    |inr h=>rw[mY.2 h]at e2;cases e2
   exact⟨l,p,w4,_,rfl,J,t,N,on,ir,th,dn,bn ct fun _ h=>h,lt,O⟩
 ·rintro σ' G4 ⟨l,p,w4,cl,rfl,J,t,N,on,ir,th,dn,tk,lt,O⟩;rw[ai,bp]at tk;refine⟨l,p,w4,_,_,rfl,J,t,N,⟨on,th,fun r h=>?_⟩,lt,fun b o e nb=>O _ _ (S3 _ _ (a4 b o e nb)) nb (ae e B)⟩;rcases dn r h with z|z|z
  ·rw[z];exact .inr tk
  ·exact .inl z
  ·exact .inr z
theorem Kr{d:Addr}{o:Obj}{a:List (cX×V)}{g:TG}{k:TS}{D:pF}{σ:L2.St}{H:Hp}(Pv:Nat->L2.St->Hp->Prop)(n:Pv 0 σ H)(r:∀i σ H,i<=a.length->Pv i σ H->H d=some (.frz o (.dK a)))
  (s:∀i h σ H,a[i]?=some h->Pv i σ H->g (kV h.1) σ H fun σ2 j=>k { D with nx:=Pv (i+1),ct:=Pv (i+1),bk:=D.nx } σ2 j) (t:∀σ H,Pv a.length σ H->D.nx σ H) :
  ∃W:Nat->Nat->L2.St->Hp->Prop,(∃m,W 0 m σ H)/\∀i m σ H,W i m σ H ->
   ((LQ d o a).stop i H/\D.nx σ H)∨((LQ d o a).go i H/\∃N:L2.St->Hp->Prop,(∀σ' f,N σ' f->∃l,l<m/\W (i+1) l σ' f)/\∀x f,(LQ d o a).yld i H x f->g x σ f fun σ2 j=>k { D with nx:=N,ct:=N,bk:=D.nx } σ2 j):=by
 refine⟨fun i m σ H=>m=a.length-i/\i<=a.length/\Pv i σ H,⟨a.length,by simp,c_ _,n⟩,?_⟩;rintro i m σ H ⟨rfl,hi,p⟩;have q:=r i σ H hi p;by_cases lt:i<a.length
 ·refine .inr ⟨⟨q,lt⟩,Pv (i+1),fun σ' f u=>⟨a.length-(i+1),by omega,rfl,lt,u⟩,fun x f y=>?_⟩;obtain⟨rfl,h,v,rfl⟩:=y;exact s i h σ _ v p
 ·have e:i=a.length:=by omega
  subst e;exact .inl ⟨⟨q,aR _⟩,t σ H p⟩
inductive jW(K:Za)(C:Addr)(vs:List V)(H:Hp)(Q:VK)(E:XK):Prop
 |mk (H0:Hp) (x d su:Addr) (kvs:List (cX×V)) (st:aG) (sg:Sg) (J0 J2 rooms:Zb) (ds:List ah):(vs=[.ref x,.ref d,.ref su])->(bc C H0 x J0 J2 rooms ds)->(H0 d=none)->(ab H0 H)->(H d=some (.dK kvs))->(g7 K H kvs st)->(bV K H su (sg.map V.str)) ->
  (∀(o:Obj) (d':Addr) (kvs':List (cX×V)) (H':Hp),H' d=some (.frz o (.dK kvs))->H' d'=some (.dK kvs')->H d'=none->g7 K H' kvs' (fB rooms ds sg (st.map (·.1)))->dZ d H H'->Q (.ref d') H')->jW K C vs H Q E
theorem Bd{K:Za}{C J:Addr}(hh:∀H,br K H J (az.map V.str)){vs:List V}{H:Hp}{Q:VK}{E:XK}(h:jW K C vs H Q E):Cn K J C (iS C) (eV K C) (bN Q) (start DC vs) H:=by
 obtain⟨H0,x,d,D,f,st,sg,J0,J2,rooms,ds,rfl,MA,a7,S0,hd,al,a8,k⟩:=h;have z3:=MA.ok.rooms26;have an:∀q∈ds,q.b∈rooms:=fun q hq=>(MA.ok.good q hq).b;refine fun e m=>?_;have S1:ab H (upd H e (.dK [])):=ab.new m;have d1:upd H e (.dK []) e=some (.dK []):=aa;have L:e≠d:=(ae hd m).symm;have b7:H0 e=none:=S0.free m;generalize upd H e (.dK [])=Y at S1 d1 ⊢;refine⟨_,rfl,d,f,rfl,.inl ⟨S1 _ _ hd,fun o=>?_⟩⟩;have a9:gx Y (upd Y d (.frz o (.dK f))):=fun b xs q=>by rw[aj (fun z=>by rw[z,S1 _ _ hd]at q;cases q)];exact q
 have d2:upd Y d (.frz o (.dK f)) d=some (.frz o (.dK f)):=aa;have ap:upd Y d (.frz o (.dK f)) e=some (.dK []):=by rw[aj L];exact d1
 have M:∀b u,H b=some u->b≠d->upd Y d (.frz o (.dK f)) b=some u:=fun b u q n=>by rw[aj n];exact S1 _ _ q
 generalize upd Y d (.frz o (.dK f))=H2 at a9 d2 ap M ⊢;have zk:f.length=(st.map (·.1)).length:=by rw[Paired.length al,ai]
 refine Kr (fun i σ G=>∃(a:List (cX×V)) (x4 x5:Option V),σ=[some (.ref x),some (.ref d),some (.ref D),some (.ref e),x4,x5]/\G e=some (.dK a)/\g7 K G a (fB rooms ds sg ((st.map (·.1)).take i))/\∀b u,H2 b=some u->b≠e->G b=some u)
  ⟨[],_,_,rfl,ap,.nil,fun _ _ q _=>q⟩ (fun i σ G _ zq=>by obtain⟨_,_,_,_,_,_,ex⟩:=zq;exact ex _ _ d2 L.symm) ?_ ?_
 ·rintro i kv σ G hi ⟨a,x4,x5,rfl,N,I,ex⟩;obtain⟨p,hp,bb,_⟩:=Paired.getL al hi;have hr:(st.map (·.1))[i]?=some p.1:=by rw[cS,hp];rfl
  have bi:kV kv.1=V.str p.1:=by rw[bb];rfl
  rw[bi];have es:=zB (rooms:=rooms) (ds:=ds) (sg:=sg) hr;have as:∀b u,H b=some u->b≠d->G b=some u:=fun b u q n=>ex _ _ (M b u q n) (ae q m);have bl:ab H0 G:=fun b u q=>as _ _ (S0 _ _ q) (ae q a7);have bn:gx H G:=fun b xs q=>as b _ q fun z=>by rw[z,hd]at q;cases q
  have MG:=MA.same bl;have kin:wb rooms (fB rooms ds sg ((st.map (·.1)).take i)):=mw an _;have aC:a.length<=150:=by rw[Paired.length I];exact bI kin.len z3
  generalize fB rooms ds sg ((st.map (·.1)).take i)=base at I kin es aC;obtain⟨dm,fm,_,_,_,_,_,_,_,_,_,_,_,_,q1,qi,q2,_⟩:=MG.at_;have t:=bV.kt bn a8;refine⟨_,rfl,fT sg,fT az,aW (bV.sq t),aW (hh G),by rw[bz];decide,by rw[bz];decide,_,rfl,?_⟩;rw[eI];by_cases cs:sg=az
  ·rw[zzr1 cs];refine bU ?_;refine⟨_,rfl,x,dm,fm,rfl,q1,qi,_,rfl,x,p.1,J0,J2,rooms,ds,rfl,MG,_,rfl,?_⟩;by_cases cq:p.1∈rooms.filter (eg ds)
   ·rw[zzr1 cq];refine bU ⟨_,rfl,_,rfl,(by show 3<=ak;decide),fun s O=>?_⟩;have A:ab G (upd G s (.tup [.str p.1,.ref J,.str p.1])):=ab.new O;have t3:upd G s (.tup [.str p.1,.ref J,.str p.1]) s=some (.tup [.str p.1,.ref J,.str p.1]):=aa;have T:=A _ _ N;have a0:=I.kt (ab.kt A);refine⟨_,rfl,_,rfl,e,_,rfl,.inl ⟨a,.inr p.1,T,rfl,by rw[ma];omega,rfl⟩,?_⟩;generalize upd G s (.tup [.str p.1,.ref J,.str p.1])=G3 at A t3 T a0 ⊢;have b0:gx G3 (upd G3 e (.dK (dP a (.inr p.1) (.ref s)))):=fun b xs q=>by rw[aj (fun z=>by rw[z,T]at q;cases q)];exact q
    refine⟨_,_,_,rfl,aa,?_,fun b u q n=>by rw[aj n];exact A _ _ (ex b u q n)⟩;rw[es];unfold dW;rw[if_pos cs,if_pos cq];exact(a0.put (o:=some (⟨p.1,az,p.1⟩:ah)) ⟨s,J,rfl,t3,Eg hh _⟩).kt b0
   ·rw[zzr0 cq];refine bd ⟨a,_,_,rfl,N,?_,ex⟩;rw[es];unfold dW;rw[if_pos cs,if_neg cq];exact I
  ·rw[zzr0 cs];refine bd ?_;refine⟨_,rfl,x,dm,fm,rfl,q1,q2,_,rfl,_,rfl,x,D,p.1,sg,J0,J2,rooms,ds,rfl,MG,bV.sq t,fun gl G3 a4 b1 A=>⟨gl,rfl,⟨_,ay.of a4⟩,?_⟩⟩;have b2:gl≠e:=(ae N b1).symm;have ep:∀acc:aG,dW rooms ds sg acc p.1=iV ds sg p.1 (aF ds (p.1,sg)) acc:=fun acc=>by unfold dW;rw[if_neg cs]
   have gg:∀g∈aF ds (p.1,sg),g∈rooms:=fun g hg=>an _ (bj.mp hg);refine bw (xs:=(aF ds (p.1,sg)).map V.str) (fun j σ G'=>∃(v:List (cX×V)) (x5:Option V),σ=[some (.ref x),some (.ref d),some (.ref D),some (.ref e),some (.str p.1),x5]/\G' e=some (.dK v)/\g7 K G' v (iV ds sg p.1 ((aF ds (p.1,sg)).take j) base)/\∀b u,G3 b=some u->b≠e->G' b=some u)
    ⟨a,_,rfl,A _ _ N,I.kt (ab.kt A),fun _ _ q _=>q⟩ (fun j σ G' _ zq=>by obtain⟨_,_,_,_,_,b3⟩:=zq;exact ay.of (b3 _ _ a4 b2)) ?_ ?_
   ·rintro j y σ G4 hy ⟨l,b4,rfl,U,w,B⟩;obtain⟨g,hg,rfl⟩:=bh hy;have a5:=wb.goals (ds:=ds) (sg:=sg) (r:=p.1) (gs:=(aF ds (p.1,sg)).take j) kin fun g hg=>gg g (jw hg);have z4:l.length<=150:=by rw[Paired.length w];exact bI a5.len z3
    refine⟨_,rfl,_,rfl,_,rfl,(by show 3<=ak;decide),fun s O=>?_⟩;have S5:ab G4 (upd G4 s (.tup [.str p.1,.ref D,.str g])):=ab.new O;have t5:upd G4 s (.tup [.str p.1,.ref D,.str g]) s=some (.tup [.str p.1,.ref D,.str g]):=aa;generalize upd G4 s (.tup [.str p.1,.ref D,.str g])=G5 at S5 t5 ⊢;have a6:=S5 _ _ U;have b5:gx G G5:=fun b xs q=>S5 _ _ (B _ _ (A _ _ q) fun z=>by rw[z,N]at q;cases q);refine⟨_,rfl,_,rfl,e,_,rfl,.inl ⟨l,.inr g,a6,rfl,by rw[ma];omega,rfl⟩,?_⟩;have b6:gx G5 (upd G5 e (.dK (dP l (.inr g) (.ref s)))):=fun b xs q=>by rw[aj (fun z=>by rw[z,a6]at q;cases q)];exact q
    refine⟨_,_,rfl,aa,?_,fun b u q n=>by rw[aj n];exact S5 _ _ (B _ _ q n)⟩;rw[take_snoc hg];unfold iV;rw[rj];exact((w.kt (ab.kt S5)).put (o:=some (⟨p.1,sg,g⟩:ah)) ⟨s,D,rfl,t5,bV.kt b5 t⟩).kt b6
   ·rintro σ G4 ⟨l,b4,rfl,U,w,B⟩;rw[ai,bp]at w;refine⟨l,_,_,rfl,U,?_,fun b u q n=>B _ _ (A _ _ (ex b u q n)) n⟩;rw[es,ep];exact w
 ·rintro σ G ⟨a,x4,x5,rfl,N,I,ex⟩;rw[zk,bp]at I;exact⟨_,rfl,k o e a G (ex _ _ d2 L.symm) N m I fun b u q n=>ex _ _ (M b u q n) (ae q m)⟩
def kf(K:Za)(H:Hp)(a:Addr)(st:aG):Prop:=∃(o:Obj) (kvs:List (cX×V)),H a=some (.frz o (.dK kvs))/\g7 K H kvs st
theorem kf.ex{K:Za}{H i:Hp}{a c:Addr}{st:aG}{f:List (cX×V)}(h:kf K H a st)(j:H c=some (.dK f))(e:dZ c H i):kf K i a st:=by
 obtain⟨o,k,g,l⟩:=h;exact⟨o,k,e _ _ g (fun z=>by rw[z,j]at g;cases g),l.kt fun b m q=>e _ _ q fun z=>by rw[z,j]at q;cases q⟩
theorem kf.same{K:Za}{H e:Hp}{a:Addr}{st:aG}(h:kf K H a st)(S:ab H e):kf K e a st:=by
 obtain⟨o,f,g,i⟩:=h;exact⟨o,f,S _ _ g,i.kt (ab.kt S)⟩
inductive nj(K:Za)(C:Addr)(vs:List V)(H:Hp)(Q:VK)(E:XK):Prop
 |mk (x sl:Addr) (story:List Sg) (J0 J2 rooms:Zb) (ds:List ah):(vs=[.ref x,.ref sl])->(bc C H x J0 J2 rooms ds)->(EW K H sl story)->(story.length<=1101) ->
  (∀(al d:Addr) (as:Ze) (kvs:List (cX×V)) (fz:List aG) (st:aG) (H':Hp),mS rooms ds story fz st->H' al=some (.lst ((as++[d]).map V.ref))->H al=none->Paired (kf K H') as fz.reverse->H' d=some (.dK kvs)->g7 K H' kvs st->ab H H'->Q (.ref al) H')->nj K C vs H Q E
theorem FM{K:Za}{C:Addr}{vs:List V}{H:Hp}{Q:VK}{E:XK}(h:nj K C vs H Q E):wq K (nk K C) (jW K C) C (fX C) (bN Q) (start wT vs) H:=by
 obtain⟨x,sl,l,J0,J2,rooms,ds,rfl,MA,⟨gs,a4,a5⟩,zs,k⟩:=h;have m:=MA.ok;have z3:=m.rooms26;obtain⟨ef,cc⟩:=m.first;refine fun d hd=>?_;have S1:ab H (upd H d (.dK [])):=ab.new hd;have d1:upd H d (.dK []) d=some (.dK []):=aa;generalize upd H d (.dK [])=H1 at S1 d1 ⊢;obtain⟨dm,fm,_,_,_,_,_,_,_,_,_,_,_,_,q1,_,_,_,q4,_⟩:=(MA.same S1).at_;refine⟨_,rfl,x,dm,fm,rfl,q1,q4,x,J0,J2,rooms,ds,rfl,MA.same S1,fun rl cd=>?_⟩;have S2:ab H1 (upd H1 rl (.lst (rooms.map V.str))):=ab.new cd;have r2:upd H1 rl (.lst (rooms.map V.str)) rl=some (.lst (rooms.map V.str)):=aa;generalize upd H1 rl (.lst (rooms.map V.str))=H2 at S2 r2 ⊢;have ce:(rooms.map V.str)[0]?=some (.str (dJ rooms)):=by rw[cS,ef];rfl
 refine⟨rl,_,0,.str (dJ rooms),rfl,rfl,ay.of r2,cn (j:=0) ce,?_⟩;have d2:=S2 _ _ d1;refine⟨d2,[(.inr (dJ rooms),.non)],rfl,(by show 1<=15;decide),?_⟩;have ch:gx H2 (upd H2 d (.dK (fS [] [(.inr (dJ rooms),.non)]))):=fun b xs q=>by rw[aj (fun z=>by rw[z,d2]at q;cases q)];exact q
 have d3:upd H2 d (.dK (fS [] [(.inr (dJ rooms),.non)])) d=some (.dK [(.inr (dJ rooms),.non)]):=aa;have a6:∀b o,H b=some o->upd H2 d (.dK (fS [] [(.inr (dJ rooms),.non)])) b=some o:=fun b o q=>by rw[aj (ae q hd)];exact S2 _ _ (S1 _ _ q)
 generalize upd H2 d (.dK (fS [] [(.inr (dJ rooms),.non)]))=H3 at ch d3 a6 ⊢;have O:ab H H3:=a6;refine⟨_,rfl,(by show 1<=ak;decide),fun g a7=>?_⟩;have S4:ab H3 (upd H3 g (.lst [.ref d])):=ab.new a7;have I:upd H3 g (.lst [.ref d]) g=some (.lst (([]++[d]:Ze).map V.ref)):=aa;have a8:H g=none:=O.free a7;generalize upd H3 g (.lst [.ref d])=H4 at S4 I ⊢;have d4:=S4 _ _ d3;have a9:g7 K H4 [(.inr (dJ rooms),.non)] [(dJ rooms,none)]:=.cons ⟨rfl,rfl⟩ .nil;have bb:wb rooms [(dJ rooms,none)]:=⟨by simp,fun r hr=>by have:r=dJ rooms:=(by simpa using hr);rw[this];exact cc⟩;refine⟨_,rfl,_,rfl,H,x,d,_,_,J0,J2,rooms,ds,rfl,MA,hd,O.trans S4,d4,a9,bb,fun bi ci H5 d5 bl cl bn=>?_⟩;have b0:ab H H5:=fun b o q=>bn _ _ ((O.trans S4) _ _ q) (ae q hd);have cm:g≠d:=fun z=>by rw[z,d4]at I;cases I
 refine⟨_,rfl,sl,rfl,⟨_,ay.of (b0 _ _ a4)⟩,?_⟩;have zg:gs.length=l.length:=Paired.length a5;refine bw (xs:=gs.map V.ref) (fun i σ G=>∃(e:Addr) (t:Ze) (p:List (cX×V)) (T:List aG) (st:aG) (x4:Option V),σ=[some (.ref x),some (.ref sl),some (.ref e),some (.ref g),x4]/\mS rooms ds (l.take i) T st/\G g=some (.lst ((t++[e]).map V.ref))/\t.length=i/\Paired (kf K G) t T.reverse/\G e=some (.dK p)/\g7 K G p st/\H e=none/\ab H G)
  ⟨d,[],bi,[],ci,_,rfl,.nil cl,bn _ _ I cm,rfl,.nil,d5,bl,hd,b0⟩ (fun i σ G _ zq=>by obtain⟨_,_,_,_,_,_,_,_,_,_,_,_,_,_,S⟩:=zq;exact ay.of (S _ _ a4)) ?_ ?_
 ·rintro i v σ G hi ⟨e,t,p,T,st,x4,rfl,A,y,za,U,Y,J,he,SG⟩;obtain⟨su,co,rfl⟩:=cg hi;obtain⟨sg,b1,cq⟩:=Paired.getL a5 co;have il:i<l.length:=(bM.1 b1).1;have cs:g≠e:=fun z=>by rw[z,Y]at y;cases y
  refine⟨_,rfl,_,rfl,_,rfl,H,x,e,su,p,st,sg,J0,J2,rooms,ds,rfl,MA,he,SG,Y,J,bV.kt (ab.kt SG) cq,fun o B b2 D g1 b3 an b4 L=>?_⟩;have f:=L _ _ y cs;have c2:B≠e:=fun z=>by rw[z,Y]at an;cases an
  have N:g≠B:=fun z=>by rw[z,b3]at f;cases f
  have ct:ab H D:=fun b u q=>L _ _ (SG _ _ q) (ae q he);have ap:H B=none:=SG.free an;have b5:Paired (kf K D) t T.reverse:=Paired.mapP U fun _ _ r=>r.ex Y L;have cL:kf K D e st:=⟨o,p,g1,J.kt fun b xs q=>L _ _ q fun z=>by rw[z,Y]at q;cases q⟩;refine⟨_,rfl,.inl ⟨rfl,_,ay.of f⟩,_,rfl,g,_,_,rfl,rfl,f,by rw[ai,aA,za];exact yS (m:=2000) (by show _+1<=2000;omega) (by rw[ma];decide),?_⟩;have b6:upd D g (.lst ((t++[e]).map V.ref++[.ref B])) g=some (.lst (((t++[e])++[B]).map V.ref)):=by rw[aa,ar (l₁:=t++[e])];rfl
  have M:∀b u,D b=some u->b≠g->upd D g (.lst ((t++[e]).map V.ref++[.ref B])) b=some u:=fun b u q n=>by rw[aj n];exact q
  have aC:gx D (upd D g (.lst ((t++[e]).map V.ref++[.ref B]))):=cO f;generalize upd D g (.lst ((t++[e]).map V.ref++[.ref B]))=G2 at b6 M aC ⊢;have b7:∀{a:Addr}{s:aG},kf K D a s->kf K G2 a s:=fun{a s} r=>by
   obtain⟨o,kv,h1,h2⟩:=r;exact⟨o,kv,M _ _ h1 (fun z=>by rw[z,f]at h1;cases h1),h2.kt aC⟩
  have a0:=M _ _ b3 N.symm;have b8:ab H G2:=fun b u q=>M _ _ (ct _ _ q) (ae q a8);refine⟨_,rfl,_,rfl,H,x,B,b2,_,J0,J2,rooms,ds,rfl,MA,ap,b8,a0,b4.kt aC,mw (fun q hq=>(m.good q hq).b) _,fun b9 c0 G3 g3 ca c1 w=>?_⟩;refine⟨B,t++[e],b9,st::T,c0,_,rfl,?_,w _ _ b6 N,by rw[aA,za];rfl,?_,g3,ca,ap,fun b u q=>w _ _ (b8 _ _ q) (ae q ap)⟩
  ·rw[take_snoc b1];exact .snoc A c1
  ·rw[rK];exact ee (Paired.mapP b5 fun _ _ r=>(b7 r).ex a0 w) ((b7 cL).ex a0 w)
 ·rintro σ G ⟨e,t,p,T,st,x4,rfl,A,y,za,U,Y,J,he,SG⟩;rw[ai,zg,bp]at A;exact⟨_,rfl,k g e t p T st G A y a8 U Y J SG⟩
theorem HI{H H':Hp}{d:Addr}{x:HO}(k:∀o,H d=some o->H' d=some o)(h:Rd H d x):Rd H' d x:=h.imp (k _) fun⟨o,e⟩=>⟨o,k _ e⟩
def Jk(K:Za)(H:Hp)(t:Addr)(d:ah):Prop:=∃s,H t=some (.tup [.str d.a,.ref s,.str d.b])/\bV K H s (d.sg.map V.str)
theorem Jk.kt{K:Za}{H a:Hp}{t:Addr}{d:ah}(k:gx H a)(h:Jk K H t d):Jk K a t d:=by
 obtain⟨s,e,f⟩:=h;exact⟨s,k _ _ e,bV.kt k f⟩
theorem Bp{α β:Type}{R:α->β->Prop}{f:List α}{bs:List β}{b:β}(h:Paired R f (bs++[b])):∃e a,f=e++[a]/\Paired R e bs/\R a b:=by
 have g:=Paired.length h;rw[aA]at g;have g:f.length=bs.length+1:=g;obtain⟨a,j,r⟩:=Paired.get (i:=bs.length) (y:=b) h (by rw[mq (aR _),rp];rfl);refine⟨f.take bs.length,a,by rw[<-take_snoc j,<-g,bp],?_,r⟩;have:=Paired.takeP bs.length h;rw[List.take_left' rfl]at this;exact this
inductive qa(K:Za)(C:Addr)(vs:List V)(H:Hp)(Q:VK)(E:XK):Prop
 |mk (x sl:Addr) (story:List Sg) (J0 J2 rooms:Zb) (ds:List ah):(vs=[.ref x,.ref sl])->(bc C H x J0 J2 rooms ds)->(EW K H sl story)->(story.length<=1101)->(∀sg∈story,sg≠ao)->(faceOf rooms ds story=[]->∀H',ab H H'->Q .non H') ->
  (faceOf rooms ds story≠[]->∀(l:Addr) (ts:Ze) (w:List ah) (H':Hp),H' l=some (.lst (ts.map V.ref))->H l=none->Paired (Jk K H') ts w->Jp ds (dJ rooms) w=true->dw w=story->w.length<=200000->ab H H'->Q (.ref l) H')->qa K C vs H Q E
theorem HA{K:Za}{C a:Addr}(ha:∀H,br K H a (ao.map V.str)){vs:List V}{H:Hp}{Q:VK}{E:XK}(h:qa K C vs H Q E):Fi K a (nj K C) (bN Q) (start GF vs) H:=by
 obtain⟨x,sl,D,J0,J2,rooms,ds,rfl,MA,hs,zs,ch,k0,k1⟩:=h;have m:=MA.ok;have z3:=m.rooms26;refine⟨_,rfl,_,rfl,x,sl,D,J0,J2,rooms,ds,rfl,MA,hs,zs,fun J d p f O st H1 A u bl an gd T S1=>?_⟩;have ci:(p++[d]).map V.ref=p.map V.ref++[.ref d]:=by rw[ar];rfl
 rw[ci]at u;have zk:f.length=st.length:=Paired.length T;have face:=A.face m;refine⟨_,rfl,_,rfl,J,_,-1,.ref d,rfl,rfl,ay.of u,BS _ _,.inr ⟨d,f,rfl,.inl gd,rfl,_,rfl,?_⟩⟩;rcases st with _|⟨p0,L⟩
 ·rw[zzr1 (by rw[zk];rfl)];refine bU (k0 ?_ H1 S1);cases ef:faceOf rooms ds D with
  |nil=>rfl
  |cons r l=>exact absurd ((face r).2 (by rw[ef];exact dz)) (by simp)
 have zk:f.length=L.length+1:=zk;rw[zzr0 (by intro z;injection z with z;omega)];refine bd ?_;have bn:p0.1∈(p0::L).map (·.1):=dz;have cl:faceOf rooms ds D≠[]:=fun z=>by have:=(face p0.1).1 bn;rw[z]at this;cases this
 obtain⟨w,wk,hw,zw,bk⟩:=A.back m ch p0.1 bn;have c3:(p0::L).length<=150:=bI (A.kin m).len z3;have cm:w.length<=200000:=by have:D.length * 151<=1101 * 151:=Nat.mul_le_mul_right _ zs;omega
 refine⟨_,rfl,_,rfl,J,_,-1,.ref d,rfl,rfl,ay.of u,BS _ _,.inr ⟨d,f,rfl,.inl gd,fun kl co=>?_⟩⟩;rw[T.keys];have S2:ab H1 (upd H1 kl (.lst (((p0::L).map (·.1)).map V.str))):=ab.new co;have b0:upd H1 kl (.lst (((p0::L).map (·.1)).map V.str)) kl=some (.lst (((p0::L).map (·.1)).map V.str)):=aa;generalize upd H1 kl (.lst (((p0::L).map (·.1)).map V.str))=H2 at S2 b0 ⊢;refine⟨kl,_,0,.str p0.1,rfl,rfl,ay.of b0,cn (j:=0) rfl,?_⟩;refine⟨(by show 0<=ak;decide),fun g a9=>?_⟩;have S3:ab H2 (upd H2 g (.lst [])):=ab.new a9;have ca:upd H2 g (.lst []) g=some (.lst (([]:Ze).map V.ref)):=aa;generalize upd H2 g (.lst [])=H3 at S3 ca ⊢;have ap:=S2.trans S3;have aC:=ap _ _ u;have a5:J≠g:=ae (S2 _ _ u) a9;have a6:H g=none:=(S1.trans S2).free a9;refine⟨_,rfl,.inl ⟨rfl,_,ay.of aC⟩,J,_,.ref d,rfl,rfl,aC,?_,?_⟩
 ·rw[aA,mq (by show _<=_+1-1;omega)];show[V.ref d][_+1-1-_]?=_;rw[Nat.add_sub_cancel,rp];rfl
 rw[show(p.map V.ref++[V.ref d]).dropLast=p.map V.ref from List.dropLast_concat];have popped:∀{G:Hp}{xs ys:List V},G J=some (.lst xs)->gx G (upd G J (.lst ys))/\(∀{b:Addr}{s:aG},kf K G b s->kf K (upd G J (.lst ys)) b s):=fun{G xs ys} e=>by
  have kt:gx G (upd G J (.lst ys)):=cO e;refine⟨kt,fun{b s} r=>?_⟩;obtain⟨o,kv,Y,h2⟩:=r;exact⟨o,kv,by rw[aj (fun z=>by rw[z,e]at Y;cases Y)];exact Y,h2.kt kt⟩
 obtain⟨cq,cs⟩:=popped (ys:=p.map V.ref) aC;have ct:J≠d:=fun z=>by rw[z,gd]at u;cases u
 refine⟨fun n σ G=>∃(e:Addr) (p:Ze) (f:List (cX×V)) (O:List aG) (st:aG) (r:Str) (i:Ze) (M I:List ah) (x6:Option V),σ=[some (.ref x),some (.ref sl),some (.ref J),some (.str r),some (.ref g),some (.ref e),x6]/\G J=some (.lst (p.map V.ref))/\Paired (kf K G) p O.reverse/\Rd G e (.dK f)/\g7 K G f st/\wd O st r I/\G g=some (.lst (i.map V.ref))/\Paired (Jk K G) i M/\M++I=w.reverse/\n=I.length/\ab H G,
  ⟨_,d,p,f,O,p0::L,p0.1,[],[],w.reverse,_,rfl,aa,Paired.mapP an fun _ _ r=>cs (r.same ap),.inl (by rw[aj ct.symm];exact ap _ _ gd),(T.kt (ab.kt ap)).kt cq,bk,by rw[aj a5.symm];exact ca,.nil,rfl,rfl,fun b o q=>by rw[aj (ae q bl)];exact(S1.trans ap) _ _ q⟩,?_⟩
 rintro n σ G ⟨e,p,f,O,st,r,i,M,I,x6,rfl,u,an,rd,T,bk,k,a7,ew,rfl,SG⟩;have c4:i.length=M.length:=Paired.length a7;have c5:M.length+I.length=w.length:=by rw[<-aA,ew,List.length_reverse]
 have go:∀{q:ah}{ws:List ah},jd st r=some (some q)->I=q::ws->∃t s,c6 f (.inr r:cX)=some (.ref t)/\G t=some (.tup [.str q.a,.ref s,.str q.b])/\bV K G s (q.sg.map V.str):=fun{q ws} Y _=>by
  rcases T.look (r:=r)with⟨_,U⟩|⟨v,o,e1,U,e3⟩
  ·rw[Y]at U;cases U
  ·rw[Y]at U;injection U with U;subst U;obtain⟨t,s,rfl,q1,q2⟩:=e3;exact⟨t,s,e1,q1,q2⟩
 cases bk with
 |stop hn =>
  rcases T.look (r:=r)with⟨_,U⟩|⟨v,o,e1,U,e3⟩
  ·rw[hn]at U;cases U
  rw[hn]at U;injection U with U;subst U;have e3:v=.non:=e3;subst e3;refine⟨_,rfl,_,rfl,e,_,rfl,.inl ⟨f,.inr r,rd,rfl,e1.symm⟩,_,rfl,?_⟩;refine bd ?_;rw[dS]at ew;refine⟨_,rfl,.inl ⟨rfl,_,ay.of k⟩,g,_,rfl,rfl,k,?_⟩;have kt:gx G (upd G g (.lst (i.map V.ref).reverse)):=cO k;refine⟨_,rfl,k1 cl g i.reverse w _ (by rw[aa,List.map_reverse]) a6 ?_ wk.ok hw cm fun b o q=>by rw[aj (ae q a6)];exact SG _ _ q⟩;have:=Paired.rev (Paired.mapP a7 fun _ _ r=>r.kt kt);rw[ew,List.reverse_reverse]at this;exact this
 |@still _ _ _ q ws hn es b =>
  obtain⟨t,s,e1,q1,q2⟩:=go hn rfl;refine⟨_,rfl,_,rfl,e,_,rfl,.inl ⟨f,.inr r,rd,rfl,e1.symm⟩,_,rfl,?_⟩;refine bU ⟨fun σ' N=>∃(e:Addr) (p:Ze) (f:List (cX×V)) (O:List aG) (st:aG) (r:Str) (i:Ze) (M I:List ah) (x6:Option V),σ'=[some (.ref x),some (.ref sl),some (.ref J),some (.str r),some (.ref g),some (.ref e),x6]/\N J=some (.lst (p.map V.ref))/\Paired (kf K N) p O.reverse/\Rd N e (.dK f)/\g7 K N f st/\wd O st r I/\N g=some (.lst (i.map V.ref))/\Paired (Jk K N) i M/\M++I=w.reverse/\I.length<(q::ws).length/\ab H N,?_,?_⟩
  ·rintro σ' N ⟨e,p,f,O,st,r,i,M,I,x6,rfl,b1,b2,b3,b4,b5,b6,b7,b8,b9,bb⟩;exact⟨_,b9,e,p,f,O,st,r,i,M,I,x6,rfl,b1,b2,b3,b4,b5,b6,b7,b8,rfl,bb⟩
  refine⟨_,rfl,_,rfl,e,_,rfl,.inl ⟨f,.inr r,rd,rfl,e1.symm⟩,?_⟩;refine⟨_,rfl,.inl ⟨rfl,_,ay.of k⟩,_,rfl,g,_,_,rfl,rfl,k,by rw[ai,ma];show _<_;omega,?_⟩;have kt:gx G (upd G g (.lst (i.map V.ref++[.ref t]))):=cO k;have a0:upd G g (.lst (i.map V.ref++[.ref t])) g=some (.lst ((i++[t]).map V.ref)):=by rw[aa,ar];rfl
  have y:∀b o,G b=some o->b≠g->upd G g (.lst (i.map V.ref++[.ref t])) b=some o:=fun b o q n=>by rw[aj n];exact q
  generalize upd G g (.lst (i.map V.ref++[.ref t]))=G2 at kt a0 y ⊢;have a8:∀{b:Addr}{s:aG},kf K G b s->kf K G2 b s:=fun{b s} r=>by
   obtain⟨o,kv,Y,h2⟩:=r;exact⟨o,kv,y _ _ Y (fun z=>by rw[z,k]at Y;cases Y),h2.kt kt⟩
  have cL:Rd G2 e (.dK f):=HI (fun o q=>y _ _ q fun z=>by rw[z,k]at q;rcases rd with r|⟨_,r⟩<;>(rw[z,k]at r;cases r)) rd;refine⟨_,rfl,t,_,0,_,rfl,rfl,br.of (kt _ _ q1),cn (j:=0) rfl,?_⟩;refine⟨_,rfl,t,_,1,_,rfl,rfl,br.of (kt _ _ q1),cn (j:=1) rfl,fT q.sg,fT ao,aW (bV.sq (bV.kt kt q2)),aW (ha _),by rw[bz];decide,by rw[bz];decide,_,rfl,?_⟩;rw[eI,zzr1 es];refine bd ⟨e,p,f,O,st,q.a,i++[t],M++[q],ws,_,rfl,y _ _ u a5,Paired.mapP an fun _ _ r=>a8 r,cL,T.kt kt,b,a0,ee (Paired.mapP a7 fun _ _ r=>r.kt kt) ⟨s,kt _ _ q1,bV.kt kt q2⟩,by rw[d_];exact ew,DW _,fun b o q=>y _ _ (SG _ _ q) (ae q a6)⟩
 |@pop c0 _ c1 _ q ws hn es b =>
  obtain⟨t,s,e1,q1,q2⟩:=go hn rfl;refine⟨_,rfl,_,rfl,e,_,rfl,.inl ⟨f,.inr r,rd,rfl,e1.symm⟩,_,rfl,?_⟩;refine bU ⟨fun σ' N=>∃(e:Addr) (p:Ze) (f:List (cX×V)) (O:List aG) (st:aG) (r:Str) (i:Ze) (M I:List ah) (x6:Option V),σ'=[some (.ref x),some (.ref sl),some (.ref J),some (.str r),some (.ref g),some (.ref e),x6]/\N J=some (.lst (p.map V.ref))/\Paired (kf K N) p O.reverse/\Rd N e (.dK f)/\g7 K N f st/\wd O st r I/\N g=some (.lst (i.map V.ref))/\Paired (Jk K N) i M/\M++I=w.reverse/\I.length<(q::ws).length/\ab H N,?_,?_⟩
  ·rintro σ' N ⟨e,p,f,O,st,r,i,M,I,x6,rfl,b1,b2,b3,b4,b5,b6,b7,b8,b9,bb⟩;exact⟨_,b9,e,p,f,O,st,r,i,M,I,x6,rfl,b1,b2,b3,b4,b5,b6,b7,b8,rfl,bb⟩
  refine⟨_,rfl,_,rfl,e,_,rfl,.inl ⟨f,.inr r,rd,rfl,e1.symm⟩,?_⟩;refine⟨_,rfl,.inl ⟨rfl,_,ay.of k⟩,_,rfl,g,_,_,rfl,rfl,k,by rw[ai,ma];show _<_;omega,?_⟩;have kt:gx G (upd G g (.lst (i.map V.ref++[.ref t]))):=cO k;have a0:upd G g (.lst (i.map V.ref++[.ref t])) g=some (.lst ((i++[t]).map V.ref)):=by rw[aa,ar];rfl
  have y:∀b o,G b=some o->b≠g->upd G g (.lst (i.map V.ref++[.ref t])) b=some o:=fun b o q n=>by rw[aj n];exact q
  generalize upd G g (.lst (i.map V.ref++[.ref t]))=G2 at kt a0 y ⊢;have a8:∀{b:Addr}{s:aG},kf K G b s->kf K G2 b s:=fun{b s} r=>by
   obtain⟨o,kv,Y,h2⟩:=r;exact⟨o,kv,y _ _ Y (fun z=>by rw[z,k]at Y;cases Y),h2.kt kt⟩
  refine⟨_,rfl,t,_,0,_,rfl,rfl,br.of (kt _ _ q1),cn (j:=0) rfl,?_⟩;refine⟨_,rfl,t,_,1,_,rfl,rfl,br.of (kt _ _ q1),cn (j:=1) rfl,fT q.sg,fT ao,aW (bV.sq (bV.kt kt q2)),aW (ha _),by rw[bz];decide,by rw[bz];decide,_,rfl,?_⟩;rw[eI,zzr0 es];refine bU ?_;rw[rK]at an;obtain⟨a4,e',rfl,cc,fe⟩:=Bp an;have B:=y _ _ u a5;rw[ar]at B;have B:G2 J=some (.lst (a4.map V.ref++[.ref e'])):=B;refine⟨_,rfl,.inl ⟨rfl,_,ay.of B⟩,J,_,.ref e',rfl,rfl,B,?_,?_⟩
  ·rw[aA,mq (by show _<=_+1-1;omega)];show[V.ref e'][_+1-1-_]?=_;rw[Nat.add_sub_cancel,rp];rfl
  rw[show(a4.map V.ref++[V.ref e']).dropLast=a4.map V.ref from List.dropLast_concat];obtain⟨bi,cd⟩:=popped (ys:=a4.map V.ref) B;obtain⟨o',ce,g',c2⟩:=cd (a8 fe);refine⟨e',a4,ce,c0,c1,q.a,i++[t],M++[q],ws,_,rfl,aa,Paired.mapP cc fun _ _ r=>cd (a8 r),.inr ⟨o',g'⟩,c2,b,by rw[aj a5.symm];exact a0,ee (Paired.mapP a7 fun _ _ r=>(r.kt kt).kt bi) ⟨s,bi _ _ (kt _ _ q1),bV.kt bi (bV.kt kt q2)⟩,by rw[d_];exact ew,DW _,fun b o q=>by rw[aj (ae q bl)];exact y _ _ (SG _ _ q) (ae q a6)⟩

def AR(K:Za):TS :=
 au (aT (cN 1 [1] (bG K (aD (jg K) V0 (tC (.int 3)))) U0 (aS (aD GQ (aD (jg K) V0 (tC (.int 0))) V1)) V0) U2)
 (bo (eM (JY K) (av (cN 1 [] (bG K V2) U0 (i5) (aD GQ (aD (jg K) (aD (jg K) V0 (tC (.int 1))) (tC (.int 0))) (tC (.str "ask")))) aY)))
def B1:List Str:=["told","room","doors"]
def ww(K:Za)(sp_law_in_order:Sp)(sp_law_quiet:Sp):TS :=
 au (cJ (aS (aD (kG K) V2 (bP (aB (tC (.str "hush")))))) (bo (eM (Eo K) (aB (cN 1 [0] (Kl K V1) U0 (tB (aL sp_law_quiet (aO V1 V0))) V0)))) (bB))
 (au (aT (bC (aY)) U3)
 (au (eA (bG K (aD (jg K) V0 (tC (.int 3)))) (jk K 3 (bx U4 (bx U5 (bx U6 (iW))))) (cJ (nQ (aS (aD (ii K false) V4 V1)) (nQ (aS (aD (kG K) V5 V2)) (aS (aD (ii K true) V6 V3)))) (cM (vi K "list" dX V3 (aB V6))) (bB)))
 (bo (aL sp_law_in_order (aO V0 V3)))))
def wY:List Str:=["told","face","sign","some","room","own","other"]
def wv(K:Za)(sp_law_quiet:Sp):TS :=
 au (aT (aD (df K) (aD (jg K) V0 (tC (.int 2))) (tC (.int 0))) U2)
 (au (eA (bG K V1) U3 (au (cJ (Cy (rW (tB (eM (sf K) (aO V3 (tC (.ty "tuple")))))) (Cy (aS (aD LW (eM (fH K) (aB V3)) (tC (.int 3)))) (aS (aD LW (aD (jg K) V3 (tC (.int 0))) V2)))) (bo (tC (.bl false))) (bB))
 (au (cJ (nQ (aS (aD (kG K) (aD (jg K) V3 (tC (.int 1))) (bP (aB (tC (.str "hush")))))) (Cy (aS (aD LW (aD (jg K) V3 (tC (.int 2))) V2)) (rW (tB (aL sp_law_quiet (aO V0 V2)))))) (bo (tC (.bl false))) (bB))
 (au (cJ (nQ (aS (aD (tU K) (aD (jg K) V3 (tC (.int 1))) (bP (aB (tC (.str "hush")))))) (aS (aD (ii K true) V3 (aD (jg K) V0 (tC (.int 3)))))) (bo (tC (.bl false))) (bB))
 (aT (aD (jg K) V3 (tC (.int 2))) U2)))))
 (bo (tC (.bl true))))
def wX:List Str:=["told","walk","here","step"]
theorem GA{f:List ah}{r:Str}:((f.filter fun d=>decide (d.a=r)).map iU).all id=decide (r∉c8 f):=by
 by_cases c:r∈c8 f
 ·rw[zzr0 (fun z=>z c),List.all_eq_false];unfold c8 at c;obtain⟨d,g,i⟩:=aE.mp c;obtain⟨h,e⟩:=bW.mp g;refine⟨iU d,fQ (bW.mpr ⟨h,zzr1 i⟩),?_⟩;intro z;have z:iU d=true:=z;rw[z]at e;cases e
 ·rw[zzr1 c,yQ];intro b j;obtain⟨d,g,rfl⟩:=aE.mp j;obtain⟨h,e⟩:=bW.mp g;show iU d=true;cases q:iU d with
  |true=>rfl
  |false=>exact absurd (aE.mpr ⟨d,bW.mpr ⟨h,by rw[q];rfl⟩,of_decide_eq_true e⟩) c
theorem FB{K:Za}{e:List V}{H:Hp}{Q:VK}{E:XK}(h:kC e H Q E):AR K (bN Q) (start B1 e) H:=by
 obtain⟨t,l1,l2,l3,l4,ts,J0,J2,rooms,C,r,rfl,T,m,k⟩:=h;have z4:=m.few;refine⟨_,rfl,t,_,3,_,rfl,rfl,br.of T.t,rfl,l4,rfl,⟨_,ay.of T.a4⟩,fun f hf=>?_⟩
 let G:Nat->List V->Hp->Prop:=fun i e n=>∃v:List Addr,e=v.map V.ref/\ab H n/\n f=some (.lst e)/\dg n v ((C.take i).filter fun d=>decide (d.a=r))
 refine bQ (xs:=ts.map V.ref) G ⟨[],rfl,ab.new hf,aa,.nil⟩ (fun i e n _ I=>by obtain⟨_,_,S,J,_⟩:=I;exact⟨J,ay.of (S _ _ T.a4)⟩) ?_ ?_;rotate_left
 ·rintro i e n x' x hi ⟨v,rfl,S,L,w⟩;obtain⟨u,M,rfl⟩:=cg x;obtain⟨A,p,l⟩:=Paired.getL T.ds M;have B:=l.kt (ab.kt S);obtain⟨Y,y,s⟩:=l.kt (ab.kt S);refine gN ?_;refine⟨_,rfl,u,_,0,_,rfl,rfl,br.of y,rfl,_,rfl,rfl,_,rfl,?_⟩;have e1:decide (V.str A.a=V.str r)=decide (A.a=r):=decide_eq_decide.2 ⟨fun z=>by injection z,fun z=>by rw[z]⟩;rw[e1];by_cases D:A.a=r
  ·rw[zzr1 D];refine bU ?_;refine⟨_,rfl,L,?_,kL hi ⟨v++[u],by rw[ar];rfl,?_,aa,?_⟩⟩
   ·rw[ai,Paired.length w];refine aq (bI (b_ _ _) ?_);rw[aX];omega
   ·intro b o q;rw[aj (ae q hf)];exact S _ _ q
   ·rw[gW p,if_pos (zzr1 D)];have hk:gx n (upd n f (.lst (v.map V.ref++[.ref u]))):=cO L;exact ee (w.kt hk) (B.kt hk)
  ·rw[zzr0 D];refine bd (kL hi ⟨v,rfl,S,L,?_⟩);rw[gW p,if_neg (by rw[zzr0 D];decide),dS];exact w
 rintro e H1 ⟨v,rfl,S1,f1,w⟩;rw[ai,Paired.length T.ds,bp]at w;refine⟨_,rfl,f,rfl,⟨_,ay.of f1⟩,fun g hg=>?_⟩;have zf:(C.filter fun d=>decide (d.a=r)).length<=1000:=bI (b_ _ _) z4;have gd:∀d∈C.filter fun d=>decide (d.a=r),wc J0 J2 rooms d:=fun d hd=>m.good d (bW.1 hd).1;rw[<-GA]at k;generalize(C.filter fun d=>decide (d.a=r))=F at w zf gd k
 let N:Nat->List V->Hp->Prop:=fun i e n=>e=((F.take i).map iU).map V.bl/\ab H1 n/\n g=some (.lst e)
 refine bQ (xs:=v.map V.ref) N ⟨rfl,ab.new hg,aa⟩ (fun i e n _ I=>by obtain⟨_,S,J⟩:=I;exact⟨J,ay.of (S _ _ f1)⟩) ?_ ?_
 ·rintro e H2 ⟨rfl,S2,g2⟩;rw[ai,Paired.length w,bp]at g2;exact⟨g,_,rfl,ay.of g2,k H2 (S1.trans S2)⟩
 ·rintro i e n x' x hi ⟨rfl,S,g'⟩;obtain⟨u,M,rfl⟩:=cg x;obtain⟨A,p,l⟩:=Paired.getL w M;obtain⟨Y,y,s⟩:=l.kt (ab.kt S);obtain⟨s0,al,O,U⟩:=Fv (gd A (bX p));unfold SignAt at s;rw[O]at s;refine gN (pS ?_);refine⟨_,rfl,u,_,1,_,rfl,rfl,br.of y,rfl,Y,_,0,.str s0,rfl,rfl,br.of s,cn (j:=0) rfl,rfl,g',?_,kL hi ⟨?_,?_,aa⟩⟩
  ·rw[ai,ai,aX];exact aq (by omega)
  ·have U:decide (V.str s0=V.str ("ask":Str))=iU A:=by
    have:=congrArg (!·) U;simpa using this
   rw[take_snoc p,ar,ar,U];rfl
  ·intro b o q;rw[aj (ae q hg)];exact S _ _ q
theorem FH{K:Za}{x:List V}{H:Hp}{Q:VK}{E:XK}(h:vk K x H Q E):ww K Bb kC (bN Q) (start wY x) H:=by
 obtain⟨t,ft,s,l1,l2,l3,L,ts,J0,J2,rooms,face,w,n,rfl,T,m,al,hs,hz,k⟩:=h;have z4:=m.few;refine⟨_,rfl,(by show 1<=ak;decide),fun hh M=>⟨fT w,fT az,aW (br.same (ab.new M) hs),aW (br.of aa),by rw[bz];decide,by rw[bz];decide,_,rfl,?_⟩⟩;rw[eI];have D:ab H (upd H hh (.tup [.str "hush"])):=ab.new M;generalize upd H hh (.tup [.str "hush"])=y at D ⊢;have I:=T.same D;have B:=D _ _ al;have an:=br.same D hs;by_cases c:w=az
 ·rw[zzr1 c];refine bU ?_;refine⟨_,rfl,ft,rfl,⟨_,br.of B⟩,fun f hf=>?_⟩
  let ap:Nat->List V->Hp->Prop:=fun i x H'=>x=((face.take i).filter fun r=>decide (r∉c8 n)).map V.str/\ab y H'/\H' f=some (.lst x)
  refine BK (xs:=face.map V.str) ap ⟨rfl,ab.new hf,aa⟩ (fun i x H' _ zq=>by obtain⟨_,S,h'⟩:=zq;exact⟨h',br.of (S _ _ B)⟩) ?_ ?_
  ·rintro x H' ⟨rfl,S,l⟩;rw[ai,bp]at l;refine⟨f,_,rfl,.inl ⟨ay.of l,fun t' as=>k t' _ ?_ ((D.trans S).trans (ab.new as))⟩⟩;rw[aa];unfold behF;rw[if_pos c]
  ·rintro i x H' x' C hi ⟨rfl,S,l⟩;obtain⟨r,hr,rfl⟩:=bh C;refine gN ?_;refine⟨_,rfl,_,rfl,t,l1,l2,l3,L,ts,J0,J2,rooms,n,r,rfl,I.same S,m,fun H2 A=>⟨_,rfl,?_⟩⟩;have N:(((face.take i).filter fun r=>decide (r∉c8 n)).map V.str).length<ak:=by
    rw[ai];refine aq (bI (b_ _ _) ?_);rw[aX];omega
   refine l6 (fun hq=>?_) (fun hq=>?_)
   ·refine⟨_,rfl,A _ _ l,N,kL hi ⟨?_,?_,aa⟩⟩
    ·rw[dB hr,if_pos hq,ar];rfl
    ·intro b o q;rw[aj (ae q hf)];exact A _ _ (S _ _ q)
   ·refine kL hi ⟨?_,S.trans A,A _ _ l⟩;rw[dB hr,if_neg hq,dS]
 rw[zzr0 c];refine bd ?_;refine⟨(by show 0<=ak;decide),fun f hf=>?_⟩;have A:ab y (upd y f (.lst [])):=ab.new hf;have f2:upd y f (.lst []) f=some (.lst []):=aa;generalize upd y f (.lst [])=H2 at A f2 ⊢;have T2:=I.same A;have n4:L≠f:=ae I.a4 hf;refine⟨_,rfl,t,_,3,.ref L,rfl,rfl,br.of T2.t,rfl,L,rfl,⟨_,ay.of T2.a4⟩,?_⟩
 let O:Nat->L2.St->Hp->Prop:=fun i σ H'=>Mu fun(G:Zb) (x4 x5 x6:Option V)=>KH (σ=[some (.ref t),some (.ref ft),some (.ref s),some (.ref f),x4,x5,x6]) (H' f=some (.lst (G.map V.str))) (∀b o,y b=some o->H' b=some o) (G.length<=i) (∀g,g∈G↔∃d∈n.take i,d.a∈face/\d.sg=w/\d.b=g)
 refine bw (xs:=ts.map V.ref) O ⟨[],_,_,_,rfl,f2,fun b o e=>A _ _ e,aR _,fun g=>⟨fun h=>(by cases h),fun⟨_,h,_⟩=>(by simp at h)⟩⟩ (fun i σ H' _ zq=>by obtain⟨_,_,_,_,_,_,S,_,_⟩:=zq;exact ay.of (S _ _ I.a4)) ?_ ?_
 ·rintro i x' σ H' C ⟨G,x4,x5,x6,rfl,l,S,hl,J⟩;have S:ab y H':=S;obtain⟨u,hu,rfl⟩:=cg C;obtain⟨j,U,Y⟩:=Paired.getL I.ds hu;obtain⟨sb,aC,a0⟩:=Y.kt (ab.kt S);have a5:i<n.length:=(bM.mp U).1;have p:∀g,(∃d∈n.take (i+1),d.a∈face/\d.sg=w/\d.b=g)↔((∃d∈n.take i,d.a∈face/\d.sg=w/\d.b=g)∨(j.a∈face/\j.sg=w/\j.b=g)):=by
   intro g;rw[take_snoc U];constructor
   ·rintro⟨d,hd,h⟩;rcases bf.mp hd with hd|hd
    ·exact .inl ⟨d,hd,h⟩
    ·have:d=j:=by simpa using hd
     subst this;exact .inr h
   ·rintro(⟨d,hd,h⟩|h)
    ·exact⟨d,cu _ hd,h⟩
    ·exact⟨j,cQ _ (by simp),h⟩
  refine⟨u,_,rfl,br.of aC,rfl,_,_,rfl,_,_,rfl,_,_,rfl,rfl,?_⟩;have v:¬(j.a∈face/\j.sg=w/\j.b∉G)->O (i+1) [some (.ref t),some (.ref ft),some (.ref s),some (.ref f),some (.str j.a),some (.ref sb),some (.str j.b)] H':=fun z=>by
   refine⟨G,_,_,_,rfl,l,S,by omega,fun g=>?_⟩;rw[p,J];refine⟨.inl,fun h=>h.elim id fun h=>?_⟩;rw[<-J];by_cases q:g∈G
   ·exact q
   ·exact absurd ⟨h.1,h.2.1,by rw[h.2.2];exact q⟩ z
  refine⟨_,rfl,_,rfl,dh j.a,face.map dh,ft,_,mM _,rfl,.inr (br.of (S _ _ B)),gu _,(by show 0<=8;decide),by rw[f8];decide,_,rfl,?_⟩;rw[if_neg hV,uw];by_cases c1:j.a∈face;rotate_left
  ·rw[zzr0 c1];exact bd (bd (v fun z=>c1 z.1))
  rw[zzr1 c1];refine bU ?_;refine⟨_,rfl,_,rfl,fT j.sg,fT w,aW (br.of a0),aW (br.same S an),by rw[bz];decide,by rw[bz];decide,_,rfl,?_⟩;rw[eI];by_cases c2:j.sg=w;rotate_left
  ·rw[zzr0 c2];exact bd (bd (v fun z=>c2 z.2.1))
  rw[zzr1 c2];refine bU ?_;refine⟨_,rfl,_,rfl,dh j.b,G.map dh,f,_,mM _,rfl,.inl (ay.of l),gu _,(by show 0<=8;decide),by rw[f8];decide,_,rfl,?_⟩;rw[if_pos rfl,uw];by_cases c3:j.b∈G
  ·rw[zzr1 c3];exact bd (v fun z=>z.2.2 c3)
  rw[zzr0 c3];refine bU ?_;refine⟨_,rfl,.inl ⟨rfl,_,ay.of l⟩,_,rfl,f,_,_,rfl,rfl,l,by rw[ai];exact aq (by omega),G++[j.b],_,_,_,rfl,by rw[aa,ar];rfl,fun b o e=>?_,by rw[aA];show G.length+1<=i+1;omega,fun g=>?_⟩
  ·rw[aj (ae e hf)];exact S _ _ e
  ·rw[p,<-J,bf];simp only[cA];exact⟨fun h=>h.imp id fun h=>⟨c1,c2,h.symm⟩,fun h=>h.imp id fun h=>h.2.2.symm⟩
 ·rintro σ H' ⟨G,x4,x5,x6,rfl,l,S,hl,J⟩;have S:ab y H':=S;rw[ai,Paired.length T.ds]at hl;rw[ai,Paired.length T.ds,bp]at J;refine⟨_,rfl,_,rfl,t,f,l1,l2,l3,L,ts,J0,J2,rooms,G,n,rfl,I.same S,m,l,by omega,fun t' H' h1 S'=>k t' H' ?_ ((D.trans S).trans S')⟩;rw[h1];unfold behF;rw[if_neg c]
  suffices e0:closF rooms n G=closF rooms n (cV n w face) by rw[e0]
  refine BL fun g=>?_;rw[J,cj];constructor
  ·rintro⟨⟨a,a6,b⟩,hd,h1,h2,h3⟩;simp only at h1 h2 h3;subst h2 h3;exact⟨a,h1,hd⟩
  ·rintro⟨r,hr,h⟩;exact⟨_,h,hr,rfl,rfl⟩
open Classical in
theorem vO{K:Za}{k:Nat}{fi:List Nat}{g:TG}{j:TT}{m:TE}{σ:L2.St}{n:Hp}{Q:Hp->Prop}{l a:Addr}{xs:List V}(Pv:Nat->List V->Hp->Prop)(r:Pv 0 [] (upd n l (.lst [])))
  (h:∀i e H,i<=xs.length->Pv i e H->H l=some (.lst e)/\ay K H a xs) (s:∀e H,Pv xs.length e H->Q H)
  (w:∀i e H x p,xs[i]?=some x->i<xs.length->Pv i e H->H p=none->g (.ref p) (cP k fi σ) (upd H p (.tup [.int i,x])) fun σ2 z=>j σ2 z fun b o =>
   if b=true then m σ2 o fun v q=>q l=some (.lst e)/\e.length<ak/\∃f,f<xs.length-i/\Wc xs.length Pv (i+1) f (e++[v]) (upd q l (.lst (e++[v])))else ∃f,f<xs.length-i/\Wc xs.length Pv (i+1) f e o) :
  cF k fi σ (LR K a) g j m n l Q:=by
 refine jM xs.length Pv r (fun i e H hi p=>(h i e H hi p).1) (fun i e H hi p=>?_) (fun e H p=>?_) fun i e H x C hi p y=>?_
 ·exact⟨xs,xs[i],(h i e H (cz hi) p).2,by simp[hi]⟩
 ·exact⟨⟨xs,(h _ e H (aR _) p).2,aR _⟩,s e H p⟩
 ·obtain⟨t,u,rfl,A,B,rfl⟩:=y;exact w i e H u t (B xs (h i e H (cz hi) p).2) hi p A
inductive qg(vs:List V)(H:Hp)(Q:VK)(E:XK):Prop
 |mk (n:Nat):(vs=[.int n])->(n<200)->(∀H',ab H H'->Q (.str (GR n)) H')->qg vs H Q E
theorem Mp{c:Nat}(h:c<26):xT (Str.cps "abcdefghijklmnopqrstuvwxyz").toList (c:Int)=some (97+c):=by
 refine cn ?_;have:∀c:_root_.Fin 26,(Str.cps "abcdefghijklmnopqrstuvwxyz").toList[c.1]?=some (97+c.1):=by decide
 exact this ⟨c,h⟩
theorem HG{K:Za}{a:List V}{H:Hp}{Q:VK}{E:XK}(h:qg a H Q E):rP K (bN Q) (start sF a) H:=by
 obtain⟨n,rfl,i,k⟩:=h;refine⟨_,rfl,.inr ⟨_,rfl,(by show 26<=ak;decide),n,26,rfl,⟨by decide,by decide⟩,fun p e=>?_⟩⟩;have S:ab H (upd H p (.tup [.int ((n:Int) / 26),.int ((n:Int) % 26)])):=ab.new e;have f:(n:Int) / 26=((n / 26:Nat):Int):=by omega
 have g:(n:Int) % 26=((n % 26:Nat):Int):=by omega
 refine⟨p,_,rfl,br.of aa,rfl,_,_,rfl,_,_,rfl,rfl,?_⟩;refine⟨_,rfl,_,_,_,rfl,rfl,(by show 26<=ak;decide),by rw[f];exact Mp (c:=n / 26) (by omega),_,rfl,_,_,_,rfl,rfl,(by show 26<=ak;decide),by rw[g];exact Mp (c:=n % 26) (by omega),_,_,rfl,rfl,(by show 1+1<=ak;decide),k _ S⟩
theorem Gj{d:Addr}{o:Obj}{u:HO}{n:Nat}{f:Nat->Hp->V->V->Prop}{g:TG}{k:TS}{D:pF}{σ:L2.St}{H:Hp}(Pv:Nat->L2.St->Hp->Prop)(r:Pv 0 σ H)(s:∀i σ H,i<=n->Pv i σ H->H d=some (.frz o u))
  (t:∀i σ H a b,i<n->Pv i σ H->f i H a b->g a σ H fun σ2 j=>k { D with nx:=Pv (i+1),ct:=Pv (i+1),bk:=D.nx } σ2 j) (v:∀σ H,Pv n σ H->D.nx σ H) :
  ∃W:Nat->Nat->L2.St->Hp->Prop,(∃m,W 0 m σ H)/\∀i m σ H,W i m σ H ->
   ((LP d o u n f).stop i H/\D.nx σ H)∨((LP d o u n f).go i H/\∃N:L2.St->Hp->Prop,(∀σ' h,N σ' h->∃l,l<m/\W (i+1) l σ' h)/\∀x h,(LP d o u n f).yld i H x h->g x σ h fun σ2 j=>k { D with nx:=N,ct:=N,bk:=D.nx } σ2 j):=by
 refine⟨fun i m σ H=>m=n-i/\i<=n/\Pv i σ H,⟨n,by simp,c_ _,r⟩,?_⟩;rintro i m σ H ⟨rfl,hi,p⟩;have q:=s i σ H hi p;by_cases lt:i<n
 ·refine .inr ⟨⟨q,lt⟩,Pv (i+1),fun σ' h w=>⟨n-(i+1),by omega,rfl,lt,w⟩,fun x h y=>?_⟩;obtain⟨rfl,b,z⟩:=y;exact t i σ _ x b lt p z
 ·have e:i=n:=by omega
  subst e;exact .inl ⟨⟨q,aR _⟩,v σ H p⟩
def FT(p:Str×Str):List Str:=[p.1,p.2]
theorem Et{p q:Str×Str}(h:uu (FT p)=uu (FT q)):p=q:=by
 have h:=Ad h;unfold FT at h;injection h with e a;injection a with a;exact Prod.ext e a
def tm(rooms rooms':Zb)(L:List (Str×Str)):List (TK×V):=L.map fun p=>(uu (FT p),.str (j3 rooms rooms' p))
theorem vo:∀(f a:List (TK×V)),((a++f).map Prod.fst).Nodup->putAll a f=a++f
 |[],a,_=>(dS _).symm
 |kv::f,a,h=>by
  show putAll (dP a kv.1 kv.2) f=_;have g:c6 a kv.1=none:=Jz fun x hx z=>by
   rw[ar,dk]at h;exact h.2.2 _ (fQ hx) kv.1 (dz) z
  rw[qD _ g];have e:a++[(kv.1,kv.2)]++f=a++kv::f:=by rw[d_];rfl
  rw[vo f _ (by rw[e];exact h),e]
theorem F0{rooms a:Zb}{L:List (Str×Str)}(h:L.Nodup):((tm rooms a L).map Prod.fst).Nodup:=by
 unfold tm rf;rw[jv,jv];exact oj (fun{p q} n z=>n (Et z)) h
theorem zW{rooms a:Zb}:∀{L:List (Str×Str)}{p:Str×Str},p∈L->c6 (tm rooms a L) (uu (FT p))=some (.str (j3 rooms a p))
 |q::L,p,h=>by
  show c6 ((uu (FT q),V.str (j3 rooms a q))::tm rooms a L) _=_;by_cases c:q=p
  ·rw[c,eK rfl]
  ·rw[dU (fun z=>c (Et z))];exact zW ((dC.1 h).resolve_left (fun z=>c z.symm))
inductive jq(C:Addr)(vs:List V)(H:Hp)(Q:VK)(E:XK):Prop
 |mk (M N:Addr) (J0 J2 rooms asks' says' rooms':Zb) (ds ds':List ah):(vs=[.ref M,.ref N])->(bc C H M J0 J2 rooms ds)->(bc C H N asks' says' rooms' ds')->(JoinOk J0 J2 rooms asks' says' rooms' ds ds')->(∀r∈rooms,∀a∈J0,gJ ds r a)->(∀r∈rooms',∀a∈asks',gJ ds' r a)->((pL ds ds' J2 says' rooms rooms' (aM J0 J2 asks' says')).length<=1000) ->
  (∀(x:Addr) (H':Hp),bc C H' x (dQ J0 J2 asks' says') (J2++says') (cx rooms rooms') (pL ds ds' J2 says' rooms rooms' (aM J0 J2 asks' says'))->ab H H'->Q (.ref x) H')->jq C vs H Q E
theorem FE{K:Za}{C:Addr}{vs:List V}{H:Hp}{Q:VK}{E:XK}(h:jq C vs H Q E):Hi K C (qh C) (jX C) (mz C) (ni K C) (nc K C) (m8 C) qg (mx C) (je C) (qe C) (bN Q) (start Jg vs) H:=by
 obtain⟨M,N,D,A,rooms,y,v,l,Y,B,rfl,MM,MN,J,tk,c3,few,k⟩:=h;have m:=MM.ok;have m':=MN.ok;have z1:=m.says4;have z2:=m'.says4;have MJ:=Iv m m' J few;have b8:=le m.okR.1 m'.okR.1;have lP:(aN rooms l).length<=100:=by rw[io];exact rg J.r1 J.r2
 refine⟨_,rfl,_,rfl,M,N,D,A,rooms,y,v,l,Y,B,rfl,MM,MN,J,fun H1 S1=>?_⟩;refine⟨_,rfl,M,D,A,rooms,Y,rfl,MM.same S1,tk,fun H2 T=>?_⟩;have G:=S1.trans T;refine⟨_,rfl,N,y,v,l,B,rfl,MN.same G,c3,fun H3 S3=>?_⟩;have an:=G.trans S3;refine⟨_,rfl,_,rfl,M,N,D,A,rooms,y,v,l,Y,B,rfl,MM.same an,MN.same an,fun wl H4 b9 _ S4=>?_⟩;have ap:=an.trans S4;have lW:(aM D A y v).length<=8:=by
  unfold aM;have h1:=b_ (fun w=>decide (w∈y)) A;have h2:=b_ (fun w=>decide (w∈D)) v;rw[aA];omega
 clear S1 T G S3 an S4;refine⟨_,rfl,_,rfl,M,N,D,A,rooms,y,v,l,Y,B,rfl,MM.same ap,MN.same ap,J.r1,J.r2,fun pl us H5 bl bn _ S5=>⟨pl,rfl,⟨_,ay.of bl⟩,fun cl b0=>?_⟩⟩;have ca:=ap.trans S5;have a9:=S5 _ _ b9;have cc:=Paired.length bn;clear ap S5 b9
 let zE:Nat->List V->Hp->Prop:=fun i vs U=>∃ts:List Addr,KH (vs=ts.map V.ref) (ab H5 U) (U cl=some (.lst vs)) (ts.length=i) (∀(j:Nat) (t u:Addr),ts[j]?=some t->us[j]?=some u->U t=some (.tup [.ref u,.str (GR j)]))
 refine vO (xs:=us.map V.ref) zE ⟨[],rfl,ab.new b0,aa,rfl,fun j t u e=>by simp at e⟩ (fun i vs U _ zq=>by obtain⟨_,_,S,h',_⟩:=zq;exact⟨h',ay.of (S _ _ bl)⟩) ?_ ?_;rotate_left
 ·rintro i vs H6 x p hx hi ⟨ts,rfl,S6,h6,lt,a6⟩ hp;obtain⟨u,hu,rfl⟩:=cg hx;rw[ai]at hi;have Sp:ab H6 (upd H6 p (.tup [.int i,.ref u])):=ab.new hp;have pp:upd H6 p (.tup [.int i,.ref u]) p=some (.tup [.int i,.ref u]):=aa;generalize upd H6 p (.tup [.int i,.ref u])=H7 at Sp pp ⊢;refine⟨p,_,rfl,br.of pp,rfl,_,_,rfl,_,_,rfl,rfl,pS ⟨_,rfl,_,rfl,i,rfl,by omega,fun H8 S8=>⟨(by show 2<=ak;decide),fun t ht=>?_⟩⟩⟩;have S9:ab H8 (upd H8 t (.tup [.ref u,.str (GR i)])):=ab.new ht;have t9:upd H8 t (.tup [.ref u,.str (GR i)]) t=some (.tup [.ref u,.str (GR i)]):=aa;show _/\_/\_;generalize upd H8 t (.tup [.ref u,.str (GR i)])=H9 at S9 t9 ⊢;have a7:=Sp.trans (S8.trans S9);have kt:gx H9 (upd H9 cl (.lst (ts.map V.ref++[.ref t]))):=cO (a7 _ _ h6);refine⟨a7 _ _ h6,by rw[ai];exact aq (by omega),kL (by rw[ai];exact hi) ⟨ts++[t],by rw[ar];rfl,fun b o e=>?_,aa,by rw[aA,lt];rfl,fun j t' u' h1 h2=>?_⟩⟩
  ·rw[aj (ae e b0)];exact a7 _ _ (S6 _ _ e)
  ·by_cases c:j<ts.length
   ·rw[rL c]at h1;exact kt _ _ (a7 _ _ (a6 j t' u' h1 h2))
   ·have ej:j=ts.length:=by
     have:=(bM.1 h1).1;rw[aA]at this;have:j<ts.length+1:=this;omega
    rw[ej,mq (aR _),rp]at h1;have h1:some t=some t':=h1;cases h1;rw[ej,lt,hu]at h2;cases h2;rw[ej,lt];exact kt _ _ t9
 rintro vs H6 ⟨ts,rfl,S6,h6,lt,a6⟩;rw[ai]at lt;have bb:Paired (MQ H6) us (aN rooms l):=Paired.mapP bn fun _ _ r=>S6 _ _ r;have b1:=ca.trans S6;have bi:=S6 _ _ a9;refine⟨cl,ts,us,tm rooms l (aN rooms l),rfl,ay.of h6,by rw[lt,cc];unfold tm;rw[ai],by rw[cc];unfold tm;rw[ai],fun j t b kv h1 h2 h3=>?_,fun I b2=>?_⟩
 ·unfold tm at h3;rw[cS]at h3;obtain⟨p,hp,rfl⟩:=oh.1 h3;obtain⟨b',cd,pr⟩:=Paired.get bb hp;rw[h2]at cd;cases cd;have en:j3 rooms l p=GR j:=by
   obtain⟨hj,e⟩:=bM.1 hp;unfold j3;rw[<-e,b8.idxOf_getElem j hj]
  refine⟨by rw[a6 j t b h1 h2];show _=some (HO.tup [.ref b,.str (j3 rooms l p)]);rw[en],Hg (xs:=FT p) (.inl pr),sw _⟩
 rw[vo _ [] (by rw[List.nil_append];exact F0 b8),List.nil_append];have Sn:ab H6 (upd H6 I (.dT (tm rooms l (aN rooms l)))):=ab.new b2;have n7:upd H6 I (.dT (tm rooms l (aN rooms l))) I=some (.dT (tm rooms l (aN rooms l))):=aa;generalize upd H6 I (.dT (tm rooms l (aN rooms l)))=H7 at Sn n7 ⊢;have n0:H I=none:=b1.free b2;have b3:=b1.trans Sn;have a0:=Sn _ _ bi;clear ca S6 b1 Sn a9 bi a6 lt h6 bn bb bl b0 b2;refine⟨(by show 0<=ak;decide),fun dl a4=>?_⟩;have Sd:ab H7 (upd H7 dl (.lst [])):=ab.new a4;have d8:upd H7 dl (.lst []) dl=some (.lst (([]:Ze).map V.ref)):=aa;generalize upd H7 dl (.lst [])=H8 at Sd d8 ⊢;have ce:H dl=none:=b3.free a4;have n8:=Sd _ _ n7;have b4:I≠dl:=ae n7 a4;have ch:wl≠dl:=ae a0 a4;have ci:=b3.trans Sd;have as:=Sd _ _ a0;clear b3 Sd a0 n7 a4;refine⟨_,rfl,I,_,rfl,.inl ⟨n8,fun ob=>?_⟩⟩;have cm:gx H8 (upd H8 I (.frz ob (.dT (tm rooms l (aN rooms l))))):=fun b xs e=>by rw[aj (fun z=>by rw[z,n8]at e;cases e)];exact e
 have b5:ab H (upd H8 I (.frz ob (.dT (tm rooms l (aN rooms l))))):=fun b o e=>by rw[aj (ae e n0)];exact ci _ _ e
 have d9:upd H8 I (.frz ob (.dT (tm rooms l (aN rooms l)))) dl=some (.lst (([]:Ze).map V.ref)):=by rw[aj b4.symm];exact d8
 have n9:upd H8 I (.frz ob (.dT (tm rooms l (aN rooms l)))) I=some (.frz ob (.dT (tm rooms l (aN rooms l)))):=aa;have w9:upd H8 I (.frz ob (.dT (tm rooms l (aN rooms l)))) wl=some (.lst ((aM D A y v).map V.str)):=by rw[aj (fun z=>by rw[z,n8]at as;cases as)];exact as
 generalize upd H8 I (.frz ob (.dT (tm rooms l (aN rooms l))))=H9 at cm b5 d9 n9 w9 ⊢;have c5:wl≠I:=fun z=>by rw[z,n9]at w9;cases w9
 clear n8 d8 as ci cm;have lJ:∀i,((aN rooms l).take i |>.flatMap (jK Y B A v (aM D A y v))).length<=1000:=fun i=>by
  refine bI ?_ few;unfold pL BA;rw[ai]
  conv=>rhs;rw[<-yg i (aN rooms l),oo,aA]
  exact Nat.le_add_right _ _
 let zI:Nat->L2.St->Hp->Prop:=fun i σ U=>Lf fun(us:Ze) (x5 x6:Option V)=>Lg (σ=[some (.ref M),some (.ref N),some (.ref wl),some (.ref I),some (.ref dl),x5,x6]) (U dl=some (.lst (us.map V.ref))) (Paired (iw K U) us (((aN rooms l).take i).flatMap (jK Y B A v (aM D A y v)))) (ab H U) (U I=some (.frz ob (.dT (tm rooms l (aN rooms l))))) (U wl=some (.lst ((aM D A y v).map V.str)))
 have co:(tm rooms l (aN rooms l)).length=(aN rooms l).length:=by unfold tm;rw[ai]
 refine Gj zI ⟨[],_,_,rfl,d9,.nil,b5,n9,w9⟩ (fun i σ U _ zq=>by obtain⟨_,_,_,_,_,_,_,h',_⟩:=zq;exact h') ?_ ?_
 ·rintro i σ H1 a b hi ⟨us,x5,x6,rfl,aC,O,S1,n1,w1⟩ ⟨ky,hk,cq⟩;rw[co]at hi;have hp:(aN rooms l)[i]?=some (aN rooms l)[i]:=iY hi;have ek:ky=uu (FT (aN rooms l)[i]):=by
   unfold tm at hk;rw[cS,hp]at hk;have hk:some (uu (FT (aN rooms l)[i]),V.str (j3 rooms l (aN rooms l)[i]))=some (ky,b):=hk;injection hk with hk;injection hk with hk _;exact hk.symm
  have cs:=bX hp;generalize(aN rooms l)[i]=p at hp ek cs;rw[ek]at cq;obtain⟨hr,rfl,a8⟩:=Hc cq;have a8:bV K H1 hr (Ie p):=a8;obtain⟨p1,p2⟩:=bF.1 cs;refine gN ⟨_,rfl,.inl ⟨rfl,_,ay.of aC⟩,_,rfl,_,rfl,_,rfl,_,rfl,M,N,hr,wl,p,D,A,rooms,y,v,l,aM D A y v,Y,B,rfl,MM.same S1,MN.same S1,a8,p1,p2,w1,J.d1,J.d2,fun la ua H2 da ct _ T=>?_⟩;have G:=S1.trans T;refine⟨_,rfl,_,rfl,_,rfl,_,rfl,M,N,hr,wl,p,D,A,rooms,y,v,l,aM D A y v,Y,B,rfl,MM.same G,MN.same G,bV.kt (ab.kt T) a8,T _ _ w1,lW,J.d1,J.d2,fun lt ut H3 db cL _ S3=>?_⟩;have dc:=T.trans S3;have snoc:((aN rooms l).take (i+1)).flatMap (jK Y B A v (aM D A y v))=((aN rooms l).take i).flatMap (jK Y B A v (aM D A y v))++(pd Y B (aM D A y v) p++rN Y B A v (aM D A y v) p):=by
   rw[take_snoc hp,oo,yf];rfl
  have l0:=lJ (i+1);rw[snoc,aA,aA,<-Paired.length ct,<-Paired.length cL,<-Paired.length O]at l0;refine⟨la,lt,_,_,rfl,rfl,S3 _ _ da,db,by rw[ai,ai];exact cz (aq (by omega)),fun lc dd=>?_⟩;have S4:ab H3 (upd H3 lc (.lst (ua.map V.ref++ut.map V.ref))):=ab.new dd;have c4:upd H3 lc (.lst (ua.map V.ref++ut.map V.ref)) lc=some (.lst ((ua++ut).map V.ref)):=by rw[aa,ar]
  generalize upd H3 lc (.lst (ua.map V.ref++ut.map V.ref))=H4 at S4 c4 ⊢;have a5:=dc.trans S4;have c0:=a5 _ _ aC;have kt:gx H4 (upd H4 dl (.lst (us.map V.ref++(ua++ut).map V.ref))):=cO c0;refine⟨dl,lc,_,_,rfl,rfl,c0,c4,by rw[ai,ai,aA];exact cz (aq (by omega)),us++(ua++ut),_,_,rfl,by rw[aa,<-ar],?_,fun b o q=>?_,?_,?_⟩
  ·rw[snoc];exact Paired.app (Paired.mapP O fun _ _ r=>iw.kt kt (iw.kt (ab.kt a5) r)) (Paired.app (Paired.mapP ct fun _ _ r=>iw.kt kt (iw.kt (ab.kt (S3.trans S4)) r)) (Paired.mapP cL fun _ _ r=>iw.kt kt (iw.kt (ab.kt S4) r)))
  ·rw[aj (ae q ce)];exact a5 _ _ (S1 _ _ q)
  ·rw[aj b4];exact a5 _ _ n1
  ·rw[aj ch];exact a5 _ _ w1
 rintro σ H1 ⟨us,x5,x6,rfl,aC,O,S1,n1,w1⟩;rw[co,bp]at O;have lj:=few;unfold pL at lj;rw[ai]at lj;have O:Paired (iw K H1) us (BA Y B A v rooms l (aM D A y v)):=O;have b6:∀e∈BA Y B A v rooms l (aM D A y v),e.a∈aN rooms l/\e.b∈aN rooms l:=fun e he=>by
  unfold BA at he;obtain⟨p,hp,he⟩:=gp.1 he;obtain⟨rfl,st⟩:=gr.1 he;exact⟨hp,st.in_ m m' hp⟩
 clear lJ n9 d9 w9 b5 ch c5 ce b4;refine⟨_,rfl,dl,rfl,⟨_,ay.of aC⟩,fun fl c1=>?_⟩;unfold pL at MJ k;generalize BA Y B A v rooms l (aM D A y v)=L at O lj b6 MJ k
 let zC:Nat->List V->Hp->Prop:=fun n vs U=>∃ws:List Addr,Js (vs=ws.map V.ref) (ab H1 U) (U fl=some (.lst vs)) (dg U ws ((L.take n).map (Lw rooms l)))
 refine bQ (xs:=us.map V.ref) zC ⟨[],rfl,ab.new c1,aa,.nil⟩ (fun i vs U _ zq=>by obtain⟨_,_,S,h',_⟩:=zq;exact⟨h',ay.of (S _ _ aC)⟩) ?_ ?_;rotate_left
 ·rintro n vs H2 x hx hn ⟨ws,rfl,T,h2,hw⟩;obtain⟨u,hu,rfl⟩:=cg hx;obtain⟨e,he,hh,s,g,g1,g2,g3,g4⟩:=Paired.getL O hu;have nl:=(bM.1 he).1;obtain⟨ia,ib⟩:=b6 e (bX he);have rd:Rd H2 I (.dT (tm rooms l (aN rooms l))):=.inr ⟨ob,T _ _ n1⟩;refine⟨u,_,rfl,br.of (T _ _ g1),rfl,_,_,rfl,_,_,rfl,_,_,rfl,rfl,pS ?_⟩;refine⟨_,rfl,_,rfl,I,_,rfl,.inr ⟨_,uu (FT e.a),hh,rd,rfl,Ej (f:=FT e.a) (bV.kt (ab.kt T) g2),sw _,(zW ia).symm⟩,?_⟩;refine⟨_,rfl,_,rfl,_,rfl,I,_,rfl,.inr ⟨_,uu (FT e.b),g,rd,rfl,Ej (f:=FT e.b) (.inl (T _ _ g4)),sw _,(zW ib).symm⟩,(by show 3<=ak;decide),fun q hq=>?_⟩;have S3:ab H2 (upd H2 q (.tup [.str (j3 rooms l e.a),.ref s,.str (j3 rooms l e.b)])):=ab.new hq;have q3:upd H2 q (.tup [.str (j3 rooms l e.a),.ref s,.str (j3 rooms l e.b)]) q=some (.tup [.str (j3 rooms l e.a),.ref s,.str (j3 rooms l e.b)]):=aa;show _/\_/\_;generalize upd H2 q (.tup [.str (j3 rooms l e.a),.ref s,.str (j3 rooms l e.b)])=H3 at S3 q3 ⊢;have kt:gx H3 (upd H3 fl (.lst (ws.map V.ref++[.ref q]))):=cO (S3 _ _ h2);refine⟨S3 _ _ h2,by rw[ai,Paired.length hw,ai,aX];exact aq (by omega),kL hn ⟨ws++[q],by rw[ar];rfl,fun b o z=>?_,aa,?_⟩⟩
  ·rw[aj (ae z c1)];exact S3 _ _ (T _ _ z)
  ·rw[take_snoc he,ar];exact ee (Paired.mapP hw fun _ _ r=>iy.kt (fun b xs z=>kt _ _ (S3 _ _ z)) r) ⟨s,kt _ _ q3,kt _ _ (S3 _ _ (T _ _ g3))⟩
 rintro vs H2 ⟨ws,rfl,T,h2,hw⟩;rw[ai,Paired.length O,bp]at hw;have G:=S1.trans T;have n2:=T _ _ n1;clear O b6 lj aC n1 w1 S1 T;refine⟨_,rfl,_,rfl,M,N,D,A,rooms,y,v,l,Y,B,rfl,MM.same G,MN.same G,fun al H3 di _ S3=>?_⟩;have an:=G.trans S3;obtain⟨dx,fs,g1,_,g2,_⟩:=(MM.same an).mth;refine⟨_,rfl,M,dx,fs,rfl,g1,g2,M,D,A,rooms,Y,rfl,MM.same an,fun s1 dm=>?_⟩;have S4:ab H3 (upd H3 s1 (.lst (A.map V.str))):=ab.new dm;have s4:upd H3 s1 (.lst (A.map V.str)) s1=some (.lst (A.map V.str)):=aa;generalize upd H3 s1 (.lst (A.map V.str))=H4 at S4 s4 ⊢;have ap:=an.trans S4;obtain⟨dn,dp,dr,_,dt,_⟩:=(MN.same ap).mth;refine⟨_,rfl,N,dn,dp,rfl,dr,dt,N,y,v,l,B,rfl,MN.same ap,fun s2 dy=>?_⟩;have S5:ab H4 (upd H4 s2 (.lst (v.map V.str))):=ab.new dy;have s5:upd H4 s2 (.lst (v.map V.str)) s2=some (.lst (v.map V.str)):=aa;show gR (.ref s1) (.ref s2) (upd H4 s2 (.lst (v.map V.str))) _;generalize upd H4 s2 (.lst (v.map V.str))=H5 at S5 s5 ⊢;refine⟨s1,s2,_,_,rfl,rfl,S5 _ _ s4,s5,by rw[ai,ai];exact cz (aq (by omega)),fun sl dK=>?_⟩;have S6:ab H5 (upd H5 sl (.lst (A.map V.str++v.map V.str))):=ab.new dK;have s6:upd H5 sl (.lst (A.map V.str++v.map V.str)) sl=some (.lst ((A++v).map V.str)):=by rw[aa,ar]
 generalize upd H5 sl (.lst (A.map V.str++v.map V.str))=H6 at S6 s6 ⊢;have c2:=S3.trans (S4.trans (S5.trans S6));refine⟨_,rfl,I,_,rfl,.inr ⟨ob,c2 _ _ n2⟩,fun rl dV=>?_⟩;have e7:(tm rooms l (aN rooms l)).map ym=(cx rooms l).map V.str:=by unfold tm cx;rw[ow,ow];rfl
 rw[e7];have S7:ab H6 (upd H6 rl (.lst ((cx rooms l).map V.str))):=ab.new dV;have r7:upd H6 rl (.lst ((cx rooms l).map V.str)) rl=some (.lst ((cx rooms l).map V.str)):=aa;generalize upd H6 rl (.lst ((cx rooms l).map V.str))=H7 at S7 r7 ⊢;have b7:=c2.trans S7;refine⟨_,rfl,fun x dx hx d0 d3=>?_⟩;have S8:ab H7 (upd (upd H7 dx (.own x)) x (.ins C dx [])):=(ab.new d0).trans (ab.new (by rw[aj d3.symm];exact hx));refine⟨x,dx,al,sl,rl,fl,ws,dQ D A y v,A++v,cx rooms l,L.map (Lw rooms l),rfl,aa,⟨S8 _ _ ((S4.trans (S5.trans (S6.trans S7))) _ _ di),S8 _ _ (S7 _ _ s6),S8 _ _ r7,(b7.trans S8) _ _ h2,hw.kt (ab.kt (b7.trans S8))⟩,MJ,fun U Mx ex=>⟨rfl,k x U Mx fun b o q=>?_⟩⟩;have hq:=(G.trans b7) _ _ q;exact ex _ _ (S8 _ _ hq) (ae hq hx)
inductive qo (vs:List V)(H:Hp)(Q:VK)(E:XK):Prop
 |mk (p c l1 l2 l3:Addr) (J0 J2 rooms:Zb) (full:Int):(vs=[.ref p,.ref l1,.ref l2,.ref l3,.int full])->(gM H p c)->(H l1=some (.lst (J0.map V.str)))->(H l2=some (.lst (J2.map V.str)))->(H l3=some (.lst (rooms.map V.str)))->(J0.length<=3)->(J2≠[])->(J2.length<=4)->(rooms≠[])->(rooms.length<=26)->(0<=full)->(full<=2)->(∀(l:Addr) (ts:Ze) (ds:List ah) (up:Bool) (H':Hp),H l=none->H' l=some (.lst (ts.map V.ref))->dg H' ts ds->ds.Nodup->(∀d∈ds,mQ J0 J2 rooms up d)->ds.length<=9 * rooms.length->gM H' p c->dZ p H H'->Q (.ref l) H')->qo  vs H Q E
inductive DdJ(G:ah->Prop)(H:Hp)(p c l l1 l2 l3:Addr)(full dn:Int)(i:Nat)(σ:L2.St)(H':Hp):Prop
 |mk (a7 a8 a9 a10 a11 a12:Option V):σ=[some (.ref p),some (.ref l1),some (.ref l2),some (.ref l3),some (.int full),some (.ref l),some (.int dn),a7,a8,a9,a10,a11,a12]->DI G H p c l (9 * i) H'->DdJ G H p c l l1 l2 l3 full dn i σ H'
theorem HK{K:Za}{vs:List V}{H:Hp}{Q:VK}{E:XK}(h:qo vs H Q E):rR K gb r_ (bN Q) (start sH vs) H:=by
 obtain⟨p,c,l1,l2,l3,J0,J2,rooms,a,rfl,hp,h1,h2,h3,ha,b9,hs,a4,hr,f0,f2,k⟩:=h;have n1:=hp.ne_strs h1;have n2:=hp.ne_strs h2;have n3:=hp.ne_strs h3;refine⟨(by show 0<=ak;decide),fun l hl=>?_⟩;have a5:=hp.nep hl;have ca:=hp.nec hl;refine⟨_,rfl,fG (hp.ex (ab.new hl)) (by decide) (by decide) fun M H1 d0 d1 cc a6=>?_⟩;generalize hG:mQ J0 J2 rooms (decide (M=0))=G;have base:DI G H p c l 0 H1:=⟨cc,⟨[],[],a6 _ _ aa a5.symm,.nil,rJ,by simp,c_ _⟩,(dZ.new hl).trans a6,hl,a5,ca⟩;refine⟨_,rfl,l3,rfl,⟨_,ay.of (base.ex _ _ h3 n3)⟩,?_⟩;refine mL (xs:=rooms.map V.str) (DdJ G H p c l l1 l2 l3 a M)
  ⟨_,_,_,_,_,_,rfl,base⟩ (fun i σ H' _ zq=>by obtain⟨_,_,_,_,_,_,_,D⟩:=zq;exact ay.of (D.ex _ _ h3 n3)) ?_ ?_
 ·rintro i x σ H' t hi ⟨a7,a8,C,m,v,A,rfl,D⟩ ht;obtain⟨room,f,rfl⟩:∃room,rooms[i]?=some room/\x=V.str room:=by
   rw[cS]at hi;cases q:rooms[i]? with
   |none=>rw[q]at hi;cases hi
   |some r=>rw[q]at hi;exact⟨r,rfl,(fW hi).symm⟩
  have db:i<rooms.length:=(bM.mp f).1;have N:room∈rooms:=bX f;refine⟨t,_,rfl,br.of aa,rfl,_,_,rfl,_,_,rfl,rfl,?_⟩;have D1:=D.new ht (o:=.tup [.int i,.str room]);refine⟨(by show 4<=ak;decide),fun q hq=>⟨_,rfl,fG (D1.new hq).pen (by decide) (by decide) fun r H2 r0 r1 cd bb=>?_⟩⟩;obtain⟨j,hj,j0,j2⟩:=at4 (x:=0) (by decide) (by decide) r0 r1;have D2:=(D1.new hq).took cd bb;refine⟨q,_,_,_,rfl,rfl,ay.of (bb q _ aa (D1.pen.nep hq).symm),hj,j,rfl,by omega,by omega,?_⟩
  let ce:Nat->L2.St->Hp->Prop:=fun i' σ O=>GL fun(C m:Option V)=>σ=[some (.ref p),some (.ref l1),some (.ref l2),some (.ref l3),some (.int a),some (.ref l),some (.int M),some (.int i),some (.str room),C,m,v,A]/\DI G H p c l (9 * i+i') O
  refine kP (lo:=0) (n:=j.toNat) ce
   ⟨_,_,rfl,D2⟩ ?_ ?_
  ·rintro i' σ H3 I ⟨C,m,rfl,D3⟩;refine um (fun _ _ _ _ h=>h) rfl rfl D3.pen (D3.ex _ _ h2 n2) b9 (by omega) fun w hw H4 ch ci=>?_;have D4:=D3.took ch ci;refine⟨(by show 2<=ak;decide),fun L g=>?_⟩;have D5:=D4.new g (o:=.tup [.str "say",.str w]);refine⟨_,rfl,_,rfl,_,rfl,um (fun _ _ _ _ h=>h) rfl rfl D5.pen (D5.ex _ _ h3 n3) a4 (by omega) fun U J H6 cl bi=>?_⟩;have D6:=D5.took cl bi;refine⟨(by show 3<=ak;decide),fun dr u=>?_⟩;have D7:=D6.new u (o:=.tup [.str room,.ref L,.str U]);have bl:H6 L=some (.tup [.str "say",.str w]):=bi _ _ aa (D4.pen.nep g).symm;refine D7.put (d:=⟨room,["say",w],U⟩) ⟨L,aa,kp bl u⟩ ?_ (by omega) fun H8 Y=>⟨_,_,rfl,Y⟩;rw[<-hG];exact⟨N,J,.inr (.inl ⟨w,hw,rfl⟩)⟩
  rintro σ H3 ⟨C,m,rfl,bn⟩;have D3:DI G H p c l (9 * i+2) H3:=bn.up (by omega);clear bn;refine⟨_,rfl,l1,rfl,⟨_,ay.of (D3.ex _ _ h1 n1)⟩,?_⟩
  let cm:Nat->L2.St->Hp->Prop:=fun i' σ O=>GL fun(C v:Option V)=>σ=[some (.ref p),some (.ref l1),some (.ref l2),some (.ref l3),some (.int a),some (.ref l),some (.int M),some (.int i),some (.str room),C,m,v,A]/\DI G H p c l (9 * i+2+2 * i') O
  refine bw (xs:=J0.map V.str) cm
   ⟨_,_,rfl,D3⟩ (fun i σ H' _ zq=>by obtain⟨_,_,_,D⟩:=zq;exact ay.of (D.ex _ _ h1 n1)) ?_ ?_
  ·rintro i' x σ H4 I ⟨C,v,rfl,D4⟩;obtain⟨ask,an,rfl⟩:∃ask,J0[i']?=some ask/\x=V.str ask:=by
    rw[cS]at I;cases q:J0[i']? with
    |none=>rw[q]at I;cases I
    |some r=>rw[q]at I;exact⟨r,rfl,(fW I).symm⟩
   have dc:i'<J0.length:=(bM.mp an).1;have co:ask∈J0:=bX an;refine⟨_,rfl,(by show 4<=ak;decide),fun q hq=>⟨_,rfl,fG (D4.new hq).pen (by decide) (by decide) fun r H5 r0 r1 cq b0=>?_⟩⟩;obtain⟨j,hj,j0,j2⟩:=at4 f0 f2 r0 r1;have D5:=(D4.new hq).took cq b0;refine⟨q,_,_,_,rfl,rfl,ay.of (b0 q _ aa (D4.pen.nep hq).symm),hj,j,rfl,by omega,by omega,?_⟩
   let cs:Nat->L2.St->Hp->Prop:=fun b1 σ O=>∃C:Option V,σ=[some (.ref p),some (.ref l1),some (.ref l2),some (.ref l3),some (.int a),some (.ref l),some (.int M),some (.int i),some (.str room),C,m,some (.str ask),A]/\DI G H p c l (9 * i+2+2 * i'+b1) O
   refine kP (lo:=0) (n:=j.toNat) cs
    ⟨_,rfl,D5⟩ ?_ ?_
   ·rintro b1 σ H6 da ⟨C,rfl,D6⟩;refine⟨_,rfl,_,rfl,_,rfl,(by show 2<=ak;decide),fun L g=>?_⟩;have D7:=D6.new g (o:=.tup [.str "ask",.str ask]);refine um (fun _ _ _ _ h=>h) rfl rfl D7.pen (D7.ex _ _ h3 n3) a4 (by omega) fun U J H8 ct b2=>?_;have Y:=D7.took ct b2;refine⟨(by show 3<=ak;decide),fun dr u=>?_⟩;have D9:=Y.new u (o:=.tup [.str room,.ref L,.str U]);have b3:H8 L=some (.tup [.str "ask",.str ask]):=b2 _ _ aa (D6.pen.nep g).symm;refine D9.put (d:=⟨room,["ask",ask],U⟩) ⟨L,aa,kp b3 u⟩ ?_ (by omega) fun H8 Y=>⟨_,rfl,Y⟩;rw[<-hG];exact⟨N,J,.inl ⟨ask,co,rfl⟩⟩
   ·rintro σ H6 ⟨C,rfl,D6⟩;exact⟨_,_,rfl,D6.up (by omega)⟩
  rintro σ H4 ⟨C,v,rfl,b4⟩;have D4:DI G H p c l (9 * i+8) H4:=b4.up (by rw[ai];omega);clear b4;have B:∀(H9:Hp) (A:Option V),DI G H p c l (9 * i+9) H9->DdJ G H p c l l1 l2 l3 a M (i+1) [some (.ref p),some (.ref l1),some (.ref l2),some (.ref l3),some (.int a),some (.ref l),some (.int M),some (.int i),some (.str room),C,m,v,A] H9:=fun H9 A D9=>⟨_,_,_,_,_,_,rfl,D9.up (by omega)⟩;refine⟨_,rfl,_,rfl,_,_,rfl,rfl,_,rfl,l3,_,rfl,ay.of (D4.ex _ _ h3 n3),fun q1 cL=>?_⟩;have D5:=D4.new cL (o:=.lst (gv (rooms.map V.str) (some ((i:Int)+1)) none));refine⟨_,rfl,_,rfl,_,rfl,l3,_,rfl,ay.of (D5.ex _ _ h3 n3),fun q2 b5=>?_⟩;have e1:gv (rooms.map V.str) (some ((i:Int)+1)) none=(rooms.drop (i+1)).map V.str:=Gp rooms (i+1);rw[uz];have D6:=D5.new b5 (o:=.lst ((rooms.take i).map V.str));refine⟨(by show 2<=ak;decide),fun q3 as=>?_⟩;have D7:=D6.new as (o:=.lst [.ref q1,.ref q2]);obtain⟨lt,q,hq,al,T⟩:∃(lt:Zb) (q:Addr),xT [V.ref q1,.ref q2] M=some (.ref q) /\
    upd (upd (upd H4 q1 (.lst (gv (rooms.map V.str) (some ((i:Int)+1)) none))) q2 (.lst ((rooms.take i).map V.str))) q3 (.lst [.ref q1,.ref q2]) q=some (.lst (lt.map V.str))/\lt.length<=26 /\
    ∀w∈lt,w∈rooms/\Up (decide (M=0)) rooms room w:=by
   have:M=0∨M=1:=by omega
   rcases this with rfl|rfl
   ·refine⟨rooms.drop (i+1),q1,rfl,?_,by rw[ie];omega,fun w hw=>⟨List.mem_of_mem_drop hw,?_⟩⟩
    ·refine(kp (kp aa b5) as).trans ?_;rw[e1]
    ·obtain⟨n,hn⟩:=oq hw;rw[List.getElem?_drop]at hn;exact⟨i,i+1+n,f,hn,by rw[if_pos (by decide)];omega⟩
   ·refine⟨rooms.take i,q2,rfl,?_,by rw[aX];omega,fun w hw=>⟨jw hw,?_⟩⟩
    ·exact kp aa as
    ·obtain⟨n,hn⟩:=oq hw;have c0:n<i:=by
      have:=(bM.mp hn).1;rw[aX]at this;omega
     rw[oH c0]at hn;exact⟨i,n,f,hn,by rw[if_neg (by decide)];omega⟩
  refine⟨_,rfl,q3,_,_,_,rfl,rfl,ay.of aa,hq,?_⟩;generalize upd (upd (upd H4 q1 (.lst (gv (rooms.map V.str) (some ((i:Int)+1)) none))) q2 (.lst ((rooms.take i).map V.str))) q3 (.lst [.ref q1,.ref q2])=H7 at D7 al ⊢;refine⟨_,rfl,(by show 0<=ak;decide),fun e he=>⟨.s (lt.map dh),.s [],vJ (ay.of (kp al he)),Ae (ay.of aa),?_,by decide,_,rfl,?_⟩⟩
  ·show DT.depths (lt.map dh)+1<=8;rw[f8];decide
  have Y:=D7.new he (o:=.lst []);by_cases hz:lt=[]
  ·have ez:(!decide (DT.s (lt.map dh)=DT.s []))=false:=by rw[hz,zzr1 (by rfl)];rfl
   rw[ez];exact bd (bd (B _ _ (Y.up (by omega))))
  ·have ez:(!decide (DT.s (lt.map dh)=DT.s []))=true:=by
    rw[zzr0 (fun z=>hz (gD (y:=[]) (by injection z)))];rfl
   rw[ez];refine bU ?_;refine⟨_,rfl,fG Y.pen (by decide) (by decide) fun r H9 r0 r1 c1 b6=>⟨rfl,_,rfl,?_⟩⟩;have D9:=Y.took c1 b6;refine l6 (fun _=>?_) (fun _=>B _ _ (D9.up (by omega)));refine⟨_,rfl,_,rfl,(by show 1<=ak;decide),fun L g=>?_⟩;have b7:=D9.new g (o:=.tup [.str "still"]);have aC:upd H9 L (.tup [.str "still"]) q=some (.lst (lt.map V.str)):=kp (b6 _ _ (kp al he) (Y.pen.ne_strs (kp al he))) g;refine um (fun _ _ _ _ h=>.inl h) rfl rfl b7.pen aC hz (by omega) fun U J c2 b8 ap=>?_;have c3:=b7.took b8 ap;refine⟨(by show 3<=ak;decide),fun dr u=>?_⟩;have c4:=c3.new u (o:=.tup [.str room,.ref L,.str U]);have a0:c2 L=some (.tup [.str "still"]):=ap _ _ aa (D9.pen.nep g).symm;refine c4.put (d:=⟨room,[("still":Str)],U⟩) ⟨L,aa,kp a0 u⟩ ?_ (by omega) fun dd c5=>B _ _ c5;rw[<-hG];exact⟨N,(T.2 U J).1,.inr (.inr ⟨rfl,(T.2 U J).2⟩)⟩
 ·rintro σ H' ⟨a7,a8,C,m,v,A,rfl,D⟩;obtain⟨ts,ds,g1,g2,g3,g4,g5⟩:=D.ds;rw[ai]at g5;rw[<-hG]at g4;exact⟨_,rfl,k l ts ds _ H' hl g1 g2 g3 g4 (by omega) D.pen D.ex⟩
theorem tE{K:Za}{σ:L2.St}{H:Hp}{fi:List Nat}{a b l sm:Addr}{p:List V}{j:Int}{g os:Zb}{Q:Hp->Prop}(hσ:cP 1 fi σ=[none,some (.ref sm)])(t:H sm=some (.lst p))(u:xT p j=some (.ref b))(y:H a=some (.lst (g.map V.str)))(A:H b=some (.lst (os.map V.str)))(q:H l=none)(J:g.length<=900)
  (k:∀f,ab H f->f l=some (.lst ((g.filter fun w=>decide (w∈os)).map V.str))->Q f) :
  cF 1 fi σ (Ce K a) U0 (aS (aD (ii K false) V0 (aD (df K) V1 (tC (.int j))))) V0 H l Q:=by
 let B:Nat->List V->Hp->Prop:=fun i m f=>m=((g.take i).filter fun w=>decide (w∈os)).map V.str/\ab H f/\f l=some (.lst m)
 refine bQ (xs:=g.map V.str) B ⟨rfl,ab.new q,aa⟩ (fun i m f _ C=>by obtain⟨_,S,D⟩:=C;exact⟨D,ay.of (S _ _ y)⟩) ?_ ?_
 ·rintro m r ⟨rfl,S,n⟩;rw[ai,bp]at n;exact k r S n
 ·rintro i m r x hx hi ⟨rfl,S,n⟩;obtain⟨w,s,rfl⟩:=bh hx;rw[hσ];refine gN ⟨_,rfl,_,rfl,sm,p,j,_,rfl,rfl,ay.of (S _ _ t),u,dh w,os.map dh,b,_,rfl,rfl,.inl (ay.of (S _ _ A)),gu os,c_ _,by rw[gH];decide,_,rfl,?_⟩;have E:(dh w∈os.map dh)↔w∈os:=⟨fun z=>by obtain⟨v,G,e⟩:=aE.1 z;have e:DT.k (.inr v)=DT.k (.inr w):=e;injection e with e;injection e with e;rw[<-e];exact G,fQ⟩;have I:(if false=true then !decide (dh w∈os.map dh)else decide (dh w∈os.map dh))=decide (w∈os):=decide_eq_decide.2 E
  rw[I];by_cases c:w∈os
  ·rw[zzr1 c];refine bU ⟨_,rfl,n,?_,kL hi ⟨?_,fun b o e=>?_,aa⟩⟩
   ·rw[ai]at hi ⊢;exact aq (bI (b_ _ _) (by rw[aX];omega))
   ·rw[take_snoc s,gQ,ar];have:[w].filter (fun w=>decide (w∈os))=[w]:=by rw[rh,if_pos (zzr1 c)];rfl
    rw[this];rfl
   ·rw[aj (ae e q)];exact S _ _ e
  ·rw[zzr0 c];refine bd (kL hi ⟨?_,S,n⟩);rw[take_snoc s,gQ];have:[w].filter (fun w=>decide (w∈os))=[]:=by rw[rh,if_neg (by rw[zzr0 c];decide)];rfl
   rw[this,dS]
structure F4(H:Hp)(sm:Addr)(A:Nat->Addr)(S:Nat->List Str):Prop where
 l:H sm=some (.lst [.ref (A 0),.ref (A 1),.ref (A 2),.ref (A 3)])
 s:∀k,k<4->H (A k)=some (.lst ((S k).map V.str))
theorem F4.same{H H':Hp}{a:Addr}{A:Nat->Addr}{S:Nat->List Str}(h:F4 H a A S)(e:ab H H'):F4 H' a A S:=⟨e _ _ h.l,fun k f=>e _ _ (h.s k f)⟩
theorem F4.ix{A:Nat->Addr}{k:Nat}(h:k<4):xT [V.ref (A 0),.ref (A 1),.ref (A 2),.ref (A 3)] (k:Int)=some (.ref (A k)):=by
 refine cn ?_;rcases k with _|_|_|_|k
 ·rfl
 ·rfl
 ·rfl
 ·rfl
 ·omega
inductive kE(vs:List V)(H:Hp)(Q:VK)(E:XK):Prop
 |mk (sm:Addr) (A:Nat->Addr) (S:Nat->List Str):(vs=[.ref sm])->(F4 H sm A S)->((∀k,k<4->(S k).length<=4))->(∀(l:Addr) (H':Hp),H' l=some (.lst ((dQ (S 0) (S 1) (S 2) (S 3)).map V.str))->H l=none->ab H H'->Q (.ref l) H')->kE vs H Q E
theorem HN{K:Za}{t:List V}{H:Hp}{Q:VK}{E:XK}(h:kE t H Q E):tI K (bN Q) (start t4 t) H:=by
 obtain⟨sm,A,S,rfl,F,z,k⟩:=h;have O:=z 0 (by decide);have T:=z 1 (by decide);have U:=z 2 (by decide);have Y:=z 3 (by decide);refine⟨_,rfl,sm,_,1,_,rfl,rfl,ay.of F.l,F4.ix (k:=1) (by decide),A 1,rfl,⟨_,ay.of (F.s 1 (by decide))⟩,fun C o=>?_⟩;refine tE (sm:=sm) (j:=((2:Nat):Int)) rfl F.l (F4.ix (k:=2) (by decide)) (F.s 1 (by decide)) (F.s 2 (by decide)) o (by omega) fun H1 u D=>?_;have e:=F.same u;refine⟨_,rfl,sm,_,3,_,rfl,rfl,ay.of e.l,F4.ix (k:=3) (by decide),A 3,rfl,⟨_,ay.of (e.s 3 (by decide))⟩,fun G p=>?_⟩;refine tE (sm:=sm) (j:=((0:Nat):Int)) rfl e.l (F4.ix (k:=0) (by decide)) (e.s 3 (by decide)) (e.s 0 (by decide)) p (by omega) fun f v I=>?_;have f1:=b_ (fun w=>decide (w∈S 2)) (S 1);have f2:=b_ (fun w=>decide (w∈S 0)) (S 3);refine⟨C,G,_,_,rfl,rfl,v _ _ D,I,by rw[ai,ai];exact cz (aq (by omega)),fun g q=>?_⟩;have x:ab f (upd f g (.lst (((S 1).filter fun w=>decide (w∈S 2)).map V.str++((S 3).filter fun w=>decide (w∈S 0)).map V.str))):=ab.new q;have y:upd f g (.lst (((S 1).filter fun w=>decide (w∈S 2)).map V.str++((S 3).filter fun w=>decide (w∈S 0)).map V.str)) g=some (.lst ((aM (S 0) (S 1) (S 2) (S 3)).map V.str)):=by rw[aa,<-ar];rfl
 generalize upd f g (.lst (((S 1).filter fun w=>decide (w∈S 2)).map V.str++((S 3).filter fun w=>decide (w∈S 0)).map V.str))=i at x y ⊢;have a:=u.trans (v.trans x);have m:=F.same a;refine⟨_,rfl,sm,_,0,_,rfl,rfl,ay.of m.l,F4.ix (k:=0) (by decide),_,rfl,sm,_,2,_,rfl,rfl,ay.of m.l,F4.ix (k:=2) (by decide),A 0,A 2,_,_,rfl,rfl,m.s 0 (by decide),m.s 2 (by decide),by rw[ai,ai];exact cz (aq (by omega)),fun c J=>?_⟩;have n:ab i (upd i c (.lst ((S 0).map V.str++(S 2).map V.str))):=ab.new J;have B:upd i c (.lst ((S 0).map V.str++(S 2).map V.str)) c=some (.lst ((S 0++S 2).map V.str)):=by rw[aa,ar]
 refine⟨c,rfl,⟨_,ay.of aa⟩,fun l r=>?_⟩;generalize upd i c (.lst ((S 0).map V.str++(S 2).map V.str))=H4 at n B r ⊢;exact o_ (neg:=true) rfl B (n _ _ y) r (by rw[aA];omega) fun L M N=>k l L N ((a.trans n).free r) (a.trans (n.trans M))
def tIs(l:List Int):TA:=l.foldr (fun i t=>av (tC (.int i)) t) aY
def ML(L:List (List Int)):TA:=L.foldr (fun l t=>av (bC (tIs l)) t) aY
theorem Hn{σ:L2.St}:∀(l:List Int) {H:Hp}{Q:List V->Hp->Prop},Q (l.map V.int) H->tIs l σ H Q
 |[],_,_,h=>h
 |i::l,H,Q,h=>Hn (σ:=σ) l (H:=H) (Q:=fun a e=>Q (.int i::a) e) h
theorem Hm{σ:L2.St}:∀(L:List (List Int)) {H:Hp}{Q:List V->Hp->Prop},(∀l∈L,l.length<=1000) ->
  (∀(f:Ze) (g:Hp),ab H g->Paired (fun a (l:List Int)=>g a=some (.lst (l.map V.int))) f L->(∀a∈f,H a=none)->f.Nodup->Q (f.map V.ref) g)->ML L σ H Q
 |[],H,Q,_,k=>k [] H (fun _ _ e=>e) .nil (fun a h=>by cases h) .nil
 |l::L,H,Q,j,k=>by
  show tIs l σ H fun i m=>i.length<=ak/\∀p,m p=none->ML L σ (upd m p (.lst i)) fun i r=>Q (.ref p::i) r;refine Hn l ⟨by rw[ai];exact cz (aq (j l dz)),fun p n=>?_⟩;have S:ab H (upd H p (.lst (l.map V.int))):=ab.new n;refine Hm L (fun s h=>j s (gC _ h)) fun f g o t q u=>k (p::f) g (S.trans o) (.cons (o _ _ aa) t) (fun a ha=>?_) ?_
  ·rcases dC.1 ha with rfl|ha
   ·exact n
   ·exact S.free (q a ha)
  ·refine jA.2 ⟨fun z=>?_,u⟩;have:=q p z;rw[aa]at this;cases this
theorem Hv{L:List (List Int)}{j:Nat}{rest:TS}{D:pF}{σ:L2.St}{H:Hp}(h:∀l∈L,l.length<=1000)(i:L.length<=1000)
  (k:∀(e:Ze) (f:Hp) (y:Addr),ab H f->Paired (fun a (l:List Int)=>f a=some (.lst (l.map V.int))) e L->(∀a∈e,H a=none)->e.Nodup->f y=none->rest D (σ.set j (some (.ref y))) (upd f y (.lst (e.map V.ref)))):au (aT (bC (ML L)) (eR j)) rest D σ H :=
 show ML L σ H _ from Hm L h fun e f S g m n=>⟨by rw[ai,Paired.length g];exact cz (aq i),fun y o=>k e f y S g m n o⟩
def cf(i j:Nat):Bool:=decide ((i,j)∈[(0,1),(0,2),(1,3),(2,3)])
structure WI(P:Zb)(S:Nat->List Str):Prop where
 nd:∀k,k<4->(S k).Nodup
 len:∀k,k<4->(S k).length<=2
 sub:∀k,k<4->∀w∈S k,w∈P
 ap:∀i j,cf i j=true->∀w∈S i,w∉S j
def Bk(S:Nat->List Str)(k:Nat)(w:Str):Nat->List Str:=fun j=>if j=k then S k++[w]else S j
theorem kH{S:Nat->List Str}{k:Nat}{w:Str}:Bk S k w k=S k++[w]:=if_pos rfl
theorem qF{S:Nat->List Str}{k j:Nat}{w:Str}(h:j≠k):Bk S k w j=S j:=if_neg h
theorem IZ{i j:Nat}(h:cf i j=true):i<4/\j<4/\i≠j:=by
 have h:=of_decide_eq_true h;simp only[dC,mj,or_false,Prod.mk.injEq]at h;omega
structure MT(S0:Nat->List Str)(w:Str)(l:List Nat)(S:Nat->List Str):Prop where
 at_:∀k,k<4->S k=S0 k∨(k∈l/\S k=S0 k++[w]/\(S0 k).length<2)
theorem MT.wi{S0 S:Nat->List Str}{P:Zb}{w:Str}{l:List Nat}(h:MT S0 w l S)(W:WI P S0)(m:w∉P)(o:∀i j,cf i j=true->¬(i∈l/\j∈l)):WI (P++[w]) S:=by
 have g:∀k,k<4->∀x∈S k,x∈S0 k∨(x=w/\k∈l):=fun k f x hx=>by
  rcases h.at_ k f with e|⟨p,q,_⟩
  ·rw[e]at hx;exact .inl hx
  ·rw[q]at hx;rcases bf.1 hx with z|z
   ·exact .inl z
   ·exact .inr ⟨cA.1 z,p⟩
 refine⟨fun k f=>?_,fun k f=>?_,fun k f x hx=>?_,fun i j c x hx r=>?_⟩
 ·rcases h.at_ k f with e|⟨_,e,_⟩
  ·rw[e];exact W.nd k f
  ·rw[e];refine dk.2 ⟨W.nd k f,jA.2 ⟨by simp,.nil⟩,fun a s b t z=>?_⟩;rw[cA.1 t]at z;exact m (z▸W.sub k f a s)
 ·rcases h.at_ k f with e|⟨_,e,z⟩
  ·rw[e];exact W.len k f
  ·rw[e,aA];show _+1<=2;omega
 ·rcases g k f x hx with z|z
  ·exact cu _ (W.sub k f x z)
  ·exact cQ _ (cA.2 z.1)
 ·obtain⟨hi,n,ne⟩:=IZ c;rcases g i hi x hx with z|z<;>rcases g j n x r with y|y
  ·exact W.ap i j c x z y
  ·exact m (y.1▸W.sub i hi x z)
  ·exact m (z.1▸W.sub j n x y)
  ·exact o i j c ⟨z.2,y.2⟩
structure TW(H0:Hp)(p c:Addr)(A:Nat->Addr)(S:Nat->List Str)(H':Hp):Prop where
 pen:gM H' p c
 ex:∀b o,H0 b=some o->b≠p->(∀k,k<4->b≠A k)->H' b=some o
 s:∀k,k<4->H' (A k)=some (.lst ((S k).map V.str))
structure TA4(p c:Addr)(A:Nat->Addr):Prop where
 p:∀k,k<4->A k≠p
 c:∀k,k<4->A k≠c
 inj:∀i j,i<4->j<4->A i=A j->i=j
section
variable{H0 H' H'':Hp}{p c:Addr}{A:Nat->Addr}{S:Nat->List Str}
theorem TW.took(h:TW H0 p c A S H')(a:TA4 p c A)(f:gM H'' p c)(ex:dZ p H' H''):TW H0 p c A S H'':=⟨f,fun b o q n m=>ex _ _ (h.ex b o q n m) n,fun k e=>ex _ _ (h.s k e) (a.p k e)⟩
theorem TW.same(h:TW H0 p c A S H')(e:ab H' H''):TW H0 p c A S H'':=⟨h.pen.ex e,fun b o q n m=>e _ _ (h.ex b o q n m),fun k a=>e _ _ (h.s k a)⟩
theorem TW.put(h:TW H0 p c A S H')(a:TA4 p c A){k:Nat}(f:k<4)(w:Str):TW H0 p c A (Bk S k w) (upd H' (A k) (.lst ((S k).map V.str++[.str w]))):=by
 refine⟨h.pen.upd (a.p k f).symm (a.c k f).symm,fun b o q n m=>?_,fun j g=>?_⟩
 ·rw[aj (m k f)];exact h.ex b o q n m
 ·by_cases e:j=k
  ·subst e;rw[aa,kH,ar];rfl
  ·rw[aj (fun z=>e (a.inj j k g f z)),qF e];exact h.s j g
end
structure EU(S:Nat->List Str):Prop where
 ok:∀k,k<4->iJ (S k)
 ne:∀k,k<4->S k≠[]
 l0:(S 0).length<=3
 l1:(S 1).length<=2
 l2:(S 2).length<=2
 l3:(S 3).length<=2
 ap:∀i j,cf i j=true->∀w∈S i,w∉S j
 a0:dQ (S 0) (S 1) (S 2) (S 3)≠[]
 a4:(dQ (S 0) (S 1) (S 2) (S 3)).length<=4
inductive ud(vs:List V)(H:Hp)(Q:VK)(E:XK):Prop
 |mk (p c:Addr):(vs=[.ref p,.int 0])->(gM H p c)->(∀(sm:Addr) (A:Nat->Addr) (S:Nat->List Str) (H':Hp),F4 H' sm A S->EU S->gM H' p c->dZ p H H'->Q (.ref sm) H')->ud vs H Q E
def xb:List (List Int):=[[0],[0],[1],[1],[2],[2],[3],[3],[1,2],[1,2],[0,3],[0,3],[],[0,2],[1,3]]
def jU:List (List Nat):=[[0],[0],[1],[1],[2],[2],[3],[3],[1,2],[1,2],[0,3],[0,3],[]]
theorem Jx{r:Nat}(h:r<13):∃l:List Nat,xb[r]?=some (l.map yd)/\l.Nodup/\(∀k∈l,k<4)/\(∀i j,cf i j=true->¬(i∈l/\j∈l)):=by
 have a:∀r:_root_.Fin 13,∃l,jU[r.1]?=some l/\xb[r.1]?=some (l.map yd)/\l.Nodup/\(∀k∈l,k<4)/\¬(0∈l/\1∈l)/\¬(0∈l/\2∈l)/\¬(1∈l/\3∈l)/\¬(2∈l/\3∈l):=by
  have:∀r:_root_.Fin 13,xb[r.1]?=some ((jU.getD r.1 []).map yd)/\jU[r.1]?=some (jU.getD r.1 [])/\(jU.getD r.1 []).Nodup/\(∀k∈jU.getD r.1 [],k<4)/\¬(0∈jU.getD r.1 []/\1∈jU.getD r.1 [])/\¬(0∈jU.getD r.1 []/\2∈jU.getD r.1 [])/\¬(1∈jU.getD r.1 []/\3∈jU.getD r.1 [])/\¬(2∈jU.getD r.1 []/\3∈jU.getD r.1 []):=by decide
  intro r;obtain⟨e,f,g⟩:=this r;exact⟨_,f,e,g⟩
 obtain⟨l,_,e,f,g,m,n,o,p⟩:=a ⟨r,h⟩;refine⟨l,e,f,g,fun i j c=>?_⟩;have c:=of_decide_eq_true c;simp only[dC,mj,or_false,Prod.mk.injEq]at c;rcases c with⟨rfl,rfl⟩|⟨rfl,rfl⟩|⟨rfl,rfl⟩|⟨rfl,rfl⟩
 ·exact m
 ·exact n
 ·exact o
 ·exact p
theorem JK{K:Za}{vs:List V}{H:Hp}{Q:VK}{E:XK}(h:ud vs H Q E):tH K kE gb my (bN Q) (start tZ vs) H:=by
 obtain⟨p,c,rfl,hp,k⟩:=h;refine⟨_,rfl,p,c,13,rfl,hp,by decide,fun wl t H1 ok len _ bl as c3=>?_⟩;show au _ _ _ _ _;refine Hv (L:=[[],[],[],[]]) (by decide) (by decide) fun U H2 v S2 pr fr nd aC=>?_;obtain⟨b0,b1,b2,b3,rfl⟩:∃b0 b1 b2 b3,U=[b0,b1,b2,b3]:=by
  have:=Paired.length pr;rcases U with _|⟨b0,_|⟨b1,_|⟨b2,_|⟨b3,_|⟨b4,U⟩⟩⟩⟩⟩
  ·cases this
  ·cases this
  ·cases this
  ·cases this
  ·exact⟨_,_,_,_,rfl⟩
  ·simp at this
 let A:Nat->Addr:=fun k=>[b0,b1,b2,b3].getD k 0
 have hA:∀k,k<4->H2 (A k)=some (.lst [])/\H1 (A k)=none:=fun k m=>by
  have g:[b0,b1,b2,b3][k]?=some (A k):=by
   rcases k with _|_|_|_|k
   ·rfl
   ·rfl
   ·rfl
   ·rfl
   ·omega
  obtain⟨l,hl,h⟩:=Paired.getL pr g;have:l=[]:=by
   have:=bX hl;simpa using this
  rw[this]at h;exact⟨h,fr _ (bX g)⟩
 have a9:∀i j,i<4->j<4->A i=A j->i=j:=fun i j hi G e=>by
  have l4:[b0,b1,b2,b3].length=4:=rfl;have g:∀k (h:k<4),A k=[b0,b1,b2,b3][k]:=fun k h=>by
   show[b0,b1,b2,b3].getD k 0=_;rw[List.getD_eq_getElem?_getD,iY (by omega)]
   rfl
  rw[g i hi,g j G]at e;have pw:=List.pairwise_iff_getElem.1 nd;rcases Nat.lt_trichotomy i j with h|h|h
  ·exact absurd e (pw i j (by omega) (by omega) h)
  ·exact h
  ·exact absurd e.symm (pw j i (by omega) (by omega) h)
 have S3:ab H2 (upd H2 v (.lst ([b0,b1,b2,b3].map V.ref))):=ab.new aC;have cd:upd H2 v (.lst ([b0,b1,b2,b3].map V.ref)) v=some (.lst [.ref (A 0),.ref (A 1),.ref (A 2),.ref (A 3)]):=aa;have bb:∀k,k<4->v≠A k:=fun k m=>(ae (hA k m).1 aC).symm;show au _ _ _ _ _;refine Hv (L:=xb) (by decide) (by decide) fun U H4 yl S4 py fy _ a0=>?_;have S5:ab H4 (upd H4 yl (.lst (U.map V.ref))):=ab.new a0;have bn:upd H4 yl (.lst (U.map V.ref)) yl=some (.lst (U.map V.ref)):=aa;generalize upd H4 yl (.lst (U.map V.ref))=H5 at S5 bn ⊢;have b5:=as.ex S2;have a4:=b5.ex S3;have b6:=(a4.ex S4).ex S5;have w5:=S5 _ _ (S4 _ _ (S3 _ _ (S2 _ _ bl)));have ce:=S5 _ _ (S4 _ _ cd);have A5:∀k,k<4->H5 (A k)=some (.lst []):=fun k m=>S5 _ _ (S4 _ _ (S3 _ _ (hA k m).1));have ch:Paired (fun a (l:List Int)=>H5 a=some (.lst (l.map V.int))) U xb:=Paired.mapP py fun _ _ r=>S5 _ _ r;have TA:TA4 p c A:=⟨fun k m=>(as.nep (hA k m).2).symm,fun k m=>(as.nec (hA k m).2).symm,a9⟩;have nw:wl≠p/\∀k,k<4->wl≠A k:=⟨as.ne_strs bl,fun k m=>ae bl (hA k m).2⟩;have N:v≠p/\∀k,k<4->v≠A k:=⟨(b5.nep aC).symm,bb⟩;have ci:yl≠p/\∀k,k<4->yl≠A k:=⟨((a4.ex S4).nep a0).symm,fun k m=>(ae (S4 _ _ (S3 _ _ (hA k m).1)) a0).symm⟩;have a5:∀a∈U,a≠p/\∀k,k<4->a≠A k:=fun a ha=>⟨(a4.nep (fy a ha)).symm,fun k m=>(ae (S3 _ _ (hA k m).1) (fy a ha)).symm⟩;have fA:∀k,k<4->H1 (A k)=none:=fun k m=>(hA k m).2;have cl:ab H1 H5:=S2.trans (S3.trans (S4.trans S5));clear hA nd fr pr a9 cd S2 S3 S4 S5 b5 a4 py fy a0 aC bb
 clear_value A
 refine⟨_,rfl,_,rfl,wl,_,rfl,ay.of w5,fun q hq=>?_⟩;have cm:gv (t.map V.str) none (some (8:Int))=(t.take 8).map V.str:=uz t 8;rw[cm];have S6:ab H5 (upd H5 q (.lst ((t.take 8).map V.str))):=ab.new hq;have q6:upd H5 q (.lst ((t.take 8).map V.str)) q=some (.lst ((t.take 8).map V.str)):=aa;refine⟨q,rfl,⟨_,ay.of aa⟩,?_⟩;generalize upd H5 q (.lst ((t.take 8).map V.str))=H6 at S6 q6 ⊢;have nq:q≠p/\∀k,k<4->q≠A k:=⟨(b6.nep hq).symm,fun k m=>(ae (A5 k m) hq).symm⟩;have T0:TW H6 p c A (fun _=>[]) H6:=⟨b6.ex S6,fun b o e _ _=>e,fun k m=>S6 _ _ (A5 k m)⟩;have w6:=S6 _ _ w5;have I:=S6 _ _ ce;have c4:=S6 _ _ bn;have c5:Paired (fun a (l:List Int)=>H6 a=some (.lst (l.map V.int))) U xb:=Paired.mapP ch fun _ _ r=>S6 _ _ r;have da:=cl.trans S6;clear cl S6 w5 ce bn ch hq b6 A5;have b7:=ok.1
 let zI:Nat->L2.St->Hp->Prop:=fun i σ H'=>Lf fun(S:Nat->List Str) (x5 Y:Option V)=>LM (σ=[some (.ref p),some (.int 0),some (.ref wl),some (.ref v),some (.ref yl),x5,Y]) (TW H6 p c A S H') (WI (t.take i) S)
 refine bw (xs:=(t.take 8).map V.str) zI ⟨_,_,_,rfl,T0,⟨fun _ _=>.nil,fun _ _=>c_ _,(fun _ _ w h=>by cases h),(fun _ _ _ w h=>by cases h)⟩⟩ (fun i σ H' _ zq=>by obtain⟨_,_,_,_,T,_⟩:=zq;exact ay.of (T.ex _ _ q6 nq.1 nq.2)) ?_ ?_
 ·rintro i x σ H7 hx ⟨S,x5,Y,rfl,T7,W7⟩;obtain⟨w,hw,rfl⟩:=bh hx;have i8:i<8:=by
   have:=(bM.1 hw).1;rw[aX]at this;omega
  have u:t[i]?=some w:=by rw[oH i8]at hw;exact hw
  have wn:w∉t.take i:=fun z=>by
   obtain⟨j,G⟩:=oq z;have jl:=(bM.1 G).1;rw[aX]at jl;rw[oH (by omega)]at G;have:=qP b7 G u;omega
  refine gN ⟨_,rfl,_,rfl,_,rfl,_,_,rfl,rfl,.inl ⟨by decide,by decide⟩,_,_,rfl,rfl,fG T7.pen (by decide) (by decide) fun r H8 r0 r1 db dc=>?_⟩;have T8:=T7.took TA db dc;obtain⟨n,rfl⟩:∃n:Nat,r=n:=⟨r.toNat,by omega⟩;have dd:n<13:=by
   have:(13:Int)+2 * 0=13:=by decide
   omega
  obtain⟨l,hl,di,l4,lc⟩:=Jx dd;obtain⟨yr,co,ya⟩:=Paired.get c5 hl;have a6:=bX co;refine⟨yl,_,n,_,rfl,rfl,ay.of (T8.ex _ _ c4 ci.1 ci.2),cn (by rw[cS,co];rfl),yr,rfl,⟨_,ay.of (T8.ex _ _ ya (a5 yr a6).1 (a5 yr a6).2)⟩,?_⟩
  let zJ:Nat->L2.St->Hp->Prop:=fun j σ H'=>GL fun(f:Nat->List Str) (Y:Option V)=>LM (σ=[some (.ref p),some (.int 0),some (.ref wl),some (.ref v),some (.ref yl),some (.str w),Y]) (TW H6 p c A f H') (MT S w (l.take j) f)
  refine bw (xs:=(l.map yd).map V.int) zJ ⟨S,_,rfl,T8,⟨fun k m=>.inl rfl⟩⟩ (fun i σ H' _ zq=>by obtain⟨_,_,_,T,_⟩:=zq;exact ay.of (T.ex _ _ ya (a5 yr a6).1 (a5 yr a6).2)) ?_ ?_
  ·rintro j y σ O hy ⟨f,Y,rfl,J,M9⟩;rw[cS,cS]at hy;obtain⟨y',dm,rfl⟩:=oh.1 hy;obtain⟨B,a7,rfl⟩:=oh.1 dm;have k4:=l4 B (bX a7);have kn:B∉l.take j:=fun z=>by
    obtain⟨j',b8⟩:=oq z;have jl:=(bM.1 b8).1;rw[aX]at jl;rw[oH (by omega)]at b8;obtain⟨a1,e1⟩:=bM.1 b8;obtain⟨a2,e2⟩:=bM.1 a7;exact List.pairwise_iff_getElem.1 di j' j a1 a2 (by omega) (e1.trans e2.symm)
   have eS:f B=S B:=(M9.at_ B k4).elim id fun z=>absurd z.1 kn;have C:=J.s B k4;have an:=J.ex _ _ I N.1 N.2;refine gN ⟨_,rfl,_,rfl,v,_,B,_,rfl,rfl,ay.of an,F4.ix k4,.inl ⟨A B,_,rfl,.inl (ay.of C),_,rfl,_,_,rfl,rfl,.inl ⟨by decide,by decide⟩,_,_,rfl,rfl,_,_,rfl,rfl,_,rfl,?_⟩⟩;have lS:=W7.len B k4;have ec:decide ((((f B).map V.str).length:Int)<2+2 * 0)=decide ((S B).length<2):=by rw[ai,eS];exact decide_eq_decide.2 (by omega)
   rw[ec];have b9:l.take (j+1)=l.take j++[B]:=by
    obtain⟨a1,e1⟩:=bM.1 a7;rw[List.take_succ,a7];rfl
   by_cases c2:(S B).length<2
   ·rw[zzr1 c2];refine bU ⟨_,rfl,_,rfl,v,_,B,_,rfl,rfl,ay.of an,F4.ix k4,.inl ⟨rfl,_,ay.of C⟩,_,rfl,A B,_,_,rfl,rfl,C,by rw[ai,eS];exact aq (by omega),Bk f B w,_,rfl,J.put TA k4 w,⟨fun k m=>?_⟩⟩;by_cases e:k=B
    ·subst e;refine .inr ⟨by rw[b9];exact cQ _ (cA.2 rfl),by rw[kH,eS],c2⟩
    ·rw[qF e,b9];exact(M9.at_ k m).imp id fun z=>⟨cu _ z.1,z.2⟩
   ·rw[zzr0 c2];refine bd ⟨f,_,rfl,J,⟨fun k m=>?_⟩⟩;rw[b9];exact(M9.at_ k m).imp id fun z=>⟨cu _ z.1,z.2⟩
  ·rintro σ O ⟨f,Y,rfl,J,M9⟩;rw[ai,ai,bp]at M9;refine⟨f,_,_,rfl,J,?_⟩;rw[take_snoc u];exact M9.wi W7 wn lc
 rintro σ H7 ⟨S,x5,Y,rfl,T7,W7⟩;have l8:((t.take 8).map V.str).length=8:=by rw[ai,aX,len];rfl
 rw[l8]at W7;refine⟨4,rfl,by decide,by decide,?_⟩
 let zR:Nat->L2.St->Hp->Prop:=fun i σ H'=>GL fun(S:Nat->List Str) (Y:Option V)=>Js (σ=[some (.ref p),some (.int 0),some (.ref wl),some (.ref v),some (.ref yl),x5,Y]) (TW H6 p c A S H') (WI (t.take (8+i)) S) (∀k,k<i->S k≠[])
 refine kP (lo:=0) (n:=4) zR ⟨S,_,rfl,T7,W7,fun k m=>by omega⟩ ?_ ?_
 ·rintro i σ H8 i4 ⟨f,dx,rfl,T8,D,N8⟩;have e0:(0:Int)+(i:Int)=(i:Int):=Int.zero_add _;rw[e0];have ca:=T8.ex _ _ I N.1 N.2;have dy:=T8.s i i4;refine gN ⟨_,rfl,_,rfl,v,_,i,_,rfl,rfl,ay.of ca,F4.ix i4,(by show 0<=ak;decide),fun e he=>?_⟩;have J:=T8.same (ab.new (o:=.lst []) he);have e9:upd H8 e (.lst []) e=some (.lst []):=aa;have C:upd H8 e (.lst []) (A i)=some (.lst ((f i).map V.str)):=J.s i i4;have an:upd H8 e (.lst []) v=_:=J.ex _ _ I N.1 N.2;have w9:upd H8 e (.lst []) wl=_:=J.ex _ _ w6 nw.1 nw.2;show kG K (.ref (A i)) (.ref e) (upd H8 e (.lst [])) _;generalize upd H8 e (.lst [])=O at J e9 C an w9 ⊢;refine⟨.s ((f i).map dh),.s [],vJ (ay.of C),Ae (ay.of e9),by show DT.depths ((f i).map dh)+1<=8;rw[f8];decide,by decide,_,rfl,?_⟩;have ec:decide (DT.s ((f i).map dh)=DT.s [])=decide (f i=[]):=decide_eq_decide.2 ⟨fun z=>by injection z with z;exact gD (y:=[]) z,fun z=>by rw[z];rfl⟩;rw[ec];have u:t[8+i]?=some t[8+i]:=iY (by omega);have wn:t[8+i]∉t.take (8+i):=fun z=>by
   obtain⟨j,G⟩:=oq z;have jl:=(bM.1 G).1;rw[aX]at jl;rw[oH (by omega)]at G;have:=qP b7 G u;omega
  have cq:t.take (8+(i+1))=t.take (8+i)++[t[8+i]]:=take_snoc u;by_cases c:f i=[]
  ·rw[zzr1 c];refine bU ⟨_,rfl,_,rfl,v,_,i,_,rfl,rfl,ay.of an,F4.ix i4,.inl ⟨rfl,_,ay.of C⟩,_,rfl,_,rfl,_,_,rfl,rfl,wl,_,((8+i:Nat):Int),_,rfl,by simp,ay.of w9,cn (by rw[cS,u];rfl),A i,_,_,rfl,rfl,C,by rw[c];decide,Bk f i t[8+i],_,rfl,J.put TA i4 _,?_,fun k m=>?_⟩
   ·rw[cq];refine MT.wi (S0:=f) (l:=[i]) ⟨fun k m=>?_⟩ D wn fun a b cc z=>?_
    ·by_cases e:k=i
     ·subst e;exact .inr ⟨cA.2 rfl,kH,by rw[c];decide⟩
     ·exact .inl (qF e)
    ·exact(IZ cc).2.2 ((cA.1 z.1).trans (cA.1 z.2).symm)
   ·by_cases e:k=i
    ·subst e;rw[kH];simp
    ·rw[qF e];exact N8 k (by omega)
  ·rw[zzr0 c];refine bd ⟨f,_,rfl,J,⟨D.nd,D.len,fun k m w hw=>?_,D.ap⟩,fun k m=>?_⟩
   ·rw[cq];exact cu _ (D.sub k m w hw)
   ·by_cases e:k=i
    ·subst e;exact c
    ·exact N8 k (by omega)
 clear W7 T7 Y;rintro σ H8 ⟨f,Y,rfl,T8,D,N8⟩;clear S;have ca:=T8.ex _ _ I N.1 N.2;have F8:F4 H8 v A f:=⟨ca,T8.s⟩;have cs:∀(a8:Nat->List Str) (O:Hp),TW H6 p c A a8 O->EU a8->Q (.ref v) O:=fun a8 O T W=>by
  refine k v A a8 O ⟨T.ex _ _ I N.1 N.2,T.s⟩ W T.pen fun b o e n=>?_;have e1:=c3 _ _ e n;exact T.ex _ _ (da _ _ e1) n fun k m=>ae e1 (fA k m)
 have names:∀k,k<4->iJ (f k):=fun k m=>⟨D.nd k m,fun w hw=>ok.2 w (jw (D.sub k m w hw))⟩;have l0:=D.len 0 (by decide);have l1:=D.len 1 (by decide);have l2:=D.len 2 (by decide);have l3:=D.len 3 (by decide);refine⟨_,rfl,rfl,_,rfl,bU ?_⟩;refine⟨_,rfl,v,A,f,rfl,F8,fun k m=>bI (D.len k m) (by decide),fun al O dn _ S9=>⟨(by show 0<=ak;decide),fun e he=>?_⟩⟩;have M:=(T8.same S9).same (ab.new (o:=.lst []) he);have ct:upd O e (.lst []) e=some (.lst []):=aa;have bi:upd O e (.lst []) al=some (.lst ((dQ (f 0) (f 1) (f 2) (f 3)).map V.str)):=ab.new he _ _ dn;show kG K (.ref al) (.ref e) (upd O e (.lst [])) _;generalize upd O e (.lst [])=dp at M ct bi ⊢;refine⟨.s ((dQ (f 0) (f 1) (f 2) (f 3)).map dh),.s [],vJ (ay.of bi),Ae (ay.of ct),by show DT.depths (List.map dh _)+1<=8;rw[f8];decide,by decide,_,rfl,?_⟩;have ec:decide (DT.s ((dQ (f 0) (f 1) (f 2) (f 3)).map dh)=DT.s [])=decide (dQ (f 0) (f 1) (f 2) (f 3)=[]):=decide_eq_decide.2 ⟨fun z=>by injection z with z;exact gD (y:=[]) z,fun z=>by rw[z];rfl⟩;rw[ec];by_cases c:dQ (f 0) (f 1) (f 2) (f 3)=[]
 ·rw[zzr1 c];have cL:=M.ex _ _ I N.1 N.2;have dr:=M.ex _ _ w6 nw.1 nw.2;have h0:=M.s 0 (by decide);have u:t[12]?=some t[12]:=iY (by omega);have wn:∀k,k<4->t[12]∉f k:=fun k m z=>by
   obtain⟨j,G⟩:=oq (D.sub k m _ z);have jl:=(bM.1 G).1;rw[aX]at jl;rw[oH (by omega)]at G;have:=qP b7 G u;omega
  refine bU ⟨_,rfl,v,_,0,_,rfl,rfl,ay.of cL,F4.ix (k:=0) (by decide),.inl ⟨rfl,_,ay.of h0⟩,_,rfl,wl,_,((12:Nat):Int),_,rfl,rfl,ay.of dr,cn (by rw[cS,u];rfl),A 0,_,_,rfl,rfl,h0,by rw[ai];exact aq (by omega),_,rfl,cs (Bk f 0 t[12]) _ (M.put TA (by decide) _) ?_⟩;generalize t[12]=w at wn u;have ds:=bX u;have p0:Bk f 0 w 0=f 0++[w]:=kH;have pn:∀k,k≠0->Bk f 0 w k=f k:=fun k m=>qF m;have p1:=pn 1 (by decide);have p2:=pn 2 (by decide);have p3:=pn 3 (by decide);have eW:aM (f 0++[w]) (f 1) (f 2) (f 3)=aM (f 0) (f 1) (f 2) (f 3):=by
   unfold aM;congr 1;refine om fun x hx=>decide_eq_decide.2 ⟨fun z=>?_,fun z=>cu _ z⟩;rcases bf.1 z with z|z
   ·exact z
   ·rw[cA.1 z]at hx;exact absurd hx (wn 3 (by decide))
  have dt:w∉aM (f 0) (f 1) (f 2) (f 3):=fun z=>by
   rcases cY.1 z with z|z
   ·exact wn 1 (by decide) z.1
   ·exact wn 3 (by decide) z.1
  have eJ:dQ (f 0++[w]) (f 1) (f 2) (f 3)=[w]:=by
   unfold dQ at c ⊢;rw[eW,d_,gQ,gQ];rw[gQ]at c;obtain⟨c1,c2⟩:=List.append_eq_nil_iff.1 c;rw[c1,c2];show[w].filter _++[]=[w];rw[dS,rh,if_pos (by rw[zzr0 dt];rfl)]
   rfl
  refine⟨fun k m=>?_,fun k m=>?_,?_,?_,?_,?_,fun i j cc x hx=>?_,?_,?_⟩
  ·by_cases e:k=0
   ·subst e;rw[p0];refine⟨dk.2 ⟨D.nd 0 m,jA.2 ⟨by simp,.nil⟩,fun a ha b hb z=>?_⟩,fun x hx=>?_⟩
    ·rw[cA.1 hb]at z;exact wn 0 m (z▸ha)
    ·rcases bf.1 hx with z|z
     ·exact(names 0 m).2 x z
     ·rw[cA.1 z];exact ok.2 w ds
   ·rw[pn k e];exact names k m
  ·by_cases e:k=0
   ·subst e;rw[p0];simp
   ·rw[pn k e];exact N8 k m
  ·rw[p0,aA];show _+1<=3;omega
  ·rw[p1];exact l1
  ·rw[p2];exact l2
  ·rw[p3];exact l3
  ·obtain⟨hi,G,ne⟩:=IZ cc;have c0:=D.ap i j cc;by_cases e:i=0
   ·subst e;rw[p0]at hx;rw[pn j (fun z=>ne z.symm)];rcases bf.1 hx with z|z
    ·exact c0 x z
    ·rw[cA.1 z];exact wn j G
   ·rw[pn i e]at hx;have:j≠0:=fun z=>by
     subst z;have:=of_decide_eq_true cc;simp at this
    rw[pn j this];exact c0 x hx
  ·rw[p0,p1,p2,p3,eJ];simp
  ·rw[p0,p1,p2,p3,eJ];show 1<=4;decide
 ·rw[zzr0 c];refine bd ⟨_,rfl,cs f dp M ⟨names,N8,by omega,l1,l2,l3,D.ap,c,?_⟩⟩;unfold dQ;exact bI (b_ _ _) (by rw[aA];omega)
inductive ug(vs:List V)(H:Hp)(Q:VK)(E:XK):Prop
 |mk (p c l1 l2:Addr) (J0 J2:Zb) (most:Int):(vs=[.ref p,.ref l1,.ref l2,.int most])->(gM H p c)->(H l1=some (.lst (J0.map V.str)))->(H l2=some (.lst (J2.map V.str)))->(iJ J0)->(iJ J2)->((∀w∈J2,w∉J0))->(J0≠[])->(J2≠[])->(J0.length<=3)->(J2.length<=4)->(0<most)->(most<=3) ->
  (∀(t l3 l4:Addr) (ts:Ze) (rooms:Zb) (ds:List ah) (H':Hp),gK H' t l1 l2 l3 l4 ts J0 J2 rooms ds->ax J0 J2 rooms ds->rooms.length<=3->ds.length<=9 * rooms.length->gM H' p c->dZ p H H'->Q (.ref t) H')->ug vs H Q E
theorem JQ{K:Za}{Y:List V}{H:Hp}{Q:VK}{E:XK}(h:ug Y H Q E):Cq K qo gb my (bN Q) (start DF Y) H:=by
 obtain⟨p,c,l1,l2,J0,J2,al,rfl,y,h1,h2,A,B,apart,a0,s0,a3,s4,m0,m3,k⟩:=h;refine⟨_,rfl,_,rfl,_,rfl,fG y m0 (by omega) fun r H1 r0 r1 C D=>?_⟩;obtain⟨rn,rfl⟩:=kS r0;refine⟨_,_,rfl,rfl,p,c,1+rn,rfl,C,by omega,fun G rooms H2 m j an u a I=>?_⟩;have J:=D.trans I;have v:=J _ _ h1 (y.ne_strs h1);have w:=J _ _ h2 (y.ne_strs h2);have x:rooms≠[]:=fun z=>by rw[z]at j;rw[mn]at j;omega
 refine⟨_,rfl,_,rfl,_,rfl,_,rfl,_,rfl,fG a (by decide) (by decide) fun f H3 f0 f1 e g=>?_⟩;have e3:=J.trans g;have n:=g _ _ v (a.ne_strs v);have o:=g _ _ w (a.ne_strs w);have q:=g _ _ u (a.ne_strs u);refine⟨p,c,l1,l2,G,J0,J2,rooms,f,rfl,e,n,o,q,a3,s0,s4,x,by omega,f0,by omega,fun l4 ts ds up H4 _ L M nd l few N i=>?_⟩;have e4:=e3.trans i;have O:=i _ _ n (e.ne_strs n);have T:=i _ _ o (e.ne_strs o);have U:=i _ _ q (e.ne_strs q);refine⟨_,rfl,_,rfl,_,rfl,_,rfl,(by show 4<=ak;decide),fun t ht=>?_⟩;have s:ab H4 (upd H4 t (.tup [.ref l1,.ref l2,.ref G,.ref l4])):=ab.new ht;refine k t G l4 ts rooms ds _ ⟨aa,s _ _ O,s _ _ T,s _ _ U,s _ _ L,M.kt (ab.kt s)⟩ ⟨A,B,apart,m,a0,s0,x,by omega,s4,by omega,nd,fun d hd=>(l d hd).d,by omega,fun r h=>(G_ m.1 l h).irr m.1⟩ (by omega) few (N.ex s) (e4.trans (dZ.new ht))
inductive ue(vs:List V)(H:Hp)(Q:VK)(E:XK):Prop
 |mk (p c:Addr):(vs=[.ref p,.int 3,.int 3])->(gM H p c) ->
  (∀(l t l1 l2 l3 l4 t' l1' l2' l3' l4':Addr) (ts ts':Ze) (J0 J2 rooms asks' says' rooms':Zb) (ds ds':List ah) (H':Hp),H' l=some (.lst [.ref t,.ref t'])->gK H' t l1 l2 l3 l4 ts J0 J2 rooms ds->gK H' t' l1' l2' l3' l4' ts' asks' says' rooms' ds'->ax J0 J2 rooms ds->ax asks' says' rooms' ds'->(∀r∈rooms,∀a∈J0,gJ ds r a)->(∀r∈rooms',∀a∈asks',gJ ds' r a)->JoinOk J0 J2 rooms asks' says' rooms' ds ds'->rooms.length<=3->rooms'.length<=3->gM H' p c->dZ p H H'->Q (.ref l) H')->ue vs H Q E
theorem JL{K:Za}{vs:List V}{H:Hp}{Q:VK}{E:XK}(h:ue vs H Q E):rQ K kZ ug ud (bN Q) (start sG vs) H:=by
 obtain⟨p,c,rfl,D,k⟩:=h;refine⟨_,rfl,p,c,rfl,D,fun m A S H1 F W e G=>?_⟩;have B:(0:Nat)<4:=by decide
 have C:(1:Nat)<4:=by decide
 have n:(2:Nat)<4:=by decide
 have o:(3:Nat)<4:=by decide
 have l0:=W.l0;have l1:=W.l1;have l2:=W.l2;have l3:=W.l3;have j:∀{H:Hp},gM H p c->H m=some (.lst [.ref (A 0),.ref (A 1),.ref (A 2),.ref (A 3)])->m≠p:=fun D h=>D.ne_refs (ts:=[A 0,A 1,A 2,A 3]) h;refine⟨_,rfl,_,rfl,_,rfl,.inl ⟨m,_,0,_,rfl,rfl,ay.of F.l,F4.ix (k:=0) B,_,rfl,.inl ⟨m,_,1,_,rfl,rfl,ay.of F.l,F4.ix (k:=1) C,_,rfl,?_⟩⟩⟩;refine⟨p,c,A 0,A 1,S 0,S 1,3,rfl,e,F.s 0 B,F.s 1 C,W.ok 0 B,W.ok 1 C,fun w I z=>W.ap 0 1 (by decide) w z I,W.ne 0 B,W.ne 1 C,l0,by omega,by decide,by decide,fun t a3 a4 ts rooms ds H2 T2 m2 r3 a6 g f=>?_⟩;refine⟨p,c,t,A 0,A 1,a3,a4,ts,S 0,S 1,rooms,ds,rfl,g,T2,m2,by omega,by omega,fun t1 b4 us J H3 T3 m3 tk a7 q i=>?_⟩;have r:=i _ _ (f _ _ F.l (j e F.l)) (j g (f _ _ F.l (j e F.l)));have s2:=f _ _ (F.s 2 n) (e.ne_strs (F.s 2 n));have s3:=f _ _ (F.s 3 o) (e.ne_strs (F.s 3 o));have L:=i _ _ s2 (g.ne_strs s2);have M:=i _ _ s3 (g.ne_strs s3);refine⟨_,rfl,_,rfl,_,rfl,.inl ⟨m,_,2,_,rfl,rfl,ay.of r,F4.ix (k:=2) n,_,rfl,.inl ⟨m,_,3,_,rfl,rfl,ay.of r,F4.ix (k:=3) o,_,rfl,?_⟩⟩⟩;refine⟨p,c,A 2,A 3,S 2,S 3,3,rfl,q,L,M,W.ok 2 n,W.ok 3 o,fun w I z=>W.ap 2 3 (by decide) w z I,W.ne 2 n,W.ne 3 o,by omega,by omega,by decide,by decide,fun t' u N O a T H4 T4 m4 U a8 v x=>?_⟩;refine⟨p,c,t',A 2,A 3,u,N,O,S 2,S 3,a,T,rfl,v,T4,m4,by omega,by omega,fun t2 Y al an H5 T5 m5 as a9 aC y=>?_⟩;have a5:=(T3.ex q x).ex v y;refine⟨_,rfl,_,rfl,(by show 2<=ak;decide),fun l hl=>?_⟩;have S6:ab H5 (upd H5 l (.lst [.ref t1,.ref t2])):=ab.new hl;refine k l t1 (A 0) (A 1) a3 b4 t2 (A 2) (A 3) u Y us al (S 0) (S 1) rooms (S 2) (S 3) a J an _ aa (a5.same S6) (T5.same S6) m3 m5 tk as ⟨by omega,by omega,by omega,by omega,W.ap 0 2 (by decide),W.ap 1 3 (by decide),W.a0,W.a4,by rw[aA];omega⟩ r3 U (aC.ex S6) (((((G.trans f).trans i).trans x).trans y).trans (dZ.new hl))
theorem Gg{w:List ah}{i:Nat}{d:ah}(h:w[i]?=some d):dw (w.take (i+1))=dw (w.take i)++(if(!decide (d.sg=ao))=true then[d.sg]else[]):=by
 unfold dw;rw[take_snoc h,gQ,ar];by_cases c:(!decide (d.sg=ao))=true
 ·rw[if_pos c];simp only[List.filter,c];rfl
 ·rw[if_neg c];simp only[List.filter,Bool.not_eq_true _▸c];rfl
theorem Jk.dIn{K:Za}{H:Hp}{t:Addr}{d:ah}(h:Jk K H t d):iK K H (vK d) (.ref t):=by
 obtain⟨s,a,e⟩:=h;unfold vK;unfold iK;refine⟨t,_,rfl,br.of a,?_⟩;unfold DIns;refine⟨_,_,rfl,mM _,?_⟩;unfold DIns;refine⟨_,_,rfl,aW (bV.sq e),?_⟩;unfold DIns;refine⟨_,_,rfl,mM _,?_⟩;unfold DIns
 rfl
theorem sD.dIns{K:Za}{H:Hp}:∀{a:Ze}{s:List Sg},sD K H a s->DIns K H (s.map fT) (a.map V.ref)
 |_,_,.nil=>by show DIns K H [] [];unfold DIns;rfl
 |_,_,.cons r t=>by
  rw[bL,bL];unfold DIns;exact⟨_,_,rfl,aW (bV.sq r),sD.dIns t⟩
theorem Hr{K:Za}{H:Hp}{l:Addr}{a:Ze}{s:List Sg}(h:H l=some (.lst (a.map V.ref)))(r:sD K H a s):iK K H (.s (s.map fT)) (.ref l):=by
 unfold iK;exact⟨l,_,rfl,ay.of h,sD.dIns r⟩
theorem Dm(w:List ah):(dw w).length<=w.length:=by unfold dw;rw[ai];exact b_ _ _
inductive kD(K:Za)(vs:List V)(H:Hp)(Q:VK)(E:XK):Prop
 |mk (t st l1 l2 l3 l4:Addr) (ts us:Ze) (story:List Sg) (J0 J2 rooms:Zb) (ds:List ah):(vs=[.ref t,.ref st])->(gK H t l1 l2 l3 l4 ts J0 J2 rooms ds)->(ax J0 J2 rooms ds)->(H st=some (.lst (us.map V.ref)))->(sD K H us story)->(∀(t':Addr) (H':Hp),H' t'=some (.tup ((faceOf rooms ds story).map V.str))->ab H H'->Q (.ref t') H')->kD K vs H Q E
theorem FD{K:Za}{w:List V}{H:Hp}{Q:VK}{E:XK}(h:kD K w H Q E):Ct K (vk K) Bb (bN Q) (start DH w) H:=by
 obtain⟨t,st,x,z,j,A,B,N,a,C,D,rooms,ds,rfl,T,m,e,G,k⟩:=h;have z3:=m.rooms26;have O:gv (rooms.map V.str) none (some 1)=(rooms.take 1).map V.str:=uz rooms 1;refine⟨_,rfl,_,rfl,.inr (.inl ⟨t,_,2,_,rfl,rfl,br.of T.t,rfl,_,rfl,.inl ⟨j,_,rfl,ay.of T.a3,fun I l=>?_⟩⟩)⟩;rw[O];have J:ab H (upd H I (.lst ((rooms.take 1).map V.str))):=ab.new l;refine⟨t,I,x,z,j,A,B,C,D,rooms,rooms.take 1,ds,rfl,T.same J,m,aa,by rw[aX];omega,fun U H1 n o=>?_⟩;have L:=J.trans o;refine⟨_,rfl,st,rfl,⟨_,ay.of (L _ _ e)⟩,?_⟩;refine bw (xs:=N.map V.ref) (fun i σ p=>GL fun(f:Addr) (q:Option V)=>LM (σ=[some (.ref t),some (.ref st),some (.ref f),q]) (p f=some (.tup ((faceOf rooms ds (a.take i)).map V.str))) (ab H p))
  ⟨U,_,rfl,n,L⟩ (fun i σ p _ Y=>by obtain⟨_,_,_,_,S⟩:=Y;exact ay.of (S _ _ e)) ?_ ?_
 ·rintro i y σ M hi ⟨f,q,rfl,hf,g⟩;obtain⟨u,hu,rfl⟩:=cg hi;obtain⟨sg,r,s⟩:=Paired.getL G hu;obtain⟨o1,o2⟩:=nE (ds:=ds) (show rooms.length<=1000 by omega) (a.take i);refine⟨_,rfl,_,rfl,_,rfl,t,f,u,x,z,j,A,B,C,D,rooms,_,sg,ds,rfl,T.same g,m,hf,bV.sq (bV.kt (ab.kt g) s),o2,fun f' H3 v S3=>⟨f',_,rfl,?_,g.trans S3⟩⟩;rw[take_snoc r,gF];exact v
 ·rintro σ M ⟨f,q,rfl,hf,g⟩;rw[ai,Paired.length G,bp]at hf;exact⟨_,rfl,k f M hf g⟩
inductive m9(K:Za)(vs:List V)(H:Hp)(Q:VK)(E:XK):Prop
 |mk (t wl l1 l2 l3 l4:Addr) (ts us:Ze) (w:List ah) (J0 J2 rooms:Zb) (ds:List ah):(vs=[.ref t,.ref wl])->(gK H t l1 l2 l3 l4 ts J0 J2 rooms ds)->(ax J0 J2 rooms ds)->(H wl=some (.lst (us.map V.ref)))->(Paired (Jk K H) us w)->(Jp ds (dJ rooms) w=true)->(∀H',ab H H'->Q (.bl true) H')->m9 K vs H Q E
theorem Em(a b:Str):decide (V.str a=V.str b)=decide (a=b):=decide_eq_decide.2 ⟨fun z=>by injection z,fun z=>by rw[z]⟩
theorem FF{K:Za}{vs:List V}{H:Hp}{Q:VK}{E:XK}(h:m9 K vs H Q E):wv K kC (bN Q) (start wX vs) H:=by
 obtain⟨t,J,l1,l2,N,O,ts,us,w,J0,J2,rooms,l,rfl,T,m,B,U,gw,k⟩:=h;obtain⟨f1,f2⟩:=m.first;refine⟨_,rfl,t,_,2,.ref N,rfl,rfl,br.of T.t,rfl,N,_,0,_,rfl,rfl,ay.of T.a3,cn (j:=0) (by rw[cS,f1];rfl),?_⟩;refine⟨_,rfl,J,rfl,⟨_,ay.of B⟩,?_⟩
 let f:Nat->L2.St->Hp->Prop:=fun i σ q=>GL fun(r:Str) (Y:Option V)=>LM (σ=[some (.ref t),some (.ref J),some (.str r),Y]) (Jp l r (w.drop i)=true) (ab H q)
 refine bw (xs:=us.map V.ref) f ⟨_,_,rfl,gw,ab.refl _⟩ (fun i σ q _ zq=>by obtain⟨_,_,_,_,S⟩:=zq;exact ay.of (S _ _ B)) ?_ ?_
 ·rintro i y σ v hi ⟨r,Y,rfl,hg,x⟩;obtain⟨u,hu,rfl⟩:=cg hi;obtain⟨d,hd,C⟩:=Paired.getL U hu;have al:=C.kt (ab.kt x);obtain⟨s,e,hs⟩:=C.kt (ab.kt x);have ed:w.drop i=d::w.drop (i+1):=by
   obtain⟨h1,h2⟩:=bM.1 hd;rw[ox h1,h2]
  rw[ed]at hg;have D:(decide (d.a=r) && ((if d.sg=az then decide (d.b=r) && decide (r∉c8 l)else decide (d∈l)) && Jp l d.b (w.drop (i+1))))=true:=hg
  rw[iZ,iZ]at D;obtain⟨g1,L,g3⟩:=D;refine⟨_,rfl,.ref u,"tuple",_,true,rfl,.inl (jN.tup e),rfl,_,rfl,bd ?_⟩;refine⟨_,rfl,.inl ⟨u,_,rfl,.inr (br.of e),rfl,_,rfl,?_⟩⟩;refine ifQ (P:=False) (by simp) (fun z=>z.elim) fun _=>?_;refine⟨_,rfl,u,_,0,_,rfl,rfl,br.of e,rfl,_,rfl,rfl,_,rfl,?_⟩;rw[Em,g1];refine bd ?_;refine⟨_,rfl,u,_,1,_,rfl,rfl,br.of e,rfl,(by show 1<=ak;decide),fun p G=>⟨fT d.sg,fT az,aW (bV.sq (bV.kt (ab.kt (ab.new G)) hs)),aW (br.of aa),MP _,MP _,_,rfl,?_⟩⟩;rw[eI];have I:ab v (upd v p (.tup [.str "hush"])):=ab.new G;generalize upd v p (.tup [.str "hush"])=H3 at I ⊢;have g:∀o,ab v o->(d.sg≠az->d∈l)->(au (cJ (nQ (aS (aD (tU K) (aD (jg K) V3 (tC (.int 1))) (bP (aB (tC (.str "hush")))))) (aS (aD (ii K true) V3 (aD (jg K) V0 (tC (.int 3)))))) (bo (tC (.bl false))) (bB))
    (aT (aD (jg K) V3 (tC (.int 2))) U2)) { nx:=f (i+1),ct:=f (i+1),bk:=fun σ q=>Q (.bl true) q,rt:=Q } [some (.ref t),some (.ref J),some (.str r),some (.ref u)] o:=by
   intro o A an;have e4:=A _ _ e;have ap:=x.trans A;refine⟨_,rfl,u,_,1,_,rfl,rfl,br.of e4,rfl,(by show 1<=ak;decide),fun p G=>⟨fT d.sg,fT az,aW (bV.sq (bV.kt (ab.kt (A.trans (ab.new G))) hs)),aW (br.of aa),MP _,MP _,_,rfl,?_⟩⟩;rw[eI];have M:ab o (upd o p (.tup [.str "hush"])):=ab.new G;generalize upd o p (.tup [.str "hush"])=H5 at M ⊢;have as:=A.trans M;have n:=ap.trans M;have nx:(aT (aD (jg K) V3 (tC (.int 2))) U2) { nx:=f (i+1),ct:=f (i+1),bk:=fun σ q=>Q (.bl true) q,rt:=Q } [some (.ref t),some (.ref J),some (.str r),some (.ref u)] H5:=⟨_,rfl,u,_,2,_,rfl,rfl,br.of (M _ _ e4),rfl,_,_,rfl,g3,n⟩;by_cases c:d.sg=az
   ·rw[zzr1 c];exact bd (bd nx)
   ·rw[zzr0 c];refine bU ?_;refine⟨_,rfl,_,rfl,t,_,3,.ref O,rfl,rfl,br.of (n _ _ T.t),rfl,vK d,l.map vK,O,_,(al.kt (ab.kt as)).dIn,rfl,.inl (ay.of (n _ _ T.a4)),dg.dIns (T.same n).ds,by rw[uv];decide,xK _,_,rfl,?_⟩;rw[if_pos rfl,show decide (vK d∈l.map vK)=decide (d∈l)from by rw[pO,decide_eq_true_iff,decide_eq_true_iff];exact zU,zzr1 (an c)];exact bd nx
  by_cases c:d.sg=az
  ·rw[zzr1 c];rw[if_pos c,iZ]at L;obtain⟨b1,b2⟩:=L;refine bU ⟨_,rfl,u,_,2,_,rfl,rfl,br.of (I _ _ e),rfl,_,rfl,rfl,_,rfl,?_⟩;rw[Em,b1];refine bd ⟨_,rfl,_,rfl,t,l1,l2,N,O,ts,J0,J2,rooms,l,r,rfl,T.same (x.trans I),m,fun o A=>⟨_,rfl,?_⟩⟩;rw[b2];exact bd (g o (I.trans A) fun z=>absurd c z)
  ·rw[zzr0 c];rw[if_neg c]at L;exact bd (bd (g H3 I fun _=>of_decide_eq_true L))
 ·rintro σ v ⟨r,Y,rfl,hg,x⟩;exact k v x
theorem wL{K:Za}{C J:Addr}(u:∀H,br K H J (az.map V.str)){v:Sp}{L:List V}{H:Hp}{Q:VK}{E:XK}(h:qk C L H Q E):
  nW K (sp_with_still C) C (eV K C) J v (bN Q) (start n5 L) H:=by
 obtain⟨x,t,s,face,f,N,O,rooms,e,rfl,M,T,U,z,hz,k⟩:=h;have A:∀d∈e,d.b∈rooms:=fun d hd=>(M.ok.good d hd).b;have z4:=M.ok.few;refine⟨_,rfl,fT f,fT az,aW (br.of U),aW (u _),by rw[bz];decide,by rw[bz];decide,_,rfl,?_⟩;rw[eI,zzr0 z];refine bd ?_;refine⟨(by show 0<=ak;decide),fun g B=>?_⟩;refine⟨_,rfl,t,rfl,⟨_,br.of (kp T B)⟩,?_⟩
 let D:Nat->L2.St->Hp->Prop:=fun i σ m=>∃G:Option V,σ=[some (.ref x),some (.ref t),some (.ref s),some (.ref g),G]/\m g=some (.lst ((cV e f (face.take i)).map V.str))/\ab H m
 refine EI (xs:=face.map V.str) D
  ⟨_,rfl,aa,ab.new B⟩ (fun i σ m _ zq=>by obtain⟨_,_,_,S⟩:=zq;exact br.of (S _ _ T)) ?_ ?_
 ·rintro i y σ H1 hi ⟨G,rfl,a,j⟩;obtain⟨r,hr,rfl⟩:=bh hi;have Y:=M.same j;obtain⟨dx,fs,o1,o2,o3,o4,lv,qu,al,sl,ts,an,ap,as,g1,a1,a2,a3,a4,_⟩:=Y.at_;refine⟨_,rfl,.inl ⟨rfl,_,ay.of a⟩,_,rfl,x,dx,fs,rfl,g1,a2,_,rfl,_,rfl,x,s,r,f,N,O,rooms,e,rfl,Y,br.of (j _ _ U),fun l H2 hl fr p=>?_⟩;have I:=p _ _ a;have n:((cV e f (face.take i)).map V.str).length+((aF e (r,f)).map V.str).length<=ak:=by
   rw[ai,ai];have h1:=qO e f (face.take i);have h2:=tz e (r,f);have h3:(face.take i).length * e.length<=1000 * 1000:=rg (by rw[aX];omega) z4;have:(1001000:Nat)<=ak:=by decide
   omega
  refine⟨g,l,_,_,rfl,rfl,I,hl,n,_,rfl,?_,?_⟩
  ·rw[aa,wR hr,ar]
  ·intro b o q;rw[aj (ae q B)];exact p _ _ (j _ _ q)
 ·rintro σ H1 ⟨G,rfl,a,j⟩;rw[ai,bp]at a;refine⟨_,rfl,_,rfl,x,g,cV e f face,N,O,rooms,e,rfl,M.same j,a,fun w hw=>?_,fun t' F m h1 h2 p=>k t' F m h1 h2 (j.trans p)⟩;obtain⟨r,_,h⟩:=cj.mp hw;exact A _ h
theorem HJ{K:Za}{C D:Addr}(g:∀H,br K H D (az.map V.str)){a:List V}{H:Hp}{Q:VK}{E:XK}(h:uj K C a H Q E):
  nW K (sp_with_still C) C (eV K C) D (iS C) (bN Q) (start n5 a) H:=by
 obtain⟨x,t,s,face,G,I,J,rooms,n,rfl,M,u,O,v,j,T,k⟩:=h;by_cases p:G=az;rotate_left
 ·refine wL (E:=E) g ⟨x,t,s,face,G,I,J,rooms,n,rfl,M,u,v.resolve_left p,p,T,fun w F e U Y S=>k w e ?_ S⟩;rw[U,vT Y];unfold behF;rw[if_neg p]
 subst p;refine⟨_,rfl,fT az,fT az,aW O,aW (g _),by rw[bz];decide,by rw[bz];decide,_,rfl,?_⟩;rw[zzr1 rfl];refine bU ?_;refine⟨_,rfl,t,rfl,⟨_,br.of u⟩,fun f hf=>?_⟩
 let y:Nat->List V->Hp->Prop:=fun i a e=>a=((face.take i).filter fun r=>decide (r∈rooms.filter (eg n))).map V.str/\ab H e/\e f=some (.lst a)
 refine BK (xs:=face.map V.str) y ⟨rfl,ab.new hf,aa⟩ (fun i a e _ zq=>by obtain⟨_,S,h'⟩:=zq;exact⟨h',br.of (S _ _ u)⟩) ?_ ?_
 ·rintro a e ⟨rfl,S,l⟩;rw[ai,bp]at l;refine⟨f,_,rfl,.inl ⟨ay.of l,fun w z=>k w _ ?_ (S.trans (ab.new z))⟩⟩;rw[aa,H_ j];unfold behF;rw[if_pos rfl]
 ·rintro i a e x' A hi ⟨rfl,S,l⟩;obtain⟨r,L,rfl⟩:=bh A;have N:=M.same S;obtain⟨dx,fs,o1,o2,o3,o4,lv,qu,al,sl,ts,an,ap,as,g1,a1,_⟩:=N.at_;refine gN ?_;refine⟨_,rfl,x,dx,fs,rfl,g1,a1,_,rfl,x,r,I,J,rooms,n,rfl,N,_,rfl,?_⟩;have m:(((face.take i).filter fun r=>decide (r∈rooms.filter (eg n))).map V.str).length<ak:=by
   rw[ai];refine aq (bI (b_ _ _) ?_);rw[aX];omega
  refine l6 (fun B=>?_) (fun B=>?_)
  ·refine⟨_,rfl,l,m,kL hi ⟨?_,?_,aa⟩⟩
   ·rw[dB L,if_pos B,ar];rfl
   ·intro b o q;rw[aj (ae q hf)];exact S _ _ q
  ·refine kL hi ⟨?_,S,l⟩;rw[dB L,if_neg B,dS]
theorem Fy{K:Za}{C:Addr}{f:List V}{H:Hp}{Q:VK}{E:XK}(h:sp_takes C f H Q E):JC K C (iR C) (eV K C) (bN Q) (start KG f) H:=by
 obtain⟨x,r,a,J0,J2,rooms,p,rfl,M,hr,k⟩:=h;refine⟨_,rfl,(by show 1<=ak;decide),fun l t=>?_⟩;have u:ab H (upd H l (.lst [.str r])):=ab.new t;have e1:upd H l (.lst [.str r]) l=some (.lst [.str r]):=aa;generalize upd H l (.lst [.str r])=H1 at u e1 ⊢;have M1:=M.same u;obtain⟨v,fs,o1,o2,o3,o4,lv,qu,z,sl,ts,A,B,D,G,a1,a2,a3,a4,_⟩:=id M1.at_;refine⟨_,rfl,x,v,fs,rfl,G,a3,_,rfl,x,r,J0,J2,rooms,p,rfl,M1,hr,fun l2 L I e2 nd hL _ S2=>?_⟩;have J:∀w∈L,w∈rooms:=fun w N=>((hL w).mp N).in_ fun d hd=>(M.ok.good d hd).b;have zL:=jH nd J;have z3:=M.ok.rooms26;refine⟨l,l2,_,_,rfl,rfl,S2 _ _ e1,e2,by rw[ai];show 1+L.length<=ak;exact cz (aq (by omega)),fun m O=>?_⟩;have eq:([.str r]++L.map V.str:List V)=(r::L).map V.str:=rfl;rw[eq];have T:ab H (upd I m (.lst ((r::L).map V.str))):=(u.trans S2).trans (ab.new O);have U:upd I m (.lst ((r::L).map V.str)) m=some (.lst ((r::L).map V.str)):=aa;generalize upd I m (.lst ((r::L).map V.str))=H3 at T U ⊢;refine⟨m,rfl,⟨_,ay.of U⟩,fun q hq=>?_⟩
 let Y:Nat->List V->Hp->Prop:=fun i f j=>f=(((r::L).take i).map fun h=>decide ((0:Int)<(aF p (h,bT a)).length)).map V.bl/\ab H3 j/\j q=some (.lst f)
 refine bQ (xs:=(r::L).map V.str) Y ⟨rfl,ab.new hq,aa⟩ (fun i f j _ zq=>by obtain⟨_,S,h⟩:=zq;exact⟨h,ay.of (S _ _ U)⟩) ?_ ?_
 ·rintro f j ⟨rfl,S,h⟩;rw[ai,bp]at h;refine⟨q,_,rfl,ay.of h,?_⟩;rw[Fh hL];exact k j (T.trans S)
 ·rintro i f j y hy hi ⟨rfl,S,h⟩;obtain⟨w,N,rfl⟩:=bh hy;refine gN (pS ?_);have M':=M.same (T.trans S);obtain⟨v,fs,o1,o2,o3,o4,lv,qu,z,sl,ts,A,B,D,G,a1,a2,a3,a4,_⟩:=id M'.at_;refine⟨_,rfl,x,v,fs,rfl,G,a2,_,rfl,_,rfl,(by show 2<=ak;decide),fun s hs=>?_⟩;have S4:ab j (upd j s (.tup ((bT a).map V.str))):=ab.new hs;refine⟨x,s,w,bT a,J0,J2,rooms,p,rfl,M'.same S4,br.of aa,fun g H5 hg _ S5=>?_⟩;have n:=S4.trans S5;refine .inl ⟨g,_,rfl,.inl (ay.of hg),_,_,rfl,rfl,n _ _ h,?_,?_⟩
  ·rw[ai,ai,aX];exact aq (by rw[fF];omega)
  refine kL hi ⟨?_,fun b o e=>?_,aa⟩
  ·rw[take_snoc N,ar,ar];show _++[V.bl (decide ((0:Int)<(((aF p (w,bT a)).map V.str).length:Nat)))]=_;rw[ai];rfl
  ·rw[aj (ae e hq)];exact n _ _ (S _ _ e)

theorem Gq{K:Za}{k:Nat}{fi:List Nat}{g:TG}{o:TT}{q:TE}{σ:L2.St}{r:Hp}{Q:Hp->Prop}{l a b:Addr}{xs ys:List V}(z:xs.length<=ys.length)(Pv:Nat->List V->Hp->Prop)(A:Pv 0 [] (upd r l (.lst [])))
  (m:∀i e H,i<=xs.length->Pv i e H->H l=some (.lst e)/\br K H a xs/\br K H b ys) (B:∀e H,Pv xs.length e H->Q H)
  (C:∀i e H x y p,xs[i]?=some x->ys[i]?=some y->i<xs.length->Pv i e H->H p=none->g (.ref p) (cP k fi σ) (upd H p (.tup [x,y])) fun σ2 D=>o σ2 D fun b s =>
   if b=true then q σ2 s fun v w=>w l=some (.lst e)/\e.length<ak/\∃f,f<xs.length-i/\Wc xs.length Pv (i+1) f (e++[v]) (upd w l (.lst (e++[v])))else ∃f,f<xs.length-i/\Wc xs.length Pv (i+1) f e s) :
  cF k fi σ (KL K a b) g o q r l Q:=by
 refine jM xs.length Pv A (fun i e H hi p=>(m i e H hi p).1) (fun i e H hi p=>?_) (fun e H p=>?_) fun i e H x J hi p y=>?_
 ·obtain⟨_,h,j⟩:=m i e H (cz hi) p;have n:i<ys.length:=by omega
  exact⟨xs,ys,xs[i],ys[i],h,j,by simp[hi],by simp[n]⟩
 ·obtain⟨_,h,j⟩:=m _ e H (aR _) p;exact⟨⟨xs,ys,h,j,.inl (aR _)⟩,B e H p⟩
 ·obtain⟨_,h,j⟩:=m i e H (cz hi) p;obtain⟨t,u,v,rfl,E,G,I,rfl⟩:=y;exact C i e H u v t (G xs h) (I ys j) hi p E
mutual
def DT.few:DT->Prop
 |.k _=>True
 |.t l=>l.length<=1000/\DT.fews l
 |.s l=>l.length<=1000/\DT.fews l
def DT.fews:List DT->Prop
 |[]=>True
 |a::r=>DT.few a/\DT.fews r
end
theorem BF:∀{l:List DT}{i:Nat}{d:DT},DT.fews l->l[i]?=some d->DT.few d
 |[],_,_,_,h=>by cases h
 |a::r,0,d,h,e=>by injection e with e;rw[<-e];exact h.1
 |a::r,i+1,d,h,e=>BF h.2 (by rw[List.getElem?_cons_succ]at e;exact e)
theorem vZ:∀n:Nat,(oJ n true).all id=true
 |0=>rfl
 |n+1=>vZ n
theorem Hx{α:Type}(a:α)(n:Nat):oJ n a++[a]=oJ (n+1) a:=by
 rw[List.replicate_succ']
inductive fh(K:Za)(n:Nat)(vs:List V)(H:Hp)(Q:VK)(E:XK):Prop
 |mk (x y:V) (d:DT):(vs=[x,y])->(iK K H d x)->(iK K H d y)->(d.depth<=n)->(DT.few d)->(∀H',ab H H'->Q (.bl true) H')->fh K n vs H Q E
 |bb (b:Bool):(vs=[.bl b,.bl b])->(Q (.bl true) H)->fh K n vs H Q E
theorem sY{K:Za}{n:Nat}{H:Hp}{f b l:Addr}{xs j:List V}{m:List DT}{σ:L2.St}{J:It}{Q:Hp->Prop}(U:(J=MU K f b/\ay K H f xs/\ay K H b j)∨(J=KL K f b/\br K H f xs/\br K H b j))(E:DIns K H m xs)(G:DIns K H m j)(Y:DT.depths m<=n)(hz:m.length<=1000)(hf:DT.fews m)(I:H l=none)
  (k:∀a,ab H a->a l=some (.lst ((oJ m.length true).map V.bl))->Q a) :
  cF 2 [] σ J (jk K 2 (bx U0 (bx U1 (iW)))) (i5) (aL (fh K n) (aO V0 V1)) H l Q:=by
 have lx:=DIns.len E;have ly:=DIns.len G
 let g:Nat->List V->Hp->Prop:=fun i h a=>h=(oJ i true).map V.bl/\ab H a/\a l=some (.lst h)
 have r:∀h a,g xs.length h a->Q a:=by
  rintro h a ⟨rfl,S,q⟩;rw[lx]at q;exact k a S q
 have step:∀i h a x y p,xs[i]?=some x->j[i]?=some y->i<xs.length->g i h a->a p=none->(jk K 2 (bx U0 (bx U1 (iW)))) (.ref p) (cP 2 [] σ) (upd a p (.tup [x,y])) fun σ2 H4=>(i5) σ2 H4 fun b L =>
   if b=true then(aL (fh K n) (aO V0 V1)) σ2 L fun v M=>M l=some (.lst h)/\h.length<ak/\∃s,s<xs.length-i/\Wc xs.length g (i+1) s (h++[v]) (upd M l (.lst (h++[v])))else ∃s,s<xs.length-i/\Wc xs.length g (i+1) s h L:=by
  rintro i h u x y p hx hy hi ⟨rfl,S,h1⟩ hp;have w:ab u (upd u p (.tup [x,y])):=ab.new hp;have N:upd u p (.tup [x,y]) p=some (.tup [x,y]):=aa;generalize upd u p (.tup [x,y])=H2 at w N ⊢;obtain⟨d,A,dx⟩:=DIns.get E hx;obtain⟨d',z,O⟩:=DIns.get G hy;rw[A]at z;injection z with z;rw[<-z]at O;refine⟨p,_,rfl,br.of N,rfl,_,_,rfl,_,_,rfl,rfl,pS ?_⟩;refine⟨_,rfl,_,rfl,.mk x y d rfl (iK.same (S.trans w) dx) (iK.same (S.trans w) O) (vI Y A) (BF hf A) fun H3 S3=>?_⟩;have t:=w.trans S3;refine⟨t _ _ h1,by rw[ai,List.length_replicate];exact aq (by omega),kL hi ⟨by rw[<-Hx,ar];rfl,fun b o e=>?_,aa⟩⟩;rw[aj (ae e I)];exact t _ _ (S _ _ e)
 have T:g 0 [] (upd H l (.lst [])):=⟨rfl,ab.new I,aa⟩;rcases U with⟨rfl,B,C⟩|⟨rfl,B,C⟩
 ·exact Gr (xs:=xs) (ys:=j) (by omega) g T (fun i h a _ D=>by obtain⟨_,S,q⟩:=D;exact⟨q,ay.same S B,ay.same S C⟩) r step
 ·exact Gq (xs:=xs) (ys:=j) (by omega) g T (fun i h a _ D=>by obtain⟨_,S,q⟩:=D;exact⟨q,br.same S B,br.same S C⟩) r step
theorem FA{K:Za}{n:Nat}(N:n<=8){I:Sp}(o:∀m,n=m+1->I=fh K m){J:List V}{H:Hp}{Q:VK}{E:XK}(h:fh K n J H Q E):AQ K I (bN Q) (start BZ J) H:=by
 rcases h with⟨x,y,d,rfl,hx,w,u,v,k⟩|⟨b,rfl,k⟩;rotate_left
 ·refine⟨_,rfl,_,rfl,?_⟩;rw[zzr0 (show ¬V.bl b=V.non from fun z=>by cases z)];refine bd ⟨_,rfl,_,"bool",.type "bool",true,rfl,.inl (.bl b),rfl,_,rfl,bU ?_⟩;refine⟨_,rfl,_,"bool",.type "bool",true,rfl,.inl (.bl b),rfl,_,rfl,bU ⟨_,rfl,_,rfl,?_,?_⟩⟩
  ·cases b<;>rfl
  ·rw[zzr1 rfl];exact k
 have a:=iK.kd hx;have p:=iK.kd w;refine⟨_,rfl,_,rfl,?_⟩;have L:decide (y=V.non)=false:=by cases p<;>exact zzr0 nofun
 rw[L];refine bd ?_;cases p with
 |int i =>
  cases a;refine⟨_,rfl,.int i,"bool",_,false,rfl,.inl (jN.int i),rfl,_,rfl,bd ?_⟩;refine⟨_,rfl,.int i,"str",_,false,rfl,.inl (jN.int i),rfl,_,rfl,bd ?_⟩;refine⟨_,rfl,.int i,"int",_,true,rfl,.inl (jN.int i),rfl,_,rfl,bU ?_⟩;refine⟨_,rfl,.int i,"int",_,true,rfl,.inl (jN.int i),rfl,_,rfl,bU ?_⟩;refine⟨_,rfl,.int i,"bool",_,false,rfl,.inl (jN.int i),rfl,_,rfl,_,rfl,bU ?_⟩;refine⟨_,rfl,_,rfl,_,_,hx,w,by omega,by omega,?_⟩;rw[zzr1 rfl];exact k H (ab.refl _)
 |str i =>
  cases a;refine⟨_,rfl,.str i,"bool",_,false,rfl,.inl (jN.str i),rfl,_,rfl,bd ?_⟩;refine⟨_,rfl,.str i,"str",_,true,rfl,.inl (jN.str i),rfl,_,rfl,bU ?_⟩;refine⟨_,rfl,.str i,"str",_,true,rfl,.inl (jN.str i),rfl,_,rfl,bU ?_⟩;refine⟨_,rfl,_,rfl,_,_,hx,w,by omega,by omega,?_⟩;rw[zzr1 rfl];exact k H (ab.refl _)
 |@tup b q M e r =>
  cases a with
  |@tup f s _ g t =>
  have ty:LI K H (.ref b) (.type "tuple"):=.inr (.inl ⟨_,_,rfl,rfl,e⟩);have A:LI K H (.ref f) (.type "tuple"):=.inr (.inl ⟨_,_,rfl,rfl,g⟩);obtain⟨m,rfl⟩:∃m,n=m+1:=⟨n-1,by have:=IN u;omega⟩;obtain rfl:=o m rfl;refine⟨_,rfl,.ref b,"bool",_,false,rfl,ty,rfl,_,rfl,bd ?_⟩;refine⟨_,rfl,.ref b,"str",_,false,rfl,ty,rfl,_,rfl,bd ?_⟩;refine⟨_,rfl,.ref b,"int",_,false,rfl,ty,rfl,_,rfl,bd ?_⟩;refine⟨_,rfl,.ref b,"tuple",_,true,rfl,ty,rfl,_,rfl,bU ⟨_,rfl,.ref f,"tuple",_,true,rfl,A,rfl,_,rfl,bd ?_⟩⟩;refine⟨_,rfl,.ref b,"list",_,false,rfl,ty,rfl,_,rfl,bd (bd ?_)⟩;refine⟨_,rfl,.inl ⟨f,_,rfl,.inr g,_,rfl,.inl ⟨b,_,rfl,.inr e,rfl,_,rfl,?_⟩⟩⟩;have B:s.length=q.length:=by rw[DIns.len t,DIns.len r]
  have C:(!decide (V.int (s.length:Nat)=V.int (q.length:Nat)))=false:=by rw[zzr1 (by rw[B])];rfl
  rw[C];refine bd ⟨_,rfl,_,rfl,f,b,rfl,.inr ⟨⟨_,g⟩,⟨_,e⟩,fun l j=>?_⟩⟩;exact sY (.inr ⟨rfl,g,e⟩) t r (Kt u) v.1 v.2 j fun D S G=>⟨l,_,rfl,ay.of G,by rw[vZ];exact k D S⟩
 |@lst b q M e r =>
  cases a with
  |@lst f s _ g t =>
  have ty:LI K H (.ref b) (.type "list"):=.inr (.inr ⟨_,_,rfl,rfl,e⟩);have A:LI K H (.ref f) (.type "list"):=.inr (.inr ⟨_,_,rfl,rfl,g⟩);obtain⟨m,rfl⟩:∃m,n=m+1:=⟨n-1,by have:=IP u;omega⟩;obtain rfl:=o m rfl;refine⟨_,rfl,.ref b,"bool",_,false,rfl,ty,rfl,_,rfl,bd ?_⟩;refine⟨_,rfl,.ref b,"str",_,false,rfl,ty,rfl,_,rfl,bd ?_⟩;refine⟨_,rfl,.ref b,"int",_,false,rfl,ty,rfl,_,rfl,bd ?_⟩;refine⟨_,rfl,.ref b,"tuple",_,false,rfl,ty,rfl,_,rfl,bd (bd ?_)⟩;refine⟨_,rfl,.ref b,"list",_,true,rfl,ty,rfl,_,rfl,bU ⟨_,rfl,.ref f,"list",_,true,rfl,A,rfl,_,rfl,bd ?_⟩⟩;refine⟨_,rfl,.inl ⟨f,_,rfl,.inl g,_,rfl,.inl ⟨b,_,rfl,.inl e,rfl,_,rfl,?_⟩⟩⟩;have B:s.length=q.length:=by rw[DIns.len t,DIns.len r]
  have C:(!decide (V.int (s.length:Nat)=V.int (q.length:Nat)))=false:=by rw[zzr1 (by rw[B])];rfl
  rw[C];refine bd ⟨_,rfl,_,rfl,f,b,rfl,.inl ⟨⟨_,g⟩,⟨_,e⟩,fun l j=>?_⟩⟩;exact sY (.inl ⟨rfl,g,e⟩) t r (Ku u) v.1 v.2 j fun D S G=>⟨l,_,rfl,ay.of G,by rw[vZ];exact k D S⟩
inductive m_(K:Za)(vs:List V)(H:Hp)(Q:VK)(E:XK):Prop
 |mk (t s l1 l2 l3 l4:Addr) (ts:Ze) (J0 J2 rooms sg:Zb) (ds:List ah):(vs=[.ref t,.ref s])->(gK H t l1 l2 l3 l4 ts J0 J2 rooms ds)->(br K H s (sg.map V.str))->((sg=az∨∃kd w,sg=[kd,w])) ->
  (∀(v:V) (H':Hp),(gV J0 J2 sg=none/\v=.non)∨(∃g b,gV J0 J2 sg=some g/\v=.ref b/\br K H' b (g.map V.str))->ab H H'->Q v H')->m_ K vs H Q E
theorem FG{K:Za}{x:List V}{H:Hp}{Q:VK}{E:XK}(h:m_ K x H Q E):AT K (bN Q) (start B_ x) H:=by
 obtain⟨t,s,D,G,M,N,O,i,l,rooms,y,U,rfl,T,A,r,k⟩:=h;refine⟨_,rfl,(by show 1<=ak;decide),fun B m=>⟨fT y,fT az,aW (br.same (ab.new m) A),aW (br.of aa),by rw[bz];decide,by rw[bz];decide,_,rfl,?_⟩⟩;rw[eI];have g:ab H (upd H B (.tup [.str "hush"])):=ab.new m;generalize upd H B (.tup [.str "hush"])=Y at g ⊢;have n:=T.same g;have a:=br.same g A;by_cases c:y=az
 ·rw[zzr1 c];subst c;exact bU ⟨_,rfl,k _ _ (.inr ⟨_,s,o8,rfl,a⟩) g⟩
 rw[zzr0 c];obtain⟨kd,w,rfl⟩:=r.resolve_left c;have I:gV i l [kd,w]=if w∈i then some (bT w)else if w∈l then some (cv w)else none:=by unfold gV;rw[if_neg c];rfl
 rw[I]at k;have J:∀os:List Str,(dh w∈os.map dh)↔w∈os:=fun os=>⟨fun z=>by obtain⟨v,L,e⟩:=aE.1 z;have e:DT.k (.inr v)=DT.k (.inr w):=e;injection e with e;injection e with e;rw[<-e];exact L,fQ⟩;have C:∀os:List Str,(if false=true then !decide (dh w∈os.map dh)else decide (dh w∈os.map dh))=decide (w∈os):=fun os=>decide_eq_decide.2 (J os)
 have f:xT ([kd,w].map V.str) 1=some (.str w):=cn (j:=1) rfl;refine bd ⟨_,rfl,.inr (.inl ⟨s,_,1,.str w,rfl,rfl,a,f,_,rfl,.inr (.inl ⟨t,_,0,_,rfl,rfl,br.of n.t,rfl,dh w,i.map dh,D,_,rfl,rfl,.inl (ay.of n.a1),gu i,c_ _,by rw[gH];decide,_,rfl,?_⟩)⟩)⟩;rw[C];by_cases o:w∈i
 ·rw[zzr1 o];rw[if_pos o]at k;exact bU ⟨_,rfl,.inr (.inl ⟨s,_,1,.str w,rfl,rfl,a,f,(by show 2<=ak;decide),fun q u=>k _ _ (.inr ⟨_,q,rfl,rfl,br.of aa⟩) (g.trans (ab.new u))⟩)⟩
 rw[zzr0 o];rw[if_neg o]at k;refine bd ⟨_,rfl,.inr (.inl ⟨s,_,1,.str w,rfl,rfl,a,f,_,rfl,.inr (.inl ⟨t,_,1,_,rfl,rfl,br.of n.t,rfl,dh w,l.map dh,G,_,rfl,rfl,.inl (ay.of n.a2),gu l,c_ _,by rw[gH];decide,_,rfl,?_⟩)⟩)⟩;rw[C];by_cases p:w∈l
 ·rw[zzr1 p];rw[if_pos p]at k;exact bU ⟨_,rfl,.inr (.inl ⟨s,_,1,.str w,rfl,rfl,a,f,(by show 2<=ak;decide),fun q u=>k _ _ (.inr ⟨_,q,rfl,rfl,br.of aa⟩) (g.trans (ab.new u))⟩)⟩
 ·rw[zzr0 p];rw[if_neg p]at k;exact bd (k _ _ (.inl ⟨rfl,rfl⟩) g)
inductive k6(K:Za)(vs:List V)(H:Hp)(Q:VK)(E:XK):Prop
 |mk (t ft s l1 l2 l3 l4:Addr) (ts:Ze) (J0 J2 rooms face sg:Zb) (ds:List ah):(vs=[.ref t,.ref ft,.ref s])->(gK H t l1 l2 l3 l4 ts J0 J2 rooms ds)->(ax J0 J2 rooms ds)->(H ft=some (.tup (face.map V.str)))->(br K H s (sg.map V.str))->((sg=az∨∃kd w,sg=[kd,w]))->(face.length<=1000)->(∀(t':Addr) (H':Hp),H' t'=some (.tup ((besF J0 J2 rooms ds face sg).map V.str))->ab H H'->Q (.ref t') H')->k6 K vs H Q E
theorem JU{K:Za}{j:List V}{H:Hp}{Q:VK}{E:XK}(h:k6 K j H Q E):ze K (vk K) (m_ K) (bN Q) (start Av j) H:=by
 obtain⟨t,l,s,n,o,p,q,r,u,w,rooms,face,y,x,rfl,T,m,a,A,i,B,k⟩:=h;refine⟨_,rfl,_,rfl,t,s,n,o,p,q,r,u,w,rooms,y,x,rfl,T,A,i,fun v C D f=>?_⟩;rcases D with⟨e,rfl⟩|⟨g,b,e,rfl,G⟩
 ·refine⟨_,rfl,_,rfl,?_⟩;rw[zzr1 rfl];refine bU ⟨_,rfl,k l C ?_ f⟩;rw[BQ e];exact f _ _ a
 ·refine⟨_,rfl,_,rfl,?_⟩;rw[zzr0 (fun z=>by cases z)];refine bd ⟨_,rfl,_,rfl,_,rfl,t,l,b,n,o,p,q,r,u,w,rooms,face,g,x,rfl,T.same f,m,f _ _ a,G,B,fun I J L M=>k I J ?_ (f.trans M)⟩;rw[BP e];exact L
def KU{α:Type}(a b c d:α)(k:Nat):α:=[a,b,c].getD k d
def oM(K:Za)(sp_law_asks_left:Sp):TS :=
 au (aT (aL sp_law_asks_left (av (bC (av (aD (hW K) V0 (tC (.int 0))) (dq (aD (hW K) V0 (tC (.int 1))) (aD (hW K) V1 (tC (.int 0))) (aD (hW K) V1 (tC (.int 1)))))) aY)) U2)
 (au (aT (cN 1 [] (bG K V2) U0 (i5) (bP (aO (tC (.str "ask")) V0))) U3)
 (bo (aD gR (aD gR V3 (cN 1 [] (bG K (aD gR (aD (hW K) V0 (tC (.int 1))) (aD (hW K) V1 (tC (.int 1))))) U0 (i5) (bP (aO (tC (.str "say")) V0)))) (bC (aB (bP (aB (tC (.str "hush")))))))))
def pi:List Str:=["first","second","asks","signs"]
def Cp(K:Za)(sp_law_take:Sp)(sp_law_beside:Sp)(sp_law_face_at:Sp)(sp_law_signs_of_two:Sp):TS :=
 au (aT (aL sp_law_signs_of_two (aO V1 V2)) U3)
 (au (aT (aD gR V3 (cN 1 [1,2] (bG K (aD gR (aD (hW K) V1 (tC (.int 1))) (aD (hW K) V2 (tC (.int 1))))) U0 (aS (aD (ii K false) V0 (aD gR (aD (hW K) V1 (tC (.int 0))) (aD (hW K) V2 (tC (.int 0)))))) (bP (aO (tC (.str "ask")) V0)))) U4)
 (au (aT (bP (av (aL sp_law_face_at (aO V1 (bC (aY)))) (aB (aL sp_law_face_at (aO V2 (bC (aY))))))) U5)
 (au (aT (bC (aY)) U6)
 (au (eA (vD (aB (aL sp_law_take (aO V0 (tC (.int 15)))))) U7 (au (aT (bC (aY)) U8)
 (au (eA (bG K V3) U9 (cJ (nQ (aS (aD (tU K) (aL sp_law_beside (dq V1 (aD (hW K) V5 (tC (.int 0))) V9)) (bP (aY)))) (aS (aD (tU K) (aL sp_law_beside (dq V2 (aD (hW K) V5 (tC (.int 1))) V9)) (bP (aY))))) (cM (vi K "list" dX V8 (aB V9))) (bB)))
 (au (aT V4 Mq)
 (au (cJ (nQ (aS (aD (tU K) V8 (bC (aY)))) (aS (aD wO (aL sp_law_take (aO V0 (tC (.int 6)))) (tC (.int 0))))) (aT V8 Mq) (bB))
 (au (aT (aD (df K) GB (aL sp_law_take (aO V0 (eM (fH K) (aB GB))))) U9)
 (au (cM (vi K "list" dX V6 (aB V9)))
 (aT (bP (av (aL sp_law_beside (dq V1 (aD (hW K) V5 (tC (.int 0))) V9)) (av (aL sp_law_beside (dq V2 (aD (hW K) V5 (tC (.int 1))) V9)) aY))) U5))))))))
 (bo V6)))))
def DE:List Str:=["pen","first","second","signs","odd","faces","story","turn","good","sign","some"]
def Fk(K:Za)(sp_law_beside:Sp)(sp_law_face_at:Sp)(sp_law_signs_of_two:Sp):TS :=
 au (aT (aL sp_law_signs_of_two (aO V0 V1)) U3)
 (au (aT (bP (av (aL sp_law_face_at (aO V0 (bC (aY)))) (aB (aL sp_law_face_at (aO V1 (bC (aY))))))) U4)
 (au (eA (bG K V2) U5 (au (cJ (aS (aD (ii K true) V5 V3)) (bo (tC (.bl false))) (bB))
 (aT (bP (av (aL sp_law_beside (dq V0 (aD (hW K) V4 (tC (.int 0))) V5)) (av (aL sp_law_beside (dq V1 (aD (hW K) V4 (tC (.int 1))) V5)) aY))) U4)))
 (bo (p8 (aD (tU K) (aD (hW K) V4 (tC (.int 0))) (bP (aY))) (aD (tU K) (aD (hW K) V4 (tC (.int 1))) (bP (aY)))))))
def GH:List Str:=["first","second","story","signs","faces","sign"]
def wt(K:Za)(C_Machine:Addr)(sp_Machine_doors:Sp)(sp_Machine_rooms:Sp)(sp_Machine_says:Sp)(sp_Machine_asks:Sp):TS :=
 bo (bP (av (bZ C_Machine "asks" sp_Machine_asks [] E0 V0 aY) (dq (bZ C_Machine "says" sp_Machine_says [] E0 V0 aY) (bZ C_Machine "rooms" sp_Machine_rooms [] E0 V0 aY) (bZ C_Machine "doors" sp_Machine_doors [] E0 V0 aY))))
def wV:List Str:=["machine"]
def JE(K:Za)(dA:Sp)(sp_law_is_walk:Sp)(sp_law_told_by:Sp)(sp_walk_of:Sp)(sp_law_same:Sp)(sp_law_has:Sp)(sp_law_road:Sp)(jq:Sp)(sp_law_machine:Sp)(sp_law_two_takers:Sp)(sp_law_open:Sp):TS :=
 au (aT (aL sp_law_open (aB V0)) U1)
 (au (aT (aL sp_law_two_takers (dq V1 (tC (.int 3)) (tC (.int 3)))) (Mm K 2 (bx U2 (bx U3 (iW)))))
 (au (aT (aL jq (aO (aL sp_law_machine (aB V2)) (aL sp_law_machine (aB V3)))) U4)
 (au (aT (aL sp_law_road (dq V1 V2 V3)) U5)
 (au (aT (aL sp_law_has (dq V2 V3 V5)) U6)
 (au (aT (eM (dE K) (aB V5)) U7)
 (au (cJ (Cy (rW (tB (aL sp_law_same (aO (aL dA (av V4 (aB V7))) V6)))) (aS (aD (HW K) V7 V5))) (bo (tC (.bl false))) (bB))
 (au (aT (aL sp_walk_of (aO V4 V7)) U8)
 (au (cJ (rW (tB V6)) (bo (Ho V8)) (bB))
 (au (cJ (Cy (rW (tB (eM (sf K) (aO V8 (tC (.ty "list")))))) (rW (tB (aL sp_law_is_walk (aO (aL sp_law_told_by (aB V4)) V8))))) (bo (tC (.bl false))) (bB))
 (au (cJ (aS (aD (HW K) (cN 1 [] (bG K V8) U0 (aS (aD (HW K) (aD (hW K) V0 (tC (.int 1))) (bP (aB (tC (.str "still")))))) (aD (hW K) V0 (tC (.int 1)))) V5)) (bo (tC (.bl false))) (bB))
 (au (aT (cN 2 [] (tq K (aB V5)) (jk K 2 (bx U0 (bx U1 (iW)))) (aS (aD (Lm K) V1 (bP (aB (tC (.str "hush")))))) V0) U9)
 (au (eA (bG K (Cc (qA K) V9 (eU) (iP (tC (.int 4))))) Mq (au (cJ (aS (aD HV (aL dA (av V4 (av (aD gR (Cc (qA K) V5 (eU) (iP GB)) (Cc (qA K) V5 (iP (aD fZ GB (tC (.int 1)))) (eU))) aY))) (tC (.bl true)))) (bo (tC (.bl false))) (bB))
 (cJ (aS (aD HV (aL dA (av V4 (av (aD gR (aD gR (Cc (qA K) V5 (eU) (iP GB)) (bC (aB (bP (aB (tC (.str "hush"))))))) (Cc (qA K) V5 (iP GB) (eU))) aY))) (tC (.bl true)))) (bo (tC (.bl false))) (bB))))
 (bo (tC (.bl true)))))))))))))))
def EZ:List Str:=["script","pen","first","second","whole","story","due","handed","walk","hushes","at"]
def Ib:List Str:=["script"]
structure FI(rooms:Zb)(ds:List ah)(f:Zb):Prop where
 sub:∀r∈f,r∈rooms
 shut:Aq ds f
 len:f.length<=rooms.length
theorem LS.fi{rooms f:Zb}{a:List ah}(h:LS rooms a f):FI rooms a f:=⟨h.sub,h.shut,h.len⟩
theorem LH{k l rooms f j:Zb}{e:List ah}(m:ax k l rooms e)(F:FI rooms e f):FI rooms e (behF rooms e f j):=by
 refine⟨BR F.sub,?_,?_⟩
 ·by_cases c:j=az
  ·intro d g h i;unfold behF at i;rw[if_pos c]at i;have n:=of_decide_eq_true (bW.1 i).2;obtain⟨a,s,b⟩:=d;have h:s=ao:=h;subst h;exact absurd (jI g) n
  ·unfold behF;rw[if_neg c];exact xp fun d g=>(m.good d g).b
 ·unfold behF;split
  ·exact bI (b_ _ _) F.len
  ·exact nG
theorem Al{e h rooms f i:Zb}{a:List ah}(m:ax e h rooms a)(F:FI rooms a f):FI rooms a (besF e h rooms a f i):=by
 cases c:gV e h i with
 |none=>rw[BQ c];exact F
 |some g=>rw[BP c];exact LH m F
theorem Ja{rooms f g i:Zb}{ds:List ah}(h:∀r∈f,r∈g):∀r∈behF rooms ds f i,r∈behF rooms ds g i:=fun r e=>by
 unfold behF at e ⊢;by_cases c:i=az
 ·rw[if_pos c]at e ⊢;obtain⟨j,k⟩:=bW.1 e;exact bW.2 ⟨h r j,k⟩
 ·rw[if_neg c]at e ⊢;obtain⟨j,x,hx,k⟩:=fk.1 e;obtain⟨a,l,m⟩:=cj.1 hx;exact fk.2 ⟨j,x,cj.2 ⟨a,h a l,m⟩,k⟩
theorem xI{rooms:Zb}{a:List ah}:∀(s:List (List Str)) {f g:Zb},(∀r∈f,r∈g)->∀r∈s.foldl (behF rooms a) f,r∈s.foldl (behF rooms a) g
 |[],_,_,h=>h
 |_::s,_,_,h=>xI s (Ja h)
theorem KB{rooms e:Zb}{f:List ah}:behF rooms f [] e=[]:=by
 unfold behF;split
 ·rfl
 ·refine List.eq_nil_iff_forall_not_mem.2 fun r g=>?_;obtain⟨_,x,hx,_⟩:=fk.1 g;obtain⟨a,h,_⟩:=cj.1 hx;cases h
theorem xH{rooms:Zb}{a:List ah}:∀s:List (List Str),s.foldl (behF rooms a) []=[]
 |[]=>rfl
 |sg::s=>by show s.foldl (behF rooms a) (behF rooms a [] sg)=[];rw[KB];exact xH s
theorem lr{rooms:Zb}{a:List ah}(s u:List (List Str)):faceOf rooms a (s++u)=u.foldl (behF rooms a) (faceOf rooms a s):=by unfold faceOf;rw[rj]
theorem ID{rooms f:Zb}{e:List ah}:∀r∈behF rooms e f az,r∈f:=fun r a=>by
 unfold behF at a;rw[if_pos rfl]at a;exact(bW.1 a).1
theorem Ge{rooms f:Zb}{a:List ah}:behF rooms a (behF rooms a f az) az=behF rooms a f az:=by
 unfold behF;rw[if_pos rfl,if_pos rfl,List.filter_filter];refine om fun r _=>by rw[Bool.and_self]
theorem IE{rooms:Zb}{a:List ah}{s u:List (List Str)}(h:faceOf rooms a (s++az::u)≠[]):faceOf rooms a (s++u)≠[]:=by
 obtain⟨r,e⟩:=rc _ h;rw[lr]at e ⊢;exact q_ (xI u ID r e)
theorem Kn{rooms:Zb}{a:List ah}{s u:List (List Str)}(h:faceOf rooms a (s++az::u)≠[]):faceOf rooms a (s++[az]++az::u)≠[]:=by
 have e:faceOf rooms a (s++[az]++az::u)=faceOf rooms a (s++az::u):=by
  rw[lr,lr s (az::u),gF];show u.foldl (behF rooms a) (behF rooms a (behF rooms a (faceOf rooms a s) az) az)=u.foldl (behF rooms a) (behF rooms a (faceOf rooms a s) az);rw[Ge]
 rw[e];exact h
def oX(sg:Zb):Prop:=sg=az∨(∃w,sg=bT w)∨∃w,sg=cv w
theorem oX.two{a:Zb}(h:oX a):a=az∨∃kd w,a=[kd,w]:=by
 rcases h with h|⟨w,h⟩|⟨w,h⟩
 ·exact .inl h
 ·exact .inr ⟨_,w,h⟩
 ·exact .inr ⟨_,w,h⟩
theorem oX.still{e:Zb}(h:oX e):e≠ao:=by
 rcases h with rfl|⟨w,rfl⟩|⟨w,rfl⟩
 ·decide
 ·intro z;injection z with f a;cases a
 ·intro z;injection z with f a;cases a
theorem LX.shp{g i a f sg:Zb}(h:LX g i a f sg):oX sg:=by
 rcases h with⟨w,_,e⟩|⟨w,_,e⟩|e
 ·exact .inr (.inl ⟨w,e⟩)
 ·exact .inr (.inr ⟨w,e⟩)
 ·exact .inl e
theorem Gy{l j g a rooms f i:Zb}{m:List ah}(n:ax (dQ l j g a) (j++a) rooms m)(o:oX i)(h:¬LX l j g a i):behF rooms m f i=[]:=by
 have p:i≠az:=fun e=>h (.inr (.inr e));refine yI fun c=>?_;obtain⟨d,q,_,rfl⟩:=En.1 ((JI n p).2 c);rcases(n.good d q).sg with⟨w,k,e⟩|⟨w,k,e⟩|e
 ·exact h (.inl ⟨w,k,e⟩)
 ·exact h (.inr (.inl ⟨w,k,e⟩))
 ·exact o.still e
def jC(J0 J2 asks' says':Zb):List (List Str):=(dQ J0 J2 asks' says').map bT++(J2++says').map cv++[az]
theorem np{g h asks' a i:Zb}:i∈jC g h asks' a↔LX g h asks' a i:=by
 unfold jC LX;rw[bf,bf,aE,aE,cA];constructor
 ·rintro((⟨w,f,e⟩|⟨w,f,e⟩)|e)
  ·exact .inl ⟨w,f,e.symm⟩
  ·exact .inr (.inl ⟨w,f,e.symm⟩)
  ·exact .inr (.inr e)
 ·rintro(⟨w,f,e⟩|⟨w,f,e⟩|e)
  ·exact .inl (.inl ⟨w,f,e.symm⟩)
  ·exact .inl (.inr ⟨w,f,e.symm⟩)
  ·exact .inr e
theorem xU{J0 J2 asks' says':Zb}:(dQ J0 J2 asks' says').length<=J0.length+asks'.length:=by
 unfold dQ;refine bI (b_ _ _) ?_;rw[aA];exact aR _
theorem Fu{J0 J2 asks' says':Zb}:(jC J0 J2 asks' says').length<=J0.length+asks'.length+J2.length+says'.length+1:=by
 unfold jC;have:=xU (J0:=J0) (J2:=J2) (asks':=asks') (says':=says');rw[aA,aA,ai,ai,aA];show _+1<=_;omega
inductive qd(vs:List V)(H:Hp)(Q:VK)(E:XK):Prop
 |mk (t l1 l2 l3 l4 t' l1' l2' l3' l4':Addr) (ts ts':Ze) (J0 J2 rooms asks' says' rooms':Zb) (ds ds':List ah):(vs=[.ref t,.ref t'])->(gK H t l1 l2 l3 l4 ts J0 J2 rooms ds)->(gK H t' l1' l2' l3' l4' ts' asks' says' rooms' ds')->(ax J0 J2 rooms ds)->(ax asks' says' rooms' ds') ->
  (∀(l:Addr) (us:Ze) (H':Hp),H' l=some (.lst (us.map V.ref))->bY H' us (jC J0 J2 asks' says')->H l=none->ab H H'->Q (.ref l) H')->qd vs H Q E
theorem JN{K:Za}{vs:List V}{H:Hp}{Q:VK}{E:XK}(h:qd vs H Q E):oM K kE (bN Q) (start pi vs) H:=by
 obtain⟨t,x,p,l3,l4,t',f,a,a6,a7,ts,a8,J0,J2,rooms,asks',says',O,ds,a9,rfl,T,U,m,m',k⟩:=h;have z1:=m.says4;have z2:=m'.says4;have z3:=m.asks4;have z4:=m'.asks4;have zj:=xU (J0:=J0) (J2:=J2) (asks':=asks') (says':=says');refine⟨_,rfl,.inr (.inl ⟨t,_,0,_,rfl,rfl,br.of T.t,rfl,_,rfl,.inr (.inl ⟨t,_,1,_,rfl,rfl,br.of T.t,rfl,_,rfl,.inr (.inl ⟨t',_,0,_,rfl,rfl,br.of U.t,rfl,_,rfl,.inr (.inl ⟨t',_,1,_,rfl,rfl,br.of U.t,rfl,(by show 4<=ak;decide),fun n an=>?_⟩)⟩)⟩)⟩)⟩;have g:ab H (upd H n (.lst [.ref x,.ref p,.ref f,.ref a])):=ab.new an;have q:upd H n (.lst [.ref x,.ref p,.ref f,.ref a]) n=some (.lst [.ref x,.ref p,.ref f,.ref a]):=aa;show kE [.ref n] (upd H n (.lst [.ref x,.ref p,.ref f,.ref a])) _ _;generalize upd H n (.lst [.ref x,.ref p,.ref f,.ref a])=H1 at g q ⊢;have T1:=T.same g;have s:=U.same g;have F:F4 H1 n (KU x p f a) (KU J0 J2 asks' says'):=⟨q,fun k hk=>by
  rcases k with _|_|_|_|k
  ·exact T1.a1
  ·exact T1.a2
  ·exact s.a1
  ·exact s.a2
  ·omega⟩
 refine⟨n,_,_,rfl,F,fun k hk=>?_,fun al H2 i _ S2=>?_⟩
 ·rcases k with _|_|_|_|k
  ·exact z3
  ·exact z1
  ·exact z4
  ·exact z2
  ·omega
 have i:H2 al=some (.lst ((dQ J0 J2 asks' says').map V.str)):=i;have ap:=g.trans S2;clear F T1 s g q S2;refine⟨_,rfl,al,rfl,⟨_,ay.of i⟩,fun la as=>?_⟩;refine vN (kd:="ask") i (by omega) as fun u Y h3 A S3=>?_;have j:=ap.trans S3;have T3:=T.same j;have B:=U.same j;refine⟨_,rfl,_,rfl,.inr (.inl ⟨t,_,1,_,rfl,rfl,br.of T3.t,rfl,_,rfl,.inr (.inl ⟨t',_,1,_,rfl,rfl,br.of B.t,rfl,p,a,_,_,rfl,rfl,T3.a2,B.a2,by rw[ai,ai];exact cz (aq (by omega)),fun c hc=>?_⟩)⟩)⟩;have S4:ab Y (upd Y c (.lst (J2.map V.str++says'.map V.str))):=ab.new hc;have c4:upd Y c (.lst (J2.map V.str++says'.map V.str)) c=some (.lst ((J2++says').map V.str)):=by rw[aa,ar]
 refine⟨c,rfl,⟨_,ay.of aa⟩,fun ls C=>?_⟩;generalize upd Y c (.lst (J2.map V.str++says'.map V.str))=H4 at S4 c4 C ⊢;refine vN (kd:="say") c4 (by rw[aA];omega) C fun v H5 h5 D S5=>?_;have l:=S4.trans S5;have aC:=l _ _ h3;have G:=bY.kt (ab.kt l) A;have a0:=Paired.length A;have I:=Paired.length D;rw[ai]at a0 I;rw[aA]at I;refine⟨la,ls,_,_,rfl,rfl,aC,h5,by rw[ai,ai];exact cz (aq (by omega)),fun y a4=>?_⟩;have S6:ab H5 (upd H5 y (.lst (u.map V.ref++v.map V.ref))):=ab.new a4;have J:upd H5 y (.lst (u.map V.ref++v.map V.ref)) y=some (.lst ((u++v).map V.ref)):=by rw[aa,ar]
 generalize upd H5 y (.lst (u.map V.ref++v.map V.ref))=z at S6 J ⊢;refine⟨(by show 1<=ak;decide),fun e a5=>⟨(by show 1<=ak;decide),fun o L=>?_⟩⟩;have g:ab z (upd (upd z e (.tup [.str "hush"])) o (.lst [.ref e])):=(ab.new a5).trans (ab.new L);have M:upd (upd z e (.tup [.str "hush"])) o (.lst [.ref e]) e=some (.tup (az.map V.str)):=kp aa L;have N:upd (upd z e (.tup [.str "hush"])) o (.lst [.ref e]) o=some (.lst [.ref e]):=aa;show gR (.ref y) (.ref o) (upd (upd z e (.tup [.str "hush"])) o (.lst [.ref e])) _;generalize upd (upd z e (.tup [.str "hush"])) o (.lst [.ref e])=H7 at g M N ⊢;refine⟨y,o,_,_,rfl,rfl,g _ _ J,N,by rw[ai,aA];exact cz (aq (by show _+1<=1000;omega)),fun r hr=>?_⟩;have S8:ab H7 (upd H7 r (.lst ((u++v).map V.ref++[.ref e]))):=ab.new hr;have w:=S6.trans (g.trans S8);refine k r (u++v++[e]) _ (by rw[aa,ar (l₁:=u++v)];rfl) ?_ ((j.trans (l.trans (S6.trans g))).free hr) (j.trans (l.trans w));exact Paired.app (Paired.app (bY.kt (ab.kt w) G) (bY.kt (ab.kt w) D)) (.cons (S8 _ _ M) .nil)
structure Jt(H:Hp)(fs fa fb:Addr)(f f':Zb):Prop where
 hfs:H fs=some (.tup [.ref fa,.ref fb])
 hfa:H fa=some (.tup (f.map V.str))
 hfb:H fb=some (.tup (f'.map V.str))
theorem Jt.kt{H H':Hp}{fs a e:Addr}{f g:Zb}(k:gx H H')(h:Jt H fs a e f g):Jt H' fs a e f g:=⟨k _ _ h.hfs,k _ _ h.hfa,k _ _ h.hfb⟩
inductive ui(K:Za)(vs:List V)(H:Hp)(Q:VK)(E:XK):Prop
 |mk (t l1 l2 l3 l4 t' l1' l2' l3' l4' sl:Addr) (ts ts' us:Ze) (J0 J2 rooms asks' says' rooms':Zb) (ds ds':List ah) (story:List (List Str)):(vs=[.ref t,.ref t',.ref sl])->(gK H t l1 l2 l3 l4 ts J0 J2 rooms ds)->(gK H t' l1' l2' l3' l4' ts' asks' says' rooms' ds')->(ax J0 J2 rooms ds)->(ax asks' says' rooms' ds')->(JoinOk J0 J2 rooms asks' says' rooms' ds ds')->(∀r∈rooms,∀a∈J0,gJ ds r a)->(∀r∈rooms',∀a∈asks',gJ ds' r a)->(ax (dQ J0 J2 asks' says') (J2++says') (cx rooms rooms') (pL ds ds' J2 says' rooms rooms' (aM J0 J2 asks' says'))) ->
  (H sl=some (.lst (us.map V.ref)))->(bY H us story)->(∀sg∈story,oX sg)->(∀H',ab H H'->Q (.bl (decide (faceOf (cx rooms rooms') (pL ds ds' J2 says' rooms rooms' (aM J0 J2 asks' says')) story≠[]))) H')->ui K vs H Q E
theorem uo{K:Za}{H:Hp}{a:Addr}{f:Zb}{Q:VK}(h:H a=some (.tup (f.map V.str)))(k:∀g,ab H g->Q (.bl (!decide (f=[]))) g):∀e,H e=none->tU K (.ref a) (.ref e) (upd H e (.tup [])) Q:=fun e i=>by
 refine⟨fT f,fT [],aW (br.of (ab.new i _ _ h)),aW (br.of (xs:=([]:Zb).map V.str) aa),by rw[bz];decide,by rw[bz];decide,?_⟩;rw[eI];exact k _ (ab.new i)
theorem Iw{L:List (List Str)}{a:Zb}:decide (fT a∈L.map fT)=decide (a∈L):=decide_eq_decide.2 ⟨fun z=>by
 obtain⟨v,f,e⟩:=aE.1 z;have:=of_decide_eq_true ((eI v a).symm.trans (zzr1 e));rw[<-this];exact f,fQ⟩
theorem JT{K:Za}{vs:List V}{H:Hp}{Q:VK}{E:XK}(h:ui K vs H Q E):Fk K (k6 K) (kD K) qd (bN Q) (start GH vs) H:=by
 obtain⟨t,l1,l2,l3,l4,t',M,N,O,U,sl,ts,Y,us,s,o,rooms,g,a,rooms',I,l,j,rfl,T,T',m,w,J,tk,b0,MJ,as,aC,shp,k⟩:=h;have r1:=J.r1;have r2:=J.r2;have z1:=m.says4;have z2:=w.says4;have z3:=m.asks4;have z4:=w.asks4;refine⟨_,rfl,_,rfl,t,l1,l2,l3,l4,t',M,N,O,U,ts,Y,s,o,rooms,g,a,rooms',I,l,rfl,T,T',m,w,fun gl gs H1 a0 a4 _ n=>?_⟩;refine⟨_,rfl,(by show 0<=ak;decide),fun e1 b1=>?_⟩;have L:ab H1 (upd H1 e1 (.lst [])):=ab.new b1;refine⟨t,e1,l1,l2,l3,l4,ts,[],[],s,o,rooms,I,rfl,T.same (n.trans L),m,aa,.nil,fun p H3 x S3=>?_⟩;have x:H3 p=some (.tup ((closF rooms I (rooms.take 1)).map V.str)):=x;refine⟨_,rfl,(by show 0<=ak;decide),fun e2 b2=>?_⟩;have S4:ab H3 (upd H3 e2 (.lst [])):=ab.new b2;have al:=L.trans (S3.trans S4);refine⟨t',e2,M,N,O,U,Y,[],[],g,a,rooms',l,rfl,T'.same (n.trans al),w,aa,.nil,fun q H5 A S5=>⟨(by show 2<=ak;decide),fun fs b3=>?_⟩⟩;have A:H5 q=some (.tup ((closF rooms' l (rooms'.take 1)).map V.str)):=A;have S6:ab H5 (upd H5 fs (.tup [.ref p,.ref q])):=ab.new b3;have an:upd H5 fs (.tup [.ref p,.ref q]) fs=some (.tup [.ref p,.ref q]):=aa;generalize upd H5 fs (.tup [.ref p,.ref q])=H6 at S6 an ⊢;have B:=al.trans (S5.trans S6);have C:=n.trans B;have C6:Jt H6 fs p q (closF rooms I (rooms.take 1)) (closF rooms' l (rooms'.take 1)):=⟨an,S6 _ _ (S5 _ _ (S4 _ _ x)),S6 _ _ A⟩;have a5:=B _ _ a0;have a6:=bY.kt (ab.kt B) a4;clear n L S3 S4 al S5 S6 B x A an a0 a4;have b4:=Paired.length aC;refine⟨_,rfl,sl,rfl,⟨_,ay.of (C _ _ as)⟩,?_⟩
 let zI:Nat->L2.St->Hp->Prop:=fun i σ H'=>NE6 fun(fs p q:Addr) (f D:Zb) (x5:Option V)=>Lg (σ=[some (.ref t),some (.ref t'),some (.ref sl),some (.ref gl),some (.ref fs),x5]) (ab H6 H') (Jt H' fs p q f D) (FI rooms I f) (FI rooms' l D) (faceOf (cx rooms rooms') (pL I l o a rooms rooms' (aM s o g a)) (j.take i)=kJ rooms rooms' f D)
 refine bw (xs:=us.map V.ref) zI ⟨fs,p,q,_,_,_,rfl,ab.refl _,C6,(nC m).fi,(nC w).fi,?_⟩ (fun i σ H' _ zq=>by obtain⟨_,_,_,_,_,_,_,S,_⟩:=zq;exact ay.of (S _ _ (C _ _ as))) ?_ ?_
 ·show closF _ _ _=_;exact Dp m w
 ·rintro i y σ G hi ⟨fs,p,q,f,D,x5,rfl,S,CC,F,F',eF⟩;obtain⟨u,hu,rfl⟩:=cg hi;obtain⟨v,a7,b5⟩:=Paired.getL aC hu;have S0:=C.trans S;have r:G u=some (.tup (v.map V.str)):=S0 _ _ b5;have lF:=F.len;have b6:=F'.len;have sh:=shp v (bX a7);have et:j.take (i+1)=j.take i++[v]:=take_snoc a7;refine gN ⟨_,rfl,_,rfl,fT v,(jC s o g a).map fT,gl,_,aW (br.of r),rfl,.inl (ay.of (S _ _ a5)),bY.dIns (bY.kt (ab.kt S) a6),by rw[bz];decide,bI (o9 _) (by decide),_,rfl,?_⟩;have ec:(if true=true then !decide (fT v∈(jC s o g a).map fT)else decide (fT v∈(jC s o g a).map fT))=!decide (v∈jC s o g a):=by rw[if_pos rfl,Iw]
  rw[ec];by_cases c:v∈jC s o g a
  ·have sJ:=np.1 c;rw[zzr1 c];refine bd ⟨_,rfl,_,rfl,.inr (.inl ⟨fs,_,0,_,rfl,rfl,br.of CC.hfs,rfl,_,rfl,t,p,u,l1,l2,l3,l4,ts,s,o,rooms,f,v,I,rfl,T.same S0,m,CC.hfa,br.of r,sh.two,by omega,fun a8 G1 a9 n=>?_⟩)⟩;have C1:=CC.kt (ab.kt n);refine⟨_,rfl,_,rfl,.inr (.inl ⟨fs,_,1,_,rfl,rfl,br.of C1.hfs,rfl,_,rfl,t',q,u,M,N,O,U,Y,g,a,rooms',D,v,l,rfl,T'.same (S0.trans n),w,C1.hfb,br.of (n _ _ r),sh.two,by omega,fun bb G2 bi L=>⟨(by show 2<=ak;decide),fun bl bn=>?_⟩⟩)⟩;have S3:ab G2 (upd G2 bl (.tup [.ref a8,.ref bb])):=ab.new bn;refine⟨bl,a8,bb,_,_,_,rfl,S.trans (n.trans (L.trans S3)),⟨aa,S3 _ _ (L _ _ a9),S3 _ _ bi⟩,Al m F,Al w F',?_⟩;rw[et,gF,eF];exact I_ m w J tk b0 F.sub F'.sub F.shut F'.shut sJ
  ·rw[zzr0 c];refine bU ?_;have e0:faceOf (cx rooms rooms') (pL I l o a rooms rooms' (aM s o g a)) j=[]:=by
    have es:j=j.take (i+1)++j.drop (i+1):=(yg _ _).symm;rw[es,lr,et,gF,Gy MJ sh (fun z=>c (np.2 z))];exact xH _
   rw[zzr0 (fun z=>z e0)]at k;exact k G S0
 ·rintro σ G ⟨fs,p,q,f,D,x5,rfl,S,CC,F,F',eF⟩;rw[ai,b4,bp]at eF;have S0:=C.trans S;have ap:=Ic (rooms:=rooms) (rooms':=rooms') F.sub F'.sub;rw[eF]at k;refine⟨_,rfl,.inr (.inl ⟨fs,_,0,_,rfl,rfl,br.of CC.hfs,rfl,(by show 0<=ak;decide),?_⟩)⟩;refine uo CC.hfa fun G1 n=>⟨_,rfl,?_⟩;by_cases c:f=[]
  ·rw[zzr1 c];refine bd ?_;rw[zzr0 (fun z=>(ap.1 z).1 c)]at k;exact k G1 (S0.trans n)
  ·rw[zzr0 c];have C1:=CC.kt (ab.kt n);refine bU ⟨_,rfl,.inr (.inl ⟨fs,_,1,_,rfl,rfl,br.of C1.hfs,rfl,(by show 0<=ak;decide),?_⟩)⟩;refine uo C1.hfb fun G2 L=>?_;have e:decide (kJ rooms rooms' f D≠[])=!decide (D=[]):=by
    by_cases c':D=[]
    ·rw[zzr1 c',zzr0 (fun z=>(ap.1 z).2 c')];rfl
    ·rw[zzr0 c',zzr1 (ap.2 ⟨c,c'⟩)];rfl
   rw[e]at k;exact k G2 (S0.trans (n.trans L))
theorem IW{K:Za}{H:Hp}{t M l1 l2 l3 l4 p N O U a l:Addr}{ts Y:Ze}{m J2 rooms e n j ws:Zb}{ds al:List ah}{σ:L2.St}{Q:Hp->Prop}(hσ:cP 1 [1,2] σ=[none,some (.ref t),some (.ref M)])(T:gK H t l1 l2 l3 l4 ts m J2 rooms ds)(T':gK H M p N O U Y e n j al)(z3:m.length<=4)(z4:e.length<=4)(ha:H a=some (.lst (ws.map V.str)))(lw:ws.length<=8)(hl:H l=none)
  (k:∀(f:Ze) (L:List (List Str)) (g:Hp),g l=some (.lst (f.map V.ref))->bY g f L->(∀r∈L,oX r)->L.length<=8->ab H g->Q g) :
  cF 1 [1,2] σ (Ce K a) U0 (aS (aD (ii K false) V0 (aD gR (aD (hW K) V1 (tC (.int 0))) (aD (hW K) V2 (tC (.int 0)))))) (bP (aO (tC (.str "ask")) V0)) H l Q:=by
 let zI:Nat->List V->Hp->Prop:=fun i s g=>∃(f:Ze) (L:List (List Str)),Lg (s=f.map V.ref) (bY g f L) (∀r∈L,oX r) (L.length<=i) (ab H g) (g l=some (.lst s))
 refine bQ (xs:=ws.map V.str) zI ⟨[],[],rfl,.nil,(fun _ z=>by cases z),c_ _,ab.new hl,aa⟩ (fun i s g _ zq=>by obtain⟨_,_,_,_,_,_,S,v⟩:=zq;exact⟨v,ay.of (S _ _ ha)⟩) ?_ ?_
 ·rintro s g ⟨f,L,rfl,D,E,ln,S,v⟩;rw[ai]at ln;exact k f L g v D E (by omega) S
 ·rintro i s y x hx hi ⟨f,L,rfl,D,E,ln,S,v⟩;obtain⟨w,hw,rfl⟩:=bh hx;rw[ai]at hi;have T1:=T.same S;have A:=T'.same S;rw[hσ];refine gN ⟨_,rfl,_,rfl,.inr (.inl ⟨t,_,0,_,rfl,rfl,br.of T1.t,rfl,_,rfl,.inr (.inl ⟨M,_,0,_,rfl,rfl,br.of A.t,rfl,l1,p,_,_,rfl,rfl,T1.a1,A.a1,by rw[ai,ai];exact cz (aq (by omega)),fun c hc=>?_⟩)⟩)⟩;have G:ab y (upd y c (.lst (m.map V.str++e.map V.str))):=ab.new hc;have c2:upd y c (.lst (m.map V.str++e.map V.str)) c=some (.lst ((m++e).map V.str)):=by rw[aa,ar]
  show ii K false (.str w) (.ref c) (upd y c (.lst (m.map V.str++e.map V.str))) _;generalize upd y c (.lst (m.map V.str++e.map V.str))=I at G c2 ⊢;have B:=S.trans G;have h2:=G _ _ v;have C:=bY.kt (ab.kt G) D;refine⟨dh w,(m++e).map dh,c,_,rfl,rfl,.inl (ay.of c2),gu _,c_ _,by rw[gH];decide,_,rfl,?_⟩;refine l6 (fun _=>?_) (fun _=>?_)
  ·refine⟨_,rfl,(by show 2<=ak;decide),fun u hu=>?_⟩;have J:ab I (upd I u (.tup [.str "ask",.str w])):=ab.new hu;have u3:upd I u (.tup [.str "ask",.str w]) u=some (.tup ((bT w).map V.str)):=aa;generalize upd I u (.tup [.str "ask",.str w])=H3 at J u3 ⊢;have h3:=J _ _ h2;have lu:=Paired.length D;have kt:gx H3 (upd H3 l (.lst (f.map V.ref++[.ref u]))):=cO h3;refine⟨h3,by rw[ai];exact aq (by omega),kL (by rw[ai];exact hi) ⟨f++[u],L++[bT w],by rw[ar];rfl,ee (bY.kt kt (bY.kt (ab.kt J) C)) (kt _ _ u3),fun r an=>?_,by rw[aA];show _+1<=_;omega,fun b o q=>?_,aa⟩⟩
   ·rcases bf.1 an with z|z
    ·exact E r z
    ·exact .inr (.inl ⟨w,cA.1 z⟩)
   ·rw[aj (ae q hl)];exact J _ _ (B _ _ q)
  ·exact kL (by rw[ai];exact hi) ⟨f,L,rfl,C,E,by omega,B,h2⟩
theorem vn{K:Za}{D:pF}{N G:Hp}{p c t t' l1 l2 l3 l4 al an ap as gl ol fs fa fb l xl:Addr}{ts aC y ws:Ze}{J0 J2 rooms e g a f f':Zb}{ds z:List ah}{h L:List (List Str)}{x7 x8 x9:Option V}
  (A:gM N p c) (T:gK N t l1 l2 l3 l4 ts J0 J2 rooms ds) (T':gK N t' al an ap as aC e g a z) (m:ax J0 J2 rooms ds) (m':ax e g a z) (ex:dZ p N G) (hp:gM G p c) (O:N l=none) (a0:G l=some (.lst (y.map V.ref))) (a4:bY G y h) (lst:h.length<=100) (Q:G xl=some (.lst (ws.map V.ref))) (a5:bY G ws L) (ne:L≠[]) (bn:∀s∈L,oX s) (lL:L.length<=100) (CC:Jt G fs fa fb f f') (lf:f.length<=1000) (b0:f'.length<=1000)
  (k:∀(u v B C:Addr) (s:Zb) (Y:Hp),s∈L->dZ p N Y->gM Y p c->Y l=some (.lst ((y++[u]).map V.ref))->bY Y (y++[u]) (h++[s])->Jt Y v B C (besF J0 J2 rooms ds f s) (besF e g a z f' s)->D.nx [some (.ref p),some (.ref t),some (.ref t'),some (.ref gl),some (.ref ol),some (.ref v),some (.ref l),x7,x8,some (.ref u),some (.ref xl)] Y) :
  (au (aT (aD (df K) GB (aL gb (aO V0 (eM (fH K) (aB GB))))) U9)
  (au (cM (vi K "list" dX V6 (aB V9)))
  (aT (bP (av (aL (k6 K) (dq V1 (aD (hW K) V5 (tC (.int 0))) V9)) (av (aL (k6 K) (dq V2 (aD (hW K) V5 (tC (.int 1))) V9)) aY))) U5))) D [some (.ref p),some (.ref t),some (.ref t'),some (.ref gl),some (.ref ol),some (.ref fs),some (.ref l),x7,x8,x9,some (.ref xl)] G:=by
 have lw:=Paired.length a5;have b4:0<L.length:=uE.2 ne;refine⟨_,rfl,_,rfl,_,rfl,.inl ⟨xl,_,rfl,.inl (ay.of Q),?_⟩⟩;rw[ai];refine fG hp (by omega) (by omega) fun r J r0 r1 b1 E=>?_;obtain⟨n,rfl⟩:=kS r0;have U:gx G J:=by obtain⟨ys,hy⟩:=hp.lst;exact E.kt hy
 obtain⟨u,hu⟩:∃u,ws[n]?=some u:=⟨_,iY (by omega)⟩;obtain⟨s,b2,b3⟩:=Paired.getL a5 hu;have a6:J u=some (.tup (s.map V.str)):=U _ _ b3;have a7:=bX b2;refine⟨xl,_,_,.ref u,rfl,rfl,ay.of (E _ _ Q (hp.ne_refs Q)),cn (j:=n) (by rw[cS,hu];rfl),?_⟩;have w:=E _ _ a0 (hp.ne_refs a0);have b5:=Paired.length a4;refine⟨_,rfl,.inl ⟨rfl,_,ay.of w⟩,_,rfl,l,_,_,rfl,rfl,w,by rw[ai];exact aq (by omega),?_⟩;have H:gx J (upd J l (.lst (y.map V.ref++[.ref u]))):=cO w;have I:dZ p N (upd J l (.lst (y.map V.ref++[.ref u]))):=fun b o q n=>by rw[aj (ae q O)];exact(ex.trans E) _ _ q n
 have a8:gM (upd J l (.lst (y.map V.ref++[.ref u]))) p c:=b1.upd (A.nep O) (A.nec O);have a9:upd J l (.lst (y.map V.ref++[.ref u])) l=some (.lst ((y++[u]).map V.ref)):=by rw[aa,ar];rfl
 have M:=bY.kt H (bY.kt U a4);have C2:=(CC.kt U).kt H;have i:=H _ _ a6;generalize upd J l (.lst (y.map V.ref++[.ref u]))=G2 at H I a8 a9 M C2 i ⊢;have sh:=bn s a7;refine⟨_,rfl,_,rfl,.inr (.inl ⟨fs,_,0,_,rfl,rfl,br.of C2.hfs,rfl,_,rfl,t,fa,u,l1,l2,l3,l4,ts,J0,J2,rooms,f,s,ds,rfl,T.ex A I,m,C2.hfa,br.of i,sh.two,lf,fun B G3 bb S3=>?_⟩)⟩;have C3:=C2.kt (ab.kt S3);refine⟨_,rfl,_,rfl,.inr (.inl ⟨fs,_,1,_,rfl,rfl,br.of C3.hfs,rfl,_,rfl,t',fb,u,al,an,ap,as,aC,e,g,a,f',s,z,rfl,(T'.ex A I).same S3,m',C3.hfb,br.of (S3 _ _ i),sh.two,b0,fun C G4 bi S4=>⟨(by show 2<=ak;decide),fun v bl=>?_⟩⟩)⟩;have S5:ab G4 (upd G4 v (.tup [.ref B,.ref C])):=ab.new bl;have x:=S3.trans (S4.trans S5);exact k u v B C s _ a7 (fun b o q n=>x _ _ (I b o q n)) (a8.ex x) (x _ _ a9) (ee (bY.kt (ab.kt x) M) (x _ _ i)) ⟨aa,S5 _ _ (S4 _ _ bb),S5 _ _ bi⟩
inductive uf(K:Za)(vs:List V)(H:Hp)(Q:VK)(E:XK):Prop
 |mk (p c t l1 l2 l3 l4 t' l1' l2' l3' l4':Addr) (ts ts':Ze) (J0 J2 rooms asks' says' rooms':Zb) (ds ds':List ah):(vs=[.ref p,.ref t,.ref t'])->(gM H p c)->(gK H t l1 l2 l3 l4 ts J0 J2 rooms ds)->(gK H t' l1' l2' l3' l4' ts' asks' says' rooms' ds')->(ax J0 J2 rooms ds)->(ax asks' says' rooms' ds') ->
  (∀(l:Addr) (us:Ze) (story:List (List Str)) (H':Hp),H' l=some (.lst (us.map V.ref))->bY H' us story->(∀sg∈story,oX sg)->story.length<=15->gM H' p c->dZ p H H'->Q (.ref l) H')->uf K vs H Q E
theorem JP{K:Za}{vs:List V}{H:Hp}{Q:VK}{E:XK}(h:uf K vs H Q E):Cp K gb (k6 K) (kD K) qd (bN Q) (start DE vs) H:=by
 obtain⟨p,c,t,l1,l2,l3,l4,t',cs,b2,ct,c0,ts,c2,J0,J2,rooms,asks',says',a,ds,N,rfl,hp,T,T',m,m',k⟩:=h;have z1:=m.says4;have z2:=m'.says4;have z3:=m.asks4;have z4:=m'.asks4;have z5:=m.rooms26;have z6:=m'.rooms26;have zs:=Fu (J0:=J0) (J2:=J2) (asks':=asks') (says':=says');refine⟨_,rfl,_,rfl,t,l1,l2,l3,l4,t',cs,b2,ct,c0,ts,c2,J0,J2,rooms,asks',says',a,ds,N,rfl,T,T',m,m',fun gl gs H1 c3 c4 _ S1=>?_⟩;have eu:=Paired.length c4;have T1:=T.same S1;have b3:=T'.same S1;refine⟨_,rfl,_,rfl,.inr (.inl ⟨t,_,1,_,rfl,rfl,br.of T1.t,rfl,_,rfl,.inr (.inl ⟨t',_,1,_,rfl,rfl,br.of b3.t,rfl,l2,b2,_,_,rfl,rfl,T1.a2,b3.a2,by rw[ai,ai];exact cz (aq (by omega)),fun c1 ek=>?_⟩)⟩)⟩;have O:ab H1 (upd H1 c1 (.lst (J2.map V.str++says'.map V.str))):=ab.new ek;have c5:upd H1 c1 (.lst (J2.map V.str++says'.map V.str)) c1=some (.lst ((J2++says').map V.str)):=by rw[aa,ar]
 refine⟨c1,rfl,⟨_,ay.of aa⟩,fun ls dx=>?_⟩;generalize upd H1 c1 (.lst (J2.map V.str++says'.map V.str))=H2 at O c5 dx ⊢;refine IW rfl (T1.same O) (b3.same O) z3 z4 c5 (by rw[aA];omega) dx fun aC L0 H3 h3 da el ev B=>?_;have db:=O.trans B;have ew:=Paired.length da;refine⟨gl,ls,_,_,rfl,rfl,db _ _ c3,h3,by rw[ai,ai];exact cz (aq (by omega)),fun ol em=>?_⟩;have S4:ab H3 (upd H3 ol (.lst (gs.map V.ref++aC.map V.ref))):=ab.new em;have dc:upd H3 ol (.lst (gs.map V.ref++aC.map V.ref)) ol=some (.lst ((gs++aC).map V.ref)):=by rw[aa,ar]
 generalize upd H3 ol (.lst (gs.map V.ref++aC.map V.ref))=H4 at S4 dc ⊢;have b4:=db.trans S4;have cc:=b4 _ _ c3;have a0:=bY.kt (ab.kt b4) c4;have cd:bY H4 (gs++aC) (jC J0 J2 asks' says'++L0):=Paired.app a0 (bY.kt (ab.kt S4) da);have b5:∀l∈jC J0 J2 asks' says'++L0,oX l:=fun l dd=>by
  rcases bf.1 dd with z|z
  ·exact(np.1 z).shp
  ·exact el l z
 have Y:=S1.trans b4;clear S1 O B db S4 b4 T1 b3 c3 c4 h3 da c5;refine⟨_,rfl,(by show 0<=ak;decide),fun e1 en=>?_⟩;have S5:ab H4 (upd H4 e1 (.lst [])):=ab.new en;refine⟨t,e1,l1,l2,l3,l4,ts,[],[],J0,J2,rooms,ds,rfl,T.same (Y.trans S5),m,aa,.nil,fun fa H6 b6 S6=>?_⟩;have b6:H6 fa=some (.tup ((closF rooms ds (rooms.take 1)).map V.str)):=b6;refine⟨_,rfl,(by show 0<=ak;decide),fun e2 ep=>?_⟩;have S7:ab H6 (upd H6 e2 (.lst [])):=ab.new ep;have di:=S5.trans (S6.trans S7);refine⟨t',e2,cs,b2,ct,c0,c2,[],[],asks',says',a,N,rfl,T'.same (Y.trans di),m',aa,.nil,fun fb H8 b7 S8=>⟨(by show 2<=ak;decide),fun fs er=>?_⟩⟩;have b7:H8 fb=some (.tup ((closF a N (a.take 1)).map V.str)):=b7;have S9:ab H8 (upd H8 fs (.tup [.ref fa,.ref fb])):=ab.new er;have dm:upd H8 fs (.tup [.ref fa,.ref fb]) fs=some (.tup [.ref fa,.ref fb]):=aa;generalize upd H8 fs (.tup [.ref fa,.ref fb])=H9 at S9 dm ⊢;have al:=di.trans (S8.trans S9);have C9:Jt H9 fs fa fb (closF rooms ds (rooms.take 1)) (closF a N (a.take 1)):=⟨dm,S9 _ _ (S8 _ _ (S7 _ _ b6)),S9 _ _ b7⟩;have b8:=Y.trans al;have T9:=T.same b8;have b9:=T'.same b8;have v:=hp.ex b8;have ce:=al _ _ cc;have dy:=bY.kt (ab.kt al) a0;have dK:=al _ _ dc;have dT:=bY.kt (ab.kt al) cd;clear Y S5 S6 S7 di S8 S9 al b6 b7 dm T T' hp cc a0 dc cd;refine⟨(by show 0<=ak;decide),fun sl a7=>?_⟩;have an:ab H9 (upd H9 sl (.lst [])):=ab.new a7;have a8:upd H9 sl (.lst []) sl=some (.lst (([]:Ze).map V.ref)):=aa;generalize upd H9 sl (.lst [])=es at an a8 ⊢;refine⟨_,rfl,fG (v.ex an) (by decide) (by decide) fun sn dV s0 s1 ch U=>⟨_,rfl,by omega,by omega,?_⟩⟩;have d0:dZ p H9 dV:=fun b o q n=>U b o (an _ _ q) n;have ci:gx es dV:=by obtain⟨ys,hy⟩:=(v.ex an).lst;exact U.kt hy
 let zI:Nat->L2.St->Hp->Prop:=fun i σ H'=>NE8 fun(us:Ze) (g:List (List Str)) (fs fa fb:Addr) (f f':Zb) (x7:Option V)=>Mu fun(x8 x9 a9:Option V) (_:Unit)=>LM (σ=[some (.ref p),some (.ref t),some (.ref t'),some (.ref gl),some (.ref ol),some (.ref fs),some (.ref sl),x7,x8,x9,a9]) (KH (gM H' p c) (dZ p H9 H') (H' sl=some (.lst (us.map V.ref))) (bY H' us g) (∀l∈g,oX l)) (Js (g.length=i) (Jt H' fs fa fb f f') (FI rooms ds f) (FI a N f'))
 refine kP zI ⟨[],[],fs,fa,fb,_,_,_,_,_,_,(),rfl,⟨ch,d0,U _ _ a8 ((v.nep a7).symm),.nil,fun _ z=>by cases z⟩,⟨rfl,(C9.kt (ab.kt an)).kt ci,(nC m).fi,(nC m').fi⟩⟩ ?_ ?_;rotate_left
 ·rintro σ G ⟨us,g,fs,fa,fb,f,f',x7,x8,x9,a9,_,rfl,⟨dn,C,D,I,dp⟩,⟨lG,_,_,_⟩⟩;exact⟨_,rfl,k sl us g G D I dp (by omega) dn (fun b o q n=>C b o (b8 _ _ q) n)⟩
 clear an a8 ch U d0 ci C9;rintro i σ G hi ⟨us,g,fs,fa,fb,f,f',x7,x8,x9,a9,_,rfl,⟨dn,C,D,I,dp⟩,⟨lG,CG,F,F'⟩⟩;have lF:=F.len;have ey:=F'.len;have d3:gx H9 G:=by obtain⟨ys,hy⟩:=v.lst;exact C.kt hy
 refine⟨(by show 0<=ak;decide),fun dl d5=>?_⟩;have Sd:ab G (upd G dl (.lst [])):=ab.new d5;have d1:upd G dl (.lst []) dl=some (.lst (([]:Ze).map V.ref)):=aa;generalize upd G dl (.lst [])=G1 at Sd d1 ⊢;have cl:=C _ _ ce (v.ne_refs ce);have d7:=bY.kt d3 dy;refine⟨_,rfl,gl,rfl,⟨_,ay.of (Sd _ _ cl)⟩,?_⟩
 let zJ:Nat->L2.St->Hp->Prop:=fun j σ H'=>Lf fun(ws:Ze) (L:List (List Str)) (x9:Option V)=>Lg (σ=[some (.ref p),some (.ref t),some (.ref t'),some (.ref gl),some (.ref ol),some (.ref fs),some (.ref sl),some (.int (0+(i:Nat))),some (.ref dl),x9,a9]) (ab G H') (H' dl=some (.lst (ws.map V.ref))) (bY H' ws L) (∀l∈L,oX l) (L.length<=j)
 refine bw (xs:=gs.map V.ref) zJ ⟨[],[],_,rfl,Sd,d1,.nil,(fun _ z=>by cases z),aR _⟩ (fun j σ H' _ zq=>by obtain⟨_,_,_,_,S,_⟩:=zq;exact ay.of (S _ _ cl)) ?_ ?_
 ·rintro j y σ G2 hj ⟨ws,L,x9,rfl,O,d2,ap,bb,d8⟩;obtain⟨u,hu,rfl⟩:=cg hj;obtain⟨l,dd,et⟩:=Paired.getL d7 hu;have jl:=(bM.1 hu).1;have bi:G2 u=some (.tup (l.map V.str)):=O _ _ et;have sh:=(np.1 (bX dd)).shp;have C2:=CG.kt (ab.kt O);have no:∀{G3:Hp}{x9:Option V},ab G2 G3->zJ (j+1) [some (.ref p),some (.ref t),some (.ref t'),some (.ref gl),some (.ref ol),some (.ref fs),some (.ref sl),some (.int (0+(i:Nat))),some (.ref dl),x9,a9] G3:=fun B=>⟨ws,L,_,rfl,O.trans B,B _ _ d2,bY.kt (ab.kt B) ap,bb,by omega⟩;refine gN ⟨_,rfl,_,rfl,.inr (.inl ⟨fs,_,0,_,rfl,rfl,br.of C2.hfs,rfl,_,rfl,t,fa,u,l1,l2,l3,l4,ts,J0,J2,rooms,f,l,ds,rfl,(T9.ex v C).same O,m,C2.hfa,br.of bi,sh.two,by omega,fun w G3 d9 B=>⟨(by show 0<=ak;decide),?_⟩⟩)⟩;refine uo d9 fun G4 S4=>⟨_,rfl,?_⟩;have bl:=B.trans S4;refine l6 (fun _=>?_) (fun _=>bd (no bl));have C4:=C2.kt (ab.kt bl);have Y:=O.trans bl;refine⟨_,rfl,_,rfl,.inr (.inl ⟨fs,_,1,_,rfl,rfl,br.of C4.hfs,rfl,_,rfl,t',fb,u,cs,b2,ct,c0,c2,asks',says',a,f',l,N,rfl,(b9.ex v C).same Y,m',C4.hfb,br.of (bl _ _ bi),sh.two,by omega,fun x G5 ea S5=>⟨(by show 0<=ak;decide),?_⟩⟩)⟩;refine uo ea fun G6 S6=>⟨_,rfl,?_⟩;have bn:=bl.trans (S5.trans S6);refine l6 (fun _=>?_) (fun _=>no bn);have d6:=bn _ _ d2;have lw:=Paired.length ap;have kt:gx G6 (upd G6 dl (.lst (ws.map V.ref++[.ref u]))):=cO d6;refine⟨_,rfl,.inl ⟨rfl,_,ay.of d6⟩,_,rfl,dl,_,_,rfl,rfl,d6,by rw[ai];exact aq (by omega),ws++[u],L++[l],_,rfl,fun b o q=>?_,by rw[aa,ar];rfl,ee (bY.kt kt (bY.kt (ab.kt bn) ap)) (kt _ _ (bn _ _ bi)),fun s hs=>?_,by rw[aA];show _+1<=_;omega⟩
  ·rw[aj (ae q d5)];exact bn _ _ (O _ _ q)
  ·rcases bf.1 hs with z|z
   ·exact bb s z
   ·rw[cA.1 z];exact sh
 ·rintro σ G2 ⟨ws,L,x9,rfl,O,d2,ap,bb,d8⟩;rw[ai]at d8;have dr:∀(u A w x:Addr) (l:Zb) (y8 eb:Option V) (G':Hp),oX l->dZ p H9 G'->gM G' p c->G' sl=some (.lst ((us++[u]).map V.ref))->bY G' (us++[u]) (g++[l])->Jt G' A w x (besF J0 J2 rooms ds f l) (besF asks' says' a N f' l)->zI (i+1) [some (.ref p),some (.ref t),some (.ref t'),some (.ref gl),some (.ref ol),some (.ref A),some (.ref sl),some (.int (0+(i:Nat))),y8,some (.ref u),eb] G':=fun u A w x l y8 eb G' h1 h2 h3 h4 h5 h6=>⟨us++[u],g++[l],A,w,x,_,_,_,_,_,_,(),rfl,⟨h3,h2,h4,h5,fun s hs=>by
   rcases bf.1 hs with z|z
   ·exact dp s z
   ·rw[cA.1 z];exact h1⟩,⟨by rw[aA,lG];rfl,h6,Al m F,Al m' F'⟩⟩
  have ec:dZ p H9 G2:=fun b o q n=>O _ _ (C b o q n);have cm:=bY.kt d3 dT;have dt:=C _ _ dK (v.ne_refs dK);have lO:(jC J0 J2 asks' says'++L0).length<=100:=by rw[aA];omega
  have ed:∀M:List (List Str),jC J0 J2 asks' says'++M≠[]:=fun M z=>by
   have:=congrArg List.length z;unfold jC at this;rw[aA,aA]at this;have h1:([az]:List (List Str)).length=1:=rfl;have h2:([]:List (List Str)).length=0:=rfl;omega
  refine⟨_,rfl,_,rfl,(by show 0<=ak;decide),fun e he=>?_⟩;have B:ab G2 (upd G2 e (.lst [])):=ab.new he;have e3:upd G2 e (.lst []) e=some (.lst []):=aa;show tU K (.ref dl) (.ref e) (upd G2 e (.lst [])) _;generalize upd G2 e (.lst [])=G3 at B e3 ⊢;have J:=O.trans B;have ef:dZ p H9 G3:=fun b o q n=>B _ _ (ec b o q n);refine⟨.s (L.map fT),.s [],(by unfold iK;exact⟨dl,_,rfl,ay.of (B _ _ d2),bY.dIns (bY.kt (ab.kt B) ap)⟩),(by unfold iK;exact⟨e,_,rfl,ay.of e3,by unfold DIns;rfl⟩),(by show DT.depths _+1<=8;have:=o9 L;omega),(by decide),_,rfl,?_⟩;have as:gM G3 p c:=dn.ex J;have ca:gx G G3:=ab.kt J;by_cases cL:L=[]
  ·have eL:DT.s (L.map fT)=DT.s []:=by rw[cL];rfl
   rw[zzr1 eL];refine bd (bd ?_);exact vn v T9 b9 m m' ef as a7 (J _ _ D) (bY.kt ca I) (by omega) (J _ _ dt) (bY.kt ca cm) (ed _) b5 lO (CG.kt ca) (by omega) (by omega) fun u A w x l G' a1 a2 a3 a4 a5 a6=>dr u A w x l _ _ G' (b5 l a1) a2 a3 a4 a5 a6
  ·have eL:DT.s (L.map fT)≠DT.s []:=fun z=>by injection z with z;exact cL (List.map_eq_nil_iff.1 z)
   rw[zzr0 eL];refine bU ⟨_,rfl,fG as (by decide) (by decide) fun r G4 r0 r1 eh b0=>⟨_,_,rfl,rfl,_,rfl,?_⟩⟩;have co:dZ p H9 G4:=ef.trans b0;have cq:gx G3 G4:=by obtain⟨ys,hy⟩:=as.lst;exact b0.kt hy
   have b1:gx G G4:=gx.trans ca cq;have ej:=b0 _ _ (J _ _ D) (as.ne_refs (J _ _ D));refine l6 (fun _=>?_) (fun _=>?_)
   ·have d4:=b0 _ _ (B _ _ d2) (as.ne_refs (B _ _ d2));refine⟨_,rfl,?_⟩;exact vn v T9 b9 m m' co eh a7 ej (bY.kt b1 I) (by omega) d4 (bY.kt (gx.trans (ab.kt B) cq) ap) cL bb (by omega) (CG.kt b1) (by omega) (by omega) fun u A w x l G' a1 a2 a3 a4 a5 a6=>dr u A w x l _ _ G' (bb l a1) a2 a3 a4 a5 a6
   ·exact vn v T9 b9 m m' co eh a7 ej (bY.kt b1 I) (by omega) (b0 _ _ (J _ _ dt) (as.ne_refs (J _ _ dt))) (bY.kt b1 cm) (ed _) b5 lO (CG.kt b1) (by omega) (by omega) fun u A w x l G' a1 a2 a3 a4 a5 a6=>dr u A w x l _ _ G' (b5 l a1) a2 a3 a4 a5 a6
inductive mZ(C:Addr)(vs:List V)(H:Hp)(Q:VK)(E:XK):Prop
 |mk (x:Addr) (J0 J2 rooms:Zb) (ds:List ah):(vs=[.ref x])->(bc C H x J0 J2 rooms ds)->(∀(t l1 l2 l3 l4:Addr) (ts:Ze) (H':Hp),gK H' t l1 l2 l3 l4 ts J0 J2 rooms ds->ab H H'->Q (.ref t) H')->mZ C vs H Q E
theorem Fx{K:Za}{C:Addr}{Y:List V}{H:Hp}{Q:VK}{E:XK}(h:mZ C Y H Q E):wt K C (qp C) (fX C) (jX C) (jY C) (bN Q) (start wV Y) H:=by
 obtain⟨x,f,g,rooms,I,rfl,a,k⟩:=h;obtain⟨J,fs,L,a1,a2,a3,a4,_⟩:=a.mth;refine⟨_,rfl,x,J,fs,rfl,L,a1,x,f,g,rooms,I,rfl,a,fun j M=>?_⟩;have z:ab H (upd H j (.lst (f.map V.str))):=ab.new M;have p:upd H j (.lst (f.map V.str)) j=some (.lst (f.map V.str)):=aa;generalize upd H j (.lst (f.map V.str))=A at z p ⊢;have M1:=a.same z;refine⟨_,rfl,x,J,fs,rfl,z _ _ L,a2,x,f,g,rooms,I,rfl,M1,fun l N=>?_⟩;have O:ab A (upd A l (.lst (g.map V.str))):=ab.new N;have q:upd A l (.lst (g.map V.str)) l=some (.lst (g.map V.str)):=aa;generalize upd A l (.lst (g.map V.str))=B at O q ⊢;have i:=z.trans O;refine⟨_,rfl,x,J,fs,rfl,i _ _ L,a3,x,f,g,rooms,I,rfl,a.same i,fun m T=>?_⟩;have D:ab B (upd B m (.lst (rooms.map V.str))):=ab.new T;have r:upd B m (.lst (rooms.map V.str)) m=some (.lst (rooms.map V.str)):=aa;generalize upd B m (.lst (rooms.map V.str))=G at D r ⊢;have s:=i.trans D;obtain⟨u,o4,v,n,w,_,b2,b3,b4,b5⟩:=(a.same s).own;refine⟨_,rfl,x,u,v,rfl,w,b2,x,u,o4,v,n,rfl,w,b3,b4,fun o U=>?_⟩;have S4:ab G (upd G o (.lst (n.map V.ref))):=ab.new U;have y:upd G o (.lst (n.map V.ref)) o=some (.lst (n.map V.ref)):=aa;show _/\_;generalize upd G o (.lst (n.map V.ref))=H4 at S4 y ⊢;refine⟨(by show 4<=ak;decide),fun t ht=>?_⟩;have S5:ab H4 (upd H4 t (.tup [.ref j,.ref l,.ref m,.ref o])):=ab.new ht;have e:=S4.trans S5;exact k t j l m o n _ ⟨aa,(O.trans (D.trans e)) _ _ p,(D.trans e) _ _ q,e _ _ r,S5 _ _ y,b5.kt (ab.kt e)⟩ (s.trans e)
theorem Dv{K:Za}{H:Hp}{E l:Addr}{y:Ze}{w:List ah}{σ:L2.St}{Q:Hp->Prop}(z:H E=some (.lst (y.map V.ref)))(h:Paired (Jk K H) y w)(U:w.length<=200000)(G:H l=none)
  (k:∀(a:Ze) (f:Hp),f l=some (.lst (a.map V.ref))->sD K f a (dw w)->ab H f->Q f) :
  cF 1 [] σ (Ce K E) U0 (aS (aD (HW K) (aD (hW K) V0 (tC (.int 1))) (bP (aB (tC (.str "still")))))) (aD (hW K) V0 (tC (.int 1))) H l Q:=by
 let M:Nat->List V->Hp->Prop:=fun i j f=>∃a:List Addr,Js (j=a.map V.ref) (sD K f a (dw (w.take i))) (ab H f) (f l=some (.lst j))
 refine bQ (xs:=y.map V.ref) M ⟨[],rfl,.nil,ab.new G,aa⟩ (fun i j f _ N=>by obtain⟨_,_,_,S,m⟩:=N;exact⟨m,ay.of (S _ _ z)⟩) ?_ ?_
 ·rintro j f ⟨a,rfl,n,S,m⟩;rw[ai,Paired.length h,bp]at n;exact k a f m n S
 ·rintro i j A x hx hi ⟨a,rfl,n,S,m⟩;obtain⟨u,O,rfl⟩:=cg hx;obtain⟨d,I,B⟩:=Paired.getL h O;obtain⟨s,e,J⟩:=B.kt (ab.kt S);have Y:i<w.length:=(bM.1 I).1;refine gN ⟨_,rfl,.inr (.inl ⟨u,_,1,_,rfl,rfl,br.of e,rfl,(by show 1<=ak;decide),fun p L=>⟨fT d.sg,fT ao,aW (bV.sq (bV.kt (ab.kt (ab.new L)) J)),aW (br.of aa),by rw[bz];decide,by rw[bz];decide,_,rfl,?_⟩⟩)⟩;rw[eI];have g:ab A (upd A p (.tup [.str "still"])):=ab.new L;generalize upd A p (.tup [.str "still"])=C at g ⊢;have v:=Gg I;have D:=g _ _ m;have t:=sD.same g n;by_cases c:d.sg=ao
  ·rw[zzr1 c]at v ⊢;refine bd (kL hi ⟨a,rfl,?_,S.trans g,D⟩);rw[v];show sD K C a (_++[]);rw[dS];exact t
  ·rw[zzr0 c]at v ⊢;have zg:=Paired.length n;have T:=Dm (w.take i);rw[aX]at T;refine bU ⟨_,rfl,.inr (.inl ⟨u,_,1,_,rfl,rfl,br.of (g _ _ e),rfl,D,?_,kL hi ⟨a++[s],by rw[ar];rfl,?_,fun b o q=>?_,aa⟩⟩)⟩
   ·rw[ai,ma];omega
   ·rw[v];have kt:gx C (upd C l (.lst (a.map V.ref++[.ref s]))):=cO D;exact ee (Paired.mapP t fun _ _ r=>bV.kt kt r) (bV.kt kt (bV.kt (ab.kt g) J))
   ·rw[aj (ae q G)];exact g _ _ (S _ _ q)
theorem Gs{K:Za}{H:Hp}{G l:Addr}{t:Ze}{a:List (List Str)}{σ:L2.St}{Q:Hp->Prop}(A:H G=some (.lst (t.map V.ref)))(m:bY H t a)(zs:a.length<=100)(I:H l=none)
  (k:∀(e:List Nat) (f:Hp),f l=some (.lst (e.map fun n:Nat=>V.int n))->(∀n∈e,a[n]?=some az)->e.length<=100->ab H f->Q f) :
  cF 2 [] σ (LR K G) (jk K 2 (bx U0 (bx U1 (iW)))) (aS (aD (Lm K) V1 (bP (aB (tC (.str "hush")))))) V0 H l Q:=by
 have T:=Paired.length m
 let U:Nat->List V->Hp->Prop:=fun i r f=>∃e:List Nat,KH (r=e.map fun n:Nat=>V.int n) (∀n∈e,a[n]?=some az) (e.length<=i) (ab H f) (f l=some (.lst r))
 refine vO (xs:=t.map V.ref) U ⟨[],rfl,(fun _ z=>by cases z),aR _,ab.new I,aa⟩ (fun i r f _ Y=>by obtain⟨_,_,_,_,S,j⟩:=Y;exact⟨j,ay.of (S _ _ A)⟩) ?_ ?_
 ·rintro r f ⟨e,rfl,v,J,S,j⟩;rw[ai]at J;exact k e f j v (by omega) S
 ·rintro i r w x p hx hi ⟨e,rfl,v,J,S,j⟩ hp;obtain⟨u,hu,rfl⟩:=cg hx;obtain⟨B,C,D⟩:=Paired.getL m hu;have L:ab w (upd w p (.tup [.int i,.ref u])):=ab.new hp;have M:upd w p (.tup [.int i,.ref u]) p=some (.tup [.int i,.ref u]):=aa;generalize upd w p (.tup [.int i,.ref u])=y at L M ⊢;have il:i<t.length:=by rw[ai]at hi;exact hi
  refine⟨p,_,rfl,br.of M,rfl,_,_,rfl,_,_,rfl,rfl,_,rfl,(by show 1<=ak;decide),fun q hq=>?_⟩;have N:ab y (upd y q (.tup [.str "hush"])):=ab.new hq;have O:upd y q (.tup [.str "hush"]) q=some (.tup (az.map V.str)):=aa;generalize upd y q (.tup [.str "hush"])=H3 at N O ⊢;have g:=L.trans N;have h:=S.trans g;have s:H3 u=some (.tup (B.map V.str)):=h _ _ D;refine⟨fT B,fT az,aW (br.of s),aW (br.of O),by rw[bz];decide,by rw[bz];decide,_,rfl,?_⟩;rw[eI];by_cases c:B=az
  ·rw[zzr1 c];refine bU ⟨_,rfl,g _ _ j,by rw[ai];exact aq (by omega),kL hi ⟨e++[i],by rw[ar];rfl,fun n E=>?_,by rw[aA];show _+1<=_;omega,fun b o q=>?_,aa⟩⟩
   ·rcases bf.1 E with z|z
    ·exact v n z
    ·rw[cA.1 z,C,c]
   ·rw[aj (ae q I)];exact h _ _ q
  ·rw[zzr0 c];exact bd (kL hi ⟨e,rfl,v,by omega,h,g _ _ j⟩)
inductive sp_law70(K:Za)(vs:List V)(H:Hp)(Q:VK)(E:XK):Prop
 |mk (a:Addr) (ns:List Int):(vs=[.ref a])->(ay K H a (ns.map V.int))->(ns.length<=63)->(∀H',Q (.bl true) H')->sp_law70 K vs H Q E
theorem HH{K:Za}{C:Addr}{vs:List V}{H:Hp}{Q:VK}{E:XK}(h:sp_law70 K vs H Q E):JE K (dA C) (m9 K) (mZ C) (qa K C) (fh K 4) (ui K) (uf K) (jq C) (k5 C) ue (uh K) (bN Q) (start EZ vs) H:=by
 obtain⟨a,ns,rfl,hs,hn,k⟩:=h;refine⟨_,rfl,a,ns,rfl,hs,hn,fun p c H1 _ L S1=>?_⟩;refine⟨_,rfl,p,c,rfl,L,fun l t l1 l2 l3 l4 t' ca cc cd ce ts ch J0 J2 rooms v q o ds a0 H2 dc T2 ci m m' tk dd J r3 d8 a4 _=>⟨l,_,rfl,ay.of dc,rfl,_,_,rfl,_,_,rfl,rfl,?_⟩⟩;clear L S1;have few:=Ks m m' J r3 d8;have MJ:=Iv m m' J few;refine⟨_,rfl,t,l1,l2,l3,l4,ts,J0,J2,rooms,ds,rfl,T2,m,fun M H3 M3 S3=>?_⟩;refine⟨_,rfl,t',ca,cc,cd,ce,ch,v,q,o,a0,rfl,ci.same S3,m',fun N H4 N4 S4=>?_⟩;refine⟨M,N,J0,J2,rooms,v,q,o,ds,a0,rfl,M3.same S4,N4,J,tk,dd,few,fun x H5 X5 S5=>?_⟩;have b2:=S3.trans (S4.trans S5);have T5:=T2.same b2;have cl:=ci.same b2;have a5:=a4.ex b2;clear T2 ci a4 dc M3 N4 S3 S4 S5 b2;generalize di:cx rooms o=nm at MJ X5;generalize dm:pL ds a0 J2 q rooms o (aM J0 J2 v q)=DJ at MJ X5;refine⟨_,rfl,_,rfl,_,rfl,p,c,t,l1,l2,l3,l4,t',ca,cc,cd,ce,ts,ch,J0,J2,rooms,v,q,o,ds,a0,rfl,a5,T5,cl,m,m',fun sl g f H6 cm co shp lst ev b3=>?_⟩;have X6:=X5.ex a5 b3;have T6:=T5.ex a5 b3;have dn:=cl.ex a5 b3;clear T5 cl X5 a5 b3;refine⟨_,rfl,_,rfl,_,rfl,t,l1,l2,l3,l4,t',ca,cc,cd,ce,sl,ts,ch,g,J0,J2,rooms,v,q,o,ds,a0,f,rfl,T6,dn,m,m',J,tk,dd,by rw[di,dm];exact MJ,cm,co,shp,fun H7 S7=>?_⟩;rw[di,dm];clear T6 dn;have X7:=X6.same S7;have a6:=S7 _ _ cm;have b7:=bY.kt (ab.kt S7) co;clear X6 S7 cm co;refine⟨_,rfl,.inl ⟨sl,_,rfl,.inl (ay.of a6),fun hl ea=>?_⟩⟩;have S8:ab H7 (upd H7 hl (.lst (g.map V.ref))):=ab.new ea;have a7:upd H7 hl (.lst (g.map V.ref)) hl=some (.lst (g.map V.ref)):=aa;generalize upd H7 hl (.lst (g.map V.ref))=H8 at S8 a7 ⊢;have X8:=X7.same S8;have a8:=S8 _ _ a6;have ap:=bY.kt (ab.kt S8) b7;clear X7 S8 a6 b7;refine⟨_,rfl,_,rfl,x,hl,g,f,_,_,nm,DJ,rfl,X8,a7,ap,fun H9 S9=>⟨_,rfl,.bb _ rfl ⟨_,rfl,bd ?_⟩⟩⟩;have d9:∀{b:Addr},H8 b=some (.lst (g.map V.ref))->iK K H9 (.s (f.map fT)) (.ref b):=fun h=>by unfold iK;exact⟨_,_,rfl,ay.of (S9 _ _ h),bY.dIns (bY.kt (ab.kt S9) ap)⟩
 have dp:(DT.s (f.map fT)).depth<=2:=by show DT.depths _+1<=2;have:=o9 f;omega
 refine⟨_,rfl,_,rfl,_,_,d9 a7,d9 a8,bI dp (by decide),bI dp (by decide),_,rfl,?_⟩;rw[zzr1 rfl];refine bd ?_;have X9:=X8.same S9;have dr:=S9 _ _ a7;have b8:=S9 _ _ a8;have a9:=bY.kt (ab.kt S9) ap;clear d9 X8 S9 a7 a8 ap;refine⟨_,rfl,_,rfl,x,hl,f,_,_,nm,DJ,rfl,X9,⟨g,dr,Paired.mapP a9 fun _ _ r=>.inl r⟩,by omega,fun sg eb=>(shp sg eb).still,fun e dt O=>?_,fun ne wl ws w dt b4 _ cq gw hw zw O=>?_⟩
 ·refine⟨_,rfl,_,rfl,?_⟩;rw[zzr0 (fun z=>z e)];refine bU ⟨_,rfl,?_⟩;show Q (.bl (decide (V.non=V.non))) dt;rw[zzr1 rfl];exact k _
 refine⟨_,rfl,_,rfl,?_⟩;rw[zzr1 ne];refine bd ?_;have cs:=X9.same O;have bi:=O _ _ b8;have bn:=bY.kt (ab.kt O) a9;clear X9 dr b8 a9 O;refine⟨_,rfl,.ref wl,"list",_,true,rfl,.inl (jN.lst b4),rfl,_,rfl,bd ?_⟩;refine⟨_,rfl,x,_,_,nm,DJ,rfl,cs,fun tt n1 n2 n3 n4 ec ew TT b5=>?_⟩;refine⟨_,rfl,tt,wl,n1,n2,n3,n4,ec,ws,w,_,_,nm,DJ,rfl,TT,MJ,b5 _ _ b4,Paired.mapP cq fun _ _ r=>r.kt (ab.kt b5),gw,fun ey dx=>⟨_,rfl,bd ?_⟩⟩;have as:=b5.trans dx;have dy:=cs.same as;have T:=as _ _ bi;have U:=bY.kt (ab.kt as) bn;have Y:=as _ _ b4;have b0:=Paired.mapP cq fun _ _ r=>r.kt (ab.kt as);clear cs bi bn b4 cq b5 dx as TT;refine⟨_,rfl,wl,rfl,⟨_,ay.of Y⟩,fun gl ed=>?_⟩;refine Dv Y b0 zw ed fun gs ez b1 al A=>?_;rw[hw]at al;refine⟨_,rfl,.s (f.map fT),.s (f.map fT),Hr b1 al,(by unfold iK;exact⟨sl,_,rfl,ay.of (A _ _ T),bY.dIns (bY.kt (ab.kt A) U)⟩),bI dp (by decide),bI dp (by decide),_,rfl,?_⟩;rw[zzr1 rfl];refine bd ?_;have dK:=dy.same A;have D:=A _ _ T;have an:=bY.kt (ab.kt A) U;clear dy T U Y b0 b1 al A;refine⟨_,rfl,sl,rfl,⟨_,ay.of D⟩,fun ul ef=>?_⟩;refine Gs D an (by omega) ef fun ns b6 ct eh eF I=>?_;have ej:=dK.same I;have cL:=I _ _ D;have c0:=bY.kt (ab.kt I) an;clear dK D an I;refine⟨_,rfl,_,rfl,ul,_,rfl,ay.of ct,fun pl ek=>⟨pl,rfl,⟨_,ay.of aa⟩,?_⟩⟩;have e4:gv (ns.map fun n:Nat=>V.int n) none (some 4)=(ns.map fun n:Nat=>V.int n).take 4:=BI _ 4;have dT:ab b6 (upd b6 pl (.lst (gv (ns.map fun n:Nat=>V.int n) none (some 4)))):=ab.new ek;have b9:upd b6 pl (.lst (gv (ns.map fun n:Nat=>V.int n) none (some 4))) pl=some (.lst ((ns.take 4).map fun n:Nat=>V.int n)):=by rw[aa,e4,yk]
 generalize upd b6 pl (.lst (gv (ns.map fun n:Nat=>V.int n) none (some 4)))=el at dT b9 ⊢
 let zI:Nat->L2.St->Hp->Prop:=fun i σ H'=>GL fun(c1:Option V) (_:Unit)=>σ=[some (.ref a),some (.ref p),some (.ref t),some (.ref t'),some (.ref x),some (.ref sl),some (.bl true),some (.ref hl),some (.ref wl),some (.ref ul),c1]/\ab el H'
 refine bw (xs:=(ns.take 4).map fun n:Nat=>V.int n) zI ⟨_,(),rfl,ab.refl _⟩ (fun i σ H' _ zq=>by obtain⟨_,_,_,S⟩:=zq;exact ay.of (S _ _ b9)) ?_ ?_;rotate_left
 ·rintro σ G ⟨c1,_,rfl,_⟩;exact k _
 rintro i y σ G hi ⟨c1,_,rfl,S⟩;rw[cS,oh]at hi;obtain⟨n,hn,rfl⟩:=hi;have c2:=eh n (jw (bX hn));have nl:=(bM.1 c2).1;have S0:=dT.trans S;have XG:=ej.same S0;have c3:=S0 _ _ cL;have c4:=bY.kt (ab.kt S0) c0;have eH:=Paired.length c4;have dV:f=f.take n++az::f.drop (n+1):=by
  obtain⟨h1,h2⟩:=bM.1 c2;have:=ox h1;rw[h2]at this;rw[<-this,yg]
 have em:=IE (s:=f.take n) (u:=f.drop (n+1)) (by rw[<-dV];exact ne);have en:=Kn (s:=f.take n) (u:=f.drop (n+1)) (by rw[<-dV];exact ne);have eT:∀(j:Int),j=(n:Int)->gv (g.map V.ref) none (some j)=(g.take n).map V.ref:=fun j hj=>by rw[hj,BI,yk]
 have eD:gv (g.map V.ref) (some ((n:Int)+1)) none=(g.drop (n+1)).map V.ref:=by rw[yj];exact vL (g.map V.ref) (n+1)
 have eE:gv (g.map V.ref) (some (n:Int)) none=(g.drop n).map V.ref:=by rw[yj];exact vL (g.map V.ref) n
 refine⟨_,rfl,_,rfl,_,rfl,_,rfl,sl,_,rfl,ay.of c3,fun p1 L=>?_⟩;rw[eT _ rfl];have S1:ab G (upd G p1 (.lst ((g.take n).map V.ref))):=ab.new L;have aC:upd G p1 (.lst ((g.take n).map V.ref)) p1=some (.lst ((g.take n).map V.ref)):=aa;generalize upd G p1 (.lst ((g.take n).map V.ref))=G1 at S1 aC ⊢;refine⟨_,rfl,_,rfl,_,_,rfl,rfl,_,rfl,sl,_,rfl,ay.of (S1 _ _ c3),fun p2 a4=>?_⟩;rw[eD];have S2:ab G1 (upd G1 p2 (.lst ((g.drop (n+1)).map V.ref))):=ab.new a4;have c5:upd G1 p2 (.lst ((g.drop (n+1)).map V.ref)) p2=some (.lst ((g.drop (n+1)).map V.ref)):=aa;show gR (.ref p1) (.ref p2) (upd G1 p2 (.lst ((g.drop (n+1)).map V.ref))) _;generalize upd G1 p2 (.lst ((g.drop (n+1)).map V.ref))=G2 at S2 c5 ⊢;refine⟨p1,p2,_,_,rfl,rfl,S2 _ _ aC,c5,by rw[ai,ai,aX,ie];exact cz (aq (by omega)),fun r hr=>?_⟩;have S3:ab G2 (upd G2 r (.lst ((g.take n).map V.ref++(g.drop (n+1)).map V.ref))):=ab.new hr;have r3:upd G2 r (.lst ((g.take n).map V.ref++(g.drop (n+1)).map V.ref)) r=some (.lst ((g.take n++g.drop (n+1)).map V.ref)):=by rw[aa,ar]
 show dA C [.ref x,.ref r] (upd G2 r (.lst ((g.take n).map V.ref++(g.drop (n+1)).map V.ref))) _ _;generalize upd G2 r (.lst ((g.take n).map V.ref++(g.drop (n+1)).map V.ref))=G3 at S3 r3 ⊢;have A:=S1.trans (S2.trans S3);have da:=bY.kt (ab.kt A) c4;refine⟨x,r,g.take n++g.drop (n+1),f.take n++f.drop (n+1),_,_,nm,DJ,rfl,XG.same A,r3,Paired.app (Paired.takeP n da) (Paired.dropP (n+1) da),fun G4 S4=>?_⟩;rw[zzr1 em];refine⟨true,rfl,_,rfl,?_⟩;rw[zzr1 rfl];refine bd ?_;have I:=A.trans S4;clear S1 S2 S3 A S4 aC c5 r3 da L a4 hr;have d0:=I _ _ c3;refine⟨_,rfl,_,rfl,_,rfl,_,rfl,sl,_,rfl,ay.of d0,fun p1 L=>?_⟩;rw[eT _ rfl];have S1:ab G4 (upd G4 p1 (.lst ((g.take n).map V.ref))):=ab.new L;have aC:upd G4 p1 (.lst ((g.take n).map V.ref)) p1=some (.lst ((g.take n).map V.ref)):=aa;generalize upd G4 p1 (.lst ((g.take n).map V.ref))=G5 at S1 aC ⊢;refine⟨(by show 1<=ak;decide),fun B ep=>⟨(by show 1<=ak;decide),fun hq d1=>?_⟩⟩;have S2:ab G5 (upd (upd G5 B (.tup [.str "hush"])) hq (.lst [.ref B])):=(ab.new ep).trans (ab.new d1);have d2:upd (upd G5 B (.tup [.str "hush"])) hq (.lst [.ref B]) B=some (.tup (az.map V.str)):=kp aa d1;have d3:upd (upd G5 B (.tup [.str "hush"])) hq (.lst [.ref B]) hq=some (.lst [.ref B]):=aa;show gR (.ref p1) (.ref hq) (upd (upd G5 B (.tup [.str "hush"])) hq (.lst [.ref B])) _;generalize upd (upd G5 B (.tup [.str "hush"])) hq (.lst [.ref B])=G6 at S2 d2 d3 ⊢;refine⟨p1,hq,_,_,rfl,rfl,S2 _ _ aC,d3,by rw[ai,aX];exact cz (aq (by show _+1<=1000;omega)),fun p3 er=>?_⟩;have S3:ab G6 (upd G6 p3 (.lst ((g.take n).map V.ref++[.ref B]))):=ab.new er;have d4:upd G6 p3 (.lst ((g.take n).map V.ref++[.ref B])) p3=some (.lst ((g.take n++[B]).map V.ref)):=by rw[aa,ar];rfl
 generalize upd G6 p3 (.lst ((g.take n).map V.ref++[.ref B]))=G7 at S3 d4 ⊢;have es:=S1.trans (S2.trans S3);refine⟨_,rfl,_,rfl,_,rfl,sl,_,rfl,ay.of (es _ _ d0),fun p4 et=>?_⟩;rw[eE];have S4:ab G7 (upd G7 p4 (.lst ((g.drop n).map V.ref))):=ab.new et;have d5:upd G7 p4 (.lst ((g.drop n).map V.ref)) p4=some (.lst ((g.drop n).map V.ref)):=aa;show gR (.ref p3) (.ref p4) (upd G7 p4 (.lst ((g.drop n).map V.ref))) _;generalize upd G7 p4 (.lst ((g.drop n).map V.ref))=G8 at S4 d5 ⊢;refine⟨p3,p4,_,_,rfl,rfl,S4 _ _ d4,d5,by rw[ai,ai,aA,aX,ie];exact cz (aq (by show _+1+_<=1000;omega)),fun r hr=>?_⟩;have S5:ab G8 (upd G8 r (.lst ((g.take n++[B]).map V.ref++(g.drop n).map V.ref))):=ab.new hr;have r5:upd G8 r (.lst ((g.take n++[B]).map V.ref++(g.drop n).map V.ref)) r=some (.lst ((g.take n++[B]++g.drop n).map V.ref)):=by rw[aa,<-ar]
 show dA C [.ref x,.ref r] (upd G8 r (.lst ((g.take n++[B]).map V.ref++(g.drop n).map V.ref))) _ _;generalize upd G8 r (.lst ((g.take n++[B]).map V.ref++(g.drop n).map V.ref))=G9 at S5 r5 ⊢;have d6:=S3.trans (S4.trans S5);have db:=S1.trans (S2.trans d6);have d7:=bY.kt (ab.kt (I.trans db)) c4;have eu:f.drop n=az::f.drop (n+1):=by
  obtain⟨h1,h2⟩:=bM.1 c2;have:=ox h1;rw[h2]at this;exact this
 refine⟨x,r,g.take n++[B]++g.drop n,f.take n++[az]++f.drop n,_,_,nm,DJ,rfl,XG.same (I.trans db),r5,Paired.app (ee (Paired.takeP n d7) (d6 _ _ d2)) (Paired.dropP n d7),fun eJ O=>?_⟩;rw[eu,zzr1 en];refine⟨true,rfl,_,rfl,?_⟩;rw[zzr1 rfl];exact bd ⟨_,(),rfl,S.trans (I.trans (db.trans O))⟩
theorem Fw{K:Za}{C:Addr}{t:List V}{H:Hp}{Q:VK}{E:XK}(h:p_ C t H Q E):y_ K C (eV K C) (jX C) (bN Q) (start As t) H:=by
 obtain⟨M,r,w,u,a,rooms,x,rfl,o,k⟩:=h;obtain⟨y,fs,g,a1,a2,a3,T,U,B⟩:=o.mth;refine⟨_,rfl,M,y,fs,rfl,g,B,_,rfl,_,rfl,_,rfl,M,y,fs,rfl,g,a2,M,u,a,rooms,x,rfl,o,fun f p=>?_⟩;have m:ab H (upd H f (.lst (a.map V.str))):=ab.new p;have A:upd H f (.lst (a.map V.str)) f=some (.lst (a.map V.str)):=aa;generalize upd H f (.lst (a.map V.str))=n at m A ⊢;refine⟨dh w,a.map dh,f,_,rfl,rfl,.inl (ay.of A),gu a,c_ _,by rw[gH];decide,_,rfl,?_⟩;have D:(dh w∈a.map dh)↔w∈a:=⟨fun z=>by obtain⟨v,G,e⟩:=aE.1 z;have e:DT.k (.inr v)=DT.k (.inr w):=e;injection e with e;injection e with e;rw[<-e];exact G,fQ⟩;have I:(if false=true then !decide (dh w∈a.map dh)else decide (dh w∈a.map dh))=decide (w∈a):=decide_eq_decide.2 D
 rw[I];have i:∀(kd:Str),cZ a w=[kd,w]->∀(q:Addr),n q=none->eV K C [.ref M,.str r,.ref q] (upd n q (.tup [.str kd,.str w])) Q E0:=fun kd e q j=>by
  have s:ab n (upd n q (.tup [.str kd,.str w])):=ab.new j;refine⟨M,q,r,cZ a w,u,a,rooms,x,rfl,o.same (m.trans s),by rw[e];exact br.of aa,fun l J L N O=>k l J L ((m.trans s).free N) ((m.trans s).trans O)⟩
 by_cases c:w∈a
 ·rw[zzr1 c];refine bU ⟨_,rfl,(by show 2<=ak;decide),fun q j=>?_⟩;exact i "say" (if_pos c) q j
 ·rw[zzr0 c];refine bd ⟨_,rfl,(by show 2<=ak;decide),fun q j=>?_⟩;exact i "ask" (if_neg c) q j
def fE(i:Nat):Stmt:=PySem.Challenge.pw_mumtrial_k70_stories_of_two.main.body.getD i (.Pass ⟨0,0,0,0⟩)
local macro_rules | `(tactic| walk_at "s")=>`(tactic| exact⟨rfl,rfl,rfl,by decide +kernel,rfl,by decide +kernel,by decide +kernel⟩)
local macro_rules | `(tactic| walk_at "l")=>`(tactic| (intro _ _ _ _ h;first|exact len_h h|exact len_g h|(cases h;subst_vars;rfl)|(obtain⟨_,_,h,_⟩:=h;subst h;rfl)|((repeat obtain⟨_,h⟩:=h);subst_vars;rfl)))
theorem zzlS{e:List Value}{n:Nat}(h:e.length=n+1):∃ a t,e=a::t∧t.length=n:=by
  cases e with
  |nil=>cases h
  |cons a t=>exact⟨a,t,rfl,Nat.succ.inj h⟩
local macro_rules | `(tactic| walk_at "b")=>`(tactic| (intro _ _ _ _ _ _ us hl;(repeat (have h:=zzlS hl;clear hl;obtain⟨_,_,e,hl⟩:=h;subst e));cases List.eq_nil_of_length_eq_zero hl;rfl))
def Mw(K:Za)(x qual:Str)(st:Stmt)(f:Addr):Prop:=∃(oc:Value) (od an:Option Addr) (sl:Array (Option Value)) (kV dc pm cd ct:Value),
 K.lookup f=some ⟨oc,od,.func (jz x qual (jm st) (gZ st) (cE st) .none kV dc pm an cd ct),sl⟩/\oG K cd qual=true/\kr K (.ref f)=true
theorem IK{K:Za}{x a:Str}{st:Stmt}{f:Addr}{g:Value}{h i:Option Addr}{j:Array (Option Value)}{kV m n e o:Value}(l:K.lookup f=some ⟨g,h,.func (jz x a (jm st) (gZ st) (cE st) .none kV m n i e o),j⟩)
  (c:oG K e a=true) (k:kr K (.ref f)=true):Mw K x a st f:=⟨g,h,i,j,kV,m,n,e,o,l,c,k⟩
def gy(K:Za)(x:Str)(st:Stmt):Prop:=∃f,cR K cB x=some (some (.ref f))/\Mw K x x st f
theorem fnG_mk{K:Za}{x:Str}{st:Stmt}{f:Addr}{g:Value}{h i:Option Addr}{j:Array (Option Value)}{kV m n e o:Value}(a:cR K cB x=some (some (.ref f)))(l:K.lookup f=some ⟨g,h,.func (jz x x (jm st) (gZ st) (cE st) .none kV m n i e o),j⟩)
  (c:oG K e x=true) (k:kr K (.ref f)=true):gy K x st:=⟨f,a,IK l c k⟩
def GU(K:Za)(C:Addr)(m qual:Str)(st:Stmt):Prop:=∃f,fV K (.ref C) m=some (some (.ref f))/\AE K (.ref f)=true/\Mw K m qual st f
theorem fnM_mk{K:Za}{C:Addr}{m e:Str}{st:Stmt}{f:Addr}{h:Value}{j n:Option Addr}{o:Array (Option Value)}{kV p q g r:Value}(a:fV K (.ref C) m=some (some (.ref f)))(i:AE K (.ref f)=true)
  (l:K.lookup f=some ⟨h,j,.func (jz m e (jm st) (gZ st) (cE st) .none kV p q n g r),o⟩) (c:oG K g e=true) (k:kr K (.ref f)=true):GU K C m e st:=⟨f,a,i,IK l c k⟩
theorem Mw.fun_{K:Za}{x a:Str}{st:Stmt}{f:Addr}(T:Mw K x a st f):∃e,L_ K x a st f e:=by
 obtain⟨g,h,i,j,kV,m,n,o,p,l,c,k⟩:=T;exact⟨_,II (st:=st) l c k⟩
def Mb:Sp:=fun _ _ _ _=>False
theorem Mg{P:bR}{w:World}{K:Za}{a:Str->Option Value}{base:Heap}{k:Nat}{f:Addr}{e:lU}{g:Zb}:mR P w K a base CX0 k f e g Mb:=⟨fun _ _ _ _ h=>h.elim,fun _ _ _ _ _ _ _ _ _ _ _ _ _ h=>h.elim⟩
def LJ(K:Za)(a:Addr)(ws:Zb):Prop:=∀H,br K H a (ws.map V.str)
theorem Ef{K:Za}{a:Addr}{f:Zb}{o:Obj}{e:Array Value}{n:Nat}(l:K.lookup a=some o)(c:o.cls=.type "tuple")(d:o.data=.seq e n)(z:e.size<=ak)(v:bA (f.map V.str) e.toList):LJ K a f :=
 fun _=>.inr ⟨o,e,n,l,c,d,z,v⟩
section
variable{P:bR}{w:World}{K:Za}{mg:Str->Option Value}{base h:Heap}{C:Addr}{x qual:Str}{st:Stmt}{N ps:Zb}{k:Nat}{sp:Sp}
abbrev Jj(ps:Zb)(sp:Sp):Prop:=∀vs H Q E,sp vs H Q E->vs.length=ps.length
abbrev BodyOk(CX:GV)(P:bR)(w:World)(K:Za)(mg:Str->Option Value)(base:Heap)(qual:Str)(st:Stmt)(N:Zb)(k:Nat)(sp:Sp)(nox:Cx->Cx):Prop:=N.Nodup->∀(f:Addr) (cdv:Value) (A:Around) (outer:List Env) (s:Shared) (H:Hp) (vs:List V) (Q:VK) (E:XK),fN k (A.deeper (envOfC qual (cE st) s.heap.objs.size f cdv))->(A.deeper (envOfC qual (cE st) s.heap.objs.size f cdv)).units+16<cLine->sp vs H Q E ->
 ∃t,Cd (nox (Dt CX P w K mg base N qual (cE st) f cdv A outer s H E)) (gZ st) t/\t (bN Q) (start N vs) H
abbrev DO(x qual:Str)(st:Stmt)(ps:Zb):Prop:=∀(kV doc pm:Value) (an:Option Addr) (cdv ct:Value) (us:Zf),us.length=ps.length->bindArgs (jz x qual (jm st) (gZ st) (cE st) .none kV doc pm an cdv ct) ⟨us,[]⟩=pure (ps.zip us)
theorem dG(X:K.In h)(G:h.Ns cB mg)(T:gy K x st)(b:BodyOk CX0 P w K mg base x st N k sp Cx.nox)(i:DO x x st ps)(S:lC N ps (cE st):=by walk_at "s")(l:Jj ps sp:=by walk_at "l"):fU P w K mg base x ps (k+1) sp:=by
 obtain⟨f,a,t⟩:=T;obtain⟨j,F⟩:=t.fun_;exact⟨f,j,F.ok S l fun e A outer s H m Q E g h=>b S.nd f e A outer s H m Q E g (EG g) h,h9 X G a,F.kp,F.binds i⟩
theorem dM(j:GO K C)(T:GU K C x qual st)(b:BodyOk CX0 P w K mg base qual st N k sp Cx.nox)(m:DO x qual st ps)(S:lC N ps (cE st):=by walk_at "s")(l:Jj ps sp:=by walk_at "l"):GN P w K mg base C x ps (k+1) sp:=by
 obtain⟨f,a,i,t⟩:=T;obtain⟨n,F⟩:=t.fun_;exact⟨f,n,F.ok S l fun e A outer s H o Q E g h=>b S.nd f e A outer s H o Q E g (EG g) h,j,⟨a,i,F.kp⟩,F.binds m⟩
theorem dN{y:Str}(j:mg y=some (.ref C))(m:AD K C=true)(n:kr K (.ref C)=true)(T:GU K C "__init__" qual st)(b:BodyOk CX0 P w K mg base qual st N k sp Cx.nox)(o:DO "__init__" qual st ps)(S:lC N ps (cE st):=by walk_at "s")(l:Jj ps sp:=by walk_at "l"):New P w K mg base y C ps (k+1) sp:=by
 obtain⟨f,a,i,t⟩:=T;obtain⟨p,F⟩:=t.fun_;exact⟨f,p,F.ok S l fun e A outer s H q Q E g h=>b S.nd f e A outer s H q Q E g (EG g) h,j,⟨m,a,i,n⟩,F.binds o⟩
end
structure Zs(mg:Str->Option Value):Prop where
 all:mg "all"=none
 any:mg "any"=none
 bool:mg "bool"=none
 dict:mg "dict"=none
 divmod:mg "divmod"=none
 enumerate:mg "enumerate"=none
 int:mg "int"=none
 isinstance:mg "isinstance"=none
 len:mg "len"=none
 list:mg "list"=none
 range:mg "range"=none
 str:mg "str"=none
 tuple:mg "tuple"=none
 zip:mg "zip"=none
structure Cs(K:Za)(mg:Str->Option Value)(C a_STILL a_HUSH:Addr):Prop where
 LETTERS:Gc mg "LETTERS" (.str "abcdefghijklmnopqrstuvwxyz")
 LONGEST_NAME:Gc mg "LONGEST_NAME" (.int 8)
 MOST_WORDS:Gc mg "MOST_WORDS" (.int 4)
 MOST_ROOMS:Gc mg "MOST_ROOMS" (.int 150)
 MOST_DOORS:Gc mg "MOST_DOORS" (.int 2000)
 MOST_JOINED_ROOMS:Gc mg "MOST_JOINED_ROOMS" (.int 10)
 MOST_JOINED_DOORS:Gc mg "MOST_JOINED_DOORS" (.int 40)
 STILL:Gc mg "STILL" (.ref a_STILL)
 HUSH:Gc mg "HUSH" (.ref a_HUSH)
 still:LJ K a_STILL ao
 hush:LJ K a_HUSH az
 mc:MC K C
 cm:mg "Machine"=some (.ref C)
 makes:AD K C=true
 kc:kr K (.ref C)=true
structure Ts(K:Za)(C:Addr):Prop where
 f_law_spread:gy K "_law_spread" (fE 56)
 f_law_open:gy K "_law_open" (fE 57)
 f_law_take:gy K "_law_take" (fE 59)
 f_law_names:gy K "_law_names" (fE 60)
 f_law_put:gy K "_law_put" (fE 62)
 f_law_draw_doors:gy K "_law_draw_doors" (fE 63)
 f_is_name:gy K "is_name" (fE 19)
 f_as_keys:gy K "as_keys" (fE 21)
 f_first_wrong_name:gy K "first_wrong_name" (fE 22)
 f_door_signs:gy K "door_signs" (fE 23)
 f_first_wrong_door:gy K "first_wrong_door" (fE 24)
 f_goals_by_start_and_sign:gy K "goals_by_start_and_sign" (fE 25)
 f_led_by_still:gy K "led_by_still" (fE 26)
 f_first_led_round:gy K "first_led_round" (fE 27)
 f_need_none:gy K "need_none" (fE 28)
 f_need_parts:gy K "need_parts" (fE 29)
 f_doors_by_start:gy K "doors_by_start" (fE 30)
 f_has_asks_alone:gy K "has_asks_alone" (fE 31)
 f_Machine___init__:GU K C "__init__" "Machine.__init__" (jj (fE 32) 0)
 f_law_machine:gy K "_law_machine" (fE 77)
 f_Machine_rooms:GU K C "rooms" "Machine.rooms" (jj (fE 32) 3)
 f_Machine_led_from:GU K C "led_from" "Machine.led_from" (jj (fE 32) 8)
 f_with_still:gy K "with_still" (fE 7)
 f_Machine_goals:GU K C "goals" "Machine.goals" (jj (fE 32) 7)
 f_Machine_is_quiet:GU K C "is_quiet" "Machine.is_quiet" (jj (fE 32) 5)
 f_law_still_on:gy K "_law_still_on" (fE 61)
 f_Machine_asks:GU K C "asks" "Machine.asks" (jj (fE 32) 1)
 f_Machine_says:GU K C "says" "Machine.says" (jj (fE 32) 2)
 f_Machine_doors:GU K C "doors" "Machine.doors" (jj (fE 32) 4)
 f_Machine_doors_from:GU K C "doors_from" "Machine.doors_from" (jj (fE 32) 6)
 f_first_face:gy K "first_face" (fE 8)
 f_face_behind:gy K "face_behind" (fE 9)
 f_face_of:gy K "face_of" (fE 10)
 f_is_story:gy K "is_story" (fE 11)
 f_add_still_steps:gy K "add_still_steps" (fE 51)
 f_steps_by:gy K "steps_by" (fE 52)
 f_steps_along:gy K "steps_along" (fE 53)
 f_walk_of:gy K "walk_of" (fE 54)
 f_takes:gy K "takes" (fE 34)
 f_need_all_asks_taken:gy K "need_all_asks_taken" (fE 35)
 f_common:gy K "common" (fE 39)
 f_wires_of:gy K "wires_of" (fE 40)
 f_asks_of_both:gy K "asks_of_both" (fE 41)
 f_is_small:gy K "is_small" (fE 42)
 f_need_join:gy K "need_join" (fE 43)
 f_alone_from:gy K "alone_from" (fE 44)
 f_doors_alone:gy K "doors_alone" (fE 45)
 f_wire_goals:gy K "wire_goals" (fE 46)
 f_doors_together:gy K "doors_together" (fE 47)
 f_pairs_of_rooms:gy K "pairs_of_rooms" (fE 48)
 f_name_of_number:gy K "name_of_number" (fE 20)
 f_joined:gy K "joined" (fE 49)
 f_law_willing:gy K "_law_willing" (fE 64)
 f_law_asks_left:gy K "_law_asks_left" (fE 66)
 f_law_two_words:gy K "_law_two_words" (fE 65)
 f_law_part:gy K "_law_part" (fE 67)
 f_law_two_takers:gy K "_law_two_takers" (fE 68)
 f_law_quiet:gy K "_law_quiet" (fE 73)
 f_law_in_order:gy K "_law_in_order" (fE 74)
 f_law_face_on:gy K "_law_face_on" (fE 75)
 f_law_face_at:gy K "_law_face_at" (fE 76)
 f_law_heard:gy K "_law_heard" (fE 70)
 f_law_beside:gy K "_law_beside" (fE 71)
 f_law_same:gy K "_law_same" (fE 72)
 f_law_signs_of_two:gy K "_law_signs_of_two" (fE 69)
 f_law_road:gy K "_law_road" (fE 80)
 f_law_has:gy K "_law_has" (fE 81)
 f_law_is_walk:gy K "_law_is_walk" (fE 78)
 f_law_told_by:gy K "_law_told_by" (fE 79)
 f_law70:gy K "law" (fE 82)
section
variable{P:bR}{w:World}{K:Za}{mg:Str->Option Value}{base h:Heap}{C a_STILL a_HUSH:Addr}
section
variable(P:bR)(w:World)(K:Za)(mg:Str->Option Value)(C a_STILL a_HUSH:Addr)
abbrev lI:Prop:=∀base,fU P w K mg base "_law_spread" ["cell","at"] 1 m7
abbrev wg:Prop:=∀base,fU P w K mg base "_law_open" ["script"] 1 (uh K)
abbrev fJ:Prop:=∀base,fU P w K mg base "_law_take" ["pen","many"] 2 gb
abbrev j9:Prop:=∀base,fU P w K mg base "_law_names" ["pen","many"] 3 my
abbrev nI:Prop:=∀base,fU P w K mg base "_law_put" ["doors","door"] 1 r_
abbrev iB:Prop:=∀base,fU P w K mg base "_law_draw_doors" ["pen","asks","says","rooms","full"] 3 qo
abbrev sM:Prop:=∀base,fU P w K mg base "is_name" ["text"] 1 sp_is_name
abbrev kR:Prop:=∀base,fU P w K mg base "as_keys" ["things"] 1 (sp_as_keys K)
abbrev gA:Prop:=∀base,fU P w K mg base "first_wrong_name" ["names","most","taken"] 2 (sp_first_wrong_name K)
abbrev lM:Prop:=∀base,fU P w K mg base "door_signs" ["asks","says"] 1 (sp_door_signs K)
abbrev gB:Prop:=∀base,fU P w K mg base "first_wrong_door" ["doors","rooms","signs"] 2 (sp_first_wrong_door K)
abbrev dR:Prop:=∀base,fU P w K mg base "goals_by_start_and_sign" ["doors"] 1 qj
abbrev jP:Prop:=∀base,fU P w K mg base "led_by_still" ["goals","room"] 1 zD
abbrev hC:Prop:=∀base,fU P w K mg base "first_led_round" ["rooms","led"] 1 sp_first_led_round
abbrev j7:Prop:=∀base,fU P w K mg base "need_none" ["part","number"] 1 sp_need_none
abbrev lH:Prop:=∀base,fU P w K mg base "need_parts" ["asks","says","rooms","doors"] 3 sp_need_parts
abbrev iE:Prop:=∀base,fU P w K mg base "doors_by_start" ["rooms","doors"] 1 sp_doors_by_start
abbrev iC:Prop:=∀base,fU P w K mg base "has_asks_alone" ["doors"] 1 sp_has_asks_alone
abbrev nJ:Prop:=∀base,New P w K mg base "Machine" C ["self","asks","says","rooms","doors"] 4 (qh C)
abbrev n_:Prop:=∀base,fU P w K mg base "_law_machine" ["told"] 6 (k5 C)
abbrev cr:Prop:=∀base,GN P w K mg base C "rooms" ["self"] 1 (fX C)
abbrev e_:Prop:=∀base,GN P w K mg base C "led_from" ["self","room"] 1 (iR C)
abbrev jn:Prop:=∀base,fU P w K mg base "with_still" ["M","rooms"] 2 (sp_with_still C)
abbrev c9:Prop:=∀base,GN P w K mg base C "goals" ["self","room","sign"] 1 (eV K C)
abbrev ff:Prop:=∀base,GN P w K mg base C "is_quiet" ["self","room"] 1 (iS C)
abbrev g9:Prop:=∀base,fU P w K mg base "_law_still_on" ["doors","rooms"] 1 (iQ K)
abbrev dO:Prop:=∀base,GN P w K mg base C "asks" ["self"] 1 (jY C)
abbrev dL:Prop:=∀base,GN P w K mg base C "says" ["self"] 1 (jX C)
abbrev gj:Prop:=∀base,GN P w K mg base C "doors" ["self"] 1 (qp C)
abbrev fK:Prop:=∀base,GN P w K mg base C "doors_from" ["self","room"] 1 (iF C)
abbrev lK:Prop:=∀base,fU P w K mg base "first_face" ["M"] 3 (fj C)
abbrev kj:Prop:=∀base,fU P w K mg base "face_behind" ["M","face","sign"] 3 (uj K C)
abbrev sN:Prop:=∀base,fU P w K mg base "face_of" ["M","story"] 4 (sp_face_of C)
abbrev wj:Prop:=∀base,fU P w K mg base "is_story" ["M","story"] 5 (dA C)
abbrev hU:Prop:=∀base,fU P w K mg base "add_still_steps" ["M","steps"] 2 (nk K C)
abbrev pH:Prop:=∀base,fU P w K mg base "steps_by" ["M","rooms","sign"] 2 (jW K C)
abbrev kh:Prop:=∀base,fU P w K mg base "steps_along" ["M","story"] 3 (nj K C)
abbrev xV:Prop:=∀base,fU P w K mg base "walk_of" ["M","story"] 4 (qa K C)
abbrev AC:Prop:=∀base,fU P w K mg base "takes" ["I","room","ask"] 2 (sp_takes C)
abbrev fq:Prop:=∀base,fU P w K mg base "need_all_asks_taken" ["I"] 4 (je C)
abbrev qY:Prop:=∀base,fU P w K mg base "common" ["words","others"] 1 sp_common
abbrev lD:Prop:=∀base,fU P w K mg base "wires_of" ["M","N"] 2 (mx C)
abbrev hE:Prop:=∀base,fU P w K mg base "asks_of_both" ["M","N"] 3 (mz C)
abbrev pJ:Prop:=∀base,fU P w K mg base "is_small" ["M"] 2 (qb C)
abbrev mT:Prop:=∀base,fU P w K mg base "need_join" ["M","N"] 4 (qe C)
abbrev lQ:Prop:=∀base,fU P w K mg base "alone_from" ["M","room","wires"] 2 (qq C)
abbrev km:Prop:=∀base,fU P w K mg base "doors_alone" ["M","N","here","wires"] 3 (ni K C)
abbrev lE:Prop:=∀base,fU P w K mg base "wire_goals" ["M","room","word"] 2 (p_ C)
abbrev iD:Prop:=∀base,fU P w K mg base "doors_together" ["M","N","here","wires"] 3 (nc K C)
abbrev iz:Prop:=∀base,fU P w K mg base "pairs_of_rooms" ["M","N"] 2 (m8 C)
abbrev iA:Prop:=∀base,fU P w K mg base "name_of_number" ["number"] 1 qg
abbrev Ca:Prop:=∀base,fU P w K mg base "joined" ["M","N"] 6 (jq C)
abbrev ki:Prop:=∀base,fU P w K mg base "_law_willing" ["pen","told"] 3 kZ
abbrev gh:Prop:=∀base,fU P w K mg base "_law_asks_left" ["some"] 1 kE
abbrev i9:Prop:=∀base,fU P w K mg base "_law_two_words" ["pen","loose"] 4 ud
abbrev pI:Prop:=∀base,fU P w K mg base "_law_part" ["pen","asks","says","most"] 4 ug
abbrev kQ:Prop:=∀base,fU P w K mg base "_law_two_takers" ["pen","one","two"] 5 ue
abbrev j8:Prop:=∀base,fU P w K mg base "_law_quiet" ["told","room"] 1 kC
abbrev g_:Prop:=∀base,fU P w K mg base "_law_in_order" ["told","some"] 2 Bb
abbrev iL:Prop:=∀base,fU P w K mg base "_law_face_on" ["told","face","sign"] 3 (vk K)
abbrev iM:Prop:=∀base,fU P w K mg base "_law_face_at" ["told","story"] 4 (kD K)
abbrev mU:Prop:=∀base,fU P w K mg base "_law_heard" ["told","sign"] 1 (m_ K)
abbrev jo:Prop:=∀base,fU P w K mg base "_law_beside" ["told","face","sign"] 4 (k6 K)
abbrev we:Prop:=∀base,fU P w K mg base "_law_same" ["found","due"] 5 (fh K 4)
abbrev eZ:Prop:=∀base,fU P w K mg base "_law_signs_of_two" ["first","second"] 2 qd
abbrev wf:Prop:=∀base,fU P w K mg base "_law_road" ["pen","first","second"] 5 (uf K)
abbrev xW:Prop:=∀base,fU P w K mg base "_law_has" ["first","second","story"] 5 (ui K)
abbrev og:Prop:=∀base,fU P w K mg base "_law_is_walk" ["told","walk"] 2 (m9 K)
abbrev n6:Prop:=∀base,fU P w K mg base "_law_told_by" ["machine"] 2 (mZ C)
end
theorem FU{X:Cx}:PE X (.List [.List [.Constant (.int 0) 0 ⟨340,13,340,14⟩] ⟨340,12,340,15⟩,.List [.Constant (.int 0) 0 ⟨340,18,340,19⟩] ⟨340,17,340,20⟩,.List [.Constant (.int 1) 0 ⟨340,23,340,24⟩] ⟨340,22,340,25⟩,.List [.Constant (.int 1) 0 ⟨340,28,340,29⟩] ⟨340,27,340,30⟩,.List [.Constant (.int 2) 0 ⟨340,33,340,34⟩] ⟨340,32,340,35⟩,.List [.Constant (.int 2) 0 ⟨340,38,340,39⟩] ⟨340,37,340,40⟩,.List [.Constant (.int 3) 0 ⟨340,43,340,44⟩] ⟨340,42,340,45⟩,.List [.Constant (.int 3) 0 ⟨340,48,340,49⟩] ⟨340,47,340,50⟩,.List [.Constant (.int 1) 0 ⟨340,53,340,54⟩,.Constant (.int 2) 0 ⟨340,56,340,57⟩] ⟨340,52,340,58⟩,.List [.Constant (.int 1) 0 ⟨340,61,340,62⟩,.Constant (.int 2) 0 ⟨340,64,340,65⟩] ⟨340,60,340,66⟩,.List [.Constant (.int 0) 0 ⟨340,69,340,70⟩,.Constant (.int 3) 0 ⟨340,72,340,73⟩] ⟨340,68,340,74⟩,.List [.Constant (.int 0) 0 ⟨340,77,340,78⟩,.Constant (.int 3) 0 ⟨340,80,340,81⟩] ⟨340,76,340,82⟩,.List [] ⟨340,84,340,86⟩,.List [.Constant (.int 0) 0 ⟨340,89,340,90⟩,.Constant (.int 2) 0 ⟨340,92,340,93⟩] ⟨340,88,340,94⟩,.List [.Constant (.int 1) 0 ⟨340,97,340,98⟩,.Constant (.int 3) 0 ⟨340,100,340,101⟩] ⟨340,96,340,102⟩] ⟨340,11,340,103⟩) (bC (av (bC (aB (tC (.int 0)))) (av (bC (aB (tC (.int 0)))) (av (bC (aB (tC (.int 1)))) (av (bC (aB (tC (.int 1)))) (av (bC (aB (tC (.int 2)))) (av (bC (aB (tC (.int 2)))) (av (bC (aB (tC (.int 3)))) (av (bC (aB (tC (.int 3)))) (av (bC (aO (tC (.int 1)) (tC (.int 2)))) (av (bC (aO (tC (.int 1)) (tC (.int 2)))) (av (bC (aO (tC (.int 0)) (tC (.int 3)))) (av (bC (aO (tC (.int 0)) (tC (.int 3)))) (av (bC aY) (av (bC (aO (tC (.int 0)) (tC (.int 2)))) (aB (bC (aO (tC (.int 1)) (tC (.int 3)))))))))))))))))))):=by
 refine aV ?_;refine cC ?_ ?_
 ·refine aV ?_;refine be ?_ ?_ ?_
  ·exact ag
  rotate_left
  ·rfl
  exact ba
 refine cC ?_ ?_
 ·refine aV ?_;refine be ?_ ?_ ?_
  ·exact ag
  rotate_left
  ·rfl
  exact ba
 refine cC ?_ ?_
 ·refine aV ?_;refine be ?_ ?_ ?_
  ·exact ag
  rotate_left
  ·rfl
  exact ba
 refine cC ?_ ?_
 ·refine aV ?_;refine be ?_ ?_ ?_
  ·exact ag
  rotate_left
  ·rfl
  exact ba
 refine cC ?_ ?_
 ·refine aV ?_;refine be ?_ ?_ ?_
  ·exact ag
  rotate_left
  ·rfl
  exact ba
 refine cC ?_ ?_
 ·refine aV ?_;refine be ?_ ?_ ?_
  ·exact ag
  rotate_left
  ·rfl
  exact ba
 refine cC ?_ ?_
 ·refine aV ?_;refine be ?_ ?_ ?_
  ·exact ag
  rotate_left
  ·rfl
  exact ba
 refine cC ?_ ?_
 ·refine aV ?_;refine be ?_ ?_ ?_
  ·exact ag
  rotate_left
  ·rfl
  exact ba
 refine cC ?_ ?_
 ·refine aV ?_;refine be ?_ ?_ ?_
  ·exact ag
  rotate_left
  ·rfl
  refine be ?_ ?_ ?_
  ·exact ag
  rotate_left
  ·rfl
  exact ba
 refine cC ?_ ?_
 ·refine aV ?_;refine be ?_ ?_ ?_
  ·exact ag
  rotate_left
  ·rfl
  refine be ?_ ?_ ?_
  ·exact ag
  rotate_left
  ·rfl
  exact ba
 refine cC ?_ ?_
 ·refine aV ?_;refine be ?_ ?_ ?_
  ·exact ag
  rotate_left
  ·rfl
  refine be ?_ ?_ ?_
  ·exact ag
  rotate_left
  ·rfl
  exact ba
 refine cC ?_ ?_
 ·refine aV ?_;refine be ?_ ?_ ?_
  ·exact ag
  rotate_left
  ·rfl
  refine be ?_ ?_ ?_
  ·exact ag
  rotate_left
  ·rfl
  exact ba
 refine cC ?_ ?_
 ·refine aV ?_;exact ba
 refine cC ?_ ?_
 ·refine aV ?_;refine be ?_ ?_ ?_
  ·exact ag
  rotate_left
  ·rfl
  refine be ?_ ?_ ?_
  ·exact ag
  rotate_left
  ·rfl
  exact ba
 refine cC ?_ ?_
 ·refine aV ?_;refine be ?_ ?_ ?_
  ·exact ag
  rotate_left
  ·rfl
  refine be ?_ ?_ ?_
  ·exact ag
  rotate_left
  ·rfl
  exact ba
 exact ba
theorem FV{X:Cx}:PE X (.List [.List [] ⟨339,12,339,14⟩,.List [] ⟨339,16,339,18⟩,.List [] ⟨339,20,339,22⟩,.List [] ⟨339,24,339,26⟩] ⟨339,11,339,27⟩) (bC (av (bC aY) (dq (bC aY) (bC aY) (bC aY)))):=by
 refine aV ?_;refine cC ?_ ?_
 ·refine aV ?_;exact ba
 refine cC ?_ ?_
 ·refine aV ?_;exact ba
 refine cC ?_ ?_
 ·refine aV ?_;exact ba
 refine cC ?_ ?_
 ·refine aV ?_;exact ba
 exact ba
section
variable(X:K.In h)(G:h.Ns cB mg)(z:Zs mg)(c:Cs K mg C a_STILL a_HUSH)(T:Ts K C)
include X G z c T
theorem wC:lI P w K mg:=fun base=>dG X G T.f_law_spread (fun S _ _ _ _ _ _ _ _ _ a e h=>bK (Fz (K:=K) h) (ac (bD (jb Mf (pv 0) (aZ Il ag ag)) (af (aw (pv 0))) aJ) (ac (qs 2 S (aZ iq (aZ eo (aZ eo (aZ ip (aZ iq (pv 0) ag) ag) (aZ ip (pv 1) ag)) ag) ag)) (ac (qs 3 S (aZ iq (aZ eo (aZ eo (aZ ip (pv 2) (pv 2)) (aZ ip (pv 1) ag)) (aZ iq (pv 0) ag)) ag)) (ac (qs 4 S (aZ iq (aZ eo (aZ eo (aZ ip (pv 3) (pv 3)) (aZ ip (pv 2) ag)) ag) ag)) (af (aw (aZ eo (aZ ip (aZ eo (aZ ip (pv 2) ag) (pv 3)) ag) (pv 4))))))))) (by walk_at "b")
theorem A6:wg P w K mg:=fun base=>dG X G T.f_law_open (fun S _ _ _ _ _ _ _ _ _ a e h=>bK (JR h) (ac (qs 1 S (qL rfl z.list (a1 (dF gf (pv 0) fC (eC ag))))) (ac (bE bu rfl (k9 rfl z.enumerate (a1 (dF gf (pv 0) (eC ag) (eC ag)))) (fo rfl (aI (gn 2 S) (aI (gn 3 S) dv))) (af (mD (aZ eo (xl (pv 1) (aZ iq (pv 2) ag)) (pv 3)) (zO (pv 1) (aZ iq (pv 2) ag) qt)))) (af (aw (aV (a3 (pv 1) ag ag))))))) (by walk_at "b")
theorem AW(a:lI P w K mg):fJ P w K mg:=fun base=>dG X G T.f_law_take (fun S _ _ _ _ _ _ _ _ _ e f h=>bK (JM h) (ac (bD (jb EA (xl (pv 0) ag) (pv 1)) (ac (qs 2 S (xl (pv 0) ag)) (ac (qs 3 S ag) (ac (bD (jb EA (pv 2) (ql z.len (a1 (xl (pv 0) ag)))) (af (qs 3 S (xl (xl (pv 0) ag) (pv 2)))) (af (bD (jb nX (ql z.len (a1 (xl (pv 0) ag))) ag) (af (qs 3 S (aZ iq (xl (xl (pv 0) ag) (aZ iq (aZ eo (aZ ip (pv 2) ag) ag) (ql z.len (a1 (xl (pv 0) ag))))) (aZ eo (aZ Il ag ag) (pv 2))))) aJ))) (ac (mD (aZ eo (pv 2) ag) (zO (pv 0) ag qt)) (af (mD (qf e (a base) (a2 (pv 3) (pv 2))) (zO (pv 0) ag qt))))))) aJ) (ac (qs 4 S (aZ iq (xl (pv 0) ag) (pv 1))) (ac (mD (aZ EB (xl (pv 0) ag) (pv 1)) (zO (pv 0) ag qt)) (af (aw (pv 4))))))) (by walk_at "b")
theorem zv(a:fJ P w K mg):j9 P w K mg:=fun base=>dG X G T.f_law_names (fun S _ _ _ _ _ _ _ _ _ e f h=>bK (HF h) (ac (qs 2 S bS) (ac (qs 3 S (f6 PySem.F.plainAttrs_str PySem.F.slot_str_join PySem.F.type_str_join Kj bS (a1 (qc (jr rfl z.range (a1 ag)) (aP (by decide)) fun _ _ _ _ _ _=>⟨gc 0,cU,xs' (pv 1) (qf e (a base) (a2 (pv 2) ag))⟩)))) (ac (qs 4 S (qf e (a base) (a2 (pv 0) ag))) (ac (qs 5 S (qf e (a base) (a2 (pv 0) ag))) (ac (qs 6 S (qf e (a base) (a2 (pv 0) ag))) (ac (qs 7 S (aV ba)) (ac (bE bu rfl (jr rfl z.range (a1 (pv 1))) (gn 8 S) (ac (qs 9 S (xs' (pv 2) (aZ iq (aZ eo (pv 5) (aZ ip ag (pv 8))) ag))) (ac (qs 10 S (dF zG (pv 3) fC (eC (aZ iq (aZ eo (pv 6) (aZ ip (pv 8) (aZ iq (pv 4) ag))) ag)))) (ac (qs 11 S (xl (aV (a3 ag (ql z.len (a1 (pv 10))) (aZ EB (ql z.len (a1 (pv 10))) ag))) (pv 4))) (af (bv (f6 dj gm gk cH (pv 7) (a1 (aZ o5 (aZ o5 (dF zG (pv 10) fC (eC (pv 11))) (pv 9)) (dF zG (pv 10) (eC (pv 11)) fC)))))))))) (af (aw (pv 7))))))))))) (by walk_at "b")
theorem CA:nI P w K mg:=fun base=>dG X G T.f_law_put (fun S _ _ _ _ _ _ _ _ _ e a h=>bK (Lk h) (af (bD (yZ (fL a) (pv 1) (pv 0)) (af (bv (f6 dj gm gk cH (pv 0) (a1 (pv 1))))) aJ))) (by walk_at "b")
theorem pY(a:fJ P w K mg)(e:nI P w K mg):iB P w K mg:=fun base=>dG X G T.f_law_draw_doors (fun S _ _ _ _ _ _ _ _ _ f g h=>bK (HK h) (ac (qs 5 S (aV ba)) (ac (qs 6 S (qf f (a base) (a2 (pv 0) ag))) (ac (bE bu rfl (k9 rfl z.enumerate (a1 (pv 3))) (fo rfl (aI (gn 7 S) (aI (gn 8 S) dv))) (ac (bE bu rfl (jr rfl z.range (a1 (xl (aV (be ag (a3 ag ag ag))) (qf f (a base) (a2 (pv 0) ag))))) (gn 9 S) (ac (qs 10 S (aU (a2 bS (xl (pv 2) (qf f (a base) (a2 (pv 0) (ql z.len (a1 (pv 2))))))))) (af (bv (qf f (e base) (a2 (pv 5) (aU (a3 (pv 8) (pv 10) (xl (pv 3) (qf f (a base) (a2 (pv 0) (ql z.len (a1 (pv 3)))))))))))))) (ac (bE bu rfl (aK (pv 1)) (gn 11 S) (af (bE bu rfl (jr rfl z.range (a1 (xl (aV (be (pv 4) (a3 ag ag ag))) (qf f (a base) (a2 (pv 0) ag))))) (gn 9 S) (af (bv (qf f (e base) (a2 (pv 5) (aU (a3 (pv 8) (aU (a2 bS (pv 11))) (xl (pv 3) (qf f (a base) (a2 (pv 0) (ql z.len (a1 (pv 3))))))))))))))) (ac (qs 12 S (xl (aV (a2 (dF gf (pv 3) (eC (aZ eo (pv 7) ag)) fC) (dF gf (pv 3) fC (eC (pv 7))))) (pv 6))) (af (bD (PW.pt (ij (jb (mH g) (pv 12) (aV ba)) (gS (jb mI (qf f (a base) (a2 (pv 0) ag)) ag)))) (af (bv (qf f (e base) (a2 (pv 5) (aU (a3 (pv 8) (aU (a1 bS)) (xq (pv 12) (qf f (a base) (a2 (pv 0) (ql z.len (a1 (pv 12)))))))))))) aJ)))))) (af (aw (pv 5))))))) (by walk_at "b")
theorem CD:sM P w K mg:=fun base=>dG X G T.f_is_name (fun S _ _ _ _ _ _ _ _ _ a e h=>bK (CU h) (af (aw (mG (Gk Bq (pv 0) bS) (mG (Gk Im (ql z.len (a1 (pv 0))) (fO rfl c.LONGEST_NAME)) (si (qB (j5 rfl) z.all yb (a1 (qc (Ln (pv 0)) (aP (by decide)) fun _ _ _ _ _ _=>⟨gc 0,cU,eci Db (pv 0) (fO rfl c.LETTERS)⟩))))))))) (by walk_at "b")
theorem CH:kR P w K mg:=fun base=>dG X G T.f_as_keys (fun S _ _ _ _ _ _ _ _ _ e a h=>bK (CW h) (ac (qs 1 S mF) (ac (bE bu rfl (aK (pv 0)) (gn 2 S) (af (iG a (pv 1) (pv 2) fP rfl))) (af (aw (pv 1)))))) (by walk_at "b")
theorem nO(a:sM P w K mg)(e:kR P w K mg):gA P w K mg:=fun base=>dG X G T.f_first_wrong_name (fun S _ _ _ _ _ _ _ _ _ f g h=>bK (nR h) (ac (bD (jb mI (ql z.len (a1 (pv 0))) ag) (af (aw ag)) aJ) (ac (qs 3 S (qf f (e base) (a1 (pv 2)))) (ac (bE bu rfl (k9 rfl z.enumerate (a1 (pv 0))) (fo rfl (aI (gn 4 S) (aI (gn 5 S) dv))) (ac (bD (PW.pt (j1 (jb mI (pv 4) (pv 1)) (j1 (ik (vv g (pv 5) (pv 3))) (jE (i6 (ei (qf f (a base) (a1 (pv 5))))))))) (af (aw (pv 4))) aJ) (af (iG g (pv 3) (pv 5) fP rfl)))) (af (aw sj)))))) (by walk_at "b")
theorem wF:lM P w K mg:=fun base=>dG X G T.f_door_signs (fun S _ _ _ _ _ _ _ _ _ a e h=>bK (wN c.still h) (af (aw (aZ eN (aZ eN (qc (aK (pv 0)) (aP (by decide)) fun _ _ _ _ _ _=>⟨gc 0,cU,aU (a2 bS (pv 0))⟩) (qc (aK (pv 1)) (aP (by decide)) fun _ _ _ _ _ _=>⟨gc 0,cU,aU (a2 bS (pv 0))⟩)) (aV (a1 (fO rfl c.STILL))))))) (by walk_at "b")
theorem nP(a:kR P w K mg):gB P w K mg:=fun base=>dG X G T.f_first_wrong_door (fun S _ _ _ _ _ _ _ _ _ f e h=>bK (nS h) (ac (qs 3 S (qf f (a base) (a1 (pv 1)))) (ac (qs 4 S Bm) (ac (bE bu rfl (k9 rfl z.enumerate (a1 (pv 0))) (fo rfl (aI (gn 5 S) (aI (gn 6 S) dv))) (ac (bD (PW.pt (j1 (jb mI (pv 5) (fO rfl c.MOST_DOORS)) (jE (ik (vv e (pv 6) (pv 4)))))) (af (aw (pv 5))) aJ) (ac (bD (PW.pt (j1 (ik (kK e (xq (pv 6) ag) (pv 3))) (j1 (yZ (fL e) (xq (pv 6) ag) (pv 2)) (jE (ik (kK e (xq (pv 6) ag) (pv 3))))))) (af (aw (pv 5))) aJ) (af (iG e (pv 4) (pv 6) fP rfl))))) (af (aw sj)))))) (by walk_at "b")
theorem jB:dR P w K mg:=fun base=>dG X G T.f_goals_by_start_and_sign (fun S _ _ _ _ _ _ _ _ _ e a h=>bK (jD h) (ac (qs 1 S Bm) (ac (bE bu rfl (aK (pv 0)) (fo rfl (aI (gn 2 S) (aI (gn 3 S) (aI (gn 4 S) dv)))) (af (bv (f6 dj gm gk cH (f6 PySem.F.plainAttrs_dict PySem.F.slot_dict_setdefault PySem.F.type_dict_setdefault (FY a) (pv 1) (a2 (aU (a2 (pv 2) (pv 3))) (aV ba))) (a1 (pv 4)))))) (af (aw (pv 1)))))) (by walk_at "b")
theorem tP:jP P w K mg:=fun base=>dG X G T.f_led_by_still (fun S _ _ _ _ _ _ _ _ _ e a h=>bK (tT c.still h) (ac (qs 2 S mF) (ac (qs 3 S (aV (a1 (pv 1)))) (ac (qG bu (jb nX (ql z.len (a1 (pv 3))) ag) (ac (qs 4 S (vt dj x_ xZ zT (pv 3))) (af (bE bu rfl (Lo (qH a (pv 0) (aU (a2 (pv 4) (fO rfl c.STILL))) (aU ba) ⟨rfl,rfl,rfl,rfl⟩)) (gn 5 S) (af (bD (ik (kK a (pv 5) (pv 2))) (ac (iG a (pv 2) (pv 5) fP rfl) (af (bv (f6 dj gm gk cH (pv 3) (a1 (pv 5)))))) aJ)))))) (af (aw (pv 2))))))) (by walk_at "b")
theorem oU:hC P w K mg:=fun base=>dG X G T.f_first_led_round (fun S _ _ _ _ _ _ _ _ _ e a h=>bK (oY h) (ac (bE bu rfl (k9 rfl z.enumerate (a1 (pv 0))) (fo rfl (aI (gn 2 S) (aI (gn 3 S) dv))) (af (bD (ik (vv a (pv 3) (k_ a (pv 1) (pv 3) (fun _ _=>rfl)))) (af (aw (pv 2))) aJ))) (af (aw sj)))) (by walk_at "b")
theorem zo:j7 P w K mg:=fun base=>dG X G T.f_need_none (fun S _ _ _ _ _ _ _ _ _ a e h=>bK (zM (K:=K) h) (af (bD (ik (Ex (pv 1))) (af (kI)) aJ))) (by walk_at "b")
theorem wB(a:gA P w K mg)(g:lM P w K mg)(f:gB P w K mg)(e:j7 P w K mg):lH P w K mg:=fun base=>dG X G T.f_need_parts (fun S _ _ _ _ _ _ _ _ _ i j h=>bK (wJ (K:=K) h) (ac (bv (qf i (e base) (a2 bS (qf i (a base) (a3 (pv 0) (fO rfl c.MOST_WORDS) (aV ba)))))) (ac (bv (qf i (e base) (a2 bS (qf i (a base) (a3 (pv 1) (fO rfl c.MOST_WORDS) (pv 0)))))) (ac (bv (qf i (e base) (a2 bS (qf i (a base) (a3 (pv 2) (fO rfl c.MOST_ROOMS) (aV ba)))))) (af (bv (qf i (e base) (a2 bS (qf i (f base) (a3 (pv 3) (pv 2) (qf i (g base) (a2 (pv 0) (pv 1))))))))))))) (by walk_at "b")
theorem p7:iE P w K mg:=fun base=>dG X G T.f_doors_by_start (fun S _ _ _ _ _ _ _ _ _ e a h=>bK (qz h) (ac (qs 2 S mF) (ac (bE bu rfl (aK (pv 0)) (gn 3 S) (af (iG a (pv 2) (pv 3) (aV ba) rfl))) (ac (bE bu rfl (aK (pv 1)) (gn 4 S) (af (bv (f6 dj gm gk cH (k_ a (pv 2) (xq (pv 4) ag) (fun _ _=>rfl)) (a1 (pv 4)))))) (af (aw (pv 2))))))) (by walk_at "b")
theorem pZ:iC P w K mg:=fun base=>dG X G T.f_has_asks_alone (fun S _ _ _ _ _ _ _ _ _ a e h=>bK (qw h) (af (aw (qB (j5 rfl) z.all yb (a1 (qc (aK (pv 0)) (aP (by decide)) fun _ _ _ _ _ _=>⟨gc 0,cU,Gk mI (xq (xq (pv 0) ag) ag) bS⟩)))))) (by walk_at "b")
theorem CI(l:kR P w K mg)(a:dR P w K mg)(i:jP P w K mg)(e:hC P w K mg)(k:j7 P w K mg)(j:lH P w K mg)(f:iE P w K mg)(g:iC P w K mg):nJ P w K mg C:=fun base=>dN c.cm c.makes c.kc T.f_Machine___init__ (fun S _ _ _ _ _ _ _ _ _ m n h=>bK (JS c.mc h) (ac (bv (qf m (j base) (be (pv 1) (a3 (pv 2) (pv 3) (pv 4))))) (ac (mC (pv 0) (qL rfl z.list (a1 (pv 1))) rfl) (ac (mC (pv 0) (qL rfl z.list (a1 (pv 2))) rfl) (ac (mC (pv 0) (qL rfl z.list (a1 (pv 3))) rfl) (ac (mC (pv 0) (qL rfl z.list (a1 (pv 4))) rfl) (ac (mC (pv 0) (qf m (f base) (a2 (pv 3) (pv 4))) rfl) (ac (mC (pv 0) (qf m (l base) (a1 (qc (aK (pv 3)) (aP (by decide)) fun _ _ _ _ _ _=>⟨gc 0,eG (ei (qf m (g base) (a1 (k_ n (jF (pv 1) rfl) (pv 0) (fun _ _=>rfl))))),pv 0⟩))) rfl) (ac (mC (pv 0) (qf m (a base) (a1 (pv 4))) rfl) (ac (mC (pv 0) (im (Ak rfl) rfl z.dict vW (a1 (qc (aK (pv 3)) (aP (by decide)) fun _ _ _ _ _ _=>⟨gc 0,cU,aU (a2 (pv 0) (qf m (i base) (a2 (jF (pv 1) rfl) (pv 0))))⟩))) rfl) (af (bv (qf m (k base) (a2 bS (qf m (e base) (a2 (pv 3) (jF (pv 0) rfl))))))))))))))))) (by walk_at "b")
theorem vb(a:nJ P w K mg C):n_ P w K mg C:=fun base=>dG X G T.f_law_machine (fun S _ _ _ _ _ _ _ _ _ e f h=>bK (CT h) (af (aw (Ii (a base) (e.mono (by decide)) rfl (be (qL rfl z.list (a1 (xq (pv 0) ag))) (a3 (qL rfl z.list (a1 (xq (pv 0) ag))) (qL rfl z.list (a1 (xq (pv 0) ag))) (qL rfl z.list (a1 (xq (pv 0) ag))))))))) (by walk_at "b")
theorem rX:cr P w K mg C:=fun base=>dM c.mc.cls T.f_Machine_rooms (fun S _ _ _ _ _ _ _ _ _ a e h=>bK (HC c.mc h) (af (aw (qL rfl z.list (a1 (jF (pv 0) rfl)))))) (by walk_at "b")
theorem nL:e_ P w K mg C:=fun base=>dM c.mc.cls T.f_Machine_led_from (fun S _ _ _ _ _ _ _ _ _ e a h=>bK (Be c.mc h) (af (aw (qL rfl z.list (a1 (qH a (jF (pv 0) rfl) (pv 1) (aU ba) ⟨rfl,rfl,rfl,rfl⟩)))))) (by walk_at "b")
theorem wz(e:cr P w K mg C)(a:e_ P w K mg C):jn P w K mg C:=fun base=>dG X G T.f_with_still (fun S _ _ _ _ _ _ _ _ _ g f h=>bK (wI h) (ac (qs 2 S mF) (ac (bE bu rfl (aK (pv 1)) (gn 3 S) (af (bD (ik (kK f (pv 3) (pv 2))) (ac (iG f (pv 2) (pv 3) fP rfl) (af (bE bu rfl (aK (qm g (a base) (pv 0) (a1 (pv 3)))) (gn 4 S) (af (iG f (pv 2) (pv 4) fP rfl))))) aJ))) (af (aw (im iI rfl z.tuple iX (a1 (qc (aK (qZ g (e base) (pv 0))) (aP (by decide)) fun _ _ _ _ _ _=>⟨gc 0,eG (ik (vv f (pv 0) (pv 1))),pv 0⟩)))))))) (by walk_at "b")
theorem rY:c9 P w K mg C:=fun base=>dM c.mc.cls T.f_Machine_goals (fun S _ _ _ _ _ _ _ _ _ e a h=>bK (CS c.mc h) (af (aw (qL rfl z.list (a1 (qH a (jF (pv 0) rfl) (aU (a2 (pv 1) (pv 2))) (aU ba) ⟨rfl,rfl,rfl,rfl⟩)))))) (by walk_at "b")
theorem nM:ff P w K mg C:=fun base=>dM c.mc.cls T.f_Machine_is_quiet (fun S _ _ _ _ _ _ _ _ _ e a h=>bK (Bg c.mc h) (af (aw (C8 (vv a (pv 1) (jF (pv 0) rfl)))))) (by walk_at "b")
theorem tQ:g9 P w K mg:=fun base=>dG X G T.f_law_still_on (fun S _ _ _ _ _ _ _ _ _ e a h=>bK (Bc h) (ac (qs 2 S (qL rfl z.list (a1 (pv 1)))) (ac (qs 3 S ag) (ac (qG bu (jb EA (pv 3) (ql z.len (a1 (pv 2)))) (ac (bE bu rfl (aK (pv 0)) (fo rfl (aI (gn 4 S) (aI (gn 5 S) (aI (gn 6 S) dv)))) (af (bD (PW.pt (ij (jb (gq a) (pv 4) (xq (pv 2) (pv 3))) (ij (jb (gq a) (pv 5) (aU (a1 bS))) (gS (yZ (fL a) (pv 6) (pv 2)))))) (af (bv (f6 dj gm gk cH (pv 2) (a1 (pv 6))))) aJ))) (af (qs 3 S (aZ eo (pv 3) ag))))) (af (aw (pv 2))))))) (by walk_at "b")
theorem tN:dO P w K mg C:=fun base=>dM c.mc.cls T.f_Machine_asks (fun S _ _ _ _ _ _ _ _ _ a e h=>bK (JV c.mc h) (af (aw (qL rfl z.list (a1 (jF (pv 0) rfl)))))) (by walk_at "b")
theorem tM:dL P w K mg C:=fun base=>dM c.mc.cls T.f_Machine_says (fun S _ _ _ _ _ _ _ _ _ a e h=>bK (JO c.mc h) (af (aw (qL rfl z.list (a1 (jF (pv 0) rfl)))))) (by walk_at "b")
theorem rZ:gj P w K mg C:=fun base=>dM c.mc.cls T.f_Machine_doors (fun S _ _ _ _ _ _ _ _ _ a e h=>bK (HL c.mc h) (af (aw (qL rfl z.list (a1 (jF (pv 0) rfl)))))) (by walk_at "b")
theorem l5:fK P w K mg C:=fun base=>dM c.mc.cls T.f_Machine_doors_from (fun S _ _ _ _ _ _ _ _ _ e a h=>bK (wM c.mc h) (af (aw (qL rfl z.list (a1 (qH a (jF (pv 0) rfl) (pv 1) (aU ba) ⟨rfl,rfl,rfl,rfl⟩)))))) (by walk_at "b")
theorem wE(a:cr P w K mg C)(e:jn P w K mg C):lK P w K mg C:=fun base=>dG X G T.f_first_face (fun S _ _ _ _ _ _ _ _ _ f g h=>bK (wK h) (af (aw (qf f (e base) (a2 (pv 0) (dF gf (qZ f (a base) (pv 0)) fC (eC ag))))))) (by walk_at "b")
theorem vf(f:jn P w K mg C)(e:c9 P w K mg C)(a:ff P w K mg C):kj P w K mg C:=fun base=>dG X G T.f_face_behind (fun S _ _ _ _ _ _ _ _ _ g i h=>bK (HJ c.hush h) (ac (bD (jb (gq i) (pv 2) (fO rfl c.HUSH)) (af (aw (im iI rfl z.tuple iX (a1 (qc (C7 (pv 1)) (aP (by decide)) fun _ _ _ _ _ _=>⟨gc 0,eG (ei (qm g (a base) (pv 1) (a1 (pv 0)))),pv 0⟩))))) aJ) (ac (qs 3 S (aV ba)) (ac (bE bu rfl (C7 (pv 1)) (gn 4 S) (af (bv (f6 dj xY xX nn (pv 3) (a1 (qm g (e base) (pv 0) (a2 (pv 4) (pv 2)))))))) (af (aw (qf g (f base) (a2 (pv 0) (pv 3))))))))) (by walk_at "b")
theorem CF(e:lK P w K mg C)(a:kj P w K mg C):sN P w K mg C:=fun base=>dG X G T.f_face_of (fun S _ _ _ _ _ _ _ _ _ f g h=>bK (CV h) (ac (qs 2 S (qf f (e base) (a1 (pv 0)))) (ac (bE bu rfl (aK (pv 1)) (gn 3 S) (af (qs 2 S (qf f (a base) (a3 (pv 0) (pv 2) (pv 3)))))) (af (aw (pv 2)))))) (by walk_at "b")
theorem A7(a:sN P w K mg C):wj P w K mg C:=fun base=>dG X G T.f_is_story (fun S _ _ _ _ _ _ _ _ _ e f h=>bK (Bf h) (af (aw (Gk nX (ql z.len (a1 (qf e (a base) (a2 (pv 0) (pv 1))))) ag)))) (by walk_at "b")
theorem oW(a:c9 P w K mg C):hU P w K mg C:=fun base=>dG X G T.f_add_still_steps (fun S _ _ _ _ _ _ _ _ _ f e h=>bK (FN c.still h) (ac (qs 2 S (qL rfl z.list (a1 (pv 1)))) (af (qG bu (jb nX (ql z.len (a1 (pv 2))) ag) (ac (qs 3 S (vt dj x_ xZ zT (pv 2))) (af (bE bu rfl (aK (qm f (a base) (pv 0) (a2 (pv 3) (fO rfl c.STILL)))) (gn 4 S) (af (bD (ik (kK e (pv 4) (pv 1))) (ac (iG e (pv 1) (pv 4) (aU (a3 (pv 3) (fO rfl c.STILL) (pv 4))) rfl) (af (bv (f6 dj gm gk cH (pv 2) (a1 (pv 4)))))) aJ))))))))) (by walk_at "b")
theorem AV(e:c9 P w K mg C)(a:ff P w K mg C):pH P w K mg C:=fun base=>dG X G T.f_steps_by (fun S _ _ _ _ _ _ _ _ _ g f h=>bK (Bd c.hush h) (ac (qs 3 S mF) (ac (bE bu rfl (J8 (pv 1)) (gn 4 S) (af (bD (jb (gq f) (pv 2) (fO rfl c.HUSH)) (af (bD (ei (qm g (a base) (pv 0) (a1 (pv 4)))) (af (iG f (pv 3) (pv 4) (aU (a3 (pv 4) (fO rfl c.HUSH) (pv 4))) rfl)) aJ)) (af (bE bu rfl (aK (qm g (e base) (pv 0) (a2 (pv 4) (pv 2)))) (gn 5 S) (af (iG f (pv 3) (pv 5) (aU (a3 (pv 4) (pv 2) (pv 5))) rfl))))))) (af (aw (pv 3)))))) (by walk_at "b")
theorem u8(e:cr P w K mg C)(a:hU P w K mg C)(f:pH P w K mg C):kh P w K mg C:=fun base=>dG X G T.f_steps_along (fun S _ _ _ _ _ _ _ _ _ g i h=>bK (FM h) (ac (qs 2 S (Kc (Ig (xl (qZ g (e base) (pv 0)) ag) sj JZ) rfl rfl nofun (by decide))) (ac (qs 3 S (aV (a1 (pv 2)))) (ac (bv (qf g (a base) (a2 (pv 0) (pv 2)))) (ac (bE bu rfl (aK (pv 1)) (gn 4 S) (ac (qs 2 S (qf g (f base) (a3 (pv 0) (pv 2) (pv 4)))) (ac (bv (f6 dj gm gk cH (pv 3) (a1 (pv 2)))) (af (bv (qf g (a base) (a2 (pv 0) (pv 2)))))))) (af (aw (pv 3)))))))) (by walk_at "b")
theorem Cz(a:kh P w K mg C):xV P w K mg C:=fun base=>dG X G T.f_walk_of (fun S _ _ _ _ _ _ _ _ _ f e h=>bK (HA c.still h) (ac (qs 2 S (qf f (a base) (a2 (pv 0) (pv 1)))) (ac (bD (jb mI (qB Gv z.len PySem.boot_len (a1 (xl (pv 2) (KW Ha ag)))) ag) (af (aw sj)) aJ) (ac (qs 3 S (xl (qL rfl z.list (a1 (xl (pv 2) (KW Ha ag)))) ag)) (ac (qs 4 S (aV ba)) (ac (qs 5 S (vt dj x_ xZ zT (pv 2))) (ac (qG bu (ik (Ex (k_ e (pv 5) (pv 3) (fun _ _=>rfl)))) (ac (qs 6 S (k_ e (pv 5) (pv 3) (fun _ _=>rfl))) (ac (bv (f6 dj gm gk cH (pv 4) (a1 (pv 6)))) (ac (qs 3 S (xt (pv 6) ag)) (af (bD (jb (mH e) (xt (pv 6) ag) (fO rfl c.STILL)) (af (qs 5 S (vt dj x_ xZ zT (pv 2)))) aJ)))))) (ac (bv (vt dj PySem.F.slot_list_reverse PySem.F.type_list_reverse Dc (pv 4))) (af (aw (pv 4))))))))))) (by walk_at "b")
theorem Hq(a:e_ P w K mg C)(e:c9 P w K mg C):AC P w K mg C:=fun base=>dG X G T.f_takes (fun S _ _ _ _ _ _ _ _ _ f g h=>bK (Fy h) (af (aw (qB (BO rfl) z.any boot_any (a1 (qc (aK (aZ eN (aV (a1 (pv 1))) (qm f (a base) (pv 0) (a1 (pv 1))))) (aP (by decide)) fun _ _ _ _ _ _=>⟨gc 0,cU,Gk nX (ql z.len (a1 (qm f (e base) (pv 1) (a2 (pv 0) (aU (a2 bS (pv 2))))))) ag⟩)))))) (by walk_at "b")
theorem kY(a:cr P w K mg C)(e:dO P w K mg C)(f:AC P w K mg C):fq P w K mg C:=fun base=>dG X G T.f_need_all_asks_taken (fun S _ _ _ _ _ _ _ _ _ g i h=>bK (zN h) (af (bE bu rfl (aK (qZ g (a base) (pv 0))) (gn 1 S) (af (bE bu rfl (aK (qZ g (e base) (pv 0))) (gn 2 S) (af (bD (i6 (ei (qf g (f base) (a3 (pv 0) (pv 1) (pv 2))))) (af (kI)) aJ))))))) (by walk_at "b")
theorem Fp:qY P w K mg:=fun base=>dG X G T.f_common (fun S _ _ _ _ _ _ _ _ _ e a h=>bK (FL h) (af (aw (qc (aK (pv 0)) (aP (by decide)) fun _ _ _ _ _ _=>⟨gc 0,eG (yZ (kb a) (pv 0) (pv 1)),pv 0⟩)))) (by walk_at "b")
theorem AU(a:dO P w K mg C)(e:dL P w K mg C)(f:qY P w K mg):lD P w K mg C:=fun base=>dG X G T.f_wires_of (fun S _ _ _ _ _ _ _ _ _ g i h=>bK (Hz (K:=K) h) (af (aw (aZ eN (qf g (f base) (a2 (qZ g (e base) (pv 0)) (qZ g (a base) (pv 1)))) (qf g (f base) (a2 (qZ g (e base) (pv 1)) (qZ g (a base) (pv 0)))))))) (by walk_at "b")
theorem tS(a:dO P w K mg C)(e:lD P w K mg C):hE P w K mg C:=fun base=>dG X G T.f_asks_of_both (fun S _ _ _ _ _ _ _ _ _ f g h=>bK (HM h) (ac (qs 2 S (qf f (e base) (a2 (pv 0) (pv 1)))) (af (aw (qc (aK (aZ eN (qZ f (a base) (pv 0)) (qZ f (a base) (pv 1)))) (aP (by decide)) fun _ _ _ _ _ _=>⟨gc 0,eG (yZ (fL g) (pv 0) (pv 1)),pv 0⟩))))) (by walk_at "b")
theorem A8(a:cr P w K mg C)(e:gj P w K mg C):pJ P w K mg C:=fun base=>dG X G T.f_is_small (fun S _ _ _ _ _ _ _ _ _ f g h=>bK (HB h) (af (aw (mG (Gk Im (ql z.len (a1 (qZ f (a base) (pv 0)))) (fO rfl c.MOST_JOINED_ROOMS)) (si (Gk Im (ql z.len (a1 (qZ f (e base) (pv 0)))) (fO rfl c.MOST_JOINED_DOORS))))))) (by walk_at "b")
theorem zp(e:dO P w K mg C)(a:dL P w K mg C)(i:qY P w K mg)(f:hE P w K mg C)(g:pJ P w K mg C):mT P w K mg C:=fun base=>dG X G T.f_need_join (fun S _ _ _ _ _ _ _ _ _ j k h=>bK (HE h) (ac (bD (PW.pt (j1 (i6 (ei (qf j (g base) (a1 (pv 0))))) (jE (i6 (ei (qf j (g base) (a1 (pv 1)))))))) (af (kI)) aJ) (ac (bD (PW.pt (j1 (jb nX (ql z.len (a1 (qf j (i base) (a2 (qZ j (e base) (pv 0)) (qZ j (e base) (pv 1)))))) ag) (jE (jb nX (ql z.len (a1 (qf j (i base) (a2 (qZ j (a base) (pv 0)) (qZ j (a base) (pv 1)))))) ag)))) (af (kI)) aJ) (ac (bD (jb mI (ql z.len (a1 (qf j (f base) (a2 (pv 0) (pv 1))))) ag) (af (kI)) aJ) (af (bD (PW.pt (j1 (jb nX (ql z.len (a1 (qf j (f base) (a2 (pv 0) (pv 1))))) (fO rfl c.MOST_WORDS)) (jE (jb nX (ql z.len (a1 (aZ eN (qZ j (a base) (pv 0)) (qZ j (a base) (pv 1))))) (fO rfl c.MOST_WORDS))))) (af (kI)) aJ)))))) (by walk_at "b")
theorem wG(a:fK P w K mg C):lQ P w K mg C:=fun base=>dG X G T.f_alone_from (fun S _ _ _ _ _ _ _ _ _ f e h=>bK (HP c.still h) (af (aw (qc (aK (qm f (a base) (pv 0) (a1 (pv 1)))) (lg (cG (aP (by decide)) bm (cG (aP (by decide)) bm (cG (aP (by decide)) bm (jG) (cI)) (dH bm (cI))) (dH bm (dH bm (cI))))) fun _ _ _ _ _ _=>⟨fo rfl (aI (gc 0) (aI (gc 1) (aI (gc 2) dv))),eG (PW.pt (j1 (jb (gq e) (pv 1) (fO rfl c.STILL)) (jE (yZ (fL e) (xt (pv 1) ag) (pv 3))))),aU (a2 (pv 1) (pv 2))⟩)))) (by walk_at "b")
theorem vg(a:lQ P w K mg C):km P w K mg C:=fun base=>dG X G T.f_doors_alone (fun S _ _ _ _ _ _ _ _ _ e f h=>bK (FK h) (ac (mD (pv 2) (fo rfl (aI (gn 4 S) (aI (gn 5 S) dv)))) (ac (Me 6 S (aK (qf e (a base) (a3 (pv 0) (pv 4) (pv 3)))) (lg (cG (aP (by decide)) bm (cG (aP (by decide)) bm (jG) (cI)) (dH bm (cI)))) fun _ _ _ _ _ _=>⟨fo rfl (aI (gc 0) (aI (gc 1) dv)),cU,aU (a3 (pv 2) (pv 0) (aU (a2 (pv 1) (pv 3))))⟩) (af (aw (aZ eN (pv 6) (qc (aK (qf e (a base) (a3 (pv 1) (pv 5) (pv 3)))) (lg (cG (aP (by decide)) bm (cG (aP (by decide)) bm (jG) (cI)) (dH bm (cI)))) fun _ _ _ _ _ _=>⟨fo rfl (aI (gc 0) (aI (gc 1) dv)),cU,aU (a3 (pv 2) (pv 0) (aU (a2 (pv 3) (pv 1))))⟩))))))) (by walk_at "b")
theorem wA(a:c9 P w K mg C)(e:dL P w K mg C):lE P w K mg C:=fun base=>dG X G T.f_wire_goals (fun S _ _ _ _ _ _ _ _ _ f g h=>bK (Fw h) (af (aw (qm f (a base) (pv 0) (a2 (pv 1) (aU (a2 (Ik (yZ (kb g) (pv 2) (qZ f (e base) (pv 0))) bS bS) (pv 2)))))))) (by walk_at "b")
theorem p6(a:lE P w K mg C):iD P w K mg C:=fun base=>dG X G T.f_doors_together (fun S _ _ _ _ _ _ _ _ _ e f h=>bK (FJ h) (ac (qs 4 S (aV ba)) (ac (bE bu rfl (aK (pv 3)) (gn 5 S) (ac (qs 6 S (qf e (a base) (a3 (pv 1) (xt (pv 2) ag) (pv 5)))) (af (bE bu rfl (aK (qf e (a base) (a3 (pv 0) (xt (pv 2) ag) (pv 5)))) (gn 7 S) (af (bv (f6 dj xY xX nn (pv 4) (a1 (qc (aK (pv 6)) (aP (by decide)) fun _ _ _ _ _ _=>⟨gc 0,cU,aU (a3 (pv 1) (aU (a2 bS (pv 2))) (aU (a2 (pv 3) (pv 0))))⟩))))))))) (af (aw (pv 4)))))) (by walk_at "b")
theorem pV(a:cr P w K mg C):iz P w K mg C:=fun base=>dG X G T.f_pairs_of_rooms (fun S _ _ _ _ _ _ _ _ _ e f h=>bK (FC h) (ac (qs 2 S (aV ba)) (ac (bE bu rfl (aK (qZ e (a base) (pv 0))) (gn 3 S) (af (bv (f6 dj xY xX nn (pv 2) (a1 (qc (aK (qZ e (a base) (pv 1))) (aP (by decide)) fun _ _ _ _ _ _=>⟨gc 0,cU,aU (a2 (pv 1) (pv 0))⟩)))))) (af (aw (pv 2)))))) (by walk_at "b")
theorem pW:iA P w K mg:=fun base=>dG X G T.f_name_of_number (fun S _ _ _ _ _ _ _ _ _ a e h=>bK (HG h) (ac (mD (qB Aj z.divmod boot_divmod (a2 (pv 0) (ql z.len (a1 (fO rfl c.LETTERS))))) (fo rfl (aI (gn 1 S) (aI (gn 2 S) dv)))) (af (aw (aZ o5 (xs' (fO rfl c.LETTERS) (pv 1)) (xs' (fO rfl c.LETTERS) (pv 2))))))) (by walk_at "b")
theorem Fo(n:nJ P w K mg C)(e:dL P w K mg C)(a:fq P w K mg C)(m:lD P w K mg C)(j:hE P w K mg C)(l:mT P w K mg C)(k:km P w K mg C)(f:iD P w K mg C)(g:iz P w K mg C)(i:iA P w K mg):Ca P w K mg C:=fun base=>dG X G T.f_joined (fun S _ _ _ _ _ _ _ _ _ o p h=>bK (FE h) (ac (bv (qf o (l base) (a2 (pv 0) (pv 1)))) (ac (bv (qf o (a base) (a1 (pv 0)))) (ac (bv (qf o (a base) (a1 (pv 1)))) (ac (qs 2 S (qf o (m base) (a2 (pv 0) (pv 1)))) (ac (qs 3 S (im (wS rfl p) rfl z.dict vW (a1 (qc (k9 rfl z.enumerate (a1 (qf o (g base) (a2 (pv 0) (pv 1))))) (lg (cG (aP (by decide)) bm (cG (aP (by decide)) bm (jG) (cI)) (dH bm (cI)))) fun _ _ _ _ _ _=>⟨fo rfl (aI (gc 0) (aI (gc 1) dv)),cU,aU (a2 (pv 1) (qf o (i base) (a1 (pv 0))))⟩)))) (ac (qs 4 S (aV ba)) (ac (bE bu rfl (Ih (pv 3)) (gn 5 S) (af (bv (f6 dj xY xX nn (pv 4) (a1 (aZ eN (qf o (k base) (be (pv 0) (a3 (pv 1) (pv 5) (pv 2)))) (qf o (f base) (be (pv 0) (a3 (pv 1) (pv 5) (pv 2)))))))))) (ac (Me 6 S (aK (pv 4)) (lg (cG (aP (by decide)) bm (cG (aP (by decide)) bm (cG (aP (by decide)) bm (jG) (cI)) (dH bm (cI))) (dH bm (dH bm (cI))))) fun _ _ _ _ _ _=>⟨fo rfl (aI (gc 0) (aI (gc 1) (aI (gc 2) dv))),cU,aU (a3 (k_ p (pv 3) (pv 0) (fun _ _=>rfl)) (pv 1) (k_ p (pv 3) (pv 2) (fun _ _=>rfl)))⟩) (af (aw (Ii (n base) (o.mono (by decide)) rfl (be (qf o (j base) (a2 (pv 0) (pv 1))) (a3 (aZ eN (qZ o (e base) (pv 0)) (qZ o (e base) (pv 1))) (Bl rfl rfl z.list (pv 3)) (pv 6))))))))))))))) (by walk_at "b")
theorem u_(a:fJ P w K mg)(f:nI P w K mg)(e:g9 P w K mg):ki P w K mg:=fun base=>dG X G T.f_law_willing (fun S _ _ _ _ _ _ _ _ _ g i h=>bK (CQ h) (ac (mD (pv 1) (fo rfl (aI (gn 2 S) (aI (gn 3 S) (aI (gn 4 S) (aI (gn 5 S) dv)))))) (ac (qs 5 S (qL rfl z.list (a1 (pv 5)))) (ac (bE bu rfl (aK (pv 4)) (gn 6 S) (af (bE bu rfl (aK (pv 2)) (gn 7 S) (ac (qs 8 S (qf g (e base) (a2 (pv 5) (aV (a1 (pv 6)))))) (af (bD (jb (gq i) (qc (aK (pv 5)) (aP (by decide)) fun _ _ _ _ _ _=>⟨gc 0,eG (PW.pt (ij (yZ (kb i) (xq (pv 0) ag) (pv 1)) (gS (jb (gq i) (xq (pv 0) ag) (aU (a2 bS (pv 2))))))),pv 0⟩) (aV ba)) (ac (qs 9 S (xl (aV (a2 (pv 6) (xl (pv 4) (qf g (a base) (a2 (pv 0) (ql z.len (a1 (pv 4)))))))) (qf g (a base) (a2 (pv 0) ag)))) (af (bv (qf g (f base) (a2 (pv 5) (aU (a3 (pv 6) (aU (a2 bS (pv 7))) (pv 9)))))))) aJ)))))) (af (aw (aU (be (pv 2) (a3 (pv 3) (pv 4) (pv 5)))))))))) (by walk_at "b")
theorem r8:gh P w K mg:=fun base=>dG X G T.f_law_asks_left (fun S _ _ _ _ _ _ _ _ _ e a h=>bK (HN h) (ac (qs 1 S (aZ eN (qc (aK (xl (pv 0) ag)) (aP (by decide)) fun _ _ _ _ _ _=>⟨gc 0,eG (yZ (kb a) (pv 0) (xl (pv 1) ag)),pv 0⟩) (qc (aK (xl (pv 0) ag)) (aP (by decide)) fun _ _ _ _ _ _=>⟨gc 0,eG (yZ (kb a) (pv 0) (xl (pv 1) ag)),pv 0⟩))) (af (aw (qc (aK (aZ eN (xl (pv 0) ag) (xl (pv 0) ag))) (aP (by decide)) fun _ _ _ _ _ _=>⟨gc 0,eG (yZ (fL a) (pv 0) (pv 1)),pv 0⟩))))) (by walk_at "b")
theorem r6(f:fJ P w K mg)(e:j9 P w K mg)(a:gh P w K mg):i9 P w K mg:=fun base=>dG X G T.f_law_two_words (fun S _ _ _ _ _ _ _ _ _ g i h=>bK (JK h) (by(refine ac (qs 2 S (qf g (e base) (a2 (pv 0) ag))) ?_);(with_reducible refine ac ?_ ?_);(with_reducible refine qsL 3 ?_ ?_ (hi:=?_) (hx:=?_) (hf:=?_));(exact S);(with_reducible exact FV);(rfl);(first|exact Or.inl rfl|exact Or.inr rfl);(first|exact .inl rfl|exact .inr rfl|assumption);(with_reducible refine ac ?_ ?_);(with_reducible refine qsL 4 ?_ ?_ (hi:=?_) (hx:=?_) (hf:=?_));(exact S);(with_reducible exact FU);(rfl);(first|exact Or.inl rfl|exact Or.inr rfl);(first|exact .inl rfl|exact .inr rfl|assumption);(refine ac (bE bu rfl (aK (dF gf (pv 2) fC (eC ag))) (gn 5 S) (af (bE bu rfl (aK (xl (pv 4) (qf g (f base) (a2 (pv 0) (aZ eo ag (aZ ip ag (pv 1))))))) (gn 6 S) (af (bD (jb EA (ql z.len (a1 (xl (pv 3) (pv 6)))) (aZ eo ag (aZ ip ag (pv 1)))) (af (bv (f6 dj gm gk cH (xl (pv 3) (pv 6)) (a1 (pv 5))))) aJ))))) ?_);(refine ac (bE bu rfl (jr rfl z.range (a1 ag)) (gn 6 S) (af (bD (jb (gq i) (xl (pv 3) (pv 6)) (aV ba)) (af (bv (f6 dj gm gk cH (xl (pv 3) (pv 6)) (a1 (xl (pv 2) (aZ eo ag (pv 6))))))) aJ))) ?_);(refine ac (bD (PW.pt (ij (jb mI (pv 1) ag) (gS (jb (gq i) (qf g (a base) (a1 (pv 3))) (aV ba))))) (af (bv (f6 dj gm gk cH (xl (pv 3) ag) (a1 (xl (pv 2) ag))))) aJ) ?_);exact(af (aw (pv 3))))) (by walk_at "b")
theorem AZ(e:fJ P w K mg)(f:j9 P w K mg)(a:iB P w K mg):pI P w K mg:=fun base=>dG X G T.f_law_part (fun S _ _ _ _ _ _ _ _ _ g i h=>bK (JQ (K:=K) h) (ac (qs 4 S (qf g (f base) (a2 (pv 0) (aZ eo ag (qf g (e base) (a2 (pv 0) (pv 3))))))) (ac (qs 5 S (qf g (a base) (be (pv 0) (be (pv 1) (a3 (pv 2) (pv 4) (qf g (e base) (a2 (pv 0) ag))))))) (af (aw (aU (be (pv 1) (a3 (pv 2) (pv 4) (pv 5))))))))) (by walk_at "b")
theorem pX(a:ki P w K mg)(e:i9 P w K mg)(f:pI P w K mg):kQ P w K mg:=fun base=>dG X G T.f_law_two_takers (fun S _ _ _ _ _ _ _ _ _ g i h=>bK (JL h) (ac (qs 3 S (qf g (e base) (a2 (pv 0) ag))) (ac (qs 4 S (qf g (a base) (a2 (pv 0) (qf g (f base) (be (pv 0) (a3 (xq (pv 3) ag) (xq (pv 3) ag) (pv 1))))))) (ac (qs 5 S (qf g (a base) (a2 (pv 0) (qf g (f base) (be (pv 0) (a3 (xq (pv 3) ag) (xq (pv 3) ag) (pv 2))))))) (af (aw (aV (a2 (pv 4) (pv 5))))))))) (by walk_at "b")
theorem zt:j8 P w K mg:=fun base=>dG X G T.f_law_quiet (fun S _ _ _ _ _ _ _ _ _ a e h=>bK (FB h) (ac (Me 2 S (aK (xt (pv 0) ag)) (aP (by decide)) fun _ _ _ _ _ _=>⟨gc 0,eG (jb mI (xt (pv 0) ag) (pv 1)),pv 0⟩) (af (aw (qB (j5 rfl) z.all yb (a1 (qc (aK (pv 2)) (aP (by decide)) fun _ _ _ _ _ _=>⟨gc 0,cU,Gk mI (xt (xt (pv 0) ag) ag) bS⟩))))))) (by walk_at "b")
theorem tR(a:g9 P w K mg):g_ P w K mg:=fun base=>dG X G T.f_law_in_order (fun S _ _ _ _ _ _ _ _ _ e f h=>bK (Md h) (ac (qs 2 S (qf e (a base) (a2 (xq (pv 0) ag) (pv 1)))) (af (aw (im iI rfl z.tuple iX (a1 (qc (aK (xq (pv 0) ag)) (aP (by decide)) fun _ _ _ _ _ _=>⟨gc 0,eG (yZ (kb f) (pv 0) (pv 1)),pv 0⟩))))))) (by walk_at "b")
theorem vd(e:j8 P w K mg)(a:g_ P w K mg):iL P w K mg:=fun base=>dG X G T.f_law_face_on (fun S _ _ _ _ _ _ _ _ _ g f h=>bK (FH h) (ac (bD (jb (gq f) (pv 2) (aU (a1 bS))) (af (aw (im iI rfl z.tuple iX (a1 (qc (C7 (pv 1)) (aP (by decide)) fun _ _ _ _ _ _=>⟨gc 0,eG (ei (qf g (e base) (a2 (pv 1) (pv 0)))),pv 0⟩))))) aJ) (ac (qs 3 S (aV ba)) (ac (bE bu rfl (aK (xt (pv 0) ag)) (fo rfl (aI (gn 4 S) (aI (gn 5 S) (aI (gn 6 S) dv)))) (af (bD (PW.pt (ij (yZ (kb f) (pv 4) (pv 1)) (ij (jb (gq f) (pv 5) (pv 2)) (gS (yZ (fL f) (pv 6) (pv 3)))))) (af (bv (f6 dj gm gk cH (pv 3) (a1 (pv 6))))) aJ))) (af (aw (qf g (a base) (a2 (pv 0) (pv 3))))))))) (by walk_at "b")
theorem ve(a:g_ P w K mg)(e:iL P w K mg):iM P w K mg:=fun base=>dG X G T.f_law_face_at (fun S _ _ _ _ _ _ _ _ _ f g h=>bK (FD h) (ac (qs 2 S (qf f (a base) (a2 (pv 0) (dF Lj (xq (pv 0) ag) fC (eC ag))))) (ac (bE bu rfl (aK (pv 1)) (gn 3 S) (af (qs 2 S (qf f (e base) (a3 (pv 0) (pv 2) (pv 3)))))) (af (aw (pv 2)))))) (by walk_at "b")
theorem zA:mU P w K mg:=fun base=>dG X G T.f_law_heard (fun S _ _ _ _ _ _ _ _ _ e a h=>bK (FG h) (ac (bD (jb (gq a) (pv 1) (aU (a1 bS))) (af (aw (pv 1))) aJ) (ac (bD (yZ (kb a) (xq (pv 1) ag) (xq (pv 0) ag)) (af (aw (aU (a2 bS (xq (pv 1) ag))))) aJ) (ac (bD (yZ (kb a) (xq (pv 1) ag) (xq (pv 0) ag)) (af (aw (aU (a2 bS (xq (pv 1) ag))))) aJ) (af (aw sj)))))) (by walk_at "b")
theorem wD(a:iL P w K mg)(e:mU P w K mg):jo P w K mg:=fun base=>dG X G T.f_law_beside (fun S _ _ _ _ _ _ _ _ _ f g h=>bK (JU (K:=K) h) (ac (qs 3 S (qf f (e base) (a2 (pv 0) (pv 2)))) (ac (bD (ik (zP (pv 3))) (af (aw (pv 1))) aJ) (af (aw (qf f (a base) (a3 (pv 0) (pv 1) (pv 3)))))))) (by walk_at "b")
theorem AX:we P w K mg:=fun base=>by
  have E0:fU P w K mg base "_law_same" ["found","due"] 0 Mb:=by
   obtain⟨f,a,t⟩:=T.f_law_same;obtain⟨k,F⟩:=t.fun_;exact⟨f,k,Mg,h9 X G a,F.kp,F.binds (ps:=["found","due"]) (by walk_at "b")⟩
  have g:∀(n D:Nat) (i:Sp),0<=n->D<=4->(∀m,D=m+1->i=(fh K m))->fU P w K mg base "_law_same" ["found","due"] n i->fU P w K mg base "_law_same" ["found","due"] (n+1) (fh K D):=fun n D i A o p q=>dG X G T.f_law_same (fun S _ _ _ _ _ _ _ _ _ r j h=>bK (FA (bI o (by decide)) p h) (ac (bD (ik (zP (pv 1))) (af (aw (C8 (zP (pv 0))))) aJ) (ac (bD (ei (qB eO z.isinstance eP (a2 (pv 1) (o0 rfl z.bool)))) (af (aw (mG (qB eO z.isinstance eP (a2 (pv 0) (o0 rfl z.bool))) (si (Gk mI (pv 0) (pv 1)))))) aJ) (ac (bD (ei (qB eO z.isinstance eP (a2 (pv 1) (xu rfl z.str)))) (af (aw (mG (qB eO z.isinstance eP (a2 (pv 0) (xu rfl z.str))) (si (Gk (gq j) (pv 0) (pv 1)))))) aJ) (ac (bD (ei (qB eO z.isinstance eP (a2 (pv 1) (xv rfl z.int)))) (af (aw (mG (qB eO z.isinstance eP (a2 (pv 0) (xv rfl z.int))) (mG (Ls (qB eO z.isinstance eP (a2 (pv 0) (o0 rfl z.bool)))) (si (Gk (gq j) (pv 0) (pv 1))))))) aJ) (ac (bD (PW.pt (ij (ei (qB eO z.isinstance eP (a2 (pv 1) (mE rfl z.tuple)))) (gS (i6 (ei (qB eO z.isinstance eP (a2 (pv 0) (mE rfl z.tuple)))))))) (af (aw fP)) aJ) (ac (bD (PW.pt (ij (ei (qB eO z.isinstance eP (a2 (pv 1) (oZ rfl z.list)))) (gS (i6 (ei (qB eO z.isinstance eP (a2 (pv 0) (oZ rfl z.list)))))))) (af (aw fP)) aJ) (ac (bD (jb Bq (ql z.len (a1 (pv 0))) (ql z.len (a1 (pv 1)))) (af (aw fP)) aJ) (af (aw (qB (j5 rfl) z.all yb (a1 (qc (J7 rfl z.zip (a2 (pv 0) (pv 1))) (lg (cG (aP (by decide)) bm (cG (aP (by decide)) bm (jG) (cI)) (dH bm (cI)))) fun _ _ _ _ _ _=>⟨fo rfl (aI (gc 0) (aI (gc 1) dv)),cU,KY q r rfl (a2 (pv 0) (pv 1))⟩))))))))))))) (by walk_at "b") (l:=fun B H Q E h=>by rcases h with⟨_,_,_,h,_⟩|⟨_,h,_⟩<;>(rw[h];rfl));have s:=g 0 0 _ (by decide) (by decide) (fun m e=>by cases e) E0;have u:=g 1 1 _ (by decide) (by decide) (fun m e=>by cases e;rfl) s;have v:=g 2 2 _ (by decide) (by decide) (fun m e=>by cases e;rfl) u;have x:=g 3 3 _ (by decide) (by decide) (fun m e=>by cases e;rfl) v;have y:=g 4 4 _ (by decide) (by decide) (fun m e=>by cases e;rfl) x;exact y
theorem nN(a:gh P w K mg):eZ P w K mg:=fun base=>dG X G T.f_law_signs_of_two (fun S _ _ _ _ _ _ _ _ _ e f h=>bK (JN h) (ac (qs 2 S (qf e (a base) (a1 (aV (be (xq (pv 0) ag) (a3 (xq (pv 0) ag) (xq (pv 1) ag) (xq (pv 1) ag))))))) (ac (Me 3 S (aK (pv 2)) (aP (by decide)) fun _ _ _ _ _ _=>⟨gc 0,cU,aU (a2 bS (pv 0))⟩) (af (aw (aZ eN (aZ eN (pv 3) (qc (aK (aZ eN (xq (pv 0) ag) (xq (pv 1) ag))) (aP (by decide)) fun _ _ _ _ _ _=>⟨gc 0,cU,aU (a2 bS (pv 0))⟩)) (aV (a1 (aU (a1 bS)))))))))) (by walk_at "b")
theorem AY(e:fJ P w K mg)(f:iM P w K mg)(a:jo P w K mg)(g:eZ P w K mg):wf P w K mg:=fun base=>dG X G T.f_law_road (fun S _ _ _ _ _ _ _ _ _ i j h=>bK (JP h) (ac (qs 3 S (qf i (g base) (a2 (pv 1) (pv 2)))) (ac (qs 4 S (aZ eN (pv 3) (qc (aK (aZ eN (xq (pv 1) ag) (xq (pv 2) ag))) (aP (by decide)) fun _ _ _ _ _ _=>⟨gc 0,eG (yZ (kb j) (pv 0) (aZ eN (xq (pv 1) ag) (xq (pv 2) ag))),aU (a2 bS (pv 0))⟩))) (ac (qs 5 S (aU (a2 (qf i (f base) (a2 (pv 1) (aV ba))) (qf i (f base) (a2 (pv 2) (aV ba)))))) (ac (qs 6 S (aV ba)) (ac (bE bu rfl (jr rfl z.range (a1 (qf i (e base) (a2 (pv 0) ag)))) (gn 7 S) (ac (qs 8 S (aV ba)) (ac (bE bu rfl (aK (pv 3)) (gn 9 S) (af (bD (PW.pt (ij (jb (mH j) (qf i (a base) (a3 (pv 1) (xq (pv 5) ag) (pv 9))) (aU ba)) (gS (jb (mH j) (qf i (a base) (a3 (pv 2) (xq (pv 5) ag) (pv 9))) (aU ba))))) (af (bv (f6 dj gm gk cH (pv 8) (a1 (pv 9))))) aJ))) (ac (qs 10 S (pv 4)) (ac (bD (PW.pt (ij (jb (mH j) (pv 8) (aV ba)) (gS (jb nX (qf i (e base) (a2 (pv 0) ag)) ag)))) (af (qs 10 S (pv 8))) aJ) (ac (qs 9 S (xl (pv 10) (qf i (e base) (a2 (pv 0) (ql z.len (a1 (pv 10))))))) (ac (bv (f6 dj gm gk cH (pv 6) (a1 (pv 9)))) (af (qs 5 S (aU (a2 (qf i (a base) (a3 (pv 1) (xq (pv 5) ag) (pv 9))) (qf i (a base) (a3 (pv 2) (xq (pv 5) ag) (pv 9)))))))))))))) (af (aw (pv 6))))))))) (by walk_at "b")
theorem CB(a:iM P w K mg)(f:jo P w K mg)(e:eZ P w K mg):xW P w K mg:=fun base=>dG X G T.f_law_has (fun S _ _ _ _ _ _ _ _ _ g i h=>bK (JT h) (ac (qs 3 S (qf g (e base) (a2 (pv 0) (pv 1)))) (ac (qs 4 S (aU (a2 (qf g (a base) (a2 (pv 0) (aV ba))) (qf g (a base) (a2 (pv 1) (aV ba)))))) (ac (bE bu rfl (aK (pv 2)) (gn 5 S) (ac (bD (yZ (fL i) (pv 5) (pv 3)) (af (aw fP)) aJ) (af (qs 4 S (aU (a2 (qf g (f base) (a3 (pv 0) (xq (pv 4) ag) (pv 5))) (qf g (f base) (a3 (pv 1) (xq (pv 4) ag) (pv 5))))))))) (af (aw (mG (Gk (mH i) (xq (pv 4) ag) (aU ba)) (si (Gk (mH i) (xq (pv 4) ag) (aU ba)))))))))) (by walk_at "b")
theorem vc(a:j8 P w K mg):og P w K mg:=fun base=>dG X G T.f_law_is_walk (fun S _ _ _ _ _ _ _ _ _ f e h=>bK (FF h) (ac (qs 2 S (xl (xt (pv 0) ag) ag)) (ac (bE bu rfl (aK (pv 1)) (gn 3 S) (ac (bD (PW.pt (j1 (i6 (ei (qB eO z.isinstance eP (a2 (pv 3) (mE rfl z.tuple))))) (j1 (jb Bq (ql z.len (a1 (pv 3))) ag) (jE (jb Bq (xt (pv 3) ag) (pv 2)))))) (af (aw fP)) aJ) (ac (bD (PW.pt (ij (jb (gq e) (xt (pv 3) ag) (aU (a1 bS))) (gS (PW.pt (j1 (jb Bq (xt (pv 3) ag) (pv 2)) (jE (i6 (ei (qf f (a base) (a2 (pv 0) (pv 2))))))))))) (af (aw fP)) aJ) (ac (bD (PW.pt (ij (jb (mH e) (xt (pv 3) ag) (aU (a1 bS))) (gS (yZ (fL e) (pv 3) (xt (pv 0) ag))))) (af (aw fP)) aJ) (af (qs 2 S (xt (pv 3) ag))))))) (af (aw fP))))) (by walk_at "b")
theorem va(a:cr P w K mg C)(f:dO P w K mg C)(g:dL P w K mg C)(e:gj P w K mg C):n6 P w K mg C:=fun base=>dG X G T.f_law_told_by (fun S _ _ _ _ _ _ _ _ _ i j h=>bK (Fx (K:=K) h) (af (aw (aU (be (qZ i (f base) (pv 0)) (a3 (qZ i (g base) (pv 0)) (qZ i (a base) (pv 0)) (qZ i (e base) (pv 0)))))))) (by walk_at "b")
end
theorem Lz(X:K.In h)(G:h.Ns cB mg)(z:Zs mg)(c:Cs K mg C a_STILL a_HUSH)(T:Ts K C):∃f fd,mg "law"=some (.ref f)/\(∀(s:Shared) (v:Value),uB s fd ⟨[v],[]⟩ [("script",v)])/\∀base:Heap,mR P w K mg base CX0 7 f fd ["script"] (sp_law70 K):=by
 have b6:lI P w K mg:=wC X G z c T;have cl:wg P w K mg:=A6 X G z c T;have m:fJ P w K mg:=AW X G z c T b6;have al:j9 P w K mg:=zv X G z c T m;have bl:nI P w K mg:=CA X G z c T;have ap:iB P w K mg:=pY X G z c T m bl;have c0:sM P w K mg:=CD X G z c T;have Q:kR P w K mg:=CH X G z c T;have L:gA P w K mg:=nO X G z c T c0 Q;have b7:lM P w K mg:=wF X G z c T;have M:gB P w K mg:=nP X G z c T Q;have q:dR P w K mg:=jB X G z c T;have bi:jP P w K mg:=tP X G z c T;have U:hC P w K mg:=oU X G z c T;have as:j7 P w K mg:=zo X G z c T;have b8:lH P w K mg:=wB X G z c T L b7 M as;have aC:iE P w K mg:=p7 X G z c T;have a0:iC P w K mg:=pZ X G z c T;have bn:nJ P w K mg C:=CI X G z c T Q q bi U as b8 aC a0;have E:n_ P w K mg C:=vb X G z c T bn;have e:cr P w K mg C:=rX X G z c T;have n:e_ P w K mg C:=nL X G z c T;have N:jn P w K mg C:=wz X G z c T e n
 have g:c9 P w K mg C:=rY X G z c T;have o:ff P w K mg C:=nM X G z c T;have y:g9 P w K mg:=tQ X G z c T;have i:dO P w K mg C:=tN X G z c T;have j:dL P w K mg C:=tM X G z c T;have r:gj P w K mg C:=rZ X G z c T;have D:fK P w K mg C:=l5 X G z c T;have b9:lK P w K mg C:=wE X G z c T e N;have b0:kj P w K mg C:=vf X G z c T N g o;have c2:sN P w K mg C:=CF X G z c T b9 b0;have H:wj P w K mg C:=A7 X G z c T c2;have Y:hU P w K mg C:=oW X G z c T g;have cm:pH P w K mg C:=AV X G z c T g o;have b1:kh P w K mg C:=u8 X G z c T e Y cm;have c3:xV P w K mg C:=Cz X G z c T b1;have da:AC P w K mg C:=Hq X G z c T n g;have x:fq P w K mg C:=kY X G z c T e i da;have ce:qY P w K mg:=Fp X G z c T;have bb:lD P w K mg C:=AU X G z c T i j ce;have A:hE P w K mg C:=tS X G z c T i bb;have co:pJ P w K mg C:=A8 X G z c T e r;have ch:mT P w K mg C:=zp X G z c T i j ce A co;have ca:lQ P w K mg C:=wG X G z c T D
 have b2:km P w K mg C:=vg X G z c T ca
 have cc:lE P w K mg C:=wA X G z c T g j;have a4:iD P w K mg C:=p6 X G z c T cc;have a5:iz P w K mg C:=pV X G z c T e;have a6:iA P w K mg:=pW X G z c T;have c5:Ca P w K mg C:=Fo X G z c T bn j x bb A ch b2 a4 a5 a6;have b3:ki P w K mg:=u_ X G z c T m bl y;have u:gh P w K mg:=r8 X G z c T;have a9:i9 P w K mg:=r6 X G z c T m al u;have cq:pI P w K mg:=AZ X G z c T m al ap;have a7:kQ P w K mg:=pX X G z c T b3 a9 cq;have a8:j8 P w K mg:=zt X G z c T;have B:g_ P w K mg:=tR X G z c T y;have I:iL P w K mg:=vd X G z c T a8 B;have J:iM P w K mg:=ve X G z c T B I;have ci:mU P w K mg:=zA X G z c T;have O:jo P w K mg:=wD X G z c T I ci;have cs:we P w K mg:=AX X G z c T;have p:eZ P w K mg:=nN X G z c T u;have cL:wf P w K mg:=AY X G z c T m J O p;have c4:xW P w K mg:=CB X G z c T J O p;have b4:og P w K mg:=vc X G z c T a8;have b5:n6 P w K mg C:=va X G z c T e i j r;obtain⟨f,a,t⟩:=T.f_law70;obtain⟨oc,od,an,sl,kV,dc,pm,cd,ct,l,c1,k1⟩:=t;have F:=II (st:=(fE 82)) l c1 k1;have sc:lC EZ Ib (cE (fE 82)):=by walk_at "s"
 have S:=sc.nd;exact⟨f,_,h9 X G a,fun s v=>.of_eq rfl,fun base=>F.ok (k:=6) sc (by walk_at "l") (fun _ _ _ _ _ _ _ _ hr h=>by have hu:=EG hr;exact bK (HH (C:=C) h) (ac (qs 1 S (qf hr (cl base) (a1 (pv 0)))) (ac (mD (qf hr (a7 base) (a3 (pv 1) ag ag)) (Lp rfl (aI (gn 2 S) (aI (gn 3 S) dv)))) (ac (qs 4 S (qf hr (c5 base) (a2 (qf hr (E base) (a1 (pv 2))) (qf hr (E base) (a1 (pv 3)))))) (ac (qs 5 S (qf hr (cL base) (a3 (pv 1) (pv 2) (pv 3)))) (ac (qs 6 S (qf hr (c4 base) (a3 (pv 2) (pv 3) (pv 5)))) (ac (qs 7 S (qL rfl z.list (a1 (pv 5)))) (ac (bD (PW.pt (j1 (i6 (ei (qf hr (cs base) (a2 (qf hr (H base) (a2 (pv 4) (pv 7))) (pv 6))))) (jE (jb (C_ hu) (pv 7) (pv 5))))) (af (aw fP)) aJ) (ac (qs 8 S (qf hr (c3 base) (a2 (pv 4) (pv 7)))) (ac (bD (i6 (ei (pv 6))) (af (aw (C8 (zP (pv 8))))) aJ) (ac (bD (PW.pt (j1 (i6 (ei (qB eO z.isinstance eP (a2 (pv 8) (oZ rfl z.list))))) (jE (i6 (ei (qf hr (b4 base) (a2 (qf hr (b5 base) (a1 (pv 4))) (pv 8)))))))) (af (aw fP)) aJ) (ac (bD (jb (C_ hu) (qc (aK (pv 8)) (aP (by decide)) fun _ _ _ _ _ _=>⟨gc 0,eG (jb (C_ hu) (xq (pv 0) ag) (aU (a1 bS))),xq (pv 0) ag⟩) (pv 5)) (af (aw fP)) aJ) (ac (Me 9 S (k9 rfl z.enumerate (a1 (pv 5))) (lg (cG (aP (by decide)) bm (cG (aP (by decide)) bm (jG) (cI)) (dH bm (cI)))) fun _ _ _ _ _ _=>⟨fo rfl (aI (gc 0) (aI (gc 1) dv)),eG (jb (Lv hu) (pv 1) (aU (a1 bS))),pv 0⟩) (ac (bE bu rfl (aK (dF gf (pv 9) fC (eC ag))) (gn 10 S) (ac (bD (jb Ez (qf hr (H base) (a2 (pv 4) (aZ eN (dF gf (pv 5) fC (eC (pv 10))) (dF gf (pv 5) (eC (aZ eo (pv 10) ag)) fC)))) fP) (af (aw fP)) aJ) (af (bD (jb Ez (qf hr (H base) (a2 (pv 4) (aZ eN (aZ eN (dF gf (pv 5) fC (eC (pv 10))) (aV (a1 (aU (a1 bS))))) (dF gf (pv 5) (eC (pv 10)) fC)))) fP) (af (aw fP)) aJ)))) (af (aw fP))))))))))))))))⟩
theorem all_mk{l:PySem.W.OpenLaw}{fa:Addr}{x:Value}{i:Value}{p:Value}{q:Value}{r:Value}{a:Value}{g:Value}{y:Obj}{A:Array Value}{al:Nat}{M:Obj}{N:Array Value}{a8:Nat}(X:K.In h)(G:h.Ns cB mg)(ca:mg "law"=some (.ref fa))
  (aC:cR K cB "Machine"=some (some (.ref C)))
  (pg:AF K C Str.empty=true)
  (hd:DX K C=true)
  (po:PySem.W.plainOver K C=true)
  (sa:fV K (.ref C) "__setattr__"=some (some (.builtin "object.__setattr__")))
  (mk:AD K C=true)
  (kc:kr K (.ref C)=true)
  (cc:fV K (.ref C) "own_asks"=some none)
  (cd:fV K (.ref C) "own_says"=some none)
  (ce:fV K (.ref C) "own_rooms"=some none)
  (ch:fV K (.ref C) "own_doors"=some none)
  (ci:fV K (.ref C) "leaving"=some none)
  (cl:fV K (.ref C) "quiet"=some none)
  (cm:fV K (.ref C) "sign_goals"=some none)
  (co:fV K (.ref C) "still_led"=some none)
  (b4:cR K cB "all"=some none)
  (b5:cR K cB "any"=some none)
  (a9:cR K cB "bool"=some none)
  (bb:cR K cB "dict"=some none)
  (Y:cR K cB "divmod"=some none)
  (O:cR K cB "enumerate"=some none)
  (b6:cR K cB "int"=some none)
  (B:cR K cB "isinstance"=some none)
  (b7:cR K cB "len"=some none)
  (bi:cR K cB "list"=some none)
  (an:cR K cB "range"=some none)
  (b8:cR K cB "str"=some none)
  (ap:cR K cB "tuple"=some none)
  (b9:cR K cB "zip"=some none)
  (Q:cR K cB "LETTERS"=some (some x))
  (U:RelV (.str "abcdefghijklmnopqrstuvwxyz") x)
  (t:cR K cB "LONGEST_NAME"=some (some i))
  (u:RelV (.int 8) i)
  (D:cR K cB "MOST_WORDS"=some (some p))
  (E:RelV (.int 4) p)
  (H:cR K cB "MOST_ROOMS"=some (some q))
  (I:RelV (.int 150) q)
  (J:cR K cB "MOST_DOORS"=some (some r))
  (L:RelV (.int 2000) r)
  (j:cR K cB "MOST_JOINED_ROOMS"=some (some a))
  (m:RelV (.int 10) a)
  (n:cR K cB "MOST_JOINED_DOORS"=some (some g))
  (o:RelV (.int 40) g)
  (as:cR K cB "STILL"=some (some (.ref a_STILL)))
  (a0:K.lookup a_STILL=some y)
  (a4:y.cls=.type "tuple")
  (a5:y.data=.seq A al)
  (a6:A.size<=ak)
  (a7:bA (ao.map V.str) A.toList)
  (bl:cR K cB "HUSH"=some (some (.ref a_HUSH)))
  (bn:K.lookup a_HUSH=some M)
  (b0:M.cls=.type "tuple")
  (b1:M.data=.seq N a8)
  (b2:N.size<=ak)
  (b3:bA (az.map V.str) N.toList)
  (T:Ts K C)
 :∃fd:lU,(∀(s:Shared) (v:Value),uB s fd ⟨[v],[]⟩ [("script",v)])/\∀base:Heap,K.In base->base.Ns cB mg->mR l.prog w K mg base CX0 7 fa fd ["script"] (sp_law70 K):=by
 have z:Zs mg:=⟨gP X G b4,gP X G b5,gP X G a9,gP X G bb,gP X G Y,gP X G O,gP X G b6,gP X G B,gP X G b7,gP X G bi,gP X G an,gP X G b8,gP X G ap,gP X G b9⟩;have c:Cs K mg C a_STILL a_HUSH:=⟨⟨_,h9 X G Q,U⟩,⟨_,h9 X G t,u⟩,⟨_,h9 X G D,E⟩,⟨_,h9 X G H,I⟩,⟨_,h9 X G J,L⟩,⟨_,h9 X G j,m⟩,⟨_,h9 X G n,o⟩,⟨_,h9 X G as,rfl⟩,⟨_,h9 X G bl,rfl⟩,Ef a0 a4 a5 a6 a7,Ef bn b0 b1 b2 b3,⟨⟨pg,hd,po,sa⟩,cc,cd,ce,ch,ci,cl,cm,co⟩,h9 X G aC,mk,kc⟩;obtain⟨f,fd,e,b,k⟩:=Lz (P:=l.prog) (w:=w) X G z c T;have e0:=ca.symm.trans e;cases e0;exact⟨fd,b,fun base _ _=>k base⟩
end
end Mum
namespace PySem.W.Fast
def tw7910254086089076805:=0
def tw6378705651668323710:=0
def tw9021792321721106953:=0
def tw12767796235772056141:=0
def tw9139223085955534339:=0
def tw15877440546765832211:=0
def tw18128518514197831383:=0
def tw1974911904805012881:=0
def tw667130864144581915:=0
def tw7330493367569650994:=0
def tw16249028517700105354:=0
def tw15858172228435845797:=0
def tw8124041821079861227:=0
def tw14373819313542108865:=0
def tw14570836070691778424:=0
def tw12699013676193414990:=0
def tw2635312614288919785:=0
def tw11081424556195951353:=0
def tw121444984838894810:=0
def tw6230532522178622173:=0
def tw17260149052940434981:=0
def tw14855157440402896355:=0
def tw13944978668657846285:=0
def tw7769045290294402925:=0
def tw15271728276074001511:=0
def tw3102252662214774331:=0
def tw17512778911973275229:=0
def tw5438549616045500770:=0
def tw9276222670027042480:=0
def tw10889458940468256992:=0
def tw8330136969695404676:=0
def tw18289387666105862419:=0
def tw1841500263591159907:=0
def tw16676149982850993572:=0
def tw2185764858637716352:=0
def tw8955511144716990277:=0
def tw9737120179028314701:=0
def tw14184990650279942514:=0
def tw2239123372255667771:=0
def tw11018045011783180432:=0
def tw14648232690601773557:=0
def tw3256541726551087009:=0
def tw14609380593255553537:=0
def tw3235248917157771669:=0
def tw9525692486464247448:=0
def tw14633173418653890950:=0
def tw2035322940803785294:=0
def tw397273620800014997:=0
def tw14432446525575507326:=0
def tw11448791960213349983:=0
def tw9236183735563504198:=0
def tw13358496300245059695:=0
def tw12832916627008484102:=0
def tw9729103552066031018:=0
def tw11953333127891316312:=0
def tw1734350384218078771:=0
def tw10242985004151967785:=0
def tw2510072530012469275:=0
def tw10533857828430992809:=0
def tw14227674342522321902:=0
def tw2798787453878717563:=0
def tw3562719640556040025:=0
def tw4902203009338061342:=0
def tw16585690402486191613:=0
def tw9827695252232107116:=0
def tw10269192198150997242:=0
def tw18283999600515735902:=0
def tw3743351166996317341:=0
def tw542239367713011272:=0
def tw1598869798935202635:=0
def tw11896091936742865583:=0
def tw1795593107880288289:=0
def tw18089544701575538045:=0
def tw16046626089175114336:=0
def tw4980114800343498716:=0
def tw4525809285580044669:=0
def tw218780757133965052:=0
def tw9547494961557821695:=0
def tw365994430040389643:=0
def tw16471243809386587680:=0
def tw18329126562956704725:=0
def tw12458304317442028971:=0
def tw13401099550772708994:=0
def tw7106435139390517338:=0
def tw3982362907433426981:=0
def tw12136776885183079315:=0
def tw1830130578728014568:=0
def tw11494970488687768025:=0
def tw3821653796969500670:=0
def tw1115708785710644058:=0
def tw15286865114506252236:=0
def tw7719773056309207659:=0
def tw13089326175058750980:=0
def tw9966527691259658110:=0
def tw13382883610441836530:=0
def tw15501377554678244069:=0
def tw13404517888794034232:=0
def tw5790409372802466613:=0
def tw3471653189864954331:=0
def tw7588581412474695112:=0
def tw9190855422955965278:=0
def tw10534179984343289238:=0
def tw15653220784044665629:=0
def tw7674698963074005769:=0
def tw5108500411840642364:=0
def tw17785888260087792754:=0
def tw10721833911149542726:=0
def tw9273528409998031135:=0
def tw4273767065410386654:=0
def tw1862850084748393215:=0
def tw5149070727588789775:=0
def tw1903136250278102532:=0
def tw12886666346975727866:=0
def tw3920605634284940814:=0
def tw6573353494921718333:=0
def tw12472315025160197354:=0
def tw18293293935465643798:=0
def tw10597769591628147430:=0
def tw5410493360388497047:=0
def tw4882555476134160115:=0
def tw8025838785767481108:=0
def tw16961005965202579487:=0
def tw15834344566908523429:=0
def tw8605659852864138808:=0
def tw7172799886761398343:=0
def tw654310532587735702:=0
def tw3625819498998772874:=0
def tw7423350658104790082:=0
def tw11230170938320816737:=0
def tw4112206172897832831:=0
def tw7170847751130979322:=0
def tw13395703677329621796:=0
def tw12774937738109070410:=0
def tw8641444721228848425:=0
def tw6626891423475116052:=0
def tw1434918681294974991:=0
def tw11723499962433430162:=0
def tw3049073082329654085:=0
def tw18403877071474823226:=0
def tw5793205407558070514:=0
def tw15376124156599726610:=0
def tw690893016933358096:=0
def tw4828484298845708531:=0
def tw3934327545874806532:=0
def tw744862774348349422:=0
def tw14209963334345164742:=0
def tw15032477986333592419:=0
def tw333928297996536124:=0
def tw5423816848965348989:=0
def tw4532075424897316257:=0
def tw10914020868739568174:=0
def tw6115870784164259527:=0
def tw16744315466651783890:=0
def tw2324679029384887157:=0
def tw9300640808659636734:=0
def tw17632875362770075610:=0
def tw16819472373086072351:=0
def tw4584459375080638268:=0
def tw12309442126985183949:=0
def tw7410786096404876692:=0
def tw3585716003962624446:=0
def tw6731913233431217836:=0
def tw15865842914014747044:=0
def tw9890632747455034050:=0
def tw1539033218158761551:=0
def tw1422250466584384907:=0
def tw3570481025311956590:=0
def tw3674349319145116114:=0
def tw2548796281743512489:=0
def tw6648451641217960337:=0
def tw1918781772014066067:=0
def tw16567385304575528084:=0
def tw14682890891016749509:=0
def tw2682232608217353782:=0
def tw12610125910855487544:=0
def tw10348005101113750930:=0
def tw254942371699407812:=0
def tw15482585703709862583:=0
def tw1672883974267658871:=0
def tw13990207843903579222:=0
def tw3474780397861831592:=0
def tw2861340989231846905:=0
def tw3041245655962920571:=0
def tw1777533050711629498:=0
def tw5378010304535171251:=0
def tw3075293617408726602:=0
def tw4536990325581083764:=0
def tw17746951049882563754:=0
def tw12919126096636345836:=0
def tw18279004109467010869:=0
def tw9486691434381731114:=0
def tw6617782946965412693:=0
def tw17367117854663479872:=0
def tw4959911256041249827:=0
def tw12896445086318559067:=0
def tw16473780957062359648:=0
def tw10554851992564660954:=0
def tw300265199334804834:=0
def tw14301766225272331952:=0
def tw11651148307642428243:=0
end PySem.W.Fast
open PySem PySem.W PyProof.Rows
set_option maxRecDepth 100000 in
set_option maxHeartbeats 0 in
theorem PySem.Challenge.cw_mumtrial_k70_stories_of_two_holds : PySem.Challenge.rw_mumtrial_k70_stories_of_two.Holds := by
 w_on;o_law;k_head;(case hw=>w_witness2)
 k_fill
 refine L2.walk_ofK (l:=PySem.Challenge.rw_mumtrial_k70_stories_of_two) (n:=63) (k:=7) (x:="script") (CX:=L2.CX0) (sp:=Mum.sp_law70) rfl (by decide) rfl ⟨rfl,by decide,by decide⟩ (fun w h Y=>PySem.W.kIn_of Y) ?F (fun _ _ a ns hl _ hS=>⟨a,ns,rfl,hS,hl,fun _=>rfl⟩) (fun _ _ _ _ z=>z)
 case F =>
  intro w mg fa h KX G hmg;refine' Mum.all_mk KX G hmg ?aC ?pg ?hd ?po ?sa ?mk ?kc ?na1 ?na2 ?na3 ?na4 ?na5 ?na6 ?na7 ?na8 ?z_all ?z_any ?z_bool ?z_dict ?z_divmod ?z_enumerate ?z_int ?z_isinstance ?z_len ?z_list ?z_range ?z_str ?z_tuple ?z_zip ?g_LETTERS ?r_LETTERS ?g_LONGEST_NAME ?r_LONGEST_NAME ?g_MOST_WORDS ?r_MOST_WORDS ?g_MOST_ROOMS ?r_MOST_ROOMS ?g_MOST_DOORS ?r_MOST_DOORS ?g_MOST_JOINED_ROOMS ?r_MOST_JOINED_ROOMS ?g_MOST_JOINED_DOORS ?r_MOST_JOINED_DOORS ?g_STILL ?l_STILL ?c_STILL ?d_STILL ?s_STILL ?v_STILL ?g_HUSH ?l_HUSH ?c_HUSH ?d_HUSH ?s_HUSH ?v_HUSH ?T
  (case aC|pg|hd|po|sa|mk|kc|na1|na2|na3|na4|na5|na6|na7|na8|z_all|z_any|z_bool|z_dict|z_divmod|z_enumerate|z_int|z_isinstance|z_len|z_list|z_range|z_str|z_tuple|z_zip|g_LETTERS=>k_is)
  (case r_LETTERS=>exact⟨_,rfl⟩)
  (case g_LONGEST_NAME=>k_is)
  (case r_LONGEST_NAME=>exact⟨_,rfl⟩)
  (case g_MOST_WORDS=>k_is)
  (case r_MOST_WORDS=>exact⟨_,rfl⟩)
  (case g_MOST_ROOMS=>k_is)
  (case r_MOST_ROOMS=>exact⟨_,rfl⟩)
  (case g_MOST_DOORS=>k_is)
  (case r_MOST_DOORS=>exact⟨_,rfl⟩)
  (case g_MOST_JOINED_ROOMS=>k_is)
  (case r_MOST_JOINED_ROOMS=>exact⟨_,rfl⟩)
  (case g_MOST_JOINED_DOORS=>k_is)
  (case r_MOST_JOINED_DOORS=>exact⟨_,rfl⟩)
  (case g_STILL|l_STILL=>k_is)
  (case c_STILL|d_STILL=>rfl)
  (case s_STILL=>decide)
  (case v_STILL=>exact .cons ⟨_,rfl⟩ .nil)
  (case g_HUSH|l_HUSH=>k_is)
  (case c_HUSH|d_HUSH=>rfl)
  (case s_HUSH=>decide)
  (case v_HUSH=>exact .cons ⟨_,rfl⟩ .nil)
  (case T=>constructor<;>first|(refine' Mum.fnG_mk ?a ?l ?c ?k;(case a=>k_is);(case l=>k_is);(case c=>k_is);(case k=>k_is))|(refine' Mum.fnM_mk ?a ?i ?l ?c ?k;(case a=>k_is);(case i=>k_is);(case l=>k_is);(case c=>k_is);(case k=>k_is)))
