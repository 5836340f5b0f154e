
import PyProof.Rows.All
import Wide.All
import OpenK.AllK
import Wide.FinOn
import Lean
import PyProof.EqAt
import PyProof.EqKinds
import PyProof.TupleCall
import PyProof.NeKinds
import PyProof.DictIter
import PyProof.DictWalks
import PyProof.RaisesMany
import PyProof.RulesAs
import PyProof.NsDelKeeps
import PyProof.InstStoreFacts
import PyProof.ExcClass3
import PyProof.ExcInit
import KE.KTryMore
import PyProof.AutoSeq1
import PyProof.WalkInts
import PyProof.DictItems
import PyProof.DictItemsLoops
import KE.KPairComp
import PyProof.DictValues
import PyProof.SumAny
import PySem.Challenge.RW_mumtrial_k28_whole_never_both
noncomputable section
open PySem renaming Program->cg,reduceHash->Fi,wpAny_mono->pd,wpAny_bind->ak,wpAny_specialOf->G_,wpAny_call_entry->nO,wpAny_pure->aD,wpAny_rule->rQ,Builtin->cb,wpAny_isInstance->zq,wpAny_holding->lq,wpAny_truthy_bool->rP,wpAny_seqItems->nE,sizeLine->ai,sysModules->fD,entryOfKey->CY,mainGlobals->b_,bootBuiltins->ji,starEach->aN,compareOp->e_,behindInMarks->lp,standAt->rM,holding->lJ,wpAny_execs_nil->CW,swapsWith->rL,assignEach->wb,wpAny_standAt->CV,wpAny_passesOwn->sU,letOwnedTupleGo->CU,wpAny_pyIter_list->zo,wpAny_pyIter_tuple->CS,foldedSetIterable->zm,binaryOp->jU,sizeLine_eq->jh,getMethod->rJ,codeAny->zzl79,attributeBase->sS,FuncData->lh,BindsTo->sR,codeAny_mono->CL,wpAny_Call_Name_kw->CK,callWith->v_,backToKw->o9,keywordEach->o8,NameKind->jS,mem_of_lookup->tN,getItem->nZ,seqIndex?->xK,subscripted->xJ,sliceBounds->nY,Keyword->qH,call_meets->qG,valueAt->nW,call_meetsIn->tI,callerA->lP,DictEntry->kD,wpAny_newObj_type->iU,ZipApart->qC,wpAny_pyIter_zip->xB,wpAny_callSpecial?_slot->kC,wpAny_field->fh,wpAny_setField->tE,firstArgMember->qA,wpAny_setField_rec->iT,wpAny_onRaise->xx,wpAny_letGo->tD,wpAny_attempt->qz,wpAny_dictEntries->kB,wpAny_notOrdered_dict->tq,boot_len->xn,IsItemIter->iS,wpAny_dictEpoch->nT,wpAny_typeNameOfWhole_itemiter->xm,wpAny_typeNameOf_itemiter->xk,wpAny_fieldsOf->xj,setField->xi,wpAny_typeNameOfWhole_keyiter->xg,wpAny_typeNameOf_keyiter->xf
open PySem.Builtin.Tuple renaming tupleHashOf->Ba
open Bool renaming false_ne_true->fO,not_true->CZ,false_eq_true->lN,false_and->CT,eq_iff_iff->rK,and_false->xG,and_eq_true->tG,true_and->sY
open Nat renaming add_assoc->G9,le_refl->aA,lt_of_lt_of_le->iQ,lt_irrefl->rN,ne_of_lt->cY,le_trans->bC,le_of_lt->fb,ne_of_gt->gQ,zero_le->cX,le_succ->sQ,min_eq_left->tf,mod_lt->s_,pow_le_pow_right->w_,lt_or_ge->iR,eq_zero_or_pos->w8,zero_add->wZ,mul_le_mul->sW
open List renaming append_nil->dj,range->jW,mem_filter->bD,mem_cons_self->dU,mem_cons_of_mem->eI,mem_cons->cH,mem_append->a_,mem_append_left->cf,getElem?_eq_some_iff->cu,mem_append_right->cC,length_cons->dS,lookup->lm,map_cons->bI,length_map->aj,nodup_cons->io,length_take->aG,getElem?_append_right->n6,getElem?_append_left->fk,getElem?_map->bQ,mem_of_getElem?->aZ,length_append->aK,size_toArray->bN,length_drop->fj,reverse_cons->xH,find?_cons->lQ,any_cons->nX,length_nil->xF,nodup_nil->nU,lookup_cons->iV,forIn_cons->qD,all_eq_true->xC,mem_map->aw,not_mem_nil->tF,getElem?_eq_none->fS,any_toArray->xu,map_congr_left->xr,length_range->tw,drop_zero->tu,take_length->aR,getElem?_eq_getElem->b9,all_map->xo,mem_singleton->aU,map_append->ax,nodup_append->cJ,drop_of_length_le->qy,map_take->nS,map_drop->tj,foldl_cons->nR,take_of_length_le->xc,mem_of_mem_take->fR,append_assoc->c9,nodup_iff_pairwise_ne->qr,map_map->qq,mem_map_of_mem->kz,getElem_mem->lK,getElem?_of_mem->im,take_append_drop->sZ,foldl_append->ky,take_zero->sX,length_filter_le->c8,filter_append->nQ,filter_cons->xb,flatMap_append->xa,mem_flatMap->jz,filter_congr->qp,getD_eq_getElem?_getD->eJ,getElem_of_mem->w6,flatMap_cons->nP
open Option.some renaming inj->fe
open PySem.W renaming instObj->rO,lookIn->CP,plainGet->wa,hasDictIn->zj,findIn->dL,isFn->zh,plainOver->CO,makesIn->sT,emptyDict->pb,keepIn->iP,kitOne->CN,kia_one->jT,fnOf->iW,codeIn->n5,nsIn->cD,mg_of->gU,mg_none_of->gh
open PySem.Heap renaming lt_size->ba,SameBut->fZ,get?_push_of_some->bx,get?_push_size->cG,size_push->o_,get?_update_self->xI
open PyProof.Rows renaming AllBare->pc,callWith_type1->CQ,IntsAre->tH
open Ne renaming symm->dE
open Array renaming length_toList->ln,getElem?_toList->qF
open False renaming elim->jV
open True renaming intro->jg
open PySem.Calls renaming spliced_cons->CM,callWith_builtin->tL
open Option renaming isSome_iff_exists->xL,map_some->tK,isSome_map->tJ,map_eq_some_iff->sV
open Int renaming toNat_natCast->jC,emod_nonneg->qv,emod_lt_of_pos->qt,eq_ofNat_of_zero_le->jA
open PySem.Obj renaming mapSeq->tM,data_mapFields->xz
open PySem.Paired renaming snoc->c_
open PySem.F renaming slot_dict_get->qE,entry_dict_get->xE,slot_tuple_iterator_next->xA,slot_zip_next->xw,slot_dict_itemiterator_next->tm,slot_dict_iter->xh,slot_dict_keyiterator_next->qw,plainAttrs_list->dO,slot_list_append->fQ,type_list_append->fP
open ForInStep renaming yield->xD
open PySem.NameKind renaming free->lO
open PySem.Builtin.SmallTypes renaming nextOf->lM,ownedTupleIsFree->xy
open PySem.Str renaming ofString->jB
open PySem.Heap.SameBut renaming update->lL
open Classical renaming byContradiction->xv,propDecidable->qo,not_not->kr
open PySem.SeqAt renaming EqAt->bB
open PySem.Builtin.Str renaming strSliceIndices->tz
open PySem.Txt renaming join->xp
open PySem.Builtin.Dict renaming showsAll->qx
open PySem.Builtin.Dict_items renaming ownsTuple->tp
open PySem.PassesOwn renaming never->be
theorem Q0:0<=PySem.sizeLine:=by decide
theorem Q1:1<=PySem.sizeLine:=by decide
theorem Q2:2<=PySem.sizeLine:=by decide
theorem Q3:3<=PySem.sizeLine:=by decide
theorem Q4:4<=PySem.sizeLine:=by decide
theorem Q6:6<=PySem.sizeLine:=by decide
theorem zzr0{p:Prop}[Decidable p](h:¬p):decide p=false:=decide_eq_false h
theorem zzr1{p:Prop}[Decidable p](h:p):decide p=true:=decide_eq_true h
abbrev Za:=PySem.W.Frag
abbrev Zb:=List PySem.Str
abbrev Zc:=PySem.Value->PySem.Shared->Prop
abbrev Zd:=List (PySem.Addr×PySem.Obj)
abbrev Ze:=List PySem.Addr
abbrev Zf:=List PySem.Value
section
set_option Elab.async false
set_option linter.all false
set_option maxRecDepth 100000
set_option maxHeartbeats 4000000
namespace L2
open PySem PySem.Spec PyProof.Rows
open Sem (wp)
abbrev fC:=Sum Int Str
def dH:fC->Value->Bool
 |.inl k,v=>Value.isInt k v
 |.inr x,v=>Value.isStrOf x v
def JV(w:World):fC->Int
 |.inl k=>hashInt k
 |.inr x=>hashStr w x
theorem aB:∀{k:fC}{v:Value},dH k v=true->(∃i t,k=Sum.inl i/\v=Value.int i t)∨(∃x t,k=Sum.inr x/\v=Value.str x t)
 |.inl i,v,h=>by
  obtain⟨t,e⟩:=Value.isInt_shape (k:=i) (v:=v) h;exact .inl ⟨i,t,rfl,e⟩
 |.inr x,v,h=>by
  obtain⟨t,e⟩:=Value.isStrOf_shape (x:=x) (v:=v) h;exact .inr ⟨x,t,rfl,e⟩
theorem m8(i:Int)(t:Tok):dH (.inl i) (.int i t)=true:=by simp[dH,Value.isInt]
theorem mZ(x:Str)(t:Tok):dH (.inr x) (.str x t)=true:=by simp[dH,Value.isStrOf]
theorem yD(a b:Int):decide ((Sum.inl a:fC)=Sum.inl b)=(a==b):=by
 by_cases e:a=b
 ·subst e;simp
 ·have h:¬(Sum.inl a:fC)=Sum.inl b:=fun q=>e (Sum.inl.inj q);rw[zzr0 h];exact(beq_eq_false_iff_ne.mpr e).symm
theorem yz(a b:Str):decide ((Sum.inr a:fC)=Sum.inr b)=decide (a=b):=by
 by_cases e:a=b
 ·subst e;simp
 ·have h:¬(Sum.inr a:fC)=Sum.inr b:=fun q=>e (Sum.inr.inj q);rw[zzr0 h,zzr0 e]
theorem yC(a:Int)(b:Str):decide ((Sum.inl a:fC)=Sum.inr b)=false:=zzr0 (fun q=>nomatch q)
theorem yB(a:Str)(b:Int):decide ((Sum.inr a:fC)=Sum.inl b)=false:=zzr0 (fun q=>nomatch q)
def cB(prog:cg)(w:World):PySem.KeyKind prog w fC where
 is:=dH
 hash:=JV w
 inj:=fun v a b ha hb=>by
  rcases aB ha with⟨i,t,rfl,rfl⟩|⟨x,t,rfl,rfl⟩
  ·rcases aB hb with⟨j,u,rfl,e⟩|⟨y,u,rfl,e⟩
   ·injection e with e1 _;rw[e1]
   ·exact nomatch e
  ·rcases aB hb with⟨j,u,rfl,e⟩|⟨y,u,rfl,e⟩
   ·exact nomatch e
   ·injection e with e1 _;rw[e1]
 byValue:=fun k v h=>by
  rcases aB h with⟨i,t,rfl,rfl⟩|⟨x,t,rfl,rfl⟩<;>rfl
 pyHash:=fun hv h=>by
  rcases aB hv with⟨i,t,rfl,rfl⟩|⟨x,t,rfl,rfl⟩
  ·exact wpAny_pyHash_int h
  ·exact wpAny_pyHash_str h
 eqBool:=fun hu hv h=>by
  rcases aB hu with⟨i,t,rfl,rfl⟩|⟨x,t,rfl,rfl⟩
  ·rcases aB hv with⟨j,u,rfl,rfl⟩|⟨y,u,rfl,rfl⟩
   ·rw[yD]at h;exact wpAny_eqBool_int h
   ·rw[yC]at h;exact bB.int_str i t y u _ _ _ _ h
  ·rcases aB hv with⟨j,u,rfl,rfl⟩|⟨y,u,rfl,rfl⟩
   ·rw[yB]at h;exact bB.str_int x t j u _ _ _ _ h
   ·rw[yz]at h;exact wpAny_eqBool_str h
 «strs»:=fun k x t v h=>by
  rcases aB h with⟨i,u,rfl,e⟩|⟨y,u,rfl,e⟩
  ·exact nomatch e
  ·injection e with e1 _;subst e1;cases v<;>rfl
theorem Au(prog:cg)(w:World)(i:Int)(t:Tok):(cB prog w).is (.inl i) (.int i t)=true:=m8 i t
theorem At(prog:cg)(w:World)(x:Str)(t:Tok):(cB prog w).is (.inr x) (.str x t)=true:=mZ x t
end L2
namespace L2
open PySem PySem.Spec PyProof.Rows
open Sem (wp)
abbrev oU:=Option fC
def i4:oU->Value->Bool
 |none,v=>match v with
  |.none=>true
  |_=>false
 |some k,v=>dH k v
def IT(w:World):oU->Int
 |none=>Fi 4238894112
 |some k=>JV w k
theorem bU:∀{k:oU}{v:Value},i4 k v=true->(∃i t,k=some (Sum.inl i)/\v=Value.int i t)∨(∃x t,k=some (Sum.inr x)/\v=Value.str x t)∨(k=none/\v=Value.none)
 |none,v,h=>by
  refine .inr (.inr ⟨rfl,?_⟩);cases v<;>first|rfl|cases h
 |some k,v,h=>by
  rcases aB (show dH k v=true from h)with⟨i,t,rfl,rfl⟩|⟨i,t,rfl,rfl⟩
  ·exact .inl ⟨i,t,rfl,rfl⟩
  ·exact .inr (.inl ⟨i,t,rfl,rfl⟩)
theorem uQ{a b:oU}{v:Value}(h1:i4 a v=true)(h2:i4 b v=true):a=b:=by
 rcases bU h1 with⟨i,t,rfl,rfl⟩|⟨i,t,rfl,rfl⟩|⟨rfl,rfl⟩<;>rcases bU h2 with⟨j,u,rfl,e⟩|⟨j,u,rfl,e⟩|⟨rfl,e⟩<;>first|rfl|(cases e;rfl)|cases e
def As(prog:cg)(w:World):PySem.KeyKind prog w oU where
 is:=i4
 hash:=IT w
 inj:=fun v a b ha hb=>uQ ha hb
 byValue:=fun k v h=>by
  rcases bU h with⟨i,t,rfl,rfl⟩|⟨x,t,rfl,rfl⟩|⟨rfl,rfl⟩<;>rfl
 pyHash:=fun{A E s k v Q} hv h=>by
  rcases bU hv with⟨i,t,rfl,rfl⟩|⟨x,t,rfl,rfl⟩|⟨rfl,rfl⟩
  ·exact wpAny_pyHash_int h
  ·exact wpAny_pyHash_str h
  ·refine PySem.W.pyHash_slot (T:="NoneType") rfl F.slot_NoneType_hash F.entry_NoneType_hash (F.args_NoneType_hash_1 _) (by rw[beq_builtin_none]) (.inl rfl) ?_;show wpAny _ _ (retInt 4238894112) _ _ _;refine pd (wpAny_ret_mkInt (Q:=fun v s'=>∃n t,v=Value.int n t/\Q (Fi n) s') ⟨_,_,rfl,h⟩) (fun fin s' ⟨v,e,n,t,e2,q⟩=>⟨n,t,by rw[e,e2],q⟩) (fun _ _ z=>z)
 eqBool:=fun{A E s a b u v Q} hu hv h=>by
  rcases bU hu with⟨i,t,rfl,rfl⟩|⟨x,t,rfl,rfl⟩|⟨rfl,rfl⟩
  ·rcases bU hv with⟨j,u,rfl,rfl⟩|⟨y,u,rfl,rfl⟩|⟨rfl,rfl⟩
   ·exact(cB prog w).eqBool (a:=.inl i) (b:=.inl j) (m8 i t) (m8 j u) (by rw[show decide ((Sum.inl i:fC)=Sum.inl j)=decide ((some (Sum.inl i):oU)=some (Sum.inl j))from decide_eq_decide.mpr ⟨fun z=>by rw[z],fun z=>by injection z⟩];exact h)
   ·rw[zzr0 (by intro z;injection z with z;cases z)]at h;exact bB.int_str i t y u _ _ _ _ h
   ·rw[zzr0 (by intro z;cases z)]at h;exact bB.int_none i t _ _ _ _ h
  ·rcases bU hv with⟨j,u,rfl,rfl⟩|⟨y,u,rfl,rfl⟩|⟨rfl,rfl⟩
   ·rw[zzr0 (by intro z;injection z with z;cases z)]at h;exact bB.str_int x t j u _ _ _ _ h
   ·exact(cB prog w).eqBool (a:=.inr x) (b:=.inr y) (mZ x t) (mZ y u) (by rw[show decide ((Sum.inr x:fC)=Sum.inr y)=decide ((some (Sum.inr x):oU)=some (Sum.inr y))from decide_eq_decide.mpr ⟨fun z=>by rw[z],fun z=>by injection z⟩];exact h)
   ·rw[zzr0 (by intro z;cases z)]at h;exact bB.str_none x t _ _ _ _ h
  ·rcases bU hv with⟨j,u,rfl,rfl⟩|⟨y,u,rfl,rfl⟩|⟨rfl,rfl⟩
   ·rw[zzr0 (by intro z;cases z)]at h;exact bB.none_int j u _ _ _ _ h
   ·rw[zzr0 (by intro z;cases z)]at h;exact bB.none_str y u _ _ _ _ h
   ·rw[zzr1 rfl]at h;exact bB.same _ _ _ _ _ h
 «strs»:=fun k x t v h=>by
  rcases bU h with⟨i,u,rfl,e⟩|⟨y,u,rfl,e⟩|⟨rfl,e⟩
  ·exact nomatch e
  ·injection e with e1 _;subst e1;cases v<;>rfl
  ·exact nomatch e
inductive TK where
 |k (a:oU)
 |t (l:List TK)
mutual
def IZ:(x y:TK)->Decidable (x=y)
 |.k a,.k b=>if h:a=b then Decidable.isTrue (by rw[h])else Decidable.isFalse fun e=>h (by injection e)
 |.t l,.t m=>match decTKs l m with
  |Decidable.isTrue h=>Decidable.isTrue (by rw[h])
  |Decidable.isFalse h=>Decidable.isFalse fun e=>h (by injection e)
 |.k _,.t _=>Decidable.isFalse nofun
 |.t _,.k _=>Decidable.isFalse nofun
def decTKs:(x y:List TK)->Decidable (x=y)
 |[],[]=>Decidable.isTrue rfl
 |[],_::_=>Decidable.isFalse nofun
 |_::_,[]=>Decidable.isFalse nofun
 |a::l,b::m=>match IZ a b with
  |Decidable.isTrue h=>match decTKs l m with
   |Decidable.isTrue h'=>Decidable.isTrue (by rw[h,h'])
   |Decidable.isFalse h'=>Decidable.isFalse fun e=>h' (by injection e)
  |Decidable.isFalse h=>Decidable.isFalse fun e=>h (by injection e)
end
instance:DecidableEq TK:=IZ
mutual
def TK.depth:TK->Nat
 |.k _=>0
 |.t l=>TK.depths l+1
def TK.depths:List TK->Nat
 |[]=>0
 |a::r=>max (TK.depth a) (TK.depths r)
end
mutual
def TK.hash(w:World):TK->Int
 |.k a=>IT w a
 |.t l=>Fi (Ba (TK.hashs w l))
def TK.hashs(w:World):List TK->List Int
 |[]=>[]
 |a::r=>TK.hash w a::TK.hashs w r
end
mutual
def TK.draws:TK->Nat
 |.k _=>1
 |.t l=>TK.drawss l+1
def TK.drawss:List TK->Nat
 |[]=>0
 |a::r=>TK.draws a+TK.drawss r
end
mutual
def nB(h:Heap):TK->Value->Prop
 |.k a,v=>i4 a v=true
 |.t l,v=>∃a o items n,v=.ref a/\h.get? a=some o/\o.cls=.type "tuple"/\o.data=.seq items n/\TAts h l items.toList
def TAts(h:Heap):List TK->List Value->Prop
 |[],vs=>vs=[]
 |k::r,vs=>∃v us,vs=v::us/\nB h k v/\TAts h r us
end
theorem nB.inj{h:Heap}:∀(d:Nat) {x y:TK}{v:Value},x.depth<=d->nB h x v->nB h y v->x=y:=by
 have key:∀(d:Nat) (ih:∀{x y:TK}{v:Value},x.depth<=d->nB h x v->nB h y v->x=y) (xs ys:List TK) (vs:Zf),TK.depths xs<=d->TAts h xs vs->TAts h ys vs->xs=ys:=by
  intro d ih xs
  induction xs with
  |nil =>
   intro ys vs _ hx hy;have hx':vs=[]:=hx;subst hx';cases ys with
   |nil=>rfl
   |cons y ys=>obtain⟨_,_,e,_⟩:=hy;cases e
  |cons x xs ihl =>
   intro ys vs hd hx hy;obtain⟨v,us,rfl,hx1,hx2⟩:=hx;cases ys with
   |nil=>have hy':v::us=[]:=hy;cases hy'
   |cons y ys =>
    obtain⟨v',us',e,hy1,hy2⟩:=hy;cases e;have hd':max x.depth (TK.depths xs)<=d:=hd;rw[ih (by omega) hx1 hy1,ihl ys us (by omega) hx2 hy2]
 have leaf:∀(a:oU) (l:List TK) (v:Value),nB h (.k a) v->nB h (.t l) v->False:=by
  intro a l v h1 h2;obtain⟨b,o,items,n,rfl,_⟩:=h2;rcases bU (show i4 a (.ref b)=true from h1)with⟨_,_,_,e⟩|⟨_,_,_,e⟩|⟨_,e⟩<;>cases e
 have kk:∀(a b:oU) (v:Value),i4 a v=true->i4 b v=true->a=b:=fun a b v h1 h2=>uQ h1 h2;intro d
 induction d with
 |zero =>
  intro x y v hd hx hy;cases x with
  |t l=>exact absurd hd (by show ¬(TK.depths l+1<=0);omega)
  |k a =>
   cases y with
   |k b=>rw[kk a b v hx hy]
   |t l=>exact(leaf a l v hx hy).elim
 |succ d ih =>
  intro x y v hd hx hy;cases x with
  |k a =>
   cases y with
   |k b=>rw[kk a b v hx hy]
   |t l=>exact(leaf a l v hx hy).elim
  |t l =>
   cases y with
   |k b=>exact(leaf b l v hy hx).elim
   |t l' =>
    obtain⟨a,o,items,n,rfl,ho,hc,hdt,hi⟩:=hx;obtain⟨a',o',items',n',e,ho',hc',hdt',hi'⟩:=hy;cases e;rw[ho]at ho';cases ho';rw[hdt]at hdt';injection hdt' with e1 _;subst e1;rw[key d (fun h1=>ih h1) l l' items.toList (by have:TK.depths l+1<=d+1:=hd;omega) hi hi']
theorem nB.mono{h h':Heap}(k:∀a o items n,h.get? a=some o->o.cls=.type "tuple"->o.data=.seq items n->h'.get? a=some o):∀(d:Nat) {x:TK}{v:Value},x.depth<=d->nB h x v->nB h' x v:=by
 have key:∀(d:Nat) (ih:∀{x:TK}{v:Value},x.depth<=d->nB h x v->nB h' x v) (xs:List TK) (vs:Zf),TK.depths xs<=d->TAts h xs vs->TAts h' xs vs:=by
  intro d ih xs
  induction xs with
  |nil=>intro vs _ hx;exact hx
  |cons x xs ihl =>
   intro vs hd hx;obtain⟨v,us,rfl,hx1,hx2⟩:=hx;have hd':max x.depth (TK.depths xs)<=d:=hd;exact⟨v,us,rfl,ih (by omega) hx1,ihl us (by omega) hx2⟩
 intro d
 induction d with
 |zero =>
  intro x v hd hx;cases x with
  |t l=>exact absurd hd (by show ¬(TK.depths l+1<=0);omega)
  |k a=>exact hx
 |succ d ih =>
  intro x v hd hx;cases x with
  |k a=>exact hx
  |t l =>
   obtain⟨a,o,items,n,rfl,ho,hc,hdt,hi⟩:=hx;exact⟨a,o,items,n,rfl,k a o items n ho hc hdt,hc,hdt,key d (fun h1=>ih h1) l _ (by have:TK.depths l+1<=d+1:=hd;omega) hi⟩
section
variable{prog:cg}{w:World}
theorem Hd:∀(d:Nat) {A:Around}{E:Zc}{s:Shared}{k:TK}{v:Value}{Q:Int->Shared->Prop},k.depth<=d->A.units+d<cLine->nB s.heap k v->Q (k.hash w) { s with toks:=s.toks+k.draws } ->
  wpAny (model prog w) A (pyHash v) Q E s:=by
 intro d
 induction d with
 |zero =>
  intro A E s k v Q hd hu hk h;cases k with
  |t l=>exact absurd hd (by show ¬(TK.depths l+1<=0);omega)
  |k a=>exact(As prog w).pyHash (k:=a) hk h
 |succ d ih =>
  intro A E s k v Q hd hu hk h;cases k with
  |k a=>exact(As prog w).pyHash (k:=a) hk h
  |t l =>
   obtain⟨a,o,items,n,rfl,ho,hc,hdt,hi⟩:=hk;have hT:s.TypeIs (.ref a) "tuple":=⟨o,ho,hc⟩;have hdl:TK.depths l<=d:=by have:TK.depths l+1<=d+1:=hd;omega
   unfold pyHash
   first|unfold pyHashByItsType|skip
   first|refine ak (wpAny_cRoomFor_or (.inr (by omega)) ?_)|skip
   refine ak (G_ hT F.slot_tuple_hash.lookup ?_);show wpAny _ _ (if(some (Value.builtin "tuple.__hash__")==some Value.none)=true then _ else _) Q E s
   rw[if_neg (by rw[beq_builtin_none];exact fO)];refine ak (G_ hT F.slot_tuple_hash.lookup ?_);show wpAny _ _ (callSpecialIfBoundUnlessNone? (.ref a) "__hash__" _ >>= _) Q E s;refine ak (wpAny_callSpecialIfBoundUnlessNone?_slot hT F.slot_tuple_hash (nO F.slot_tuple_hash hT F.entry_tuple_hash ?_ (F.args_tuple_hash_1 _)));show wpAny _ _ (cb.Tuple.tupleItemsOf (.ref a) >>= _) _ _ s;refine ak (wpAny_tupleItemsOf ho hdt ?_);refine ak ?_;rw[<-Array.forIn_toList];refine wpAny_forIn_list _
    (fun rest (b:Array Int) s'=>∃done left,l=done++left/\TAts s.heap left rest/\b.toList=TK.hashs w done/\s'={ s with toks:=s.toks+TK.drawss done })
    _ ?_ ?_ _ _ ⟨[],l,rfl,hi,rfl,rfl⟩
   ·rintro x rest b s' ⟨done,left,e,hl,hb,rfl⟩;cases left with
    |nil=>have hl':x::rest=[]:=hl;cases hl'
    |cons k' left =>
     obtain⟨x',rest',e',h1,h2⟩:=hl;cases e';have hdk:k'.depth<=d:=by
      have gen:∀(p:List TK),TK.depths (p++k'::left)<=d->k'.depth<=d:=by
       intro p
       induction p with
       |nil=>intro hp;have hp':max k'.depth (TK.depths left)<=d:=hp;omega
       |cons q p ihp=>intro hp;have hp':max q.depth (TK.depths (p++k'::left))<=d:=hp;exact ihp (by omega)
      exact gen done (by rw[<-e];exact hdl)
     have hs:TK.hashs w (done++[k'])=TK.hashs w done++[k'.hash w]:=by
      clear e hb
      induction done with
      |nil=>rfl
      |cons q p ihp=>show _::TK.hashs w (p++[k'])=_;rw[ihp];rfl
     have hdr:TK.drawss (done++[k'])=TK.drawss done+k'.draws:=by
      clear e hb hs
      induction done with
      |nil=>show k'.draws+0=0+k'.draws;omega
      |cons q p ihp=>show q.draws+TK.drawss (p++[k'])=q.draws+TK.drawss p+k'.draws;rw[ihp];omega
     refine ak (ih (k:=k') hdk (by show A.units+1+d<cLine;omega) h1 ?_)
     first
      |exact aD ⟨done++[k'],left,by rw[e];simp,h2,by rw[hs];simp[hb],by rw[hdr];simp[G9]⟩
      |exact ak (aD (aD ⟨done++[k'],left,by rw[e];simp,h2,by rw[hs];simp[hb],by rw[hdr];simp[G9]⟩))
   ·rintro b s' ⟨done,left,e,hl,hb,rfl⟩;cases left with
    |cons k' left=>obtain⟨_,_,e',_⟩:=hl;cases e'
    |nil =>
     rw[dj]at e;subst e;show wpAny _ _ (retInt (Ba b.toList)) _ _ _;rw[hb];refine wpAny_ret_mkInt ?_;have h':Q (Fi (Ba (TK.hashs w l))) { s with toks:=s.toks+(TK.drawss l+1) }:=h;show wpAny _ _ (if(decide (-(2:Int) ^ 63<=Ba (TK.hashs w l)) && decide (Ba (TK.hashs w l)<2 ^ 63))=true then _ else _) Q E _
     unfold Fi at h';by_cases hr:(decide (-(2:Int) ^ 63<=Ba (TK.hashs w l)) && decide (Ba (TK.hashs w l)<2 ^ 63))=true
     ·rw[if_pos hr];rw[if_pos hr]at h';exact aD (by simpa[G9]using h')
     ·rw[if_neg hr];rw[if_neg hr]at h';exact ak (rQ (aD (by simpa[G9]using h')))
theorem DX(d:Nat)(ih:∀{A:Around}{E:Zc}{s:Shared}{x y:TK}{u v:Value}{Q:Bool->Shared->Prop},x.depth<=d->y.depth<=d->A.units+d<cLine->nB s.heap x u->nB s.heap y v->Q (decide (x=y)) s->wpAny (model prog w) A (eqBool u v) Q E s)
  {A:Around}{E:Zc}{s:Shared}{x y:List TK}{a b:Addr}{P:Fin->Shared->Prop}{oa ob:Obj}{xs ys:Array Value}{na nb:Nat}(hx:TK.depths x<=d) (hy:TK.depths y<=d) (hu:A.units+d<cLine)
  (hoa:s.heap.get? a=some oa) (hda:oa.data=.seq xs na) (hia:TAts s.heap x xs.toList) (hob:s.heap.get? b=some ob) (hcb:ob.cls=.type "tuple") (hdb:ob.data=.seq ys nb) (hib:TAts s.heap y ys.toList)
  (h:P (.done (.ret (.bool (decide (x=y))))) s):wpAny (model prog w) A (cb.«tuple.__eq__» ⟨[.ref a,.ref b],[]⟩) P E s:=by
 have hTb:s.TypeIs (.ref b) "tuple":=⟨ob,hob,hcb⟩;show wpAny _ _ (isInstance (.ref b) (.type "tuple") >>= _) _ _ s;refine ak (zq hTb isSubtype_tuple_tuple ?_);simp only[CZ,lN,if_false];refine ak (wpAny_tupleItemsOf hoa hda ?_);refine ak (wpAny_tupleItemsOf hob hdb ?_);refine ak ?_;refine wpAny_forIn_list _
  (fun rest r s'=>r.1=none/\s'=s/\∃x' y' xs' ys',rest=List.zip xs' ys'/\TAts s.heap x' xs'/\TAts s.heap y' ys'/\TK.depths x'<=d/\TK.depths y'<=d/\decide (x'=y')=decide (x=y)/\(xs'.length==ys'.length)=(xs.size==ys.size))
  _ ?_ ?_ _ _ ⟨rfl,rfl,x,y,xs.toList,ys.toList,rfl,hia,hib,hx,hy,rfl,by simp⟩
 ·rintro⟨u,v⟩ rest r s' ⟨hr,rfl,x',y',xs',ys',hz,hx',hy',dx,dy,hdec,hlen⟩;cases x' with
  |nil =>
   have e:xs'=[]:=hx';subst e;simp at hz
  |cons k1 x'' =>
   obtain⟨u',xs'',rfl,h1,hx''⟩:=hx';cases y' with
   |nil =>
    have e:ys'=[]:=hy';subst e;simp at hz
   |cons k2 y'' =>
    obtain⟨v',ys'',rfl,h2,hy''⟩:=hy';simp only[List.zip_cons_cons,List.cons.injEq,Prod.mk.injEq]at hz;obtain⟨⟨rfl,rfl⟩,rfl⟩:=hz;have dx':max k1.depth (TK.depths x'')<=d:=dx;have dy':max k2.depth (TK.depths y'')<=d:=dy;refine ak (ih (x:=k1) (y:=k2) (by omega) (by omega) hu h1 h2 ?_);by_cases hk:k1=k2
    ·subst hk;rw[zzr1 rfl];simp only[CZ,lN,if_false];refine aD ⟨rfl,rfl,x'',y'',xs'',ys'',rfl,hx'',hy'',by omega,by omega,?_,by simpa using hlen⟩;rw[<-hdec];by_cases hxy:x''=y''
     ·simp[hxy]
     ·simp[hxy]
    ·rw[zzr0 hk];simp only[Bool.not_false,if_true];have hf:decide (x=y)=false:=by rw[<-hdec];simp[hk]
     rw[hf]at h;exact ak (aD (aD (aD h)))
 ·rintro⟨r1,r2⟩ s' ⟨hr,rfl,x',y',xs',ys',hz,hx',hy',dx,dy,hdec,hlen⟩;simp only at hr;subst hr;refine aD ?_;have hfin:(xs.size==ys.size)=decide (x=y):=by
   rw[<-hdec,<-hlen];cases x' with
   |nil =>
    have e:xs'=[]:=hx';subst e;cases y' with
    |nil=>have e:ys'=[]:=hy';subst e;simp
    |cons _ _=>obtain⟨_,_,rfl,_⟩:=hy';simp
   |cons _ _ =>
    obtain⟨_,_,rfl,_⟩:=hx';cases y' with
    |nil=>have e:ys'=[]:=hy';subst e;simp
    |cons _ _=>obtain⟨_,_,rfl,_⟩:=hy';simp at hz
  show P (.done (.ret (.bool (xs.size==ys.size)))) s';rw[hfin];exact h
theorem JK:∀(d:Nat) {A:Around}{E:Zc}{s:Shared}{x y:TK}{u v:Value}{Q:Bool->Shared->Prop},x.depth<=d->y.depth<=d->A.units+d<cLine->nB s.heap x u->nB s.heap y v->Q (decide (x=y)) s ->
  wpAny (model prog w) A (eqBool u v) Q E s:=by
 have mixed1:∀{A:Around}{E:Zc}{s:Shared}{a:oU}{l:List TK}{u v:Value}{Q:Bool->Shared->Prop},A.units<cLine->nB s.heap (.k a) u->nB s.heap (.t l) v->Q false s->wpAny (model prog w) A (eqBool u v) Q E s:=by
  intro A E s a l u v Q hu hx hy h;obtain⟨b,o,items,n,rfl,ho,hc,hdt,hi⟩:=hy;have ht:s.heap.IsTuple b items:=⟨o,ho,hc,n,hdt⟩;rcases bU (show i4 a u=true from hx)with⟨i,t,rfl,rfl⟩|⟨i,t,rfl,rfl⟩|⟨rfl,rfl⟩
  ·exact bB.int_tuple i t ht hu prog w E Q h
  ·exact bB.str_tuple i t ht hu prog w E Q h
  ·exact bB.none_tuple ht hu prog w E Q h
 have mixed2:∀{A:Around}{E:Zc}{s:Shared}{a:oU}{l:List TK}{u v:Value}{Q:Bool->Shared->Prop},A.units<cLine->nB s.heap (.t l) u->nB s.heap (.k a) v->Q false s->wpAny (model prog w) A (eqBool u v) Q E s:=by
  intro A E s a l u v Q hu hx hy h;obtain⟨b,o,items,n,rfl,ho,hc,hdt,hi⟩:=hx;have ht:s.heap.IsTuple b items:=⟨o,ho,hc,n,hdt⟩;rcases bU (show i4 a v=true from hy)with⟨i,t,rfl,rfl⟩|⟨i,t,rfl,rfl⟩|⟨rfl,rfl⟩
  ·exact bB.tuple_int i t ht hu prog w E Q h
  ·exact bB.tuple_str i t ht hu prog w E Q h
  ·exact bB.tuple_none ht hu prog w E Q h
 have leaves:∀{A:Around}{E:Zc}{s:Shared}{a b:oU}{u v:Value}{Q:Bool->Shared->Prop},nB s.heap (.k a) u->nB s.heap (.k b) v->Q (decide (TK.k a=TK.k b)) s->wpAny (model prog w) A (eqBool u v) Q E s:=by
  intro A E s a b u v Q hx hy h;refine(As prog w).eqBool (a:=a) (b:=b) hx hy ?_;by_cases e:a=b
  ·subst e;simpa using h
  ·have:¬(TK.k a=TK.k b):=fun z=>e (by injection z);rw[zzr0 this]at h;rw[zzr0 e];exact h
 intro d
 induction d with
 |zero =>
  intro A E s x y u v Q hdx hdy hu hx hy h;cases x with
  |t l=>exact absurd hdx (by show ¬(TK.depths l+1<=0);omega)
  |k a =>
   cases y with
   |t l=>exact absurd hdy (by show ¬(TK.depths l+1<=0);omega)
   |k b=>exact leaves hx hy h
 |succ d ih =>
  intro A E s x y u v Q hdx hdy hu hx hy h;cases x with
  |k a =>
   cases y with
   |k b=>exact leaves hx hy h
   |t l =>
    rw[zzr0 (by intro z;cases z)]at h;exact mixed1 (by omega) hx hy h
  |t l =>
   cases y with
   |k b =>
    rw[zzr0 (by intro z;cases z)]at h;exact mixed2 (by omega) hx hy h
   |t m =>
    have hl:TK.depths l<=d:=by have:TK.depths l+1<=d+1:=hdx;omega
    have hm:TK.depths m<=d:=by have:TK.depths m+1<=d+1:=hdy;omega
    have hx0:=hx;have hy0:=hy;obtain⟨a,oa,xs,na,rfl,hoa,hca,hda,hia⟩:=hx;obtain⟨b,ob,ys,nb,rfl,hob,hcb,hdb,hib⟩:=hy;have hTa:s.TypeIs (.ref a) "tuple":=⟨oa,hoa,hca⟩;have hTb:s.TypeIs (.ref b) "tuple":=⟨ob,hob,hcb⟩;have hd':decide (TK.t l=TK.t m)=decide (l=m):=by
     by_cases e:l=m
     ·subst e;simp
     ·have:¬(TK.t l=TK.t m):=fun z=>e (by injection z);rw[zzr0 this,zzr0 e]
    unfold eqBool
    try with_reducible refine lq ?_
    show wpAny _ _ (if(Value.ref a==Value.ref b)=true then _ else _) Q E s
    by_cases hab:(Value.ref a==Value.ref b)=true
    ·rw[if_pos hab];have e:a=b:=by have:=eq_of_beq hab;injection this
     subst e;have e2:TK.t l=TK.t m:=nB.inj _ (aA _) hx0 hy0;rw[zzr1 e2]at h;exact ak (rQ (aD h))
    ·rw[if_neg hab];rw[hd']at h;exact ak (wpAny_richCompare_same_room (op:=.Eq) hTa hTb F.slot_tuple_eq
      (nO F.slot_tuple_eq hTa F.entry_tuple_eq (DX d (fun h1 h2 h3 h4 h5 h6=>ih h1 h2 h3 h4 h5 h6) hl hm (by show A.units+1+d<cLine;omega) hoa hda hia hob hcb hdb hib ⟨_,rfl,(fun e=>nomatch e),rP h⟩) (F.args_tuple_eq_2 _ _)) (by omega))
theorem Fs:∀(d:Nat) {A:Around}{E:Zc}{s:Shared}{k:TK}{v:Value}{Q:Bool->Shared->Prop},k.depth<=d->nB s.heap k v->Q true s->wpAny (model prog w) A (eqIsQuiet d v) Q E s:=by
 intro d
 induction d with
 |zero =>
  intro A E s k v Q hd hk h;cases k with
  |t l=>exact absurd hd (by show ¬(TK.depths l+1<=0);omega)
  |k a=>rw[eqIsQuiet_byValue _ ((As prog w).byValue a v hk)];exact aD h
 |succ d ih =>
  intro A E s k v Q hd hk h;cases k with
  |k a=>rw[eqIsQuiet_byValue _ ((As prog w).byValue a v hk)];exact aD h
  |t l =>
   have hl:TK.depths l<=d:=by have:TK.depths l+1<=d+1:=hd;omega
   obtain⟨a,o,items,n,rfl,ho,hc,hdt,hi⟩:=hk;have hT:s.TypeIs (.ref a) "tuple":=⟨o,ho,hc⟩;unfold eqIsQuiet;refine ak (G_ hT F.slot_tuple_eq.lookup ?_);show wpAny _ _ (isInstance (.ref a) (.type "tuple") >>= _) _ _ s;refine ak (zq hT isSubtype_tuple_tuple ?_);simp only[CZ,lN,if_false];refine ak (nE ho hdt ?_);refine ak ?_;show wpAny _ _ (forIn items _ _) _ _ s;rw[<-Array.forIn_toList];refine wpAny_forIn_list _ (fun rest r s'=>r.1=none/\s'=s/\∃left,TAts s.heap left rest/\TK.depths left<=d) _ ?_ ?_ _ _ ⟨rfl,rfl,l,hi,hl⟩
   ·rintro v rest r s' ⟨hr,rfl,left,hall,hdl⟩;cases left with
    |nil=>have e:v::rest=[]:=hall;cases e
    |cons k' left =>
     obtain⟨v',rest',e,h1,h2⟩:=hall;cases e;have hdl':max k'.depth (TK.depths left)<=d:=hdl;refine ak (ih (k:=k') (by omega) h1 ?_);simp only[CZ,lN,if_false];exact aD ⟨rfl,rfl,left,h2,by omega⟩
   ·rintro⟨r1,r2⟩ s' ⟨hr,rfl,_⟩;simp only at hr;subst hr;exact aD h
def dP(prog:cg)(w:World):HeapKind prog w TK where
 is:=fun h k a=>nB h k (.ref a)/\k.depth<=8
 hash:=TK.hash w
 draws:=TK.draws
 room:=fun A=>A.units+8<cLine
 inj:=fun hx hy=>nB.inj 8 hx.2 hx.1 hy.1
 keeps:=fun{h h' k a d o es ep} x ho hd hs=>⟨nB.mono (fun b ob items n hb _ hdb=>(hs.2 b fun e=>by
  subst e;rw[ho]at hb;cases hb;rw[hd]at hdb;cases hdb).trans hb) 8 x.2 x.1,x.2⟩
 pyHash:=fun hu hk h=>Hd 8 hk.2 hu hk.1 h
 eqBool:=fun hu hx hy h=>JK 8 hx.2 hy.2 hu hx.1 hy.1 h
 quiet:=fun hk h=>Fs 8 hk.2 hk.1 h
end
end L2
namespace L2
open PySem PySem.Spec PyProof.Rows
inductive V where
 |non|bl (b:Bool)|int (i:Int)|str (x:Str)|byt (b:Array UInt8)|flt (b:UInt64)|ref (a:Addr)|ty (n:String)
 deriving DecidableEq
def RelV:V->Value->Prop
 |.non,u=>u=Value.none
 |.bl b,u=>u=Value.bool b
 |.int i,u=>∃t,u=Value.int i t
 |.str x,u=>∃t,u=Value.str x t
 |.byt b,u=>∃t,u=Value.bytes b t
 |.flt b,u=>∃t,u=Value.float b t
 |.ref a,u=>u=Value.ref a
 |.ty n,u=>u=Value.type n
abbrev bf:List V->List Value->Prop:=Paired RelV
theorem bf.length{xs:List V}{us:Zf}(r:bf xs us):xs.length=us.length:=Paired.length r
theorem bf.get:∀{xs:List V}{us:Zf}{i:Nat}{x:V},bf xs us->xs[i]?=some x->∃u,us[i]?=some u/\RelV x u
 |_,_,_,_,.nil,e=>by simp at e
 |_,_,0,_,.cons r _,e=>by simp at e;subst e;exact⟨_,rfl,r⟩
 |_,_,i+1,x,.cons _ t,e=>by
  obtain⟨u,h1,h2⟩:=bf.get (i:=i) (x:=x) t (by simpa using e);exact⟨u,by simpa using h1,h2⟩
theorem bf.set{x:V}{u:Value}(r:RelV x u):∀{xs:List V}{us:Zf}(i:Nat),bf xs us->bf (xs.set i x) (us.set i u)
 |_,_,_,.nil=>.nil
 |_,_,0,.cons _ t=>.cons r t
 |_,_,i+1,.cons q t=>.cons q (bf.set r i t)
theorem bf.append:∀{xs ys:List V}{us ws:Zf},bf xs us->bf ys ws->bf (xs++ys) (us++ws)
 |_,_,_,_,.nil,s=>s
 |_,_,_,_,.cons r t,s=>.cons r (bf.append t s)
theorem bf.take:∀{xs:List V}{us:Zf}(n:Nat),bf xs us->bf (xs.take n) (us.take n)
 |_,_,0,_=>.nil
 |_,_,_+1,.nil=>.nil
 |_,_,n+1,.cons r t=>.cons r (bf.take n t)
theorem bf.drop:∀{xs:List V}{us:Zf}(n:Nat),bf xs us->bf (xs.drop n) (us.drop n)
 |_,_,0,r=>r
 |_,_,_+1,.nil=>.nil
 |_,_,n+1,.cons _ t=>bf.drop n t
def lH:Option V->Option Value->Prop
 |some v,some u=>RelV v u
 |none,none=>True
 |_,_=>False
def KV{κ:Type}:List (κ×V)->List (κ×Value)->Prop:=Paired fun(p:κ×V) (q:κ×Value)=>p.1=q.1/\RelV p.2 q.2
def kV:fC->V
 |.inl i=>.int i
 |.inr x=>.str x
def IU:oU->V
 |none=>.non
 |some k=>kV k
inductive HO where
 |lst (xs:List V)
 |tup (xs:List V)
 |dK (kvs:List (fC×V))|dT (kvs:List (TK×V))
 |set (S:Int->Bool) (n:Nat)
 |ins (C dx:Addr) (fs:List (Str×V))
 |own (x:Addr)
 |xd (fs:List (Str×V))
 |met (f x:Addr)
 |rng (lo hi:Int)
 |frz (o:Obj) (u:HO)
 |tbl (ps:Array Value)
 |ext (φ:Heap->Prop)
abbrev Hp:=Addr->Option HO
mutual
def cW(H:Hp):TK->V->Prop
 |.k a,v=>v=IU a
 |.t l,v=>∃b xs,v=.ref b/\H b=some (.tup xs)/\TKAts H l xs
def TKAts(H:Hp):List TK->List V->Prop
 |[],vs=>vs=[]
 |k::r,vs=>∃v us,vs=v::us/\cW H k v/\TKAts H r us
end
def aS(K:Za)(H:Hp)(a:Addr)(xs:List V):Prop :=
 H a=some (.tup xs)∨∃(o:Obj) (its:Array Value) (n:Nat),K.lookup a=some o/\o.cls=.type "tuple"/\o.data=.seq its n/\its.size<=ai/\bf xs its.toList
theorem aS.keeps{K:Za}{H H':Hp}{a:Addr}{xs:List V}(h:aS K H a xs)(ht:∀b xs,H b=some (.tup xs)->H' b=some (.tup xs)):aS K H' a xs:=h.imp (ht a xs) id
mutual
def jR(K:Za)(H:Hp):TK->V->Prop
 |.k a,v=>v=IU a
 |.t l,v=>∃b xs,v=.ref b/\aS K H b xs/\TKCs K H l xs
def TKCs(K:Za)(H:Hp):List TK->List V->Prop
 |[],vs=>vs=[]
 |k::r,vs=>∃v us,vs=v::us/\jR K H k v/\TKCs K H r us
end
theorem jR.keeps{K:Za}{H H':Hp}(ht:∀b xs,H b=some (.tup xs)->H' b=some (.tup xs)):∀(d:Nat) {k:TK}{v:V},k.depth<=d->jR K H k v->jR K H' k v:=by
 have key:∀(d:Nat) (ih:∀{k:TK}{v:V},k.depth<=d->jR K H k v->jR K H' k v) (xs:List TK) (vs:List V),TK.depths xs<=d->TKCs K H xs vs->TKCs K H' xs vs:=by
  intro d ih xs
  induction xs with
  |nil=>intro vs _ hx;exact hx
  |cons x xs ihl =>
   intro vs hd hx;obtain⟨v,us,rfl,hx1,hx2⟩:=hx;have hd':max x.depth (TK.depths xs)<=d:=hd;exact⟨v,us,rfl,ih (by omega) hx1,ihl us (by omega) hx2⟩
 intro d
 induction d with
 |zero =>
  intro k v hd hx;cases k with
  |t l=>exact absurd hd (by show ¬(TK.depths l+1<=0);omega)
  |k a=>exact hx
 |succ d ih =>
  intro k v hd hx;cases k with
  |k a=>exact hx
  |t l =>
   obtain⟨b,xs,rfl,hb,hi⟩:=hx;exact⟨b,xs,rfl,hb.keeps ht,key d (fun h1=>ih h1) l xs (by have:TK.depths l+1<=d+1:=hd;omega) hi⟩
theorem cW.c{K:Za}{H:Hp}:∀(d:Nat) {k:TK}{v:V},k.depth<=d->cW H k v->jR K H k v:=by
 have key:∀(d:Nat) (ih:∀{k:TK}{v:V},k.depth<=d->cW H k v->jR K H k v) (xs:List TK) (vs:List V),TK.depths xs<=d->TKAts H xs vs->TKCs K H xs vs:=by
  intro d ih xs
  induction xs with
  |nil=>intro vs _ hx;exact hx
  |cons x xs ihl =>
   intro vs hd hx;obtain⟨v,us,rfl,hx1,hx2⟩:=hx;have hd':max x.depth (TK.depths xs)<=d:=hd;exact⟨v,us,rfl,ih (by omega) hx1,ihl us (by omega) hx2⟩
 intro d
 induction d with
 |zero =>
  intro k v hd hx;cases k with
  |t l=>exact absurd hd (by show ¬(TK.depths l+1<=0);omega)
  |k a=>exact hx
 |succ d ih =>
  intro k v hd hx;cases k with
  |k a=>exact hx
  |t l =>
   obtain⟨b,xs,rfl,hb,hi⟩:=hx;exact⟨b,xs,rfl,.inl hb,key d (fun h1=>ih h1) l xs (by have:TK.depths l+1<=d+1:=hd;omega) hi⟩
def upd(H:Hp)(a:Addr)(o:HO):Hp:=fun b=>if b=a then some o else H b
theorem aa{H:Hp}{a:Addr}{o:HO}:upd H a o a=some o:=by unfold upd;rw[if_pos rfl]
theorem ag{H:Hp}{a b:Addr}{o:HO}(h:b≠a):upd H a o b=H b:=by unfold upd;rw[if_neg h]
theorem mM{H:Hp}{a:Addr}{o u:HO}:upd (upd H a o) a u=upd H a u:=by
 funext b;unfold upd;split<;>rfl
theorem Dp{H:Hp}{a b:Addr}{o u:HO}(h:H a=some o)(h':H b=some u)(d:o≠u):a≠b:=by
 intro e;subst e;rw[h]at h';exact d (fe h')
theorem ae{H:Hp}{a b:Addr}{o:HO}(h:H a=some o)(h':H b=none):a≠b:=by
 intro e;subst e;rw[h]at h';cases h'
section
variable(P:cg)(w:World)(K:Za)
def bW(H:Hp)(h:Heap)(a:Addr):HO->Prop
 |.lst xs=>xs.length<=ai/\∃(its:Zf) (n:Nat),bf xs its/\h.get? a=some { cls:=.type "list",data:=.seq its.toArray n }
 |.tup xs=>xs.length<=ai/\∃its:List Value,bf xs its/\IsTup h a its.toArray
 |.dK kvs=>kvs.length<=ai/\(a==fD)=false/\∃vs,KV kvs vs/\h.DictOf (cB P w) a vs
 |.dT kvs=>kvs.length<=ai/\(a==fD)=false/\∃xs:List (TK×Addr×Value),
   Paired (fun(p:TK×V) (q:TK×Addr×Value)=>p.1=q.1/\jR K H p.1 (.ref q.2.1)/\p.1.depth<=8/\RelV p.2 q.2.2) kvs xs /\
   ∃o es ep,h.get? a=some o/\o.ExactDict/\o.data=.dict es ep/\es.toList=xs.map (CY (dP P w))/\(xs.map (·.1)).Nodup
 |.set S n=>h.SetOf (intKind P w) a S n
 |.ins C dx fs=>H dx=some (.own a)/\fs.length<=1000/\dx≠a/\h.get? a=some (rO C dx) /\
   ∃mA,h.Ns1 dx mA/\(∀f,lH (fs.lookup f) (mA f))/\PySem.Within mA (fs.map (·.1))
 |.own _=>∃o,h.get? a=some o
 |.xd fs=>∃mA,h.Ns1 a mA/\∀f,lH (fs.lookup f) (mA f)
 |.rng lo hi=>∃t u v,h.get? a=some { cls:=.type "range",data:=.fields #[.int lo t,.int hi u,.int 1 v] }
 |.frz o u=>h.get? a=some o/\bW H h a u
 |.tbl ps=>h.get? a=some { cls:=.none,data:=.fields ps }
 |.met f x=>h.get? a=some (PySem.W.methodObj (.ref f) (.ref x))
 |.ext φ=>φ h/\(∃o,h.get? a=some o)/\∀h1 h2:Heap,φ h1->(∀o,h1.get? a=some o->h2.get? a=some o)->φ h2
def ng(H:Hp)(h:Heap):Prop:=∀a o,H a=some o->bW P w K H h a o
end
section
variable{P:cg}{w:World}{K:Za}{H H':Hp}{h h':Heap}{a:Addr}{o:HO}
theorem bW.lt(x:bW P w K H h a o):a<h.objs.size:=by
 cases o with
 |lst xs=>obtain⟨_,_,_,_,e⟩:=x;exact ba e
 |tup xs=>obtain⟨_,_,_,p⟩:=x;exact p.lt
 |dK kvs=>obtain⟨_,_,_,_,o,_,_,e,_⟩:=x;exact ba e
 |dT kvs=>obtain⟨_,_,_,_,o,_,_,e,_⟩:=x;exact ba e
 |set S n=>obtain⟨o,_,_,_,e,_⟩:=x;exact ba e
 |ins C dx fs=>obtain⟨_,_,_,e,_⟩:=x;exact ba e
 |own y=>obtain⟨_,e⟩:=x;exact ba e
 |xd fs=>obtain⟨_,⟨_,_,_,e,_⟩,_⟩:=x;exact ba e
 |rng lo hi=>obtain⟨_,_,_,e⟩:=x;exact ba e
 |frz ob u=>obtain⟨e,_⟩:=x;exact ba e
 |tbl ps=>exact ba (show h.get? a=some _ from x)
 |met f y=>exact ba (show h.get? a=some _ from x)
 |ext φ=>obtain⟨_,⟨_,e⟩,_⟩:=x;exact ba e
theorem Paired.mapP{α β:Type}{F G:α->β->Prop}:∀{l₁:List α}{l₂:List β},Paired F l₁ l₂->(∀a b,F a b->G a b)->Paired G l₁ l₂
 |_,_,.nil,_=>.nil
 |_,_,.cons r t,f=>.cons (f _ _ r) (Paired.mapP t f)
theorem bW.stay(x:bW P w K H h a o)(k:∀b u,(b=a∨H b=some (.own a))->h.get? b=some u->h'.get? b=some u)
  (ho:∀b,H b=some (.own a)->H' b=some (.own a)) (ht:∀b xs,H b=some (.tup xs)->H' b=some (.tup xs)):bW P w K H' h' a o:=by
 induction o with
 |lst xs=>obtain⟨z,its,n,r,e⟩:=x;exact⟨z,its,n,r,k _ _ (.inl rfl) e⟩
 |tup xs=>obtain⟨z,its,r,ob,e,c⟩:=x;exact⟨z,its,r,ob,k _ _ (.inl rfl) e,c⟩
 |dK kvs=>obtain⟨z,y,vs,r,ob,es,ep,e,c⟩:=x;exact⟨z,y,vs,r,ob,es,ep,k _ _ (.inl rfl) e,c⟩
 |dT kvs =>
  obtain⟨z,y,xs,r,ob,es,ep,e,c⟩:=x;exact⟨z,y,xs,Paired.mapP r fun p q z=>⟨z.1,jR.keeps ht 8 z.2.2.1 z.2.1,z.2.2⟩,ob,es,ep,k _ _ (.inl rfl) e,c⟩
 |set S n=>obtain⟨ob,es,ep,t,e,c⟩:=x;exact⟨ob,es,ep,t,k _ _ (.inl rfl) e,c⟩
 |ins C dx fs =>
  obtain⟨d,z,ne,e,mA,⟨od,es,ep,e2,c⟩,r⟩:=x;exact⟨ho _ d,z,ne,k _ _ (.inl rfl) e,mA,⟨od,es,ep,k _ _ (.inr d) e2,c⟩,r⟩
 |own y=>obtain⟨ob,e⟩:=x;exact⟨ob,k _ _ (.inl rfl) e⟩
 |xd fs=>obtain⟨mA,⟨od,es,ep,e,c⟩,r⟩:=x;exact⟨mA,⟨od,es,ep,k _ _ (.inl rfl) e,c⟩,r⟩
 |rng lo hi=>obtain⟨t,u,v,e⟩:=x;exact⟨t,u,v,k _ _ (.inl rfl) e⟩
 |frz ob u ih=>obtain⟨e,q⟩:=x;exact⟨k _ _ (.inl rfl) e,ih q⟩
 |tbl ps =>
  have e:h.get? a=some { cls:=.none,data:=.fields ps }:=x;show h'.get? a=some { cls:=.none,data:=.fields ps };exact k a _ (.inl rfl) e
 |met f y =>
  have e:h.get? a=some (PySem.W.methodObj (.ref f) (.ref y)):=x;show h'.get? a=some (PySem.W.methodObj (.ref f) (.ref y));exact k a _ (.inl rfl) e
 |ext φ=>obtain⟨p,⟨o,e⟩,st⟩:=x;exact⟨st _ _ p fun o q=>k _ _ (.inl rfl) q,⟨o,k _ _ (.inl rfl) e⟩,st⟩
theorem ng.lt(x:ng P w K H h)(e:H a=some o):a<h.objs.size:=(x a o e).lt
theorem ng.fresh(x:ng P w K H h)(e:h.objs.size<=a):H a=none:=by
 cases q:H a with
 |none=>rfl
 |some u=>exact absurd (iQ (x.lt q) e) (rN _)
theorem ng.kept(x:ng P w K H h)(k:∀b u,h.get? b=some u->h'.get? b=some u):ng P w K H h':=fun a o e =>
 (x a o e).stay (fun b u _ q=>k b u q) (fun _ q=>q) fun _ _ q=>q
theorem ng.laid(x:ng P w K H h)(k:∀b u,h.get? b=some u->h'.get? b=some u)(hp:h.objs.size<=a)(new:bW P w K (upd H a o) h' a o):ng P w K (upd H a o) h':=fun b u e=>by
 have hn:=x.fresh hp;by_cases hb:b=a
 ·subst hb;rw[aa]at e;cases e;exact new
 ·rw[ag hb]at e;exact(x b u e).stay (fun c v _ q=>k c v q) (fun c q=>by rw[ag (ae q hn)];exact q) fun c xs q=>by rw[ag (ae q hn)];exact q
end
def Rd(H:Hp)(a:Addr)(u:HO):Prop:=H a=some u∨∃o,H a=some (.frz o u)
theorem Rd.ok{P:cg}{w:World}{K:Za}{H:Hp}{h:Heap}{a:Addr}{u:HO}(r:Rd H a u)(x:ng P w K H h):bW P w K H h a u:=by
 rcases r with r|⟨o,r⟩
 ·exact x a u r
 ·obtain⟨_,q⟩:=x a _ r;exact q
def Ka:Option HO->Prop
 |some (.lst _)=>True
 |some (.dK _)=>True
 |some (.dT _)=>True
 |some (.set _ _)=>True
 |some (.ins _ _ _)=>True
 |some (.ext _)=>True
 |_=>False
section
variable{P:cg}{w:World}{K:Za}{H:Hp}{h h':Heap}{x e:Addr}{o':HO}
theorem ng.write(ok:ng P w K H h)(mu:Ka (H x))(he:e=x∨H e=some (.own x))(k:∀b u,b≠e->h.get? b=some u->h'.get? b=some u)(heo:∃u,h'.get? e=some u)
  (new:bW P w K (upd H x o') h' x o'):ng P w K (upd H x o') h':=fun b u q=>by
 have nown:∀c y,H c=some (.own y)->c≠x:=fun c y r z=>by subst z;rw[r]at mu;exact mu
 have ntup:∀c xs,H c=some (.tup xs)->c≠x:=fun c xs r z=>by subst z;rw[r]at mu;exact mu
 by_cases hb:b=x
 ·subst hb;rw[aa]at q;cases q;exact new
 ·rw[ag hb]at q;by_cases hbe:b=e
  ·have q':H b=some (.own x):=by
    rcases he with z|z
    ·exact absurd (hbe.trans z) hb
    ·rw[hbe];exact z
   rw[q]at q';cases q';obtain⟨v,hv⟩:=heo;exact⟨v,by rw[hbe];exact hv⟩
  ·refine(ok b u q).stay (fun c v hc r=>k c v ?_ r) (fun c r=>by rw[ag (nown c b r)];exact r) fun c xs r=>by rw[ag (ntup c xs r)];exact r
   rcases hc with rfl|hc
   ·exact hbe
   ·rintro rfl;rcases he with z|z
    ·exact nown c b hc z
    ·rw[hc]at z;cases z;exact hb rfl
end
structure Un(fs ex:Ze)(H H':Hp)(h h':Heap):Prop where
 keep:∀b o,h.get? b=some o->H b=none->b∉fs->b∉ex->h'.get? b=some o
 slot:∀b o,h.get? b=some o->H b=none->b∈fs->b∉ex->∃sl,h'.get? b=some { o with slots:=sl }
 free:∀b o,h.get? b=some o->H b=none->b∉ex->H' b=none
 there:∀b o,h.get? b=some o->b∉ex->∃o',h'.get? b=some o'
 tups:∀b xs,H b=some (.tup xs)->H' b=some (.tup xs)
 frzs:∀b o u,H b=some (.frz o u)->H' b=some (.frz o u)
 tbls:∀b ps,H b=some (.tbl ps)->∃more,H' b=some (.tbl (ps++more))
section
variable{fs fs' ex ex':Ze}{H H1 H2:Hp}{h h1 h2 h':Heap}{a x e:Addr}{o:HO}
theorem Un.any(u:Un fs ex H H1 h h1){b:Addr}{ob:Obj}(q:h.get? b=some ob)(n:H b=none)(hx:b∉ex):∃sl,h1.get? b=some { ob with slots:=sl }:=by
 by_cases hb:b∈fs
 ·exact u.slot b ob q n hb hx
 ·exact⟨ob.slots,u.keep b ob q n hb hx⟩
theorem Un.kept(k:∀b u,h.get? b=some u->h'.get? b=some u):Un fs ex H H h h' :=
 ⟨fun b ob q _ _ _=>k b ob q,fun b ob q _ _ _=>⟨ob.slots,k b ob q⟩,fun _ _ _ n _=>n,fun b ob q _=>⟨ob,k b ob q⟩,fun _ _ q=>q,fun _ _ _ q=>q,fun _ ps q=>⟨#[],by rw[q];simp⟩⟩
theorem Un.refl:Un fs ex H H h h:=Un.kept fun _ _ q=>q
theorem Un.laid(k:∀b u,h.get? b=some u->h'.get? b=some u)(hp:h.objs.size<=a)(hn:H a=none):Un fs ex H (upd H a o) h h' where
 keep:=fun b u q _ _ _=>k b u q
 slot:=fun b u q _ _ _=>⟨u.slots,k b u q⟩
 free:=fun b u q n _=>by rw[ag (cY (iQ (ba q) hp))];exact n
 there:=fun b u q _=>⟨u,k b u q⟩
 tups:=fun b xs q=>by rw[ag (ae q hn)];exact q
 frzs:=fun b u xs q=>by rw[ag (ae q hn)];exact q
 tbls:=fun b ps q=>⟨#[],by rw[ag (ae q hn),q];simp⟩
theorem Un.write(mu:Ka (H x))(he:e=x∨H e=some (.own x))(k:∀b u,b≠e->h.get? b=some u->h'.get? b=some u)(heo:∃u,h'.get? e=some u):Un fs ex H (upd H x o) h h':=by
 have hx:∀b,H b=none->b≠x:=fun b n z=>by subst z;rw[n]at mu;exact mu
 have hb:∀b,H b=none->b≠e:=fun b n z=>by
  subst z;rcases he with r|r
  ·exact hx b n r
  ·rw[n]at r;cases r
 have hm:∀b u,H b=some u->¬Ka (some u)->b≠x:=fun b u q nm z=>by subst z;rw[q]at mu;exact nm mu
 refine⟨fun b u q n _ _=>k b u (hb b n) q,fun b u q n _ _=>⟨u.slots,k b u (hb b n) q⟩,fun b u q n _=>by rw[ag (hx b n)];exact n,fun b u q _=>?_,
  fun b xs q=>by rw[ag (hm b _ q fun z=>z)];exact q,fun b u xs q=>by rw[ag (hm b _ q fun z=>z)];exact q,fun b ps q=>⟨#[],by rw[ag (hm b _ q fun z=>z),q];simp⟩⟩
 by_cases hbe:b=e
 ·subst hbe;exact heo
 ·exact⟨u,k b u hbe q⟩
end
def Kp(h:Heap)(H:Hp):List Addr:=(jW h.objs.size).filter fun a=>(H a).isSome
def yH(h:Heap)(H:Hp):Heap:=PySem.W.hideAll h (Kp h H)
theorem EI(h:Heap)(H:Hp):(yH h H).objs.size=h.objs.size:=PySem.W.hideAll_size _ _
theorem Gx{h:Heap}{H:Hp}{b:Addr}{o:Obj}(e:h.get? b=some o)(n:H b=none):(yH h H).get? b=some o :=
 PySem.W.hideAll_get _ e fun hm=>by
  have q:(H b).isSome=true:=(bD.mp hm).2;rw[n]at q;simp at q
theorem HZ{h:Heap}{H:Hp}{b:Addr}{o:Obj}(e:(yH h H).get? b=some o):h.get? b=some o/\H b=none:=by
 have e':h.get? b=some o:=PySem.W.of_hideAll (Kp h H) e;refine⟨e',?_⟩;cases q:H b with
 |none=>rfl
 |some x =>
  have hm:b∈Kp h H:=bD.mpr ⟨List.mem_range.mpr (ba e'),by simp[q]⟩;have z:(yH h H).get? b=none:=PySem.W.hideAll_none (Kp h H) hm;rw[z]at e;cases e
end L2
namespace L2
open PySem PySem.Spec PyProof.Rows
structure Mod(K:Za)(mg:Str->Option Value)(base:Heap):Prop where
 kin:K.In base
 glob:base.Ns b_ mg
 blt:∃mb,base.Ns builtinsNs mb/\∀x:Str,x≠"__name__"->mb x=ji x
 nolimit:base.NoLimit
structure Cx where
 prog:cg
 w:World
 K:Za
 mg:Str->Option Value
 base:Heap
 A:Around
 N:List Str
 s₀:Shared
 H₀:Hp
 env:Env
 outer:List Env
 stack:List Env
 ex:List Addr
 fn:Str->Bool
 calm:Bool
 pn:List (Addr×Obj)
 xe:Value->Shared->Prop
def Fg(l:List Env):List Addr:=l.filterMap (·.frame)
abbrev Cx.fs(X:Cx):List Addr:=Fg X.outer
def Kr(sc:Scope)(x:Str):Prop:=sc.names.lookup x=some .local∨sc.names.lookup x=some .cell∨sc.names.lookup x=some .free
def Loc(sc:Scope)(x:Str):Prop:=sc.names.lookup x=some .local∨sc.names.lookup x=some .cell
def Look(env:Env)(h:Heap)(m:Str->Option Value)(x:Str)(u:Value):Prop :=
 (env.kindOf x=some .local/\m x=some u)∨((env.kindOf x=some .cell∨env.kindOf x=some .free)/\∃c,env.cells.lookup x=some c/\h.IsCell c (some u))
structure Cx.Ok(X:Cx):Prop where
 mod:Mod X.K X.mg X.base
 kind:X.env.scope.kind=.function
 glob:X.env.globals=b_
 blt:X.env.builtins=builtinsNs
 above:X.s₀.heap.objs.size<=X.env.locals
 inj:∀x y c,X.env.cells.lookup x=some c->X.env.cells.lookup y=some c->x=y
 has:∀x,(X.env.kindOf x=some .cell∨X.env.kindOf x=some .free)->∃c,X.env.cells.lookup x=some c
 cab:∀x c,X.fn x=true->X.env.cells.lookup x=some c->X.s₀.heap.objs.size<=c
 hd:X.calm=true->X.A.handled=none
 frames:X.A.frames=some X.stack
 stk:X.stack=X.outer∨(X.stack=X.env::X.outer/\X.env.frame=some X.env.locals)
 exf:∀b∈X.ex,b≠X.env.locals/\∀x c,X.env.cells.lookup x=some c->c≠b
 bs:∀b o,X.base.get? b=some o->X.s₀.heap.get? b=some o/\X.H₀ b=none
 bsz:X.base.objs.size<=X.s₀.heap.objs.size
 noex:∀b o,X.base.get? b=some o->b∉X.ex
 exfs:∀b∈X.ex,b∉X.fs
 funs:X.s₀.heap.FunFrames X.base X.outer
 frf:∀b∈X.fs,X.H₀ b=none
structure Inv(X:Cx)(J3:Zd)(σ:List (Option V))(H:Hp)(s:Shared):Prop where
 ok:X.Ok
 os:s.os=X.s₀.os
 bare:pc s.gens
 base:Un X.fs X.ex X.H₀ H X.s₀.heap s.heap
 loc:∃m,s.heap.Ns X.env.locals m/\∀(i:Nat) (x:Str) (v:V),X.N[i]?=some x->σ[i]?=some (some v)->Kr X.env.scope x->∃u,RelV v u/\Look X.env s.heap m x u
 cell:∀x c,X.env.cells.lookup x=some c->∃v,s.heap.IsCell c v
 free:H X.env.locals=none
 freeC:∀x c,X.env.cells.lookup x=some c->H c=none
 pin:∀p∈X.pn++J3,s.heap.get? p.1=some p.2/\H p.1=none/\p.1≠X.env.locals/\p.1∉X.fs/\∀v,p.2.data≠.cell v
 hok:ng X.prog X.w X.K H s.heap
 len:σ.length=X.N.length
section
variable{X:Cx}{J3:Zd}{σ:List (Option V)}{H H':Hp}{s:Shared}{h':Heap}
theorem Cx.Ok.nofr(ok:X.Ok){b:Addr}{o:Obj}(e:X.base.get? b=some o):b∉X.fs:=fun hb=>by
 have:=(ok.funs.mem hb).1;rw[e]at this;cases this
theorem Inv.bs(I:Inv X J3 σ H s):∀b o,X.base.get? b=some o->s.heap.get? b=some o/\H b=none:=fun b o e =>
 ⟨I.base.keep b o (I.ok.bs b o e).1 (I.ok.bs b o e).2 (I.ok.nofr e) (I.ok.noex b o e),I.base.free b o (I.ok.bs b o e).1 (I.ok.bs b o e).2 (I.ok.noex b o e)⟩
theorem Inv.bk(I:Inv X J3 σ H s):∀b o,X.base.get? b=some o->s.heap.get? b=some o:=fun b o e=>(I.bs b o e).1
theorem Inv.mod(I:Inv X J3 σ H s):Mod X.K X.mg X.base:=I.ok.mod
theorem Inv.kIn(I:Inv X J3 σ H s):X.K.In s.heap:=I.ok.mod.kin.keeps I.bk
theorem Inv.fr(I:Inv X J3 σ H s):∃m,Fr X.base X.env.locals s.heap m :=
 let⟨m,hn,_⟩:=I.loc
 ⟨m,hn,I.bk,bC I.ok.bsz I.ok.above⟩
theorem Inv.lt(I:Inv X J3 σ H s):X.env.locals<s.heap.objs.size:=let⟨_,hn,_⟩:=I.loc;hn.lt
theorem Inv.sz(I:Inv X J3 σ H s):X.s₀.heap.objs.size<=s.heap.objs.size:=bC I.ok.above (fb I.lt)
theorem Inv.nofs(I:Inv X J3 σ H s){a:Addr}(h:s.heap.objs.size<=a):a∉X.fs:=fun hb=>by
 obtain⟨_,o,ho,_⟩:=I.ok.funs.mem hb;exact absurd (iQ (ba ho) (bC I.sz h)) (rN _)
theorem Inv.cne(I:Inv X J3 σ H s):∀x c,X.env.cells.lookup x=some c->c≠X.env.locals:=fun x c e z=>by
 obtain⟨v,o,ho,hd⟩:=I.cell x c e;obtain⟨m,⟨o',es,ep,ho',hd',_⟩,_⟩:=I.loc;rw[z,ho']at ho;cases ho;rw[hd']at hd;cases hd
theorem Inv.funs(I:Inv X J3 σ H s):s.heap.FunFrames X.base X.outer:=by
 have all:∀(l:List Env),(∀b∈Fg l,b∈X.fs)->X.s₀.heap.FunFrames X.base l->s.heap.FunFrames X.base l:=by
  intro l
  induction l with
  |nil=>intro _ _;trivial
  |cons env r ih =>
   intro hs hl;obtain⟨hk,⟨L,o,hf,hn,ho,hd⟩,hr⟩:=hl;have hL:L∈X.fs:=hs L (by unfold Fg;rw[List.filterMap_cons,hf];exact dU);obtain⟨sl,e⟩:=I.base.slot L o ho (I.ok.frf L hL) hL fun z=>I.ok.exfs L z hL;exact⟨hk,⟨L,_,hf,hn,e,hd⟩,ih (fun b hb=>hs b (by unfold Fg;rw[List.filterMap_cons,hf];exact eI _ hb)) hr⟩
 exact all X.outer (fun _ hb=>hb) I.ok.funs
theorem Inv.stack(I:Inv X J3 σ H s):s.heap.FunFrames X.base X.stack:=by
 rcases I.ok.stk with e|⟨e,hf⟩
 ·rw[e];exact I.funs
 ·rw[e];obtain⟨m,hn,_⟩:=I.loc;refine .cons (by rw[I.ok.kind];decide) hf hn ?_ I.funs;exact Heap.get?_none_of_le (bC I.ok.bsz I.ok.above)
theorem Inv.stkSub(I:Inv X J3 σ H s):∀b∈Fg X.stack,b∈X.env.locals::X.fs:=fun b hb=>by
 rcases I.ok.stk with e|⟨e,hf⟩
 ·rw[e]at hb;exact eI _ hb
 ·rw[e]at hb;unfold Fg at hb;rw[List.filterMap_cons,hf]at hb;exact hb
theorem Inv.stkFree(I:Inv X J3 σ H s):∀b∈Fg X.stack,H b=none:=fun b hb=>by
 rcases cH.mp (I.stkSub b hb)with e|hb
 ·rw[e];exact I.free
 ·obtain⟨_,o,ho,_⟩:=I.ok.funs.mem hb;exact I.base.free b o ho (I.ok.frf b hb) fun z=>I.ok.exfs b z hb
theorem Inv.step{g':Array GenState}{t':Nat}{d':Drawn}{ch:Ze}(I:Inv X J3 σ H s)
  (hch:∀b∈ch,(b∈X.ex∨X.s₀.heap.objs.size<=b)/\b≠X.env.locals/\(∀x c,X.env.cells.lookup x=some c->c≠b)/\∀p∈X.pn++J3,p.1≠b)
  (keep:∀b o,b≠X.env.locals->b∉X.fs->b∉ch->s.heap.get? b=some o->H b=none->h'.get? b=some o)
  (slot:∀b o,b≠X.env.locals->b∈X.fs->b∉ch->s.heap.get? b=some o->H b=none->∃sl,h'.get? b=some { o with slots:=sl }) (free:∀b o,b∉ch->s.heap.get? b=some o->H b=none->H' b=none)
  (there:∀b o,b∉ch->s.heap.get? b=some o->∃o',h'.get? b=some o')
  (tups:∀b xs,H b=some (.tup xs)->H' b=some (.tup xs)) (frzs:∀b o u,H b=some (.frz o u)->H' b=some (.frz o u)) (tbls:∀b ps,H b=some (.tbl ps)->∃more,H' b=some (.tbl (ps++more)))
  (ns:∀m,s.heap.Ns X.env.locals m->h'.Ns X.env.locals m) (hok:ng X.prog X.w X.K H' h') (hg:pc g') :
  Inv X J3 σ H' { s with heap:=h',gens:=g',drawn:=d',toks:=t' }:=by
 have neL:∀b o,X.s₀.heap.get? b=some o->b≠X.env.locals:=fun b o e=>cY (iQ (ba e) I.ok.above);have neC:∀b o,X.s₀.heap.get? b=some o->b∉X.ex->b∉ch:=fun b o e hx hb=>by
  rcases(hch b hb).1 with z|z
  ·exact hx z
  ·exact absurd (iQ (ba e) z) (rN _)
 have cellK:∀x c,X.env.cells.lookup x=some c->∀v,s.heap.IsCell c v->h'.IsCell c v:=fun x c e v ⟨o,ho,hd⟩=>by
  have nch:c∉ch:=fun z=>(hch c z).2.2.1 x c e rfl;by_cases hc:c∈X.fs
  ·obtain⟨sl,q⟩:=slot c o (I.cne x c e) hc nch ho (I.freeC x c e);exact⟨_,q,hd⟩
  ·exact⟨o,keep c o (I.cne x c e) hc nch ho (I.freeC x c e),hd⟩
 refine⟨I.ok,I.os,hg,⟨fun b o e n hb hx=>?_,fun b o e n hb hx=>?_,fun b o e n hx=>?_,fun b o e hx=>?_,fun b xs e=>tups b xs (I.base.tups b xs e),fun b o xs e=>frzs b o xs (I.base.frzs b o xs e),fun b ps e=>?_⟩,?_,fun x c e=>?_,?_,fun x c e=>?_,fun p hp=>?_,hok,I.len⟩
 ·exact keep b o (neL b o e) hb (neC b o e hx) (I.base.keep b o e n hb hx) (I.base.free b o e n hx)
 ·obtain⟨sl,e1⟩:=I.base.slot b o e n hb hx;obtain⟨sl',e2⟩:=slot b _ (neL b o e) hb (neC b o e hx) e1 (I.base.free b o e n hx);exact⟨sl',e2⟩
 ·obtain⟨o',e1⟩:=I.base.there b o e hx;exact free b o' (neC b o e hx) e1 (I.base.free b o e n hx)
 ·obtain⟨o',e1⟩:=I.base.there b o e hx;exact there b o' (neC b o e hx) e1
 ·obtain⟨m1,e1⟩:=I.base.tbls b ps e;obtain⟨m2,e2⟩:=tbls b _ e1;exact⟨m1++m2,by rw[e2,Array.append_assoc]⟩
 ·obtain⟨m,hn,hl⟩:=I.loc;refine⟨m,ns m hn,fun i x v e1 e2 e3=>?_⟩;obtain⟨u,r,l⟩:=hl i x v e1 e2 e3;refine⟨u,r,?_⟩;rcases l with l|⟨k,c,e,z⟩
  ·exact .inl l
  ·exact .inr ⟨k,c,e,cellK x c e _ z⟩
 ·obtain⟨v,z⟩:=I.cell x c e;exact⟨v,cellK x c e v z⟩
 ·obtain⟨m,⟨o,_,_,ho,_⟩,_⟩:=I.loc;exact free _ o (fun z=>(hch _ z).2.1 rfl) ho I.free
 ·obtain⟨v,o,ho,hd⟩:=I.cell x c e;exact free c o (fun z=>(hch c z).2.2.1 x c e rfl) ho (I.freeC x c e)
 ·obtain⟨e,n,ne,nf,d⟩:=I.pin p hp;have nch:p.1∉ch:=fun z=>(hch p.1 z).2.2.2 p hp rfl;exact⟨keep p.1 p.2 ne nf nch e n,free p.1 p.2 nch e n,ne,nf,d⟩
theorem Inv.un{t':Nat}(I:Inv X J3 σ H s)(u:Un X.fs [] H H' s.heap h')(hok:ng X.prog X.w X.K H' h'):Inv X J3 σ H' { s with heap:=h',toks:=t' }:=by
 obtain⟨m,⟨o,es,ep,ho,r⟩,_⟩:=id I.loc;obtain⟨sl,hL⟩:=u.any ho I.free (by simp);exact I.step (g':=s.gens) (d':=s.drawn) (ch:=[]) (fun _ z=>nomatch z) (fun b o _ hb _ e n=>u.keep b o e n hb (by simp)) (fun b o _ hb _ e n=>u.slot b o e n hb (by simp)) (fun b o _ e n=>u.free b o e n (by simp)) (fun b o _ e=>u.there b o e (by simp)) u.tups u.frzs u.tbls (fun m' hm=>by
  obtain⟨o',es',ep',ho',r'⟩:=hm;rw[ho]at ho';cases ho';exact⟨_,es',ep',hL,r'⟩) hok I.bare
theorem Inv.call{g':Array GenState}{t':Nat}{d':Drawn}{ch:Ze}(I:Inv X J3 σ H s)(u:Un (Fg X.stack) ch H H' s.heap h')(hok:ng X.prog X.w X.K H' h')(hg:pc g')
  (hch:∀b∈ch,(b∈X.ex∨X.s₀.heap.objs.size<=b)/\b≠X.env.locals/\(∀x c,X.env.cells.lookup x=some c->c≠b)/\∀p∈X.pn++J3,p.1≠b) :
  Inv X J3 σ H' { s with heap:=h',gens:=g',drawn:=d',toks:=t' }:=by
 obtain⟨m,⟨o,es,ep,ho,r⟩,_⟩:=id I.loc;obtain⟨sl,hL⟩:=u.any ho I.free fun z=>(hch _ z).2.1 rfl;exact I.step (ch:=ch) hch (fun b o hL hb hc e n=>u.keep b o e n (fun z=>(cH.mp (I.stkSub b z)).elim hL hb) hc) (fun b o _ _ hc e n=>u.any e n hc) (fun b o hc e n=>u.free b o e n hc) (fun b o hc e=>u.there b o e hc) u.tups u.frzs u.tbls (fun m' hm=>by
  obtain⟨o',es',ep',ho',r'⟩:=hm;rw[ho]at ho';cases ho';exact⟨_,es',ep',hL,r'⟩) hok hg
theorem Inv.turned{t':Nat}{it:Addr}(I:Inv X J3 σ H s)(k:∀b o,b≠it->s.heap.get? b=some o->h'.get? b=some o)(hn:H it=none)(hL:it≠X.env.locals)
  (h1:it∈X.ex∨X.s₀.heap.objs.size<=it) (h2:∀x c,X.env.cells.lookup x=some c->c≠it) (h3:∀p∈X.pn++J3,p.1≠it):Inv X J3 σ H { s with heap:=h',toks:=t' }:=by
 have nit:∀b u,H b=some u->b≠it:=fun b u e z=>by rw[z,hn]at e;cases e
 refine I.step (g':=s.gens) (d':=s.drawn) (ch:=[it]) (fun b hb=>?_) (fun b o _ _ hc e _=>k b o (fun z=>hc (by simp[z])) e) (fun b o _ _ hc e _=>⟨o.slots,k b o (fun z=>hc (by simp[z])) e⟩) (fun _ _ _ _ n=>n)
  (fun b o hc e=>⟨o,k b o (fun z=>hc (by simp[z])) e⟩) (fun _ _ e=>e) (fun _ _ _ e=>e) (fun b ps e=>⟨#[],by rw[e];simp⟩) (fun m hm=>?_) (fun b u e=>?_) I.bare
 ·have e:b=it:=by simpa using hb
  subst e;exact⟨h1,hL,h2,h3⟩
 ·obtain⟨o,es,ep,ho,r⟩:=hm;exact⟨o,es,ep,k _ o (dE hL) ho,r⟩
 ·refine(I.hok b u e).stay (fun c v hc q=>k c v ?_ q) (fun _ q=>q) fun _ _ q=>q;rcases hc with z|z
  ·rw[z];exact nit b u e
  ·exact nit c _ z
theorem Inv.tok(I:Inv X J3 σ H s)(t:Nat):Inv X J3 σ H { s with toks:=t }:=I.un (h':=s.heap) (t':=t) Un.refl I.hok
theorem Inv.kept{t':Nat}(I:Inv X J3 σ H s)(k:∀b u,s.heap.get? b=some u->h'.get? b=some u):Inv X J3 σ H { s with heap:=h',toks:=t' }:=I.un (Un.kept k) (I.hok.kept k)
theorem Inv.laid{a:Addr}{o:HO}{t':Nat}(I:Inv X J3 σ H s)(k:∀b u,s.heap.get? b=some u->h'.get? b=some u)(hp:s.heap.objs.size<=a)(new:bW X.prog X.w X.K (upd H a o) h' a o):
  Inv X J3 σ (upd H a o) { s with heap:=h',toks:=t' }:=I.un (Un.laid k hp (I.hok.fresh hp)) (I.hok.laid k hp new)
theorem Inv.write{x e:Addr}{o:HO}{t':Nat}(I:Inv X J3 σ H s)(mu:Ka (H x))(he:e=x∨H e=some (.own x))(k:∀b u,b≠e->s.heap.get? b=some u->h'.get? b=some u)(heo:∃u,h'.get? e=some u)
  (new:bW X.prog X.w X.K (upd H x o) h' x o):Inv X J3 σ (upd H x o) { s with heap:=h',toks:=t' }:=I.un (Un.write mu he k heo) (I.hok.write mu he k heo new)
theorem Inv.weak{σ':List (Option V)}(I:Inv X J3 σ H s)(hl:σ'.length=σ.length)(w:∀(i:Nat) v,σ'[i]?=some (some v)->σ[i]?=some (some v)):Inv X J3 σ' H s :=
 ⟨I.ok,I.os,I.bare,I.base,let⟨m,hn,hl'⟩:=I.loc;⟨m,hn,fun i x v e1 e2 e3=>hl' i x v e1 (w i v e2) e3⟩,I.cell,I.free,I.freeC,I.pin,I.hok,hl.trans I.len⟩
theorem Inv.pins_of{pins':Zd}(I:Inv X J3 σ H s)(h:∀p∈pins',s.heap.get? p.1=some p.2/\H p.1=none/\p.1≠X.env.locals/\p.1∉X.fs/\∀v,p.2.data≠.cell v):Inv X pins' σ H s :=
 ⟨I.ok,I.os,I.bare,I.base,I.loc,I.cell,I.free,I.freeC,fun p hp=>(a_.mp hp).elim (fun z=>I.pin p (cf _ z)) (h p),I.hok,I.len⟩
theorem Ap{N:Zb}(hN:N.Nodup){i j:Nat}{x:Str}(a:N[i]?=some x)(b:N[j]?=some x):i=j:=by
 obtain⟨h1,e1⟩:=cu.mp a;obtain⟨h2,e2⟩:=cu.mp b;exact(List.getElem_inj hN).mp (e1.trans e2.symm)
theorem wm{M:Model}{A:Around}{E:Zc}{i:Nat}{x:Str}{v:V}{u:Value}{Q:Unit->Shared->Prop}(I:Inv X J3 σ H s)(hN:X.N.Nodup)(hi:X.N[i]?=some x)(hx:Loc X.env.scope x)(r:RelV v u)
  (h:∀s',Inv X J3 (σ.set i (some v)) H s'->(∃a,fZ a s.heap s'.heap/\(a=X.env.locals∨X.env.cells.lookup x=some a))->Q () s') (hf:X.fn x=true∨X.env.scope.names.lookup x=some .local:=by first|exact .inl rfl|exact .inr rfl|assumption):wpAny M A (storeName X.env x u) Q E s:=by
 obtain⟨m,hn,hl⟩:=id I.loc;have hcls:(X.env.scope.kind==.class || (X.env.scope.kind==.module && X.env.locals != X.env.globals))=false:=by rw[I.ok.kind];rfl
 have hiσ:i<σ.length:=by rw[I.len];exact(cu.mp hi).1
 have cne:=I.cne;have tracked:∀{a:Addr}{h':Heap},(∃o,s.heap.get? a=some o/\H a=none)->fZ a s.heap h'->ng X.prog X.w X.K H h':=fun{a h'} ha hs b ob e=>by
  obtain⟨_,_,hfree⟩:=ha;refine(I.hok b ob e).stay (fun c w' hc q=>(hs.2 c ?_).trans q) (fun _ q=>q) fun _ _ q=>q;rintro rfl;rcases hc with rfl|hc
  ·rw[hfree]at e;cases e
  ·rw[hfree]at hc;cases hc
 rcases hx with hk|hk
 ·refine wpAny_storeName_local hk hn (fun h' hn' hs=>?_) hcls;obtain⟨oL,_,_,hoL,_⟩:=id hn;refine h _ ⟨I.ok,I.os,I.bare,⟨fun b o e n hb hx=>?_,fun b o e n hb hx=>?_,I.base.free,fun b o e hx=>?_,I.base.tups,I.base.frzs,I.base.tbls⟩,⟨_,hn',fun j y v' e1 e2 e3=>?_⟩,fun y c e=>?_,I.free,I.freeC,fun p hp=>?_,tracked ⟨oL,hoL,I.free⟩ hs,by simpa using I.len⟩ ⟨_,hs,.inl rfl⟩
  ·exact(hs.2 b (cY (iQ (ba e) I.ok.above))).trans (I.base.keep b o e n hb hx)
  ·obtain⟨sl,e1⟩:=I.base.slot b o e n hb hx;exact⟨sl,(hs.2 b (cY (iQ (ba e) I.ok.above))).trans e1⟩
  ·obtain⟨o',e1⟩:=I.base.there b o e hx;exact⟨o',(hs.2 b (cY (iQ (ba e) I.ok.above))).trans e1⟩
  ·by_cases hj:j=i
   ·subst hj;rw[hi]at e1;cases e1;rw[List.getElem?_set_self hiσ]at e2;cases e2;exact⟨u,r,.inl ⟨hk,by simp⟩⟩
   ·rw[List.getElem?_set_ne (dE hj)]at e2;obtain⟨u',r',q⟩:=hl j y v' e1 e2 e3;refine⟨u',r',?_⟩;rcases q with⟨k,e⟩|⟨k,c,e,z⟩
    ·refine .inl ⟨k,?_⟩;have:y≠x:=fun e=>hj (Ap hN e1 (e▸hi));simp[this,e]
    ·exact .inr ⟨k,c,e,z.sameBut hs (cne y c e)⟩
  ·obtain⟨w',z⟩:=I.cell y c e;exact⟨w',z.sameBut hs (cne y c e)⟩
  ·obtain⟨e,n,ne,nf,d⟩:=I.pin p hp;exact⟨(hs.2 p.1 ne).trans e,n,ne,nf,d⟩
 ·have hfn:X.fn x=true:=by
   rcases hf with z|z
   ·exact z
   ·rw[z]at hk;cases hk
  obtain⟨c,hc⟩:=I.ok.has x (.inl hk);obtain⟨w',z⟩:=I.cell x c hc;refine wpAny_storeName_cell I.ok.kind hk hc z (fun h' hc' hs=>?_);obtain⟨oc,hoc,hocd⟩:=id z;refine h { s with heap:=h' } ⟨I.ok,I.os,I.bare,⟨fun b o e n hb hx=>?_,fun b o e n hb hx=>?_,I.base.free,fun b o e hx=>?_,I.base.tups,I.base.frzs,I.base.tbls⟩,⟨m,hn.sameBut hs (dE (cne x c hc)),fun j y v' e1 e2 e3=>?_⟩,fun y c' e=>?_,I.free,I.freeC,fun p hp=>?_,tracked ⟨oc,hoc,I.freeC x c hc⟩ hs,by simpa using I.len⟩ ⟨c,hs,.inr hc⟩
  ·exact(hs.2 b (cY (iQ (ba e) (I.ok.cab x c hfn hc)))).trans (I.base.keep b o e n hb hx)
  ·obtain⟨sl,e1⟩:=I.base.slot b o e n hb hx;exact⟨sl,(hs.2 b (cY (iQ (ba e) (I.ok.cab x c hfn hc)))).trans e1⟩
  ·obtain⟨o',e1⟩:=I.base.there b o e hx;exact⟨o',(hs.2 b (cY (iQ (ba e) (I.ok.cab x c hfn hc)))).trans e1⟩
  ·by_cases hj:j=i
   ·subst hj;rw[hi]at e1;cases e1;rw[List.getElem?_set_self hiσ]at e2;cases e2;exact⟨u,r,.inr ⟨.inl hk,c,hc,hc'⟩⟩
   ·rw[List.getElem?_set_ne (dE hj)]at e2;obtain⟨u',r',q⟩:=hl j y v' e1 e2 e3;refine⟨u',r',?_⟩;rcases q with q|⟨k,c',e,z'⟩
    ·exact .inl q
    ·refine .inr ⟨k,c',e,z'.sameBut hs ?_⟩;rintro rfl;exact hj (Ap hN e1 (I.ok.inj _ _ _ e hc▸hi))
  ·by_cases hcc:c'=c
   ·subst hcc;exact⟨_,hc'⟩
   ·obtain⟨w2,z2⟩:=I.cell y c' e;exact⟨w2,z2.sameBut hs hcc⟩
  ·obtain⟨e,n,ne,nf,d⟩:=I.pin p hp;refine⟨(hs.2 p.1 ?_).trans e,n,ne,nf,d⟩;intro q;rw[q,hoc]at e;have q':oc=p.2:=fe e;exact d w' (by rw[<-q'];exact hocd)
theorem ud{M:Model}{A:Around}{E:Zc}{i:Nat}{x:Str}{v:V}{u:Value}{Q:Unit->Shared->Prop}(I:Inv X J3 σ H s)(hN:X.N.Nodup)(hi:X.N[i]?=some x)(hx:Loc X.env.scope x)(r:RelV v u)
  (h:∀s',Inv X J3 (σ.set i (some v)) H s'->Q () s') (hf:X.fn x=true∨X.env.scope.names.lookup x=some .local:=by first|exact .inl rfl|exact .inr rfl|assumption):wpAny M A (storeName X.env x u) Q E s :=
 wm I hN hi hx r (fun s' I' _=>h s' I') hf
theorem Inv.call'{s':Shared}{ch:Ze}(I:Inv X J3 σ H s)(ho:s'.os=s.os)(u:Un (Fg X.stack) ch H H' s.heap s'.heap)(hok:ng X.prog X.w X.K H' s'.heap)(hg:pc s'.gens)
  (hch:∀b∈ch,(b∈X.ex∨X.s₀.heap.objs.size<=b)/\b≠X.env.locals/\(∀x c,X.env.cells.lookup x=some c->c≠b)/\∀p∈X.pn++J3,p.1≠b):Inv X J3 σ H' s':=by
 obtain⟨h',g',d',t',o'⟩:=s';have e:o'=s.os:=ho;subst e;exact I.call (g':=g') (t':=t') (d':=d') u hok hg hch
end
abbrev XK:=Value->Option Addr->Hp->Prop
abbrev St:=List (Option V)
abbrev VK:=V->Hp->Prop
abbrev TE:=St->Hp->VK->Prop
abbrev TT:=St->Hp->(Bool->Hp->Prop)->Prop
abbrev TA:=St->Hp->(List V->Hp->Prop)->Prop
structure mI where
 nx:St->Hp->Prop
 rt:VK
 bk:St->Hp->Prop:=fun _ _=>False
 ct:St->Hp->Prop:=fun _ _=>False
abbrev bJ(Q:VK):mI:={ nx:=fun _ H=>Q .non H,rt:=Q }
abbrev TS:=mI->St->Hp->Prop
def EP(X:Cx)(J3:Zd)(σ:St)(Q:VK)(u:Value)(s':Shared):Prop:=∃v H',Inv X J3 σ H' s'/\RelV v u/\Q v H'
def TP(X:Cx)(J3:Zd)(σ:St)(Q:Bool->Hp->Prop)(b:Bool)(s':Shared):Prop:=∃H',Inv X J3 σ H' s'/\Q b H'
def AP(X:Cx)(J3:Zd)(σ:St)(Q:List V->Hp->Prop)(us:Zf)(s':Shared):Prop:=∃vs H',Inv X J3 σ H' s'/\bf vs us/\Q vs H'
def SP(X:Cx)(J3:Zd)(D:mI)(f:Flow)(s':Shared):Prop :=
 match f with
 |.next=>∃σ' H',Inv X J3 σ' H' s'/\D.nx σ' H'
 |.brk=>∃σ' H',Inv X J3 σ' H' s'/\D.bk σ' H'
 |.cont=>∃σ' H',Inv X J3 σ' H' s'/\D.ct σ' H'
 |.ret u=>∃v σ' H',Inv X J3 σ' H' s'/\RelV v u/\D.rt v H'
def PE(X:Cx)(e:Expr)(t:TE):Prop :=
 ∀(J3:Zd) (s:Shared) (σ:St) (H:Hp) (Q:VK),Inv X J3 σ H s->t σ H Q->wpAny (model X.prog X.w) X.A (eval e X.env) (EP X J3 σ Q) X.xe s
def PT(X:Cx)(e:Expr)(t:TT):Prop :=
 ∀(J3:Zd) (s:Shared) (σ:St) (H:Hp) (Q:Bool->Hp->Prop),Inv X J3 σ H s->t σ H Q->wpAny (model X.prog X.w) X.A (isTrue e X.env (eval e X.env)) (TP X J3 σ Q) X.xe s
def PW(X:Cx)(e:Expr)(t:TT):Prop :=
 ∀(whole:Sem Value) (J3:Zd) (s:Shared) (σ:St) (H:Hp) (Q:Bool->Hp->Prop),Inv X J3 σ H s->t σ H Q->wpAny (model X.prog X.w) X.A (isTrue e X.env whole) (TP X J3 σ Q) X.xe s
theorem PW.pt{X:Cx}{e:Expr}{t:TT}(h:PW X e t):PT X e t:=h _
def PA(X:Cx)(es:List Expr)(t:TA):Prop :=
 ∀(pos:Pos) (J3:Zd) (s:Shared) (σ:St) (H:Hp) (Q:List V->Hp->Prop),Inv X J3 σ H s->t σ H Q->wpAny (model X.prog X.w) X.A (spliced (backTo pos (aN es X.env))) (AP X J3 σ Q) X.xe s
def PS(X:Cx)(st:Stmt)(t:TS):Prop :=
 ∀(J3:Zd) (s:Shared) (σ:St) (H:Hp) (D:mI),Inv X J3 σ H s->t D σ H->wpAny (model X.prog X.w) X.A (exec st X.env) (SP X J3 D) X.xe s
def A_(X:Cx)(st:List Stmt)(t:TS):Prop :=
 ∀(J3:Zd) (s:Shared) (σ:St) (H:Hp) (D:mI),Inv X J3 σ H s->t D σ H->wpAny (model X.prog X.w) X.A (execs st X.env) (SP X J3 D) X.xe s
theorem cI{α:Type}{t:Sem α}{Q Q':α->Shared->Prop}{M:Model}{A:Around}{E:Zc}{s:Shared}(h:wpAny M A t Q E s)(hQ:∀a s,Q a s->Q' a s):wpAny M A t Q' E s:=pd h hQ fun _ _ x=>x
end L2
namespace L2
open PySem PySem.Spec PyProof.Rows
section
variable{X:Cx}
def oo(i:Nat):TE:=fun σ H Q=>∃v,σ[i]?=some (some v)/\Q v H
abbrev V0:TE:=oo 0
abbrev V1:TE:=oo 1
abbrev V2:TE:=oo 2
abbrev V3:TE:=oo 3
abbrev V4:TE:=oo 4
abbrev V5:TE:=oo 5
abbrev V6:TE:=oo 6
abbrev V7:TE:=oo 7
abbrev V8:TE:=oo 8
abbrev V9:TE:=oo 9
abbrev Iv:TE:=oo 10
abbrev V11:TE:=oo 11
abbrev V12:TE:=oo 12
def tC(v:V):TE:=fun _ H Q=>Q v H
theorem Jl{i:Nat}{x:Str}{pos:Pos}(hN:X.N[i]?=some x)(hv:Kr X.env.scope x)(hd:(x==("__debug__":Str))=false:=by decide)(hcd:(x==("__classdict__":Str))=false:=by decide):PE X (.Name x pos) (oo i):=by
 intro J3 s σ H Q I h;obtain⟨v,e,h⟩:=h;obtain⟨m,hn,hl⟩:=I.loc;obtain⟨u,r,l⟩:=hl i x v hN e hv;have fin:EP X J3 σ Q u s:=⟨v,H,I,r,h⟩;rcases l with⟨hk,hm⟩|⟨hk,c,hc,hcell⟩
 ·exact wpAny_Name (wpAny_loadName_local I.ok.kind hk hn hm fin) hd
 ·rcases hk with hk|hk
  ·exact wpAny_Name (wpAny_loadName_cell I.ok.kind hk hc hcell fin) hd
  ·exact wpAny_Name (wpAny_loadName_free I.ok.kind hk hc hcell fin hcd) hd
theorem ah{i j pos}:PE X (.Constant (.int i) j pos) (tC (.int i)):=fun _ _ _ H _ I h=>wpAny_Constant_int ⟨.int i,H,I.tok _,⟨_,rfl⟩,h⟩
theorem dF{b j pos}:PE X (.Constant (.bool b) j pos) (tC (.bl b)):=fun _ _ _ H _ I h=>Constant_bool ⟨.bl b,H,I,rfl,h⟩
theorem uA{j pos}:PE X (.Constant .none j pos) (tC .non):=fun _ _ _ H _ I h=>Constant_none ⟨.non,H,I,rfl,h⟩
theorem bM{x j pos}:PE X (.Constant (.str x) j pos) (tC (.str x)):=fun _ _ _ H _ I h=>Calls.Constant_str ⟨.str x,H,I.tok _,⟨_,rfl⟩,h⟩
def Gl(X:Cx)(x:Str):Prop:=X.env.kindOf x=some .globalImplicit
theorem yu{E:Zc}{J3:Zd}{s:Shared}{σ:St}{H:Hp}{x:Str}{u:Value}{pos:Pos}{Q:Zc}(I:Inv X J3 σ H s)(hg:Gl X x)(hm:X.mg x=some u)(h:Q u s)
  (hd:(x==("__debug__":Str))=false:=by decide):wpAny (model X.prog X.w) X.A (eval (.Name x pos) X.env) Q E s :=
 Calls.Name_function_global I.ok.kind hg (Calls.loadGlobal_global (by rw[I.ok.glob];exact I.mod.glob.keeps I.bk) hm h) hd
theorem q_{E:Zc}{J3:Zd}{s:Shared}{σ:St}{H:Hp}{x:Str}{u:Value}{pos:Pos}{Q:Zc}(I:Inv X J3 σ H s)(hg:Gl X x)(hm:X.mg x=none)(hv:ji x=some u)(h:Q u s)
  (hn:x≠"__name__":=by decide) (hd:(x==("__debug__":Str))=false:=by decide):wpAny (model X.prog X.w) X.A (eval (.Name x pos) X.env) Q E s:=by
 obtain⟨mb,h1,h2⟩:=I.mod.blt;exact Calls.Name_function_global I.ok.kind hg (Calls.loadGlobal_builtin (by rw[I.ok.glob];exact I.mod.glob.keeps I.bk) hm (by rw[I.ok.blt];exact h1.keeps I.bk) ((h2 x hn).trans hv) h) hd
theorem HR{x:Str}{v:V}{u:Value}{pos:Pos}(hg:Gl X x)(hm:X.mg x=some u)(r:RelV v u)(hd:(x==("__debug__":Str))=false:=by decide):PE X (.Name x pos) (tC v) :=
 fun _ _ _ H _ I h=>yu I hg hm ⟨v,H,I,r,h⟩ hd
theorem pQ{x:Str}{v:V}{u:Value}{pos:Pos}(hg:Gl X x)(hm:X.mg x=none)(hv:ji x=some u)(r:RelV v u)(hn:x≠"__name__":=by decide)(hd:(x==("__debug__":Str))=false:=by decide):PE X (.Name x pos) (tC v) :=
 fun _ _ _ H _ I h=>q_ I hg hm hv ⟨v,H,I,r,h⟩ hn hd
variable{a b:Expr}{ta tb:TE}{pos:Pos}
def PC(X:Cx)(op:CmpOp)(a b:Expr)(t:TE):Prop :=
 ∀(J3:Zd) (s:Shared) (σ:St) (H:Hp) (Q:VK),Inv X J3 σ H s->t σ H Q ->
  wpAny (model X.prog X.w) X.A (eval a X.env) (fun v s₁=>wpAny (model X.prog X.w) X.A (eval b X.env) (fun u s₂=>wpAny (model X.prog X.w) X.A (e_ op v u) (EP X J3 σ Q) X.xe s₂) X.xe s₁) X.xe s
theorem Aq(b:Expr){op:CmpOp}(h:op≠.In)(h2:op≠.NotIn):lp op b=false:=by
 have e1:(op==CmpOp.In)=false:=by cases op<;>first|rfl|exact absurd rfl h
 have e2:(op==CmpOp.NotIn)=false:=by cases op<;>first|rfl|exact absurd rfl h2
 cases b<;>simp[lp,e1,e2]
def Hj(ta:TE):TE:=fun σ H Q=>ta σ H fun x H1=>Q (.bl (decide (x=.non))) H1
def Fu(ta:TE):TE:=fun σ H Q=>ta σ H fun x H1=>Q (.bl (!decide (x=.non))) H1
theorem RelV.none_iff{x:V}{v:Value}(r:RelV x v):(v==Value.none)=decide (x=.non):=by
 cases x with
 |non=>cases r;rfl
 |bl _=>cases r;rfl
 |int _=>obtain⟨t,rfl⟩:=r;rfl
 |str _=>obtain⟨t,rfl⟩:=r;rfl
 |byt _=>obtain⟨t,rfl⟩:=r;rfl
 |flt _=>obtain⟨t,rfl⟩:=r;rfl
 |ref _=>cases r;rfl
 |ty _=>cases r;rfl
theorem BO{j pos'}(ha:PE X a ta):PC X .Is a (.Constant .none j pos') (Hj ta):=by
 intro J3 s σ H Q I h;refine cI (ha J3 s σ H _ I h) fun v s1 ⟨x,H1,I1,r1,q1⟩=>?_;exact Constant_none (is_none_gen ⟨.bl _,H1,I1,by rw[r1.none_iff];rfl,q1⟩)
theorem Dh{j pos'}(ha:PE X a ta):PC X .IsNot a (.Constant .none j pos') (Fu ta):=by
 intro J3 s σ H Q I h;refine cI (ha J3 s σ H _ I h) fun v s1 ⟨x,H1,I1,r1,q1⟩=>?_;exact Constant_none (isnot_none_gen ⟨.bl _,H1,I1,by rw[r1.none_iff];rfl,q1⟩)
def tB(t:TE):TT:=fun σ H Q=>t σ H fun x H1=>∃c,x=.bl c/\Q c H1
theorem uB{op:CmpOp}{t:TE}(h:PC X op a b t)(h1:lp op b=false:=by first|exact Aq _ (by decide) (by decide)|rfl):PE X (.Compare a [op] [b] pos) t:=fun J3 s σ H Q I hw=>wpAny_Compare1 (h J3 s σ H Q I hw) h1
theorem de{op:CmpOp}{t:TE}(h:PC X op a b t)(h1:lp op b=false:=by first|exact Aq _ (by decide) (by decide)|rfl):PT X (.Compare a [op] [b] pos) (tB t):=by
 intro J3 s σ H Q I hw;refine wpAny_isTrue_Compare1 (cI (h J3 s σ H _ I hw) fun v s1 h1=>cI h1 fun u s2 h2=>cI h2 fun c s3 ⟨x,H1,I1,r1,q1⟩=>?_) h1;obtain⟨d,rfl,q⟩:=q1;cases r1;exact rP ⟨H1,I1,q⟩
theorem fy{e:Expr}{t:TE}(h:PE X e t)(he:∀whole,isTrue e X.env whole=(do let v <- whole;rM e.pos;lJ [v] (truthy v)):=by intro _;rfl):PT X e (tB t):=by
 intro J3 s σ H Q I hw;refine isTrue_plain (cI (h J3 s σ H _ I hw) fun v s1 ⟨x,H1,I1,r1,q1⟩=>?_) (he _);obtain⟨d,rfl,q⟩:=q1;cases r1;exact rP ⟨H1,I1,q⟩
variable{tA tB':TT}{rest:List Expr}
def lC(t u:TT):TT:=fun σ H Q=>t σ H fun c H1=>if c=true then u σ H1 Q else Q false H1
def Ea(t u:TT):TT:=fun σ H Q=>t σ H fun c H1=>if c=true then Q true H1 else u σ H1 Q
def tZ(t:TT):TT:=fun σ H Q=>t σ H fun c H1=>Q (!c) H1
theorem gp(ha:PT X a tA):PW X (.BoolOp .And [a] pos) tA:=by
 intro wh J3 s σ H Q I h;refine isTrue_and (cI (ha J3 s σ H Q I h) fun c s1 e=>?_);cases c with
 |true=>exact isTrue_and_nil e
 |false=>exact e
theorem kO(ha:PT X a tA):PW X (.BoolOp .Or [a] pos) tA:=by
 intro wh J3 s σ H Q I h;refine isTrue_or (cI (ha J3 s σ H Q I h) fun c s1 e=>?_);cases c with
 |false=>exact isTrue_or_nil e
 |true=>exact e
theorem gu(ha:PT X a tA)(hb:PW X (.BoolOp .And (b::rest) pos) tB'):PW X (.BoolOp .And (a::b::rest) pos) (lC tA tB'):=by
 intro wh J3 s σ H Q I h;refine isTrue_and (cI (ha J3 s σ H _ I h) fun c s1 ⟨H1,I1,q1⟩=>?_);cases c with
 |true=>exact hb wh J3 s1 σ H1 Q I1 q1
 |false=>exact⟨H1,I1,q1⟩
theorem mf(ha:PT X a tA)(hb:PW X (.BoolOp .Or (b::rest) pos) tB'):PW X (.BoolOp .Or (a::b::rest) pos) (Ea tA tB'):=by
 intro wh J3 s σ H Q I h;refine isTrue_or (cI (ha J3 s σ H _ I h) fun c s1 ⟨H1,I1,q1⟩=>?_);cases c with
 |true=>exact⟨H1,I1,q1⟩
 |false=>exact hb wh J3 s1 σ H1 Q I1 q1
theorem mi(ha:PT X a tA):PT X (.UnaryOp .Not a pos) (tZ tA):=by
 intro J3 s σ H Q I h;exact isTrue_not (ha J3 s σ H (fun c H1=>Q (!c) H1) I h)
def rR(ta tb:TE):TE:=fun σ H Q=>ta σ H fun x H1=>∃c,x=.bl c/\if c=true then tb σ H1 Q else Q (.bl false) H1
def IG(ta:TE):TE:=fun σ H Q=>ta σ H fun x H1=>∃c,x=.bl c/\Q (.bl (!c)) H1
theorem uz{op}{t:TE}(h:PE X a t):PE X (.BoolOp op [a] pos) t:=fun J3 s σ H Q I hw=>BoolOp_one (h J3 s σ H Q I hw)
theorem oB(ha:PE X a ta)(hb:PE X (.BoolOp .And (b::rest) pos) tb):PE X (.BoolOp .And (a::b::rest) pos) (rR ta tb):=by
 intro J3 s σ H Q I h;refine BoolOp_and (cI (ha J3 s σ H _ I h) fun v s1 ⟨x,H1,I1,r1,q1⟩=>?_);obtain⟨c,rfl,q1⟩:=q1;cases r1;refine rP ?_;cases c with
 |true=>exact hb J3 s1 σ H1 Q I1 q1
 |false=>exact⟨.bl false,H1,I1,rfl,q1⟩
theorem Jm(ha:PE X a ta):PE X (.UnaryOp .Not a pos) (IG ta):=by
 intro J3 s σ H Q I h;refine UnaryOp_ (cI (ha J3 s σ H _ I h) fun v s1 ⟨x,H1,I1,r1,q1⟩=>?_);obtain⟨c,rfl,q1⟩:=q1;cases r1;exact not_of (rP ⟨.bl (!c),H1,I1,rfl,q1⟩)
end
end L2
namespace L2
open PySem PySem.Spec PyProof.Rows
def az(K:Za)(H:Hp)(a:Addr)(xs:List V):Prop :=
 Rd H a (.lst xs) ∨
  ∃(o:Obj) (its:Array Value) (n:Nat),K.lookup a=some o/\o.cls=.type "list"/\o.dict=none/\o.data=.seq its n/\its.size<=ai/\bf xs its.toList
def br(K:Za)(H:Hp)(a:Addr)(xs:List V):Prop :=
 Rd H a (.tup xs) ∨
  ∃(o:Obj) (its:Array Value) (n:Nat),K.lookup a=some o/\o.cls=.type "tuple"/\o.data=.seq its n/\its.size<=ai/\bf xs its.toList
def absV:Value->Option V
 |.none=>some .non
 |.bool b=>some (.bl b)
 |.int i _=>some (.int i)
 |.str x _=>some (.str x)
 |.bytes b _=>some (.byt b)
 |.float b _=>some (.flt b)
 |.ref a=>some (.ref a)
 |.type n=>some (.ty n)
 |_=>none
theorem RelV.abs{x:V}{u:Value}(r:RelV x u):absV u=some x:=by
 cases x with
 |non=>cases r;rfl
 |bl _=>cases r;rfl
 |int _=>obtain⟨t,rfl⟩:=r;rfl
 |str _=>obtain⟨t,rfl⟩:=r;rfl
 |byt _=>obtain⟨t,rfl⟩:=r;rfl
 |flt _=>obtain⟨t,rfl⟩:=r;rfl
 |ref _=>cases r;rfl
 |ty _=>cases r;rfl
theorem RelV.inj{x y:V}{u:Value}(r:RelV x u)(q:RelV y u):x=y:=fe (r.abs.symm.trans q.abs)
theorem bf.inj:∀{xs ys:List V}{us:Zf},bf xs us->bf ys us->xs=ys
 |_,_,_,.nil,.nil=>rfl
 |_,_,_,.cons r t,.cons r' t'=>by rw[r.inj r',bf.inj t t']
section
variable{X:Cx}{J3:Zd}{σ:St}{H:Hp}{s:Shared}{a:Addr}{xs ys:List V}
theorem az.of{K:Za}(h:H a=some (.lst xs)):az K H a xs:=.inl (.inl h)
theorem br.of{K:Za}(h:H a=some (.tup xs)):br K H a xs:=.inl (.inl h)
theorem Inv.list(I:Inv X J3 σ H s)(h:az X.K H a xs):∃its:List Value,bf xs its/\PlainL s.heap a its.toArray/\xs.length<=ai:=by
 rcases h with h|⟨o,its,n,hk,hc,hd,hs,hz,r⟩
 ·obtain⟨z,its,n,r,e⟩:=h.ok I.hok;exact⟨its,r,⟨_,n,e,rfl,rfl,rfl⟩,z⟩
 ·refine⟨its.toList,r,⟨o,n,I.kIn a o hk,hc,hd,by simpa using hs⟩,?_⟩;have e:=r.length;simp only[ln]at e;omega
theorem Inv.tuple(I:Inv X J3 σ H s)(h:br X.K H a xs):∃its:List Value,bf xs its/\IsTup s.heap a its.toArray/\xs.length<=ai:=by
 rcases h with h|⟨o,its,n,hk,hc,hs,hz,r⟩
 ·obtain⟨z,its,r,p⟩:=h.ok I.hok;exact⟨its,r,p,z⟩
 ·refine⟨its.toList,r,⟨o,I.kIn a o hk,hc,n,by simpa using hs⟩,?_⟩;have e:=r.length;simp only[ln]at e;omega
theorem Inv.list_inj(I:Inv X J3 σ H s)(h:az X.K H a xs)(h':az X.K H a ys):xs=ys:=by
 obtain⟨its,r,⟨o,n,e,_,_,d⟩,_⟩:=I.list h;obtain⟨its',r',⟨o',n',e',_,_,d'⟩,_⟩:=I.list h';rw[e]at e';cases e';rw[d]at d';injection d' with d1 _;have:its=its':=by simpa using congrArg Array.toList d1
 subst this;exact r.inj r'
theorem Inv.tuple_inj(I:Inv X J3 σ H s)(h:br X.K H a xs)(h':br X.K H a ys):xs=ys:=by
 obtain⟨its,r,⟨o,e,_,n,d⟩,_⟩:=I.tuple h;obtain⟨its',r',⟨o',e',_,n',d'⟩,_⟩:=I.tuple h';rw[e]at e';cases e';rw[d]at d';injection d' with d1 _;have:its=its':=by simpa using congrArg Array.toList d1
 subst this;exact r.inj r'
end
abbrev Cx.wish(X:Cx)(E:Zc):Cx:={ X with xe:=E }
abbrev Cx.nox(X:Cx):Cx:=X.wish fun _ _=>False
theorem Cx.Ok.wish{X:Cx}(ok:X.Ok)(E:Zc):(X.wish E).Ok :=
 ⟨ok.mod,ok.kind,ok.glob,ok.blt,ok.above,ok.inj,ok.has,ok.cab,ok.hd,ok.frames,ok.stk,ok.exf,ok.bs,ok.bsz,ok.noex,ok.exfs,ok.funs,ok.frf⟩
theorem Cx.Ok.unwish{X:Cx}{E:Zc}(ok:(X.wish E).Ok):X.Ok :=
 ⟨ok.mod,ok.kind,ok.glob,ok.blt,ok.above,ok.inj,ok.has,ok.cab,ok.hd,ok.frames,ok.stk,ok.exf,ok.bs,ok.bsz,ok.noex,ok.exfs,ok.funs,ok.frf⟩
section
variable{X:Cx}{J3:Zd}{σ:St}{H:Hp}{s:Shared}{E:Zc}
theorem Inv.wish(I:Inv X J3 σ H s)(E:Zc):Inv (X.wish E) J3 σ H s:=⟨I.ok.wish E,I.os,I.bare,I.base,I.loc,I.cell,I.free,I.freeC,I.pin,I.hok,I.len⟩
theorem Inv.unwish(I:Inv (X.wish E) J3 σ H s):Inv X J3 σ H s:=⟨I.ok.unwish,I.os,I.bare,I.base,I.loc,I.cell,I.free,I.freeC,I.pin,I.hok,I.len⟩
theorem SP.unwish{D:mI}{f:Flow}{s':Shared}(h:SP (X.wish E) J3 D f s'):SP X J3 D f s':=by
 cases f with
 |next=>obtain⟨σ',H',I,q⟩:=h;exact⟨σ',H',I.unwish,q⟩
 |brk=>obtain⟨σ',H',I,q⟩:=h;exact⟨σ',H',I.unwish,q⟩
 |cont=>obtain⟨σ',H',I,q⟩:=h;exact⟨σ',H',I.unwish,q⟩
 |ret u=>obtain⟨v,σ',H',I,r,q⟩:=h;exact⟨v,σ',H',I.unwish,r,q⟩
theorem A_.nox{st:List Stmt}{t:TS}(h:A_ X.nox st t):A_ X st t:=fun J3 s σ H D I hw =>
 pd (h J3 s σ H D (I.wish _) hw) (fun _ _ q=>q.unwish) fun _ _ z=>jV z
end
section
variable{X:Cx}{st:Stmt}{rest:List Stmt}{t u:TS}{e:Expr}{te:TE}{pos:Pos}
def bg:TS:=fun D σ H=>D.nx σ H
def ap(t u:TS):TS:=fun D σ H=>t { D with nx:=u D } σ H
theorem aH:A_ X [] bg:=fun _ _ σ H _ I h=>CW ⟨σ,H,I,h⟩
theorem ac(h1:PS X st t)(h2:A_ X rest u):A_ X (st::rest) (ap t u):=by
 intro J3 s σ H D I h;refine wpAny_execs_cons (cI (h1 J3 s σ H { D with nx:=u D } I h) fun f s1 q=>?_);cases f with
 |next =>
  obtain⟨σ',H',I',q⟩:=q;exact h2 J3 s1 σ' H' D I' q
 |ret v=>exact q
 |brk=>exact q
 |cont=>exact q
theorem af(h1:PS X st t):A_ X [st] t:=by
 intro J3 s σ H D I h;refine wpAny_execs_cons (cI (h1 J3 s σ H D I h) fun f s1 q=>?_);cases f with
 |next=>exact CW q
 |ret v=>exact q
 |brk=>exact q
 |cont=>exact q
theorem Inv.quiet{J3:Zd}{σ:St}{H:Hp}{s:Shared}(I:Inv X J3 σ H s):interactive X.env=false:=by simp[interactive,I.ok.kind]
def bV(te:TE):TS:=fun D σ H=>te σ H fun _ H1=>D.nx σ H1
theorem aX(he:PE X e te)(hs:rL e none pos.line X.env=pure false:=by rfl):PS X (.Expr e pos) (bV te):=by
 intro J3 s σ H D I h;exact wpAny_Expr_any (cI (he J3 s σ H _ I h) fun v s1 ⟨x,H1,I1,r1,q1⟩=>⟨σ,H1,I1,q1⟩) I.quiet hs
def bc(te:TE):TS:=fun D σ H=>te σ H D.rt
theorem av(he:PE X e te):PS X (.Return (some e) pos) (bc te):=by
 intro J3 s σ H D I h;exact wpAny_Return_some (cI (he J3 s σ H _ I h) fun v s1 ⟨x,H1,I1,r1,q1⟩=>⟨x,σ,H1,I1,r1,q1⟩)
def bS(c:TT)(t u:TS):TS:=fun D σ H=>c σ H fun b H1=>if b=true then t D σ H1 else u D σ H1
theorem bo{c:Expr}{a b:List Stmt}{tc:TT}(hc:PT X c tc)(ha:A_ X a t)(hb:A_ X b u):PS X (.If c a b pos) (bS tc t u):=by
 intro J3 s σ H D I h;refine wpAny_If (cI (hc J3 s σ H _ I h) fun d s1 ⟨H1,I1,q1⟩=>?_);cases d with
 |true=>exact ha J3 s1 σ H1 D I1 q1
 |false=>exact hb J3 s1 σ H1 D I1 q1
def t4:TS:=fun _ _ _=>False
theorem pN:PS X st t4:=fun _ _ _ _ _ _ h=>h.elim
end
abbrev TG:=V->St->Hp->(St->Hp->Prop)->Prop
abbrev Iw:=List V->St->Hp->(St->Hp->Prop)->Prop
def PG(X:Cx)(target:Expr)(t:TG):Prop :=
 ∀(J3:Zd) (s:Shared) (σ:St) (H:Hp) (v:V) (u:Value) (Q:St->Hp->Prop),Inv X J3 σ H s->RelV v u->t v σ H Q ->
  wpAny (model X.prog X.w) X.A (assign target X.env u) (fun _ s'=>∃σ' H',Inv X J3 σ' H' s'/\Q σ' H') X.xe s
def Kw(X:Cx)(ts:List Expr)(t:Iw):Prop :=
 ∀(J3:Zd) (s:Shared) (σ:St) (H:Hp) (vs:List V) (us:Zf) (Q:St->Hp->Prop),Inv X J3 σ H s->bf vs us->t vs σ H Q ->
  wpAny (model X.prog X.w) X.A (assignInOrder ((wb ts X.env).map (·.2)) us) (fun _ s'=>∃σ' H',Inv X J3 σ' H' s'/\Q σ' H') X.xe s
abbrev Jy:=V->V->V->Hp->(Hp->Prop)->Prop
def J_(X:Cx)(t:Jy):Prop :=
 ∀(J3:Zd) (s:Shared) (σ:St) (H:Hp) (o i v:V) (ov iv u:Value) (Q:Hp->Prop),Inv X J3 σ H s->RelV o ov->RelV i iv->RelV v u->t o i v H Q ->
  wpAny (model X.prog X.w) X.A (setItem ov iv u) (fun _ s'=>∃H',Inv X J3 σ H' s'/\Q H') X.xe s
abbrev Kt:=V->V->Hp->VK->Prop
def PIp(X:Cx)(op:Operator)(t:Kt):Prop :=
 ∀(J3:Zd) (s:Shared) (σ:St) (H:Hp) (x y:V) (v u:Value) (Q:VK),Inv X J3 σ H s->RelV x v->RelV y u->t x y H Q ->
  wpAny (model X.prog X.w) X.A (inplaceOp op v u) (EP X J3 σ Q) X.xe s
section
variable{X:Cx}{pos:Pos}
def eE(i:Nat):TG:=fun v σ H Q=>Q (σ.set i (some v)) H
abbrev U0:TG:=eE 0
abbrev U1:TG:=eE 1
abbrev U2:TG:=eE 2
abbrev U3:TG:=eE 3
abbrev U4:TG:=eE 4
abbrev U5:TG:=eE 5
abbrev U6:TG:=eE 6
abbrev U7:TG:=eE 7
abbrev U8:TG:=eE 8
abbrev U9:TG:=eE 9
abbrev Ks:TG:=eE 10
abbrev U11:TG:=eE 11
abbrev U12:TG:=eE 12
theorem De{i:Nat}{x:Str}(hN:X.N.Nodup)(hi:X.N[i]?=some x)(hx:Loc X.env.scope x)(hf:X.fn x=true∨X.env.scope.names.lookup x=some .local:=by first|exact .inl rfl|exact .inr rfl|assumption):PG X (.Name x pos) (eE i):=by
 intro J3 s σ H v u Q I r h;exact wpAny_assign_Name (ud I hN hi hx r (fun s' I'=>⟨_,H,I',h⟩) hf)
def gP:Iw:=fun vs σ H Q=>vs=[]/\Q σ H
def aY(t:TG)(u:Iw):Iw:=fun vs σ H Q=>∃v r,vs=v::r/\t v σ H fun σ' H'=>u r σ' H' Q
theorem ck:Kw X [] gP:=by
 intro J3 s σ H vs us Q I r h;obtain⟨e,h⟩:=h;subst e;cases r;exact assignInOrder_nil ⟨σ,H,I,h⟩
theorem aq{e:Expr}{es:List Expr}{t:TG}{u:Iw}(h1:PG X e t)(h2:Kw X es u)
  (hs:(wb (e::es) X.env).map (·.2)=assign e X.env::(wb es X.env).map (·.2):=by rfl):Kw X (e::es) (aY t u):=by
 intro J3 s σ H vs us Q I r h;obtain⟨v,vr,e1,h⟩:=h;subst e1;cases r with
 |cons r rr =>
  rw[hs];refine assignInOrder_cons (cI (h1 J3 s σ H _ _ _ I r h) fun _ s1 ⟨σ1,H1,I1,q1⟩=>?_);exact h2 J3 s1 σ1 H1 _ _ Q I1 rr q1
def g0(K:Za)(n:Nat)(t:Iw):TG:=fun v σ H Q=>∃a xs,v=.ref a/\br K H a xs/\xs.length=n/\t xs σ H Q
theorem cP{es:List Expr}{k:Nat}{t:Iw}{n:Nat}(hc:X.calm=true)(h:Kw X es t)
  (hn:(wb es X.env).length=n:=by rfl) (hst:(wb es X.env).findIdx? (·.1)=none:=by rfl):PG X (.Tuple es k pos) (g0 X.K n t):=by
 intro J3 s σ H v u Q I r hw;obtain⟨a,xs,e1,hq,hl,hw⟩:=hw;subst e1;cases r;obtain⟨its,rv,ht,hz⟩:=I.tuple hq;refine assign_Tuple_tuple (I.ok.hd hc) ht (by simp[hn,<-hl,rv.length]) hst fun h' hx=>?_;have I1:Inv X J3 σ H { s with heap:=h' }:=I.kept (t':=s.toks) fun b o e=>hx b o (cY (ba e)) e;exact h J3 _ σ H xs _ Q I1 (by simpa using rv) hw
def Cc(to ti:TE)(t:Jy):TG:=fun v σ H Q=>to σ H fun o H1=>ti σ H1 fun i H2=>t o i v H2 fun H3=>Q σ H3
theorem ux{o i:Expr}{to ti:TE}{t:Jy}(ho:PE X o to)(hi:PE X i ti)(hs:J_ X t)
  (ha:∀v,assign (.Subscript o i pos) X.env v=(do
   let ov <- lJ [v] (eval o X.env)
   let iv <- lJ [v,ov] (eval i X.env)
   rM pos
   lJ [v,ov,iv] (setItem ov iv v)
   release [v,ov,iv] []):=by intro _;rfl):PG X (.Subscript o i pos) (Cc to ti t):=by
 intro J3 s σ H v u Q I r h;rw[ha];refine ak (lq (cI (ho J3 s σ H _ I h) fun ov s1 ⟨x,H1,I1,r1,q1⟩=>?_));refine ak (lq (cI (hi J3 s1 σ H1 _ I1 q1) fun iv s2 ⟨y,H2,I2,r2,q2⟩=>?_));refine ak (CV (ak (lq (cI (hs J3 s2 σ H2 x y v ov iv u _ I2 r1 r2 r q2) fun _ s3 ⟨H3,I3,q3⟩=>?_))));exact wpAny_release ⟨σ,H3,I3,q3⟩
def aP(te:TE)(g:TG):TS:=fun D σ H=>te σ H fun x H1=>g x σ H1 D.nx
theorem iZ{tg e:Expr}{te:TE}{g:TG}(he:PE X e te)(hg:PG X tg g)(hs:swapsWithSole [tg] e pos.line X.env=pure false:=by rfl)(hw:swappedStores [tg] e X.env=pure none:=by rfl)
  (h1:(wb [tg] X.env).map (·.2)=[assign tg X.env]:=by rfl):PS X (.Assign [tg] e pos) (aP te g):=by
 intro J3 s σ H D I h;refine wpAny_Assign_stores (cI (he J3 s σ H _ I h) fun v s1 ⟨x,H1,I1,r1,q1⟩=>?_) hs hw;rw[h1];exact cI (hg J3 s1 σ H1 x v _ I1 r1 q1) fun _ s2 q=>q
theorem Jh{i:Nat}{x:Str}{e:Expr}{te:TE}{pos':Pos}(hN:X.N.Nodup)(hi:X.N[i]?=some x)(hx:Loc X.env.scope x)(he:PE X e te)(hs:rL e (some (.Name x pos')) pos.line X.env=pure false:=by rfl)(hf:X.fn x=true∨X.env.scope.names.lookup x=some .local:=by first|exact .inl rfl|exact .inr rfl|assumption):
  PS X (.Assign [.Name x pos'] e pos) (aP te (eE i)):=by
 intro J3 s σ H D I h;refine wpAny_Assign_Name (cI (he J3 s σ H _ I h) fun v s1 ⟨y,H1,I1,r1,q1⟩=>?_) hs;exact ud I1 hN hi hx r1 (fun s2 I2=>⟨_,H1,I2,q1⟩) hf
def JM(i:Nat)(te:TE)(ti:Kt):TS:=fun D σ H=>∃x,σ[i]?=some (some x)/\te σ H fun y H1=>ti x y H1 fun z H2=>D.nx (σ.set i (some z)) H2
theorem Ji{i:Nat}{x:Str}{e:Expr}{te:TE}{op:Operator}{ti:Kt}{pos':Pos}(hN:X.N.Nodup)(hi:X.N[i]?=some x)(hx:Loc X.env.scope x)(he:PE X e te)(ho:PIp X op ti)(hf:X.fn x=true∨X.env.scope.names.lookup x=some .local:=by first|exact .inl rfl|exact .inr rfl|assumption):
  PS X (.AugAssign (.Name x pos') op e pos) (JM i te ti):=by
 intro J3 s σ H D I h;obtain⟨v,e1,h⟩:=h;obtain⟨m,hn,hl⟩:=I.loc;have vis:Kr X.env.scope x:=by rcases hx with k|k;exact .inl k;exact .inr (.inl k)
 obtain⟨u,r,l⟩:=hl i x v hi e1 vis;refine wpAny_AugAssign_Name ?_;have go:wpAny (model X.prog X.w) X.A (eval e X.env) (fun w s₂=>wpAny (model X.prog X.w) X.A (inplaceOp op u w) (fun r s₃=>wpAny (model X.prog X.w) X.A (storeName X.env x r) (fun _=>SP X J3 D .next) X.xe s₃) X.xe s₂) X.xe s:=by
  refine cI (he J3 s σ H _ I h) fun w s1 ⟨y,H1,I1,r1,q1⟩=>?_;refine cI (ho J3 s1 σ H1 v y u w _ I1 r r1 q1) fun z s2 ⟨zv,H2,I2,r2,q2⟩=>?_;exact ud I2 hN hi hx r2 (fun s3 I3=>⟨_,H2,I3,q2⟩) hf
 rcases l with⟨hk,hm⟩|⟨hk,c,hc,hcell⟩
 ·exact wpAny_loadName_local I.ok.kind hk hn hm go
 ·rcases hk with hk|hk
  ·exact wpAny_loadName_cell I.ok.kind hk hc hcell go
  ·rcases hx with k|k
   ·have:X.env.scope.names.lookup x=some .free:=hk;rw[k]at this;cases this
   ·have:X.env.scope.names.lookup x=some .free:=hk;rw[k]at this;cases this
def ipI(f:Int->Int->Int):Kt:=fun x y H Q=>∃i j,x=.int i/\y=.int j/\Q (.int (f i j)) H
theorem Js:PIp X .Add (ipI fun i j=>i+j):=by
 intro J3 s σ H x y v u Q I r1 r2 h;obtain⟨i,j,e1,e2,q⟩:=h;subst e1;subst e2;obtain⟨t,rfl⟩:=r1;obtain⟨t',rfl⟩:=r2;exact iadd_int ⟨.int _,H,I.tok _,⟨_,rfl⟩,q⟩
end
section
variable{X:Cx}{pos:Pos}
def om(c:TT)(tb:TS):TS:=fun D σ H=>∃W:Nat->St->Hp->Prop,(∃m,W m σ H)/\∀m σ H,W m σ H ->
 c σ H fun b H1=>if b=true then ∃N:St->Hp->Prop,(∀σ' H',N σ' H'->∃m',m'<m/\W m' σ' H')/\tb { D with nx:=N,ct:=N,bk:=D.nx } σ H1 else D.nx σ H1
theorem j6{c:Expr}{body:List Stmt}{tc:TT}{tb:TS}(hp:PassesOwn (model X.prog X.w) X.A X.env X.xe)(hc:PT X c tc)(hb:A_ X body tb):PS X (.While c body [] pos) (om tc tb):=by
 intro J3 s σ H D I h;obtain⟨W,⟨m0,w0⟩,turn⟩:=h;refine wpAny_While (codeAny_whileLoop (fun n s'=>∃σ' H',Inv X J3 σ' H' s'/\W n σ' H') ?_ m0 ⟨σ,H,I,w0⟩);rintro n s1 ⟨σ1,H1,I1,w1⟩;refine sU hp (cI (hc J3 s1 σ1 H1 _ I1 (turn n σ1 H1 w1)) fun b s2 ⟨H2,I2,q2⟩=>?_);cases b with
 |true =>
  obtain⟨N,hN,q2⟩:=q2;rw[if_pos rfl];refine sU hp (cI (hb J3 s2 σ1 H2 _ I2 q2) fun f s3 q3=>?_);cases f with
  |next =>
   obtain⟨σ3,H3,I3,n3⟩:=q3;obtain⟨m',hm,w3⟩:=hN σ3 H3 n3;exact⟨m',hm,σ3,H3,I3,w3⟩
  |cont =>
   obtain⟨σ3,H3,I3,n3⟩:=q3;obtain⟨m',hm,w3⟩:=hN σ3 H3 n3;exact⟨m',hm,σ3,H3,I3,w3⟩
  |brk=>exact q3
  |ret v=>exact q3
 |false =>
  rw[if_neg fO];exact CW ⟨σ1,H2,I2,q2⟩
end
structure It where
 go:Nat->Hp->Prop
 yld:Nat->Hp->V->Hp->Prop
 stop:Nat->Hp->Prop
def oW(X:Cx)(J3:Zd)(H:Hp)(b:Addr):Prop :=
 H b=none/\b≠X.env.locals/\b∉X.fs/\(b∈X.ex∨X.s₀.heap.objs.size<=b)/\(∀x c,X.env.cells.lookup x=some c->c≠b)/\∀p∈X.pn++J3,p.1≠b
theorem Inv.fpOk{X:Cx}{J3:Zd}{σ:St}{H H':Hp}{s:Shared}{b:Addr}(I:Inv X J3 σ H s)(hb:s.heap.objs.size<=b)(hn:H' b=none):oW X J3 H' b:=by
 refine⟨hn,gQ (iQ I.lt hb),I.nofs hb,.inr (bC I.sz hb),fun x c e z=>?_,fun p hp z=>?_⟩
 ·obtain⟨v,q⟩:=I.cell x c e;exact absurd (iQ q.lt (by rw[z];exact hb)) (rN _)
 ·exact absurd (iQ (ba (I.pin p hp).1) (by rw[z];exact hb)) (rN _)
structure sD(P:cg)(w:World)(K:Za)(tg:Expr)(J:It)(fp:Ze)(it:Addr)(tn:Nat->Heap->Prop):Prop where
 mem:it∈fp
 obj:∀i h,tn i h->∀b∈fp,∃o,h.get? b=some o/\∀v,o.data≠.cell v
 keep:∀i h h',tn i h->(∀b∈fp,∀o,h.get? b=some o->h'.get? b=some o)->tn i h'
 item:∀(X:Cx),X.prog=P->X.w=w->X.K=K->X.calm=true->∀(i:Nat) (J3:Zd) (s:Shared) (σ:St) (H:Hp) (E:Zc),Inv X J3 σ H s->(∀b∈fp,oW X J3 H b)->tn i s.heap->J.go i H ->
  wpAny (model P w) X.A (pyNext (.ref it)) (fun r s1=>∃u,r=some u /\
   wpAny (model P w) X.A (CU tg (.ref it) u) (fun _ s2=>∃x H',Inv X J3 σ H' s2/\RelV x u/\J.yld i H x H'/\tn (i+1) s2.heap/\∀b∈fp,H' b=none) E s1) E s
 done:∀(X:Cx),X.prog=P->X.w=w->X.K=K->X.calm=true->∀(i:Nat) (J3:Zd) (s:Shared) (σ:St) (H:Hp) (E:Zc),Inv X J3 σ H s->(∀b∈fp,oW X J3 H b)->tn i s.heap->J.stop i H ->
  wpAny (model P w) X.A (pyNext (.ref it)) (fun r s1=>r=none/\Inv X J3 σ H s1) E s
 self:∀(A:Around) (i:Nat) (s:Shared) (Q:Zc) (E:Zc),tn i s.heap->Q (.ref it) s->wpAny (model P w) A (pyIter (.ref it)) Q E s
abbrev TI:=St->Hp->(It->Hp->Prop)->Prop
def Kv(X:Cx)(J3:Zd)(σ:St)(tg:Expr)(R:It->Hp->Prop)(itv:Value)(s2:Shared):Prop :=
 ∃(it:Addr) (fp:Ze) (tn:Nat->Heap->Prop) (J:It) (H':Hp),itv=.ref it/\Inv X J3 σ H' s2/\sD X.prog X.w X.K tg J fp it tn/\tn 0 s2.heap/\(∀b∈fp,oW X J3 H' b)/\R J H'
def PI(X:Cx)(tg iter:Expr)(wi:TI):Prop :=
 ∀(J3:Zd) (s:Shared) (σ:St) (H:Hp) (R:It->Hp->Prop),Inv X J3 σ H s->wi σ H R ->
  wpAny (model X.prog X.w) X.A (eval iter X.env) (fun v s1=>wpAny (model X.prog X.w) X.A (pyIter v) (Kv X J3 σ tg R) X.xe s1) X.xe s
theorem wK{M:Model}{A:Around}{E:Zc}{s:Shared}{tg:Expr}{it:Addr}{u:Value}{o:Obj}{n:String}{vs:Array Value}{Q:Unit->Shared->Prop}(ho:s.heap.get? it=some o)(hc:o.cls=.type n)(hd:o.data=.fields vs)
    (hn:["enumerate","zip","dict_itemiterator","dict_reverseitemiterator","odict_iterator","itertools.zip_longest","itertools.pairwise"].contains n=false) (hQ:Q () s):wpAny M A (CU tg (.ref it) u) Q E s:=by
  unfold CU;cases tg<;>first
    |exact aD hQ
    | (cases u <;> first
        |exact aD hQ
        | (refine ak (wpAny_load ho ?_)
           rw[hc,hd];show wpAny M A (if(["enumerate","zip","dict_itemiterator","dict_reverseitemiterator","odict_iterator","itertools.zip_longest","itertools.pairwise"].contains n && vs[0]?==some (rawInt _))=true then _ else _) Q E s
           rw[if_neg (by intro h;rw[hn,CT]at h;cases h)];exact aD hQ))
def G7(K:Za)(a:Addr):It :=
 ⟨fun i H=>∃xs x,az K H a xs/\xs[i]?=some x,fun i H x H'=>H'=H/\∀xs,az K H a xs->xs[i]?=some x,fun i H=>∃xs,az K H a xs/\xs.length<=i⟩
def JC(K:Za)(a:Addr):It :=
 ⟨fun i H=>∃xs x,br K H a xs/\xs[i]?=some x,fun i H x H'=>H'=H/\∀xs,br K H a xs->xs[i]?=some x,fun i H=>∃xs,br K H a xs/\xs.length<=i⟩
def JD(lo:Int)(n:Nat):It:=⟨fun i _=>i<n,fun i H x H'=>H'=H/\x=.int (lo+i),fun i _=>n<=i⟩
theorem wf{P:cg}{w:World}{K:Za}{tg:Expr}(a it:Addr):sD P w K tg (G7 K a) [it] it (fun i h=>h.IsListIter it a i) where
 mem:=by simp
 obj:=fun i h st b hb=>by
  have e:b=it:=by simpa using hb
  subst e;obtain⟨o,e,c,d⟩:=st;exact⟨o,e,fun v z=>by rw[d]at z;cases z⟩
 keep:=fun i h h' st k=>st.at fun o e=>k it (by simp) o e
 item:=by
  intro X hP hw hK hc i J3 s σ H E I hf st hg;subst hP hw hK;obtain⟨xs,x,hq,hx⟩:=hg;obtain⟨its,rv,p,hz⟩:=I.list hq;obtain⟨u,hu,ru⟩:=rv.get hx;obtain⟨f0,f1,f2,f3,f4,f5⟩:=hf it (by simp);refine wpAny_pyNext_list_item st p.isList (x:=u) (by simpa using hu) fun h' st' sb=>?_;have I1:Inv X J3 σ H { s with heap:=h' }:=I.turned (t':=s.toks) (fun b o hb e=>(sb.2 b hb).trans e) f0 f1 f3 f4 f5;obtain⟨o,e,c,d⟩:=id st';exact⟨u,rfl,wK (s:={ s with heap:=h' }) e c d (by decide) ⟨x,H,I1,ru,⟨rfl,fun ys hy=>by rw[I.list_inj hy hq];exact hx⟩,st',fun b hb=>(hf b hb).1⟩⟩
 done:=by
  intro X hP hw hK hc i J3 s σ H E I hf st hg;subst hP hw hK;obtain⟨xs,hq,hx⟩:=hg;obtain⟨its,rv,p,hz⟩:=I.list hq;obtain⟨f0,f1,f2,f3,f4,f5⟩:=hf it (by simp);have hl:=rv.length;exact wpAny_pyNext_list_end (I.ok.hd hc) st p.isList (by simp;omega) fun h' eb=>⟨rfl,I.turned (t':=s.toks) (fun b o hb e=>eb b o hb e) f0 f1 f3 f4 f5⟩
 self:=fun _ _ _ _ _ st h=>wpAny_pyIter_listiter st h
theorem tP{P:cg}{w:World}{K:Za}{tg:Expr}(a it:Addr):sD P w K tg (JC K a) [it] it (fun i h=>h.IsTupleIter it a i) where
 mem:=by simp
 obj:=fun i h st b hb=>by
  have e:b=it:=by simpa using hb
  subst e;obtain⟨o,e,c,d⟩:=st;exact⟨o,e,fun v z=>by rw[d]at z;cases z⟩
 keep:=fun i h h' st k=>st.at fun o e=>k it (by simp) o e
 item:=by
  intro X hP hw hK hc i J3 s σ H E I hf st hg;subst hP hw hK;obtain⟨xs,x,hq,hx⟩:=hg;obtain⟨its,rv,p,hz⟩:=I.tuple hq;obtain⟨u,hu,ru⟩:=rv.get hx;obtain⟨f0,f1,f2,f3,f4,f5⟩:=hf it (by simp);refine wpAny_pyNext_tuple_item st (show s.heap.IsTuple a its.toArray from p) (x:=u) (by simpa using hu) fun h' st' sb=>?_;have I1:Inv X J3 σ H { s with heap:=h' }:=I.turned (t':=s.toks) (fun b o hb e=>(sb.2 b hb).trans e) f0 f1 f3 f4 f5;obtain⟨o,e,c,d⟩:=id st';exact⟨u,rfl,wK (s:={ s with heap:=h' }) e c d (by decide) ⟨x,H,I1,ru,⟨rfl,fun ys hy=>by rw[I.tuple_inj hy hq];exact hx⟩,st',fun b hb=>(hf b hb).1⟩⟩
 done:=by
  intro X hP hw hK hc i J3 s σ H E I hf st hg;subst hP hw hK;obtain⟨xs,hq,hx⟩:=hg;obtain⟨its,rv,p,hz⟩:=I.tuple hq;obtain⟨f0,f1,f2,f3,f4,f5⟩:=hf it (by simp);have hl:=rv.length;exact wpAny_pyNext_tuple_end (I.ok.hd hc) st (show s.heap.IsTuple a its.toArray from p) (by simp;omega) fun h' eb=>⟨rfl,I.turned (t':=s.toks) (fun b o hb e=>eb b o hb e) f0 f1 f3 f4 f5⟩
 self:=fun _ _ _ _ _ st h=>wpAny_pyIter_tupleiter st h
theorem Bc{P:cg}{w:World}{K:Za}{tg:Expr}(it:Addr)(lo:Int)(n:Nat):sD P w K tg (JD lo n) [it] it (fun i h=>IsRangeIter h it (lo+(i:Nat) * 1) ((n:Int)-(i:Nat)) 1) where
 mem:=by simp
 obj:=fun i h st b hb=>by
  have e:b=it:=by simpa using hb
  subst e;exact⟨_,st,fun v z=>by
   have z':Data.fields _=Data.cell v:=z;cases z'⟩
 keep:=fun i h h' st k=>k it (by simp) _ st
 item:=by
  intro X hP hw hK hc i J3 s σ H E I hf st hg;subst hP hw hK;obtain⟨f0,f1,f2,f3,f4,f5⟩:=hf it (by simp);have W:=Walks.range (prog:=X.prog) (w:=X.w) (I.ok.hd hc) it lo 1 n;refine W.item i s _ _ hg st fun v h' tk hv st' kk=>?_;obtain⟨t,rfl⟩:=hv;have I1:Inv X J3 σ H { s with heap:=h',toks:=tk }:=I.turned (fun b o hb e=>kk b o (by simpa using hb) e) f0 f1 f3 f4 f5;refine⟨_,rfl,wK (s:={ s with heap:=h',toks:=tk }) (n:="range_iterator") st' rfl rfl (by decide) ⟨.int (lo+i),H,I1,⟨t,?_⟩,⟨rfl,rfl⟩,st',fun b hb=>(hf b hb).1⟩⟩;rw[Int.mul_one]
 done:=by
  intro X hP hw hK hc i J3 s σ H E I hf st hg;subst hP hw hK;obtain⟨f0,f1,f2,f3,f4,f5⟩:=hf it (by simp);exact wpAny_pyNext_range_end (I.ok.hd hc) st (by have:n<=i:=hg;omega) fun h' eb=>⟨rfl,I.turned (t':=s.toks) (fun b o hb e=>eb b o hb e) f0 f1 f3 f4 f5⟩
 self:=fun _ _ _ _ _ st h=>wpAny_pyIter_rangeiter st h
end L2
namespace L2
open PySem PySem.Spec PyProof.Rows
section
variable{X:Cx}{tg:Expr}
def bT(K:Za)(tl:TE):TI:=fun σ H R=>tl σ H fun x H1=>∃a,x=.ref a/\(∃xs,az K H1 a xs)/\R (G7 K a) H1
def Gw(K:Za)(tl:TE):TI:=fun σ H R=>tl σ H fun x H1=>∃a,x=.ref a/\(∃xs,br K H1 a xs)/\R (JC K a) H1
theorem aT{l:Expr}{tl:TE}(hl:PE X l tl):PI X tg l (bT X.K tl):=by
 intro J3 s σ H R I h;refine cI (hl J3 s σ H _ I h) fun v s1 ⟨x,H1,I1,r1,q1⟩=>?_;obtain⟨a,e,⟨xs,hq⟩,q⟩:=q1;subst e;cases r1;obtain⟨its,rv,p,hz⟩:=I1.list hq;refine zo p.isList ?_;refine⟨s1.heap.objs.size,[s1.heap.objs.size],_,_,H1,rfl,I1.kept (t':=s1.toks) fun b o e=>bx _ e,wf a _,⟨_,cG _ rfl,rfl,rfl⟩,fun b hb=>?_,q⟩;have e:b=s1.heap.objs.size:=by simpa using hb
 subst e;exact I1.fpOk (aA _) (I1.hok.fresh (aA _))
theorem yn{l:Expr}{tl:TE}(hl:PE X l tl):PI X tg l (Gw X.K tl):=by
 intro J3 s σ H R I h;refine cI (hl J3 s σ H _ I h) fun v s1 ⟨x,H1,I1,r1,q1⟩=>?_;obtain⟨a,e,⟨xs,hq⟩,q⟩:=q1;subst e;cases r1;obtain⟨its,rv,p,hz⟩:=I1.tuple hq;refine CS (show s1.heap.IsTuple a its.toArray from p) ?_;refine⟨s1.heap.objs.size,[s1.heap.objs.size],_,_,H1,rfl,I1.kept (t':=s1.toks) fun b o e=>bx _ e,tP a _,⟨_,cG _ rfl,rfl,rfl⟩,fun b hb=>?_,q⟩;have e:b=s1.heap.objs.size:=by simpa using hb
 subst e;exact I1.fpOk (aA _) (I1.hok.fresh (aA _))
theorem FP{J3:Zd}{σ:St}{H:Hp}{s:Shared}{R:It->Hp->Prop}{E:Zc}{lo hi:Int}{t u v:Tok}{tk:Nat}(I:Inv X J3 σ H s)(h1:-(2 ^ 62)<=lo)(h2:lo<2 ^ 62)(h3:-(2 ^ 62)<=hi)(h4:hi<2 ^ 62)
  (q:R (JD lo (hi-lo).toNat) H):wpAny (model X.prog X.w) X.A (pyIter (.ref s.heap.objs.size)) (Kv X J3 σ tg R) E { s with heap:=s.heap.push { cls:=.type "range",data:=.fields #[.int lo t,.int hi u,.int 1 v] },toks:=tk }:=by
 refine wpAny_pyIter_range (IsRange.new ..) (small_one h1 h2 h3 h4) ?_;have I1:Inv X J3 σ H { s with heap:=s.heap.push { cls:=.type "range",data:=.fields #[.int lo t,.int hi u,.int 1 v] },toks:=tk }:=I.kept fun b o e=>bx _ e;refine⟨(s.heap.push { cls:=.type "range",data:=.fields #[.int lo t,.int hi u,.int 1 v] }).objs.size,[(s.heap.push { cls:=.type "range",data:=.fields #[.int lo t,.int hi u,.int 1 v] }).objs.size],_,_,H,rfl,
  I1.kept (t':=tk) fun b o e=>bx _ e,Bc _ lo (hi-lo).toNat,?_,fun b hb=>?_,q⟩
 ·have e1:lo+((0:Nat):Int) * 1=lo:=by simp
  have e2:(((hi-lo).toNat:Nat):Int)-((0:Nat):Int)=cb.Range.rangeSize lo hi 1:=by rw[rangeSize_one];split<;>omega
  show IsRangeIter _ _ (lo+((0:Nat):Int) * 1) ((((hi-lo).toNat:Nat):Int)-((0:Nat):Int)) 1;rw[e1,e2];exact cG _ rfl
 ·have e:b=(s.heap.push { cls:=.type "range",data:=.fields #[.int lo t,.int hi u,.int 1 v] }).objs.size:=by simpa using hb
  subst e;exact I1.fpOk (aA _) (I1.hok.fresh (aA _))
def uS(ta:TA):TI:=fun σ H R=>ta σ H fun vs H1=>∃j:Int,vs=[.int j]/\-(2 ^ 62)<=j/\j<2 ^ 62/\R (JD 0 j.toNat) H1
theorem iL{a:Expr}{ta:TA}{p pos:Pos}(hg:Gl X "range")(hm:X.mg "range"=none)(ha:PA X [a] ta)(hs:aN [a] X.env=[(false,eval a X.env)]:=by rfl):PI X tg (.Call (.Name "range" p) [a] [] pos) (uS ta):=by
 intro J3 s σ H R I h;refine Call_ (q_ I hg hm boot_range (CQ (cI (ha pos J3 s σ H _ I h) fun us s1 ⟨vs,H1,I1,r1,q1⟩=>?_) hs rfl));obtain⟨j,e,q1,q2,q⟩:=q1;subst e;cases r1 with
 |cons r rr =>
  cases rr;obtain⟨t,rfl⟩:=r;exact call_range_1 (FP I1 (by omega) (by omega) q1 q2 (by simpa using q))
def dR(wi:TI)(g:TG)(tb:TS):TS:=fun D σ H=>wi σ H fun J H1=>∃W:Nat->Nat->St->Hp->Prop,(∃m,W 0 m σ H1)/\∀i m σ H,W i m σ H ->
 (J.stop i H/\D.nx σ H)∨(J.go i H/\∃N:St->Hp->Prop,(∀σ' H',N σ' H'->∃m',m'<m/\W (i+1) m' σ' H')/\∀x H',J.yld i H x H'->g x σ H' fun σ2 H2=>tb { D with nx:=N,ct:=N,bk:=D.nx } σ2 H2)
def uw(fp:Ze)(h:Heap):List (Addr×Obj):=fp.filterMap fun b=>(h.get? b).map fun o=>(b,o)
theorem kT{fp:Ze}{h:Heap}{b:Addr}{o:Obj}(hb:b∈fp)(e:h.get? b=some o):(b,o)∈uw fp h:=List.mem_filterMap.mpr ⟨b,hb,by rw[e];rfl⟩
theorem Ev{fp:Ze}{h:Heap}{p:Addr×Obj}(hp:p∈uw fp h):p.1∈fp/\h.get? p.1=some p.2:=by
 obtain⟨b,hb,e⟩:=List.mem_filterMap.mp hp;cases q:h.get? b with
 |none=>rw[q]at e;cases e
 |some o =>
  rw[q]at e;have e':(b,o)=p:=fe e;subst e';exact⟨hb,q⟩
theorem Inv.pinned{J3:Zd}{σ:St}{H:Hp}{s:Shared}{fp:Ze}(I:Inv X J3 σ H s)(hf:∀b∈fp,oW X J3 H b)(ho:∀b∈fp,∃o,s.heap.get? b=some o/\∀v,o.data≠.cell v):Inv X (J3++uw fp s.heap) σ H s :=
 I.pins_of fun p hp=>(a_.mp hp).elim (fun z=>I.pin p (cC _ z)) fun z=>by
  obtain⟨hb,e⟩:=Ev z;obtain⟨f0,f1,f2,_⟩:=hf p.1 hb;obtain⟨o,e',d⟩:=ho p.1 hb;rw[e]at e';cases e';exact⟨e,f0,f1,f2,d⟩
theorem Inv.unpinned{J3 pl:Zd}{σ:St}{H:Hp}{s:Shared}(I:Inv X (J3++pl) σ H s):Inv X J3 σ H s:=I.pins_of fun p hp=>I.pin p (cC _ (cf _ hp))
theorem bF{iter:Expr}{body:List Stmt}{wi:TI}{g:TG}{tb:TS}{pos:Pos}(hp:PassesOwn (model X.prog X.w) X.A X.env X.xe)(hc:X.calm=true)(hi:PI X tg iter wi)(hg:PG X tg g)(hb:A_ X body tb)
  (hs:∀x,zm iter X.env x=pure x:=by intro _;rfl):PS X (.For tg iter body [] pos) (dR wi g tb):=by
 intro J3 s σ H D I h;refine wpAny_For (cI (hi J3 s σ H _ I h) fun v s1 h1=>cI h1 fun itv s2 h2=>?_) hs;obtain⟨it,fp,tn,J,H2,e,I2,T,st2,f2,W,⟨m0,w0⟩,turn⟩:=h2;subst e;have stat:∀{H':Hp},(∀b∈fp,H' b=none)->∀b∈fp,oW X J3 H' b:=fun hn b hb=>⟨hn b hb,(f2 b hb).2⟩;refine codeAny_forLoop_any (fun n s'=>∃i σ' H',Inv X J3 σ' H' s'/\tn i s'.heap/\(∀b∈fp,H' b=none)/\W i n σ' H') ?_ m0 ⟨0,σ,H2,I2,st2,fun b hb=>(f2 b hb).1,w0⟩;rintro n s3 ⟨i,σ3,H3,I3,st3,fr3,w3⟩;rcases turn i n σ3 H3 w3 with⟨stop,qn⟩|⟨go,N,hN,step⟩
 ·refine sU hp (cI (T.done X rfl rfl rfl hc i J3 s3 σ3 H3 X.xe I3 (stat fr3) st3 stop) fun r s4 ⟨hr,I4⟩=>?_);subst hr;exact CW ⟨σ3,H3,I4,qn⟩
 ·refine sU hp (cI (T.item X rfl rfl rfl hc i J3 s3 σ3 H3 X.xe I3 (stat fr3) st3 go) fun r s4 ⟨u,hr,h4⟩=>?_);subst hr;refine sU hp (cI h4 fun _ s5 ⟨x,H5,I5,r5,y5,st5,fr5⟩=>?_);have I5':=I5.pinned (stat fr5) (T.obj _ _ st5);refine sU hp (cI (hg _ s5 σ3 H5 x u _ I5' r5 (step x H5 y5)) fun _ s6 ⟨σ6,H6,I6,q6⟩=>?_);refine sU hp (cI (hb _ s6 σ6 H6 _ I6 q6) fun f s7 q7=>?_);have again:∀{σ7:St}{H7:Hp},Inv X (J3++uw fp s5.heap) σ7 H7 s7->N σ7 H7->∃m,m<n/\∃i σ' H',Inv X J3 σ' H' s7/\tn i s7.heap/\(∀b∈fp,H' b=none)/\W i m σ' H':=fun{σ7 H7} I7 n7=>by
   obtain⟨m',hm,w7⟩:=hN σ7 H7 n7;refine⟨m',hm,i+1,σ7,H7,I7.unpinned,T.keep _ _ _ st5 fun b hb o e=>(I7.pin (b,o) (cC _ (cC _ (kT hb e)))).1,fun b hb=>?_,w7⟩;obtain⟨o,e,d⟩:=T.obj _ _ st5 b hb;exact(I7.pin (b,o) (cC _ (cC _ (kT hb e)))).2.1
  cases f with
  |next=>obtain⟨σ7,H7,I7,n7⟩:=q7;exact again I7 n7
  |cont=>obtain⟨σ7,H7,I7,n7⟩:=q7;exact again I7 n7
  |brk=>obtain⟨σ7,H7,I7,q7⟩:=q7;exact⟨σ7,H7,I7.unpinned,q7⟩
  |ret v=>obtain⟨x7,σ7,H7,I7,r7,q7⟩:=q7;exact⟨x7,σ7,H7,I7.unpinned,r7,q7⟩
end
theorem bP{K:Za}{a:Addr}{xs:List V}{g:TG}{tb:TS}{D:mI}{σ:St}{H:Hp}(Pv:Nat->St->Hp->Prop)(h0:Pv 0 σ H)(hl:∀i σ H,i<=xs.length->Pv i σ H->az K H a xs)
  (hs:∀i x σ H,xs[i]?=some x->Pv i σ H->g x σ H fun σ2 H2=>tb { D with nx:=Pv (i+1),ct:=Pv (i+1),bk:=D.nx } σ2 H2) (hd:∀σ H,Pv xs.length σ H->D.nx σ H) :
  ∃W:Nat->Nat->St->Hp->Prop,(∃m,W 0 m σ H)/\∀i m σ H,W i m σ H ->
   ((G7 K a).stop i H/\D.nx σ H)∨((G7 K a).go i H/\∃N:St->Hp->Prop,(∀σ' H',N σ' H'->∃m',m'<m/\W (i+1) m' σ' H')/\∀x H',(G7 K a).yld i H x H'->g x σ H' fun σ2 H2=>tb { D with nx:=N,ct:=N,bk:=D.nx } σ2 H2):=by
 refine⟨fun i m σ H=>m=xs.length-i/\i<=xs.length/\Pv i σ H,⟨xs.length,by simp,cX _,h0⟩,?_⟩;rintro i m σ H ⟨rfl,hi,p⟩;have q:=hl i σ H hi p;by_cases hlt:i<xs.length
 ·refine .inr ⟨⟨xs,xs[i],q,by simp[hlt]⟩,Pv (i+1),fun σ' H' p'=>⟨xs.length-(i+1),by omega,rfl,hlt,p'⟩,fun x H' y=>?_⟩;obtain⟨e,y⟩:=y;subst e;exact hs i x σ _ (y xs q) p
 ·have e:i=xs.length:=by omega
  subst e;exact .inl ⟨⟨xs,q,aA _⟩,hd σ H p⟩
theorem yJ{K:Za}{a:Addr}{xs:List V}{g:TG}{tb:TS}{D:mI}{σ:St}{H:Hp}(Pv:Nat->St->Hp->Prop)(h0:Pv 0 σ H)(hl:∀i σ H,i<=xs.length->Pv i σ H->br K H a xs)
  (hs:∀i x σ H,xs[i]?=some x->Pv i σ H->g x σ H fun σ2 H2=>tb { D with nx:=Pv (i+1),ct:=Pv (i+1),bk:=D.nx } σ2 H2) (hd:∀σ H,Pv xs.length σ H->D.nx σ H) :
  ∃W:Nat->Nat->St->Hp->Prop,(∃m,W 0 m σ H)/\∀i m σ H,W i m σ H ->
   ((JC K a).stop i H/\D.nx σ H)∨((JC K a).go i H/\∃N:St->Hp->Prop,(∀σ' H',N σ' H'->∃m',m'<m/\W (i+1) m' σ' H')/\∀x H',(JC K a).yld i H x H'->g x σ H' fun σ2 H2=>tb { D with nx:=N,ct:=N,bk:=D.nx } σ2 H2):=by
 refine⟨fun i m σ H=>m=xs.length-i/\i<=xs.length/\Pv i σ H,⟨xs.length,by simp,cX _,h0⟩,?_⟩;rintro i m σ H ⟨rfl,hi,p⟩;have q:=hl i σ H hi p;by_cases hlt:i<xs.length
 ·refine .inr ⟨⟨xs,xs[i],q,by simp[hlt]⟩,Pv (i+1),fun σ' H' p'=>⟨xs.length-(i+1),by omega,rfl,hlt,p'⟩,fun x H' y=>?_⟩;obtain⟨e,y⟩:=y;subst e;exact hs i x σ _ (y xs q) p
 ·have e:i=xs.length:=by omega
  subst e;exact .inl ⟨⟨xs,q,aA _⟩,hd σ H p⟩
theorem kh{lo:Int}{n:Nat}{g:TG}{tb:TS}{D:mI}{σ:St}{H:Hp}(Pv:Nat->St->Hp->Prop)(h0:Pv 0 σ H)
  (hs:∀i σ H,i<n->Pv i σ H->g (.int (lo+i)) σ H fun σ2 H2=>tb { D with nx:=Pv (i+1),ct:=Pv (i+1),bk:=D.nx } σ2 H2) (hd:∀σ H,Pv n σ H->D.nx σ H) :
  ∃W:Nat->Nat->St->Hp->Prop,(∃m,W 0 m σ H)/\∀i m σ H,W i m σ H ->
   ((JD lo n).stop i H/\D.nx σ H)∨((JD lo n).go i H/\∃N:St->Hp->Prop,(∀σ' H',N σ' H'->∃m',m'<m/\W (i+1) m' σ' H')/\∀x H',(JD lo n).yld i H x H'->g x σ H' fun σ2 H2=>tb { D with nx:=N,ct:=N,bk:=D.nx } σ2 H2):=by
 refine⟨fun i m σ H=>m=n-i/\i<=n/\Pv i σ H,⟨n,by simp,cX _,h0⟩,?_⟩;rintro i m σ H ⟨rfl,hi,p⟩;by_cases hlt:i<n
 ·refine .inr ⟨hlt,Pv (i+1),fun σ' H' p'=>⟨n-(i+1),by omega,rfl,hlt,p'⟩,fun x H' y=>?_⟩;obtain⟨e,y⟩:=y;subst e y;exact hs i σ _ hlt p
 ·have e:i=n:=by omega
  subst e;exact .inl ⟨aA _,hd σ H p⟩
end L2
namespace L2
open PySem PySem.Spec PyProof.Rows
abbrev R2:=V->V->Hp->VK->Prop
def lI(X:Cx)(f:Value->Value->Sem Value)(r:R2):Prop :=
 ∀(J3:Zd) (s:Shared) (σ:St) (H:Hp) (x y:V) (v u:Value) (Q:VK),Inv X J3 σ H s->RelV x v->RelV y u->r x y H Q ->
  wpAny (model X.prog X.w) X.A (f v u) (EP X J3 σ Q) X.xe s
def fg(X:Cx)(f:Value)(r:List V->Hp->VK->Prop):Prop :=
 ∀(J3:Zd) (s:Shared) (σ:St) (H:Hp) (xs:List V) (us:Zf) (Q:VK),Inv X J3 σ H s->bf xs us->r xs H Q ->
  wpAny (model X.prog X.w) X.A (call f us) (EP X J3 σ Q) X.xe s
def aI(r:R2)(ta tb:TE):TE:=fun σ H Q=>ta σ H fun x H1=>tb σ H1 fun y H2=>r x y H2 Q
def rI(C:Int->Int->Prop)(g:Int->Int->V):R2:=fun x y H Q=>∃i j,x=.int i/\y=.int j/\C i j/\Q (g i j) H
def Fe(g:Int->Int->V):R2:=fun x y H Q=>∃i j,x=.int i/\y=.int j/\Q (g i j) H
section
variable{X:Cx}{a b c:Expr}{ta tb tc:TE}{pos:Pos}
theorem Jw(ha:PE X a ta)(hb:PE X b tb){J3:Zd}{s:Shared}{σ:St}{H:Hp}{R:V->V->Hp->Prop}(I:Inv X J3 σ H s)
  (h:ta σ H fun x H1=>tb σ H1 fun y H2=>R x y H2) {Q:Zc}{f:Value->Value->Sem Value}
  (hf:∀v u s2 x y H2,Inv X J3 σ H2 s2->RelV x v->RelV y u->R x y H2->wpAny (model X.prog X.w) X.A (f v u) Q X.xe s2) :
  wpAny (model X.prog X.w) X.A (eval a X.env) (fun v s₁=>wpAny (model X.prog X.w) X.A (eval b X.env) (fun u s₂=>wpAny (model X.prog X.w) X.A (f v u) Q X.xe s₂) X.xe s₁) X.xe s:=by
 refine cI (ha J3 s σ H _ I h) fun v s1 ⟨x,H1,I1,r1,q1⟩=>?_;refine cI (hb J3 s1 σ H1 _ I1 q1) fun u s2 ⟨y,H2,I2,r2,q2⟩=>?_;exact hf v u s2 x y H2 I2 r1 r2 q2
theorem bb{op:Operator}{r:R2}(ho:lI X (jU op) r)(ha:PE X a ta)(hb:PE X b tb):PE X (.BinOp a op b pos) (aI r ta tb):=by
 intro J3 s σ H Q I h;exact wpAny_BinOp (Jw ha hb I h fun v u s2 x y H2 I2 rx ry q=>ho J3 s2 σ H2 x y v u Q I2 rx ry q)
theorem Kq{f:Value->Value->Sem Value}{C:Int->Int->Prop}{g:Int->Int->Int}
  (rule:∀(i j:Int) (t u:Tok) (s:Shared) (Q:Zc) (E:Zc),C i j->Q (.int (g i j) s.toks) { s with toks:=s.toks+1 }->wpAny (model X.prog X.w) X.A (f (.int i t) (.int j u)) Q E s) :
  lI X f (rI C fun i j=>.int (g i j)):=by
 intro J3 s σ H x y v u Q I rx ry h;obtain⟨i,j,rfl,rfl,hc,q⟩:=h;obtain⟨t,rfl⟩:=rx;obtain⟨t',rfl⟩:=ry;exact rule i j t t' s _ _ hc ⟨.int (g i j),H,I.tok _,⟨_,rfl⟩,q⟩
theorem opI0{f:Value->Value->Sem Value}{g:Int->Int->Int}
  (rule:∀(i j:Int) (t u:Tok) (s:Shared) (Q:Zc) (E:Zc),Q (.int (g i j) s.toks) { s with toks:=s.toks+1 }->wpAny (model X.prog X.w) X.A (f (.int i t) (.int j u)) Q E s) :
  lI X f (Fe fun i j=>.int (g i j)):=by
 intro J3 s σ H x y v u Q I rx ry h;obtain⟨i,j,rfl,rfl,q⟩:=h;obtain⟨t,rfl⟩:=rx;obtain⟨t',rfl⟩:=ry;exact rule i j t t' s _ _ ⟨.int (g i j),H,I.tok _,⟨_,rfl⟩,q⟩
theorem HY{f:Value->Value->Sem Value}{g:Int->Int->Bool}
  (rule:∀(i j:Int) (t u:Tok) (s:Shared) (Q:Zc) (E:Zc),Q (.bool (g i j)) s->wpAny (model X.prog X.w) X.A (f (.int i t) (.int j u)) Q E s) :
  lI X f (Fe fun i j=>.bl (g i j)):=by
 intro J3 s σ H x y v u Q I rx ry h;obtain⟨i,j,rfl,rfl,q⟩:=h;obtain⟨t,rfl⟩:=rx;obtain⟨t',rfl⟩:=ry;exact rule i j t t' s _ _ ⟨.bl (g i j),H,I,rfl,q⟩
def Kk(i j:Int):Prop:=0<j/\j<1073741824
def Kj(i j:Int):Prop:=0<=j/\j<=1000000/\i.natAbs<2 ^ 64
def G4(i j:Int):Prop:=(-(2 ^ 64)<i/\i<2 ^ 64)∨(-(2 ^ 64)<j/\j<2 ^ 64)
theorem G4.ok{i j:Int}(h:G4 i j):IntMulOk i j:=by
 rcases h with⟨h1,h2⟩|⟨h1,h2⟩
 ·exact .of_left (intBits_le_64 h1 h2)
 ·exact .of_right (intBits_le_64 h1 h2)
theorem dC:lI X (jU .Add) (Fe fun i j=>.int (i+j)):=opI0 fun _ _ _ _ _ _ _ q=>add_int q
theorem i0:lI X (jU .Mult) (rI G4 fun i j=>.int (i * j)):=Kq fun _ _ _ _ _ _ _ hc q=>mul_int q hc.ok
theorem Dl:lI X (jU .FloorDiv) (rI Kk fun i j=>.int (i / j)):=Kq fun i j _ _ _ _ _ hc q=>by
 have h1:(0:Int)<j:=hc.1;have h2:j<1073741824:=hc.2;exact floordiv_int (by omega) (by rw[Int.fdiv_eq_ediv_of_nonneg i (by omega)];exact q) (.inl (PyProof.noPylong_small (by omega)))
theorem gZ:lI X (jU .Mod) (rI (fun _ j=>0<j) fun i j=>.int (i % j)):=Kq fun i j _ _ _ _ _ hc q=>by
 have h1:(0:Int)<j:=hc;exact mod_int' (by omega) (by rw[Int.fmod_eq_emod_of_nonneg i (by omega)];exact q)
theorem F_:lI X (jU .Pow) (rI Kj fun i j=>.int (i ^ j.toNat)):=Kq fun _ _ _ _ _ _ _ hc q=>pow_int_small hc.1 hc.2.1 hc.2.2 q
end
def JO:V->V->Bool
 |.non,.non=>true | .non,.int _=>true | .int _,.non=>true | .non,.bl _=>true | .bl _,.non=>true | .non,.str _=>true | .str _,.non=>true
 |.int _,.int _=>true | .bl _,.bl _=>true | .str _,.str _=>true | .byt _,.byt _=>true
 |.int _,.str _=>true | .str _,.int _=>true | .bl _,.str _=>true | .str _,.bl _=>true
 |_,_=>false
def zg:R2:=fun x y H Q=>JO x y=true/\Q (.bl (decide (x=y))) H
def HJ:R2:=fun x y H Q=>JO x y=true/\Q (.bl (!decide (x=y))) H
theorem DB{i j:Int}:decide (V.int i=V.int j)=(i==j):=by
 rw[rK];simp
theorem GN{i j:Bool}:decide (V.bl i=V.bl j)=(i==j):=by
 rw[rK];simp
theorem Dz{i j:Str}:decide (V.str i=V.str j)=(i==j):=by
 rw[rK];simp
theorem DC{i j:Array UInt8}:decide (V.byt i=V.byt j)=(i.toList==j.toList):=by
 rw[rK];cases i;cases j;simp
section
variable{X:Cx}{a b c:Expr}{ta tb tc:TE}{pos:Pos}
theorem bX{J3:Zd}{σ:St}{H:Hp}{s:Shared}{Q:VK}{k k':Bool}(I:Inv X J3 σ H s)(q:Q (.bl k) H)(e:k=k'):EP X J3 σ Q (.bool k') s:=by
 subst e;exact⟨.bl k,H,I,rfl,q⟩
theorem iw:lI X (e_ .Eq) zg:=by
 intro J3 s σ H x y v u Q I rx ry h;obtain⟨hs,q⟩:=h;cases x with
 |non =>
  cases rx;cases y with
  |non=>cases ry;exact PySem.EqNone.eq_none_none (bX I q (by simp))
  |bl j=>cases ry;exact PySem.EqNone.eq_none_bool (bX I q (by simp))
  |int j=>obtain⟨t',rfl⟩:=ry;exact PySem.EqNone.eq_none_int (bX I q (by simp))
  |str j=>obtain⟨t',rfl⟩:=ry;exact PySem.EqNone.eq_none_str (bX I q (by simp))
  |_=>exact absurd (show false=true from hs) fO
 |bl i =>
  cases rx;cases y with
  |non=>cases ry;exact PySem.EqNone.eq_bool_none (bX I q (by simp))
  |bl j=>cases ry;exact eq_bool (bX I q GN)
  |str j=>obtain⟨t',rfl⟩:=ry;exact PySem.EqMixed.eq_bool_str (bX I q (by simp))
  |_=>exact absurd (show false=true from hs) fO
 |int i =>
  obtain⟨t,rfl⟩:=rx;cases y with
  |non=>cases ry;exact PySem.EqNone.eq_int_none (bX I q (by simp))
  |int j=>obtain⟨t',rfl⟩:=ry;exact eq_int (bX I q DB)
  |str j=>obtain⟨t',rfl⟩:=ry;exact PySem.EqMixed.eq_int_str (bX I q (by simp))
  |_=>exact absurd (show false=true from hs) fO
 |str i =>
  obtain⟨t,rfl⟩:=rx;cases y with
  |non=>cases ry;exact PySem.EqNone.eq_str_none (bX I q (by simp))
  |bl j=>cases ry;exact PySem.EqMixed.eq_str_bool (bX I q (by simp))
  |int j=>obtain⟨t',rfl⟩:=ry;exact PySem.EqMixed.eq_str_int (bX I q (by simp))
  |str j=>obtain⟨t',rfl⟩:=ry;exact eq_str (bX I q Dz)
  |_=>exact absurd (show false=true from hs) fO
 |byt i =>
  obtain⟨t,rfl⟩:=rx;cases y with
  |byt j=>obtain⟨t',rfl⟩:=ry;exact PySem.W.eq_bytes (bX I q DC)
  |_=>exact absurd (show false=true from hs) fO
 |_=>cases y<;>exact absurd (show false=true from hs) fO
theorem uC:lI X (e_ .NotEq) HJ:=by
 intro J3 s σ H x y v u Q I rx ry h;obtain⟨hs,q⟩:=h;cases x with
 |non =>
  cases rx;cases y with
  |non=>cases ry;exact PySem.EqNone.ne_none_none (bX I q (by simp))
  |bl j=>cases ry;exact PySem.EqNone.ne_none_bool (bX I q (by simp))
  |int j=>obtain⟨t',rfl⟩:=ry;exact PySem.EqNone.ne_none_int (bX I q (by simp))
  |str j=>obtain⟨t',rfl⟩:=ry;exact PySem.EqNone.ne_none_str (bX I q (by simp))
  |_=>exact absurd (show false=true from hs) fO
 |bl i =>
  cases rx;cases y with
  |non=>cases ry;exact PySem.EqNone.ne_bool_none (bX I q (by simp))
  |bl j=>cases ry;exact ne_bool (bX I q (congrArg not GN))
  |str j=>obtain⟨t',rfl⟩:=ry;exact PySem.EqMixed.ne_bool_str (bX I q (by simp))
  |_=>exact absurd (show false=true from hs) fO
 |int i =>
  obtain⟨t,rfl⟩:=rx;cases y with
  |non=>cases ry;exact PySem.EqNone.ne_int_none (bX I q (by simp))
  |int j=>obtain⟨t',rfl⟩:=ry;exact ne_int (bX I q (congrArg not DB))
  |str j=>obtain⟨t',rfl⟩:=ry;exact PySem.EqMixed.ne_int_str (bX I q (by simp))
  |_=>exact absurd (show false=true from hs) fO
 |str i =>
  obtain⟨t,rfl⟩:=rx;cases y with
  |non=>cases ry;exact PySem.EqNone.ne_str_none (bX I q (by simp))
  |bl j=>cases ry;exact PySem.EqMixed.ne_str_bool (bX I q (by simp))
  |int j=>obtain⟨t',rfl⟩:=ry;exact PySem.EqMixed.ne_str_int (bX I q (by simp))
  |str j=>obtain⟨t',rfl⟩:=ry;exact ne_str (bX I q (congrArg not Dz))
  |_=>exact absurd (show false=true from hs) fO
 |byt i =>
  obtain⟨t,rfl⟩:=rx;cases y with
  |byt j=>obtain⟨t',rfl⟩:=ry;exact PySem.W.ne_bytes (bX I q (congrArg not DC))
  |_=>exact absurd (show false=true from hs) fO
 |_=>cases y<;>exact absurd (show false=true from hs) fO
theorem wx:lI X (e_ .Lt) (Fe fun i j=>.bl (decide (i<j))):=HY fun _ _ _ _ _ _ _ q=>lt_int q
theorem JS:lI X (e_ .LtE) (Fe fun i j=>.bl (decide (i<=j))):=HY fun _ _ _ _ _ _ _ q=>le_int q
theorem wz:lI X (e_ .Gt) (Fe fun i j=>.bl (decide (j<i))):=HY fun _ _ _ _ _ _ _ q=>gt_int q
theorem JT:lI X (e_ .GtE) (Fe fun i j=>.bl (decide (j<=i))):=HY fun _ _ _ _ _ _ _ q=>ge_int q
theorem Eu:lI X (e_ .In) (fun x y H Q=>∃i j,x=.str i/\y=.str j/\Q (.bl (!(cb.Str.occurrences j i 0 j.length 1).isEmpty)) H):=by
 intro J3 s σ H x y v u Q I rx ry h;obtain⟨i,j,rfl,rfl,q⟩:=h;obtain⟨t,rfl⟩:=rx;obtain⟨t',rfl⟩:=ry;exact in_str (bX I q rfl)
theorem lI.or{f:Value->Value->Sem Value}{r r':R2}(h:lI X f r)(h':lI X f r'):lI X f (fun x y H Q=>r x y H Q∨r' x y H Q):=by
 intro J3 s σ H x y v u Q I rx ry q;rcases q with q|q
 ·exact h J3 s σ H x y v u Q I rx ry q
 ·exact h' J3 s σ H x y v u Q I rx ry q
theorem Gd(b:Expr){op:CmpOp}(h:op≠.In:=by decide)(h2:op≠.NotIn:=by decide):lp op b=false:=by
 have e1:(op==CmpOp.In)=false:=by cases op<;>first|rfl|exact absurd rfl h
 have e2:(op==CmpOp.NotIn)=false:=by cases op<;>first|rfl|exact absurd rfl h2
 cases b<;>simp[lp,e1,e2]
theorem Dg{op:CmpOp}{r:R2}(ho:lI X (e_ op) r)(ha:PE X a ta)(hb:PE X b tb)(hm:lp op b=false):PE X (.Compare a [op] [b] pos) (aI r ta tb):=by
 intro J3 s σ H Q I h;exact wpAny_Compare1 (Jw ha hb I h fun v u s2 x y H2 I2 rx ry q=>ho J3 s2 σ H2 x y v u Q I2 rx ry q) hm
def aQ(t:TE):TT:=fun σ H Q=>t σ H fun x H'=>∃k,x=.bl k/\Q k H'
theorem Dc{op:CmpOp}{r:R2}(ho:lI X (e_ op) r)(ha:PE X a ta)(hb:PE X b tb)(hm:lp op b=false):PT X (.Compare a [op] [b] pos) (aQ (aI r ta tb)):=by
 intro J3 s σ H Q I h;refine wpAny_isTrue_Compare1 (cI (ha J3 s σ H _ I h) fun v s1 ⟨x,H1,I1,r1,q1⟩=>cI (hb J3 s1 σ H1 _ I1 q1) fun u s2 ⟨y,H2,I2,r2,q2⟩ =>
  cI (ho J3 s2 σ H2 x y v u _ I2 r1 r2 q2) fun c s3 ⟨z,H3,I3,r3,k,e,q3⟩=>?_) hm
 subst e;cases r3;exact rP ⟨H3,I3,q3⟩
theorem qZ:(ai:Nat)<2 ^ 63:=by rw[jh];decide
theorem uF:lI X (jU .Add) (fun x y H Q=>∃i j,x=.str i/\y=.str j/\i.length+j.length<=ai/\Q (.str (i++j)) H):=by
 intro J3 s σ H x y v u Q I rx ry h;obtain⟨i,j,rfl,rfl,hz,q⟩:=h;obtain⟨t,rfl⟩:=rx;obtain⟨t',rfl⟩:=ry;exact add_str (fun t' tk=>⟨.str (i++j),H,I.tok _,⟨_,rfl⟩,q⟩) hz
theorem vals1{x:V}{us:Zf}(r:bf [x] us):∃u,us=[u]/\RelV x u:=by
 cases r with
 |cons r1 r2=>cases r2;exact⟨_,rfl,r1⟩
theorem vals2{x y:V}{us:Zf}(r:bf [x,y] us):∃u w',us=[u,w']/\RelV x u/\RelV y w':=by
 cases r with
 |cons r1 r2 =>
  cases r2 with
  |cons r3 r4=>cases r4;exact⟨_,_,rfl,r1,r3⟩
theorem EW(hc:X.calm=true):fg X (.builtin "max") (fun xs H Q=>∃i j,xs=[.int i,.int j]/\Q (.int (if j > i then j else i)) H):=by
 intro J3 s σ H xs us Q I r h;obtain⟨i,j,rfl,q⟩:=h;obtain⟨u,w',rfl,⟨t,rfl⟩,⟨t',rfl⟩⟩:=vals2 r;refine max_two_ints (I.ok.hd hc) fun h' tk k=>⟨_,H,I.kept k,?_,q⟩;by_cases hj:j > i
 ·rw[if_pos hj,if_pos hj];exact⟨_,rfl⟩
 ·rw[if_neg hj,if_neg hj];exact⟨_,rfl⟩
theorem EY:fg X (.type "int") (fun xs H Q=>(∃i,xs=[.int i]/\Q (.int i) H)∨∃k,xs=[.bl k]/\Q (.int (if k then 1 else 0)) H):=by
 intro J3 s σ H xs us Q I r h;rcases h with⟨i,rfl,q⟩|⟨k,rfl,q⟩
 ·obtain⟨u,rfl,t,rfl⟩:=vals1 r;exact call_int_int ⟨.int i,H,I,⟨_,rfl⟩,q⟩
 ·obtain⟨u,rfl,r1⟩:=vals1 r;cases r1;exact call_int_bool ⟨.int (if k then 1 else 0),H,I.tok _,⟨_,rfl⟩,q⟩
end
end L2
namespace L2
open PySem PySem.Spec PyProof.Rows
structure Ct(h:Heap)(x dx C:Addr)(mA:Str->Option Value):Prop where
 obj:h.get? x=some (rO C dx)
 ns:h.Ns1 dx mA
 ne:dx≠x
theorem EB{h:Heap}{dx:Addr}{mA:Str->Option Value}(n:h.Ns1 dx mA):∃od,h.get? dx=some od/\∀name,CP name od=some (mA name):=by
 obtain⟨o,es,ep,ho,hd,hk,_,hm⟩:=n;refine⟨o,ho,fun name=>?_⟩;have e:=hm name;unfold nsFind findBy at e;rw[<-Array.find?_toList]at e;unfold CP;rw[hd];dsimp only;split
 ·rename_i y q;rw[q]at e;exact congrArg some e
 ·rename_i q;rw[q]at e;have a:es.toList.any (·.refKey)=false:=by
   rw[List.any_eq_false];intro y hy;obtain⟨z,t,hkey⟩:=hk y (Array.mem_toList_iff.mp hy);simp[kD.refKey,hkey]
  have a':¬es.toList.any (·.refKey)=true:=by rw[a];exact fO
  rw[if_neg a'];exact congrArg some e
theorem Ct.look{h:Heap}{x dx C:Addr}{mA:Str->Option Value}(I:Ct h x dx C mA):∃od,PySem.W.InstAt h x (rO C dx) C (some od)/\∀name,CP name od=some (mA name) :=
 let⟨od,ho,hl⟩:=EB I.ns
 ⟨od,⟨I.obj,rfl,rfl,ho⟩,hl⟩
section
variable{prog:cg}{w:World}{A:Around}{E:Zc}{s:Shared}{K:Za}{x dx C f:Addr}{mA:Str->Option Value}{name:Str}{v:Value}
theorem Ih{expr:Bool}{Q:Zc}(X:K.In s.heap)(I:Ct s.heap x dx C mA)(hg:wa K C name=true)(hh:zj K C=true)
  (ha:dL K (.ref C) name=some none) (hv:mA name=some v) (hv':PySem.W.handedIn v=true) (h:Q v { s with toks:=s.toks+1 }) :
  wpAny (model prog w) A (getAttr (.ref x) name expr) Q E s:=by
 obtain⟨od,J,hl⟩:=I.look;exact PySem.W.get_value X J (PySem.W.plainGet_of hg).1 (PySem.W.findObj_own hh ha rfl (by rw[hl,hv])) hv' h
theorem Gz{pl:Sem Bool}{Q:Value×List Value->Shared->Prop}(X:K.In s.heap)(I:Ct s.heap x dx C mA)(hg:wa K C name=true)
  (hf:dL K (.ref C) name=some (some (.ref f))) (ht:zh K (.ref f)=true) (hv:mA name=none) (h:Q (.ref f,[.ref x]) s) :
  wpAny (model prog w) A (rJ (.ref x) name pl) Q E s:=by
 obtain⟨od,J,hl⟩:=I.look;exact PySem.W.method_fn X J (PySem.W.plainGet_of hg).1 (PySem.W.plainGet_of hg).2 hf (beq_iff_eq.mp ht) (by show(CP name od).map (·.isSome)=some false;rw[hl,hv];rfl) h
theorem Hq{ns:Zb}{Q:Unit->Shared->Prop}(X:K.In s.heap)(I:Ct s.heap x dx C mA)
  (hs:dL K (.ref C) "__setattr__"=some (some (.builtin "object.__setattr__"))) (hp:CO K C=true) (ht:PySem.W.takerIn K C name=some none) (hh:zj K C=true)
  (hw:PySem.Within mA ns) (hsz:ns.length<=ai)
  (h:∀h',Ct h' x dx C (fun y=>if y=name then some v else mA y)->fZ dx s.heap h'->Q () { s with heap:=h',toks:=s.toks+2 }) :
  wpAny (model prog w) A (setAttr (.ref x) name v) Q E s:=by
 obtain⟨od,J,hl⟩:=I.look;refine PySem.W.set_plain X J hs (PySem.W.osa_open (s:={ s with toks:=s.toks+1 }) (r:=none) X J hp ht fun b=>?_);obtain⟨cd,hc,hd'⟩:=PySem.W.any_some hh;have hx:s.heap.get? x=some ⟨.ref C,some dx,.plain,#[]⟩:=I.obj;refine ak (aD (ak (ak (wpAny_loadPart hx (ak (PySem.W.Looks.here (s:={ s with toks:=s.toks+1 }) (PySem.W.looks_clsIn X hc) ?_))))));rw[hd'];refine aD (a:=some dx) (ak (aD (ak ?_)));refine wpAny_nsSet1 (s:={ s with toks:=s.toks+1 }) I.ns fun h' hn2 hs2=>?_;obtain⟨oD,esD,epD,hoD,hdD,hcD⟩:=hn2.count (PySem.Within.cons name v hw);refine ak (wpAny_lookBehind hoD (by rw[hdD];exact pastItsLine_dict (bC hcD (by rw[dS];omega))) ?_);exact aD (h _ ⟨(hs2.2 _ (dE I.ne)).trans I.obj,hn2,I.ne⟩ hs2)
theorem Gn{R:Result->Shared->Prop}{vs:Zf}{kw:List (Str×Value)}(X:K.In s.heap)(hm:sT K C=true)
  (hi:dL K (.ref C) "__init__"=some (some (.ref f))) (hf:PySem.W.typeIn K (.ref f)=some (.type "function"))
  (h:zzl79 (model prog w) (A.under (.builtin "type.__call__" ⟨.ref C::vs,kw⟩)) (.call (.ref f) ⟨.ref (s.heap.objs.size+1)::vs,kw⟩) (PySem.W.InitBack (s.heap.objs.size+1) R)
   { s with heap:=(s.heap.push pb).push (rO C s.heap.objs.size) }) :
  zzl79 (model prog w) A (.call (.ref C) ⟨vs,kw⟩) R s:=by
 obtain⟨hh,g,d,t,os⟩:=s;exact PySem.W.make_core (PySem.W.makes_of X hm) (PySem.W.looks_findIn X hi) (fun self=>PySem.W.bind_fn X self hf) (.inl rfl) h
end
def cK(f:Str)(v:V):List (Str×V)->List (Str×V)
 |[]=>[(f,v)]
 | (g,x)::r=>if g=f then(g,v)::r else(g,x)::cK f v r
theorem eO(f g:Str)(v:V):∀fs:List (Str×V),(cK f v fs).lookup g=if g=f then some v else fs.lookup g
 |[]=>by
  show lm g [(f,v)]=_;by_cases h:g=f
  ·have hb:(g==f)=true:=beq_iff_eq.mpr h;simp only[lm,hb,if_pos h]
  ·have hb:(g==f)=false:=beq_eq_false_iff_ne.mpr h;simp only[lm,hb,if_neg h]
 | (k,x)::r=>by
  have ih:=eO f g v r;rw[show cK f v ((k,x)::r)=(if k=f then(k,v)::r else(k,x)::cK f v r)from rfl]
  by_cases hk:k=f
  ·rw[if_pos hk];by_cases h:g=k
   ·have hb:(g==k)=true:=beq_iff_eq.mpr h;simp only[lm,hb,if_pos (h.trans hk)]
   ·have hb:(g==k)=false:=beq_eq_false_iff_ne.mpr h;simp only[lm,hb,if_neg (fun e:g=f=>h (e.trans hk.symm))]
  ·rw[if_neg hk];by_cases h:g=k
   ·have hb:(g==k)=true:=beq_iff_eq.mpr h;simp only[lm,hb,if_neg (fun e:g=f=>hk (h.symm.trans e))]
   ·have hb:(g==k)=false:=beq_eq_false_iff_ne.mpr h;simp only[lm,hb];exact ih
theorem rc(f:Str)(v:V):∀fs:List (Str×V),f∈(cK f v fs).map (·.1)/\∀g,g∈fs.map (·.1)->g∈(cK f v fs).map (·.1)
 |[]=>⟨by simp[cK],fun g h=>by simp at h⟩
 | (k,x)::r=>by
  obtain⟨i1,i2⟩:=rc f v r;rw[show cK f v ((k,x)::r)=(if k=f then(k,v)::r else(k,x)::cK f v r)from rfl]
  by_cases hk:k=f
  ·rw[if_pos hk];subst hk;exact⟨by simp,fun g h=>by simpa using h⟩
  ·rw[if_neg hk];refine⟨?_,fun g h=>?_⟩
   ·rw[bI];exact eI _ i1
   ·rw[bI]at h ⊢;rcases cH.mp h with e|e
    ·exact cH.mpr (.inl e)
    ·exact eI _ (i2 g e)
theorem rX(f:Str)(v:V):∀fs:List (Str×V),(cK f v fs).length<=fs.length+1
 |[]=>by simp[cK]
 | (k,x)::r=>by
  have ih:=rX f v r;rw[show cK f v ((k,x)::r)=(if k=f then(k,v)::r else(k,x)::cK f v r)from rfl]
  by_cases hk:k=f
  ·rw[if_pos hk,dS,dS];omega
  ·rw[if_neg hk,dS,dS];omega
theorem lH.some_of{v:V}{o:Option Value}(r:lH (some v) o):∃u,o=some u/\RelV v u:=by
 cases o with
 |none=>exact(show False from r).elim
 |some u=>exact⟨u,rfl,r⟩
theorem lH.none_of{o:Option Value}(r:lH none o):o=none:=by
 cases o with
 |none=>rfl
 |some u=>exact(show False from r).elim
theorem EJ{v:V}{u:Value}(r:RelV v u):PySem.W.handedIn u=true:=by
 cases v with
 |non=>cases(show u=Value.none from r);rfl
 |bl b=>cases(show u=Value.bool b from r);rfl
 |int i=>obtain⟨t,e⟩:=(show ∃t,u=Value.int i t from r);cases e;rfl
 |str x=>obtain⟨t,e⟩:=(show ∃t,u=Value.str x t from r);cases e;rfl
 |byt b=>obtain⟨t,e⟩:=(show ∃t,u=Value.bytes b t from r);cases e;rfl
 |flt b=>obtain⟨t,e⟩:=(show ∃t,u=Value.float b t from r);cases e;rfl
 |ref a=>cases(show u=Value.ref a from r);rfl
 |ty n=>cases(show u=Value.type n from r);rfl
section
variable{P:cg}{w:World}{H H':Hp}{h h':Heap}{a C dx:Addr}{fs fs':List (Str×V)}
theorem sN{K:Za}(hok:ng P w K H h)(e:H a=some (.ins C dx fs)):∃mA,Ct h a dx C mA/\(∀f,lH (fs.lookup f) (mA f))/\PySem.Within mA (fs.map (·.1))/\fs.length<=1000/\H dx=some (.own a):=by
 obtain⟨d,z,ne,ob,mA,n,r,q⟩:=(show bW P w K H h a (.ins C dx fs)from hok a _ e);exact⟨mA,⟨ob,n,ne⟩,r,q,z,d⟩
end
structure DP(K:Za)(C:Addr):Prop where
 pg:wa K C Str.empty=true
 hd:zj K C=true
 po:CO K C=true
 sa:dL K (.ref C) "__setattr__"=some (some (.builtin "object.__setattr__"))
theorem DP.get{K:Za}{C:Addr}(c:DP K C)(f:Str):wa K C f=true:=c.pg
def d_(K:Za)(C:Addr)(f:Str):Prop:=dL K (.ref C) f=some none
theorem d_.taker{K:Za}{C:Addr}{f:Str}(n:d_ K C f):PySem.W.takerIn K C f=some none:=by
 unfold PySem.W.takerIn;rw[show dL K (.ref C) f=some none from n]
 rfl
structure IC(K:Za)(C:Addr)(m:Str)(f:Addr):Prop where
 at_:dL K (.ref C) m=some (some (.ref f))
 fn:zh K (.ref f)=true
 kp:iP K (.ref f)=true
section
variable{X:Cx}{J3:Zd}{σ:St}{H:Hp}{s:Shared}{a C dx:Addr}{fs:List (Str×V)}{f:Str}{v:V}{A:Around}{E:Zc}
theorem Cb{b:Bool}{Q:Zc}(I:Inv X J3 σ H s)(e:H a=some (.ins C dx fs))(c:DP X.K C)(n:d_ X.K C f)(l:fs.lookup f=some v)
  (h:∀u s',Inv X J3 σ H s'->RelV v u->Q u s'):wpAny (model X.prog X.w) A (getAttr (.ref a) f b) Q E s:=by
 obtain⟨mA,O,r,_,_,_⟩:=sN I.hok e;obtain⟨u,hu,ru⟩:=lH.some_of (v:=v) (o:=mA f) (by rw[<-l];exact r f);exact Ih I.kIn O (c.get f) c.hd n hu (EJ ru) (h u _ (I.tok _) ru)
theorem uT{m:Str}{g:Addr}{pl:Sem Bool}{Q:Value×List Value->Shared->Prop}(I:Inv X J3 σ H s)(e:H a=some (.ins C dx fs))(c:DP X.K C)(k:IC X.K C m g)(l:fs.lookup m=none)
  (h:Q (.ref g,[.ref a]) s):wpAny (model X.prog X.w) A (rJ (.ref a) m pl) Q E s:=by
 obtain⟨mA,O,r,_,_,_⟩:=sN I.hok e;have hn:mA m=none:=lH.none_of (by rw[<-l];exact r m);exact Gz I.kIn O (c.get m) k.at_ k.fn hn h
theorem By{y:V}{u:Value}{Q:Unit->Shared->Prop}(I:Inv X J3 σ H s)(e:H a=some (.ins C dx fs))(c:DP X.K C)(n:d_ X.K C f)(hl:fs.length<1000)(ry:RelV y u)
  (h:∀s',Inv X J3 σ (upd H a (.ins C dx (cK f y fs))) s'->Q () s'):wpAny (model X.prog X.w) A (setAttr (.ref a) f u) Q E s:=by
 obtain⟨mA,O,r,wi,_,ho⟩:=sN I.hok e;have hz:(fs.map (·.1)).length<=ai:=by rw[aj,jh];omega
 refine Hq I.kIn O c.sa c.po n.taker c.hd wi hz fun h' O' sb=>h _ ?_;have hd:∃o,h'.get? dx=some o:=let⟨o,_,_,e',_⟩:=O'.ns;⟨o,e'⟩;refine I.write (x:=a) (e:=dx) (by rw[e];exact jg) (.inr ho) (fun b q hb z=>(sb.2 b hb).trans z) hd ?_;refine⟨by rw[ag O.ne];exact ho,?_,O.ne,O'.obj,_,O'.ns,fun g=>?_,fun g hg=>?_⟩
 ·have:=rX f y fs;omega
 ·show lH ((cK f y fs).lookup g) (if g=f then some u else mA g)
  rw[eO];by_cases q:g=f
  ·rw[if_pos q,if_pos q];exact ry
  ·rw[if_neg q,if_neg q];exact r g
 ·by_cases q:g=f
  ·rw[q];exact(rc f y fs).1
  ·refine(rc f y fs).2 g (wi g fun z=>hg ?_);show(if g=f then some u else mA g)=none
   rw[if_neg q];exact z
theorem Inv.made(I:Inv X J3 σ H s):Inv X J3 σ (upd (upd H s.heap.objs.size (.own (s.heap.objs.size+1))) (s.heap.objs.size+1) (.ins C s.heap.objs.size []))
  { s with heap:=(s.heap.push pb).push (rO C s.heap.objs.size) }:=by
 have e1:(s.heap.push pb).get? s.heap.objs.size=some pb:=cG s.heap rfl;have e2:((s.heap.push pb).push (rO C s.heap.objs.size)).get? (s.heap.objs.size+1)=some (rO C s.heap.objs.size):=by
  have:=cG (s.heap.push pb) (o:=rO C s.heap.objs.size) rfl;rwa[o_]at this
 have e3:(s.heap.push pb).Ns s.heap.objs.size (fun _=>none):=⟨pb,#[],_,e1,rfl,(fun e he=>absurd he (by simp)),fun _=>rfl⟩;have I1:=I.laid (a:=s.heap.objs.size) (o:=.own (s.heap.objs.size+1)) (h':=s.heap.push pb) (t':=s.toks) (fun b u q=>bx _ q) (aA _) ⟨_,e1⟩;refine I1.laid (a:=s.heap.objs.size+1) (o:=.ins C s.heap.objs.size []) (t':=s.toks) (fun b u q=>bx _ q) (Nat.le_of_eq (o_ _ _)) ?_;have ne:s.heap.objs.size≠s.heap.objs.size+1:=cY (Nat.lt_succ_self _);refine⟨by rw[ag ne,aa],cX _,ne,e2,fun _=>none,(Heap.Ns1.of_empty e3).at fun o q=>bx _ q,fun _=>jg,fun y hy=>absurd rfl hy⟩
theorem Ir{prog:cg}{w:World}{env:Env}{e:Expr}{f:Str}{pos:Pos}{s:Shared}{Q:Zc}(hb:sS e f env (eval e env)=eval e env)
  (h:wpAny (model prog w) A (eval e env) (fun o s₁=>wpAny (model prog w) A (getAttr o f true) Q E s₁) E s):wpAny (model prog w) A (eval (.Attribute e f pos) env) Q E s :=
 Attribute_any_ h (by rw[arm_eval_Attribute,hb])
end
def gk(K:Za)(ta:TE)(f:Str):TE:=fun σ H Q=>ta σ H fun x H1=>∃a C dx fs v,x=.ref a/\H1 a=some (.ins C dx fs)/\DP K C/\d_ K C f/\fs.lookup f=some v/\Q v H1
def pJ(K:Za)(ta tv:TE)(f:Str):TS:=fun D σ H=>tv σ H fun y H1=>ta σ H1 fun x H2=>∃a C dx fs,x=.ref a/\H2 a=some (.ins C dx fs)/\DP K C/\d_ K C f/\fs.length<1000 /\
 D.nx σ (upd H2 a (.ins C dx (cK f y fs)))
section
variable{X:Cx}{o e value:Expr}{f:Str}{pos pos' J7:Pos}{ta tv:TE}
theorem cy(he:PE X e ta)(hb:sS e f X.env (eval e X.env)=eval e X.env):PE X (.Attribute e f pos) (gk X.K ta f):=by
 intro J3 s σ H Q I h;refine Ir hb (cI (he J3 s σ H _ I h) fun u s1 ⟨x,H1,I1,rx,a,C,dx,fs,v,ex,ea,c,n,l,q⟩=>?_);subst ex;obtain rfl:u=Value.ref a:=rx;exact Cb I1 ea c n l fun u' s2 I2 ru=>⟨v,H1,I2,ru,q⟩
theorem gX(ha:PE X o ta)(hv:PE X value tv)(hs:rL value (some (.Attribute o f pos')) pos.line X.env=pure false):PS X (.Assign [.Attribute o f pos'] value pos) (pJ X.K ta tv f):=by
 intro J3 s σ H D I h;refine plainObj_wpAny_Assign_Attribute (cI (hv J3 s σ H _ I h) fun u s1 ⟨y,H1,I1,ry,q⟩=>cI (ha J3 s1 σ H1 _ I1 q) fun ov s2 ⟨x,H2,I2,rx,a,C,dx,fs,ex,ea,c,n,l,q2⟩=>?_) hs;subst ex;obtain rfl:ov=Value.ref a:=rx;exact By I2 ea c n l ry fun s3 I3=>⟨σ,_,I3,q2⟩
end
section
variable{X:Cx}{J3:Zd}{σ:St}{H:Hp}{s:Shared}{A:Around}{E:Zc}{Q:Zc}{c:Value}{b:Bool}
inductive lF(K:Za)(H:Hp):V->Value->Prop where
 |non:lF K H .non (.type "NoneType")
 |bl (x:Bool):lF K H (.bl x) (.type "bool")
 |int (i:Int):lF K H (.int i) (.type "int")
 |str (x:Str):lF K H (.str x) (.type "str")
 |flt (x:UInt64):lF K H (.flt x) (.type "float")
 |lst {a:Addr}{xs:List V}(e:H a=some (.lst xs)):lF K H (.ref a) (.type "list")
 |frz {a:Addr}{o:Obj}{xs:List V}(e:H a=some (.frz o (.lst xs))):lF K H (.ref a) (.type "list")
 |tup {a:Addr}{xs:List V}(e:H a=some (.tup xs)):lF K H (.ref a) (.type "tuple")
 |dK {a:Addr}{kvs:List (fC×V)}(e:H a=some (.dK kvs)):lF K H (.ref a) (.type "dict")
 |dT {a:Addr}{kvs:List (TK×V)}(e:H a=some (.dT kvs)):lF K H (.ref a) (.type "dict")
 |ins {a C dx:Addr}{fs:List (Str×V)}(e:H a=some (.ins C dx fs)) (cl:DP K C) (ha:dL K (.ref C) "__class__"=some (some (.builtin "object.__class__")))
   (hn:PySem.W.specialIn K (.builtin "object.__class__") "__get__"=some (some (.builtin "getset_descriptor.__get__"))) (htk:PySem.W.takesIn K (.builtin "object.__class__")=some true)
   (hm:PySem.W.mroIn K C (.type "object")=some true):lF K H (.ref a) (.ref C)
theorem EE{x:V}{u t:Value}(I:Inv X J3 σ H s)(rx:RelV x u)(ty:lF X.K H x t)(e:CN X.K t c=some b)(h:∀tk,Q (.bool b) { s with toks:=tk }):
  wpAny (model X.prog X.w) A (call (.builtin "isinstance") [u,c]) Q E s:=by
 cases ty with
 |non=>cases(show u=Value.none from rx);exact jT PySem.W.kitx_none I.kIn jg e (fun z=>nomatch z) h
 |bl y=>cases(show u=Value.bool y from rx);exact jT PySem.W.kitx_bool I.kIn jg e (fun z=>nomatch z) h
 |int i=>obtain⟨t,q⟩:=(show ∃t,u=Value.int i t from rx);cases q;exact jT PySem.W.kitx_int I.kIn jg e (fun z=>nomatch z) h
 |str y=>obtain⟨t,q⟩:=(show ∃t,u=Value.str y t from rx);cases q;exact jT PySem.W.kitx_str I.kIn jg e (fun z=>nomatch z) h
 |flt y=>obtain⟨t,q⟩:=(show ∃t,u=Value.float y t from rx);cases q;exact jT PySem.W.kitx_float I.kIn jg e (fun z=>nomatch z) h
 |@lst a xs ea =>
  cases(show u=Value.ref a from rx);obtain⟨_,_,n,_,h1⟩:=(show bW X.prog X.w X.K H s.heap a (.lst xs)from I.hok a _ ea);exact jT PySem.W.kitx_list I.kIn ⟨_,h1,rfl⟩ e (fun z=>nomatch z) h
 |@frz a ob xs ea =>
  cases(show u=Value.ref a from rx);obtain⟨_,_,_,n,_,h1⟩:=(show bW X.prog X.w X.K H s.heap a (.frz ob (.lst xs))from I.hok a _ ea);exact jT PySem.W.kitx_list I.kIn ⟨_,h1,rfl⟩ e (fun z=>nomatch z) h
 |@tup a xs ea =>
  cases(show u=Value.ref a from rx);obtain⟨_,_,_,p⟩:=(show bW X.prog X.w X.K H s.heap a (.tup xs)from I.hok a _ ea);obtain⟨o,h1,h2,_⟩:=p;exact jT PySem.W.kitx_tuple I.kIn ⟨o,h1,h2⟩ e (fun z=>nomatch z) h
 |@dK a kvs ea =>
  cases(show u=Value.ref a from rx);obtain⟨_,_,vs,_,p⟩:=(show bW X.prog X.w X.K H s.heap a (.dK kvs)from I.hok a _ ea);obtain⟨o,es,ep,h1,h2,_⟩:=p;exact jT PySem.W.kitx_dict I.kIn ⟨o,h1,h2.1⟩ e (fun z=>nomatch z) h
 |@dT a kvs ea =>
  cases(show u=Value.ref a from rx);obtain⟨_,_,xs,_,o,es,ep,h1,h2,_⟩:=(show bW X.prog X.w X.K H s.heap a (.dT kvs)from I.hok a _ ea);exact jT PySem.W.kitx_dict I.kIn ⟨o,h1,h2.1⟩ e (fun z=>nomatch z) h
 |@ins a C dx fs ea cl ha hn htk hm =>
  cases(show u=Value.ref a from rx);obtain⟨mA,O,_⟩:=sN I.hok ea;obtain⟨od,J,_⟩:=O.look;exact jT (PySem.W.kitx_own (cl.get _) cl.hd ha hn htk hm) I.kIn J e (fun z=>nomatch z) h
end
end L2
namespace L2
open PySem PySem.Spec PyProof.Rows
structure eZ(k:Nat)(A:Around):Prop where
 hd:A.handled=none
 dp:A.depth+3 * k+5<recursionLimit
 un:A.units+16 * k+200<cLine
theorem eZ.mono{j k:Nat}{A:Around}(r:eZ k A)(h:j<=k):eZ j A:=⟨r.hd,by have:=r.dp;omega,by have:=r.un;omega⟩
theorem eZ.deeper{k:Nat}{A:Around}(r:eZ (k+1) A)(env:Env):eZ k (A.deeper env) :=
 ⟨r.hd,by have:=r.dp;show A.depth+1+3 * k+5<_;omega,by have:=r.un;show A.units+3+16 * k+200<_;omega⟩
theorem BU{A:Around}{C:Addr}{us:Zf}{kw:List (Str×Value)}:(A.under (.builtin "type.__call__" ⟨.ref C::us,kw⟩)).depth=A.depth+1:=by
 first|rfl|simp[Around.under,Code.weight,Code.isCreation,Code.isGuard,Code.isCaller,Code.frames,Code.isFrame,guardIds]
theorem BT{A:Around}{C:Addr}{us:Zf}{kw:List (Str×Value)}:(A.under (.builtin "type.__call__" ⟨.ref C::us,kw⟩)).units=A.units+1:=by
 first|rfl|simp[Around.under,Code.cUnits,Code.frames,Code.isFrame]
theorem eZ.make{k:Nat}{A:Around}(r:eZ (k+1) A)(C:Addr)(us:Zf)(kw:List (Str×Value)):eZ k (A.under (.builtin "type.__call__" ⟨.ref C::us,kw⟩)) :=
 ⟨r.hd,by have:=r.dp;rw[BU];omega,by have:=r.un;rw[BT];omega⟩
theorem eZ.depth{k:Nat}{A:Around}(r:eZ k A):A.depth<recursionLimit:=by have:=r.dp;omega
theorem eZ.units{k:Nat}{A:Around}(r:eZ k A):A.units+64<cLine:=by have:=r.un;omega
def bh:TA:=fun _ H Q=>Q [] H
def au(ta:TE)(tr:TA):TA:=fun σ H Q=>ta σ H fun x H1=>tr σ H1 fun xs H2=>Q (x::xs) H2
abbrev ay(a:TE):TA:=au a bh
abbrev aO(a b:TE):TA:=au a (au b bh)
abbrev dW(a b c:TE):TA:=au a (au b (au c bh))
section
variable{X:Cx}{e:Expr}{es:List Expr}{te:TE}{t:TA}{pos:Pos}
theorem cn:PA X [] bh:=fun _ _ _ _ H Q I h=>Calls.spliced_nil ⟨[],H,I,.nil,h⟩
theorem b0(ha:PE X e te)(hr:PA X es t)(hs:aN (e::es) X.env=(false,eval e X.env)::aN es X.env:=by rfl):PA X (e::es) (au te t):=by
 intro pos J3 s σ H Q I h;rw[hs];show wpAny _ _ (spliced ((false,eval e X.env)::backTo pos (aN es X.env))) _ _ s;refine CM (cI (ha J3 s σ H _ I h) fun u s1 ⟨x,H1,I1,r1,q1⟩=>?_);exact cI (hr pos J3 s1 σ H1 _ I1 q1) fun us s2 ⟨xs,H2,I2,r2,q2⟩=>⟨x::xs,H2,I2,.cons r1 r2,q2⟩
def bw(t:TA):TE:=fun σ H Q=>t σ H fun xs H1=>xs.length<=ai/\∀p,H1 p=none->Q (.ref p) (upd H1 p (.tup xs))
def dA(t:TA):TE:=fun σ H Q=>t σ H fun xs H1=>xs.length<=ai/\∀p,H1 p=none->Q (.ref p) (upd H1 p (.lst xs))
theorem aE{x1}(h:PA X es t):PE X (.Tuple es x1 pos) (bw t):=by
 intro J3 s σ H Q I hq;refine wpAny_Tuple_spliced (cI (h pos J3 s σ H _ I hq) fun us s1 ⟨xs,H1,I1,r,z,q⟩=>⟨by rw[<-r.length];exact z,?_⟩);have hf:H1 s1.heap.objs.size=none:=I1.hok.fresh (aA _);refine⟨.ref s1.heap.objs.size,upd H1 s1.heap.objs.size (.tup xs),I1.laid (t':=s1.toks) (fun b u e=>bx _ e) (aA _) ?_,rfl,q _ hf⟩;exact⟨z,us,r,⟨_,cG _ rfl,rfl,_,rfl⟩⟩
theorem bG(h:PA X es t):PE X (.List es pos) (dA t):=by
 intro J3 s σ H Q I hq;refine wpAny_List_spliced (cI (h pos J3 s σ H _ I hq) fun us s1 ⟨xs,H1,I1,r,z,q⟩=>⟨by rw[<-r.length];exact z,?_⟩);have hf:H1 s1.heap.objs.size=none:=I1.hok.fresh (aA _);refine⟨.ref s1.heap.objs.size,upd H1 s1.heap.objs.size (.lst xs),I1.laid (t':=s1.toks) (fun b u e=>bx _ e) (aA _) ?_,rfl,q _ hf⟩;exact⟨z,us,0,r,cG _ rfl⟩
end
abbrev Sp:=List V->Hp->VK->XK->Prop
abbrev Fh:=List Env->Hp->Shared->XK->Value->Shared->Prop
structure CH(P:cg)(w:World)(K:Za)(mg:Str->Option Value)(base:Heap)(A:Around)(outer:List Env)(s:Shared)(H:Hp):Prop where
 frames:A.frames=some outer
 mod:Mod K mg base
 bs:∀b o,base.get? b=some o->s.heap.get? b=some o/\H b=none
 bsz:base.objs.size<=s.heap.objs.size
 funs:s.heap.FunFrames base outer
 frf:∀b∈Fg outer,H b=none
 hok:ng P w K H s.heap
 bare:pc s.gens
def CE(outer:List Env)(P:cg)(w:World)(K:Za)(H:Hp)(s:Shared)(Q:VK)(u:Value)(s':Shared):Prop :=
 ∃v H',s'.os=s.os/\pc s'.gens/\Un (Fg outer) [] H H' s.heap s'.heap/\ng P w K H' s'.heap/\RelV v u/\Q v H'
def CR(CX:Fh)(outer:List Env)(P:cg)(w:World)(K:Za)(H:Hp)(s:Shared)(Q:VK)(E:XK)(r:Result)(s':Shared):Prop :=
 match r with
 |.ok (.ret u)=>CE outer P w K H s Q u s'
 |.ok _=>False
 |.error e=>CX outer H s E e s'
structure mG(P:cg)(w:World)(K:Za)(mg:Str->Option Value)(base:Heap)(CX:Fh)(k:Nat)(f:Addr)(fd:lh)(ps:Zb)(sp:Sp):Prop where
 len:∀vs H Q E,sp vs H Q E->vs.length=ps.length
 run:∀(A:Around) (outer:List Env) (s:Shared) (H:Hp) (args:Args) (us:Zf) (vs:List V) (Q:VK) (E:XK),eZ k A->CH P w K mg base A outer s H->sR s fd args (ps.zip us)->bf vs us->sp vs H Q E ->
  zzl79 (model P w) A (.call (.ref f) args) (CR CX outer P w K H s Q E) s
theorem CH.make{P:cg}{w:World}{K:Za}{mg:Str->Option Value}{base:Heap}{A:Around}{outer:List Env}{s:Shared}{H:Hp}(e:CH P w K mg base A outer s H)(C:Addr)(us:Zf)(kw:List (Str×Value)):
  CH P w K mg base (A.under (.builtin "type.__call__" ⟨.ref C::us,kw⟩)) outer s H:=⟨by first|exact e.frames|(simpa[Around.under,Code.envs,Code.isFrame,pushEnvs]using e.frames),e.mod,e.bs,e.bsz,e.funs,e.frf,e.hok,e.bare⟩
section
variable{X:Cx}{J3:Zd}{σ:St}{H:Hp}{s s':Shared}
theorem Inv.env0(I:Inv X J3 σ H s):CH X.prog X.w X.K X.mg X.base X.A X.stack s H :=
 ⟨I.ok.frames,I.ok.mod,I.bs,bC I.ok.bsz I.sz,I.stack,I.stkFree,I.hok,I.bare⟩
theorem Inv.after{Q:VK}{u:Value}(I:Inv X J3 σ H s)(h:CE X.stack X.prog X.w X.K H s Q u s'):EP X J3 σ Q u s':=by
 obtain⟨v,H',os,bare,un,hok,r,q⟩:=h;obtain⟨hh,g,d,t,os'⟩:=s';obtain rfl:os'=s.os:=os;exact⟨v,H',I.call (h':=hh) (g':=g) (d':=d) (t':=t) (ch:=[]) un hok bare (fun b z=>absurd z (by simp)),r,q⟩
end
def II(sp:Sp)(dvs:List V)(E:XK)(t:TA):TE:=fun σ H Q=>t σ H fun vs H1=>sp (vs++dvs) H1 Q E
def cZ(C:Addr)(m:Str)(sp:Sp)(dvs:List V)(E:XK)(ta:TE)(t:TA):TE:=fun σ H Q=>ta σ H fun x H1=>∃a dx fs,x=.ref a/\H1 a=some (.ins C dx fs)/\fs.lookup m=none /\
 t σ H1 fun vs H2=>sp (x::(vs++dvs)) H2 Q E
def zI(C:Addr)(sp:Sp)(dvs:List V)(E:XK)(t:TA):TE:=fun σ H Q=>t σ H fun vs H1=>∀x dx,H1 x=none->H1 dx=none->dx≠x ->
 sp (.ref x::(vs++dvs)) (upd (upd H1 dx (.own x)) x (.ins C dx [])) (fun v H2=>v=.non/\Q (.ref x) H2) E
def Binds(K:Za)(fd:lh)(ps:Zb)(ds:Zf):Prop :=
 ∀(s:Shared) (us:Zf),K.In s.heap->(us++ds).length=ps.length->sR s fd ⟨us,[]⟩ (ps.zip (us++ds))
theorem Binds.all{K:Za}{fd:lh}{ps:Zb}(h:∀us:List Value,us.length=ps.length->bindArgs fd ⟨us,[]⟩=pure (ps.zip us)):Binds K fd ps []:=fun s us _ hl=>by
 rw[dj]at hl ⊢;exact .of_eq (h us hl)
def oN(CX:Fh)(X:Cx)(E:XK):Prop:=∀(J3:Zd) (σ:St) (H:Hp) (s:Shared) (e:Value) (s':Shared),Inv X J3 σ H s->CX X.stack H s E e s'->X.xe e s'
section
variable{X:Cx}{CX:Fh}{k:Nat}{f C:Addr}{fd:lh}{ps:Zb}{sp:Sp}{dvs:List V}{ds:Zf}{E:XK}{x m:Str}{p pos J5:Pos}{e o:Expr}{es:List Expr}{ta:TE}{t:TA}
theorem BA{J3:Zd}{σ:St}{H:Hp}{s:Shared}{Q:VK}{us:Zf}{vs:List V}(F:mG X.prog X.w X.K X.mg X.base CX k f fd ps sp)(hr:eZ k X.A)(hb:Binds X.K fd ps ds)(hd:bf dvs ds)(hx:oN CX X E)
  (I:Inv X J3 σ H s) (r:bf vs us) (h:sp (vs++dvs) H Q E):wpAny (model X.prog X.w) X.A (call (.ref f) us) (EP X J3 σ Q) X.xe s:=by
 have r2:bf (vs++dvs) (us++ds):=r.append hd;have hl:(us++ds).length=ps.length:=by rw[<-r2.length];exact F.len _ _ _ _ h
 refine wpAny_call (CL (F.run X.A X.stack s H ⟨us,[]⟩ (us++ds) (vs++dvs) Q E hr I.env0 (hb s us I.kIn hl) r2 h) fun r s' hq=>?_);cases r with
 |error e=>exact hx J3 σ H s e s' I hq
 |ok fl =>
  cases fl with
  |ret u=>exact I.after hq
  |next=>exact jV hq
  |brk=>exact jV hq
  |cont=>exact jV hq
theorem HU(F:mG X.prog X.w X.K X.mg X.base CX k f fd ps sp)(hr:eZ k X.A)(hg:Gl X x)(hm:X.mg x=some (.ref f))(hk:iP X.K (.ref f)=true)(hb:Binds X.K fd ps ds)(hd:bf dvs ds)(hx:oN CX X E)
  (ha:PA X (e::es) t) (hdb:(x==("__debug__":Str))=false:=by decide) (he:aN (e::es) X.env=(false,eval e X.env)::aN es X.env:=by rfl) (hpl:(backTo pos (aN es X.env)).any (·.1)=false:=by rfl) :
  PE X (.Call (.Name x p) (e::es) [] pos) (II sp dvs E t):=by
 intro J3 s σ H Q I h;refine CK (yu I hg hm ?_ hdb);refine PySem.W.callWith_K (h₀:=X.base) I.ok.mod.kin hk (cI (ha pos J3 s σ H _ I h) fun us s1 ⟨vs,H1,I1,r,q⟩=>⟨I1.kIn,?_⟩) he hpl;exact BA F hr hb hd hx I1 r q
theorem HP{pl:Sem Bool}(he:PE X o ta)(c:DP X.K C)(hm:IC X.K C m f)(F:mG X.prog X.w X.K X.mg X.base CX k f fd ps sp)(hr:eZ k X.A)(hb:Binds X.K fd ps ds)(hd:bf dvs ds)(hx:oN CX X E)(ha:PA X (e::es) t)
  (hst:aN (e::es) X.env=(false,eval e X.env)::aN es X.env:=by rfl) (hpl:(backTo pos (aN es X.env)).any (·.1)=false:=by rfl)
  (ht:eval (.Call (.Attribute o m J5) (e::es) [] pos) X.env=(do
   let ov <- eval o X.env
   rM J5.atName
   let(f,first) <- lJ [ov] (rJ ov m pl)
   v_ pos f first (backTo pos (aN (e::es) X.env)) (o9 pos (o8 [] X.env))):=by rfl) :
  PE X (.Call (.Attribute o m J5) (e::es) [] pos) (cZ C m sp dvs E ta t):=by
 intro J3 s σ H Q I h;refine PySem.W.methodCall_KW (pl:=pl) (cI (he J3 s σ H _ I h) fun u s1 ⟨x,H1,I1,rx,a,dx,fs,ex,ea,l,q⟩=>?_) ht;subst ex;obtain rfl:u=Value.ref a:=rx;refine uT I1 ea c hm l ?_;refine PySem.W.callWith_K (first:=[.ref a]) (h₀:=X.base) I.ok.mod.kin hm.kp (cI (ha pos J3 s1 σ H1 _ I1 q) fun us s2 ⟨vs,H2,I2,r,q2⟩=>⟨I2.kIn,?_⟩) hst hpl
 exact BA (us:=.ref a::us) (vs:=.ref a::vs) F hr hb hd hx I2 (.cons rfl r) q2
theorem FX{pl:Sem Bool}(he:PE X o ta)(c:DP X.K C)(hm:IC X.K C m f)(F:mG X.prog X.w X.K X.mg X.base CX k f fd ps sp)(hr:eZ k X.A)(hb:Binds X.K fd ps ds)(hd:bf dvs ds)(hx:oN CX X E)
  (ht:eval (.Call (.Attribute o m J5) [] [] pos) X.env=(do
   let ov <- eval o X.env
   rM J5.atName
   let(f,first) <- lJ [ov] (rJ ov m pl)
   v_ pos f first (backTo pos (aN [] X.env)) (o9 pos (o8 [] X.env))):=by rfl) :
  PE X (.Call (.Attribute o m J5) [] [] pos) (cZ C m sp dvs E ta bh):=by
 intro J3 s σ H Q I h;refine PySem.W.methodCall_KW (pl:=pl) (cI (he J3 s σ H _ I h) fun u s1 ⟨x,H1,I1,rx,a,dx,fs,ex,ea,l,q⟩=>?_) ht;subst ex;obtain rfl:u=Value.ref a:=rx;refine uT I1 ea c hm l ?_;exact PySem.W.callWith_K0 (first:=[.ref a]) I1.kIn hm.kp (BA (us:=[.ref a]) (vs:=[.ref a]) F hr hb hd hx I1 (.cons rfl .nil) q)
structure Mk(K:Za)(C f:Addr):Prop where
 makes:sT K C=true
 init:dL K (.ref C) "__init__"=some (some (.ref f))
 fn:zh K (.ref f)=true
 kp:iP K (.ref C)=true
theorem Fy{J3:Zd}{σ:St}{H:Hp}{s:Shared}{Q:VK}{us:Zf}{vs:List V}(M:Mk X.K C f)(F:mG X.prog X.w X.K X.mg X.base CX k f fd ps sp)(hr:eZ (k+1) X.A)(hb:Binds X.K fd ps ds)(hd:bf dvs ds)
  (hx:oN CX X E) (I:Inv X J3 σ H s) (r:bf vs us)
  (h:∀x dx,H x=none->H dx=none->dx≠x->sp (.ref x::(vs++dvs)) (upd (upd H dx (.own x)) x (.ins C dx [])) (fun v H2=>v=.non/\Q (.ref x) H2) E) :
  wpAny (model X.prog X.w) X.A (call (.ref C) us) (EP X J3 σ Q) X.xe s:=by
 have hq:=h (s.heap.objs.size+1) s.heap.objs.size (I.hok.fresh (sQ _)) (I.hok.fresh (aA _)) (cY (Nat.lt_succ_self _));have I2:=Inv.made (C:=C) I;have r2:bf (V.ref (s.heap.objs.size+1)::(vs++dvs)) (Value.ref (s.heap.objs.size+1)::(us++ds)):=.cons rfl (r.append hd);have hl:(Value.ref (s.heap.objs.size+1)::us++ds).length=ps.length:=by
  have e:=r2.length;rw[F.len _ _ _ _ hq]at e;exact e.symm
 refine wpAny_call (Gn (f:=f) I.kIn M.makes M.init (beq_iff_eq.mp M.fn) (CL (F.run _ X.stack _ _ ⟨Value.ref (s.heap.objs.size+1)::us,[]⟩ (Value.ref (s.heap.objs.size+1)::(us++ds)) _ _ E (hr.make C us [])
  (I2.env0.make C us []) (hb _ (Value.ref (s.heap.objs.size+1)::us) I2.kIn hl) r2 hq) fun r s' hq'=>?_))
 cases r with
 |error e=>exact hx J3 σ _ _ e s' I2 hq'
 |ok fl =>
  cases fl with
  |ret u =>
   obtain⟨v,H',I3,rv,ev,q3⟩:=I2.after hq';subst ev;exact⟨rv,⟨V.ref (s.heap.objs.size+1),H',I3,rfl,q3⟩⟩
  |next=>exact jV hq'
  |brk=>exact jV hq'
  |cont=>exact jV hq'
theorem HQ(M:Mk X.K C f)(F:mG X.prog X.w X.K X.mg X.base CX k f fd ps sp)(hr:eZ (k+1) X.A)(hg:Gl X x)(hm:X.mg x=some (.ref C))(hb:Binds X.K fd ps ds)(hd:bf dvs ds)(hx:oN CX X E)
  (ha:PA X (e::es) t) (hdb:(x==("__debug__":Str))=false:=by decide) (he:aN (e::es) X.env=(false,eval e X.env)::aN es X.env:=by rfl) (hpl:(backTo pos (aN es X.env)).any (·.1)=false:=by rfl) :
  PE X (.Call (.Name x p) (e::es) [] pos) (zI C sp dvs E t):=by
 intro J3 s σ H Q I h;refine CK (yu I hg hm ?_ hdb);refine PySem.W.callWith_K (h₀:=X.base) I.ok.mod.kin M.kp (cI (ha pos J3 s σ H _ I h) fun us s1 ⟨vs,H1,I1,r,q⟩=>⟨I1.kIn,?_⟩) he hpl;exact Fy M F hr hb hd hx I1 r q
end
structure k4(N P:Zb)(sc:Scope):Prop where
 kind:sc.kind=.function
 co:sc.isCoroutine=false
 gen:sc.isGenerator=false
 nd:N.Nodup
 pre:N.take P.length=P
 par:∀x∈P,sc.names.lookup x=some .local∨sc.names.lookup x=some .cell
 nofree:∀y∈sc.names,y.2≠.free
theorem wS{kindOf:Str->Option jS}{x:Str}:∀{binds:List (Str×Value)}{m:Str->Option Value},(∀v,(x,v)∉binds)->bindL kindOf binds m x=m x
 |[],_,_=>rfl
 | (n,v)::r,m,h=>by
  unfold bindL;rw[wS fun w hw=>h w (eI _ hw)];split
  ·have:x≠n:=by rintro rfl;exact h v dU
   simp[this]
  ·rfl
theorem wU{kindOf:Str->Option jS}{x:Str}:∀{binds:List (Str×Value)}{m:Str->Option Value},(∀v,(x,v)∉binds)->bindC kindOf binds m x=m x
 |[],_,_=>rfl
 | (n,v)::r,m,h=>by
  unfold bindC;rw[wU fun w hw=>h w (eI _ hw)];split
  ·rfl
  ·have:x≠n:=by rintro rfl;exact h v dU
   simp[this]
theorem wT{kindOf:Str->Option jS}{x:Str}{v:Value}:∀{P:Zb}{vs:Zf}{i:Nat}{m:Str->Option Value},P.Nodup->P[i]?=some x->vs[i]?=some v->kindOf x=some .local ->
  bindL kindOf (P.zip vs) m x=some v
 |[],_,_,_,_,h,_,_=>by simp at h
 |_::_,[],_,_,_,_,h,_=>by simp at h
 |p::P,w::vs,0,m,nd,h1,h2,hk=>by
  simp at h1 h2;subst h1;subst h2;show bindL kindOf ((p,w)::P.zip vs) m p=_;unfold bindL;rw[wS fun v hv=>(io.mp nd).1 (List.of_mem_zip hv).1,if_pos hk];simp
 |p::P,w::vs,i+1,m,nd,h1,h2,hk=>by
  show bindL kindOf ((p,w)::P.zip vs) m x=_;unfold bindL;exact wT (i:=i) (io.mp nd).2 (by simpa using h1) (by simpa using h2) hk
theorem wV{kindOf:Str->Option jS}{x:Str}{v:Value}:∀{P:Zb}{vs:Zf}{i:Nat}{m:Str->Option Value},P.Nodup->P[i]?=some x->vs[i]?=some v->kindOf x≠some .local ->
  bindC kindOf (P.zip vs) m x=some v
 |[],_,_,_,_,h,_,_=>by simp at h
 |_::_,[],_,_,_,_,h,_=>by simp at h
 |p::P,w::vs,0,m,nd,h1,h2,hk=>by
  simp at h1 h2;subst h1;subst h2;show bindC kindOf ((p,w)::P.zip vs) m p=_;unfold bindC;rw[wU fun v hv=>(io.mp nd).1 (List.of_mem_zip hv).1,if_neg hk];simp
 |p::P,w::vs,i+1,m,nd,h1,h2,hk=>by
  show bindC kindOf ((p,w)::P.zip vs) m x=_;unfold bindC;exact wV (i:=i) (io.mp nd).2 (by simpa using h1) (by simpa using h2) hk
def start(N:Zb)(vs:List V):St:=vs.map some++List.replicate (N.length-vs.length) none
def Ch(CX:Fh)(P:cg)(w:World)(K:Za)(mg:Str->Option Value)(base:Heap)(N:Zb)(qual:Str)(scope:Scope)(f:Addr)(cd:Value)(A:Around)(outer:List Env)(s:Shared)(H:Hp)(E:XK):Cx where
 prog:=P
 w:=w
 K:=K
 mg:=mg
 base:=base
 A:=A.deeper (envOfC qual scope s.heap.objs.size f cd)
 N:=N
 s₀:=s
 H₀:=H
 env:=envOfC qual scope s.heap.objs.size f cd
 outer:=outer
 stack:=envOfC qual scope s.heap.objs.size f cd::outer
 ex:=[]
 calm:=true
 fn:=fun _=>true
 pn:=[]
 xe:=fun e s'=>wpAny (model P w) (A.deeper (envOfC qual scope s.heap.objs.size f cd)) (leaving (envOfC qual scope s.heap.objs.size f cd) e) (fun _ s''=>CX outer H s E e s'') (fun e' s''=>CX outer H s E e' s'') s'
theorem AO{sc:Scope}{n:Nat}{x:Str}(h:sc.names.lookup x=some .cell):∃c,(cellsFrom n sc.names []).lookup x=some c:=by
 have q:=PySem.W.cellsFrom_some sc.names n [] (.inl h);exact xL.mp q
theorem EH{CX:Fh}{P:cg}{w:World}{K:Za}{mg:Str->Option Value}{base:Heap}{N ps:Zb}{qual:Str}{scope:Scope}{f:Addr}{cd:Value}{A:Around}{outer:List Env}{s s1:Shared}{H:Hp}{E:XK}{us:Zf}{vs:List V}
  (S:k4 N ps scope) (hd:A.handled=none) (e0:CH P w K mg base A outer s H) (hl:vs.length=ps.length) (r:bf vs us)
  (x:InCallC s s.heap.objs.size (bindL (envOfC qual scope s.heap.objs.size f cd).kindOf (ps.zip us) fun _=>none) (cellsFrom (s.heap.objs.size+1) scope.names []) (bindC (envOfC qual scope s.heap.objs.size f cd).kindOf (ps.zip us) fun _=>none) s1) :
  Inv (Ch CX P w K mg base N qual scope f cd A outer s H E) [] (start N vs) H s1:=by
 have hpl:ps.length<=N.length:=by have:=congrArg List.length S.pre;rw[aG]at this;omega
 obtain⟨h1,tk,rfl,hk⟩:=x.done;have noA:∀b:Addr,b∉(Ch CX P w K mg base N qual scope f cd A outer s H E).ex:=fun b z=>absurd (show b∈([]:Ze)from z) (by simp);refine⟨⟨e0.mod,S.kind,rfl,rfl,aA _,fun y z c h1 h2=>?_,fun y hy=>?_,fun y c _ h=>?_,fun _=>hd,Around.frames_deeper e0.frames,.inr ⟨rfl,rfl⟩,fun b z=>absurd z (noA b),e0.bs,e0.bsz,fun b _ _=>noA b,fun b z=>absurd z (noA b),e0.funs,e0.frf⟩,
  rfl,e0.bare,Un.kept hk,⟨_,x.toInCall.ns,fun i y v h1 h2 h3=>?_⟩,fun y c h=>⟨_,x.cell y c h⟩,e0.hok.fresh (aA _),fun y c h=>?_,fun p hp=>absurd (show p∈([]:Zd)from hp) (by simp),e0.hok.kept hk,?_⟩
 ·exact name_of_addr x.apart (tN h1) (tN h2)
 ·have hy:scope.names.lookup y=some .cell∨scope.names.lookup y=some .free:=hy;rcases hy with hy|hy
  ·exact AO hy
  ·exact absurd rfl (S.nofree _ (tN hy))
 ·exact fb (x.above y c (tN h))
 ·have hi:i<vs.length:=by
   unfold start at h2;by_cases hi:i<vs.length
   ·exact hi
   ·rw[n6 (by simpa using hi)]at h2;rw[List.getElem?_replicate]at h2;split at h2<;>cases h2
  have ha:vs[i]?=some v:=by
   unfold start at h2;rw[fk (by simpa using hi),bQ]at h2;cases e:vs[i]? with
   |none=>rw[e]at h2;cases h2
   |some a=>rw[e]at h2;cases h2;rfl
  obtain⟨u,hu,rv⟩:=r.get ha;have hp:ps[i]?=some y:=by
   rw[<-S.pre,List.getElem?_take_of_lt (by omega)];exact h1
  have ndP:ps.Nodup:=by rw[<-S.pre];exact S.nd.sublist (List.take_sublist _ _)
  refine⟨u,rv,?_⟩;rcases S.par y (aZ hp)with k|k
  ·exact .inl ⟨k,wT ndP hp hu k⟩
  ·obtain⟨c,e⟩:=AO (n:=s.heap.objs.size+1) k;refine .inr ⟨.inl k,c,e,?_⟩;have q:=x.cell y c e;rw[wV ndP hp hu (by show scope.names.lookup y≠_;rw[k];decide)]at q;exact q
 ·exact e0.hok.fresh (fb (x.above y c (tN h)))
 ·unfold start;show _=N.length;rw[aK,aj,List.length_replicate];omega
theorem JY{CX:Fh}{P:cg}{w:World}{K:Za}{mg:Str->Option Value}{base:Heap}{k:Nat}{f:Addr}{name qual:Str}{params:Arguments}{body:List Stmt}{scope:Scope}{dV kV doc pm cdv ct oc:Value}{an od:Option Addr}
  {osl:Array (Option Value)}{N ps:Zb}{sp:Sp}(lk:K.lookup f=some ⟨oc,od,.func (iW name qual params body scope dV kV doc pm an cdv ct),osl⟩) (hcd:n5 K cdv qual=true) (S:k4 N ps scope)
  (len:∀vs H Q E,sp vs H Q E->vs.length=ps.length)
  (hbody:∀(A:Around) (outer:List Env) (s:Shared) (H:Hp) (vs:List V) (Q:VK) (E:XK),eZ k (A.deeper (envOfC qual scope s.heap.objs.size f cdv))->sp vs H Q E ->
   ∃t,A_ (Ch CX P w K mg base N qual scope f cdv A outer s H E) body t/\t (bJ Q) (start N vs) H) :
  mG P w K mg base CX (k+1) f (iW name qual params body scope dV kV doc pm an cdv ct) ps sp:=by
 refine⟨len,fun A outer s H args us vs Q E hr e0 hb r hsp=>?_⟩;have hl:=len _ _ _ _ hsp;have KX:K.In s.heap:=e0.mod.kin.keeps fun b o e=>(e0.bs b o e).1;have lim:s.heap.NoLimit:=e0.mod.nolimit.keeps fun b o e=>(e0.bs b o e).1;have hkind:∀y∈ps.zip us,scope.names.lookup y.1=some .local∨(scope.names.lookup y.1=some .cell/\((cellsFrom (s.heap.objs.size+1) scope.names []).lookup y.1).isSome=true):=fun⟨n,v⟩ hy=>by
  rcases S.par n (List.of_mem_zip hy).1 with q|q
  ·exact .inl q
  ·exact .inr ⟨q,PySem.W.cellsFrom_some _ _ _ (.inl q)⟩
 refine codeAny_call_function hr.depth (KX _ _ lk) rfl S.co S.gen rfl (PySem.W.codeRec_of KX hcd) (hb _ _ _ _ ?_);refine wpAny_newFunctionEnv_cells S.kind hkind fun env he s1 x=>?_;subst he;refine⟨lim.keeps x.toInCall.keep,codeAny_func ?_⟩;obtain⟨t,ht,hq⟩:=hbody A outer s H vs Q E (hr.deeper _) hsp;have I:Inv (Ch CX P w K mg base N qual scope f cdv A outer s H E) [] (start N vs) H s1:=EH S hr.hd e0 hl r x;refine pd (ht [] s1 (start N vs) H _ I hq) (fun fl s' hs=>?_) fun e s' hs=>hs;have fin:∀{σ':St}{H':Hp}{v:V}{u:Value},Inv (Ch CX P w K mg base N qual scope f cdv A outer s H E) [] σ' H' s'->RelV v u->Q v H'->CE outer P w K H s Q u s' :=
  fun{σ' H' v u} J rv q=>⟨v,H',J.os,J.bare,J.base,J.hok,rv,q⟩
 cases fl with
 |ret u =>
  obtain⟨v,σ',H',J,rv,q⟩:=hs;exact fin J rv q
 |next =>
  obtain⟨σ',H',J,q⟩:=hs;exact fin (v:=V.non) (u:=Value.none) J rfl q
 |brk =>
  obtain⟨_,_,_,q⟩:=hs;exact jV q
 |cont =>
  obtain⟨_,_,_,q⟩:=hs;exact jV q
end L2
namespace L2
open PySem PySem.Spec PyProof.Rows
section
variable{X:Cx}{x:Str}{p pos:Pos}{e:Expr}{es:List Expr}{t:TA}{id T:String}{r:List V->Hp->VK->Prop}
def dB(r:List V->Hp->VK->Prop)(t:TA):TE:=fun σ H Q=>t σ H fun vs H1=>r vs H1 Q
theorem Ak(hc:fg X (.builtin id) r)(hg:Gl X x)(hm:X.mg x=none)(hv:ji x=some (.builtin id))(ha:PA X (e::es) t)(hn:x≠"__name__":=by decide)(hdb:(x==("__debug__":Str))=false:=by decide)
  (he:aN (e::es) X.env=(false,eval e X.env)::aN es X.env:=by rfl) (hpl:(backTo pos (aN es X.env)).any (·.1)=false:=by rfl):PE X (.Call (.Name x p) (e::es) [] pos) (dB r t):=by
 intro J3 s σ H Q I h;refine CK (q_ I hg hm hv ?_ hn hdb);exact PyProof.Rows.callWith_builtin1 (cI (ha pos J3 s σ H _ I h) fun us s1 ⟨vs,H1,I1,r1,q1⟩=>hc J3 s1 σ H1 vs us Q I1 r1 q1) he hpl
theorem eW(hc:fg X (.type T) r)(hg:Gl X x)(hm:X.mg x=none)(hv:ji x=some (.type T))(ha:PA X (e::es) t)(hn:x≠"__name__":=by decide)(hdb:(x==("__debug__":Str))=false:=by decide)
  (he:aN (e::es) X.env=(false,eval e X.env)::aN es X.env:=by rfl) (hpl:(backTo pos (aN es X.env)).any (·.1)=false:=by rfl):PE X (.Call (.Name x p) (e::es) [] pos) (dB r t):=by
 intro J3 s σ H Q I h;refine CK (q_ I hg hm hv ?_ hn hdb);exact CQ (cI (ha pos J3 s σ H _ I h) fun us s1 ⟨vs,H1,I1,r1,q1⟩=>hc J3 s1 σ H1 vs us Q I1 r1 q1) he hpl
end
end L2
namespace HT
open PySem PyProof.Rows
section
variable{prog:cg}{w:World}{A:Around}{E:Zc}{s:Shared}
theorem cat_tup{t b:Addr}{vs ws:Zf}{Q:Zc}(ht:IsTup s.heap t vs.toArray)(hb:IsTup s.heap b ws.toArray)(hv:vs≠[])
  (h1:ws=[]->Q (.ref t) s) (h2:ws≠[]->Q (.ref s.heap.objs.size) { s with heap:=s.heap.push { cls:=.type "tuple",data:=.seq (vs++ws).toArray } })
  (hsz:vs.length+ws.length<=ai):wpAny (model prog w) A (jU .Add (.ref t) (.ref b)) Q E s:=by
 obtain⟨⟨cls,dd,data,sl⟩,ho,hc,n,hd⟩:=id ht;obtain⟨⟨cls2,dd2,data2,sl2⟩,ho2,hc2,n2,hd2⟩:=id hb;simp only at hc hd hc2 hd2;subst hc hd hc2 hd2;have e:vs.toArray++ws.toArray=(vs++ws).toArray:=by simp
 by_cases hw:ws=[]
 ·exact concat_meets ⟨_,ho,rfl⟩ ⟨_,ho2,rfl⟩ noFill_tuple_add seq_tuple_add PySem.F.slot_tuple_add PySem.F.entry_tuple_add (PySem.F.args_tuple_add_2 _ _)
   (tuple_addW1 t b vs.toArray ws.toArray n n2 dd dd2 sl sl2 (by simpa using hv) (by simp[hw])) ⟨ho,ho2,h1 hw⟩
 ·refine concat_meets ⟨_,ho,rfl⟩ ⟨_,ho2,rfl⟩ noFill_tuple_add seq_tuple_add PySem.F.slot_tuple_add PySem.F.entry_tuple_add (PySem.F.args_tuple_add_2 _ _)
   (tuple_addW2 t b vs.toArray ws.toArray n n2 dd dd2 sl sl2 (by simpa using hv) (by simpa using hw) (by rw[bN,bN];exact hsz)) ⟨ho,ho2,?_⟩
  rw[e];exact h2 hw
def sIx(n d:Nat):Option Int->Nat
 |none=>d
 |some v=>if v<0 then(v+(n:Int)).toNat else min v.toNat n
theorem sIx_none(n d:Nat):sIx n d none=d:=rfl
theorem sIx_nat(n d k:Nat):sIx n d (some (k:Int))=min k n:=by
 show(if(k:Int)<0 then((k:Int)+(n:Int)).toNat else min (k:Int).toNat n)=min k n
 rw[if_neg (by omega),jC]
theorem sIx_le(n d:Nat)(hd:d<=n)(o:Option Int):sIx n d o<=n:=by
 cases o with
 |none=>exact hd
 |some v =>
  show(if v<0 then(v+(n:Int)).toNat else min v.toNat n)<=n
  by_cases hv:v<0
  ·rw[if_pos hv];omega
  ·rw[if_neg hv];exact Nat.min_le_right _ _
theorem clip_eq(v:Int)(n d:Nat):(if v<0 then max (v+(n:Int)) 0 else min v (n:Int))=((sIx n d (some v):Nat):Int):=by
 show(if v<0 then max (v+(n:Int)) 0 else min v (n:Int))=(((if v<0 then(v+(n:Int)).toNat else min v.toNat n):Nat):Int)
 by_cases hv:v<0
 ·simp only[if_pos hv];omega
 ·simp only[if_neg hv];omega
end
end HT
namespace L2
open PySem PySem.Spec PyProof.Rows
abbrev TO:=St->Hp->(Option Int->Hp->Prop)->Prop
def PO(X:Cx)(e:Option Expr)(t:TO):Prop :=
 ∀(J3:Zd) (s:Shared) (σ:St) (H:Hp) (Q:Option Int->Hp->Prop),Inv X J3 σ H s->t σ H Q ->
  wpAny (model X.prog X.w) X.A (evalPart e X.env) (fun u s'=>∃o H',Inv X J3 σ H' s'/\IsPart u o/\Q o H') X.xe s
def eU:TO:=fun _ H Q=>Q none H
def gj(t:TE):TO:=fun σ H Q=>t σ H fun x H1=>∃i,x=.int i/\Q (some i) H1
section
variable{X:Cx}{e:Expr}{te:TE}{lo hi:Option Expr}{tl th:TO}{pos p2:Pos}
theorem fM:PO X none eU:=by
 intro J3 s σ H Q I h;rw[evalPart_none];exact aD ⟨none,H,I,.none,h⟩
theorem cU(h:PE X e te):PO X (some e) (gj te):=by
 intro J3 s σ H Q I hw;rw[evalPart_some];refine cI (h J3 s σ H _ I hw) fun u s1 ⟨x,H1,I1,r1,q1⟩=>?_;obtain⟨i,rfl,q⟩:=q1;obtain⟨t,rfl⟩:=r1;exact⟨some i,H1,I1,.int i t,q⟩
def SlR(X:Cx)(r:V->Option Int->Option Int->Hp->VK->Prop):Prop :=
 ∀(J3:Zd) (s:Shared) (σ:St) (H:Hp) (x:V) (v vl vu:Value) (lo hi:Option Int) (sl:Addr) (Q:VK),Inv X J3 σ H s->RelV x v->s.heap.IsSliceOf sl vl vu .none->IsPart vl lo->IsPart vu hi->r x lo hi H Q ->
  ∃T id,typeLookup (.type T) "__getitem__"=pure (some (.builtin id))/\s.TypeIs v T/\wpAny (model X.prog X.w) X.A (nZ v (.ref sl)) (EP X J3 σ Q) X.xe s
def A2(r:V->Option Int->Option Int->Hp->VK->Prop)(te:TE)(tl th:TO):TE:=fun σ H Q=>te σ H fun x H1=>tl σ H1 fun l H2=>th σ H2 fun u H3=>r x l u H3 Q
theorem cQ{r:V->Option Int->Option Int->Hp->VK->Prop}(hr:SlR X r)(he:PE X e te)(hl:PO X lo tl)(hu:PO X hi th):PE X (.Subscript e (.Slice lo hi none p2) pos) (A2 r te tl th):=by
 intro J3 s σ H Q I h;refine Subscript_ (cI (he J3 s σ H _ I h) fun v s1 ⟨x,H1,I1,r1,q1⟩=>?_);refine wpAny_Slice (cI (hl J3 s1 σ H1 _ I1 q1) fun vl s2 ⟨l,H2,I2,pl,q2⟩=>cI (hu J3 s2 σ H2 _ I2 q2) fun vu s3 ⟨u,H3,I3,pu,q3⟩=>?_);rw[evalPart_none];refine aD ?_;have I4:Inv X J3 σ H3 { s3 with heap:=s3.heap.push { cls:=.type "slice",data:=.fields #[vl,vu,.none] } }:=I3.kept (t':=s3.toks) fun b ob q=>bx _ q;obtain⟨T,id,hT,ht,hg⟩:=hr J3 { s3 with heap:=s3.heap.push { cls:=.type "slice",data:=.fields #[vl,vu,.none] } } σ H3 x v vl vu l u s3.heap.objs.size Q I4 r1 (Heap.IsSliceOf.new ..) pl pu q3;show wpAny (model X.prog X.w) X.A (subscriptTail e (.Slice lo hi none p2) v (.ref s3.heap.objs.size)) (EP X J3 σ Q) X.xe { s3 with heap:=s3.heap.push { cls:=.type "slice",data:=.fields #[vl,vu,.none] } };exact tail_any (ops:=[.ref s3.heap.objs.size,v]) ht hT hg (by with_unfolding_all rfl)
def fV(xs:List V)(lo hi:Option Int):List V:=(xs.drop (HT.sIx xs.length 0 lo)).take (HT.sIx xs.length xs.length hi-HT.sIx xs.length 0 lo)
theorem AK(xs:List V)(lo hi:Option Int):(fV xs lo hi).length<=xs.length:=by
 unfold fV;rw[aG,fj];omega
def IN(K:Za):R2:=fun x y H Q=>∃a b xs ys,x=.ref a/\y=.ref b/\br K H a xs/\br K H b ys/\xs≠[]/\xs.length+ys.length<=ai /\
 (ys=[]->Q (.ref a) H)/\(ys≠[]->∀p,H p=none->Q (.ref p) (upd H p (.tup (xs++ys))))
theorem bf.nil_iff{xs:List V}{us:Zf}(r:bf xs us):us=[]↔xs=[]:=by
 cases r with
 |nil=>simp
 |cons _ _=>simp
theorem HW:lI X (jU .Add) (IN X.K):=by
 intro J3 s σ H x y v u Q I rx ry h;obtain⟨a,b,xs,ys,rfl,rfl,ha,hb,hx,hz,q1,q2⟩:=h;cases rx;cases ry;obtain⟨its,r1,p1,_⟩:=I.tuple ha;obtain⟨its2,r2,p2,_⟩:=I.tuple hb;refine HT.cat_tup p1 p2 (fun z=>hx (r1.nil_iff.mp z)) (fun z=>⟨.ref a,H,I,rfl,q1 (r2.nil_iff.mp z)⟩) (fun z=>?_) (by rw[<-r1.length,<-r2.length];exact hz);refine⟨.ref s.heap.objs.size,_,I.laid (t':=s.toks) (o:=.tup (xs++ys)) (fun b ob q=>bx _ q) (aA _) ?_,rfl,q2 (fun w=>z (r2.nil_iff.mpr w)) _ (I.hok.fresh (aA _))⟩;exact⟨by rw[aK];exact hz,_,r1.append r2,IsTup.new _ _⟩
end
end L2
namespace L2
open PySem PySem.Spec PyProof.Rows
def G6(n:Nat)(i:Int):Option Nat:=if 0<=i then(if i<n then some i.toNat else none)else if -(n:Int)<=i then some (i+n).toNat else none
def qk{α:Type}(xs:List α)(i:Int):Option α:=(G6 xs.length i).bind fun j=>xs[j]?
theorem yF{n:Nat}{i:Int}{j:Nat}(h:G6 n i=some j):xK i n=some j/\j<n/\-(n:Int)<=i/\i<n:=by
 unfold G6 at h;by_cases h0:0<=i
 ·rw[if_pos h0]at h;by_cases h1:i<n
  ·rw[if_pos h1]at h;have e:i.toNat=j:=fe h;exact⟨by rw[seqIndex_of h0 h1,e],by omega,by omega,h1⟩
  ·rw[if_neg h1]at h;cases h
 ·rw[if_neg h0]at h;by_cases h1:-(n:Int)<=i
  ·rw[if_pos h1]at h;have e:(i+n).toNat=j:=fe h;exact⟨by rw[seqIndex_neg (by omega) h1,e],by omega,h1,by omega⟩
  ·rw[if_neg h1]at h;cases h
theorem yT{α:Type}{xs:List α}{i:Int}{v:α}(h:qk xs i=some v):∃j,xK i xs.length=some j/\xs[j]?=some v/\j<xs.length/\-(xs.length:Int)<=i/\i<xs.length:=by
 unfold qk at h;cases e:G6 xs.length i with
 |none=>rw[e]at h;cases h
 |some j =>
  rw[e]at h;obtain⟨h1,h2,h3,h4⟩:=yF e;exact⟨j,h1,h,h2,h3,h4⟩
theorem bH{α:Type}{xs:List α}{j:Nat}{v:α}(h:xs[j]?=some v):qk xs (j:Int)=some v:=by
 have hj:j<xs.length:=(cu.mp h).1;have e:G6 xs.length (j:Int)=some j:=by
  unfold G6;rw[if_pos (by omega),if_pos (by omega)];simp
 unfold qk;rw[e];exact h
def Iy(b:Expr):Prop:=∀o i,xJ b false o i=operate [o,i] (nZ o i)
def ID(X:Cx)(r:R2):Prop :=
 ∀(value slice:Expr) (J3:Zd) (s:Shared) (σ:St) (H:Hp) (x y:V) (v u:Value) (Q:VK),Inv X J3 σ H s->RelV x v->RelV y u->r x y H Q ->
  xJ slice false v u=operate [v,u] (nZ v u)->wpAny (model X.prog X.w) X.A (subscriptTail value slice v u) (EP X J3 σ Q) X.xe s
def MtR(X:Cx)(id:String)(r:V->List V->Hp->VK->Prop):Prop :=
 ∀(J3:Zd) (s:Shared) (σ:St) (H:Hp) (x:V) (xs:List V) (v:Value) (us:Zf) (Q:VK),Inv X J3 σ H s->RelV x v->bf xs us->r x xs H Q ->
  wpAny (model X.prog X.w) X.A (call (.builtin id) (v::us)) (EP X J3 σ Q) X.xe s
section
variable{X:Cx}{a b:Expr}{ta tb:TE}{pos:Pos}
theorem ID.or{r r':R2}(h:ID X r)(h':ID X r'):ID X (fun x y H Q=>r x y H Q∨r' x y H Q):=by
 intro value slice J3 s σ H x y v u Q I rx ry q hs;rcases q with q|q
 ·exact h value slice J3 s σ H x y v u Q I rx ry q hs
 ·exact h' value slice J3 s σ H x y v u Q I rx ry q hs
theorem Df{r:R2}(hr:ID X r)(ha:PE X a ta)(hb:PE X b tb)(hs:Iy b):PE X (.Subscript a b pos) (aI r ta tb):=by
 intro J3 s σ H Q I h;exact Subscript_ (Jw ha hb I h fun v u s2 x y H2 I2 rx ry q=>hr a b J3 s2 σ H2 x y v u Q I2 rx ry q (hs _ _))
def cV(K:Za):R2:=fun x y H Q=>∃p xs i v,x=.ref p/\y=.int i/\az K H p xs/\qk xs i=some v/\Q v H
def lD(K:Za):R2:=fun x y H Q=>∃p xs i v,x=.ref p/\y=.int i/\br K H p xs/\qk xs i=some v/\Q v H
def FR:R2:=fun x y H Q=>∃z i c,x=.str z/\y=.int i/\z.length<=ai/\qk z.cps.toList i=some c/\Q (.str ⟨#[c]⟩) H
theorem Du:ID X (cV X.K):=by
 intro value slice J3 s σ H x y v u Q I rx ry h hs;obtain⟨p,xs,i,z,rfl,rfl,hq,he,q⟩:=h;cases rx;obtain⟨t,rfl⟩:=ry;obtain⟨its,r,pl,hz⟩:=I.list hq;obtain⟨j,h1,h2,h3,h4,h5⟩:=yT he;obtain⟨w,ew,rw'⟩:=r.get h2;have hl:=r.length;have hn:=qZ;have fin:EP X J3 σ Q w s:=⟨z,H,I,rw',q⟩;by_cases h0:0<=i
 ·have hj:i.toNat=j:=by
   rw[seqIndex_of h0 h5]at h1;exact fe h1
  exact item_listR pl.isList h0 (by omega) (by rw[hj];simpa using ew) fin hs
 ·have hj:(i+(its.toArray.size:Int)).toNat=j:=by
   rw[seqIndex_neg (by omega) h4]at h1;rw[bN,<-hl];exact fe h1
  exact subscriptTail_builtinR (x:=w) pl.isList.typeIs slot_list_getitem.lookup
   (wpAny_getItem_list_neg (Q:=fun r s'=>r=w/\EP X J3 σ Q r s') pl.isList (by omega) (by rw[bN]<;>omega) (by omega) (by rw[hj];simpa using ew) ⟨rfl,fin⟩) hs
theorem Gr:ID X (lD X.K):=by
 intro value slice J3 s σ H x y v u Q I rx ry h hs;obtain⟨p,xs,i,z,rfl,rfl,hq,he,q⟩:=h;cases rx;obtain⟨t,rfl⟩:=ry;obtain⟨its,r,pl,hz⟩:=I.tuple hq;obtain⟨j,h1,h2,h3,h4,h5⟩:=yT he;obtain⟨w,ew,rw'⟩:=r.get h2;have hl:=r.length;have hn:=qZ;have fin:EP X J3 σ Q w s:=⟨z,H,I,rw',q⟩;exact subscriptTail_builtinR (x:=w) pl.typeIs slot_tuple_getitem.lookup
  (getItem_tuple (j:=j) (Q:=fun r s'=>r=w/\EP X J3 σ Q r s') pl (by omega) (by omega) (by rw[bN,<-hl];exact h1) (by simpa using ew) ⟨rfl,fin⟩) hs
theorem Gs:ID X FR:=by
 intro value slice J3 s σ H x y v u Q I rx ry h hs;obtain⟨z,i,c,rfl,rfl,hz,he,q⟩:=h;obtain⟨t,rfl⟩:=rx;obtain⟨t',rfl⟩:=ry;obtain⟨j,h1,h2,h3,h4,h5⟩:=yT he;have hl:z.cps.toList.length=z.length:=by simp[Str.length]
 rw[hl]at h1 h4 h5;have hn:=qZ;exact tail_any (typeIs_str s z t) slot_str_getitem.lookup (getItem_str (c:=c) (by
  have e1:decide (i < -(2 ^ 63:Int))=false:=zzr0 (by omega);have e2:decide (i ≥ 2 ^ 63)=false:=zzr0 (by omega);rw[e1,e2,Bool.or_false]) (by rw[h1];simpa using h2) ⟨.str ⟨#[c]⟩,H,I.tok _,⟨_,rfl⟩,q⟩) hs
def oA(K:Za):R2:=fun x y H Q=>cV K x y H Q∨lD K x y H Q∨FR x y H Q
theorem Jr:ID X (oA X.K):=Du.or (Gr.or Gs)
theorem BS(its:Zf)(n j:Nat)(u:Value):tM (·.setIfInBounds j u) { cls:=.type "list",data:=.seq its.toArray n }={ cls:=.type "list",data:=.seq (its.set j u).toArray n }:=by
 simp[tM]
theorem Inv.lst{J3:Zd}{σ:St}{H:Hp}{s:Shared}{p:Addr}{xs:List V}(I:Inv X J3 σ H s)(h:H p=some (.lst xs)):
  ∃(its:Zf) (n:Nat),bf xs its/\s.heap.get? p=some { cls:=.type "list",data:=.seq its.toArray n }/\xs.length<=ai:=by
 obtain⟨z,its,n,r,e⟩:=I.hok p _ h;exact⟨its,n,r,e,z⟩
theorem Inv.lstUpd{J3:Zd}{σ:St}{H:Hp}{s:Shared}{p:Addr}{xs ys:List V}{its its':Zf}{n n':Nat}{f:Obj->Obj}(I:Inv X J3 σ H s)(h:H p=some (.lst xs))
  (ho:s.heap.get? p=some { cls:=.type "list",data:=.seq its.toArray n }) (hf:f { cls:=.type "list",data:=.seq its.toArray n }={ cls:=.type "list",data:=.seq its'.toArray n' }) (r:bf ys its') (hz:ys.length<=ai) (t:Nat) :
  Inv X J3 σ (upd H p (.lst ys)) { s with heap:=s.heap.update p f,toks:=t }:=by
 have e:(s.heap.update p f).get? p=some { cls:=.type "list",data:=.seq its'.toArray n' }:=by
  rw[xI f ho (by rw[hf]<;>rfl),hf]
 refine I.write (x:=p) (e:=p) (by rw[h];trivial) (.inl rfl) (fun b u hb q=>(Heap.get?_update_other _ _ (dE hb)).trans q) ⟨_,e⟩ ?_;exact⟨hz,its',n',r,e⟩
def ut:V->V->V->Hp->(Hp->Prop)->Prop:=fun o i v H Q=>∃p xs k j,o=.ref p/\i=.int k/\H p=some (.lst xs)/\G6 xs.length k=some j/\Q (upd H p (.lst (xs.set j v)))
theorem lZ:J_ X ut:=by
 intro J3 s σ H o i v ov iv u Q I ro ri rv h;obtain⟨p,xs,k,j,rfl,rfl,hp,hj,q⟩:=h;cases ro;obtain⟨t,rfl⟩:=ri;obtain⟨its,n,r,ho,hz⟩:=I.lst hp;obtain⟨h1,h2,h3,h4⟩:=yF hj;have hl:=r.length;have hn:=qZ;have I':Inv X J3 σ (upd H p (.lst (xs.set j v))) { s with heap:=s.heap.update p (tM (·.setIfInBounds j u)) } :=
  I.lstUpd hp ho (BS its n j u) (r.set rv j) (by rw[List.length_set];exact hz) s.toks
 by_cases h0:0<=k
 ·have hk:k.toNat=j:=by
   rw[seqIndex_of h0 h4]at h1;exact fe h1
  exact PySem.W.ki_setAt ho h0 (by omega) (by rw[bN,<-hl];exact h4) (by rw[hk];exact⟨_,I',q⟩)
 ·have hk:(k+(its.toArray.size:Int)).toNat=j:=by
   rw[seqIndex_neg (by omega) h3]at h1;rw[bN,<-hl];exact fe h1
  exact PySem.W.ki_setBack ho (by omega) (by rw[bN,<-hl];exact h3) (by omega) (by rw[hk];exact⟨_,I',q⟩)
theorem yh(lo hi:Option Int)(n:Nat):(nY lo hi none n).1=((HT.sIx n 0 lo:Nat):Int)/\(nY lo hi none n).2.1=((HT.sIx n n hi:Nat):Int)/\(nY lo hi none n).2.2=1:=by
 refine⟨?_,?_,rfl⟩
 ·cases lo with
  |none=>simp[nY,HT.sIx]
  |some i =>
   simp only[nY,HT.sIx,Option.getD_none,show(1:Int) > 0 by decide,if_true];by_cases h:i<0
   ·simp only[h,if_true]<;>omega
   ·simp only[h,if_false]<;>omega
 ·cases hi with
  |none=>simp[nY,HT.sIx]
  |some i =>
   simp only[nY,HT.sIx,Option.getD_none,show(1:Int) > 0 by decide,if_true];by_cases h:i<0
   ·simp only[h,if_true]<;>omega
   ·simp only[h,if_false]<;>omega
theorem vL(its:Zf)(lo hi:Option Int):slicePick its.toArray lo hi none=((its.drop (HT.sIx its.length 0 lo)).take (HT.sIx its.length its.length hi-HT.sIx its.length 0 lo)).toArray:=by
 obtain⟨h1,h2,h3⟩:=yh lo hi its.toArray.size;unfold slicePick;rw[h1,h2,h3];simp only[sliceRange_one,pick_run,bN]<;>rfl
def qW(K:Za):V->Option Int->Option Int->Hp->VK->Prop:=fun x lo hi H Q=>∃a xs,x=.ref a/\az K H a xs/\∀p,H p=none->Q (.ref p) (upd H p (.lst (fV xs lo hi)))
theorem fL:SlR X (qW X.K):=by
 intro J3 s σ H x v vl vu lo hi sl Q I rx hs pl pu h;obtain⟨a,xs,rfl,hx,q⟩:=h;cases rx;obtain⟨its,r,ht,hz⟩:=I.list hx;have hlen:=r.length;refine⟨"list",_,slot_list_getitem.lookup,ht.isList.typeIs,?_⟩;refine wpAny_getItem_list_slice ht.isList hs pl pu .none (by simp) ?_ (by rw[bN]<;>omega);rw[vL,<-hlen];refine⟨.ref s.heap.objs.size,_,I.laid (t':=s.toks) (o:=.lst (fV xs lo hi)) (fun b ob q=>bx _ q) (aA _) ?_,rfl,q _ (I.hok.fresh (aA _))⟩;exact⟨bC (AK xs lo hi) hz,_,0,(r.drop (HT.sIx xs.length 0 lo)).take (HT.sIx xs.length xs.length hi-HT.sIx xs.length 0 lo),cG _ rfl⟩
theorem yR:fg X (.builtin "len") (fun xs H Q=>∃p ys,xs=[.ref p]/\(az X.K H p ys∨br X.K H p ys)/\Q (.int ys.length) H):=by
 intro J3 s σ H xs us Q I r h;obtain⟨p,ys,rfl,hq,q⟩:=h;obtain⟨u,rfl,rx⟩:=vals1 r;cases rx;have hn:=qZ;rcases hq with hq|hq
 ·obtain⟨its,r',pl,hz⟩:=I.list hq;have hlen:=r'.length;exact Calls.call_len_list pl.isList (by simp only[bN]<;>omega) ⟨.int ys.length,H,I.tok _,⟨s.toks+1,by rw[bN,hlen]⟩,q⟩
 ·obtain⟨its,r',pl,hz⟩:=I.tuple hq;have hlen:=r'.length;exact len_tuple pl (by simp only[bN]<;>omega) ⟨.int ys.length,H,I.tok _,⟨s.toks+1,by rw[bN,hlen]⟩,q⟩
theorem yQ:fg X (.builtin "len") (fun xs H Q=>∃z,xs=[.str z]/\z.length<=ai/\Q (.int z.length) H):=by
 intro J3 s σ H xs us Q I r h;obtain⟨z,rfl,hz,q⟩:=h;obtain⟨u,rfl,t,rfl⟩:=vals1 r;have hn:=qZ;exact len_str (by omega) ⟨.int z.length,H,I.tok _,⟨_,rfl⟩,q⟩
theorem fg.or{f:Value}{r r':List V->Hp->VK->Prop}(h:fg X f r)(h':fg X f r'):fg X f (fun xs H Q=>r xs H Q∨r' xs H Q):=by
 intro J3 s σ H xs us Q I rs q;rcases q with q|q
 ·exact h J3 s σ H xs us Q I rs q
 ·exact h' J3 s σ H xs us Q I rs q
theorem yP:fg X (.type "list") (fun xs H Q=>∃p ys,xs=[.ref p]/\(az X.K H p ys∨br X.K H p ys)/\∀l,H l=none->Q (.ref l) (upd H l (.lst ys))):=by
 intro J3 s σ H xs us Q I r h;obtain⟨p,ys,rfl,hq,q⟩:=h;obtain⟨u,rfl,rx⟩:=vals1 r;cases rx;have fin:∀(its:Zf),bf ys its->ys.length<=ai->∀(h':Heap) (c':Nat),(∀b o',s.heap.get? b=some o'->h'.get? b=some o') ->
   h'.get? s.heap.objs.size=some { cls:=.type "list",dict:=none,data:=.seq its.toArray c',slots:=#[] }->EP X J3 σ Q (.ref s.heap.objs.size) { s with heap:=h' }:=fun its r' hz h' c' kp e =>
  ⟨.ref s.heap.objs.size,_,I.laid (t':=s.toks) kp (aA _) (show bW X.prog X.w X.K _ h' _ (.lst ys)from⟨hz,its,c',r',e⟩),rfl,q _ (I.hok.fresh (aA _))⟩
 rcases hq with hq|hq
 ·obtain⟨its,r',pl,hz⟩:=I.list hq;have hlen:=r'.length;obtain⟨o,ho,hc,n,hd⟩:=pl.isList;exact call_list_seq p (.inl rfl) ho hc hd (fun h' c' kp e=>fin its r' hz h' c' kp e) (by simp only[bN]<;>omega)
 ·obtain⟨its,r',pl,hz⟩:=I.tuple hq;have hlen:=r'.length;obtain⟨o,ho,hc,n,hd⟩:=pl;exact call_list_seq p (.inr rfl) ho hc hd (fun h' c' kp e=>fin its r' hz h' c' kp e) (by simp only[bN]<;>omega)
theorem fG:fg X (.type "tuple") (fun xs H Q=>∃p ys,xs=[.ref p]/\((az X.K H p ys/\∀l,H l=none->Q (.ref l) (upd H l (.tup ys)))∨(br X.K H p ys/\Q (.ref p) H))):=by
 intro J3 s σ H xs us Q I r h;obtain⟨p,ys,rfl,h⟩:=h;obtain⟨u,rfl,rx⟩:=vals1 r;cases rx;rcases h with⟨hq,q⟩|⟨hq,q⟩
 ·obtain⟨its,r',pl,hz⟩:=I.list hq;have hlen:=r'.length;refine call_tuple_list pl.isList (fun h' kp=>?_) (by simp only[bN]<;>omega);have I1:Inv X J3 σ H { s with heap:=h' }:=I.kept (t':=s.toks) kp;have I2:Inv X J3 σ (upd H h'.objs.size (.tup ys)) { s with heap:=h'.push { cls:=.type "tuple",data:=.seq its.toArray } } :=
   I1.laid (t':=s.toks) (fun b o e=>bx _ e) (aA _) (show bW X.prog X.w X.K _ _ _ (.tup ys)from⟨hz,its,r',IsTup.new _ _⟩)
  exact⟨.ref h'.objs.size,_,I2,rfl,q _ (I1.hok.fresh (aA _))⟩
 ·obtain⟨its,r',pl,hz⟩:=I.tuple hq;exact call_tuple_same pl ⟨.ref p,H,I,rfl,q⟩
def tyV(K:Za)(T:String)(x:V)(H:Hp):Prop:=match x with
 |.str _=>T="str"
 |.int _=>T="int"
 |.ref p=>(T="list"/\∃xs,az K H p xs)∨(T="tuple"/\∃o,K.lookup p=some o/\o.cls=.type "tuple"/\o.dict=none) ∨
   (T="dict"/\((∃kvs,H p=some (.dK kvs))∨∃kvs,H p=some (.dT kvs)))∨(T="set"/\∃S n,H p=some (.set S n))
 |_=>False
theorem Fo{J3:Zd}{σ:St}{H:Hp}{s:Shared}{T:String}{x:V}{v:Value}(I:Inv X J3 σ H s)(r:RelV x v)(ty:tyV X.K T x H):
  s.TypeIs v T/\∀a,v=.ref a->∃ob,s.heap.get? a=some ob/\ob.dict=none:=by
 cases x with
 |str z =>
  obtain⟨t,rfl⟩:=r;cases(show T="str" from ty);exact⟨typeIs_str s z t,fun _ e=>nomatch e⟩
 |int i =>
  obtain⟨t,rfl⟩:=r;cases(show T="int" from ty);exact⟨typeIs_int s i t,fun _ e=>nomatch e⟩
 |ref p =>
  cases r;rcases ty with⟨rfl,xs,hq⟩|⟨rfl,o,hk,hc,hd⟩|⟨rfl,hk⟩|⟨rfl,S,n,hk⟩
  ·obtain⟨its,_,pl,_⟩:=I.list hq;refine⟨pl.isList.typeIs,fun a e=>?_⟩;cases e;obtain⟨o,n,e,c,hd,_⟩:=pl;exact⟨o,e,hd⟩
  ·refine⟨⟨o,I.kIn p o hk,hc⟩,fun a e=>?_⟩;cases e;exact⟨o,I.kIn _ o hk,hd⟩
  ·have z:∃o,s.heap.get? p=some o/\o.ExactDict:=by
    rcases hk with⟨kvs,hk⟩|⟨kvs,hk⟩
    ·obtain⟨_,_,_,_,o,_,_,e,ex,_⟩:=I.hok p _ hk;exact⟨o,e,ex⟩
    ·obtain⟨_,_,_,_,o,_,_,e,ex,_⟩:=I.hok p _ hk;exact⟨o,e,ex⟩
   obtain⟨o,e,ex⟩:=z;refine⟨⟨o,e,ex.1⟩,fun a e2=>?_⟩;cases e2;exact⟨o,e,ex.2.1⟩
  ·obtain⟨o,_,_,_,e,ex,_⟩:=I.hok p _ hk;refine⟨⟨o,e,ex.1⟩,fun a e2=>?_⟩;cases e2;exact⟨o,e,ex.2.1⟩
 |_=>exact jV ty
def Hk(K:Za)(T:String)(r:V->List V->Hp->VK->Prop)(to:TE):TE:=fun σ H Q=>to σ H fun x H1=>tyV K T x H1/\r x [] H1 Q
def vp(K:Za)(T:String)(r:V->List V->Hp->VK->Prop)(to:TE)(t:TA):TE:=fun σ H Q=>to σ H fun x H1=>tyV K T x H1/\t σ H1 fun xs H2=>r x xs H2 Q
variable{o e:Expr}{es:List Expr}{to:TE}{t:TA}{name:Str}{J5 J4:Pos}{T id:String}{r:V->List V->Hp->VK->Prop}
theorem BN(pa:PlainAttrs T)(slot:Slot T name id)(hty:typeOf (.builtin id)=pure (.type "method_descriptor"))(hm:MtR X id r)(ho:PE X o to)
  (hbase:sS o name X.env (eval o X.env)=eval o X.env:=by rfl) (hline:(J5.endLine==J4.line)=true:=by rfl):PE X (.Call (.Attribute o name J5) [] [] J4) (Hk X.K T r to):=by
 intro J3 s σ H Q I h;refine wpAny_Call_method0_late hbase hline (cI (ho J3 s σ H _ I h) fun v s1 ⟨x,H1,I1,r1,ty,q1⟩=>?_);obtain⟨h1,h2⟩:=Fo I1 r1 ty;exact⟨T,id,pa,slot,hty,h1,h2,tL rfl (PySem.evalArgs_none (hm J3 s1 σ H1 x [] v [] Q I1 r1 .nil q1))⟩
theorem gA(pa:PlainAttrs T)(slot:Slot T name id)(hty:typeOf (.builtin id)=pure (.type "method_descriptor"))(hm:MtR X id r)(ho:PE X o to)(ha:PA X (e::es) t)
  (hbase:sS o name X.env (eval o X.env)=eval o X.env:=by rfl)
  (hfew:((backTo J4 (aN (e::es) X.env)).all (fun x=>!x.1) && (o9 J4 (o8 [] X.env)).all (fun x=>x.1.isSome)
   && decide ((e::es).length+([]:List qH).length+(if([]:List qH).isEmpty then 0 else 1)<30))=true:=by rfl)
  (hline:(J5.endLine==J4.line)=true:=by rfl) (hs:aN (e::es) X.env=(false,eval e X.env)::aN es X.env:=by rfl) (hplain:(backTo J4 (aN es X.env)).any (·.1)=false:=by rfl) :
  PE X (.Call (.Attribute o name J5) (e::es) [] J4) (vp X.K T r to t):=by
 intro J3 s σ H Q I h;refine wpAny_Call_method_late hbase hfew hline rfl (cI (ho J3 s σ H _ I h) fun v s1 ⟨x,H1,I1,r1,ty,q1⟩=>?_);obtain⟨h1,h2⟩:=Fo I1 r1 ty;refine⟨T,id,pa,slot,hty,h1,h2,?_⟩;have hA:=ha J4 J3 s1 σ H1 _ I1 q1;rw[hs]at hA ⊢;refine tL (by show(false || (backTo J4 (aN es X.env)).any (·.1))=false;rw[hplain]<;>rfl) (Calls.evalArgs_plain ?_);exact cI hA fun us s2 ⟨vs,H2,I2,r2,q2⟩=>hm J3 s2 σ H2 x vs v us Q I2 r1 r2 q2
end
end L2
namespace L2
open PySem PySem.Spec PyProof.Rows
def JB(X:Cx)(id:String)(r:V->List V->Hp->VK->Prop):Prop :=
 ∀(J3:Zd) (s:Shared) (σ:St) (H:Hp) (x:V) (xs:List V) (v:Value) (us:Zf) (Q:VK),Inv X J3 σ H s->RelV x v->bf xs us->r x xs H Q ->
  wpAny (model X.prog X.w) X.A (call (.builtin id) (v::us)) (EP X J3 σ Q) X.xe s
theorem bf.one:∀{x:V}{us:Zf},bf [x] us->∃u,us=[u]/\RelV x u
 |_,_,.cons r .nil=>⟨_,rfl,r⟩
theorem bf.two:∀{x y:V}{us:Zf},bf [x,y] us->∃u v,us=[u,v]/\RelV x u/\RelV y v
 |_,_,_,.cons r (.cons q .nil)=>⟨_,_,rfl,r,q⟩
theorem bf.zero:∀{us:Zf},bf [] us->us=[]
 |_,.nil=>rfl
theorem bf.dropLast{xs:List V}{us:Zf}(h:bf xs us):bf xs.dropLast us.dropLast:=by
 induction h with
 |nil=>exact .nil
 |cons r t ih =>
  cases t with
  |nil=>exact .nil
  |cons q t'=>exact .cons r ih
theorem bf.eraseIdx:∀{xs:List V}{us:Zf}(i:Nat),bf xs us->bf (xs.eraseIdx i) (us.eraseIdx i)
 |_,_,_,.nil=>.nil
 |_,_,0,.cons _ t=>t
 |_,_,i+1,.cons r t=>.cons r (bf.eraseIdx i t)
theorem bf.reverse{xs:List V}{us:Zf}(h:bf xs us):bf xs.reverse us.reverse:=by
 induction h with
 |nil=>exact .nil
 |cons r t ih=>rw[xH,xH];exact bf.append ih (.cons r .nil)
theorem Cd{α:Type}(l:List α):l.eraseIdx (l.length-1)=l.dropLast:=by
 induction l with
 |nil=>rfl
 |cons a r ih =>
  cases r with
  |nil=>rfl
  |cons b r =>
   have e:(a::b::r).length-1=((b::r).length-1)+1:=by
    have h1:(a::b::r).length=r.length+2:=rfl;have h2:(b::r).length=r.length+1:=rfl;omega
   rw[e,List.eraseIdx_cons_succ,ih]
   all_goals rfl
theorem wE{α:Type}:∀(l:List α) (i:Nat),(l.eraseIdx i).length<=l.length
 |[],_=>aA _
 |_::_,0=>sQ _
 |_::r,i+1=>Nat.succ_le_succ (wE r i)
section
variable{X:Cx}{J3:Zd}{σ:St}{H:Hp}{s:Shared}{l b:Addr}{xs ys zs:List V}
theorem Inv.lset{its its':Zf}{n:Nat}{f:Array Value->Array Value}{t':Nat}(I:Inv X J3 σ H s)(hH:H l=some (.lst xs))
  (e:s.heap.get? l=some { cls:=.type "list",data:=.seq its.toArray n }) (hf:f its.toArray=its'.toArray) (hv:bf ys its') (hz:ys.length<=ai) :
  Inv X J3 σ (upd H l (.lst ys)) { s with heap:=s.heap.update l (tM f),toks:=t' }:=by
 have q:=PySem.IsL.update e f;rw[hf]at q;refine I.write (x:=l) (e:=l) (by rw[hH];exact trivial) (.inl rfl) (fun b' u hb hu=>(Heap.get?_update_other s.heap (tM f) (dE hb)).trans hu) ⟨_,q⟩ ?_;exact⟨hz,its',_,hv,q⟩
theorem Inv.lnew{its:Zf}{t':Nat}(I:Inv X J3 σ H s)(hv:bf ys its)(hz:ys.length<=ai):
  Inv X J3 σ (upd H s.heap.objs.size (.lst ys)) { s with heap:=s.heap.push { cls:=.type "list",data:=.seq its.toArray },toks:=t' } :=
 I.laid (fun _ _ q=>bx _ q) (aA _) ⟨hz,its,0,hv,cG _ rfl⟩
theorem Inv.fresh(I:Inv X J3 σ H s):H s.heap.objs.size=none:=I.hok.fresh (aA _)
theorem Inv.lstM(I:Inv X J3 σ H s)(hH:H l=some (.lst xs)):xs.length<=ai/\∃(its:Zf) (n:Nat),bf xs its/\xs.length=its.length/\s.heap.get? l=some { cls:=.type "list",data:=.seq its.toArray n }:=by
 obtain⟨z,its,n,r,e⟩:=I.hok l _ hH;exact⟨z,its,n,r,r.length,e⟩
theorem Gb{n:Nat}(h:n<=ai):cb.List.listTooLong n=false:=by
 unfold cb.List.listTooLong;exact zzr0 (by omega)
end
section
variable{X:Cx}
def cT:V->List V->Hp->VK->Prop:=fun x vs H Q=>∃l xs y,x=.ref l/\vs=[y]/\H l=some (.lst xs)/\xs.length<ai/\Q .non (upd H l (.lst (xs++[y])))
theorem cq:JB X "list.append" cT:=by
 intro J3 s σ H x vs v us Q I rx rv h;obtain⟨l,xs,y,rfl,rfl,hH,hz,q⟩:=h;cases rx;obtain⟨u,rfl,ru⟩:=rv.one;obtain⟨z,its,n,r,hl,e⟩:=I.lstM hH;refine qG F.slot_list_append ⟨_,e,rfl⟩ F.entry_list_append (F.args_list_append_2 _ _) (PySem.list_append l its.toArray n u (by rw[bN];omega)) ⟨e,?_⟩;refine⟨.non,_,I.lset (its':=its++[u]) hH e (by simp) (r.append (.cons ru .nil)) ?_,rfl,q⟩;rw[aK,List.length_singleton];omega
def C_:V->List V->Hp->VK->Prop:=fun x vs H Q=>∃l b xs zs,x=.ref l/\vs=[.ref b]/\H l=some (.lst xs)/\H b=some (.lst zs)/\xs.length+zs.length<=ai/\Q .non (upd H l (.lst (xs++zs)))
theorem Ex:JB X "list.extend" C_:=by
 intro J3 s σ H x vs v us Q I rx rv h;obtain⟨l,b,xs,zs,rfl,rfl,hH,hB,hz,q⟩:=h;cases rx;obtain⟨u,rfl,ru⟩:=rv.one;cases ru;obtain⟨z,its,n,r,hl,e⟩:=I.lstM hH;obtain⟨z2,its2,n2,r2,hl2,e2⟩:=I.lstM hB;have hsz:its.toArray.size+its2.toArray.size<=ai:=by rw[bN,bN];omega
 have hlong:¬(!its.toArray.isEmpty && cb.List.listTooLong (its.toArray.size+its2.toArray.size))=true:=by
  rw[Gb hsz,xG];exact fO
 refine qG F.slot_list_extend ⟨_,e,rfl⟩ F.entry_list_extend (F.args_list_extend_2 _ _)
  (AutoSeq1.list_extend_list_list_0 l its.toArray n b its2.toArray n2 hlong (by rw[bN];omega) (by omega)) ⟨e,e2,?_⟩
 refine⟨.non,_,I.lset (its':=its++its2) hH e (by simp) (r.append r2) ?_,rfl,q⟩;rw[aK];omega
def Jg:V->List V->Hp->VK->Prop:=fun x vs H Q=>∃l xs y,x=.ref l/\vs=[]/\H l=some (.lst xs)/\xs[xs.length-1]?=some y/\Q y (upd H l (.lst xs.dropLast))
theorem Gk:JB X "list.pop" Jg:=by
 intro J3 s σ H x vs v us Q I rx rv h;obtain⟨l,xs,y,rfl,rfl,hH,hy,q⟩:=h;cases rx;have hus:=rv.zero;subst hus;obtain⟨z,its,n,r,hl,e⟩:=I.lstM hH;obtain⟨u,hu,ru⟩:=r.get hy;have hy':its.toArray[its.toArray.size-1]?=some u:=by
  show its.toArray[its.length-1]?=some u;rw[<-qF,<-hl];exact hu
 refine qG F.slot_list_pop ⟨_,e,rfl⟩ F.entry_list_pop (F.args_list_pop_1 _) (MeetsSeq.list_pop_last l its.toArray n u hy' (by rw[bN];omega)) ⟨e,?_⟩;refine⟨y,_,I.lset (its':=its.dropLast) hH e ?_ r.dropLast ?_,ru,q⟩
 ·show its.toArray.eraseIdxIfInBounds (its.toArray.size-1)=its.dropLast.toArray;rw[bN,List.eraseIdxIfInBounds_toArray,Cd]
 ·rw[List.length_dropLast];omega
def FQ:V->List V->Hp->VK->Prop:=fun x vs H Q=>∃l xs i k y,x=.ref l/\vs=[.int i]/\H l=some (.lst xs)/\-(2 ^ 63)<=i/\i<2 ^ 63/\xK i xs.length=some k/\xs[k]?=some y/\Q y (upd H l (.lst (xs.eraseIdx k)))
theorem Gj:JB X "list.pop" FQ:=by
 intro J3 s σ H x vs v us Q I rx rv h;obtain⟨l,xs,i,k,y,rfl,rfl,hH,h1,h2,hk,hy,q⟩:=h;cases rx;obtain⟨u,rfl,ru⟩:=rv.one;obtain⟨t,rfl⟩:=ru;obtain⟨z,its,n,r,hl,e⟩:=I.lstM hH;obtain⟨w,hw,rw'⟩:=r.get hy;refine qG F.slot_list_pop ⟨_,e,rfl⟩ F.entry_list_pop (F.args_list_pop_2 _ _)
  (MeetsSeq.list_pop_at l its.toArray n i t k w (fitsIndex_both h1 h2) (by rw[bN,<-hl];exact hk) (by rw[<-qF];exact hw) (by rw[bN];omega)) ⟨e,?_⟩
 refine⟨y,_,I.lset (its':=its.eraseIdx k) hH e ?_ (r.eraseIdx k) ?_,rw',q⟩
 ·show its.toArray.eraseIdxIfInBounds k=(its.eraseIdx k).toArray;rw[List.eraseIdxIfInBounds_toArray]
 ·have:=wE xs k;omega
def Ag:V->List V->Hp->VK->Prop:=fun x vs H Q=>∃l xs,x=.ref l/\vs=[]/\H l=some (.lst xs)/\Q .non (upd H l (.lst xs.reverse))
theorem BQ:JB X "list.reverse" Ag:=by
 intro J3 s σ H x vs v us Q I rx rv h;obtain⟨l,xs,rfl,rfl,hH,q⟩:=h;cases rx;have hus:=rv.zero;subst hus;obtain⟨z,its,n,r,hl,e⟩:=I.lstM hH;refine qG F.slot_list_reverse ⟨_,e,rfl⟩ F.entry_list_reverse (F.args_list_reverse_1 _) (AutoSeq1.list_reverse_list_0 l its.toArray n (by rw[bN];omega)) ⟨e,?_⟩;refine⟨.non,_,I.lset (its':=its.reverse) hH e (by simp) r.reverse ?_,rfl,q⟩;rw[List.length_reverse];omega
def sA:R2:=fun x y H Q=>∃l b xs zs,x=.ref l/\y=.ref b/\H l=some (.lst xs)/\H b=some (.lst zs)/\xs.length+zs.length<=ai/\∀p,H p=none->Q (.ref p) (upd H p (.lst (xs++zs)))
theorem jH:lI X (jU .Add) sA:=by
 intro J3 s σ H x y v u Q I rx ry h;obtain⟨l,b,xs,zs,rfl,rfl,hH,hB,hz,q⟩:=h;cases rx;cases ry;obtain⟨z,its,n,r,hl,e⟩:=I.lstM hH;obtain⟨z2,its2,n2,r2,hl2,e2⟩:=I.lstM hB;refine PySem.P.add_list e e2 ?_ (by rw[bN,bN];omega);have ea:its.toArray++its2.toArray=(its++its2).toArray:=by simp
 rw[ea];exact⟨.ref _,_,I.lnew (t':=s.toks) (r.append r2) (by rw[aK];omega),rfl,q _ I.fresh⟩
end
end L2
namespace L2
open PySem PySem.Spec PyProof.Rows
section
variable{κ:Type}[DecidableEq κ]
def bq(kvs:List (κ×V))(k:κ):Option V:=(kvs.find? fun kv=>decide (kv.1=k)).map (·.2)
def cM(kvs:List (κ×V))(k:κ)(v:V):List (κ×V) :=
 if(kvs.any fun kv=>decide (kv.1=k))=true then kvs.map (fun kv=>if kv.1=k then(kv.1,v)else kv)else kvs++[(k,v)]
theorem cz{p:κ×V}{r:List (κ×V)}{k:κ}(e:p.1=k):bq (p::r) k=some p.2:=by simp[bq,lQ,e]
theorem bY{p:κ×V}{r:List (κ×V)}{k:κ}(e:¬p.1=k):bq (p::r) k=bq r k:=by simp[bq,lQ,e]
theorem jX(k:κ):∀kvs:List (κ×V),(kvs.any fun kv=>decide (kv.1=k))=(bq kvs k).isSome
 |[]=>rfl
 |p::r=>by
  rw[nX];by_cases e:p.1=k
  ·simp only[cz e,zzr1 e,Bool.true_or,Option.isSome_some]
  ·rw[bY e,zzr0 e,Bool.false_or];exact jX k r
theorem zB(k j:κ)(y:V):∀kvs:List (κ×V),bq (kvs.map fun kv=>if kv.1=k then(kv.1,y)else kv) j=(bq kvs j).map fun x=>if j=k then y else x
 |[]=>rfl
 |p::r=>by
  have ih:=zB k j y r;rw[bI];by_cases h:p.1=k
  ·rw[if_pos h];by_cases e:p.1=j
   ·rw[cz (p:=(p.1,y)) e,cz e,tK,if_pos (e.symm.trans h)]
   ·rw[bY (p:=(p.1,y)) e,bY e,ih]
  ·rw[if_neg h];by_cases e:p.1=j
   ·rw[cz (p:=p) e,cz e,tK,if_neg (fun z=>h (e.trans z))]
   ·rw[bY (p:=p) e,bY e,ih]
theorem we(k j:κ)(y:V):∀kvs:List (κ×V),bq kvs k=none->bq (kvs++[(k,y)]) j=if j=k then some y else bq kvs j
 |[],_=>by
  by_cases e:k=j
  ·rw[if_pos e.symm];exact cz (p:=(k,y)) e
  ·rw[if_neg (fun z=>e z.symm)];exact bY (p:=(k,y)) e
 |p::r,hn=>by
  rw[List.cons_append];have hk:¬p.1=k:=fun z=>by rw[cz z]at hn;cases hn
  rw[bY hk]at hn;have ih:=we k j y r hn;by_cases e:p.1=j
  ·rw[cz e,cz e,if_neg (fun z=>hk (e.trans z))]
  ·rw[bY e,bY e,ih]
theorem lR(kvs:List (κ×V))(k j:κ)(y:V):bq (cM kvs k y) j=if j=k then some y else bq kvs j:=by
 unfold cM;by_cases a:(kvs.any fun kv=>decide (kv.1=k))=true
 ·rw[if_pos a,zB];rw[jX]at a;by_cases e:j=k
  ·obtain⟨x,hx⟩:=xL.mp a;rw[if_pos e,e,hx,tK,if_pos rfl]
  ·rw[if_neg e];cases bq kvs j with
   |none=>rfl
   |some x=>rw[tK,if_neg e]
 ·rw[if_neg a];refine we k j y kvs ?_;rw[jX]at a;cases q:bq kvs k with
  |none=>rfl
  |some x=>rw[q]at a;exact(a rfl).elim
theorem jq(kvs:List (κ×V))(k:κ)(v:V):(cM kvs k v).length<=kvs.length+1:=by
 unfold cM;split
 ·rw[aj];omega
 ·rw[aK,dS,xF];omega
theorem dq{kvs:List (κ×V)}{k:κ}(v:V)(h:bq kvs k=none):cM kvs k v=kvs++[(k,v)]:=by
 unfold cM;rw[jX,h];exact if_neg (by decide)
theorem lH.isSome_eq{o:Option V}{u:Option Value}(r:lH o u):o.isSome=u.isSome:=by
 cases o with
 |none=>cases u with
  |none=>rfl
  |some _=>exact(show False from r).elim
 |some _=>cases u with
  |none=>exact(show False from r).elim
  |some _=>rfl
theorem lH.getD{o:Option V}{u:Option Value}{d:V}{d':Value}(r:lH o u)(rd:RelV d d'):RelV (o.getD d) (u.getD d'):=by
 cases o with
 |none=>cases u with
  |none=>exact rd
  |some _=>exact(show False from r).elim
 |some _=>cases u with
  |none=>exact(show False from r).elim
  |some _=>exact r
theorem KV.val{kvs:List (κ×V)}{vs:List (κ×Value)}(r:KV kvs vs)(k:κ):lH (bq kvs k) (nW vs k):=by
 unfold KV at r
 induction r with
 |nil=>exact jg
 |@cons p q ps qs h t ih =>
  obtain⟨h1,h2⟩:=h;by_cases e:p.1=k
  ·have e':q.1=k:=h1.symm.trans e;have b:nW (q::qs) k=some q.2:=by simp[nW,lQ,e']
   rw[cz e,b];exact h2
  ·have e':¬q.1=k:=fun z=>e (h1.trans z);have b:nW (q::qs) k=nW qs k:=by simp[nW,lQ,e']
   rw[bY e,b];exact ih
theorem KV.any{kvs:List (κ×V)}{vs:List (κ×Value)}(r:KV kvs vs)(k:κ):(kvs.any fun kv=>decide (kv.1=k))=vs.any fun kv=>decide (kv.1=k):=by
 unfold KV at r
 induction r with
 |nil=>rfl
 |cons h t ih=>rw[nX,nX,ih,h.1]
theorem KV.repl{kvs:List (κ×V)}{vs:List (κ×Value)}(r:KV kvs vs)(k:κ){y:V}{u:Value}(ry:RelV y u):
  KV (kvs.map fun kv=>if kv.1=k then(kv.1,y)else kv) (vs.map fun kv=>if kv.1=k then(kv.1,u)else kv):=by
 unfold KV at r ⊢
 induction r with
 |nil=>exact .nil
 |@cons p q ps qs h t ih =>
  rw[bI,bI];refine .cons ?_ ih;obtain⟨h1,h2⟩:=h;by_cases e:p.1=k
  ·rw[if_pos e,if_pos (h1.symm.trans e)];exact⟨h1,ry⟩
  ·rw[if_neg e,if_neg (fun z=>e (h1.trans z))];exact⟨h1,h2⟩
theorem KV.put{kvs:List (κ×V)}{vs:List (κ×Value)}(r:KV kvs vs)(k:κ){y:V}{u:Value}(ry:RelV y u):KV (cM kvs k y) (stored vs k u):=by
 unfold cM stored;rw[r.any k];by_cases e:(vs.any fun kv=>decide (kv.1=k))=true
 ·rw[if_pos e,if_pos e];exact r.repl k ry
 ·rw[if_neg e,if_neg e];exact c_ r ⟨rfl,ry⟩
theorem KV.length{kvs:List (κ×V)}{vs:List (κ×Value)}(r:KV kvs vs):kvs.length=vs.length:=Paired.length r
end
theorem pW{P:cg}{w:World}{k:fC}{u:Value}(r:RelV (kV k) u):(cB P w).is k u=true:=by
 cases k with
 |inl i=>obtain⟨t,e⟩:=(show ∃t,u=Value.int i t from r);subst e;exact Au P w i t
 |inr x=>obtain⟨t,e⟩:=(show ∃t,u=Value.str x t from r);subst e;exact At P w x t
theorem yE:∀{k:oU}{u:Value},RelV (IU k) u->i4 k u=true
 |none,u,r=>by cases(show u=Value.none from r);rfl
 |some (.inl i),u,r=>by obtain⟨t,rfl⟩:=r;exact m8 i t
 |some (.inr x),u,r=>by obtain⟨t,rfl⟩:=r;exact mZ x t
abbrev KT(K:Za)(H:Hp):List (TK×V)->List (TK×Addr×Value)->Prop:=Paired fun p q=>p.1=q.1/\jR K H p.1 (.ref q.2.1)/\p.1.depth<=8/\RelV p.2 q.2.2
theorem KT.val{K:Za}{H:Hp}{kvs:List (TK×V)}{xs:List (TK×Addr×Value)}(r:KT K H kvs xs)(k:TK):lH (bq kvs k) ((atKey xs k).map (·.2)):=by
 induction r with
 |nil=>exact jg
 |@cons p q ps qs h t ih =>
  obtain⟨h1,_,_,h2⟩:=h;by_cases e:p.1=k
  ·have e':q.1=k:=h1.symm.trans e;have b:atKey (q::qs) k=some q.2:=by simp[atKey,lQ,e']
   rw[cz e,b];exact h2
  ·have e':¬q.1=k:=fun z=>e (h1.trans z);have b:atKey (q::qs) k=atKey qs k:=by simp[atKey,lQ,e']
   rw[bY e,b];exact ih
theorem KT.repl{K:Za}{H:Hp}{kvs:List (TK×V)}{xs:List (TK×Addr×Value)}(r:KT K H kvs xs)(k:TK){y:V}{u:Value}(ry:RelV y u):
  KT K H (kvs.map fun kv=>if kv.1=k then(kv.1,y)else kv) (xs.map (putAt k u)):=by
 induction r with
 |nil=>exact .nil
 |@cons p q ps qs h t ih =>
  rw[bI,bI];refine .cons ?_ ih;obtain⟨h1,h2,h3⟩:=h;unfold putAt;by_cases e:p.1=k
  ·rw[if_pos e,if_pos (h1.symm.trans e)];exact⟨h1,h2,h3.1,ry⟩
  ·rw[if_neg e,if_neg (fun z=>e (h1.trans z))];exact⟨h1,h2,h3⟩
theorem KT.put{K:Za}{H:Hp}{kvs:List (TK×V)}{xs:List (TK×Addr×Value)}(r:KT K H kvs xs)(k:TK){b:Addr}{y:V}{u:Value}(hb:jR K H k (.ref b))(h8:k.depth<=8)(ry:RelV y u):
  KT K H (cM kvs k y) (storedH xs k b u):=by
 have e:(kvs.any fun kv=>decide (kv.1=k))=(atKey xs k).isSome:=by
  rw[jX,(r.val k).isSome_eq,tJ]
 unfold cM storedH;rw[e];by_cases q:(atKey xs k).isSome=true
 ·rw[if_pos q,if_pos q];exact r.repl k ry
 ·rw[if_neg q,if_neg q];exact c_ r ⟨rfl,hb,h8,ry⟩
theorem KT.keeps{K:Za}{H H':Hp}{kvs:List (TK×V)}{xs:List (TK×Addr×Value)}(r:KT K H kvs xs)(ht:∀b ys,H b=some (.tup ys)->H' b=some (.tup ys)):KT K H' kvs xs :=
 Paired.mapP r fun _ _ z=>⟨z.1,jR.keeps ht 8 z.2.2.1 z.2.1,z.2.2⟩
section
variable{P:cg}{w:World}{K:Za}{H:Hp}{h:Heap}{a:Addr}
theorem IJ{u:HO}(ok:ng P w K H h)(e:Rd H a u):bW P w K H h a u:=e.ok ok
theorem p6{kvs:List (fC×V)}(ok:ng P w K H h)(e:Rd H a (.dK kvs)):kvs.length<=ai/\(a==fD)=false/\∃vs,KV kvs vs/\h.DictOf (cB P w) a vs :=
 show bW P w K H h a (.dK kvs)from IJ ok e
theorem J9{kvs:List (fC×V)}(ok:ng P w K H h)(e:H a=some (.dK kvs)):kvs.length<=ai/\(a==fD)=false/\∃vs,KV kvs vs/\h.DictOf (cB P w) a vs:=p6 ok (.inl e)
theorem Jc(ok:ng P w K H h)(kin:K.In h):∀(d:Nat) {k:TK}{v:V}{u:Value},k.depth<=d->jR K H k v->RelV v u->nB h k u:=by
 have key:∀(d:Nat) (ih:∀{k:TK}{v:V}{u:Value},k.depth<=d->jR K H k v->RelV v u->nB h k u) (ks:List TK) (vs:List V) (us:Zf),TK.depths ks<=d->TKCs K H ks vs->bf vs us->TAts h ks us:=by
  intro d ih ks
  induction ks with
  |nil =>
   intro vs us _ hx r;have e:vs=[]:=hx;subst e;cases r
   rfl
  |cons k ks ihl =>
   intro vs us hd hx r;obtain⟨v,vs',rfl,h1,h2⟩:=hx;cases r with
   |@cons _ u _ us' r1 r2 =>
    have hd':max k.depth (TK.depths ks)<=d:=hd;exact⟨u,us',rfl,ih (by omega) h1 r1,ihl vs' us' (by omega) h2 r2⟩
 intro d
 induction d with
 |zero =>
  intro k v u hd hx r;cases k with
  |t l=>exact absurd hd (by show ¬(TK.depths l+1<=0);omega)
  |k b =>
   have e:v=IU b:=hx;subst e;exact yE r
 |succ d ih =>
  intro k v u hd hx r;cases k with
  |k b =>
   have e:v=IU b:=hx;subst e;exact yE r
  |t l =>
   obtain⟨b,xs,rfl,hb,hi⟩:=hx;cases(show u=Value.ref b from r);obtain⟨its,rv,ob,h1,h2,n,h3⟩:∃its:List Value,bf xs its/\IsTup h b its.toArray:=by
    rcases hb with hb|⟨o,its,n,hk,hc,hs,hz,r⟩
    ·obtain⟨_,its,rv,p⟩:=(show bW P w K H h b (.tup xs)from ok b _ hb);exact⟨its,rv,p⟩
    ·exact⟨its.toList,r,o,kin b o hk,hc,n,by simpa using hs⟩
   exact⟨b,ob,its.toArray,n,rfl,h1,h2,h3,by simpa using key d (fun h1=>ih h1) l xs its (by have:TK.depths l+1<=d+1:=hd;omega) hi rv⟩
theorem uO{k:TK}(ok:ng P w K H h)(kin:K.In h)(e:jR K H k (.ref a))(h8:k.depth<=8):(dP P w).is h k a:=⟨Jc ok kin 8 h8 e rfl,h8⟩
theorem r8{kvs:List (TK×V)}(ok:ng P w K H h)(kin:K.In h)(e:Rd H a (.dT kvs)):kvs.length<=ai/\(a==fD)=false /\
  ∃xs,KT K H kvs xs/\h.DictOfH (dP P w) a xs:=by
 obtain⟨z,y,xs,r,o,es,ep,h1,h2,h3,h4,h5⟩:=(show bW P w K H h a (.dT kvs)from IJ ok e);refine⟨z,y,xs,r,o,es,ep,h1,h2,h3,h4,fun x hx=>?_,h5⟩;have all:∀{l:List (TK×V)}{m:List (TK×Addr×Value)},KT K H l m->∀x∈m,(dP P w).is h x.1 x.2.1:=by
  intro l m q
  induction q with
  |nil=>intro x hx;exact nomatch hx
  |@cons p q ps qs hq t ih =>
   intro x hx;rcases cH.mp hx with e|hx
   ·subst e;exact uO ok kin (by rw[<-hq.1];exact hq.2.1) (by rw[<-hq.1];exact hq.2.2.1)
   ·exact ih x hx
 exact all r x hx
theorem Dy{kvs:List (TK×V)}(ok:ng P w K H h)(kin:K.In h)(e:H a=some (.dT kvs)):kvs.length<=ai/\(a==fD)=false /\
  ∃xs,KT K H kvs xs/\h.DictOfH (dP P w) a xs:=r8 ok kin (.inl e)
end
mutual
def je(K:Za)(H:Hp):TK->V->Prop
 |.k a,v=>v=IU a
 |.t l,v=>∃b xs,v=.ref b/\br K H b xs/\TKIns K H l xs
def TKIns(K:Za)(H:Hp):List TK->List V->Prop
 |[],vs=>vs=[]
 |k::r,vs=>∃v us,vs=v::us/\je K H k v/\TKIns K H r us
end
theorem cW.isIn{K:Za}{H:Hp}:∀(d:Nat) {k:TK}{v:V},k.depth<=d->cW H k v->je K H k v:=by
 have key:∀(d:Nat) (ih:∀{k:TK}{v:V},k.depth<=d->cW H k v->je K H k v) (xs:List TK) (vs:List V),TK.depths xs<=d->TKAts H xs vs->TKIns K H xs vs:=by
  intro d ih xs
  induction xs with
  |nil=>intro vs _ hx;exact hx
  |cons x xs ihl =>
   intro vs hd hx;obtain⟨v,us,rfl,hx1,hx2⟩:=hx;have hd':max x.depth (TK.depths xs)<=d:=hd;exact⟨v,us,rfl,ih (by omega) hx1,ihl us (by omega) hx2⟩
 intro d
 induction d with
 |zero =>
  intro k v hd hx;cases k with
  |t l=>exact absurd hd (by show ¬(TK.depths l+1<=0);omega)
  |k a=>exact hx
 |succ d ih =>
  intro k v hd hx;cases k with
  |k a=>exact hx
  |t l =>
   obtain⟨b,xs,rfl,hb,hi⟩:=hx;exact⟨b,xs,rfl,br.of hb,key d (fun h1=>ih h1) l xs (by have:TK.depths l+1<=d+1:=hd;omega) hi⟩
theorem He{X:Cx}{J3:Zd}{σ:St}{H:Hp}{s:Shared}(I:Inv X J3 σ H s):∀(d:Nat) {k:TK}{v:V}{u:Value},k.depth<=d->je X.K H k v->RelV v u->nB s.heap k u:=by
 have key:∀(d:Nat) (ih:∀{k:TK}{v:V}{u:Value},k.depth<=d->je X.K H k v->RelV v u->nB s.heap k u) (ks:List TK) (vs:List V) (us:Zf),TK.depths ks<=d->TKIns X.K H ks vs->bf vs us->TAts s.heap ks us:=by
  intro d ih ks
  induction ks with
  |nil =>
   intro vs us _ hx r;have e:vs=[]:=hx;subst e;cases r
   rfl
  |cons k ks ihl =>
   intro vs us hd hx r;obtain⟨v,vs',rfl,h1,h2⟩:=hx;cases r with
   |@cons _ u _ us' r1 r2 =>
    have hd':max k.depth (TK.depths ks)<=d:=hd;exact⟨u,us',rfl,ih (by omega) h1 r1,ihl vs' us' (by omega) h2 r2⟩
 intro d
 induction d with
 |zero =>
  intro k v u hd hx r;cases k with
  |t l=>exact absurd hd (by show ¬(TK.depths l+1<=0);omega)
  |k b =>
   have e:v=IU b:=hx;subst e;exact yE r
 |succ d ih =>
  intro k v u hd hx r;cases k with
  |k b =>
   have e:v=IU b:=hx;subst e;exact yE r
  |t l =>
   obtain⟨b,xs,rfl,hb,hi⟩:=hx;cases(show u=Value.ref b from r);obtain⟨its,rv,⟨ob,h1,h2,n,h3⟩,_⟩:=I.tuple hb;exact⟨b,ob,its.toArray,n,rfl,h1,h2,h3,by simpa using key d (fun h1=>ih h1) l xs its (by have:TK.depths l+1<=d+1:=hd;omega) hi rv⟩
theorem uP{X:Cx}{J3:Zd}{σ:St}{H:Hp}{s:Shared}{k:TK}{b:Addr}(I:Inv X J3 σ H s)(e:je X.K H k (.ref b))(h8:k.depth<=8):(dP X.prog X.w).is s.heap k b:=⟨He I 8 h8 e rfl,h8⟩
theorem f_{P:cg}{w:World}{A:Around}(hu:A.units+16<cLine):(dP P w).room A.in1:=by
 show A.units+1+8<cLine;omega
def ir(K:Za)(H:Hp)(a:Addr)(y:V)(r:Option V):Prop :=
 (∃kvs k,Rd H a (.dK kvs)/\y=kV k/\r=bq kvs k)∨∃kvs k b,Rd H a (.dT kvs)/\y=.ref b/\je K H k (.ref b)/\k.depth<=8/\r=bq kvs k
def Ki(H:Hp)(a:Addr)(y v:V)(H':Hp):Prop :=
 (∃kvs k,H a=some (.dK kvs)/\y=kV k/\kvs.length<ai/\H'=upd H a (.dK (cM kvs k v))) ∨
 ∃kvs k b,H a=some (.dT kvs)/\y=.ref b/\cW H k (.ref b)/\k.depth<=8/\kvs.length<ai/\H'=upd H a (.dT (cM kvs k v))
section
variable{X:Cx}{J3:Zd}{σ:St}{H:Hp}{s:Shared}{a:Addr}{y v:V}{u r:Value}{o:Option V}{A:Around}{E:Zc}
theorem Inv.big(I:Inv X J3 σ H s):fD<s.heap.objs.size:=by
 have h:b_<s.heap.objs.size:=(I.mod.glob.keeps I.bk).lt;exact Nat.lt_trans (by decide) h
theorem ER{Q:Zc}(hu:A.units+16<cLine)(I:Inv X J3 σ H s)(g:ir X.K H a y (some v))(ry:RelV y u)(h:∀w' s',Inv X J3 σ H s'->RelV v w'->Q w' s'):
  wpAny (model X.prog X.w) A (nZ (.ref a) u) Q E s:=by
 rcases g with⟨kvs,k,e,ey,l⟩|⟨kvs,k,b,e,ey,eb,e8,l⟩
 ·subst ey;obtain⟨z,hd,vs,rel,dd⟩:=p6 I.hok e;obtain⟨w',hw,rw'⟩:=lH.some_of (v:=v) (o:=nW vs k) (by rw[l];exact rel.val k);exact wpAny_getItem_of (pW ry) dd.mapOf hw (h w' _ (I.tok _) rw')
 ·subst ey;cases(show u=Value.ref b from ry);obtain⟨z,hd,xs,rel,dd⟩:=r8 I.hok I.kIn e;obtain⟨w',hw,rw'⟩:=lH.some_of (v:=v) (o:=(atKey xs k).map (·.2)) (by rw[l];exact rel.val k);obtain⟨p,hp,hp2⟩:=sV.mp hw;refine wpAny_getItem_heap (f_ hu) (uP I eb e8) dd hp ?_;rw[hp2];exact h w' _ (I.tok _) rw'
theorem d_in{Q:Zc}(hu:A.units+16<cLine)(I:Inv X J3 σ H s)(g:ir X.K H a y o)(ry:RelV y u)(h:∀s',Inv X J3 σ H s'->Q (.bool o.isSome) s'):
  wpAny (model X.prog X.w) A (e_ .In u (.ref a)) Q E s:=by
 rcases g with⟨kvs,k,e,ey,l⟩|⟨kvs,k,b,e,ey,eb,e8,l⟩
 ·subst ey;obtain⟨z,hd,vs,rel,dd⟩:=p6 I.hok e;refine wpAny_in_of (pW ry) hd dd.mapOf ?_;rw[<-(rel.val k).isSome_eq,<-l];exact h _ (I.tok _)
 ·subst ey;cases(show u=Value.ref b from ry);obtain⟨z,hd,xs,rel,dd⟩:=r8 I.hok I.kIn e;refine wpAny_in_heap (f_ hu) (uP I eb e8) hd dd ?_;have q:=(rel.val k).isSome_eq;rw[tJ]at q;rw[<-q,<-l];exact h _ (I.tok _)
theorem Ik{Q:Zc}(hu:A.units+16<cLine)(I:Inv X J3 σ H s)(g:ir X.K H a y o)(ry:RelV y u)(h:∀s',Inv X J3 σ H s'->Q (.bool (!o.isSome)) s'):
  wpAny (model X.prog X.w) A (e_ .NotIn u (.ref a)) Q E s:=by
 rcases g with⟨kvs,k,e,ey,l⟩|⟨kvs,k,b,e,ey,eb,e8,l⟩
 ·subst ey;obtain⟨z,hd,vs,rel,dd⟩:=p6 I.hok e;refine wpAny_notIn_of (pW ry) hd dd.mapOf ?_;rw[<-(rel.val k).isSome_eq,<-l];exact h _ (I.tok _)
 ·subst ey;cases(show u=Value.ref b from ry);obtain⟨z,hd,xs,rel,dd⟩:=r8 I.hok I.kIn e;refine wpAny_notIn_heap (f_ hu) (uP I eb e8) hd dd ?_;have q:=(rel.val k).isSome_eq;rw[tJ]at q;rw[<-q,<-l];exact h _ (I.tok _)
theorem p7{h':Heap}{t':Nat}{ob:HO}(I:Inv X J3 σ H s)(mu:Ka (H a))(hs:fZ a s.heap h')(he:∃q,h'.get? a=some q)(new:bW X.prog X.w X.K (upd H a ob) h' a ob):
  Inv X J3 σ (upd H a ob) { s with heap:=h',toks:=t' } :=
 I.write (x:=a) (e:=a) mu (.inl rfl) (fun b q hb z=>(hs.2 b hb).trans z) he new
theorem GJ{P:cg}{w:World}{K:Za}{H':Hp}{h':Heap}{kvs:List (fC×V)}{vs:List (fC×Value)}(z:kvs.length<=ai)(hd:(a==fD)=false)(rel:KV kvs vs)(dd:h'.DictOf (cB P w) a vs):
  bW P w K H' h' a (.dK kvs):=⟨z,hd,vs,rel,dd⟩
theorem EQ{H':Hp}{Q:Unit->Shared->Prop}(hu:A.units+16<cLine)(I:Inv X J3 σ H s)(g:Ki H a y v H')(ry:RelV y u)(rv:RelV v r)(h:∀s',Inv X J3 σ H' s'->Q () s'):
  wpAny (model X.prog X.w) A (setItem (.ref a) u r) Q E s:=by
 rcases g with⟨kvs,k,e,ey,l,eH⟩|⟨kvs,k,b,e,ey,eb,e8,l,eH⟩
 ·subst ey eH;obtain⟨z,hd,vs,rel,dd⟩:=J9 I.hok e;have hz:vs.length<=ai:=by rw[<-rel.length];exact z
  have hl:(cM kvs k v).length<=ai:=by have:=jq kvs k v;omega
  refine wpAny_setItem_pairs (hsz:=hz) (pW ry) dd fun h' dd' hs=>h _ ?_;have he:∃q,h'.get? a=some q:=let⟨q,_,_,hq,_⟩:=dd';⟨q,hq⟩;exact p7 I (by rw[e];exact jg) hs he (GJ hl hd (rel.put k rv) dd')
 ·subst ey eH;cases(show u=Value.ref b from ry);obtain⟨z,hd,xs,rel,dd⟩:=Dy I.hok I.kIn e;have hz:xs.length<=ai:=by rw[<-Paired.length rel];exact z
  have hl:(cM kvs k v).length<=ai:=by have:=jq kvs k v;omega
  refine wpAny_setItem_heap (hsz:=hz) (f_ hu) (uO I.hok I.kIn (cW.c 8 e8 eb) e8) dd fun h' dd' hs=>h _ ?_;obtain⟨q,es,ep,hq,h2,h3,h4,_,h5⟩:=dd';refine p7 I (by rw[e];exact jg) hs ⟨q,hq⟩ ⟨hl,hd,_,(rel.put k (cW.c 8 e8 eb) e8 rv).keeps fun c ys ec=>?_,q,es,ep,hq,h2,h3,h4,h5⟩;rw[ag (Dp ec e (fun z=>nomatch z))];exact ec
theorem Cg{b:Addr}{kvs:List (TK×V)}{k:TK}{Q:Unit->Shared->Prop}(hu:A.units+16<cLine)(I:Inv X J3 σ H s)(e:H a=some (.dT kvs))(eb:jR X.K H k (.ref b))(e8:k.depth<=8)(l:kvs.length<ai)(ry:RelV (.ref b) u)(rv:RelV v r)(h:∀s',Inv X J3 σ (upd H a (.dT (cM kvs k v))) s'->Q () s'):
  wpAny (model X.prog X.w) A (setItem (.ref a) u r) Q E s:=by
 cases(show u=Value.ref b from ry);obtain⟨z,hd,xs,rel,dd⟩:=Dy I.hok I.kIn e;have hz:xs.length<=ai:=by rw[<-Paired.length rel];exact z
 have hl:(cM kvs k v).length<=ai:=by have:=jq kvs k v;omega
 refine wpAny_setItem_heap (hsz:=hz) (f_ hu) (uO I.hok I.kIn (eb) e8) dd fun h' dd' hs=>h _ ?_;obtain⟨q,es,ep,hq,h2,h3,h4,_,h5⟩:=dd';refine p7 I (by rw[e];exact jg) hs ⟨q,hq⟩ ⟨hl,hd,_,(rel.put k (eb) e8 rv).keeps fun c ys ec=>?_,q,es,ep,hq,h2,h3,h4,h5⟩;rw[ag (Dp ec e (fun z=>nomatch z))];exact ec
end
def Fa(i:Expr):Prop:=∀ov iv,xJ i false ov iv=operate [ov,iv] (nZ ov iv)
theorem Hl{prog:cg}{w:World}{A:Around}{E:Zc}{s:Shared}{env:Env}{value slice:Expr}{pos:Pos}{T id:String}{Q:Zc}
  (hl:typeLookup (.type T) "__getitem__"=pure (some (.builtin id))) (hs:Fa slice)
  (h:wpAny (model prog w) A (eval value env) (fun o s₁=>wpAny (model prog w) A (eval slice env) (fun i s₂=>s₂.TypeIs o T/\wpAny (model prog w) A (nZ o i) Q E s₂) E s₁) E s) :
  wpAny (model prog w) A (eval (.Subscript value slice pos) env) Q E s:=by
 refine Subscript_ (pd h (fun o s₁ h₁=>pd h₁ (fun i s₂ h₂=>?_) fun _ _ x=>x) fun _ _ x=>x);obtain⟨hT,h₂⟩:=h₂;unfold subscriptTail;refine ak ?_;rw[getitemInPython_of_ne hT.not_modules];refine ak (G_ hT hl ?_);have fin:wpAny (model prog w) A (xJ slice false o i) (fun r s₃=>wpAny (model prog w) A (letTemporaryGo value o r >>= fun _=>pure r) Q E s₃) E s₂:=by
  rw[hs o i];exact wpAny_operating (pd h₂ (fun r s₃ h₃=>ak (wpAny_letTemporaryGo (aD h₃))) fun _ _ x=>x)
 first
  |exact aD (ak fin)
  |exact ak (aD (ak fin))
  |exact ak fin
theorem AI{X:Cx}{J3:Zd}{σ:St}{H:Hp}{s:Shared}{a:Addr}{y:V}{o:Option V}(I:Inv X J3 σ H s)(g:ir X.K H a y o):s.TypeIs (.ref a) "dict":=by
 rcases g with⟨kvs,k,e,_,_⟩|⟨kvs,k,b,e,_,_,_⟩
 ·obtain⟨_,_,vs,_,dd⟩:=p6 I.hok e;exact dd.typeIs
 ·obtain⟨_,_,xs,_,dd⟩:=r8 I.hok I.kIn e;exact dd.typeIs
def gR(K:Za)(td ty:TE):TE:=fun σ H Q=>td σ H fun x H1=>ty σ H1 fun y H2=>∃a v,x=.ref a/\ir K H2 a y (some v)/\Q v H2
def sw(K:Za)(ty td:TE):TE:=fun σ H Q=>ty σ H fun y H1=>td σ H1 fun x H2=>∃a o,x=.ref a/\ir K H2 a y o/\Q (.bl o.isSome) H2
def dk(K:Za)(ty td:TE):TE:=fun σ H Q=>ty σ H fun y H1=>td σ H1 fun x H2=>∃a o,x=.ref a/\ir K H2 a y o/\Q (.bl (!o.isSome)) H2
def l_(td ty tv:TE):TS:=fun D σ H=>tv σ H fun v H1=>td σ H1 fun x H2=>ty σ H2 fun y H3=>∃a H4,x=.ref a/\Ki H3 a y v H4/\D.nx σ H4
section
variable{X:Cx}{o i e value:Expr}{pos pos' J7:Pos}{td ty tv:TE}
theorem eV(hu:X.A.units+16<cLine)(ho:PE X o td)(hi:PE X i ty)(hs:Fa i):PE X (.Subscript o i pos) (gR X.K td ty):=by
 intro J3 s σ H Q I h;refine Hl PySem.F.slot_dict_getitem.lookup hs (cI (ho J3 s σ H _ I h) fun u s1 ⟨x,H1,I1,rx,q1⟩=>cI (hi J3 s1 σ H1 _ I1 q1) fun iv s2 ⟨y,H2,I2,ry,a,v,ex,g,q2⟩=>?_);subst ex;obtain rfl:u=Value.ref a:=rx;exact⟨AI I2 g,ER hu I2 g ry fun w' s3 I3 rw'=>⟨v,H2,I3,rw',q2⟩⟩
theorem jG(hu:X.A.units+16<cLine)(hi:PE X i ty)(ho:PE X o td):PC X .In i o (sw X.K ty td):=by
 intro J3 s σ H Q I h;refine cI (hi J3 s σ H _ I h) fun iv s1 ⟨y,H1,I1,ry,q1⟩=>cI (ho J3 s1 σ H1 _ I1 q1) fun u s2 ⟨x,H2,I2,rx,a,ov,ex,g,q2⟩=>?_;subst ex;obtain rfl:u=Value.ref a:=rx;exact d_in hu I2 g ry fun s3 I3=>⟨.bl ov.isSome,H2,I3,rfl,q2⟩
theorem dh(hu:X.A.units+16<cLine)(hi:PE X i ty)(ho:PE X o td):PC X .NotIn i o (dk X.K ty td):=by
 intro J3 s σ H Q I h;refine cI (hi J3 s σ H _ I h) fun iv s1 ⟨y,H1,I1,ry,q1⟩=>cI (ho J3 s1 σ H1 _ I1 q1) fun u s2 ⟨x,H2,I2,rx,a,ov,ex,g,q2⟩=>?_;subst ex;obtain rfl:u=Value.ref a:=rx;exact Ik hu I2 g ry fun s3 I3=>⟨.bl (!ov.isSome),H2,I3,rfl,q2⟩
theorem h9(hu:X.A.units+16<cLine)(ho:PE X o td)(hi:PE X i ty)(hv:PE X value tv)(hs:rL value (some (.Subscript o i pos')) pos.line X.env=pure false):
  PS X (.Assign [.Subscript o i pos'] value pos) (l_ td ty tv):=by
 intro J3 s σ H D I h;refine wpAny_Assign_Subscript (cI (hv J3 s σ H _ I h) fun r s1 ⟨v,H1,I1,rv,q1⟩=>cI (ho J3 s1 σ H1 _ I1 q1) fun u s2 ⟨x,H2,I2,rx,q2⟩=>cI (hi J3 s2 σ H2 _ I2 q2) fun iv s3 ⟨y,H3,I3,ry,a,H4,ex,g,q3⟩=>?_) hs;subst ex;obtain rfl:u=Value.ref a:=rx;exact EQ hu I3 g ry rv fun s4 I4=>⟨σ,H4,I4,q3⟩
end
theorem GK{P:cg}{w:World}{K:Za}{H:Hp}(h:Heap)(hb:fD<h.objs.size):bW P w K H (h.push { cls:=.type "dict",data:=.dict #[] }) h.objs.size (.dK []) :=
 ⟨cX _,beq_eq_false_iff_ne.mpr (dE (cY hb)),[],.nil,Heap.DictOf.new h⟩
theorem AH{P:cg}{w:World}{K:Za}{H:Hp}(h:Heap)(hb:fD<h.objs.size):bW P w K H (h.push { cls:=.type "dict",data:=.dict #[] }) h.objs.size (.dT []) :=
 ⟨cX _,beq_eq_false_iff_ne.mpr (dE (cY hb)),[],.nil,_,#[],0,cG _ rfl,⟨rfl,rfl,rfl⟩,rfl,rfl,nU⟩
def ow:TE:=fun _ H Q=>∀p,H p=none->Q (.ref p) (upd H p (.dK []))
def jE:TE:=fun _ H Q=>∀p,H p=none->Q (.ref p) (upd H p (.dT []))
section
variable{X:Cx}{pos:Pos}
theorem j8:PE X (.Dict [] [] pos) ow:=fun J3 s σ H Q I h =>
 wpAny_Dict_empty ⟨.ref s.heap.objs.size,_,I.laid (a:=s.heap.objs.size) (o:=.dK []) (t':=s.toks) (fun _ _ q=>bx _ q) (aA _) (GK s.heap I.big),rfl,h _ (I.hok.fresh (aA _))⟩
theorem gy:PE X (.Dict [] [] pos) jE:=fun J3 s σ H Q I h =>
 wpAny_Dict_empty ⟨.ref s.heap.objs.size,_,I.laid (a:=s.heap.objs.size) (o:=.dT []) (t':=s.toks) (fun _ _ q=>bx _ q) (aA _) (AH s.heap I.big),rfl,h _ (I.hok.fresh (aA _))⟩
end
def jI(kvs more:List (fC×V)):List (fC×V):=more.foldl (fun acc kv=>cM acc kv.1 kv.2) kvs
theorem KV.merge:∀{more:List (fC×V)}{rs:List (fC×Value)}{kvs:List (fC×V)}{vs:List (fC×Value)},KV more rs->KV kvs vs->KV (jI kvs more) (merged vs rs):=by
 intro more rs kvs vs r;unfold KV at r
 induction r generalizing kvs vs with
 |nil=>intro q;exact q
 |@cons p q ps qs h t ih =>
  intro r0;have e:KV (cM kvs p.1 p.2) (stored vs q.1 q.2):=by
   have:=r0.put p.1 h.2;rw[<-h.1];exact this
  exact ih e
theorem nJ:∀(more kvs:List (fC×V)),(jI kvs more).length<=kvs.length+more.length
 |[],kvs=>by show kvs.length<=kvs.length+0;omega
 |p::r,kvs=>by
  have h1:=nJ r (cM kvs p.1 p.2);have h2:=jq kvs p.1 p.2;show(jI (cM kvs p.1 p.2) r).length<=_;rw[dS];omega
structure M1(X:Cx)(o:Expr)(m:Str)(J5:Pos)(e:Expr)(J4:Pos):Prop where
 base:sS o m X.env (eval o X.env)=eval o X.env
 few:((backTo J4 (aN [e] X.env)).all (fun x=>!x.1) && (o9 J4 (o8 [] X.env)).all (fun x=>x.1.isSome)
  && decide (([e]:List Expr).length+([]:List qH).length+(if([]:List qH).isEmpty then 0 else 1)<30))=true
 line:(J5.endLine==J4.line)=true
 trees:backTo J4 (aN [e] X.env)=[(false,eval e X.env)]
structure M2(X:Cx)(o:Expr)(m:Str)(J5:Pos)(e f:Expr)(J4:Pos):Prop where
 base:sS o m X.env (eval o X.env)=eval o X.env
 few:((backTo J4 (aN [e,f] X.env)).all (fun x=>!x.1) && (o9 J4 (o8 [] X.env)).all (fun x=>x.1.isSome)
  && decide (([e,f]:List Expr).length+([]:List qH).length+(if([]:List qH).isEmpty then 0 else 1)<30))=true
 line:(J5.endLine==J4.line)=true
 trees:backTo J4 (aN [e,f] X.env)=[(false,eval e X.env),(false,eval f X.env)]
def Ke(H:Hp)(a:Addr):Prop:=(∃kvs,Rd H a (.dK kvs))∨∃kvs,Rd H a (.dT kvs)
theorem Gu{X:Cx}{J3:Zd}{σ:St}{H:Hp}{s:Shared}{a:Addr}(I:Inv X J3 σ H s)(d:Ke H a):
  s.TypeIs (.ref a) "dict"/\(∀b,Value.ref a=.ref b->∃ob,s.heap.get? b=some ob/\ob.dict=none)/\(a==fD)=false:=by
 rcases d with⟨kvs,e⟩|⟨kvs,e⟩
 ·obtain⟨_,hd,vs,_,dd⟩:=p6 I.hok e;refine⟨dd.typeIs,fun b q=>?_,hd⟩;cases q;obtain⟨ob,_,_,h1,h2,_⟩:=dd;exact⟨ob,h1,h2.2.1⟩
 ·obtain⟨_,hd,xs,_,dd⟩:=r8 I.hok I.kIn e;refine⟨dd.typeIs,fun b q=>?_,hd⟩;cases q;obtain⟨ob,_,_,h1,h2,_⟩:=dd;exact⟨ob,h1,h2.2.1⟩
section
variable{X:Cx}{J3:Zd}{σ:St}{H:Hp}{s:Shared}{a:Addr}{y d:V}{u r:Value}{o:Option V}{A:Around}{E:Zc}
theorem Jv{Q:Zc}(hu:A.units+16<cLine)(I:Inv X J3 σ H s)(g:ir X.K H a y o)(ry:RelV y u)(h:∀w' s',Inv X J3 σ H s'->RelV (o.getD .non) w'->Q w' s'):
  wpAny (model X.prog X.w) A (call (.builtin "dict.get") [.ref a,u]) Q E s:=by
 rcases g with⟨kvs,k,e,ey,l⟩|⟨kvs,k,b,e,ey,eb,e8,l⟩
 ·subst ey;obtain⟨z,hd,vs,rel,dd⟩:=p6 I.hok e;refine tI qE dd.typeIs xE (PySem.F.args_dict_get_2 _ _) (meets_dict_get (cB X.prog X.w) a (pW ry) hd) ⟨_,dd.mapOf,h _ _ (I.tok _) ?_⟩;rw[l];exact(rel.val k).getD rfl
 ·subst ey;cases(show u=Value.ref b from ry);obtain⟨z,hd,xs,rel,dd⟩:=r8 I.hok I.kIn e;refine tI qE dd.typeIs xE (PySem.F.args_dict_get_2 _ _) (meetsH_dict_get (dP X.prog X.w) a b hd) ⟨f_ hu,k,xs,uP I eb e8,dd,h _ _ (I.tok _) ?_⟩;rw[l];exact(rel.val k).getD rfl
theorem Ju{Q:Zc}(hu:A.units+16<cLine)(I:Inv X J3 σ H s)(g:ir X.K H a y o)(ry:RelV y u)(rd:RelV d r)(h:∀w' s',Inv X J3 σ H s'->RelV (o.getD d) w'->Q w' s'):
  wpAny (model X.prog X.w) A (call (.builtin "dict.get") [.ref a,u,r]) Q E s:=by
 rcases g with⟨kvs,k,e,ey,l⟩|⟨kvs,k,b,e,ey,eb,e8,l⟩
 ·subst ey;obtain⟨z,hd,vs,rel,dd⟩:=p6 I.hok e;refine tI qE dd.typeIs xE (PySem.F.args_dict_get_3 _ _ _) (meets_dict_get_default (cB X.prog X.w) a (pW ry) hd r) ⟨_,dd.mapOf,h _ _ (I.tok _) ?_⟩;rw[l];exact(rel.val k).getD rd
 ·subst ey;cases(show u=Value.ref b from ry);obtain⟨z,hd,xs,rel,dd⟩:=r8 I.hok I.kIn e;refine tI qE dd.typeIs xE (PySem.F.args_dict_get_3 _ _ _) (meetsH_dict_get_default (dP X.prog X.w) a b hd r) ⟨f_ hu,k,xs,uP I eb e8,dd,h _ _ (I.tok _) ?_⟩;rw[l];exact(rel.val k).getD rd
end
def yb(K:Za)(td ty:TE):TE:=fun σ H Q=>td σ H fun x H1=>∃a,x=.ref a/\Ke H1 a/\ty σ H1 fun y H2=>∃o,ir K H2 a y o/\Q (o.getD .non) H2
def uc(K:Za)(td ty tx:TE):TE:=fun σ H Q=>td σ H fun x H1=>∃a,x=.ref a/\Ke H1 a/\ty σ H1 fun y H2=>tx σ H2 fun z H3=>∃o,ir K H3 a y o/\Q (o.getD z) H3
section
variable{X:Cx}{o e f:Expr}{J5 J4:Pos}{td ty tx:TE}
theorem Aj(hu:X.A.units+16<cLine)(ho:PE X o td)(he:PE X e ty)(m:M1 X o "get" J5 e J4):PE X (.Call (.Attribute o "get" J5) [e] [] J4) (yb X.K td ty):=by
 intro J3 s σ H Q I h;refine wpAny_Call_method m.base m.few m.line PySem.F.plainAttrs_dict qE PySem.F.type_dict_get (cI (ho J3 s σ H _ I h) fun u s1 ⟨x,H1,I1,rx,a,ex,d,q1⟩=>?_);subst ex;obtain rfl:u=Value.ref a:=rx;obtain⟨t1,t2,_⟩:=Gu I1 d;refine⟨t1,t2,?_⟩;rw[m.trees];refine tL rfl (Calls.evalArgs_plain (CM (cI (he J3 s1 σ H1 _ I1 q1) fun iv s2 ⟨y,H2,I2,ry,ov,g,q2⟩=>Calls.spliced_nil ?_)));exact Jv hu I2 g ry fun w' s3 I3 rw'=>⟨_,H2,I3,rw',q2⟩
theorem pP(hu:X.A.units+16<cLine)(ho:PE X o td)(he:PE X e ty)(hf:PE X f tx)(m:M2 X o "get" J5 e f J4):PE X (.Call (.Attribute o "get" J5) [e,f] [] J4) (uc X.K td ty tx):=by
 intro J3 s σ H Q I h;refine wpAny_Call_method m.base m.few m.line PySem.F.plainAttrs_dict qE PySem.F.type_dict_get (cI (ho J3 s σ H _ I h) fun u s1 ⟨x,H1,I1,rx,a,ex,d,q1⟩=>?_);subst ex;obtain rfl:u=Value.ref a:=rx;obtain⟨t1,t2,_⟩:=Gu I1 d;refine⟨t1,t2,?_⟩;rw[m.trees];refine tL rfl (Calls.evalArgs_plain (CM (cI (he J3 s1 σ H1 _ I1 q1) fun iv s2 ⟨y,H2,I2,ry,q2⟩ =>
  CM (cI (hf J3 s2 σ H2 _ I2 q2) fun fv s3 ⟨z,H3,I3,rz,ov,g,q3⟩=>Calls.spliced_nil ?_))))
 exact Ju hu I3 g ry rz fun w' s4 I4 rw'=>⟨_,H3,I4,rw',q3⟩
end
end L2
namespace Att
open PySem PySem.W PySem.Calls PyProof.Rows
theorem ints_of_wellAll{P:Params}{h:Heap}:∀(ns:List Int) (vs:Zf),WellAll P h vs (ns.map WData.int)->tH vs ns:=by
 intro ns
 induction ns with
 |nil =>
  intro vs w;rw[List.map_nil]at w;cases w;exact .nil
 |cons n ns ih =>
  intro vs w;rw[bI]at w;cases w with
  |cons a b =>
   cases a;exact .cons _ _ (ih _ b)
theorem script_of{l:OpenLaw}{n:Nat}(hn:l.most=some n){P:Params}{h:Heap}{args:List WData}{vals:Zf}
  (hpre:l.row.toRowW.claim.pre args=true) (hwl:WellAll P h vals args) :
  ∃a vs ns,vals=[Value.ref a]/\args=[WData.list (ns.map WData.int)]/\h.get? a=some { cls:=.type "list",data:=.seq vs.toArray }/\tH vs ns/\ns.length<=n:=by
 have hsh:WShape.hasAll [] args [.list .int]=true:=(pre_splitW hpre).1;have hc:l.pre.holds [] { args:=args }=true:=(pre_splitW hpre).2;obtain⟨d,r,rfl,h1,h2⟩:=hasAllW_cons hsh;obtain rfl:=hasAllW_nil h2;obtain⟨xs,rfl,h3⟩:=hasW_list h1;obtain⟨ns,rfl⟩:=items_int h3;have hlen:ns.length<=n:=by
  unfold OpenLaw.pre at hc;have h4:(WTm.not (.lt (.lit (.int (n:Int))) (.len (.arg 0)))).holds [] { args:=[.list (ns.map .int)] }=true:=by
   have h4:=(holds_andW hc).1;rw[hn]at h4;exact h4
  have h5:=condW_of h4 (w_not (w_lt w_lit (w_len_list (w_arg rfl))));rw[aj]at h5;refine Nat.le_of_not_lt fun q=>?_;have q':(n:Int)<((ns.length:Nat):Int):=by omega
  first
   | (rw[zzr1 q']at h5;exact absurd h5 (by decide))
   | (simp at h5;omega)
 cases hwl with
 |cons w1 w2 =>
  cases w2;cases w1 with
  |list ho hall=>exact⟨_,_,ns,rfl,rfl,ho,ints_of_wellAll ns _ hall,hlen⟩
theorem post_true(l:OpenLaw)(args:List WData):l.row.toRowW.claim.post args (.bool true) args=true :=
 postW_of (r:=l.row.toRowW) (X:=(true==true))
  (show WShape.has [] (.bool true) .bool=true by first|rfl|decide|simp[WShape.has,WShape.arms,WShape.armsAll])
  (show(WTm.eq .res (.lit (.bool true))).value [] { args:=args,res:=some (.bool true),after:=args }=some (.bool (true==true))from w_eq_bool (w_res rfl) w_lit) rfl
theorem attach_call{l:OpenLaw}{n:Nat}{q:cg}{loose:Zb}{XP:(Str->Option Value)->Heap->Prop}{YP:World->Heap->Prop}{d:DefRec}
  (hn:l.most=some n) (hdf:d.params.defaults=[])
  (call:∀(w:World) (s₀ s₁:Shared) (mg mb:Str->Option Value) (fa:Addr) (o:Obj) (pm cd doc:Value) (a:Addr) (vs:Zf) (ns:List Int),
   Ground q loose [] XP w s₀ mg mb s₁.heap->YP w s₁.heap ->
   s₁.heap.get? fa=some o->o.data=.func (docDef d.name d.params d.body d.scope pm cd doc)->s₁.heap.CodeRec cd d.name->mg d.name=some (.ref fa) ->
   s₁.heap.get? a=some { cls:=.type "list",data:=.seq vs.toArray }->tH vs ns->ns.length<=n->s₁.gens=#[] ->
   zzl79 (model l.prog w) lP (.call (.ref fa) ⟨[.ref a],[]⟩) (fun r s'=>r=.ok (.ret (.bool true))/\OldK s₁.heap s'.heap/\s'.os=s₁.os/\pc s'.gens) s₁) :
  WalkO q loose XP YP l.row.toRowW d [] (fun f vs=>PySem.call f vs):=by
 intro w s₀ s₁ mg mb G Y fa o pm cd doc dV kV ho hd hcd hD hmg hg args vals as hpre hlay hrd hwl hlo;obtain rfl:dV=.none:=Dflts.none hD hdf;obtain rfl:kV=.none:=Dflts.noKw hD;obtain⟨a,vs,ns,rfl,rfl,hobj,hints,hlen⟩:=script_of hn hpre hwl;refine enter_call (CL (call w s₀ s₁ mg mb fa o pm cd doc a vs ns G Y ho (fd_plain hd) hcd hmg hobj hints hlen hg) fun r s' hq=>?_);obtain⟨rfl,h2,h3,h4⟩:=hq;exact⟨.inl ⟨.bool true,.bool true,[],rfl,fun _=>rfl,.bool true,post_true l _,fun _=>⟨List.Pairwise.nil,fun _ hm=>(nomatch hm)⟩⟩,h2,h3,h4⟩
end Att
namespace L2
open PySem PySem.Spec PyProof.Rows
theorem wc:∀{vs:Zf}{ns:List Int},tH vs ns->bf (ns.map V.int) vs
 |_,_,.nil=>.nil
 |_,_,.cons n t h=>.cons ⟨t,rfl⟩ (wc h)
def Iz(H:Hp):Prop:=∀b,H b=none∨∃o xs,H b=some (.frz o (.lst xs))
theorem Gp{P:cg}{w:World}{K:Za}{mg mb:Str->Option Value}{CX:Fh}{k:Nat}{fa a:Addr}{fd:lh}{x:Str}{sp:Sp}{s₁:Shared}{vs:Zf}{ns:List Int}
  (KX:K.In s₁.heap) (hns:s₁.heap.Ns b_ mg) (hb:s₁.heap.Ns builtinsNs mb) (hbb:∀x:Str,x≠"__name__"->mb x=ji x) (hlim:s₁.heap.NoLimit) (hg:s₁.gens=#[])
  (ha:s₁.heap.get? a=some { cls:=.type "list",data:=.seq vs.toArray }) (hi:tH vs ns) (hl:ns.length<=ai) (hr:eZ k lP)
  (F:∀base:Heap,K.In base->base.Ns b_ mg->mG P w K mg base CX k fa fd [x] sp) (hbind:∀(s:Shared) (u:Value),sR s fd ⟨[u],[]⟩ [(x,u)])
  (hsp:∀H:Hp,Iz H->az K H a (ns.map V.int)->sp [.ref a] H (fun v _=>v=.bl true) fun _ _ _=>False)
  (hCX:∀H e s',CX [] H s₁ (fun _ _ _=>False) e s'->False) :
  zzl79 (model P w) lP (.call (.ref fa) ⟨[.ref a],[]⟩) (fun r s'=>r=.ok (.ret (.bool true))/\OldK s₁.heap s'.heap/\s'.os=s₁.os/\pc s'.gens) s₁:=by
 have rv:=wc hi;have lenV:=hi.length;have core:∀H:Hp,Iz H->az K H a (ns.map V.int)->ng P w K H s₁.heap->(∀b,H b≠none->b=a)->(H a≠none->K.lookup a=none) ->
   zzl79 (model P w) lP (.call (.ref fa) ⟨[.ref a],[]⟩) (fun r s'=>r=.ok (.ret (.bool true))/\OldK s₁.heap s'.heap/\s'.os=s₁.os/\pc s'.gens) s₁:=by
  intro H hO hS hok hA hK;have base_of:∀{b:Addr}{o:Obj},s₁.heap.get? b=some o->H b=none->(yH s₁.heap H).get? b=some o:=fun e n=>Gx e n;have noA:∀{b:Addr}{o:Obj}{es:Array kD}{ep:Nat},s₁.heap.get? b=some o->o.data=.dict es ep->H b=none:=fun{b o es ep} e d=>by
   cases q:H b with
   |none=>rfl
   |some u =>
    have e':b=a:=hA b (by rw[q];simp);subst e';rw[ha]at e;cases e;have d':Data.seq vs.toArray _=Data.dict es ep:=d;cases d'
  have nsK:∀{b:Addr}{m:Str->Option Value},s₁.heap.Ns b m->(yH s₁.heap H).Ns b m:=fun{b m} ⟨o,es,ep,e,d,r⟩=>⟨o,es,ep,base_of e (noA e d),d,r⟩;have hKb:K.In (yH s₁.heap H):=fun b o e=>base_of (KX b o e) (by
   cases q:H b with
   |none=>rfl
   |some u =>
    have e':b=a:=hA b (by rw[q];simp);subst e';rw[hK (by rw[q];simp)]at e;cases e)
  have hM:Mod K mg (yH s₁.heap H):=⟨hKb,nsK hns,⟨mb,nsK hb,hbb⟩,let⟨mc,h1,h2⟩:=hlim;⟨mc,nsK h1,h2⟩⟩;have e0:CH P w K mg (yH s₁.heap H) lP [] s₁ H:=⟨rfl,hM,fun b o e=>HZ e,Nat.le_of_eq (EI _ _),trivial,fun b hb=>absurd (show b∈([]:Ze)from hb) (by simp),hok,.of_eq hg⟩;refine CL ((F _ hKb (nsK hns)).run lP [] s₁ H ⟨[.ref a],[]⟩ [.ref a] [.ref a] _ _ hr e0 (hbind s₁ (.ref a)) (.cons rfl .nil) (hsp H hO hS)) fun r s' h=>?_;cases r with
  |error e=>exact(hCX H e s' h).elim
  |ok fl =>
   cases fl with
   |next=>exact jV h
   |brk=>exact jV h
   |cont=>exact jV h
   |ret u =>
    obtain⟨v,H',os,bare,un,hok',r',q⟩:=h;have q':v=.bl true:=q;subst q';obtain rfl:u=Value.bool true:=r';refine⟨rfl,OldK.of_keep fun b o e=>?_,os,bare⟩;cases q:H b with
    |none=>exact un.keep b o e q (by intro z;exact absurd (show b∈([]:Ze)from z) (by simp)) (by simp)
    |some u =>
     rcases hO b with z|⟨ob,xs,z⟩
     ·rw[q]at z;cases z
     ·have z2:=un.frzs b ob _ z;obtain⟨e1,_⟩:=hok b _ z;obtain⟨e2,_⟩:=hok' b _ z2;rw[e]at e1;cases e1;exact e2
 cases hk:K.lookup a with
 |some o =>
  have e:=KX a o hk;rw[ha]at e;cases e;refine core (fun _=>none) (fun _=>.inl rfl) (.inr ⟨_,vs.toArray,_,hk,rfl,rfl,rfl,by rw[bN,lenV];exact hl,by simpa using rv⟩) (fun b u z=>by have z':(none:Option HO)=some u:=z;cases z') (fun b z=>absurd rfl z) fun z=>absurd rfl z
 |none =>
  refine core (fun b=>if b=a then some (.frz { cls:=.type "list",data:=.seq vs.toArray } (.lst (ns.map V.int)))else none) (fun b=>?_) (.inl (.inr ⟨{ cls:=.type "list",data:=.seq vs.toArray },if_pos rfl⟩)) (fun b u z=>?_) (fun b z=>?_) fun _=>hk
  ·by_cases hb:b=a
   ·exact .inr ⟨_,_,if_pos hb⟩
   ·exact .inl (if_neg hb)
  ·by_cases hb:b=a
   ·have z':=(if_pos hb).symm.trans z;cases z';subst hb;exact⟨ha,by rw[aj];exact hl,vs,_,rv,ha⟩
   ·have z':=(if_neg hb).symm.trans z;cases z'
  ·by_cases hb:b=a
   ·exact hb
   ·exact absurd (if_neg hb) z
end L2
namespace L2
open PySem PySem.Spec PyProof.Rows
theorem Hb{l:PySem.W.OpenLaw}{n k:Nat}{q:cg}{loose:Zb}{XP:(Str->Option Value)->Heap->Prop}{YP:World->Heap->Prop}{d:DefRec}{K:Params->Za}{CX:World->Fh}{sp:World->Sp}{x:Str}
  (hn:l.most=some n) (hn2:n<=ai) (hdf:d.params.defaults=[]) (hr:eZ k lP)
  (hY:∀(w:World) (h:Heap),YP w h->(K w.params).In h)
  (F:∀(w:World) (mg:Str->Option Value) (fa:Addr) (h:Heap),(K w.params).In h->h.Ns b_ mg->mg d.name=some (.ref fa) ->
   ∃fd:lh,(∀(s:Shared) (u:Value),sR s fd ⟨[u],[]⟩ [(x,u)]) /\
    ∀base:Heap,(K w.params).In base->base.Ns b_ mg->mG l.prog w (K w.params) mg base (CX w) k fa fd [x] (sp w))
  (hsp:∀(w:World) (H:Hp) (a:Addr) (ns:List Int),ns.length<=n->Iz H->az (K w.params) H a (ns.map V.int)->sp w [.ref a] H (fun v _=>v=.bl true) fun _ _ _=>False)
  (hCX:∀(w:World) (H:Hp) (s:Shared) (e:Value) (s':Shared),CX w [] H s (fun _ _ _=>False) e s'->False) :
  PySem.W.WalkO q loose XP YP l.row.toRowW d [] (fun f vs=>PySem.call f vs):=by
 refine Att.attach_call hn hdf fun w s₀ s₁ mg mb fa o pm cd doc a vs ns G Y ho hd hcd hmg hobj hints hlen hg=>?_;have KX:=hY w _ Y;obtain⟨fd,hb,hF⟩:=F w mg fa _ KX G.T.g hmg;exact Gp KX G.T.g G.T.b G.T.builtins G.T.nolimit hg hobj hints (bC hlen hn2) hr hF hb (fun H hO hS=>hsp w H a ns hlen hO hS) fun H e s'=>hCX w H s₁ e s'
theorem walk_ofK{l:PySem.W.OpenLaw}{n k:Nat}{q:cg}{loose:Zb}{XP:(Str->Option Value)->Heap->Prop}{YP:World->Heap->Prop}{d:DefRec}{K:Params->Za}{CX:Fh}{sp:Za->Sp}{x:Str}
  (hn:l.most=some n) (hn2:n<=ai) (hdf:d.params.defaults=[]) (hr:eZ k lP)
  (hY:∀(w:World) (h:Heap),YP w h->(K w.params).In h)
  (F:∀(w:World) (mg:Str->Option Value) (fa:Addr) (h:Heap),(K w.params).In h->h.Ns b_ mg->mg d.name=some (.ref fa) ->
   ∃fd:lh,(∀(s:Shared) (u:Value),sR s fd ⟨[u],[]⟩ [(x,u)]) /\
    ∀base:Heap,(K w.params).In base->base.Ns b_ mg->mG l.prog w (K w.params) mg base CX k fa fd [x] (sp (K w.params)))
  (hsp:∀(K:Za) (H:Hp) (a:Addr) (ns:List Int),ns.length<=n->Iz H->az K H a (ns.map V.int)->sp K [.ref a] H (fun v _=>v=.bl true) fun _ _ _=>False)
  (hCX:∀(H:Hp) (s:Shared) (e:Value) (s':Shared),CX [] H s (fun _ _ _=>False) e s'->False) :
  PySem.W.WalkO q loose XP YP l.row.toRowW d [] (fun f vs=>PySem.call f vs) :=
 Hb (K:=K) (CX:=fun _=>CX) (sp:=fun w=>sp (K w.params)) hn hn2 hdf hr hY F (fun w H a ns h1 h2 h3=>hsp (K w.params) H a ns h1 h2 h3) fun _ H s e s'=>hCX H s e s'
end L2
namespace L2
open PySem PySem.Spec PyProof.Rows
def gC(s:Stmt)(j:Nat):Stmt:=match s with
 |.ClassDef _ _ _ body _ _ _ _ _ _ _=>body.getD j (.Pass ⟨0,0,0,0⟩)
 |_=>.Pass ⟨0,0,0,0⟩
def iD(s:Stmt):Arguments:=match s with
 |.FunctionDef _ a _ _ _ _ _ _ _ _=>a
 |_=>{ posonlyargs:=[],args:=[],vararg:=none,kwonlyargs:=[],kw_defaults:=[],kwarg:=none,defaults:=[] }
def gE(s:Stmt):List Stmt:=match s with
 |.FunctionDef _ _ b _ _ _ _ _ _ _=>b
 |_=>[]
def cp(s:Stmt):Scope:=match s with
 |.FunctionDef _ _ _ _ _ _ sc _ _ _=>sc
 |_=>{ kind:=.function,names:=[],isGenerator:=false,isCoroutine:=false }
abbrev CX0:Fh:=fun _ _ _ _ _ _=>False
abbrev E0:XK:=fun _ _ _=>False
abbrev aM(sp:Sp)(a:TA):TE:=II sp [] E0 a
theorem Di{X:Cx}:oN CX0 X E0:=fun _ _ _ _ _ _ _ h=>h.elim
structure JJ(K:Za)(x qual:Str)(st:Stmt)(f:Addr)(fd:lh):Prop where
 ex:∃(oc:Value) (od:Option Addr) (kV doc pm:Value) (an:Option Addr) (cdv ct:Value) (osl:Array (Option Value)),
  fd=iW x qual (iD st) (gE st) (cp st) .none kV doc pm an cdv ct/\K.lookup f=some ⟨oc,od,.func fd,osl⟩/\n5 K cdv qual=true
 kp:iP K (.ref f)=true
section
variable{P:cg}{w:World}{K:Za}{mg:Str->Option Value}{base:Heap}
theorem JJ.ok{x qual:Str}{st:Stmt}{f:Addr}{fd:lh}{N ps:Zb}{k:Nat}{sp:Sp}(F:JJ K x qual st f fd)(S:k4 N ps (cp st))(len:∀vs H Q E,sp vs H Q E->vs.length=ps.length)
  (hbody:∀(cdv:Value) (A:Around) (outer:List Env) (s:Shared) (H:Hp) (vs:List V) (Q:VK) (E:XK),eZ k (A.deeper (envOfC qual (cp st) s.heap.objs.size f cdv))->sp vs H Q E ->
   ∃t,A_ (Ch CX0 P w K mg base N qual (cp st) f cdv A outer s H E).nox (gE st) t/\t (bJ Q) (start N vs) H):mG P w K mg base CX0 (k+1) f fd ps sp:=by
 obtain⟨oc,od,kV,doc,pm,an,cdv,ct,osl,rfl,lk,hcd⟩:=F.ex;refine JY lk hcd S len fun A outer s H vs Q E hr hsp=>?_;obtain⟨t,h,q⟩:=hbody cdv A outer s H vs Q E hr hsp;exact⟨t,h.nox,q⟩
theorem JJ.binds{x qual:Str}{st:Stmt}{f:Addr}{fd:lh}{ps:Zb}(F:JJ K x qual st f fd)
  (h:∀(kV doc pm:Value) (an:Option Addr) (cdv ct:Value) (us:Zf),us.length=ps.length->bindArgs (iW x qual (iD st) (gE st) (cp st) .none kV doc pm an cdv ct) ⟨us,[]⟩=pure (ps.zip us)):Binds K fd ps []:=by
 obtain⟨oc,od,kV,doc,pm,an,cdv,ct,osl,rfl,lk,hcd⟩:=F.ex;exact .all (h kV doc pm an cdv ct)
theorem GB{x qual:Str}{st:Stmt}{f:Addr}{oc:Value}{od an:Option Addr}{osl:Array (Option Value)}{kV doc pm cdv ct:Value}(l:K.lookup f=some ⟨oc,od,.func (iW x qual (iD st) (gE st) (cp st) .none kV doc pm an cdv ct),osl⟩)
  (c:n5 K cdv qual=true) (k:iP K (.ref f)=true):JJ K x qual st f (iW x qual (iD st) (gE st) (cp st) .none kV doc pm an cdv ct):=⟨⟨oc,od,kV,doc,pm,an,cdv,ct,osl,rfl,l,c⟩,k⟩
end
theorem Dv{A:Around}{k:Nat}(hr:eZ k A):A.units+16<cLine:=Nat.lt_of_le_of_lt (Nat.add_le_add_left (by decide:16<=64) _) hr.units
theorem ar{n:Nat}(h:n<=1000):n<ai:=Nat.lt_of_le_of_lt h (by decide)
section
variable{X:Cx}
theorem pv(i:Nat){x:Str}{pos:Pos}(hN:X.N[i]?=some x:=by rfl)(hv:Kr X.env.scope x:=by first|exact Or.inl rfl|exact Or.inr (Or.inl rfl)|exact Or.inr (Or.inr rfl))(hd:(x==("__debug__":Str))=false:=by decide)
  (hcd:(x==("__classdict__":Str))=false:=by decide):PE X (.Name x pos) (oo i):=Jl hN hv hd hcd
end
theorem bR{A B:Prop}(h:B):if false=true then A else B:=by
 rw[if_neg fO];exact h
theorem cR{A B:Prop}(h:A):if true=true then A else B:=by
 rw[if_pos rfl];exact h
theorem jJ{c A B:Prop}[Decidable c](h1:c->A)(h2:¬c->B):if c then A else B:=by
 by_cases h:c
 ·rw[if_pos h];exact h1 h
 ·rw[if_neg h];exact h2 h
def ab(H H':Hp):Prop:=∀b o,H b=some o->H' b=some o
theorem ab.refl(H:Hp):ab H H:=fun _ _ h=>h
theorem ab.trans{H H1 H2:Hp}(a:ab H H1)(b:ab H1 H2):ab H H2:=fun c o h=>b c o (a c o h)
theorem ab.free{H H':Hp}(e:ab H H'){l:Addr}(h:H' l=Option.none):H l=Option.none:=by
 cases q:H l with
 |none=>rfl
 |some o =>
  rw[e l o q]at h;cases h
theorem ab.seq{K:Za}{H H':Hp}{a:Addr}{xs:List V}(e:ab H H')(h:az K H a xs):az K H' a xs:=by
 rcases h with(h|⟨o,h⟩)|h
 ·exact .inl (.inl (e _ _ h))
 ·exact .inl (.inr ⟨o,e _ _ h⟩)
 ·exact .inr h
section
variable{prog:cg}{w:World}{A:Around}{R:Result->Shared->Prop}{s:Shared}
abbrev XF:Value->Shared->Prop:=fun _ _=>False
abbrev B_(ifs:List Expr)(env:Env):Sem Bool:=forIn ifs true fun c r=>if r=true then do let ok <- isTrue c env (eval c env);pure (xD ok)else pure (xD r)
theorem yO{iter:Expr}{scope:Scope}{pos:Pos}{acc:Value}(I:Nat->Shared->Prop)
  (turn:∀n s,I n s->wpAny (model prog w) A (pyNext it) (fun r s₁=>match r with
   |none=>R (.ok .next) s₁
   |some v=>wpAny (model prog w) A (CU target it v) (fun _ s₁'=>wpAny (model prog w) A (assign target env v) (fun _ s₂ =>
     wpAny (model prog w) A (B_ ifs env) (fun ok s₃ =>
      if ok=true then wpAny (model prog w) A (eval elt env) (fun x s₄ =>
       wpAny (model prog w) A (call (.builtin "list.append") [acc,x]) (fun _ s₅=>∃m,m<n/\I m s₅) XF s₄) XF s₃
      else ∃m,m<n/\I m s₃) XF s₂) XF s₁') XF s₁) XF s)
  (n:Nat) (h:I n s):zzl79 (model prog w) A (.compLoop (.ListComp elt [⟨target,iter,ifs,0⟩] scope pos) 0 it acc env) R s:=by
 refine codeAny_loop rfl I (fun n s hI=>?_) n h;show wpAny _ A ((compTurn (.ListComp elt [⟨target,iter,ifs,0⟩] scope pos) 0 it acc env).onRaise (fun x=>do noteFrame x env;theTreesLotGoes x)) _ _ s
 refine wpAny_noted ?_;rw[compTurn_list];refine ak (CV (ak (pd (turn n s hI) (fun r s₁ h₁=>?_) fun _ _ h'=>h'.elim)));cases r with
 |none=>exact aD h₁
 |some v =>
  refine ak (pd h₁ (fun _ s₁' h₁'=>?_) fun _ _ h'=>h'.elim);refine ak (pd h₁' (fun _ s₂ h₂=>ak (pd h₂ (fun ok s₃ h₃=>?_) fun _ _ h'=>h'.elim)) fun _ _ h'=>h'.elim);cases ok with
  |false=>exact aD ⟨rfl,h₃⟩
  |true =>
   exact ak (ak (pd h₃ (fun x s₄ h₄=>ak (pd h₄ (fun _ s₅ h₅=>aD (aD ⟨rfl,h₅⟩)) fun _ _ h'=>h'.elim)) fun _ _ h'=>h'.elim))
end
theorem oJ{env:Env}:∀(names:List (Str×jS)) (cs0:List (Str×Addr)),(∀y∈names,y.2=.free->∃c,env.cells.lookup y.1=some c)->(∀x c,cs0.lookup x=some c->env.cells.lookup x=some c) ->
  ∃cs:List (Str×Addr),(forIn names cs0 fun(x:Str×jS) (r:List (Str×Addr))=>if(x.2==lO)=true then(cellOf env x.1 >>= fun c=>(pure (xD ((x.1,c)::r)):Sem (ForInStep (List (Str×Addr)))))else pure (xD r))=pure cs /\
   (∀x c,cs.lookup x=some c->env.cells.lookup x=some c)/\(∀x,(cs0.lookup x).isSome=true->(cs.lookup x).isSome=true)/\∀y∈names,y.2=.free->(cs.lookup y.1).isSome=true
 |[],cs0,_,h0=>⟨cs0,rfl,h0,fun _ h=>h,fun _ h=>nomatch h⟩
 | (n,k)::r,cs0,has,h0=>by
  have hr:∀y∈r,y.2=.free->∃c,env.cells.lookup y.1=some c:=fun y hy=>has y (eI _ hy);by_cases hk:k=.free
  ·subst hk;obtain⟨c,hc⟩:=has (n,.free) dU rfl;obtain⟨cs,e,p1,p2,p3⟩:=oJ r ((n,c)::cs0) hr (fun x d hd=>by
    rw[iV]at hd;cases hx:x==n with
    |true =>
     rw[hx]at hd;have:x=n:=by simpa using hx
     subst this;cases hd;exact hc
    |false=>rw[hx]at hd;exact h0 x d hd)
   have hself:(((n,c)::cs0).lookup n).isSome=true:=by rw[iV,beq_self_eq_true];rfl
   have hmono:∀x,(cs0.lookup x).isSome=true->(((n,c)::cs0).lookup x).isSome=true:=fun x hx=>by
    rw[iV];cases x==n with
    |true=>rfl
    |false=>exact hx
   refine⟨cs,?_,p1,fun x hx=>p2 x (hmono x hx),fun y hy hf=>?_⟩
   ·rw[qD];have hcell:cellOf env n=pure c:=by unfold cellOf;rw[hc]
    simp only[beq_self_eq_true,if_true,hcell];exact e
   ·rcases cH.mp hy with rfl|hy
    ·exact p2 _ hself
    ·exact p3 y hy hf
  ·obtain⟨cs,e,p1,p2,p3⟩:=oJ r cs0 hr h0;refine⟨cs,?_,p1,p2,fun y hy hf=>?_⟩
   ·rw[qD];have hb:(k==lO)=false:=by simpa using hk
    simp only[hb,lN,if_false];exact e
   ·rcases cH.mp hy with rfl|hy
    ·exact absurd hf hk
    ·exact p3 y hy hf
theorem u6{env:Env}{scope:Scope}(has:∀y∈scope.names,y.2=.free->∃c,env.cells.lookup y.1=some c):
  ∃cs:List (Str×Addr),closureFor scope env=pure cs/\(∀x c,cs.lookup x=some c->env.cells.lookup x=some c)/\∀y∈scope.names,y.2=.free->(cs.lookup y.1).isSome=true:=by
 obtain⟨cs,e,p1,_,p3⟩:=oJ (env:=env) scope.names [] has (fun _ _ h=>nomatch h);refine⟨cs,?_,p1,p3⟩;unfold closureFor
 first
  |exact e
  | (simp only[bind_pure];exact e)
  | (rw[show(forIn scope.names [] _:Sem (List (Str×Addr)))=pure cs from e];rfl)
def dZ(X:Cx)(N:Zb)(scope:Scope)(C:Addr)(cl:List (Str×Addr))(s₀:Shared)(H₀:Hp)(ex:Ze)(pn:Zd):Cx where
 prog:=X.prog
 w:=X.w
 K:=X.K
 mg:=X.mg
 base:=X.base
 A:=X.A
 N:=N
 s₀:=s₀
 H₀:=H₀
 env:=compEnvC scope cl C X.env
 outer:=X.stack
 stack:=X.stack
 ex:=ex
 fn:=fun _=>false
 calm:=X.calm
 pn:=pn
 xe:=XF
def m_(sc scope:Scope)(k:Nat)(N XN:Zb)(fi:List Nat):Bool :=
 decide (scope.kind=.function) &&
 (scope.names.all fun y=>decide (y.2≠.cell) && (decide (y.2≠.local) || decide (scope.names.lookup y.1=some .local)) && (decide (y.2≠.free) || decide (sc.names.lookup y.1=some .cell) || decide (sc.names.lookup y.1=some .free))) &&
 decide (N.length=k+fi.length) &&
 ((jW fi.length).all fun j=>match fi[j]? with
  |some i=>match N[k+j]?,XN[i]? with
   |some x,some y=>decide (x=y) && decide (scope.names.lookup x=some .free)
   |_,_=>false
  |none=>false)
structure oX(sc scope:Scope)(k:Nat)(N XN:Zb)(fi:List Nat):Prop where
 kind:scope.kind=.function
 cell:∀y∈scope.names,y.2≠.cell
 nm:∀y∈scope.names,y.2=.local->scope.names.lookup y.1=some .local
 fr:∀y∈scope.names,y.2=.free->sc.names.lookup y.1=some .cell∨sc.names.lookup y.1=some .free
 len:N.length=k+fi.length
 sl:∀j i,fi[j]?=some i->∃x,N[k+j]?=some x/\XN[i]?=some x/\scope.names.lookup x=some .free
theorem oX.of(h:m_ sc scope k N XN fi=true):oX sc scope k N XN fi:=by
 unfold m_ at h;simp only[tG,xC,Bool.or_eq_true,decide_eq_true_eq]at h;obtain⟨⟨⟨h1,h2⟩,h3⟩,h4⟩:=h;refine⟨h1,fun y hy=>(h2 y hy).1.1,fun y hy e=>((h2 y hy).1.2).resolve_left fun z=>z e,fun y hy e=>?_,h3,fun j i e=>?_⟩
 ·rcases(h2 y hy).2 with(z|z)|z
  ·exact absurd e z
  ·exact .inl z
  ·exact .inr z
 ·have hj:j<fi.length:=(cu.mp e).1;have q:=h4 j (List.mem_range.mpr hj);rw[e]at q;dsimp only at q;cases a:N[k+j]? with
  |none=>rw[a]at q;cases q
  |some x =>
   cases b:XN[i]? with
   |none=>rw[a,b]at q;cases q
   |some y =>
    rw[a,b]at q;simp only[tG,decide_eq_true_eq]at q;exact⟨x,rfl,by rw[q.1],q.2⟩
theorem ix{env:Env}:∀{names:List (Str×jS)}{x:Str},names.lookup x=some .free ->
  (names.map fun(n,k)=>if(k==lO && env.scope.kind==.function && env.kindOf n==some .cell)then(n,jS.cell)else(n,k)).lookup x=some .cell ∨
  (names.map fun(n,k)=>if(k==lO && env.scope.kind==.function && env.kindOf n==some .cell)then(n,jS.cell)else(n,k)).lookup x=some .free
 |[],_,h=>by simp at h
 | (n,k)::r,x,h=>by
  have ih:=@ix env r x;simp only[bI];cases hx:x==n with
  |true =>
   simp only[iV,hx]at h;cases h;by_cases hc:(lO==lO && env.scope.kind==.function && env.kindOf n==some .cell)=true
   ·left;rw[if_pos hc];simp[iV,hx]
   ·right;rw[if_neg hc];simp[iV,hx]
  |false =>
   simp only[iV,hx]at h;by_cases hc:(k==lO && env.scope.kind==.function && env.kindOf n==some .cell)=true
   ·rw[if_pos hc];simp only[iV,hx];exact ih h
   ·rw[if_neg hc];simp only[iV,hx];exact ih h
def dY(k:Nat)(fi:List Nat)(σ:St):St:=List.replicate k none++fi.map fun i=>(σ[i]?).join
theorem Ck(k:Nat)(fi:List Nat)(σ:St):(dY k fi σ).length=k+fi.length:=by simp[dY]
theorem u5{i:Nat}{v:V}(h:(dY k fi σ)[i]?=some (some v)):∃j t,i=k+j/\fi[j]?=some t/\σ[t]?=some (some v):=by
 unfold dY at h;by_cases hi:i<k
 ·rw[fk (by simpa using hi),List.getElem?_replicate_of_lt hi]at h;cases h
 ·rw[n6 (by simp;omega),List.length_replicate,bQ]at h;refine⟨i-k,?_⟩;cases e:fi[i-k]? with
  |none=>rw[e]at h;cases h
  |some t =>
   rw[e]at h;simp only[tK]at h;refine⟨t,by omega,rfl,?_⟩;have h':=fe h;cases e2:σ[t]? with
   |none=>rw[e2]at h';cases h'
   |some o=>rw[e2]at h';simp only[Option.join]at h';first|(rw[h'])|(subst h';rfl)|(simpa using h')
def AU(k:Nat)(g:TG):Prop:=∀x σ H Q,g x σ H Q->g x σ H fun σ2 H2=>Q σ2 H2/\σ2.length=σ.length/\∀i,k<=i->σ2[i]?=σ[i]?
def DK(k:Nat)(g:Iw):Prop:=∀x σ H Q,g x σ H Q->g x σ H fun σ2 H2=>Q σ2 H2/\σ2.length=σ.length/\∀i,k<=i->σ2[i]?=σ[i]?
theorem bu{k i:Nat}(h:i<k):AU k (eE i):=fun x σ H Q q=>⟨q,by simp,fun j hj=>by rw[List.getElem?_set_ne (by omega)]⟩
theorem Am:DK k gP:=fun x σ H Q ⟨e,q⟩=>⟨e,q,rfl,fun _ _=>rfl⟩
def G0(g:TG):Prop:=∀x σ H Q Q',(∀σ2 H2,Q σ2 H2->Q' σ2 H2)->g x σ H Q->g x σ H Q'
def za(g:Iw):Prop:=∀x σ H Q Q',(∀σ2 H2,Q σ2 H2->Q' σ2 H2)->g x σ H Q->g x σ H Q'
theorem eX:G0 (eE i):=fun _ _ _ _ _ f q=>f _ _ q
theorem kb:za gP:=fun _ _ _ _ _ f ⟨e,q⟩=>⟨e,f _ _ q⟩
theorem kR(h1:G0 g)(h2:za u):za (aY g u):=fun _ _ _ _ _ f ⟨v,r,e,q⟩=>⟨v,r,e,h1 _ _ _ _ _ (fun _ _ q=>h2 _ _ _ _ _ f q) q⟩
theorem j9(h1:AU k g)(m1:G0 g)(h2:DK k u)(m2:za u):DK k (aY g u):=fun x σ H Q ⟨v,r,e,q⟩ =>
 ⟨v,r,e,m1 _ _ _ _ _ (fun σ2 H2 ⟨q,l,s⟩=>m2 _ _ _ _ _ (fun σ3 H3 ⟨q',l',s'⟩=>⟨q',l'.trans l,fun i hi=>(s' i hi).trans (s i hi)⟩) (h2 _ _ _ _ q)) (h1 _ _ _ _ q)⟩
theorem Dk{K:Za}(h:DK k t):AU k (g0 K n t):=fun x σ H Q ⟨a,xs,e,hs,hl,q⟩=>⟨a,xs,e,hs,hl,h _ _ _ _ q⟩
def I_(X:Cx)(ifs:List Expr)(t:TT):Prop :=
 ∀(J3:Zd) (s:Shared) (σ:St) (H:Hp) (Q:Bool->Hp->Prop),Inv X J3 σ H s->t σ H Q->wpAny (model X.prog X.w) X.A (B_ ifs X.env) (TP X J3 σ Q) X.xe s
def kG:TT:=fun _ H Q=>Q true H
theorem dv:I_ X [] kG:=fun J3 s σ H Q I h=>aD ⟨H,I,h⟩
theorem h_(h:PT X c t):I_ X [c] t:=by
 intro J3 s σ H Q I hw;unfold B_;rw[qD];simp only[if_true];refine ak (ak (cI (h J3 s σ H Q I hw) fun b s1 q=>aD ?_));exact aD q
def c6(k:Nat)(fi:List Nat)(wi:TI)(g:TG)(tc:TT)(te:TE):TE:=fun σ H Q=>wi σ H fun J H1=>∀l,H1 l=none->∃W:Nat->Nat->List V->Hp->Prop,(∃m,W 0 m [] (upd H1 l (.lst [])))/\∀i m vs H2,W i m vs H2->H2 l=some (.lst vs) /\
 ((J.stop i H2/\Q (.ref l) H2)∨(J.go i H2/\∀x H3,J.yld i H2 x H3->g x (dY k fi σ) H3 fun σ2 H4=>tc σ2 H4 fun b H5 =>
  if b=true then te σ2 H5 fun v H6=>H6 l=some (.lst vs)/\vs.length<ai/\∃m',m'<m/\W (i+1) m' (vs++[v]) (upd H6 l (.lst (vs++[v])))else ∃m',m'<m/\W (i+1) m' vs H5))
section
variable{X:Cx}{J3:Zd}{σ:St}
theorem Io{cl:List (Str×Addr)}{fp:Ze}(S:oX X.env.scope scope k N X.N fi)(I:Inv X J3 σ H s)
  (hcl:∀x c,cl.lookup x=some c->X.env.cells.lookup x=some c) (hcf:∀y∈scope.names,y.2=.free->(cl.lookup y.1).isSome=true) (hf:∀b∈fp,oW X J3 H b) (hlt:∀b∈fp,b<s.heap.objs.size) :
  (dZ X N scope s.heap.objs.size cl s H fp (X.pn++J3)).Ok where
 mod:=I.ok.mod
 kind:=S.kind
 glob:=I.ok.glob
 blt:=I.ok.blt
 above:=aA _
 inj:=fun x y c e1 e2=>I.ok.inj x y c (hcl x c e1) (hcl y c e2)
 has:=fun x h=>by
  have key:∃y∈scope.names,y.1=x/\y.2=.free:=by
   have h':(relabel scope X.env).names.lookup x=some .cell∨(relabel scope X.env).names.lookup x=some .free:=h;have mem:∀(l:List (Str×jS)) (kd:jS),l.lookup x=some kd->(x,kd)∈l:=by
    intro l
    induction l with
    |nil=>intro kd e;cases e
    |cons a r ih =>
     intro kd e;obtain⟨n,k'⟩:=a;rw[iV]at e;cases hx:x==n with
     |true =>
      rw[hx]at e;have:x=n:=by simpa using hx
      subst this;cases e;exact dU
     |false=>rw[hx]at e;exact eI _ (ih kd e)
   have back:∀kd,(x,kd)∈(relabel scope X.env).names->kd=.cell∨kd=.free->∃y∈scope.names,y.1=x/\y.2=.free:=by
    intro kd hm hk;obtain⟨⟨n,k'⟩,hy,e⟩:=aw.mp hm;dsimp only at e;by_cases hc:(k'==lO && X.env.scope.kind==.function && X.env.kindOf n==some .cell)=true
    ·have hk':k'=.free:=by
      simp only[tG]at hc;simpa using hc.1.1
     rw[if_pos hc]at e;cases e;exact⟨_,hy,rfl,hk'⟩
    ·rw[if_neg hc]at e;cases e;rcases hk with rfl|rfl
     ·exact absurd rfl (S.cell _ hy)
     ·exact⟨_,hy,rfl,rfl⟩
   rcases h' with h'|h'
   ·exact back _ (mem _ _ h') (.inl rfl)
   ·exact back _ (mem _ _ h') (.inr rfl)
  obtain⟨y,hy,rfl,hk⟩:=key;exact xL.mp (hcf y hy hk)
 cab:=fun x c h=>by cases h
 hd:=I.ok.hd
 frames:=I.ok.frames
 stk:=.inl rfl
 exf:=fun b hb=>⟨cY (hlt b hb),fun x c e=>(hf b hb).2.2.2.2.1 x c (hcl x c e)⟩
 bs:=I.bs
 bsz:=bC I.ok.bsz I.sz
 noex:=fun b o e hb=>by
  rcases(hf b hb).2.2.2.1 with z|z
  ·exact I.ok.noex b o e z
  ·exact absurd (iQ (ba (I.ok.bs b o e).1) z) (rN _)
 exfs:=fun b hb z=>by
  obtain⟨_,f1,f2,_⟩:=hf b hb;rcases cH.mp (I.stkSub b z)with q|q
  ·exact f1 q
  ·exact f2 q
 funs:=I.stack
 frf:=I.stkFree
theorem GS{cl:List (Str×Addr)}{fp:Ze}{h₁:Heap}{t':Nat}(S:oX X.env.scope scope k N X.N fi)(I:Inv X J3 σ H s)
  (hcl:∀x c,cl.lookup x=some c->X.env.cells.lookup x=some c) (hcf:∀y∈scope.names,y.2=.free->(cl.lookup y.1).isSome=true) (hf:∀b∈fp,oW X J3 H b) (hlt:∀b∈fp,b<s.heap.objs.size)
  (hn:h₁.Ns s.heap.objs.size m) (old:∀b o,s.heap.get? b=some o->h₁.get? b=some o) :
  Inv (dZ X N scope s.heap.objs.size cl s H fp (X.pn++J3)) [] (dY k fi σ) H { s with heap:=h₁,toks:=t' }:=by
 have memOf:∀(l:List (Str×jS)) (x:Str) (kd:jS),l.lookup x=some kd->(x,kd)∈l:=by
  intro l
  induction l with
  |nil=>intro x kd e;cases e
  |cons a r ih =>
   intro x kd e;obtain⟨n,k'⟩:=a;rw[iV]at e;cases hx:x==n with
   |true =>
    rw[hx]at e;have:x=n:=by simpa using hx
    subst this;cases e;exact dU
   |false=>rw[hx]at e;exact eI _ (ih x kd e)
 refine⟨Io S I hcl hcf hf hlt,rfl,I.bare,Un.kept old,⟨m,hn,fun i x v e1 e2 e3=>?_⟩,fun x c e=>?_,I.hok.fresh (aA _),fun x c e=>I.freeC x c (hcl x c e),fun p hp=>?_,I.hok.kept old,?_⟩
 ·obtain⟨j,t,rfl,ht,hv⟩:=u5 e2;obtain⟨y,hy,hXN,hfr⟩:=S.sl j t ht;have e1':N[k+j]?=some x:=e1;rw[hy]at e1';cases e1';have hmem:=memOf _ _ _ hfr;obtain⟨c,hc⟩:=xL.mp (hcf _ hmem rfl);have hX:=hcl _ _ hc;obtain⟨mX,hnX,hlX⟩:=I.loc;have kX:=S.fr _ hmem rfl;obtain⟨u,ru,lk⟩:=hlX t x v hXN hv (by rcases kX with z|z;exact .inr (.inl z);exact .inr (.inr z));refine⟨u,ru,.inr ⟨?_,c,hc,?_⟩⟩
  ·exact ix hfr
  ·rcases lk with⟨z,_⟩|⟨_,c',e',q⟩
   ·have z':X.env.scope.names.lookup x=some .local:=z;rcases kX with kX|kX<;>rw[z']at kX<;>cases kX
   ·rw[hX]at e';cases e';obtain⟨o,ho,hd⟩:=q;exact⟨o,old _ o ho,hd⟩
 ·obtain⟨v,o,ho,hd⟩:=I.cell x c (hcl x c e);exact⟨v,o,old _ o ho,hd⟩
 ·rw[dj]at hp;obtain⟨e,n,ne,nf,d⟩:=I.pin p hp;refine⟨old _ _ e,n,cY (ba e),fun z=>?_,d⟩;rcases cH.mp (I.stkSub _ z)with q|q
  ·exact ne q
  ·exact nf q
 ·rw[Ck];exact S.len.symm
structure zc(X:Cx)(J3:Zd)(H:Hp)(C:Addr):Prop where
 free:H C=none
 loc:C≠X.env.locals
 young:X.s₀.heap.objs.size<=C
 cells:∀x c,X.env.cells.lookup x=some c->c≠C
 pin:∀p∈X.pn++J3,p.1≠C
theorem u4{iter:Expr}{pos:Pos}{cl:List (Str×Addr)}{Q:VK}
     {RR:Value->Addr->Result->Shared->Prop}
    (S:oX X.env.scope scope k N X.N fi) (hc:X.calm=true) (hcl:∀x c,cl.lookup x=some c->X.env.cells.lookup x=some c) (hcf:∀y∈scope.names,y.2=.free->(cl.lookup y.1).isSome=true)
    (hg:∀C cl s₀ H₀ ex pn,PG (dZ X N scope C cl s₀ H₀ ex pn) tg g) (ho:AU k g) (ht:∀C cl s₀ H₀ ex pn,I_ (dZ X N scope C cl s₀ H₀ ex pn) ifs tc) (he:∀C cl s₀ H₀ ex pn,PE (dZ X N scope C cl s₀ H₀ ex pn) elt te)
    (I2:Inv X J3 σ H2 s2) (T:sD X.prog X.w X.K tg J fp it tn) (st2:tn 0 s2.heap) (f2:∀b∈fp,oW X J3 H2 b)
    (hw:∀l,H2 l=none->∃W:Nat->Nat->List V->Hp->Prop,(∃m,W 0 m [] (upd H2 l (.lst [])))/\∀i m vs H2,W i m vs H2->H2 l=some (.lst vs) /\
      ((J.stop i H2/\Q (.ref l) H2)∨(J.go i H2/\∀x H3,J.yld i H2 x H3->g x (dY k fi σ) H3 fun σ2 H4=>tc σ2 H4 fun b H5 =>
        if b=true then te σ2 H5 fun v H6=>H6 l=some (.lst vs)/\vs.length<ai/\∃m',m'<m/\W (i+1) m' (vs++[v]) (upd H6 l (.lst (vs++[v])))else ∃m',m'<m/\W (i+1) m' vs H5)))
    (hR:∀D C H' s' m',Inv X J3 σ H' s'->s'.heap.Ns C m'->zc X J3 H' C->Q (.ref D) H'->RR (.ref D) C (.ok .next) s') :
    wpAny (model X.prog X.w) X.A (newList []) (fun acc s₃=>wpAny (model X.prog X.w) X.A (newFunctionEnv scope X.env.globals cl [] X.env.qual none .none (some X.env)) (fun cenv s₄ =>
      zzl79 (model X.prog X.w) X.A (.compStart (.ListComp elt [⟨tg,iter,ifs,0⟩] scope pos) 0 (.ref it) acc { cenv with scope:=relabel scope X.env }) (RR acc cenv.locals) s₄) E s₃) E s2:=by
  have hfresh:H2 s2.heap.objs.size=none:=I2.fresh;obtain⟨W,⟨m0,w0⟩,turn⟩:=hw _ hfresh;refine iU (wpAny_newFunctionEnv S.cell (by intro y hy;simp at hy) (fun h₁ hns₁ hsb₁=>?_) S.kind);dsimp only at hns₁ hsb₁ ⊢;have I3:Inv X J3 σ (upd H2 s2.heap.objs.size (.lst [])) { s2 with heap:=s2.heap.push { cls:=.type "list",data:=.seq ([]:Zf).toArray },toks:=s2.toks }:=I2.lnew (ys:=[]) .nil (cX _);generalize hs3:({ s2 with heap:=s2.heap.push { cls:=.type "list",data:=.seq ([]:Zf).toArray },toks:=s2.toks }:Shared)=s3 at I3;have hh3:s3.heap=s2.heap.push { cls:=.type "list",data:=.seq ([]:Zf).toArray }:=by rw[<-hs3]
  have hsz:s3.heap.objs.size=s2.heap.objs.size+1:=by rw[hh3,o_]
  have hlt:∀b∈fp,b<s2.heap.objs.size:=fun b hb=>by
    obtain⟨o,e,_⟩:=T.obj 0 _ st2 b hb;exact ba e
  have f3:∀b∈fp,oW X J3 (upd H2 s2.heap.objs.size (.lst [])) b:=fun b hb=>⟨by rw[ag (cY (hlt b hb))];exact(f2 b hb).1,(f2 b hb).2⟩;have hlt3:∀b∈fp,b<s3.heap.objs.size:=fun b hb=>by rw[hsz];exact Nat.lt_succ_of_lt (hlt b hb)
  have old:∀b o,s3.heap.get? b=some o->h₁.get? b=some o:=fun b o e=>by
    have hb:b≠s3.heap.objs.size:=cY (ba e);rw[hh3]at e hb;exact hsb₁.extBut b o hb (bx _ e)
  have hns:h₁.Ns s3.heap.objs.size (fun x=>([]:List (Str×Value)).reverse.lookup x):=by rw[hh3];exact hns₁
  have I4:Inv (dZ X N scope s3.heap.objs.size cl s3 (upd H2 s2.heap.objs.size (.lst [])) fp (X.pn++J3)) [] (dY k fi σ) (upd H2 s2.heap.objs.size (.lst [])) { s3 with heap:=h₁,toks:=s2.toks+([]:List (Str×Value)).length } :=
    GS S I3 hcl hcf f3 hlt3 hns old
  have st4:tn 0 h₁:=T.keep _ _ _ st2 fun b hb o e=>old b o (by rw[hh3];exact bx _ e);generalize hY:dZ X N scope s3.heap.objs.size cl s3 (upd H2 s2.heap.objs.size (.lst [])) fp (X.pn++J3)=Y at I4;have yp:Y.prog=X.prog:=by rw[<-hY];rfl
  have yw:Y.w=X.w:=by rw[<-hY];rfl
  have yK:Y.K=X.K:=by rw[<-hY];rfl
  have yA:Y.A=X.A:=by rw[<-hY];rfl
  have yx:Y.xe=XF:=by rw[<-hY];rfl
  have yc:Y.calm=true:=by rw[<-hY];exact hc
  have gY:PG Y tg g:=by rw[<-hY];exact hg _ _ _ _ _ _
  have tY:I_ Y ifs tc:=by rw[<-hY];exact ht _ _ _ _ _ _
  have eY:PE Y elt te:=by rw[<-hY];exact he _ _ _ _ _ _
  have yenv:Y.env=compEnvC scope cl s3.heap.objs.size X.env:=by rw[<-hY];rfl
  have fY:∀{H':Hp},(∀b∈fp,H' b=none)->∀b∈fp,oW Y [] H' b:=fun hn b hb=>by
    obtain⟨f0,f1,f2',f3',f4,f5⟩:=f3 b hb;rw[<-hY];refine⟨hn b hb,cY (hlt3 b hb),fun z=>?_,.inl hb,fun x c e=>f4 x c (hcl x c e),fun p hp=>?_⟩
    · rcases cH.mp (I3.stkSub _ z)with q|q
      · exact f1 q
      · exact f2' q
    · rw[dj]at hp
      exact f5 p hp
  have loop:∀s4:Shared,s4={ s3 with heap:=h₁,toks:=s2.toks+([]:List (Str×Value)).length } ->
      zzl79 (model X.prog X.w) X.A (.compLoop (.ListComp elt [⟨tg,iter,ifs,0⟩] scope pos) 0 (.ref it) (.ref s2.heap.objs.size) Y.env) (RR (.ref s2.heap.objs.size) s3.heap.objs.size) s4:=by
    rintro s4 rfl;refine yO (fun n s'=>∃i vs H',Inv Y [] (dY k fi σ) H' s'/\tn i s'.heap/\(∀b∈fp,H' b=none)/\W i n vs H') ?_ m0 ⟨0,[],_,I4,st4,fun b hb=>(f3 b hb).1,w0⟩;rintro n s5 ⟨i,vs,H5,I5,st5,fr5,w5⟩;obtain⟨hl5,hcase⟩:=turn i n vs H5 w5;rcases hcase with⟨stop,q⟩|⟨go,step⟩
    · have d:=T.done Y yp yw yK yc i [] s5 _ H5 XF I5 (fY fr5) st5 stop
      rw[yA]at d;refine cI d fun r s6 ⟨hr,I6⟩=>?_;subst hr;have hu:Un (Fg X.stack) fp (upd H2 s2.heap.objs.size (.lst [])) H5 s3.heap s6.heap:=by have:=I6.base;rw[<-hY]at this;exact this
      have ho6:s6.os=s3.os:=by have:=I6.os;rw[<-hY]at this;exact this
      have hok6:ng X.prog X.w X.K H5 s6.heap:=by have:=I6.hok;rw[<-hY]at this;exact this
      have hC6:H5 s3.heap.objs.size=none:=by have:=I6.free;rw[<-hY]at this;exact this
      obtain⟨m6,hn6,_⟩:=I6.loc;have hn6':s6.heap.Ns s3.heap.objs.size m6:=by rw[<-hY]at hn6;exact hn6
      have IX:Inv X J3 σ H5 s6:=I3.call' ho6 hu hok6 I6.bare fun b hb=>by
        obtain⟨f0,f1,f2',f3',f4,f5⟩:=f3 b hb;exact⟨f3',f1,f4,f5⟩
      refine hR _ _ H5 s6 m6 IX hn6' ⟨hC6,gQ I3.lt,I3.sz,fun x c e z=>?_,fun p hp z=>?_⟩ q
      · obtain⟨v,o,ho,_⟩:=I3.cell x c e
        exact absurd (ba ho) (by rw[z];exact rN _)
      · exact absurd (ba (I3.pin p hp).1) (by rw[z];exact rN _)
    · have d:=T.item Y yp yw yK yc i [] s5 _ H5 XF I5 (fY fr5) st5 go
      rw[yA]at d;refine cI d fun r s6 ⟨u,hr,h6⟩=>?_;subst hr;refine cI h6 fun _ s7 ⟨x,H7,I7,r7,y7,st7,fr7⟩=>?_;have I7':=I7.pinned (fY fr7) (T.obj _ _ st7);have a7:=gY _ s7 _ H7 x u _ I7' r7 (ho _ _ _ _ (step x H7 y7));rw[yp,yw,yA,yx]at a7;refine cI a7 fun _ s8 ⟨σ8,H8,I8,q8,l8,k8⟩=>?_;have a8:=tY _ s8 σ8 H8 _ I8 q8;rw[yp,yw,yA,yx]at a8;have again:∀{H9:Hp}{s9:Shared}{vs':List V}{m':Nat},Inv Y ([]++uw fp s7.heap) σ8 H9 s9->m'<n->W (i+1) m' vs' H9->∃m,m<n/\∃i vs H',Inv Y [] (dY k fi σ) H' s9/\tn i s9.heap/\(∀b∈fp,H' b=none)/\W i m vs H':=fun{H9 s9 vs' m'} I9 hm w9=>by
        refine⟨m',hm,i+1,vs',H9,(I9.unpinned).weak l8.symm (fun j v e=>?_),T.keep _ _ _ st7 fun b hb o e=>(I9.pin (b,o) (cC _ (cC _ (kT hb e)))).1,fun b hb=>?_,w9⟩
        · obtain⟨j',t,rfl,_,_⟩:=u5 e
          rw[k8 _ (Nat.le_add_right _ _)];exact e
        · obtain⟨o,e,_⟩:=T.obj _ _ st7 b hb
          exact(I9.pin (b,o) (cC _ (cC _ (kT hb e)))).2.1
      refine cI a8 fun b s9 ⟨H9,I9,q9⟩=>?_;cases b with
      |false =>
        rw[if_neg fO]at q9 ⊢;obtain⟨m',hm,w9⟩:=q9;exact again I9 hm w9
      |true =>
        rw[if_pos rfl]at q9 ⊢;have a9:=eY _ s9 σ8 H9 _ I9 q9;rw[yp,yw,yA,yx]at a9;refine cI a9 fun y s10 ⟨v,H10,I10,r10,hl10,hsz10,m',hm,w10⟩=>?_;have a10:=cq (X:=Y) _ s10 σ8 H10 (.ref s2.heap.objs.size) [v] (.ref s2.heap.objs.size) [y] (fun z H'=>z=.non/\H'=upd H10 s2.heap.objs.size (.lst (vs++[v]))) I10 rfl (.cons r10 .nil) ⟨_,vs,v,rfl,rfl,hl10,hsz10,rfl,rfl⟩;rw[yp,yw,yA,yx]at a10;refine cI a10 fun _ s11 ⟨_,H11,I11,_,_,e11⟩=>?_;subst e11;exact again I11 hm w10
  have hstart:=codeAny_compStart_list (prog:=X.prog) (w:=X.w) (A:=X.A) (elt:=elt) (target:=tg) (iter:=iter) (ifs:=ifs) (rest:=[]) (scope:=scope) (pos:=pos) (it:=.ref it) (acc:=.ref s2.heap.objs.size) (env:=Y.env) (loop _ rfl) (T.self _ 0 _ _ _ st4 (loop _ rfl));rw[yenv]at hstart;rw[<-hs3]at hstart;exact hstart
end
section
variable{X:Cx}
theorem zc.turned{h':Heap}(c:zc X J3 H C)(I:Inv X J3 σ H s)(hs:fZ C s.heap h'):Inv X J3 σ H { s with heap:=h' } :=
 I.turned (t':=s.toks) (fun b o hb e=>hs.extBut b o hb e) c.free c.loc (.inr c.young) c.cells c.pin
theorem HS{pos:Pos}(hS:m_ X.env.scope scope k N X.N fi=true)(hc:X.calm=true)(hi:PI X tg iter wi)
  (hg:∀C cl s₀ H₀ ex pn,PG (dZ X N scope C cl s₀ H₀ ex pn) tg g) (ho:AU k g) (ht:∀C cl s₀ H₀ ex pn,I_ (dZ X N scope C cl s₀ H₀ ex pn) ifs tc) (he:∀C cl s₀ H₀ ex pn,PE (dZ X N scope C cl s₀ H₀ ex pn) elt te)
  (hs:∀x,zm iter X.env x=pure x:=by intro _;rfl):PE X (.ListComp elt [⟨tg,iter,ifs,0⟩] scope pos) (c6 k fi wi g tc te):=by
 intro J3 s σ H Q I h;have S:=oX.of hS;obtain⟨cl,hclos,hcl,hcf⟩:=u6 (env:=X.env) (scope:=scope) fun y hy e=>I.ok.has y.1 (S.fr y hy e);rw[eval_ListComp];refine wpAny_comprehension_free (use:=none) rfl hs hclos S.kind S.nm (cI (hi J3 s σ H _ I h) fun v s1 h1=>cI h1 fun itv s2 h2=>?_);obtain⟨it,fp,tn,J,H2,e,I2,T,st2,f2,hw⟩:=h2;subst e;refine u4 (RR:=fun acc C=>compPost (model X.prog X.w) X.A X.xe none (EP X J3 σ Q) acc C) S hc hcl hcf hg ho ht he I2 T st2 f2 hw ?_;intro D C H' s' m' I' hn ce q;exact⟨m',hn,fun h' hs'=>⟨.ref D,H',ce.turned I' hs',rfl,q⟩⟩
theorem BK{pos spos py:Pos}{j:Nat}{y:Str}(hN:X.N.Nodup)(hj:X.N[j]?=some y)(hy:Loc X.env.scope y)(hS:m_ X.env.scope scope k N X.N fi=true)(hc:X.calm=true)(hi:PI X tg iter wi)
  (hg:∀C cl s₀ H₀ ex pn,PG (dZ X N scope C cl s₀ H₀ ex pn) tg g) (ho:AU k g) (ht:∀C cl s₀ H₀ ex pn,I_ (dZ X N scope C cl s₀ H₀ ex pn) ifs tc) (he:∀C cl s₀ H₀ ex pn,PE (dZ X N scope C cl s₀ H₀ ex pn) elt te)
  (hsw:rL (.ListComp elt [⟨tg,iter,ifs,0⟩] scope pos) (some (.Name y py)) spos.line X.env=pure true:=by rfl)
  (hs:∀x,zm iter X.env x=pure x:=by intro _;rfl) (hf:X.fn y=true∨X.env.scope.names.lookup y=some .local:=by first|exact .inl rfl|exact .inr rfl|assumption) :
  PS X (.Assign [.Name y py] (.ListComp elt [⟨tg,iter,ifs,0⟩] scope pos) spos) (aP (c6 k fi wi g tc te) (eE j)):=by
 intro J3 s σ H D I h;have S:=oX.of hS;obtain⟨cl,hclos,hcl,hcf⟩:=u6 (env:=X.env) (scope:=scope) fun y hy e=>I.ok.has y.1 (S.fr y hy e);rw[exec_Assign_Name_used _ _ _ _ hsw];refine ak (CV (ak ?_));show wpAny _ X.A (do let _ <- comprehension (.ListComp elt [⟨tg,iter,ifs,0⟩] scope pos) scope X.env _ (newList []) false (eval iter X.env) (some (assign (.Name y py) X.env))) _ _ s
 refine ak (pd (wpAny_comprehension_free (use:=some (assign (.Name y py) X.env)) (Q:=fun _ s'=>SP X J3 D .next s') rfl hs hclos S.kind S.nm
  (cI (hi J3 s σ H _ I h) fun v s1 h1=>cI h1 fun itv s2 h2=>?_)) (fun _ s' hq=>aD (aD hq)) fun _ _ e=>e)
 obtain⟨it,fp,tn,J,H2,e,I2,T,st2,f2,hw⟩:=h2;subst e;refine u4 (RR:=fun acc C=>compPost (model X.prog X.w) X.A X.xe (some (assign (.Name y py) X.env)) (fun _ s'=>SP X J3 D .next s') acc C) (Q:=fun x H1=>eE j x σ H1 D.nx) S hc hcl hcf hg ho ht he I2 T st2 f2 hw ?_;intro A C H' s' m' I' hn ce q;show wpAny _ X.A (assign (.Name y py) X.env (.ref A)) _ _ _;refine wpAny_assign_Name (wm I' hN hj hy (v:=.ref A) rfl (fun s'' I'' hsb=>?_) hf);obtain⟨a,hsa,ha⟩:=hsb;have hCa:C≠a:=by
  rcases ha with z|z
  ·rw[z];exact ce.loc
  ·exact dE (ce.cells y a z)
 refine⟨m',hn.sameBut hsa hCa,fun h' hs'=>?_⟩;exact⟨_,H',ce.turned I'' hs',q⟩
end
theorem Inv.turnedNew{h2:Heap}{t':Nat}{ch:Ze}{o:HO}(I:Inv X J3 σ H s)(hf:∀b∈ch,oW X J3 H b)
  (k:∀b q,b∉ch->s.heap.get? b=some q->h2.get? b=some q) (hq:∃q,h2.get? s.heap.objs.size=some q) (hno:∀y,o≠.own y) (new:bW X.prog X.w X.K (upd H s.heap.objs.size o) h2 s.heap.objs.size o) :
  Inv X J3 σ (upd H s.heap.objs.size o) { s with heap:=h2,toks:=t' }:=by
 have hn0:H s.heap.objs.size=none:=I.fresh;have nsz:∀b q,s.heap.get? b=some q->b≠s.heap.objs.size:=fun b q e=>cY (ba e);have tr:∀b u,H b=some u->b∉ch:=fun b u e z=>by rw[(hf b z).1]at e;cases e
 refine I.step (g':=s.gens) (d':=s.drawn) (ch:=ch) (fun b hb=>?_) (fun b q _ _ hc e _=>k b q hc e) (fun b q _ _ hc e _=>⟨q.slots,k b q hc e⟩) (fun b q _ e n=>by rw[ag (nsz b q e)];exact n) (fun b q hc e=>⟨q,k b q hc e⟩)
  (fun b xs e=>by rw[ag (ae e hn0)];exact e) (fun b q u e=>by rw[ag (ae e hn0)];exact e) (fun b ps e=>⟨#[],by rw[ag (ae e hn0),e];simp⟩) (fun m hm=>?_) (fun b u e=>?_) I.bare
 ·obtain⟨f0,f1,f2,f3,f4,f5⟩:=hf b hb;exact⟨f3,f1,f4,f5⟩
 ·obtain⟨q,es,ep,ho,r⟩:=hm;exact⟨q,es,ep,k _ q (fun z=>(hf _ z).2.1 rfl) ho,r⟩
 ·by_cases hb:b=s.heap.objs.size
  ·subst hb;rw[aa]at e;cases e;exact new
  ·rw[ag hb]at e;refine(I.hok b u e).stay (fun c v hc q=>k c v ?_ q) (fun c q=>by rw[ag (ae q hn0)];exact q) fun c xs q=>by rw[ag (ae q hn0)];exact q
   rcases hc with z|z
   ·subst z;exact tr _ _ e
   ·exact tr _ _ z
def Kd(K:Za)(a:Addr):It :=
 ⟨fun i H=>∃xs x,az K H a xs/\xs[i]?=some x,fun i H x H'=>∃p v,x=.ref p/\H p=none/\(∀xs,az K H a xs->xs[i]?=some v)/\H'=upd H p (.tup [.int i,v]),fun i H=>∃xs,az K H a xs/\xs.length<=i⟩
theorem DW{K:Za}{es:List Expr}{kx:Nat}{J7:Pos}(a e it:Addr)(hne:e≠it):
  sD P w K (.Tuple es kx J7) (Kd K a) [e,it] e (fun i h=>(∃old,IsEnum h e it i old)/\h.IsListIter it a i) where
 mem:=by simp
 obj:=fun i h st b hb=>by
  obtain⟨⟨old,he⟩,o,ho,hc,hd⟩:=st;rcases cH.mp hb with z|z
  ·subst z;exact⟨_,he,fun v z=>by cases z⟩
  ·have z':b=it:=by simpa using z
   subst z';exact⟨o,ho,fun v z=>by rw[hd]at z;cases z⟩
 keep:=fun i h h' st k=>⟨let⟨old,he⟩:=st.1;⟨old,k e (by simp) _ he⟩,st.2.at fun o e=>k it (by simp) o e⟩
 item:=by
  intro X hP hw hK hc i J3 s σ H E I hf st hg;subst hP hw hK;obtain⟨⟨old,he⟩,hit⟩:=st;obtain⟨xs,x,hq,hx⟩:=hg;obtain⟨its,rv,p,hz⟩:=I.list hq;obtain⟨u,hu,ru⟩:=rv.get hx;obtain⟨e0,e1,e2,e3,e4,e5⟩:=hf e (by simp);obtain⟨f0,f1,f2,f3,f4,f5⟩:=hf it (by simp);refine wpAny_pyNext_enum_item he hit p.isList (x:=u) (by simpa using hu) hne fun h' ho' hit' ht' hsz' hk'=>?_;refine⟨_,rfl,wpAny_letOwnedTupleGo_enum (s:={ s with heap:=h',toks:=s.toks+1 }) ho' fun h2 he2 hs2=>?_⟩;have hs2':fZ e h' h2:=hs2;have hpe:s.heap.objs.size≠e:=gQ (ba he);have ht2:h2.get? s.heap.objs.size=some { cls:=.type "tuple",data:=.seq #[.int i s.toks,u] }:=hs2'.extBut _ _ hpe ht';have hn0:H s.heap.objs.size=none:=I.fresh;have hue:upd H s.heap.objs.size (.tup [.int i,x]) e=none:=by rw[ag (dE hpe)];exact e0
  have hpi:s.heap.objs.size≠it:=by
   obtain⟨o,ho,_⟩:=hit;exact gQ (ba ho)
  have hui:upd H s.heap.objs.size (.tup [.int i,x]) it=none:=by rw[ag (dE hpi)];exact f0
  have I2:Inv X J3 σ (upd H s.heap.objs.size (.tup [.int i,x])) { s with heap:=h2,toks:=s.toks+1 }:=by
   refine I.turnedNew (ch:=[e,it]) hf (fun b o hb q=>?_) ⟨_,ht2⟩ (fun _ z=>nomatch z) ⟨by show 2<=ai;decide,[.int i s.toks,u],.cons ⟨_,rfl⟩ (.cons ru .nil),⟨_,ht2,rfl,_,rfl⟩⟩;have nb1:b≠e:=fun z=>hb (by simp[z]);have nb2:b≠it:=fun z=>hb (by simp[z]);exact hs2'.extBut _ _ nb1 (hk' b o nb1 nb2 q)
  refine⟨.ref s.heap.objs.size,_,I2,rfl,⟨_,x,rfl,hn0,fun ys hy=>by rw[I.list_inj hy hq];exact hx,rfl⟩,⟨⟨u,by simpa using he2⟩,hit'.at fun o y=>(hs2'.2 it (dE hne)).trans y⟩,fun b hb=>?_⟩;rcases cH.mp hb with z|z
  ·subst z;exact hue
  ·have z':b=it:=by simpa using z
   subst z';exact hui
 done:=by
  intro X hP hw hK hc i J3 s σ H E I hf st hg;subst hP hw hK;obtain⟨⟨old,he⟩,hit⟩:=st;obtain⟨xs,hq,hx⟩:=hg;obtain⟨its,rv,p,hz⟩:=I.list hq;obtain⟨f0,f1,f2,f3,f4,f5⟩:=hf it (by simp);have hl:=rv.length;exact wpAny_pyNext_enum_end (I.ok.hd hc) he hit p.isList (by simp;omega) fun h' eb=>⟨rfl,I.turned (t':=s.toks) (fun b o hb e=>eb b o hb e) f0 f1 f3 f4 f5⟩
 self:=fun _ _ _ _ _ st h=>let⟨_,he⟩:=st.1;wpAny_pyIter_enum he h
section
variable{X:Cx}{p pos:Pos}{es:List Expr}{kx:Nat}{J7:Pos}
def wI(K:Za)(ta:TA):TI:=fun σ H R=>ta σ H fun vs H1=>∃a,vs=[.ref a]/\(∃xs,az K H1 a xs)/\R (Kd K a) H1
theorem pO{a:Expr}(hg:Gl X "enumerate")(hm:X.mg "enumerate"=none)(ha:PA X [a] ta)(hs:aN [a] X.env=[(false,eval a X.env)]:=by rfl):PI X (.Tuple es kx J7) (.Call (.Name "enumerate" p) [a] [] pos) (wI X.K ta):=by
 intro J3 s σ H R I h;refine Call_ (q_ I hg hm boot_enumerate (CQ (cI (ha pos J3 s σ H _ I h) fun us s1 ⟨vs,H1,I1,r1,q1⟩=>?_) hs rfl));obtain⟨l,e,⟨xs,hq⟩,q⟩:=q1;subst e;obtain⟨u,rfl,ru⟩:=vals1 r1;cases ru;obtain⟨its,rv,pl,hz⟩:=I1.list hq;refine call_enumerate_list pl.isList fun h' he hit hsz hk=>?_;refine wpAny_pyIter_enum (s:={ s1 with heap:=h' }) he ?_;have hk':∀b o,s1.heap.get? b=some o->h'.get? b=some o:=hk;have I2:Inv X J3 σ H1 { s1 with heap:=h' }:=I1.kept (t':=s1.toks) hk';refine⟨_,[s1.heap.objs.size+1,s1.heap.objs.size],_,_,H1,rfl,I2,DW l _ _ (Nat.succ_ne_self _),⟨⟨_,he⟩,hit⟩,fun b hb=>?_,q⟩;have hb':s1.heap.objs.size<=b:=by
  rcases cH.mp hb with z|z
  ·rw[z];exact sQ _
  ·have z':b=s1.heap.objs.size:=by simpa using z
   rw[z'];exact aA _
 exact I1.fpOk hb' (I1.hok.fresh hb')
end
def KC(x:Str):It:=⟨fun i _=>i<x.cps.size,fun i H y H'=>H'=H/\∃c,x.cps[i]?=some c/\y=.str ⟨#[c]⟩,fun i _=>x.cps.size<=i⟩
theorem Be{K:Za}(x:Str)(t:Tok)(it:Addr):sD P w K tg (KC x) [it] it (fun i h=>h.IsStrIter it "str_ascii_iterator" x t i) where
 mem:=by simp
 obj:=fun i h st b hb=>by
  have e:b=it:=by simpa using hb
  subst e;obtain⟨o,e,c,d⟩:=st;exact⟨o,e,fun v z=>by rw[d]at z;cases z⟩
 keep:=fun i h h' st k=>by
  obtain⟨o,e,c,d⟩:=st;exact⟨o,k it (by simp) o e,c,d⟩
 item:=by
  intro X hP hw hK hc i J3 s σ H E I hf st hg;subst hP hw hK;have hlt:i<x.cps.size:=hg;obtain⟨f0,f1,f2,f3,f4,f5⟩:=hf it (by simp);have hx:x.cps[i]?=some x.cps[i]:=by simp[hlt]
  refine wpAny_pyNext_ascii_item st hx fun h' st' sb=>?_;have I1:Inv X J3 σ H { s with heap:=h',toks:=s.toks+1 }:=I.turned (t':=s.toks+1) (fun b o hb e=>(sb.2 b hb).trans e) f0 f1 f3 f4 f5;obtain⟨o,e,c,d⟩:=id st';exact⟨_,rfl,wK (s:={ s with heap:=h',toks:=s.toks+1 }) e c d (by decide) ⟨.str ⟨#[x.cps[i]]⟩,H,I1,⟨_,rfl⟩,⟨rfl,_,hx,rfl⟩,st',fun b hb=>(hf b hb).1⟩⟩
 done:=by
  intro X hP hw hK hc i J3 s σ H E I hf st hg;subst hP hw hK;have hge:x.cps.size<=i:=hg;obtain⟨f0,f1,f2,f3,f4,f5⟩:=hf it (by simp);exact wpAny_pyNext_ascii_end (I.ok.hd hc) st (by simp;omega) fun h' eb=>⟨rfl,I.turned (t':=s.toks) (fun b o hb e=>eb b o hb e) f0 f1 f3 f4 f5⟩
 self:=fun _ _ _ _ _ st h=>wpAny_pyIter_striter_ascii st h
theorem DU{K:Za}(x:Str)(t:Tok)(it:Addr):sD P w K tg (KC x) [it] it (fun i h=>h.IsStrIter it "str_iterator" x t i) where
 mem:=by simp
 obj:=fun i h st b hb=>by
  have e:b=it:=by simpa using hb
  subst e;obtain⟨o,e,c,d⟩:=st;exact⟨o,e,fun v z=>by rw[d]at z;cases z⟩
 keep:=fun i h h' st k=>by
  obtain⟨o,e,c,d⟩:=st;exact⟨o,k it (by simp) o e,c,d⟩
 item:=by
  intro X hP hw hK hc i J3 s σ H E I hf st hg;subst hP hw hK;have hlt:i<x.cps.size:=hg;obtain⟨f0,f1,f2,f3,f4,f5⟩:=hf it (by simp);have hx:x.cps[i]?=some x.cps[i]:=by simp[hlt]
  refine wpAny_pyNext_wide_item st hx fun h' st' sb=>?_;have I1:Inv X J3 σ H { s with heap:=h',toks:=s.toks+1 }:=I.turned (t':=s.toks+1) (fun b o hb e=>(sb.2 b hb).trans e) f0 f1 f3 f4 f5;obtain⟨o,e,c,d⟩:=id st';exact⟨_,rfl,wK (s:={ s with heap:=h',toks:=s.toks+1 }) e c d (by decide) ⟨.str ⟨#[x.cps[i]]⟩,H,I1,⟨_,rfl⟩,⟨rfl,_,hx,rfl⟩,st',fun b hb=>(hf b hb).1⟩⟩
 done:=by
  intro X hP hw hK hc i J3 s σ H E I hf st hg;subst hP hw hK;have hge:x.cps.size<=i:=hg;obtain⟨f0,f1,f2,f3,f4,f5⟩:=hf it (by simp);exact wpAny_pyNext_wide_end (I.ok.hd hc) st (by simp;omega) fun h' eb=>⟨rfl,I.turned (t':=s.toks) (fun b o hb e=>eb b o hb e) f0 f1 f3 f4 f5⟩
 self:=fun _ _ _ _ _ st h=>wpAny_pyIter_striter_wide st h
section
variable{X:Cx}{p pos:Pos}{tg:Expr}
def JW(tl:TE):TI:=fun σ H R=>tl σ H fun v H1=>∃x,v=.str x/\R (KC x) H1
theorem Jj(hl:PE X l tl):PI X tg l (JW tl):=by
 intro J3 s σ H R I h;refine cI (hl J3 s σ H _ I h) fun v s1 ⟨y,H1,I1,r1,q1⟩=>?_;obtain⟨x,e,q⟩:=q1;subst e;obtain⟨t,rfl⟩:=r1;have fin:∀b∈[s1.heap.objs.size],oW X J3 H1 b:=fun b hb=>by
  have e:b=s1.heap.objs.size:=by simpa using hb
  subst e;exact I1.fpOk (aA _) (I1.hok.fresh (aA _))
 cases ha:x.cps.all (·<128)
 ·refine wpAny_pyIter_wide ha ?_;exact⟨s1.heap.objs.size,[s1.heap.objs.size],_,_,H1,rfl,I1.kept (t':=s1.toks) fun b o e=>bx _ e,DU x t _,⟨_,cG _ rfl,rfl,rfl⟩,fin,q⟩
 ·refine wpAny_pyIter_ascii ha ?_;exact⟨s1.heap.objs.size,[s1.heap.objs.size],_,_,H1,rfl,I1.kept (t':=s1.toks) fun b o e=>bx _ e,Be x t _,⟨_,cG _ rfl,rfl,rfl⟩,fin,q⟩
end
def Kc(K:Za)(a b:Addr):It :=
  ⟨fun i H=>∃xs ys x y,az K H a xs/\az K H b ys/\xs[i]?=some x/\ys[i]?=some y,
   fun i H x H'=>∃p u v,x=.ref p/\H p=none/\(∀xs,az K H a xs->xs[i]?=some u)/\(∀ys,az K H b ys->ys[i]?=some v)/\H'=upd H p (.tup [u,v]),
   fun i H=>∃xs ys,az K H a xs/\az K H b ys/\(xs.length<=i∨ys.length<=i)⟩
theorem Fp{K:Za}{es:List Expr}{kx:Nat}{J7:Pos}(a b z TI TO i1 i2:Addr)(D:qC z TI TO i1 i2 a b):
  sD P w K (.Tuple es kx J7) (Kc K a b) [z,TI,TO,i1,i2] z (fun i h=>IsZip h z TI TO .none/\IsPair h TI (.ref i1) (.ref i2)/\(∃a b,IsPair h TO a b)/\h.IsListIter i1 a i/\h.IsListIter i2 b i) where
 mem:=by simp
 obj:=fun i h st c hc=>by
  obtain⟨hz,hTI,⟨u,v,hTO⟩,h1,h2⟩:=st;simp only[cH,tF,or_false]at hc;rcases hc with rfl|rfl|rfl|rfl|rfl
  ·exact⟨_,hz,fun v z=>by cases z⟩
  ·exact⟨_,hTI,fun v z=>by cases z⟩
  ·exact⟨_,hTO,fun v z=>by cases z⟩
  ·obtain⟨o,e,c,d⟩:=h1;exact⟨o,e,fun v z=>by rw[d]at z;cases z⟩
  ·obtain⟨o,e,c,d⟩:=h2;exact⟨o,e,fun v z=>by rw[d]at z;cases z⟩
 keep:=fun i h h' st k=>by
  obtain⟨hz,hTI,⟨u,v,hTO⟩,h1,h2⟩:=st;exact⟨k z (by simp) _ hz,k TI (by simp) _ hTI,⟨u,v,k TO (by simp) _ hTO⟩,h1.at fun o e=>k i1 (by simp) o e,h2.at fun o e=>k i2 (by simp) o e⟩
 item:=by
  intro X hP hw hK hc i J3 s σ H E I hf st hg;subst hP hw hK;obtain⟨hz,hTI,⟨u0,v0,hTO⟩,h1,h2⟩:=st;obtain⟨xs,ys,x,y,hqx,hqy,hx,hy⟩:=hg;obtain⟨its,rx,px,zx⟩:=I.list hqx;obtain⟨jts,ry,py,zy⟩:=I.list hqy;obtain⟨u,hu,ru⟩:=rx.get hx;obtain⟨v,hv,rv⟩:=ry.get hy;refine wpAny_pyNext_zip_item D hz hTI hTO h1 h2 px.isList py.isList (x:=u) (y:=v) (by simpa using hu) (by simpa using hv) fun h' a1 a2 a3 a4 a5 a6 hk=>?_;refine⟨_,rfl,wpAny_letOwnedTupleGo_zip (s:={ s with heap:=h' }) a1 fun h2' hz2 hs2=>?_⟩;have hs2':fZ z h' h2':=hs2;have nsz:s.heap.objs.size≠z:=gQ (ba hz);have nsTO:s.heap.objs.size≠TO:=gQ (ba hTO);have nsTI:s.heap.objs.size≠TI:=gQ (ba hTI);have nsi1:s.heap.objs.size≠i1:=by obtain⟨o,ho,_⟩:=h1;exact gQ (ba ho)
  have nsi2:s.heap.objs.size≠i2:=by obtain⟨o,ho,_⟩:=h2;exact gQ (ba ho)
  have ht2:IsPair h2' s.heap.objs.size u v:=hs2'.extBut _ _ nsz a5;have I2:Inv X J3 σ (upd H s.heap.objs.size (.tup [x,y])) { s with heap:=h2',toks:=s.toks }:=by
   refine I.turnedNew (ch:=[z,TI,TO,i1,i2]) hf (fun c o hc q=>?_) ⟨_,ht2⟩ (fun _ z=>nomatch z) ⟨by show 2<=ai;decide,[u,v],.cons ru (.cons rv .nil),⟨_,ht2,rfl,_,rfl⟩⟩;have n1:c≠z:=fun q=>hc (by simp[q]);exact hs2'.extBut _ _ n1 (hk c o n1 (fun q=>hc (by simp[q])) (fun q=>hc (by simp[q])) (fun q=>hc (by simp[q])) q)
  refine⟨.ref s.heap.objs.size,_,I2,rfl,⟨_,x,y,rfl,I.fresh,fun zs hz=>by rw[I.list_inj hz hqx];exact hx,fun zs hz=>by rw[I.list_inj hz hqy];exact hy,rfl⟩,⟨hz2,hs2'.extBut _ _ D.TIz (hk _ _ D.TIz D.TITO D.TIi1 D.TIi2 hTI),⟨_,_,hs2'.extBut _ _ D.TOz a2⟩,a3.at fun o e=>hs2'.extBut _ _ D.i1z e,a4.at fun o e=>hs2'.extBut _ _ D.i2z e⟩,fun c hc=>?_⟩;have hcn:=(hf c hc).1;simp only[cH,tF,or_false]at hc;have ne:c≠s.heap.objs.size:=by
   rcases hc with rfl|rfl|rfl|rfl|rfl
   ·exact nsz.symm
   ·exact nsTI.symm
   ·exact nsTO.symm
   ·exact nsi1.symm
   ·exact nsi2.symm
  rw[ag ne];exact hcn
 done:=by
  intro X hP hw hK hc i J3 s σ H E I hf st hg;subst hP hw hK;obtain⟨hz,hTI,⟨u0,v0,hTO⟩,h1,h2⟩:=st;obtain⟨xs,ys,hqx,hqy,hend⟩:=hg;obtain⟨its,rx,px,zx⟩:=I.list hqx;obtain⟨jts,ry,py,zy⟩:=I.list hqy;have lx:=rx.length;have ly:=ry.length;refine wpAny_pyNext_zip_end (I.ok.hd hc) D hz hTI hTO h1 h2 px.isList py.isList (by rcases hend with q|q;exact .inl (by simp;omega);exact .inr (by simp;omega)) fun h' hk=>⟨rfl,?_⟩;have tr:∀c q,H c=some q->c∉[z,TI,TO,i1,i2]:=fun c q e m=>by rw[(hf c m).1]at e;cases e
  have kk:∀c o,c∉[z,TI,TO,i1,i2]->s.heap.get? c=some o->h'.get? c=some o:=fun c o hc q=>hk c o (fun q=>hc (by simp[q])) (fun q=>hc (by simp[q])) (fun q=>hc (by simp[q])) (fun q=>hc (by simp[q])) q;refine I.step (g':=s.gens) (d':=s.drawn) (t':=s.toks) (ch:=[z,TI,TO,i1,i2]) (fun c hc=>?_) (fun c o _ _ hc e _=>kk c o hc e) (fun c o _ _ hc e _=>⟨o.slots,kk c o hc e⟩) (fun _ _ _ _ n=>n) (fun c o hc e=>⟨o,kk c o hc e⟩) (fun _ _ e=>e) (fun _ _ _ e=>e) (fun c ps e=>⟨#[],by rw[e];simp⟩) (fun m hm=>?_) (fun c q e=>?_) I.bare
  ·obtain⟨f0,f1,f2,f3,f4,f5⟩:=hf c hc;exact⟨f3,f1,f4,f5⟩
  ·obtain⟨q,es',ep,ho,r⟩:=hm;exact⟨q,es',ep,kk _ q (fun z=>(hf _ z).2.1 rfl) ho,r⟩
  ·refine(I.hok c q e).stay (fun d v hd q'=>kk d v ?_ q') (fun _ q=>q) fun _ _ q=>q;rcases hd with z|z
   ·subst z;exact tr _ _ e
   ·exact tr _ _ z
 self:=fun _ _ _ _ _ st h=>xB st.1 h
section
variable{prog:cg}{w:World}{A:Around}{E:Zc}{s:Shared}
theorem kQ{it t:Addr}{i:Nat}{items:Array Value}{x:Value}{Q:Zc}(st:s.heap.IsTupleIter it t i)(tt:s.heap.IsTuple t items)(hx:items[i]?=some x)
  (k:∀h',h'.IsTupleIter it t (i+1)->fZ it s.heap h'->Q x { s with heap:=h' }):wpAny (model prog w) A (lM (.ref it)) Q E s:=by
 obtain⟨oi,gi,ci,di⟩:=id st;obtain⟨ot,gt,_,nt,dt⟩:=tt;unfold lM;refine ak (kC (name:=jB "__next__") st.typeIs xA
  (nO xA st.typeIs F.entry_tuple_iterator_next ?_ (F.args_tuple_iterator_next_1 _)))
 show wpAny _ _ (field (.ref it) 0 >>= _) _ _ s;refine ak (fh gi di (x:=.ref t) rfl ?_);show wpAny _ _ (if(Value.ref t==Value.none)=true then _ else _) _ _ s
 rw[if_neg (show ¬((Value.ref t==Value.none)=true)from fO)];show wpAny _ _ (field (.ref it) 1 >>= _) _ _ s;refine ak (fh gi di (x:=.int i 0) rfl ?_);show wpAny _ _ (seqItems? (.ref t) >>= _) _ _ s;refine ak (nE gt dt ?_);simp only[jC,hx];refine ak (tE gi di (by simp) (aD ⟨x,rfl,aD (k _ ?_ (lL ..))⟩));exact⟨_,xI _ gi (Obj.isFreed_of_fields (xz di _)),(Obj.cls_mapFields ..).trans ci,by
  rw[xz di];simp[rawInt]⟩
theorem rU{it t:Addr}{i:Nat}{items:Array Value}(hh:A.handled=none)(st:s.heap.IsTupleIter it t i)(tt:s.heap.IsTuple t items)(hx:items[i]?=none)
  (k:∀h' e,Heap.ExtBut it s.heap h'->(∃o,h'.get? e=some o/\o.cls=.type "StopIteration")->E (.ref e) { s with heap:=h' }):wpAny (model prog w) A (lM (.ref it)) Q E s:=by
 obtain⟨oi,gi,ci,di⟩:=id st;obtain⟨ot,gt,_,nt,dt⟩:=tt;unfold lM;refine ak (kC (name:=jB "__next__") st.typeIs xA
  (nO xA st.typeIs F.entry_tuple_iterator_next ?_ (F.args_tuple_iterator_next_1 _)))
 show wpAny _ _ (field (.ref it) 0 >>= _) _ _ s;refine ak (fh gi di (x:=.ref t) rfl ?_);show wpAny _ _ (if(Value.ref t==Value.none)=true then _ else _) _ _ s
 rw[if_neg (show ¬((Value.ref t==Value.none)=true)from fO)];show wpAny _ _ (field (.ref it) 1 >>= _) _ _ s;refine ak (fh gi di (x:=.int i 0) rfl ?_);show wpAny _ _ (seqItems? (.ref t) >>= _) _ _ s;refine ak (nE gt dt ?_);simp only[jC,hx];refine ak (rQ (ak (tE gi di (by simp) ?_)));show wpAny _ _ (newExc (.type "StopIteration") [] >>= _) _ _ _;refine ak ?_;simp only[newExc,newTuple];refine ak (iU ?_ (by size_fits));refine ak (m:=qA _ _) (wpAny_of_eq (a:=Value.none) (by first|rfl|(simp only[qA];rfl)) ?_)
 refine iU ?_ (by size_fits);simp only[raiseNew];refine ak (wpAny_handled ?_)
 first|rw[show A.in1.handled=none from hh] | rw[hh]
 refine ak (aD (wpAny_throw ?_));exact k _ _ (((lL ..).extBut.push _).push _) ⟨_,cG _ rfl,rfl⟩
theorem DR{TI TO:Addr}{k1 k2:Nat}{xs ys:Array Value}{x y:Value}{Q:Zc}(D:qC z TI TO i1 i2 l1 l2)
  (gz:IsZip s.heap z TI TO .none) (gI:IsPair s.heap TI (.ref i1) (.ref i2)) (gO:IsPair s.heap TO a b)
  (g1:s.heap.IsTupleIter i1 l1 k1) (g2:s.heap.IsTupleIter i2 l2 k2) (t1:s.heap.IsTuple l1 xs) (t2:s.heap.IsTuple l2 ys) (hx:xs[k1]?=some x) (hy:ys[k2]?=some y)
  (k:∀h',IsZip h' z TI TO (rawInt s.heap.objs.size)->IsPair h' TO x y->h'.IsTupleIter i1 l1 (k1+1)->h'.IsTupleIter i2 l2 (k2+1)->IsPair h' s.heap.objs.size x y->h'.objs.size=s.heap.objs.size+1 ->
   (∀c o,c≠z->c≠TO->c≠i1->c≠i2->s.heap.get? c=some o->h'.get? c=some o)->Q (.ref s.heap.objs.size) { s with heap:=h' }) :
  wpAny (model prog w) A (cb.«zip.__next__» ⟨[.ref z],[]⟩) (fun fin s'=>∃v,fin=.done (.ret v)/\Q v s') E s:=by
 show wpAny _ _ (field (.ref z) 2 >>= _) _ _ _;refine ak (fh gz rfl (x:=.bool false) rfl ?_);show wpAny _ _ (field (.ref z) 3 >>= _) _ _ _;refine ak (fh gz rfl (x:=.ref TI) rfl ?_);refine ak (nE gI rfl ?_);show wpAny _ _ (xy (.ref z) >>= _) _ _ _;refine ak ?_;unfold xy;refine ak (fh gz rfl (x:=.none) rfl (aD ?_));simp only[if_true];refine ak (rQ ?_);refine ak (fh gz rfl (x:=.ref TO) rfl ?_);refine ak (iT gz (by simp) fun m₁ gz₁ u₁=>?_)
 replace gz₁:IsZip m₁ z TI TO .ellipsis:=gz₁
 refine ak ?_;simp only[List.zipIdx_cons,List.zipIdx_nil,qD,List.forIn_nil];refine ak (ak (xx ?_));show wpAny _ _ (lM (.ref i1) >>= _) _ _ _;refine ak (kQ (g1.extBut u₁.extBut D.i1z) (t1.extBut u₁.extBut D.l1z) hx fun m₂ g1₂ u₂=>aD ?_);have gO₂:IsPair m₂ TO a b:=u₂.extBut _ _ D.TOi1 (u₁.extBut _ _ D.TOz gO);refine ak (nE gO₂ rfl ?_);refine ak (wpAny_updateSeq_pair gO₂ fun m₃ gO₃ u₃=>?_)
 replace gO₃:IsPair m₃ TO x b:=gO₃
 refine ak (tD (aD ?_));refine ak (ak (xx ?_));show wpAny _ _ (lM (.ref i2) >>= _) _ _ _;refine ak (kQ (((g2.extBut u₁.extBut D.i2z).extBut u₂.extBut D.i12.symm).extBut u₃.extBut D.TOi2.symm)
  (((t2.extBut u₁.extBut D.l2z).extBut u₂.extBut D.l2i1).extBut u₃.extBut D.l2TO) hy fun m₄ g2₄ u₄=>aD ?_)
 have gO₄:IsPair m₄ TO x b:=u₄.extBut _ _ D.TOi2 gO₃;refine ak (nE gO₄ rfl ?_);refine ak (wpAny_updateSeq_pair gO₄ fun m₅ gO₅ u₅=>?_)
 replace gO₅:IsPair m₅ TO x y:=gO₅
 refine ak (tD (aD (aD ?_)));refine ak (nE gO₅ rfl ?_);refine ak (wpAny_newTuple ?_);have esz:m₅.objs.size=s.heap.objs.size:=by rw[u₅.1,u₄.1,u₃.1,u₂.1,u₁.1]
 have gz₅:IsZip m₅ z TI TO .ellipsis:=u₅.extBut _ _ D.TOz.symm (u₄.extBut _ _ D.i2z.symm (u₃.extBut _ _ D.TOz.symm (u₂.extBut _ _ D.i1z.symm gz₁)));have kp₅:∀c o,c≠z->c≠TO->c≠i1->c≠i2->s.heap.get? c=some o->m₅.get? c=some o:=fun c o c1 c2 c3 c4 e =>
  u₅.extBut _ _ c2 (u₄.extBut _ _ c4 (u₃.extBut _ _ c2 (u₂.extBut _ _ c3 (u₁.extBut _ _ c1 e))))
 have g1₅:m₅.IsTupleIter i1 l1 (k1+1):=((g1₂.extBut u₃.extBut D.TOi1.symm).extBut u₄.extBut D.i12).extBut u₅.extBut D.TOi1.symm;have g2₅:m₅.IsTupleIter i2 l2 (k2+1):=g2₄.extBut u₅.extBut D.TOi2.symm;have zlt:z<m₅.objs.size:=ba gz₅;show wpAny _ _ (cb.SmallTypes.ownedTupleHandOut (.ref z) (.ref m₅.objs.size) >>= _) _ _ _;refine ak ?_;unfold cb.SmallTypes.ownedTupleHandOut;have gz₆:IsZip (m₅.push { cls:=.type "tuple",data:=.seq #[x,y] }) z TI TO .ellipsis:=bx _ gz₅;refine ak (iT gz₆ (by simp) fun m₇ gz₇ u₇=>?_)
 replace gz₇:IsZip m₇ z TI TO (rawInt m₅.objs.size):=gz₇
 refine iT gz₇ (by simp) fun m₈ gz₈ u₈=>?_
 replace gz₈:IsZip m₈ z TI TO (rawInt m₅.objs.size):=gz₈
 have up:∀c o,c≠z->m₅.get? c=some o->m₈.get? c=some o:=fun c o c1 e=>u₈.extBut _ _ c1 (u₇.extBut _ _ c1 (bx _ e));have gT₈:IsPair m₈ m₅.objs.size x y:=u₈.extBut _ _ (gQ zlt) (u₇.extBut _ _ (gQ zlt) (cG _ rfl));have ez8:m₈.objs.size=m₅.objs.size+1:=by rw[u₈.1,u₇.1,o_]
 rw[esz]at gz₈ gT₈ ez8;refine aD ⟨_,rfl,?_⟩;show Q (.ref m₅.objs.size) _;rw[esz];refine k m₈ gz₈ (up _ _ D.TOz gO₅) ?_ ?_ gT₈ ez8 fun c o c1 c2 c3 c4 e=>up c o c1 (kp₅ c o c1 c2 c3 c4 e)
 ·obtain⟨o,e,r⟩:=g1₅;exact⟨o,up _ o D.i1z e,r⟩
 ·obtain⟨o,e,r⟩:=g2₅;exact⟨o,up _ o D.i2z e,r⟩
theorem Fj{TI TO:Addr}{k1 k2:Nat}{xs ys:Array Value}(hh:A.handled=none)(D:qC z TI TO i1 i2 l1 l2)
  (gz:IsZip s.heap z TI TO .none) (gI:IsPair s.heap TI (.ref i1) (.ref i2)) (gO:IsPair s.heap TO a b)
  (g1:s.heap.IsTupleIter i1 l1 k1) (g2:s.heap.IsTupleIter i2 l2 k2) (t1:s.heap.IsTuple l1 xs) (t2:s.heap.IsTuple l2 ys) (fin:xs[k1]?=none∨ys[k2]?=none)
  (k:∀h' e,(∀c o,c≠z->c≠TO->c≠i1->c≠i2->s.heap.get? c=some o->h'.get? c=some o)->(∃o,h'.get? e=some o/\o.cls=.type "StopIteration")->E (.ref e) { s with heap:=h' }) :
  wpAny (model prog w) A (cb.«zip.__next__» ⟨[.ref z],[]⟩) Q E s:=by
 show wpAny _ _ (field (.ref z) 2 >>= _) _ _ _;refine ak (fh gz rfl (x:=.bool false) rfl ?_);show wpAny _ _ (field (.ref z) 3 >>= _) _ _ _;refine ak (fh gz rfl (x:=.ref TI) rfl ?_);refine ak (nE gI rfl ?_);show wpAny _ _ (xy (.ref z) >>= _) _ _ _;refine ak ?_;unfold xy;refine ak (fh gz rfl (x:=.none) rfl (aD ?_));simp only[if_true];refine ak (rQ ?_);refine ak (fh gz rfl (x:=.ref TO) rfl ?_);refine ak (iT gz (by simp) fun m₁ gz₁ u₁=>?_)
 replace gz₁:IsZip m₁ z TI TO .ellipsis:=gz₁
 refine ak ?_;simp only[List.zipIdx_cons,List.zipIdx_nil,qD,List.forIn_nil];refine ak (ak (xx ?_));show wpAny _ _ (lM (.ref i1) >>= _) _ _ _;cases hx:xs[k1]? with
 |none =>
  refine ak (rU hh (g1.extBut u₁.extBut D.i1z) (t1.extBut u₁.extBut D.l1z) hx fun m₂ e u₂ he=>?_);obtain⟨oe,ge,ce⟩:=he;have gz₂:IsZip m₂ z TI TO .ellipsis:=u₂ _ _ D.i1z.symm gz₁;have nez:e≠z:=fun q=>by subst q;rw[gz₂]at ge;cases ge;simp at ce
  refine iT gz₂ (by simp) fun m₃ _ u₃=>k m₃ e (fun c o c1 _ c3 _ q=>u₃.extBut _ _ c1 (u₂ _ _ c3 (u₁.extBut _ _ c1 q))) ⟨oe,u₃.extBut _ _ nez ge,ce⟩
 |some x =>
  have hy:ys[k2]?=none:=by rcases fin with q|q;rw[hx]at q;cases q;exact q
  refine ak (kQ (g1.extBut u₁.extBut D.i1z) (t1.extBut u₁.extBut D.l1z) hx fun m₂ g1₂ u₂=>aD ?_);have gO₂:IsPair m₂ TO a b:=u₂.extBut _ _ D.TOi1 (u₁.extBut _ _ D.TOz gO);refine ak (nE gO₂ rfl ?_);refine ak (wpAny_updateSeq_pair gO₂ fun m₃ gO₃ u₃=>?_);refine ak (tD (aD ?_));refine ak (ak (xx ?_));show wpAny _ _ (lM (.ref i2) >>= _) _ _ _;refine ak (rU hh (((g2.extBut u₁.extBut D.i2z).extBut u₂.extBut D.i12.symm).extBut u₃.extBut D.TOi2.symm)
   (((t2.extBut u₁.extBut D.l2z).extBut u₂.extBut D.l2i1).extBut u₃.extBut D.l2TO) hy fun m₄ e u₄ he=>?_)
  obtain⟨oe,ge,ce⟩:=he;have gz₄:IsZip m₄ z TI TO .ellipsis:=u₄ _ _ D.i2z.symm (u₃.extBut _ _ D.TOz.symm (u₂.extBut _ _ D.i1z.symm gz₁));have nez:e≠z:=fun q=>by subst q;rw[gz₄]at ge;cases ge;simp at ce
  refine iT gz₄ (by simp) fun m₅ _ u₅=>k m₅ e (fun c o c1 c2 c3 c4 q=>u₅.extBut _ _ c1 (u₄ _ _ c4 (u₃.extBut _ _ c2 (u₂.extBut _ _ c3 (u₁.extBut _ _ c1 q))))) ⟨oe,u₅.extBut _ _ nez ge,ce⟩
theorem vW{TI TO:Addr}{k1 k2:Nat}{xs ys:Array Value}{x y:Value}{Q:Option Value->Shared->Prop}(D:qC z TI TO i1 i2 l1 l2)
  (gz:IsZip s.heap z TI TO .none) (gI:IsPair s.heap TI (.ref i1) (.ref i2)) (gO:IsPair s.heap TO a b)
  (g1:s.heap.IsTupleIter i1 l1 k1) (g2:s.heap.IsTupleIter i2 l2 k2) (t1:s.heap.IsTuple l1 xs) (t2:s.heap.IsTuple l2 ys) (hx:xs[k1]?=some x) (hy:ys[k2]?=some y)
  (k:∀h',IsZip h' z TI TO (rawInt s.heap.objs.size)->IsPair h' TO x y->h'.IsTupleIter i1 l1 (k1+1)->h'.IsTupleIter i2 l2 (k2+1)->IsPair h' s.heap.objs.size x y->h'.objs.size=s.heap.objs.size+1 ->
   (∀c o,c≠z->c≠TO->c≠i1->c≠i2->s.heap.get? c=some o->h'.get? c=some o)->Q (some (.ref s.heap.objs.size)) { s with heap:=h' }) :
  wpAny (model prog w) A (pyNext (.ref z)) Q E s:=by
 have hT:s.TypeIs (.ref z) "zip":=⟨_,gz,rfl⟩;unfold pyNext;exact ak (qz (kC (name:=jB "__next__") hT xw
  (nO xw hT F.entry_zip_next
   (DR D gz gI gO g1 g2 t1 t2 hx hy fun h' a1 a2 a3 a4 a5 a6 a7=>aD (k h' a1 a2 a3 a4 a5 a6 a7)) (F.args_zip_next_1 _))))
theorem yr{TI TO:Addr}{k1 k2:Nat}{xs ys:Array Value}{Q:Option Value->Shared->Prop}(hh:A.handled=none)(D:qC z TI TO i1 i2 l1 l2)
  (gz:IsZip s.heap z TI TO .none) (gI:IsPair s.heap TI (.ref i1) (.ref i2)) (gO:IsPair s.heap TO a b)
  (g1:s.heap.IsTupleIter i1 l1 k1) (g2:s.heap.IsTupleIter i2 l2 k2) (t1:s.heap.IsTuple l1 xs) (t2:s.heap.IsTuple l2 ys) (fin:xs[k1]?=none∨ys[k2]?=none)
  (k:∀h',(∀c o,c≠z->c≠TO->c≠i1->c≠i2->s.heap.get? c=some o->h'.get? c=some o)->Q none { s with heap:=h' }):wpAny (model prog w) A (pyNext (.ref z)) Q E s:=by
 have hT:s.TypeIs (.ref z) "zip":=⟨_,gz,rfl⟩;unfold pyNext;refine ak (qz (kC (name:=jB "__next__") hT xw
  (nO xw hT F.entry_zip_next (Fj hh D gz gI gO g1 g2 t1 t2 fin fun h' e kp he=>?_) (F.args_zip_next_1 _))))
 obtain⟨o,ho,hc⟩:=he;refine ak (zq (T:="StopIteration") (b:=true) ⟨o,ho,hc⟩ isSubtype_stop ?_);exact aD (k _ kp)
end
abbrev Ko(h:Heap)(l1:Addr):Heap:=h.push { cls:=.type "tuple_iterator",data:=.fields #[.ref l1,.int 0 0] }
abbrev Kn(h:Heap)(l1 l2:Addr):Heap:=(Ko h l1).push { cls:=.type "tuple_iterator",data:=.fields #[.ref l2,.int 0 0] }
abbrev Km(h:Heap)(l1 l2:Addr):Heap:=(Kn h l1 l2).push { cls:=.type "tuple",data:=.seq #[.ref h.objs.size,.ref (Ko h l1).objs.size] }
abbrev Kl(h:Heap)(l1 l2:Addr):Heap:=(Km h l1 l2).push { cls:=.type "tuple",data:=.seq #[.none,.none] }
abbrev JG(h:Heap)(l1 l2:Addr):Heap:=(Kl h l1 l2).push { cls:=.type "zip",data:=.fields #[.none,.bool false,.bool false,.ref (Kn h l1 l2).objs.size,.ref (Km h l1 l2).objs.size] }
theorem BR(l1 l2:Addr)(xs ys:Array Value):
  Meets (cb.«zip.__new__» ⟨[.type "zip",.ref l1,.ref l2],[]⟩) (fun _ R s=>s.heap.IsTuple l1 xs/\s.heap.IsTuple l2 ys /\
   R (.ok (.ret (.ref (Kl s.heap l1 l2).objs.size))) { s with heap:=JG s.heap l1 l2 }) :=
 .of_wp fun prog w A R s h=>by
  obtain⟨hp,g,d,tk,os⟩:=s;obtain⟨q1,q2,h⟩:=h;have hsub:=sub_zip;have T1:Heap.IsTuple (Shared.heap ⟨hp,g,d,tk,os⟩) l1 xs:=q1;have T2:Heap.IsTuple (Shared.heap ⟨hp.push { cls:=.type "tuple_iterator",data:=.fields #[.ref l1,.int 0 0] },g,d,tk,os⟩) l2 ys:=Heap.IsTuple.push q2 _
  wp_walk using CS T1,CS T2
  exact⟨_,rfl,h⟩
section
variable{prog:cg}{w:World}{A:Around}{E:Zc}{s:Shared}
theorem EV{l1 l2:Addr}{xs ys:Array Value}{Q:Zc}(t1:s.heap.IsTuple l1 xs)(t2:s.heap.IsTuple l2 ys)
  (k:∀h',IsZip h' (s.heap.objs.size+4) (s.heap.objs.size+2) (s.heap.objs.size+3) .none->IsPair h' (s.heap.objs.size+2) (.ref s.heap.objs.size) (.ref (s.heap.objs.size+1)) ->
   IsPair h' (s.heap.objs.size+3) .none .none->h'.IsTupleIter s.heap.objs.size l1 0->h'.IsTupleIter (s.heap.objs.size+1) l2 0->(∀c o,s.heap.get? c=some o->h'.get? c=some o)->Q (.ref (s.heap.objs.size+4)) { s with heap:=h' }) :
  wpAny (model prog w) A (call (.type "zip") [.ref l1,.ref l2]) Q E s:=by
 refine callType_new F.called_zip (by decide) (F.typeCall_zip_2 _ _) (F.newCall_zip_2 _ _) (fun obj=>F.args_object_init_3 obj _ _) F.entry_zip_new
  (BR l1 l2 xs ys) ⟨t1,t2,?_⟩
 have z1:(Ko s.heap l1).objs.size=s.heap.objs.size+1:=o_ ..;have z2:(Kn s.heap l1 l2).objs.size=s.heap.objs.size+2:=by rw[o_,z1]
 have z3:(Km s.heap l1 l2).objs.size=s.heap.objs.size+3:=by rw[o_,z2]
 have z4:(Kl s.heap l1 l2).objs.size=s.heap.objs.size+4:=by rw[o_,z3]
 have g5:(JG s.heap l1 l2).get? (Kl s.heap l1 l2).objs.size=some _:=cG _ rfl;have g4:(JG s.heap l1 l2).get? (Km s.heap l1 l2).objs.size=some _:=bx _ (cG _ rfl);have g3:(JG s.heap l1 l2).get? (Kn s.heap l1 l2).objs.size=some _:=bx _ (bx _ (cG _ rfl));have g2:(JG s.heap l1 l2).get? (Ko s.heap l1).objs.size=some _:=bx _ (bx _ (bx _ (cG _ rfl)));have g1:(JG s.heap l1 l2).get? s.heap.objs.size=some _:=bx _ (bx _ (bx _ (bx _ (cG _ rfl))));show _/\_;rw[z2,z3,z4]at g5;rw[z1,z2]at g3;rw[z3]at g4;rw[z1]at g2;rw[z4];exact⟨⟨_,g5,rfl⟩,k _ g5 g3 g4 ⟨_,g1,rfl,rfl⟩ ⟨_,g2,rfl,rfl⟩ fun c o x =>
  bx _ (bx _ (bx _ (bx _ (bx _ x))))⟩
end
def Kb(K:Za)(a b:Addr):It :=
  ⟨fun i H=>∃xs ys x y,br K H a xs/\br K H b ys/\xs[i]?=some x/\ys[i]?=some y,
   fun i H x H'=>∃p u v,x=.ref p/\H p=none/\(∀xs,br K H a xs->xs[i]?=some u)/\(∀ys,br K H b ys->ys[i]?=some v)/\H'=upd H p (.tup [u,v]),
   fun i H=>∃xs ys,br K H a xs/\br K H b ys/\(xs.length<=i∨ys.length<=i)⟩
theorem DS{K:Za}{es:List Expr}{kx:Nat}{J7:Pos}(a b z TI TO i1 i2:Addr)(D:qC z TI TO i1 i2 a b):
  sD P w K (.Tuple es kx J7) (Kb K a b) [z,TI,TO,i1,i2] z (fun i h=>IsZip h z TI TO .none/\IsPair h TI (.ref i1) (.ref i2)/\(∃a b,IsPair h TO a b)/\h.IsTupleIter i1 a i/\h.IsTupleIter i2 b i) where
 mem:=by simp
 obj:=fun i h st c hc=>by
  obtain⟨hz,hTI,⟨u,v,hTO⟩,h1,h2⟩:=st;simp only[cH,tF,or_false]at hc;rcases hc with rfl|rfl|rfl|rfl|rfl
  ·exact⟨_,hz,fun v z=>by cases z⟩
  ·exact⟨_,hTI,fun v z=>by cases z⟩
  ·exact⟨_,hTO,fun v z=>by cases z⟩
  ·obtain⟨o,e,c,d⟩:=h1;exact⟨o,e,fun v z=>by rw[d]at z;cases z⟩
  ·obtain⟨o,e,c,d⟩:=h2;exact⟨o,e,fun v z=>by rw[d]at z;cases z⟩
 keep:=fun i h h' st k=>by
  obtain⟨hz,hTI,⟨u,v,hTO⟩,⟨o1,e1,r1⟩,⟨o2,e2,r2⟩⟩:=st;exact⟨k z (by simp) _ hz,k TI (by simp) _ hTI,⟨u,v,k TO (by simp) _ hTO⟩,⟨o1,k i1 (by simp) o1 e1,r1⟩,⟨o2,k i2 (by simp) o2 e2,r2⟩⟩
 item:=by
  intro X hP hw hK hc i J3 s σ H E I hf st hg;subst hP hw hK;obtain⟨hz,hTI,⟨u0,v0,hTO⟩,h1,h2⟩:=st;obtain⟨xs,ys,x,y,hqx,hqy,hx,hy⟩:=hg;obtain⟨its,rx,px,zx⟩:=I.tuple hqx;obtain⟨jts,ry,py,zy⟩:=I.tuple hqy;obtain⟨u,hu,ru⟩:=rx.get hx;obtain⟨v,hv,rv⟩:=ry.get hy;refine vW D hz hTI hTO h1 h2 (xs:=its.toArray) (ys:=jts.toArray) px py (x:=u) (y:=v) (by simpa using hu) (by simpa using hv) fun h' a1 a2 a3 a4 a5 a6 hk=>?_;refine⟨_,rfl,wpAny_letOwnedTupleGo_zip (s:={ s with heap:=h' }) a1 fun h2' hz2 hs2=>?_⟩;have hs2':fZ z h' h2':=hs2;have nsz:s.heap.objs.size≠z:=gQ (ba hz);have nsTO:s.heap.objs.size≠TO:=gQ (ba hTO);have nsTI:s.heap.objs.size≠TI:=gQ (ba hTI);have nsi1:s.heap.objs.size≠i1:=by obtain⟨o,ho,_⟩:=h1;exact gQ (ba ho)
  have nsi2:s.heap.objs.size≠i2:=by obtain⟨o,ho,_⟩:=h2;exact gQ (ba ho)
  have ht2:IsPair h2' s.heap.objs.size u v:=hs2'.extBut _ _ nsz a5;have I2:Inv X J3 σ (upd H s.heap.objs.size (.tup [x,y])) { s with heap:=h2',toks:=s.toks }:=by
   refine I.turnedNew (ch:=[z,TI,TO,i1,i2]) hf (fun c o hc q=>?_) ⟨_,ht2⟩ (fun _ z=>nomatch z) ⟨by show 2<=ai;decide,[u,v],.cons ru (.cons rv .nil),⟨_,ht2,rfl,_,rfl⟩⟩;have n1:c≠z:=fun q=>hc (by simp[q]);exact hs2'.extBut _ _ n1 (hk c o n1 (fun q=>hc (by simp[q])) (fun q=>hc (by simp[q])) (fun q=>hc (by simp[q])) q)
  have a3':h2'.IsTupleIter i1 a (i+1):=by obtain⟨o,e,r⟩:=a3;exact⟨o,hs2'.extBut _ _ D.i1z e,r⟩
  have a4':h2'.IsTupleIter i2 b (i+1):=by obtain⟨o,e,r⟩:=a4;exact⟨o,hs2'.extBut _ _ D.i2z e,r⟩
  refine⟨.ref s.heap.objs.size,_,I2,rfl,⟨_,x,y,rfl,I.fresh,fun zs hz=>by rw[I.tuple_inj hz hqx];exact hx,fun zs hz=>by rw[I.tuple_inj hz hqy];exact hy,rfl⟩,⟨hz2,hs2'.extBut _ _ D.TIz (hk _ _ D.TIz D.TITO D.TIi1 D.TIi2 hTI),⟨_,_,hs2'.extBut _ _ D.TOz a2⟩,a3',a4'⟩,fun c hc=>?_⟩;have hcn:=(hf c hc).1;simp only[cH,tF,or_false]at hc;have ne:c≠s.heap.objs.size:=by
   rcases hc with rfl|rfl|rfl|rfl|rfl
   ·exact nsz.symm
   ·exact nsTI.symm
   ·exact nsTO.symm
   ·exact nsi1.symm
   ·exact nsi2.symm
  rw[ag ne];exact hcn
 done:=by
  intro X hP hw hK hc i J3 s σ H E I hf st hg;subst hP hw hK;obtain⟨hz,hTI,⟨u0,v0,hTO⟩,h1,h2⟩:=st;obtain⟨xs,ys,hqx,hqy,hend⟩:=hg;obtain⟨its,rx,px,zx⟩:=I.tuple hqx;obtain⟨jts,ry,py,zy⟩:=I.tuple hqy;have lx:=rx.length;have ly:=ry.length;refine yr (I.ok.hd hc) D hz hTI hTO h1 h2 (xs:=its.toArray) (ys:=jts.toArray) px py (by rcases hend with q|q;exact .inl (by simp;omega);exact .inr (by simp;omega)) fun h' hk=>⟨rfl,?_⟩;have tr:∀c q,H c=some q->c∉[z,TI,TO,i1,i2]:=fun c q e m=>by rw[(hf c m).1]at e;cases e
  have kk:∀c o,c∉[z,TI,TO,i1,i2]->s.heap.get? c=some o->h'.get? c=some o:=fun c o hc q=>hk c o (fun q=>hc (by simp[q])) (fun q=>hc (by simp[q])) (fun q=>hc (by simp[q])) (fun q=>hc (by simp[q])) q;refine I.step (g':=s.gens) (d':=s.drawn) (t':=s.toks) (ch:=[z,TI,TO,i1,i2]) (fun c hc=>?_) (fun c o _ _ hc e _=>kk c o hc e) (fun c o _ _ hc e _=>⟨o.slots,kk c o hc e⟩) (fun _ _ _ _ n=>n) (fun c o hc e=>⟨o,kk c o hc e⟩) (fun _ _ e=>e) (fun _ _ _ e=>e) (fun c ps e=>⟨#[],by rw[e];simp⟩) (fun m hm=>?_) (fun c q e=>?_) I.bare
  ·obtain⟨f0,f1,f2,f3,f4,f5⟩:=hf c hc;exact⟨f3,f1,f4,f5⟩
  ·obtain⟨q,es',ep,ho,r⟩:=hm;exact⟨q,es',ep,kk _ q (fun z=>(hf _ z).2.1 rfl) ho,r⟩
  ·refine(I.hok c q e).stay (fun d v hd q'=>kk d v ?_ q') (fun _ q=>q) fun _ _ q=>q;rcases hd with z|z
   ·subst z;exact tr _ _ e
   ·exact tr _ _ z
 self:=fun _ _ _ _ _ st h=>xB st.1 h
section
variable{X:Cx}{p pos:Pos}{es:List Expr}{kx:Nat}{J7:Pos}
def Gv(K:Za)(ta:TA):TI:=fun σ H R=>ta σ H fun vs H1=>∃a b,vs=[.ref a,.ref b]/\(((∃xs,az K H1 a xs)/\(∃ys,az K H1 b ys)/\R (Kc K a b) H1)∨((∃xs,br K H1 a xs)/\(∃ys,br K H1 b ys)/\R (Kb K a b) H1))
theorem Dd{a b:Expr}(hg:Gl X "zip")(hm:X.mg "zip"=none)(ha:PA X [a,b] ta)(hs:aN [a,b] X.env=[(false,eval a X.env),(false,eval b X.env)]:=by rfl)(hs2:aN [b] X.env=[(false,eval b X.env)]:=by rfl):
  PI X (.Tuple es kx J7) (.Call (.Name "zip" p) [a,b] [] pos) (Gv X.K ta):=by
 intro J3 s σ H R I h;refine Call_ (q_ I hg hm boot_zip (CQ (cI (ha pos J3 s σ H _ I h) fun us s1 ⟨vs,H1,I1,r1,q1⟩=>?_) (by rw[hs,hs2]) (by rw[hs2];rfl)));obtain⟨l1,l2,e,q⟩:=q1;subst e;obtain⟨u,v,rfl,ru,rv⟩:=vals2 r1;cases ru;cases rv;have fin:∀b∈[s1.heap.objs.size+4,s1.heap.objs.size+2,s1.heap.objs.size+3,s1.heap.objs.size,s1.heap.objs.size+1],oW X J3 H1 b:=fun b hb=>by
  have hb':s1.heap.objs.size<=b:=by
   simp only[cH,tF,or_false]at hb;rcases hb with rfl|rfl|rfl|rfl|rfl<;>omega
  exact I1.fpOk hb' (I1.hok.fresh hb')
 rcases q with⟨⟨xs,hx⟩,⟨ys,hy⟩,q⟩|⟨⟨xs,hx⟩,⟨ys,hy⟩,q⟩
 ·obtain⟨its,rx,px,zx⟩:=I1.list hx;obtain⟨jts,ry,py,zy⟩:=I1.list hy;obtain⟨o1,n1,e1,_⟩:=id px;obtain⟨o2,n2,e2,_⟩:=id py;refine call_zip_2 px.isList py.isList fun h' a1 a2 a3 a4 a5 a6 hk=>?_;refine xB (s:={ s1 with heap:=h' }) a1 ?_;have hk':∀b o,s1.heap.get? b=some o->h'.get? b=some o:=hk;have I2:Inv X J3 σ H1 { s1 with heap:=h' }:=I1.kept (t':=s1.toks) hk';exact⟨_,_,_,_,H1,rfl,I2,Fp l1 l2 _ _ _ _ _ (zipApart_new (ba e1) (ba e2)),⟨a1,a2,⟨_,_,a3⟩,a4,a5⟩,fin,q⟩
 ·obtain⟨its,rx,px,zx⟩:=I1.tuple hx;obtain⟨jts,ry,py,zy⟩:=I1.tuple hy;obtain⟨o1,e1,_⟩:=id px;obtain⟨o2,e2,_⟩:=id py;refine EV (xs:=its.toArray) (ys:=jts.toArray) px py fun h' a1 a2 a3 a4 a5 hk=>?_;refine xB (s:={ s1 with heap:=h' }) a1 ?_;have hk':∀b o,s1.heap.get? b=some o->h'.get? b=some o:=hk;have I2:Inv X J3 σ H1 { s1 with heap:=h' }:=I1.kept (t':=s1.toks) hk';exact⟨_,_,_,_,H1,rfl,I2,DS l1 l2 _ _ _ _ _ (zipApart_new (ba e1) (ba e2)),⟨a1,a2,⟨_,_,a3⟩,a4,a5⟩,fin,q⟩
end
inductive DT where
 |k (a:fC)
 |t (l:List DT)
 |s (l:List DT)
mutual
def I0:(x y:DT)->Decidable (x=y)
 |.k a,.k b=>if h:a=b then Decidable.isTrue (by rw[h])else Decidable.isFalse fun e=>h (by injection e)
 |.t l,.t m=>match decDTs l m with
  |Decidable.isTrue h=>Decidable.isTrue (by rw[h])
  |Decidable.isFalse h=>Decidable.isFalse fun e=>h (by injection e)
 |.s l,.s m=>match decDTs l m with
  |Decidable.isTrue h=>Decidable.isTrue (by rw[h])
  |Decidable.isFalse h=>Decidable.isFalse fun e=>h (by injection e)
 |.k _,.t _=>Decidable.isFalse nofun
 |.k _,.s _=>Decidable.isFalse nofun
 |.t _,.k _=>Decidable.isFalse nofun
 |.t _,.s _=>Decidable.isFalse nofun
 |.s _,.k _=>Decidable.isFalse nofun
 |.s _,.t _=>Decidable.isFalse nofun
def decDTs:(x y:List DT)->Decidable (x=y)
 |[],[]=>Decidable.isTrue rfl
 |[],_::_=>Decidable.isFalse nofun
 |_::_,[]=>Decidable.isFalse nofun
 |a::l,b::m=>match I0 a b with
  |Decidable.isTrue h=>match decDTs l m with
   |Decidable.isTrue h'=>Decidable.isTrue (by rw[h,h'])
   |Decidable.isFalse h'=>Decidable.isFalse fun e=>h' (by injection e)
  |Decidable.isFalse h=>Decidable.isFalse fun e=>h (by injection e)
end
instance:DecidableEq DT:=I0
mutual
def DT.depth:DT->Nat
 |.k _=>0
 |.t l=>DT.depths l+1
 |.s l=>DT.depths l+1
def DT.depths:List DT->Nat
 |[]=>0
 |a::r=>max (DT.depth a) (DT.depths r)
end
mutual
def sP(h:Heap):DT->Value->Prop
 |.k a,v=>dH a v=true
 |.t l,v=>∃a items,v=.ref a/\h.IsTuple a items/\DAts h l items.toList
 |.s l,v=>∃a items,v=.ref a/\h.IsList a items/\DAts h l items.toList
def DAts(h:Heap):List DT->List Value->Prop
 |[],vs=>vs=[]
 |k::r,vs=>∃v us,vs=v::us/\sP h k v/\DAts h r us
end
theorem DAts.length:∀{xs:List DT}{vs:Zf},DAts h xs vs->xs.length=vs.length
 |[],vs,e=>by have e':vs=[]:=e;rw[e'];rfl
 |x::xs,vs,e=>by
  obtain⟨v,us,rfl,_,h2⟩:=e;simp[DAts.length h2]
theorem DAts.get:∀{xs:List DT}{vs:Zf}{i:Nat}{v:Value},DAts h xs vs->vs[i]?=some v->∃x,xs[i]?=some x/\sP h x v
 |[],vs,i,v,e,q=>by have e':vs=[]:=e;subst e';simp at q
 |x::xs,vs,i,v,e,q=>by
  obtain⟨u,us,rfl,h1,h2⟩:=e;cases i with
  |zero =>
   simp at q;subst q;exact⟨x,rfl,h1⟩
  |succ i =>
   obtain⟨y,e1,e2⟩:=DAts.get h2 (i:=i) (v:=v) (by simpa using q);exact⟨y,by simpa using e1,e2⟩
theorem DT.depths_get{l:List DT}{x:DT}{i d:Nat}(h:DT.depths l<=d)(e:l[i]?=some x):x.depth<=d:=by
 induction l generalizing i with
 |nil=>simp at e
 |cons a r ih =>
  have h':max a.depth (DT.depths r)<=d:=h;cases i with
  |zero=>simp at e;subst e;omega
  |succ i=>exact ih (by omega) (by simpa using e)
theorem B1{h:Heap}{a:Addr}{i j:Array Value}(x:h.IsList a i)(y:h.IsList a j):i=j:=by
 obtain⟨o,ho,_,n,hd⟩:=x;obtain⟨o',ho',_,n',hd'⟩:=y;rw[ho]at ho';cases ho';rw[hd]at hd';injection hd'
theorem AB{h:Heap}{a:Addr}{i j:Array Value}(x:h.IsTuple a i)(y:h.IsTuple a j):i=j:=by
 obtain⟨o,ho,_,n,hd⟩:=x;obtain⟨o',ho',_,n',hd'⟩:=y;rw[ho]at ho';cases ho';rw[hd]at hd';injection hd'
theorem ke{h:Heap}{a:Addr}{i j:Array Value}(x:h.IsList a i)(y:h.IsTuple a j):False:=by
 obtain⟨o,ho,hc,_⟩:=x;obtain⟨o',ho',hc',_⟩:=y;rw[ho]at ho';cases ho';rw[hc]at hc';simp at hc'
theorem wH(h1:dH a v=true)(h2:dH b v=true):a=b:=by
 rcases aB h1 with⟨i,t,rfl,rfl⟩|⟨i,t,rfl,rfl⟩
 ·rcases aB h2 with⟨j,u,rfl,e⟩|⟨j,u,rfl,e⟩
  ·cases e;rfl
  ·cases e
 ·rcases aB h2 with⟨j,u,rfl,e⟩|⟨j,u,rfl,e⟩
  ·cases e
  ·cases e;rfl
theorem iN{b:Addr}(h:dH a (.ref b)=true):False:=by
 rcases aB h with⟨_,_,_,e⟩|⟨_,_,_,e⟩<;>cases e
theorem sP.inj:∀(d:Nat) {x y:DT}{v:Value},x.depth<=d->sP h x v->sP h y v->x=y:=by
 have key:∀(d:Nat) (ih:∀{x y:DT}{v:Value},x.depth<=d->sP h x v->sP h y v->x=y) (xs ys:List DT) (vs:Zf),DT.depths xs<=d->DAts h xs vs->DAts h ys vs->xs=ys:=by
  intro d ih xs
  induction xs with
  |nil =>
   intro ys vs _ hx hy;have hx':vs=[]:=hx;subst hx';cases ys with
   |nil=>rfl
   |cons y ys=>obtain⟨_,_,e,_⟩:=hy;cases e
  |cons x xs ihl =>
   intro ys vs hd hx hy;obtain⟨v,us,rfl,hx1,hx2⟩:=hx;cases ys with
   |nil=>have hy':v::us=[]:=hy;cases hy'
   |cons y ys =>
    obtain⟨v',us',e,hy1,hy2⟩:=hy;cases e;have hd':max x.depth (DT.depths xs)<=d:=hd;rw[ih (by omega) hx1 hy1,ihl ys us (by omega) hx2 hy2]
 intro d
 induction d with
 |zero =>
  intro x y v hd hx hy;cases x with
  |t l=>exact absurd hd (by show ¬(DT.depths l+1<=0);omega)
  |s l=>exact absurd hd (by show ¬(DT.depths l+1<=0);omega)
  |k a =>
   cases y with
   |k b=>rw[wH hx hy]
   |t l=>obtain⟨b,_,rfl,_⟩:=hy;exact(iN hx).elim
   |s l=>obtain⟨b,_,rfl,_⟩:=hy;exact(iN hx).elim
 |succ d ih =>
  intro x y v hd hx hy;cases x with
  |k a =>
   cases y with
   |k b=>rw[wH hx hy]
   |t l=>obtain⟨b,_,rfl,_⟩:=hy;exact(iN hx).elim
   |s l=>obtain⟨b,_,rfl,_⟩:=hy;exact(iN hx).elim
  |t l =>
   obtain⟨a,i,rfl,hi,hx⟩:=hx;cases y with
   |k b=>exact(iN hy).elim
   |t m =>
    obtain⟨a',j,e,hj,hy⟩:=hy;cases e;rw[AB hj hi]at hy;rw[key d (fun h1=>ih h1) l m i.toList (by have:DT.depths l+1<=d+1:=hd;omega) hx hy]
   |s m =>
    obtain⟨a',j,e,hj,hy⟩:=hy;cases e;exact(ke hj hi).elim
  |s l =>
   obtain⟨a,i,rfl,hi,hx⟩:=hx;cases y with
   |k b=>exact(iN hy).elim
   |s m =>
    obtain⟨a',j,e,hj,hy⟩:=hy;cases e;rw[B1 hj hi]at hy;rw[key d (fun h1=>ih h1) l m i.toList (by have:DT.depths l+1<=d+1:=hd;omega) hx hy]
   |t m =>
    obtain⟨a',j,e,hj,hy⟩:=hy;cases e;exact(ke hi hj).elim
theorem gF{l m:List DT}(hl:l.length=m.length):((jW l.length).all fun j=>decide (l[j]?=m[j]?))=decide (l=m):=by
 by_cases e:l=m
 ·subst e;simp
 ·rw[zzr0 e];rw[List.all_eq_false];apply xv;intro h;apply e;apply List.ext_getElem?;intro i;by_cases hi:i<l.length
  ·apply xv;intro hne;exact h ⟨i,List.mem_range.mpr hi,by simpa using hne⟩
  ·rw[fS (by omega),fS (by omega)]
section
variable{s:Shared}
theorem IV:∀(d:Nat) {A:Around}{x y:DT}{u v:Value},x.depth<=d->y.depth<=d->A.units+d<cLine->sP s.heap x u->sP s.heap y v->bB A s u v (decide (x=y)):=by
 have leaves:∀{A:Around}{a b:fC}{u v:Value},dH a u=true->dH b v=true->bB A s u v (decide (DT.k a=DT.k b)):=by
  intro A a b u v h1 h2;have hd:decide (DT.k a=DT.k b)=decide (a=b):=by
   by_cases e:a=b
   ·subst e;simp
   ·have:¬(DT.k a=DT.k b):=fun z=>e (by injection z);rw[zzr0 this,zzr0 e]
  rw[hd];rcases aB h1 with⟨i,t,rfl,rfl⟩|⟨i,t,rfl,rfl⟩
  ·rcases aB h2 with⟨j,u,rfl,rfl⟩|⟨j,u,rfl,rfl⟩
   ·rw[yD];exact bB.int_int i t j u
   ·rw[yC];exact bB.int_str i t j u
  ·rcases aB h2 with⟨j,u,rfl,rfl⟩|⟨j,u,rfl,rfl⟩
   ·rw[yB];exact bB.str_int i t j u
   ·rw[yz];have:=bB.str_str (A:=A) (s:=s) i t j u;rwa[show(i==j)=decide (i=j)from by by_cases e:i=j<;>simp[e]]at this
 have kt:∀{A:Around}{a:fC}{u:Value}{b:Addr}{items:Array Value},A.units<cLine->dH a u=true->s.heap.IsTuple b items->bB A s u (.ref b) false/\bB A s (.ref b) u false:=by
  intro A a u b items hu h1 ht;rcases aB h1 with⟨i,t,rfl,rfl⟩|⟨i,t,rfl,rfl⟩
  ·exact⟨bB.int_tuple i t ht hu,bB.tuple_int i t ht hu⟩
  ·exact⟨bB.str_tuple i t ht hu,bB.tuple_str i t ht hu⟩
 have kl:∀{A:Around}{a:fC}{u:Value}{b:Addr}{items:Array Value},A.units<cLine->dH a u=true->s.heap.IsList b items->bB A s u (.ref b) false/\bB A s (.ref b) u false:=by
  intro A a u b items hu h1 ht;rcases aB h1 with⟨i,t,rfl,rfl⟩|⟨i,t,rfl,rfl⟩
  ·exact⟨bB.int_list i t ht hu,bB.list_int i t ht hu⟩
  ·exact⟨bB.str_list i t ht hu,bB.list_str i t ht hu⟩
 intro d
 induction d with
 |zero =>
  intro A x y u v hdx hdy hu hx hy;cases x with
  |t l=>exact absurd hdx (by show ¬(DT.depths l+1<=0);omega)
  |s l=>exact absurd hdx (by show ¬(DT.depths l+1<=0);omega)
  |k a =>
   cases y with
   |t l=>exact absurd hdy (by show ¬(DT.depths l+1<=0);omega)
   |s l=>exact absurd hdy (by show ¬(DT.depths l+1<=0);omega)
   |k b=>exact leaves hx hy
 |succ d ih =>
  intro A x y u v hdx hdy hu hx hy;have items:∀{l m:List DT}{i j:Array Value},DT.depths l<=d->DT.depths m<=d->DAts s.heap l i.toList->DAts s.heap m j.toList->∀n (h1:n<i.size) (h2:n<j.size),bB A.in1 s i[n] j[n] (decide (l[n]?=m[n]?)):=by
   intro l m i j hl hm hi hj n h1 h2;obtain⟨x,ex,hx⟩:=hi.get (i:=n) (v:=i[n]) (by simp[h1]);obtain⟨y,ey,hy⟩:=hj.get (i:=n) (v:=j[n]) (by simp[h2]);rw[ex,ey];have hd:decide ((some x:Option DT)=some y)=decide (x=y):=by
    by_cases e:x=y
    ·subst e;simp
    ·rw[zzr0 e,zzr0 fun z=>e (fe z)]
   rw[hd];exact ih (DT.depths_get hl ex) (DT.depths_get hm ey) (by show A.units+1+d<cLine;omega) hx hy
  cases x with
  |k a =>
   cases y with
   |k b=>exact leaves hx hy
   |t l =>
    obtain⟨b,i,rfl,hi,_⟩:=hy;rw[zzr0 (by intro z;cases z)];exact(kt (by omega) hx hi).1
   |s l =>
    obtain⟨b,i,rfl,hi,_⟩:=hy;rw[zzr0 (by intro z;cases z)];exact(kl (by omega) hx hi).1
  |t l =>
   have hl:DT.depths l<=d:=by have:DT.depths l+1<=d+1:=hdx;omega
   have hx0:=hx;obtain⟨a,i,rfl,hi,hx⟩:=hx;cases y with
   |k b =>
    rw[zzr0 (by intro z;cases z)];exact(kt (by omega) hy hi).2
   |s m =>
    obtain⟨b,j,rfl,hj,_⟩:=hy;rw[zzr0 (by intro z;cases z)];exact bB.tuple_list hi hj (by omega)
   |t m =>
    have hm:DT.depths m<=d:=by have:DT.depths m+1<=d+1:=hdy;omega
    have hy0:=hy;obtain⟨b,j,rfl,hj,hy⟩:=hy;by_cases hab:a=b
    ·subst hab;have e:DT.t l=DT.t m:=sP.inj _ (aA _) hx0 hy0;rw[zzr1 e];exact bB.same _
    ·have r:=SeqAt.RcAt.tuples (A:=A) hi hj (by omega) (items hl hm hx hy);have li:=hx.length;have lj:=hy.length;simp only[ln]at li lj;have q:((jW (min i.size j.size)).all (fun n=>decide (l[n]?=m[n]?)) && i.size==j.size)=decide (DT.t l=DT.t m):=by
      by_cases e:l.length=m.length
      ·have e1:i.size=j.size:=by omega
       rw[<-e1,Nat.min_self,<-li,gF e];by_cases e2:l=m
       ·subst e2;simp
       ·have:¬(DT.t l=DT.t m):=fun z=>e2 (by injection z);rw[zzr0 this,zzr0 e2];rfl
      ·have e1:(i.size==j.size)=false:=by simp;omega
       have:¬(DT.t l=DT.t m):=fun z=>e (by injection z with z;rw[z]);rw[e1,zzr0 this,xG]
     rw[q]at r;exact .of_refs hab r
  |s l =>
   have hl:DT.depths l<=d:=by have:DT.depths l+1<=d+1:=hdx;omega
   have hx0:=hx;obtain⟨a,i,rfl,hi,hx⟩:=hx;cases y with
   |k b =>
    rw[zzr0 (by intro z;cases z)];exact(kl (by omega) hy hi).2
   |t m =>
    obtain⟨b,j,rfl,hj,_⟩:=hy;rw[zzr0 (by intro z;cases z)];exact bB.list_tuple hi hj (by omega)
   |s m =>
    have hm:DT.depths m<=d:=by have:DT.depths m+1<=d+1:=hdy;omega
    have hy0:=hy;obtain⟨b,j,rfl,hj,hy⟩:=hy;by_cases hab:a=b
    ·subst hab;have e:DT.s l=DT.s m:=sP.inj _ (aA _) hx0 hy0;rw[zzr1 e];exact bB.same _
    ·have li:=hx.length;have lj:=hy.length;simp only[ln]at li lj;by_cases e:l.length=m.length
     ·have r:=SeqAt.RcAt.lists (A:=A) hi hj (by omega) (by omega) (items hl hm hx hy);rw[<-li,gF e]at r;have q:decide (l=m)=decide (DT.s l=DT.s m):=by
       by_cases e2:l=m
       ·subst e2;simp
       ·have:¬(DT.s l=DT.s m):=fun z=>e2 (by injection z);rw[zzr0 this,zzr0 e2]
      rw[q]at r;exact .of_refs hab r
     ·have:¬(DT.s l=DT.s m):=fun z=>e (by injection z with z;rw[z]);rw[zzr0 this];exact .of_refs hab (SeqAt.RcAt.lists_lengths hi hj (by simp;omega) (by omega))
end
theorem DA(a b:fC):decide (DT.k a=DT.k b)=decide (a=b):=by
 by_cases e:a=b
 ·subst e;simp
 ·rw[zzr0 e,zzr0 fun z=>e (by injection z)]
theorem IW(l m:List DT):decide (DT.t l=DT.t m)=decide (l=m):=by
 by_cases e:l=m
 ·subst e;simp
 ·rw[zzr0 e,zzr0 fun z=>e (by injection z)]
theorem IY(l m:List DT):decide (DT.s l=DT.s m)=decide (l=m):=by
 by_cases e:l=m
 ·subst e;simp
 ·rw[zzr0 e,zzr0 fun z=>e (by injection z)]
theorem GL(x y:DT):decide ((some x:Option DT)=some y)=decide (x=y):=by
 by_cases e:x=y
 ·subst e;simp
 ·rw[zzr0 e,zzr0 fun z=>e (fe z)]
section
variable{A:Around}{s:Shared}
theorem pZ{d:Nat}(hu:A.units+1+d<cLine){l m:List DT}{i j:Array Value}(hl:DT.depths l<=d)(hm:DT.depths m<=d)(hi:DAts s.heap l i.toList)(hj:DAts s.heap m j.toList):
  ∀n (h1:n<i.size) (h2:n<j.size),bB A.in1 s i[n] j[n] (decide (l[n]?=m[n]?)):=by
 intro n h1 h2;obtain⟨x,ex,hx⟩:=hi.get (i:=n) (v:=i[n]) (by simp[h1]);obtain⟨y,ey,hy⟩:=hj.get (i:=n) (v:=j[n]) (by simp[h2]);rw[ex,ey,GL];exact IV d (DT.depths_get hl ex) (DT.depths_get hm ey) hu hx hy
theorem C0{i j:Array Value}(hi:DAts s.heap l i.toList)(hj:DAts s.heap m j.toList):((jW (min i.size j.size)).all (fun n=>decide (l[n]?=m[n]?)) && i.size==j.size)=decide (l=m):=by
 have li:=hi.length;have lj:=hj.length;simp only[ln]at li lj;by_cases e:l.length=m.length
 ·have e1:i.size=j.size:=by omega
  rw[<-e1,Nat.min_self,<-li,gF e];simp
 ·have e1:(i.size==j.size)=false:=by simp;omega
  rw[e1,zzr0 fun z=>e (by rw[z]),xG]
theorem JZ{x y:DT}(dx:x.depth<=8)(dy:y.depth<=8)(hu:A.units+16<cLine)(hx:sP s.heap x u)(hy:sP s.heap y v):SeqAt.RcAt A s u v (decide (x=y)):=by
 cases x with
 |k a =>
  rcases aB (show dH a u=true from hx)with⟨i,t,rfl,rfl⟩|⟨i,t,rfl,rfl⟩
  ·cases y with
   |k b =>
    rw[DA];rcases aB (show dH b v=true from hy)with⟨j,t',rfl,rfl⟩|⟨j,t',rfl,rfl⟩
    ·rw[yD];exact SeqAt.RcAt.int_int i t j t'
    ·rw[yC];exact SeqAt.RcAt.int_str i t j t'
   |t m=>obtain⟨b,j,rfl,hj,_⟩:=hy;rw[zzr0 (by intro z;cases z)];exact SeqAt.RcAt.int_tuple i t hj (by omega)
   |s m=>obtain⟨b,j,rfl,hj,_⟩:=hy;rw[zzr0 (by intro z;cases z)];exact SeqAt.RcAt.int_list i t hj (by omega)
  ·cases y with
   |k b =>
    rw[DA];rcases aB (show dH b v=true from hy)with⟨j,t',rfl,rfl⟩|⟨j,t',rfl,rfl⟩
    ·rw[yB];exact SeqAt.RcAt.str_int i t j t'
    ·rw[yz];have:=SeqAt.RcAt.str_str (A:=A) (s:=s) i t j t';rwa[show(i==j)=decide (i=j)from by by_cases e:i=j<;>simp[e]]at this
   |t m=>obtain⟨b,j,rfl,hj,_⟩:=hy;rw[zzr0 (by intro z;cases z)];exact SeqAt.RcAt.str_tuple i t hj (by omega)
   |s m=>obtain⟨b,j,rfl,hj,_⟩:=hy;rw[zzr0 (by intro z;cases z)];exact SeqAt.RcAt.str_list i t hj (by omega)
 |t l =>
  obtain⟨a,i,rfl,hi,hx⟩:=hx;have dl:DT.depths l<=7:=by have:DT.depths l+1<=8:=dx;omega
  cases y with
  |k b =>
   rw[zzr0 (by intro z;cases z)];rcases aB (show dH b v=true from hy)with⟨j,t',rfl,rfl⟩|⟨j,t',rfl,rfl⟩
   ·exact SeqAt.RcAt.tuple_int j t' hi (by omega)
   ·exact SeqAt.RcAt.tuple_str j t' hi (by omega)
  |t m =>
   obtain⟨b,j,rfl,hj,hy⟩:=hy;have dm:DT.depths m<=7:=by have:DT.depths m+1<=8:=dy;omega
   have r:=SeqAt.RcAt.tuples (A:=A) hi hj (by omega) (pZ (by omega) dl dm hx hy);rw[C0 hx hy]at r;rw[IW];exact r
  |s m=>obtain⟨b,j,rfl,hj,_⟩:=hy;rw[zzr0 (by intro z;cases z)];exact SeqAt.RcAt.tuple_list hi hj (by omega)
 |s l =>
  obtain⟨a,i,rfl,hi,hx⟩:=hx;have dl:DT.depths l<=7:=by have:DT.depths l+1<=8:=dx;omega
  cases y with
  |k b =>
   rw[zzr0 (by intro z;cases z)];rcases aB (show dH b v=true from hy)with⟨j,t',rfl,rfl⟩|⟨j,t',rfl,rfl⟩
   ·exact SeqAt.RcAt.list_int j t' hi (by omega)
   ·exact SeqAt.RcAt.list_str j t' hi (by omega)
  |t m=>obtain⟨b,j,rfl,hj,_⟩:=hy;rw[zzr0 (by intro z;cases z)];exact SeqAt.RcAt.list_tuple hi hj (by omega)
  |s m =>
   obtain⟨b,j,rfl,hj,hy⟩:=hy;have dm:DT.depths m<=7:=by have:DT.depths m+1<=8:=dy;omega
   have li:=hx.length;have lj:=hy.length;simp only[ln]at li lj;rw[IY];by_cases e:l.length=m.length
   ·have r:=SeqAt.RcAt.lists (A:=A) hi hj (by omega) (by omega) (pZ (by omega) dl dm hx hy);rw[<-li,gF e]at r;exact r
   ·rw[zzr0 fun z=>e (by rw[z])];exact SeqAt.RcAt.lists_lengths hi hj (by simp;omega) (by omega)
theorem J8{x y:DT}(dx:x.depth<=8)(dy:y.depth<=8)(hu:A.units+16<cLine)(hx:sP s.heap x u)(hy:sP s.heap y v):SeqAt.RcNeAt A s u v (!decide (x=y)):=by
 cases x with
 |k a =>
  rcases aB (show dH a u=true from hx)with⟨i,t,rfl,rfl⟩|⟨i,t,rfl,rfl⟩
  ·cases y with
   |k b =>
    rw[DA];rcases aB (show dH b v=true from hy)with⟨j,t',rfl,rfl⟩|⟨j,t',rfl,rfl⟩
    ·rw[yD];exact SeqAt.RcNeAt.int_int i t j t'
    ·rw[yC];exact SeqAt.RcNeAt.int_str i t j t'
   |t m=>obtain⟨b,j,rfl,hj,_⟩:=hy;rw[zzr0 (by intro z;cases z)];exact SeqAt.RcNeAt.int_tuple i t hj (by omega)
   |s m=>obtain⟨b,j,rfl,hj,_⟩:=hy;rw[zzr0 (by intro z;cases z)];exact SeqAt.RcNeAt.int_list i t hj (by omega)
  ·cases y with
   |k b =>
    rw[DA];rcases aB (show dH b v=true from hy)with⟨j,t',rfl,rfl⟩|⟨j,t',rfl,rfl⟩
    ·rw[yB];exact SeqAt.RcNeAt.str_int i t j t'
    ·rw[yz];have:=SeqAt.RcNeAt.str_str (A:=A) (s:=s) i t j t';rwa[show(i==j)=decide (i=j)from by by_cases e:i=j<;>simp[e]]at this
   |t m=>obtain⟨b,j,rfl,hj,_⟩:=hy;rw[zzr0 (by intro z;cases z)];exact SeqAt.RcNeAt.str_tuple i t hj (by omega)
   |s m=>obtain⟨b,j,rfl,hj,_⟩:=hy;rw[zzr0 (by intro z;cases z)];exact SeqAt.RcNeAt.str_list i t hj (by omega)
 |t l =>
  obtain⟨a,i,rfl,hi,hx⟩:=hx;have dl:DT.depths l<=7:=by have:DT.depths l+1<=8:=dx;omega
  cases y with
  |k b =>
   rw[zzr0 (by intro z;cases z)];rcases aB (show dH b v=true from hy)with⟨j,t',rfl,rfl⟩|⟨j,t',rfl,rfl⟩
   ·exact SeqAt.RcNeAt.tuple_int j t' hi (by omega)
   ·exact SeqAt.RcNeAt.tuple_str j t' hi (by omega)
  |t m =>
   obtain⟨b,j,rfl,hj,hy⟩:=hy;have dm:DT.depths m<=7:=by have:DT.depths m+1<=8:=dy;omega
   have r:=SeqAt.RcNeAt.tuples (A:=A) hi hj (by omega) (pZ (by omega) dl dm hx hy);rw[C0 hx hy]at r;rw[IW];exact r
  |s m=>obtain⟨b,j,rfl,hj,_⟩:=hy;rw[zzr0 (by intro z;cases z)];exact SeqAt.RcNeAt.tuple_list hi hj (by omega)
 |s l =>
  obtain⟨a,i,rfl,hi,hx⟩:=hx;have dl:DT.depths l<=7:=by have:DT.depths l+1<=8:=dx;omega
  cases y with
  |k b =>
   rw[zzr0 (by intro z;cases z)];rcases aB (show dH b v=true from hy)with⟨j,t',rfl,rfl⟩|⟨j,t',rfl,rfl⟩
   ·exact SeqAt.RcNeAt.list_int j t' hi (by omega)
   ·exact SeqAt.RcNeAt.list_str j t' hi (by omega)
  |t m=>obtain⟨b,j,rfl,hj,_⟩:=hy;rw[zzr0 (by intro z;cases z)];exact SeqAt.RcNeAt.list_tuple hi hj (by omega)
  |s m =>
   obtain⟨b,j,rfl,hj,hy⟩:=hy;have dm:DT.depths m<=7:=by have:DT.depths m+1<=8:=dy;omega
   have li:=hx.length;have lj:=hy.length;simp only[ln]at li lj;rw[IY];by_cases e:l.length=m.length
   ·have r:=SeqAt.RcNeAt.lists (A:=A) hi hj (by omega) (by omega) (pZ (by omega) dl dm hx hy);rw[<-li,gF e]at r;exact r
   ·rw[zzr0 fun z=>e (by rw[z])];exact SeqAt.RcNeAt.lists_lengths hi hj (by simp;omega) (by omega)
end
mutual
def mJ(K:Za)(H:Hp):DT->V->Prop
 |.k a,v=>v=kV a
 |.t l,v=>∃b xs,v=.ref b/\br K H b xs/\DIns K H l xs
 |.s l,v=>∃b xs,v=.ref b/\az K H b xs/\DIns K H l xs
def DIns(K:Za)(H:Hp):List DT->List V->Prop
 |[],vs=>vs=[]
 |k::r,vs=>∃v us,vs=v::us/\mJ K H k v/\DIns K H r us
end
section
variable{X:Cx}{J3:Zd}{σ:St}{H:Hp}{s:Shared}
theorem oH(I:Inv X J3 σ H s):∀(d:Nat) {k:DT}{v:V}{u:Value},k.depth<=d->mJ X.K H k v->RelV v u->sP s.heap k u:=by
 have key:∀(d:Nat) (ih:∀{k:DT}{v:V}{u:Value},k.depth<=d->mJ X.K H k v->RelV v u->sP s.heap k u) (ks:List DT) (vs:List V) (us:Zf),DT.depths ks<=d->DIns X.K H ks vs->bf vs us->DAts s.heap ks us:=by
  intro d ih ks
  induction ks with
  |nil =>
   intro vs us _ hx r;have e:vs=[]:=hx;subst e;cases r
   rfl
  |cons k ks ihl =>
   intro vs us hd hx r;obtain⟨v,vs',rfl,h1,h2⟩:=hx;cases r with
   |@cons _ u _ us' r1 r2 =>
    have hd':max k.depth (DT.depths ks)<=d:=hd;exact⟨u,us',rfl,ih (by omega) h1 r1,ihl vs' us' (by omega) h2 r2⟩
 intro d
 induction d with
 |zero =>
  intro k v u hd hx r;cases k with
  |t l=>exact absurd hd (by show ¬(DT.depths l+1<=0);omega)
  |s l=>exact absurd hd (by show ¬(DT.depths l+1<=0);omega)
  |k b =>
   have e:v=kV b:=hx;subst e;exact pW (P:=X.prog) (w:=X.w) r
 |succ d ih =>
  intro k v u hd hx r;cases k with
  |k b =>
   have e:v=kV b:=hx;subst e;exact pW (P:=X.prog) (w:=X.w) r
  |t l =>
   obtain⟨b,xs,rfl,hb,hi⟩:=hx;cases(show u=Value.ref b from r);obtain⟨its,rv,ht,_⟩:=I.tuple hb;exact⟨b,its.toArray,rfl,ht,by simpa using key d (fun h1=>ih h1) l xs its (by have:DT.depths l+1<=d+1:=hd;omega) hi rv⟩
  |s l =>
   obtain⟨b,xs,rfl,hb,hi⟩:=hx;cases(show u=Value.ref b from r);obtain⟨its,rv,ht,_⟩:=I.list hb;exact⟨b,its.toArray,rfl,ht.isList,by simpa using key d (fun h1=>ih h1) l xs its (by have:DT.depths l+1<=d+1:=hd;omega) hi rv⟩
theorem p8(I:Inv X J3 σ H s):∀{ks:List DT}{vs:List V}{us:Zf},DT.depths ks<=8->DIns X.K H ks vs->bf vs us->DAts s.heap ks us
 |[],vs,us,_,hx,r=>by
  have e:vs=[]:=hx;subst e;cases r
  rfl
 |k::ks,vs,us,hd,hx,r=>by
  obtain⟨v,vs',rfl,h1,h2⟩:=hx;cases r with
  |@cons _ u _ us' r1 r2 =>
   have hd':max k.depth (DT.depths ks)<=8:=hd;exact⟨u,us',rfl,oH I 8 (by omega) h1 r1,p8 I (by omega) h2 r2⟩
end
def j5(K:Za):R2:=fun x y H Q=>∃d e:DT,mJ K H d x/\mJ K H e y/\d.depth<=8/\e.depth<=8/\Q (.bl (decide (d=e))) H
def uu(K:Za):R2:=fun x y H Q=>∃d e:DT,mJ K H d x/\mJ K H e y/\d.depth<=8/\e.depth<=8/\Q (.bl (!decide (d=e))) H
section
variable{X:Cx}
theorem fz(hu:X.A.units+16<cLine):lI X (e_ .Eq) (j5 X.K):=by
 intro J3 s σ H x y v u Q I rx ry h;obtain⟨d,e,hx,hy,dx,dy,q⟩:=h;exact JZ dx dy hu (oH I 8 dx hx rx) (oH I 8 dy hy ry) X.prog X.w X.xe _ ⟨.bl _,H,I,rfl,q⟩
theorem oC(hu:X.A.units+16<cLine):lI X (e_ .NotEq) (uu X.K):=by
 intro J3 s σ H x y v u Q I rx ry h;obtain⟨d,e,hx,hy,dx,dy,q⟩:=h;exact J8 dx dy hu (oH I 8 dx hx rx) (oH I 8 dy hy ry) X.prog X.w X.xe _ ⟨.bl _,H,I,rfl,q⟩
def kM(K:Za)(neg:Bool):R2:=fun x y H Q=>∃(d:DT) (ds:List DT) (p:Addr) (xs:List V),mJ K H d x/\y=.ref p/\(az K H p xs∨br K H p xs)/\DIns K H ds xs/\d.depth<=8/\DT.depths ds<=8/\Q (.bl (if neg then !decide (d∈ds)else decide (d∈ds))) H
open Classical in
theorem qb{d:DT}(d8:d.depth<=8):∀{ds:List DT}{us:Zf},DAts h ds us->DT.depths ds<=8->us.any (fun u=>@decide (sP h d u) (propDecidable _))=decide (d∈ds)
 |[],us,e,_=>by
  have e':us=[]:=e;subst e'
  rfl
 |x::ds,us,e,hd=>by
  obtain⟨u,us',rfl,h1,h2⟩:=e;have hd':max x.depth (DT.depths ds)<=8:=hd;rw[nX,qb d8 h2 (by omega)];by_cases q:d=x
  ·subst q;simp[h1]
  ·have n:¬sP h d u:=fun z=>q (sP.inj 8 d8 z h1);simp[n,q]
open Classical in
theorem uI{A:Around}{s:Shared}{d:DT}(d8:d.depth<=8)(hu:A.units+8<cLine)(hd:sP s.heap d v):∀{ds:List DT}{us:Zf},DAts s.heap ds us->DT.depths ds<=8->∀u∈us,bB A s u v (@decide (sP s.heap d u) (propDecidable _))
 |[],us,e,_,u,hm=>by
  have e':us=[]:=e;subst e';cases hm
 |x::ds,us,e,h8,u,hm=>by
  obtain⟨u',us',rfl,h1,h2⟩:=e;have h8':max x.depth (DT.depths ds)<=8:=h8;rcases cH.mp hm with rfl|hm
  ·have q:=IV 8 (A:=A) (by omega) d8 hu h1 hd;by_cases z:x=d
   ·subst z;rw[zzr1 h1];rwa[zzr1 rfl]at q
   ·have n:¬sP s.heap d u:=fun w=>z (sP.inj 8 d8 w h1).symm;rw[zzr0 n];rwa[zzr0 z]at q
  ·exact uI d8 hu hd h2 (by omega) u hm
theorem uE(hu:X.A.units+16<cLine):lI X (e_ .In) (kM X.K false):=by
 intro J3 s σ H x y v u Q I rx ry h;obtain⟨d,ds,p,xs,hx,rfl,hq,hds,d8,ds8,q⟩:=h;cases ry;have hd:=oH I 8 d8 hx rx;have hu':X.A.in1.units+8<cLine:=by show X.A.units+1+8<cLine;omega
 rcases hq with hq|hq
 ·obtain⟨its,r,pl,hz⟩:=I.list hq;have hi:=p8 I ds8 hds r;refine SeqAt.in_listAt _ pl.isList (fun w hw=>uI d8 hu' hd hi ds8 w (by simpa using hw)) ⟨.bl _,H,I,rfl,?_⟩;rw[xu,qb d8 hi ds8];exact q
 ·obtain⟨its,r,pl,hz⟩:=I.tuple hq;have hi:=p8 I ds8 hds r;refine SeqAt.in_tupleAt _ pl (fun w hw=>uI d8 hu' hd hi ds8 w (by simpa using hw)) ⟨.bl _,H,I,rfl,?_⟩;rw[xu,qb d8 hi ds8];exact q
theorem iM(hu:X.A.units+16<cLine):lI X (e_ .NotIn) (kM X.K true):=by
 intro J3 s σ H x y v u Q I rx ry h;obtain⟨d,ds,p,xs,hx,rfl,hq,hds,d8,ds8,q⟩:=h;cases ry;have hd:=oH I 8 d8 hx rx;have hu':X.A.in1.units+8<cLine:=by show X.A.units+1+8<cLine;omega
 rcases hq with hq|hq
 ·obtain⟨its,r,pl,hz⟩:=I.list hq;have hi:=p8 I ds8 hds r;refine SeqAt.notIn_listAt _ pl.isList (fun w hw=>uI d8 hu' hd hi ds8 w (by simpa using hw)) ⟨.bl _,H,I,rfl,?_⟩;rw[xu,qb d8 hi ds8];exact q
 ·obtain⟨its,r,pl,hz⟩:=I.tuple hq;have hi:=p8 I ds8 hds r;refine SeqAt.notIn_tupleAt _ pl (fun w hw=>uI d8 hu' hd hi ds8 w (by simpa using hw)) ⟨.bl _,H,I,rfl,?_⟩;rw[xu,qb d8 hi ds8];exact q
end
def uY(z:Str)(lo hi:Option Int):Str:=⟨((z.cps.toList.drop (HT.sIx z.length 0 lo)).take (HT.sIx z.length z.length hi-HT.sIx z.length 0 lo)).toArray⟩
theorem sliceRange_one(a b:Nat):sliceRange (a:Int) (b:Int) 1=(jW (b-a)).map (fun k=>a+k):=by
 unfold sliceRange;simp only[show(1:Int) > 0 from by decide,if_true];by_cases h:(a:Int)<(b:Int)
 ·have e:(if(a:Int)<(b:Int)then((b:Int)-a+1-1) / 1 else 0).toNat=b-a:=by rw[if_pos h];omega
  rw[e];exact xr fun k _=>by omega
 ·have e:(if(a:Int)<(b:Int)then((b:Int)-a+1-1) / 1 else 0).toNat=b-a:=by rw[if_neg h];omega
  rw[e];exact xr fun k _=>by omega
theorem AN(v:Option Int)(n d:Nat):(match v with|none=>(d:Int)|some i=>max 0 (min (if i<0 then i+(n:Int)else i) (n:Int)))=((HT.sIx n d v:Nat):Int):=by
 cases v with
 |none=>rfl
 |some i =>
  rw[<-HT.clip_eq i n d];dsimp only;by_cases h:i<0
  ·rw[if_pos h,if_pos h];omega
  ·rw[if_neg h,if_neg h];omega
theorem pH(lo hi:Option Int)(n:Nat):tz lo hi 1 n=(jW (HT.sIx n n hi-HT.sIx n 0 lo)).map (fun k=>HT.sIx n 0 lo+k):=by
 have e1:=AN lo n 0;have e2:=AN hi n n;rw[<-sliceRange_one,<-e1,<-e2];unfold tz;simp only[show(1:Int) > 0 from by decide,if_true];cases lo<;>cases hi<;>rfl
theorem Ed(z:Str)(lo hi:Option Int):Txt.slice z lo hi=uY z lo hi:=by
 have ha:HT.sIx z.length 0 lo<=z.length:=HT.sIx_le _ _ (cX _) _;have hb:HT.sIx z.length z.length hi<=z.length:=HT.sIx_le _ _ (aA _) _;have hlen:z.cps.toList.length=z.length:=by simp[Str.length]
 have pick:(tz lo hi 1 z.length).filterMap (z.cps[·]?)=(z.cps.toList.drop (HT.sIx z.length 0 lo)).take (HT.sIx z.length z.length hi-HT.sIx z.length 0 lo):=by
  rw[pH];generalize HT.sIx z.length 0 lo=a at *;generalize HT.sIx z.length z.length hi=b at *;have h:=StrLaws.picks z.cps.toList (b-a) a (by omega);simpa using h
 unfold Txt.slice;by_cases h:((1:Int)==1 && (tz lo hi 1 z.length).length==z.length)=true
 ·rw[if_pos h];have hl:(tz lo hi 1 z.length).length=z.length:=by simpa using h
  rw[pH,aj,tw]at hl;unfold uY;have a0:HT.sIx z.length 0 lo=0:=by omega
  have bn:HT.sIx z.length z.length hi-HT.sIx z.length 0 lo=z.cps.toList.length:=by omega
  rw[bn,a0,tu,aR]
 ·rw[if_neg h];unfold uY;rw[pick]
section
variable{X:Cx}
def HI:V->Option Int->Option Int->Hp->VK->Prop:=fun x lo hi H Q=>∃z,x=.str z/\z.length<=ai/\Q (.str (uY z lo hi)) H
theorem Bx:SlR X HI:=by
 intro J3 s σ H x v vl vu lo hi sl Q I rx hs pl pu h;obtain⟨z,rfl,hz,q⟩:=h;obtain⟨t,rfl⟩:=rx;rw[<-Ed]at q;refine⟨"str",_,F.slot_str_getitem.lookup,typeIs_str _ _ _,?_⟩;obtain⟨o,ho,hc,hd⟩:=hs;have fin:∀(l u:Option (Int×Tok)),vl=partValue l->vu=partValue u->lo=l.map (·.1)->hi=u.map (·.1)->wpAny (model X.prog X.w) X.A (nZ (.str z t) (.ref sl)) (EP X J3 σ Q) X.xe s:=by
  rintro l u rfl rfl rfl rfl;refine wpAny_getItem_str_slice (l:=l) (u:=u) (st:=none) ⟨o,ho,hc,hd⟩ rfl (post_val_or_str ⟨bC (Txt.slice_le z _ _) hz,fun t' k=>⟨.str _,H,I.tok _,⟨_,rfl⟩,q⟩⟩)
 cases pl with
 |none =>
  cases pu with
  |none=>exact fin none none rfl rfl rfl rfl
  |int j u=>exact fin none (some (j,u)) rfl rfl rfl rfl
 |int i t' =>
  cases pu with
  |none=>exact fin (some (i,t')) none rfl rfl rfl rfl
  |int j u=>exact fin (some (i,t')) (some (j,u)) rfl rfl rfl rfl
def IL(K:Za):V->List V->Hp->VK->Prop:=fun x vs H Q=>∃z p ys,x=.str z/\vs=[.ref p]/\az K H p (ys.map V.str)/\(ys.map (·.length)).sum+ys.length * z.length<=16777216/\Q (.str (xp z ys)) H
theorem Hm{ys:Zb}:∀{us:Zf},bf (ys.map V.str) us->StrsAre us ys:=by
 induction ys with
 |nil=>intro us r;cases r;exact .nil
 |cons y ys ih =>
  intro us r;cases r with
  |cons r1 r2 =>
   obtain⟨t,rfl⟩:=r1;exact .cons _ _ (ih r2)
theorem Ia:JB X "str.join" (IL X.K):=by
 intro J3 s σ H x vs v us Q I rx rv h;obtain⟨z,p,ys,rfl,rfl,hq,hz,q⟩:=h;obtain⟨t,rfl⟩:=rx;obtain⟨u,rfl,ru⟩:=rv.one;cases ru;obtain⟨its,r,pl,_⟩:=I.list hq;exact join_list pl.isList (by simpa using Hm r) hz fun t' k=>⟨.str _,H,I.tok _,⟨_,rfl⟩,q⟩
end
section
variable{X:Cx}
def TyX(K:Za)(H:Hp)(x:V)(t:Value):Prop:=lF K H x t∨(∃a xs,x=.ref a/\t=.type "tuple"/\br K H a xs)∨(∃a xs,x=.ref a/\t=.type "list"/\az K H a xs)
theorem BZ{A:Around}{Q:Zc}{c:Value}{b:Bool}(I:Inv X J3 σ H s)(rx:RelV x u)(ty:TyX X.K H x t)(e:CN X.K t c=some b)(h:∀tk,Q (.bool b) { s with toks:=tk }):
  wpAny (model X.prog X.w) A (call (.builtin "isinstance") [u,c]) Q E s:=by
 rcases ty with ty|⟨a,xs,rfl,rfl,q⟩|⟨a,xs,rfl,rfl,q⟩
 ·exact EE I rx ty e h
 ·cases(show u=Value.ref a from rx);obtain⟨its,rv,p,hz⟩:=I.tuple q;obtain⟨o,h1,h2,_⟩:=p;exact jT PySem.W.kitx_tuple I.kIn ⟨o,h1,h2⟩ e (fun z=>nomatch z) h
 ·cases(show u=Value.ref a from rx);obtain⟨its,rv,p,hz⟩:=I.list q;obtain⟨o,n,h1,h2,_⟩:=p;exact jT PySem.W.kitx_list I.kIn ⟨o,h1,h2⟩ e (fun z=>nomatch z) h
theorem fH:fg X (.builtin "isinstance") (fun xs H Q=>∃x c t b,xs=[x,.ty c]/\TyX X.K H x t/\CN X.K t (.type c)=some b/\Q (.bl b) H):=by
 intro J3 s σ H xs us Q I r h;obtain⟨x,c,t,b,rfl,ty,hk,q⟩:=h;obtain⟨u,v,rfl,ru,rv⟩:=vals2 r;cases(show v=Value.type c from rv);exact BZ I ru ty hk fun tk=>⟨.bl b,H,I.tok _,rfl,q⟩
theorem GV{bs:List Bool}(r:bf (bs.map V.bl) us){i:Nat}{v:Value}(h:us[i]?=some v):v=.bool ((bs[i]?).getD false)/\i<bs.length:=by
 have hi:i<us.length:=(cu.mp h).1;have hl:=r.length;rw[aj]at hl;have hb:i<bs.length:=by omega
 obtain⟨u,hu,ru⟩:=r.get (i:=i) (x:=V.bl bs[i]) (by simp[hb]);rw[h]at hu;cases hu;refine⟨?_,hb⟩;rw[b9 hb];exact ru
theorem yW(bs:List Bool):((jW bs.length).all fun i=>(bs[i]?).getD false)=bs.all id:=by
 induction bs with
 |nil=>rfl
 |cons b bs ih =>
  rw[dS,List.range_succ_eq_map,List.all_cons,xo,List.all_cons,<-ih]
  rfl
theorem yV(bs:List Bool):((jW bs.length).any fun i=>(bs[i]?).getD false)=bs.any id:=by
 induction bs with
 |nil=>rfl
 |cons b bs ih =>
  rw[dS,List.range_succ_eq_map,nX,List.any_map,nX,<-ih]
  rfl
theorem mB(hc:X.calm=true):fg X (.builtin "all") (fun xs H Q=>∃(p:Addr) (bs:List Bool),xs=[.ref p]/\az X.K H p (bs.map V.bl)/\Q (.bl (bs.all id)) H):=by
 intro J3 s σ H xs us Q I r h;obtain⟨p,bs,rfl,hq,q⟩:=h;obtain⟨u,rfl,ru⟩:=vals1 r;cases ru;obtain⟨its,rv,pl,hz⟩:=I.list hq;obtain⟨o,n,ho,_⟩:=id pl;have hl:=rv.length;rw[aj]at hl;refine call_all_walk (zo pl.isList ?_);refine⟨s.heap.objs.size,_,_,_,_,_,fun i=>(bs[i]?).getD false,rfl,Walks.list (prog:=X.prog) (w:=X.w) (A:=X.A.in1) (I.ok.hd hc) s.heap.objs.size p (cY (ba ho)) its.toArray,⟨⟨_,cG _ rfl,rfl,rfl⟩,pl.isList.push _⟩,?_,?_⟩
 ·intro i v s' Q' E' hv hq';obtain⟨e,_⟩:=GV rv (i:=i) (v:=v) (by simpa using hv);rw[e];exact rP hq'
 ·intro h' tk hk;have I':Inv X J3 σ H { s with heap:=h',toks:=tk }:=I.kept fun b o e=>hk b o (by simp;exact cY (ba e)) (bx _ e);rw[bN,<-hl,yW];exact⟨.bl _,H,I',rfl,q⟩
theorem AQ(hc:X.calm=true):fg X (.builtin "any") (fun xs H Q=>∃(p:Addr) (bs:List Bool),xs=[.ref p]/\az X.K H p (bs.map V.bl)/\Q (.bl (bs.any id)) H):=by
 intro J3 s σ H xs us Q I r h;obtain⟨p,bs,rfl,hq,q⟩:=h;obtain⟨u,rfl,ru⟩:=vals1 r;cases ru;obtain⟨its,rv,pl,hz⟩:=I.list hq;obtain⟨o,n,ho,_⟩:=id pl;have hl:=rv.length;rw[aj]at hl;refine call_any_walk (zo pl.isList ?_);refine⟨s.heap.objs.size,_,_,_,_,_,fun i=>(bs[i]?).getD false,rfl,Walks.list (prog:=X.prog) (w:=X.w) (A:=X.A.in1) (I.ok.hd hc) s.heap.objs.size p (cY (ba ho)) its.toArray,⟨⟨_,cG _ rfl,rfl,rfl⟩,pl.isList.push _⟩,?_,?_⟩
 ·intro i v s' Q' E' hv hq';obtain⟨e,_⟩:=GV rv (i:=i) (v:=v) (by simpa using hv);rw[e];exact rP hq'
 ·intro h' tk hk;have I':Inv X J3 σ H { s with heap:=h',toks:=tk }:=I.kept fun b o e=>hk b o (by simp;exact cY (ba e)) (bx _ e);rw[bN,<-hl,yV];exact⟨.bl _,H,I',rfl,q⟩
theorem BP:lI X (e_ .In) (fun x y H Q=>∃c j,x=.str ⟨#[c]⟩/\y=.str j/\Q (.bl (decide (c∈j.cps.toList))) H):=by
 intro J3 s σ H x y v u Q I rx ry h;obtain⟨c,j,rfl,rfl,q⟩:=h;rw[<-StrLaws.found_one]at q;exact Eu J3 s σ H _ _ v u Q I rx ry ⟨_,_,rfl,rfl,q⟩
theorem u7(hc:X.calm=true):fg X (.type "list") (fun xs H Q=>∃(d:Addr) (kvs:List (fC×V)),xs=[.ref d]/\Rd H d (.dK kvs)/\∀l,H l=none->Q (.ref l) (upd H l (.lst (kvs.map fun kv=>kV kv.1)))):=by
 intro J3 s σ H xs us Q I r h;obtain⟨d,kvs,rfl,hd,q⟩:=h;obtain⟨u,rfl,ru⟩:=vals1 r;cases ru;obtain⟨z,hsys,vs,rel,dd⟩:=p6 I.hok hd;obtain⟨ep,hat⟩:=dd.dictAt;have hl:=rel.length;refine PySem.W.kdl_call (PySem.W.kdl_dict (knd:=cB X.prog X.w) (kvs:=vs) (ep:=ep) hsys) (I.ok.hd hc) hat (by rw[<-hl];exact z) fun h' tk acc c hk hD hacc=>?_;have hv:bf (kvs.map fun kv=>kV kv.1) acc.toList:=by
  obtain⟨hn,hP⟩:=hacc;have key:∀(a:Zf) (ks:List (fC×V)) (ws:List (fC×Value)),KV ks ws->a.length=ws.length->(∀(j:Nat) (v:Value),a[j]?=some v->∃k x,ws[j]?=some (k,x)/\(cB X.prog X.w).is k v=true)->bf (ks.map fun kv=>kV kv.1) a:=by
   intro a ks ws rl
   induction rl generalizing a with
   |nil=>intro ha _;cases a with
    |nil=>exact .nil
    |cons _ _=>cases ha
   |@cons p w' ps ws' hp _ ih =>
    intro ha hj;cases a with
    |nil=>cases ha
    |cons v a =>
     obtain⟨k,x,e,hk⟩:=hj 0 v rfl;have e':w'=(k,x):=by simpa using e
     refine .cons ?_ (ih a (by simpa using ha) fun j v hv=>by simpa using hj (j+1) v (by simpa using hv));have ek:p.1=k:=by rw[hp.1,e']
     show RelV (kV p.1) v;rw[ek];rcases aB (show dH k v=true from hk)with⟨i,t,rfl,rfl⟩|⟨i,t,rfl,rfl⟩
     ·exact⟨t,rfl⟩
     ·exact⟨t,rfl⟩
  exact key acc.toList kvs vs rel (by rw[ln];exact hn) fun j v hv=>hP j v (by rw[<-qF];exact hv)
 refine⟨.ref s.heap.objs.size,_,I.laid (o:=.lst (kvs.map fun kv=>kV kv.1)) hk (aA _) ⟨by rw[aj];exact z,acc.toList,c,hv,by rw[Array.toArray_toList];exact hD⟩,rfl,q _ I.fresh⟩
end
section
variable{prog:cg}{w:World}{K:Type}[DecidableEq K]{knd:HeapKind prog w K}{A:Around}{E:Zc}{s:Shared}
theorem tO{d a:Addr}{xs:List (K×Addr×Value)}{k:K}{v:Value}{Q:Zc}(hu:knd.room A)(hkey:knd.is s.heap k a)(hm:s.heap.DictOfH knd d xs)
  (there:∀p,atKey xs k=some p->Q p.2 { s with toks:=s.toks+knd.draws k })
  (new:atKey xs k=none->∀h',h'.DictOfH knd d (xs++[(k,a,v)])->fZ d s.heap h'->Q v { s with heap:=h',toks:=s.toks+knd.draws k })
  (hsz:xs.length<=ai):wpAny (model prog w) A (dictSetDefault d (.ref a) v) Q E s:=by
 obtain⟨o,es,ep,ho,hc,hd,he,his,hn⟩:=hm;unfold dictSetDefault
 try with_reducible refine lq ?_
 refine ak (knd.pyHash hu hkey ?_);refine ak (wpAny_dictFind_heap (s:={ s with toks:=s.toks+knd.draws k }) hu hkey ho hd he his hn ?_ ?_)
 ·intro hno;have hnot:k∉xs.map (·.1):=not_mem_keys_of_get hno;refine ak (rQ (ak (wpAny_updateDictKeys (hz:=by have e:=size_of_entries he;omega) (s:={ s with toks:=s.toks+knd.draws k }) ho hd (aD (new (atKey_none_of_get hno) _ ⟨_,_,ep+1,xI _ ho (Obj.isFreed_of_dict (Obj.data_mapDictKeys hd _)),
   hc.mapDictKeys _,Obj.data_mapDictKeys hd _,?_,?_,?_⟩ (lL ..))))))
  ·simp[he,CY]
  ·intro x hx;rcases a_.mp hx with hx|hx
   ·exact knd.keeps (his x hx) ho hd (lL ..)
   ·simp only[aU]at hx;subst hx;exact knd.keeps hkey ho hd (lL ..)
  ·rw[ax,cJ];refine⟨hn,by simp,?_⟩;intro x hx y hy;simp only[bI,List.map_nil,aU]at hy;subst hy;exact fun e=>hnot (e▸hx)
 ·intro j p hj;refine ak (kB (s:={ s with toks:=s.toks+knd.draws k }) ho hd ?_);rw[entry_at he j,hj];exact ak (rQ (aD (there p (atKey_of_get hn hj))))
theorem pT(knd:HeapKind prog w K)(d a:Addr)(hd:(d==fD)=false)(dflt:Value):
  MeetsIn prog w (cb.«dict.setdefault» ⟨[.ref d,.ref a,dflt],[]⟩) (fun A R s=>knd.room A.in1/\∃k xs,knd.is s.heap k a/\s.heap.DictOfH knd d xs/\xs.length<=ai /\
   (∀p,atKey xs k=some p->R (.ok (.ret p.2)) { s with toks:=s.toks+knd.draws k }) /\
   (atKey xs k=none->∀h',h'.DictOfH knd d (xs++[(k,a,dflt)])->fZ d s.heap h'->R (.ok (.ret dflt)) { s with heap:=h',toks:=s.toks+knd.draws k })) :=
 .of_wp fun A R s ⟨hu,k,xs,hkey,hm,hz,h1,h2⟩=>by
  unfold cb.«dict.setdefault»;refine ak ?_;unfold cb.Dict.keyAndDefault;refine ak (tq hm.typeIs ?_);show wpAny _ _ (pure (d,Value.ref a,some dflt)) _ _ s;refine aD ?_;show wpAny _ _ (if(d==fD)=true then _ else(dictSetDefault d (.ref a) dflt >>= _)) _ _ s
  rw[if_neg (by rw[hd];exact fO)];exact ak (tO hu hkey hm (fun p hp=>aD ⟨p.2,rfl,h1 p hp⟩) (fun hn h' hm' hs'=>aD ⟨dflt,rfl,h2 hn h' hm' hs'⟩) hz)
end
section
variable{X:Cx}
def C8:V->List V->Hp->VK->Prop:=fun x vs H Q=>∃(d b:Addr) (kvs:List (TK×V)) (k:TK) (z:V),x=.ref d/\vs=[.ref b,z]/\H d=some (.dT kvs)/\cW H k (.ref b)/\k.depth<=8/\kvs.length<ai /\
 (∀v,bq kvs k=some v->Q v H)/\(bq kvs k=none->Q z (upd H d (.dT (kvs++[(k,z)]))))
theorem Ew(hu:X.A.units+16<cLine):JB X "dict.setdefault" C8:=by
 intro J3 s σ H x vs v us Q I rx rv h;obtain⟨d,b,kvs,k,z,rfl,rfl,hd,hb,h8,hz,q1,q2⟩:=h;cases rx;obtain⟨u,v,rfl,ru,rz⟩:=rv.two;cases ru;obtain⟨_,hsys,xs,rel,dd⟩:=Dy I.hok I.kIn hd;have hl:kvs.length=xs.length:=Paired.length rel;refine tI PySem.F.slot_dict_setdefault dd.typeIs PySem.F.entry_dict_setdefault (PySem.F.args_dict_setdefault_3 _ _ _) (pT (dP X.prog X.w) d b hsys v)
  ⟨f_ hu,k,xs,uO I.hok I.kIn (cW.c 8 h8 hb) h8,dd,by omega,fun p hp=>?_,fun hn h' dd' hs=>?_⟩
 ·have e:=rel.val k;rw[hp]at e;cases e2:bq kvs k with
  |none=>rw[e2]at e;exact e.elim
  |some y =>
   rw[e2]at e;exact⟨y,H,I.tok _,e,q1 y e2⟩
 ·have e:=rel.val k;rw[hn]at e;have e2:bq kvs k=none:=by
   cases e2:bq kvs k with
   |none=>rfl
   |some y=>rw[e2]at e;exact e.elim
  obtain⟨o,es,ep,hq,h2,h3,h4,_,h5⟩:=dd';refine⟨z,_,p7 (ob:=.dT (kvs++[(k,z)])) I (by rw[hd];exact jg) hs ⟨o,hq⟩ ⟨by rw[aK,List.length_singleton];omega,hsys,_,KT.keeps (kvs:=kvs++[(k,z)]) (xs:=xs++[(k,b,v)]) (c_ rel ⟨rfl,cW.c 8 h8 hb,h8,rz⟩) fun c ys ec=>?_,o,es,ep,hq,h2,h3,h4,h5⟩,rz,q2 e2⟩;rw[ag (Dp ec hd (fun z=>nomatch z))];exact ec
end
theorem mx:entryFor table "dict.update.loop"=some cb.«dict.update.loop»:=entryFor_of_fast (by kernel_rfl)
theorem gv:plainId "dict.update.loop"=true:=by decide +kernel
theorem yq:typeLookup (.type "list") "keys"=pure none:=am_miss_of_fast (by decide +kernel)
section
variable{prog:cg}{w:World}{A:Around}{E:Zc}{s:Shared}
theorem Ey{a:Addr}{o:Obj}{xs:Array Value}{k:Nat}{Q:Option Value->Shared->Prop}(hx:s.heap.get? a=some o)(hc:o.cls=.type "list")(hdat:o.data=.seq xs k)(hd:o.dict=none)(hA:A.handled=none)
  (h:∀h' tk,(∀b ob,s.heap.get? b=some ob->h'.get? b=some ob)->Q none { s with heap:=h',toks:=tk }):wpAny (model prog w) A (getAttr? (.ref a) "keys") Q E s:=by
 obtain⟨c,dct,dat,sl⟩:=o;simp only at hc hdat hd;subst hc hdat hd;obtain⟨hp,g,d,tk,os⟩:=s;have hT:∀tk',(⟨hp,g,d,tk',os⟩:Shared).TypeIs (.ref a) "list":=fun _=>⟨_,hx,rfl⟩;have f1:=sub_AttributeError;have f3:=F.slot_list_getattribute.lookup;have f4:=F.slot_list_getattribute.bind (.ref a);have f5:=am_list_getattr_none;unfold getAttr? getAttrBy? getAttrBy
 repeat (any_goals (first|assumption|exact hT _|((with_reducible show wpAny _ _ (call (Value.builtin "list.__getattribute__") _ _) _ _ _);refine qG F.slot_list_getattribute (hT _) am_entry_list_getattribute (F.args_list_getattribute_2 _ _) (meets_getattribute_miss_list a xs k sl "keys" _ yq (by decide +kernel) (by decide +kernel)) ⟨hx,hA,fun h' tk' e hx'=>?_⟩)|wp_step))
 obtain⟨t',u',he⟩:=hx'.there;show wpAny _ _ (getattributeRaised _ _ _ _ _ _ _) _ _ _;unfold getattributeRaised hookOrError attributeErrorLeaves
 repeat (any_goals (first|assumption|wp_step))
 all_goals first|exact h _ _ hx'.keeps|trace_state
def Cr(h:Heap)(u:Value)(kv:fC×Value):Prop:=∃t ku,u=.ref t/\h.IsTuple t #[ku,kv.2]/\dH kv.1 ku=true
theorem Bw{κ:Type}[DecidableEq κ](kvs:List (κ×Value))(k:κ)(v:Value):(stored kvs k v).length<=kvs.length+1:=by
 unfold stored;split
 ·rw[aj];omega
 ·rw[aK,List.length_singleton];exact aA _
theorem Fm{R:Result->Shared->Prop}(hh:A.handled=none){D it l:Addr}{items:Array Value}{ps:List (fC×Value)}(hDi:D≠it)(hli:l≠it)(hlD:l≠D)(hps:ps.length=items.size):
  ∀(n i:Nat) (s:Shared) (acc:List (fC×Value)),items.size-i=n->i<=items.size->acc.length+(items.size-i)<=ai->s.heap.IsListIter it l i->s.heap.IsList l items->s.heap.DictOf (cB prog w) D acc ->
   (∀(j:Nat) (u:Value) (kv:fC×Value),items[j]?=some u->ps[j]?=some kv->Cr s.heap u kv) ->
   (∀h' tk,h'.DictOf (cB prog w) D (merged acc (ps.drop i))->(∀b o,b≠D->b≠it->s.heap.get? b=some o->h'.get? b=some o)->R (.ok (.ret .none)) { s with heap:=h',toks:=tk }) ->
   zzl79 (model prog w) A (.builtin "dict.update.loop" ⟨[.ref D,.ref it,rawInt i,.none],[]⟩) R s:=by
 intro n
 induction n with
 |zero =>
  intro i s acc hn hi hz hit hl hD hp hR;have e:i=items.size:=by omega
  subst e;refine codeAny_builtin mx ?_;rw[Around.under_plainId gv _];show wpAny _ A.in1 (pyNext (.ref it) >>= _) _ _ s;refine ak (wpAny_pyNext_list_end hh hit hl (by simp) fun h' eb=>?_);show wpAny _ _ (cb.Dict.addKeywords D [] >>= _) _ _ _;refine ak (aD (aD ?_));have hD':h'.DictOf (cB prog w) D acc:=hD.extBut eb hDi;have q:=hR h' s.toks (by rw[qy (by omega)];exact hD') fun b o _ hb e=>eb b o hb e;exact q
 |succ n ih =>
  intro i s acc hn hi hz hit hl hD hp hR;have hlt:i<items.size:=by omega
  refine codeAny_builtin mx ?_;rw[Around.under_plainId gv _];show wpAny _ A.in1 (pyNext (.ref it) >>= _) _ _ s;have hu:items[i]?=some items[i]:=by simp[hlt]
  have hk:ps[i]?=some ps[i]:=b9 (by omega);obtain⟨t,ku,eu,ht,hku⟩:=hp i _ _ hu hk;refine ak (wpAny_pyNext_list_item hit hl (x:=items[i]) hu fun h1 hit1 hs1=>?_);rw[eu];have hs1':fZ it s.heap h1:=hs1;have nt:t≠it:=by
   rintro rfl;obtain⟨o,ho,hc,_⟩:=ht;obtain⟨o',ho',hc',_⟩:=hit;rw[ho]at ho';cases ho';rw[hc]at hc';simp at hc'
  have ht1:h1.IsTuple t #[ku,ps[i].2]:=ht.extBut hs1'.extBut nt;have hT1:Shared.TypeIs { s with heap:=h1 } (.ref t) "tuple":=ht1.typeIs (s:={ s with heap:=h1 });obtain⟨ot,got,hct,nt',hdt⟩:=id ht1;refine ak (lq ?_);refine ak (wpAny_tryCatch ?_);unfold cb.Dict.pairItems;refine ak (wpAny_typeOf hT1 ?_);rw[if_pos (by decide)];refine ak (nE got hdt (aD ?_));show wpAny _ _ (lJ [ku,ps[i].2] (dictSet D ku ps[i].2)) _ _ _;have hD1:h1.DictOf (cB prog w) D acc:=hD.extBut hs1'.extBut hDi;refine lq (wpAny_dictSet_pairs (knd:=cB prog w) (k:=ps[i].1) hku hD1 (fun h2 hD2 hs2=>?_) (by omega));have hs2':fZ D h1 h2:=hs2;show wpAny _ _ (again _) _ _ _;refine aD ⟨plainId_quiet gv _,?_⟩;have hl1:h1.IsList l items:=hl.extBut hs1'.extBut hli;have kp:∀b o,b≠D->b≠it->s.heap.get? b=some o->h2.get? b=some o:=fun b o h1 h2 e=>hs2'.extBut b o h1 (hs1'.extBut b o h2 e);refine ih (i+1) _ (stored acc ps[i].1 ps[i].2) (by omega) hlt (by have:=Bw acc ps[i].1 ps[i].2;omega) (hit1.extBut hs2'.extBut (dE hDi)) (hl1.extBut hs2'.extBut hlD) hD2 (fun j u kv h1 h2=>?_) fun h' tk hD' kp'=>?_
  ·obtain⟨t2,ku2,e2,ht2,hk2⟩:=hp j u kv h1 h2;have n1:t2≠it:=by
    rintro rfl;obtain⟨o,ho,hc,_⟩:=ht2;obtain⟨o',ho',hc',_⟩:=hit;rw[ho]at ho';cases ho';rw[hc]at hc';simp at hc'
   have n2:t2≠D:=by
    rintro rfl;obtain⟨o,ho,hc,_⟩:=ht2;obtain⟨o',_,_,ho',hc',_⟩:=hD;rw[ho]at ho';cases ho';have:=hc'.1;rw[hc]at this;simp at this
   obtain⟨o,ho,r⟩:=ht2;exact⟨t2,ku2,e2,⟨o,kp _ o n2 n1 ho,r⟩,hk2⟩
  ·refine hR h' tk ?_ fun b o h1 h2 e=>kp' b o h1 h2 (kp b o h1 h2 e);have ed:ps.drop i=ps[i]::ps.drop (i+1):=List.drop_eq_getElem_cons (by omega);rw[ed];exact hD'
theorem sB{l:Addr}{o:Obj}{items:Array Value}{n:Nat}{ps:List (fC×Value)}{Q:Zc}(hh:A.handled=none)(ho:s.heap.get? l=some o)(hc:o.cls=.type "list")(hdt:o.data=.seq items n)(hod:o.dict=none)
  (hps:ps.length=items.size) (hp:∀(j:Nat) (u:Value) (kv:fC×Value),items[j]?=some u->ps[j]?=some kv->Cr s.heap u kv) (hz:items.size<=ai)
  (h:∀h' tk,h'.DictOf (cB prog w) s.heap.objs.size (merged [] ps)->(∀b o,s.heap.get? b=some o->h'.get? b=some o)->Q (.ref s.heap.objs.size) { s with heap:=h',toks:=tk }) :
  wpAny (model prog w) A (call (.type "dict") [.ref l]) Q E s:=by
 refine callType_codes (Q₁:=fun obj s₁=>obj=.ref s.heap.objs.size/\s₁={ s with heap:=s.heap.push { cls:=.type "dict",data:=.dict #[] } }) F.kt_called_dict (F.kt_typeCall_dict_1 _) F.entry_dict_init (kt_code_dict_new _ ⟨rfl,rfl⟩) ?_;rintro obj s₁ ⟨rfl,rfl⟩;have hnew:(s.heap.push { cls:=.type "dict",data:=.dict #[] }).DictOf (cB prog w) s.heap.objs.size []:=Heap.DictOf.new s.heap;have ho1:(s.heap.push { cls:=.type "dict",data:=.dict #[] }).get? l=some o:=bx _ ho;have hlt:l<s.heap.objs.size:=ba ho;refine⟨hnew.typeIs,F.args_dict_init_2 _ _,?_⟩;unfold cb.«dict.__init__»;refine ak ?_;unfold cb.Dict.selfAndRest;refine ak (tq hnew.typeIs ?_);show wpAny _ _ (pure (s.heap.objs.size,[Value.ref l])) _ _ _;refine aD ?_;show wpAny _ _ (cb.Dict.updateFrom "dict.__init__" s.heap.objs.size (.ref l) [] .none) _ _ _;unfold cb.Dict.updateFrom;have hTl:Shared.TypeIs { s with heap:=s.heap.push { cls:=.type "dict",data:=.dict #[] } } (.ref l) "list":=⟨o,ho1,hc⟩;refine ak (wpAny_typeOf hTl ?_);rw[if_pos (by decide)];refine ak (Ey ho1 hc hdt hod hh fun h1 tk1 k1=>?_);have k1':∀b ob,(s.heap.push { cls:=.type "dict",data:=.dict #[] }).get? b=some ob->h1.get? b=some ob:=k1;rw[if_pos (by rfl:(none:Option Value).isNone=true)];refine ak (rQ ?_);have hl1:h1.IsList l items:=⟨o,k1' _ _ ho1,hc,n,hdt⟩;refine ak (zo (s:={ s with heap:=h1,toks:=tk1 }) hl1 ?_);have hD1:h1.DictOf (cB prog w) s.heap.objs.size []:=by
  obtain⟨od,es,ep,g,r⟩:=hnew;exact⟨od,es,ep,k1' _ _ g,r⟩
 have hDlt:s.heap.objs.size<h1.objs.size:=by
  obtain⟨od,es,ep,g,r⟩:=hD1;exact ba g
 refine aD ⟨plainId_quiet gv _,?_⟩;refine Fm (A:=A.in1) (prog:=prog) (w:=w) hh (D:=s.heap.objs.size) (it:=h1.objs.size) (l:=l) (items:=items) (ps:=ps) (cY hDlt) (cY (Nat.lt_trans hlt hDlt)) (cY hlt) hps items.size 0 _ [] (Nat.sub_zero _) (cX _) (by rw[xF];omega)
  ⟨_,cG _ rfl,rfl,rfl⟩ (hl1.push _) (hD1.push _) (fun j u kv a b=>?_) fun h' tk hD' kp=>?_
 ·obtain⟨t,ku,e,ht,hk⟩:=hp j u kv a b;obtain⟨ot,g,r⟩:=ht;exact⟨t,ku,e,⟨ot,bx _ (k1' _ _ (bx _ g)),r⟩,hk⟩
 ·rw[tu]at hD';refine⟨rfl,h h' tk hD' fun b ob e=>kp b ob (cY (ba e)) (cY (Nat.lt_trans (ba e) hDlt)) (bx _ (k1' _ _ (bx _ e)))⟩
end
section
variable{X:Cx}
theorem yS(hc:X.calm=true):fg X (.type "dict") (fun xs H Q=>∃(l:Addr) (ts:Ze) (kvs:List (fC×V)),xs=[.ref l]/\az X.K H l (ts.map V.ref)/\ts.length=kvs.length /\
  (∀(j:Nat) (t:Addr) (kv:fC×V),ts[j]?=some t->kvs[j]?=some kv->H t=some (.tup [kV kv.1,kv.2]))/\∀p,H p=none->Q (.ref p) (upd H p (.dK (jI [] kvs)))):=by
 intro J3 s σ H xs us Q I r h;obtain⟨l,ts,kvs,rfl,hl,hlen,ht,q⟩:=h;obtain⟨u,rfl,ru⟩:=vals1 r;cases ru;obtain⟨its,rv,⟨o,n,ho,hcl,hod,hdt⟩,hz⟩:=I.list hl;have key:∀(ts:Ze) (kvs:List (fC×V)),ts.length=kvs.length->(∀(j:Nat) (t:Addr) (kv:fC×V),ts[j]?=some t->kvs[j]?=some kv->H t=some (.tup [kV kv.1,kv.2]))->∃ps:List (fC×Value),KV kvs ps/\∀(j:Nat) (t:Addr) (kv:fC×Value),ts[j]?=some t->ps[j]?=some kv->Cr s.heap (.ref t) kv:=by
  intro ts
  induction ts with
  |nil =>
   intro kvs hl _;cases kvs with
   |nil=>exact⟨[],.nil,fun j t kv e=>by simp at e⟩
   |cons _ _=>cases hl
  |cons t ts ih =>
   intro kvs hl ht;cases kvs with
   |nil=>cases hl
   |cons kv kvs =>
    obtain⟨ps,r1,r2⟩:=ih kvs (by simpa using hl) fun j t' kv' a b=>ht (j+1) t' kv' (by simpa using a) (by simpa using b);obtain⟨_,itt,rt,p⟩:=(show bW X.prog X.w X.K H s.heap t (.tup [kV kv.1,kv.2])from I.hok t _ (ht 0 t kv rfl rfl));obtain⟨a,b,e,ra,rb⟩:=rt.two;subst e;refine⟨(kv.1,b)::ps,.cons ⟨rfl,rb⟩ r1,fun j t' kv' h1 h2=>?_⟩;cases j with
    |zero =>
     simp at h1 h2;subst h1 h2;exact⟨t,a,rfl,p,pW (P:=X.prog) (w:=X.w) ra⟩
    |succ j=>exact r2 j t' kv' (by simpa using h1) (by simpa using h2)
 obtain⟨ps,rel,pa⟩:=key ts kvs hlen ht;have hl1:=rv.length;rw[aj]at hl1;have hl2:=rel.length;refine sB (prog:=X.prog) (w:=X.w) (ps:=ps) (I.ok.hd hc) ho hcl hdt hod (by rw[bN];omega) (fun j u kv a b=>?_) (by rw[bN,<-hl1];rw[aj]at hz;exact hz) fun h' tk hD kp=>?_
 ·have a':its[j]?=some u:=by simpa using a
  have hj:j<ts.length:=by
   have:=(cu.mp a').1;omega
  obtain⟨u',e1,r1⟩:=rv.get (i:=j) (x:=V.ref ts[j]) (by simp[hj]);rw[a']at e1;cases e1;cases(show u=Value.ref ts[j]from r1);exact pa j ts[j] kv (by simp[hj]) b
 ·have hm:(jI [] kvs).length<=ai:=by
   have h1:=nJ kvs [];rw[xF]at h1;rw[aj]at hz;omega
  exact⟨.ref s.heap.objs.size,_,I.laid (o:=.dK (jI [] kvs)) kp (aA _) (GJ hm (beq_eq_false_iff_ne.mpr (dE (cY I.big))) (rel.merge .nil) hD),rfl,q _ I.fresh⟩
end
abbrev fE:R2:=Fe fun i j=>.int (i+j)
abbrev me:R2:=rI G4 fun i j=>.int (i * j)
abbrev jo:R2:=rI (fun _ j=>0<j) fun i j=>.int (i % j)
abbrev FS:R2:=rI Kk fun i j=>.int (i / j)
abbrev IK:R2:=rI Kj fun i j=>.int (i ^ j.toNat)
abbrev Ep:R2:=Fe fun i j=>.bl (decide (i<j))
abbrev rLeI:R2:=Fe fun i j=>.bl (decide (i<=j))
abbrev Er:R2:=Fe fun i j=>.bl (decide (j<i))
abbrev rGeI:R2:=Fe fun i j=>.bl (decide (j<=i))
abbrev IQ:R2:=fun x y H Q=>∃i j,x=.str i/\y=.str j/\i.length+j.length<=ai/\Q (.str (i++j)) H
abbrev rInS:R2:=fun x y H Q=>∃c j,x=.str ⟨#[c]⟩/\y=.str j/\Q (.bl (decide (c∈j.cps.toList))) H
abbrev BJ:R2:=fun x y H Q=>∃b,y=.bl b/\Q (.bl (decide (x=.bl b))) H
abbrev vV(K:Za):List V->Hp->VK->Prop:=fun xs H Q=>∃x c t b,xs=[x,.ty c]/\TyX K H x t/\CN K t (.type c)=some b/\Q (.bl b) H
abbrev HL(K:Za):List V->Hp->VK->Prop:=fun xs H Q=>∃(p:Addr) (bs:List Bool),xs=[.ref p]/\az K H p (bs.map V.bl)/\Q (.bl (bs.all id)) H
abbrev rAny(K:Za):List V->Hp->VK->Prop:=fun xs H Q=>∃(p:Addr) (bs:List Bool),xs=[.ref p]/\az K H p (bs.map V.bl)/\Q (.bl (bs.any id)) H
abbrev Af(K:Za):List V->Hp->VK->Prop:=fun xs H Q=>∃p ys,xs=[.ref p]/\((az K H p ys/\∀l,H l=none->Q (.ref l) (upd H l (.tup ys)))∨(br K H p ys/\Q (.ref p) H))
abbrev HK(K:Za):List V->Hp->VK->Prop:=fun xs H Q=>∃(l:Addr) (ts:Ze) (kvs:List (fC×V)),xs=[.ref l]/\az K H l (ts.map V.ref)/\ts.length=kvs.length /\
  (∀(j:Nat) (t:Addr) (kv:fC×V),ts[j]?=some t->kvs[j]?=some kv->H t=some (.tup [kV kv.1,kv.2]))/\∀p,H p=none->Q (.ref p) (upd H p (.dK (jI [] kvs)))
abbrev da(K:Za):List V->Hp->VK->Prop:=fun xs H Q =>
 (∃p ys,xs=[.ref p]/\(az K H p ys∨br K H p ys)/\∀l,H l=none->Q (.ref l) (upd H l (.lst ys))) ∨
 (∃(d:Addr) (kvs:List (fC×V)),xs=[.ref d]/\Rd H d (.dK kvs)/\∀l,H l=none->Q (.ref l) (upd H l (.lst (kvs.map fun kv=>kV kv.1))))
abbrev eG(K:Za):List V->Hp->VK->Prop:=fun xs H Q =>
 (∃p ys,xs=[.ref p]/\(az K H p ys∨br K H p ys)/\Q (.int ys.length) H)∨(∃z,xs=[.str z]/\z.length<=ai/\Q (.int z.length) H)
theorem fI:ji "isinstance"=some (.builtin "isinstance"):=by decide +kernel
theorem oK:ji "list"=some (.type "list"):=by decide +kernel
theorem gf:ji "tuple"=some (.type "tuple"):=by decide +kernel
theorem Cp:ji "dict"=some (.type "dict"):=by decide +kernel
theorem Cq:ji "bool"=some (.type "bool"):=by decide +kernel
theorem wR:ji "int"=some (.type "int"):=by decide +kernel
theorem EZ:ji "str"=some (.type "str"):=by decide +kernel
section
variable{X:Cx}{p pos:Pos}
theorem EX:fg X (.builtin "len") (eG X.K):=yR.or yQ
theorem Co(hc:X.calm=true):fg X (.type "list") (da X.K):=yP.or (u7 hc)
theorem uD:lI X (e_ .Is) BJ:=by
 intro J3 s σ H x y v u Q I rx ry h;obtain⟨b,rfl,q⟩:=h;cases(show u=Value.bool b from ry);have key:∀k:Bool,k=decide (x=.bl b)->EP X J3 σ Q (.bool k) s:=fun k e=>⟨.bl k,H,I,rfl,by rw[e];exact q⟩;cases x with
 |non=>cases(show v=Value.none from rx);exact aD (key _ rfl)
 |bl a =>
  cases(show v=Value.bool a from rx);refine aD (key _ ?_);cases a<;>cases b<;>rfl
 |int i=>obtain⟨t,rfl⟩:=rx;exact aD (key _ rfl)
 |str i=>obtain⟨t,rfl⟩:=rx;exact aD (key _ rfl)
 |byt i=>obtain⟨t,rfl⟩:=rx;exact aD (key _ rfl)
 |flt i=>obtain⟨t,rfl⟩:=rx;exact aD (key _ rfl)
 |ref a=>cases(show v=Value.ref a from rx);exact aD (key _ rfl)
 |ty n=>cases(show v=Value.type n from rx);exact aD (key _ rfl)
theorem BL(hg:Gl X "bool")(hm:X.mg "bool"=none):PE X (.Name "bool" pos) (tC (.ty "bool")):=pQ hg hm Cq rfl
theorem wt(hg:Gl X "int")(hm:X.mg "int"=none):PE X (.Name "int" pos) (tC (.ty "int")):=pQ hg hm wR rfl
theorem wr(hg:Gl X "str")(hm:X.mg "str"=none):PE X (.Name "str" pos) (tC (.ty "str")):=pQ hg hm EZ rfl
theorem uy(hg:Gl X "list")(hm:X.mg "list"=none):PE X (.Name "list" pos) (tC (.ty "list")):=pQ hg hm oK rfl
theorem mj(hg:Gl X "tuple")(hm:X.mg "tuple"=none):PE X (.Name "tuple" pos) (tC (.ty "tuple")):=pQ hg hm gf rfl
end
def Gc(mg:Str->Option Value)(x:Str)(v:V):Prop:=∃u,mg x=some u/\RelV v u
theorem j7{pos:Pos}(hg:Gl X x)(h:Gc X.mg x v)(hd:(x==("__debug__":Str))=false:=by decide):PE X (.Name x pos) (tC v):=by
 obtain⟨u,hm,r⟩:=h;exact HR hg hm r hd
structure Def(P:cg)(w:World)(K:Za)(mg:Str->Option Value)(base:Heap)(x:Str)(ps:Zb)(k:Nat)(sp:Sp):Prop where
 ex:∃f fd,mG P w K mg base CX0 k f fd ps sp/\mg x=some (.ref f)/\iP K (.ref f)=true/\Binds K fd ps []
structure Kx(P:cg)(w:World)(K:Za)(mg:Str->Option Value)(base:Heap)(x:Str)(C:Addr)(ps:Zb)(k:Nat)(sp:Sp):Prop where
 ex:∃f fd,mG P w K mg base CX0 k f fd ps sp/\mg x=some (.ref C)/\Mk K C f/\Binds K fd ps []
structure DN(P:cg)(w:World)(K:Za)(mg:Str->Option Value)(base:Heap)(C:Addr)(m:Str)(ps:Zb)(k:Nat)(sp:Sp):Prop where
 ex:∃f fd,mG P w K mg base CX0 k f fd ps sp/\DP K C/\IC K C m f/\Binds K fd ps []
section
variable{X:Cx}{k:Nat}{ps:Zb}{sp:Sp}{x m:Str}{C:Addr}{p pos J5:Pos}{o e:Expr}{es:List Expr}{t:TA}{ta:TE}
theorem IR(D:Def X.prog X.w X.K X.mg X.base x ps k sp)(hr:eZ k X.A)(hg:Gl X x)(ha:PA X (e::es) t)(hdb:(x==("__debug__":Str))=false:=by decide)
  (he:aN (e::es) X.env=(false,eval e X.env)::aN es X.env:=by rfl) (hpl:(backTo pos (aN es X.env)).any (·.1)=false:=by rfl) :
  PE X (.Call (.Name x p) (e::es) [] pos) (aM sp t):=by
 obtain⟨f,fd,F,hm,hk,hb⟩:=D.ex;exact HU F hr hg hm hk hb .nil Di ha hdb he hpl
theorem BM(D:Kx X.prog X.w X.K X.mg X.base x C ps k sp)(hr:eZ (k+1) X.A)(hg:Gl X x)(ha:PA X (e::es) t)(hdb:(x==("__debug__":Str))=false:=by decide)
  (he:aN (e::es) X.env=(false,eval e X.env)::aN es X.env:=by rfl) (hpl:(backTo pos (aN es X.env)).any (·.1)=false:=by rfl) :
  PE X (.Call (.Name x p) (e::es) [] pos) (zI C sp [] E0 t):=by
 obtain⟨f,fd,F,hm,M,hb⟩:=D.ex;exact HQ M F hr hg hm hb .nil Di ha hdb he hpl
theorem Jn(M:DN X.prog X.w X.K X.mg X.base C m ps k sp)(hr:eZ k X.A)(he:PE X o ta)(ha:PA X (e::es) t)
  (hst:aN (e::es) X.env=(false,eval e X.env)::aN es X.env:=by rfl) (hpl:(backTo pos (aN es X.env)).any (·.1)=false:=by rfl)
  (ht:eval (.Call (.Attribute o m J5) (e::es) [] pos) X.env=(do
   let ov <- eval o X.env
   rM J5.atName
   let(f,first) <- lJ [ov] (rJ ov m pl)
   v_ pos f first (backTo pos (aN (e::es) X.env)) (o9 pos (o8 [] X.env))):=by rfl) :
  PE X (.Call (.Attribute o m J5) (e::es) [] pos) (cZ C m sp [] E0 ta t):=by
 obtain⟨f,fd,F,c,hm,hb⟩:=M.ex;exact HP he c hm F hr hb .nil Di ha hst hpl ht
theorem HN(M:DN X.prog X.w X.K X.mg X.base C m ps k sp)(hr:eZ k X.A)(he:PE X o ta)
  (ht:eval (.Call (.Attribute o m J5) [] [] pos) X.env=(do
   let ov <- eval o X.env
   rM J5.atName
   let(f,first) <- lJ [ov] (rJ ov m pl)
   v_ pos f first (backTo pos (aN [] X.env)) (o9 pos (o8 [] X.env))):=by rfl) :
  PE X (.Call (.Attribute o m J5) [] [] pos) (cZ C m sp [] E0 ta bh):=by
 obtain⟨f,fd,F,c,hm,hb⟩:=M.ex;exact FX he c hm F hr hb .nil Di ht
end
def JX(K:Za)(tl:TE):TI:=fun σ H R=>tl σ H fun x H1=>∃a,x=.ref a/\(((∃xs,az K H1 a xs)/\R (G7 K a) H1)∨((∃xs,br K H1 a xs)/\R (JC K a) H1))
theorem Jk(hl:PE X l tl):PI X tg l (JX X.K tl):=by
 intro J3 s σ H R I h;refine cI (hl J3 s σ H _ I h) fun v s1 ⟨x,H1,I1,r1,q1⟩=>?_;obtain⟨a,e,q⟩:=q1;subst e;cases r1;have fin:∀b∈[s1.heap.objs.size],oW X J3 H1 b:=fun b hb=>by
  have e:b=s1.heap.objs.size:=by simpa using hb
  subst e;exact I1.fpOk (aA _) (I1.hok.fresh (aA _))
 rcases q with⟨⟨xs,hq⟩,q⟩|⟨⟨xs,hq⟩,q⟩
 ·obtain⟨its,rv,p,hz⟩:=I1.list hq;refine zo p.isList ?_;exact⟨s1.heap.objs.size,[s1.heap.objs.size],_,_,H1,rfl,I1.kept (t':=s1.toks) fun b o e=>bx _ e,wf a _,⟨_,cG _ rfl,rfl,rfl⟩,fin,q⟩
 ·obtain⟨its,rv,p,hz⟩:=I1.tuple hq;refine CS p ?_;exact⟨s1.heap.objs.size,[s1.heap.objs.size],_,_,H1,rfl,I1.kept (t':=s1.toks) fun b o e=>bx _ e,tP a _,⟨_,cG _ rfl,rfl,rfl⟩,fin,q⟩
theorem mw{K:Za}{xs:List V}{g:TG}{tb:TS}{D:mI}{σ:St}{H:Hp}(Pv:Nat->St->Hp->Prop)(h0:Pv 0 σ H)(hl:∀i σ H,i<=xs.length->Pv i σ H->az K H a xs)
  (hs:∀i x σ H p,xs[i]?=some x->Pv i σ H->H p=none->g (.ref p) σ (upd H p (.tup [.int i,x])) fun σ2 H2=>tb { D with nx:=Pv (i+1),ct:=Pv (i+1),bk:=D.nx } σ2 H2) (hd:∀σ H,Pv xs.length σ H->D.nx σ H) :
  ∃W:Nat->Nat->St->Hp->Prop,(∃m,W 0 m σ H)/\∀i m σ H,W i m σ H ->
   ((Kd K a).stop i H/\D.nx σ H)∨((Kd K a).go i H/\∃N:St->Hp->Prop,(∀σ' H',N σ' H'->∃m',m'<m/\W (i+1) m' σ' H')/\∀x H',(Kd K a).yld i H x H'->g x σ H' fun σ2 H2=>tb { D with nx:=N,ct:=N,bk:=D.nx } σ2 H2):=by
 refine⟨fun i m σ H=>m=xs.length-i/\i<=xs.length/\Pv i σ H,⟨xs.length,by simp,cX _,h0⟩,?_⟩;rintro i m σ H ⟨rfl,hi,p⟩;have q:=hl i σ H hi p;by_cases hlt:i<xs.length
 ·refine .inr ⟨⟨xs,xs[i],q,by simp[hlt]⟩,Pv (i+1),fun σ' H' p'=>⟨xs.length-(i+1),by omega,rfl,hlt,p'⟩,fun x H' y=>?_⟩;obtain⟨t,v,rfl,hn,hv,rfl⟩:=y;exact hs i v σ H t (hv xs q) p hn
 ·have e:i=xs.length:=by omega
  subst e;exact .inl ⟨⟨xs,q,aA _⟩,hd σ H p⟩
def Wc(n:Nat)(Pv:Nat->List V->Hp->Prop):Nat->Nat->List V->Hp->Prop:=fun i m vs H=>m=n-i/\i<=n/\Pv i vs H
theorem nA{n i:Nat}{Pv:Nat->List V->Hp->Prop}{vs:List V}{H:Hp}(hi:i<n)(p:Pv (i+1) vs H):∃m',m'<n-i/\Wc n Pv (i+1) m' vs H:=⟨n-(i+1),by omega,rfl,hi,p⟩
abbrev gG(k:Nat)(fi:List Nat)(σ:St)(J:It)(g:TG)(tc:TT)(te:TE)(H1:Hp)(l:Addr)(Q:Hp->Prop):Prop :=
 ∃W:Nat->Nat->List V->Hp->Prop,(∃m,W 0 m [] (upd H1 l (.lst [])))/\∀i m vs H2,W i m vs H2->H2 l=some (.lst vs) /\
  ((J.stop i H2/\Q H2)∨(J.go i H2/\∀x H3,J.yld i H2 x H3->g x (dY k fi σ) H3 fun σ2 H4=>tc σ2 H4 fun b H5 =>
   if b=true then te σ2 H5 fun v H6=>H6 l=some (.lst vs)/\vs.length<ai/\∃m',m'<m/\W (i+1) m' (vs++[v]) (upd H6 l (.lst (vs++[v])))else ∃m',m'<m/\W (i+1) m' vs H5))
theorem mz{J:It}{g:TG}{tc:TT}{H1:Hp}{Q:Hp->Prop}{l:Addr}(n:Nat)(Pv:Nat->List V->Hp->Prop)(h0:Pv 0 [] (upd H1 l (.lst [])))
  (hl:∀i vs H,i<=n->Pv i vs H->H l=some (.lst vs)) (hgo:∀i vs H,i<n->Pv i vs H->J.go i H) (hst:∀vs H,Pv n vs H->J.stop n H/\Q H)
  (hs:∀i vs H x H3,i<n->Pv i vs H->J.yld i H x H3->g x (dY k fi σ) H3 fun σ2 H4=>tc σ2 H4 fun b H5 =>
   if b=true then te σ2 H5 fun v H6=>H6 l=some (.lst vs)/\vs.length<ai/\∃m',m'<n-i/\Wc n Pv (i+1) m' (vs++[v]) (upd H6 l (.lst (vs++[v])))else ∃m',m'<n-i/\Wc n Pv (i+1) m' vs H5) :
  gG k fi σ J g tc te H1 l Q:=by
 refine⟨Wc n Pv,⟨n,by simp[Wc],cX _,h0⟩,?_⟩;rintro i m vs H ⟨rfl,hi,p⟩;refine⟨hl i vs H hi p,?_⟩;by_cases hlt:i<n
 ·exact .inr ⟨hgo i vs H hlt p,fun x H3 y=>hs i vs H x H3 hlt p y⟩
 ·have e:i=n:=by omega
  subst e;exact .inl (hst vs H p)
section
variable{K:Za}{k:Nat}{fi:List Nat}{g:TG}{tc:TT}{te:TE}{σ:St}{H1:Hp}{Q:Hp->Prop}{l:Addr}
theorem bZ{xs:List V}(Pv:Nat->List V->Hp->Prop)(h0:Pv 0 [] (upd H1 l (.lst [])))
  (hl:∀i vs H,i<=xs.length->Pv i vs H->H l=some (.lst vs)/\az K H a xs) (hd:∀vs H,Pv xs.length vs H->Q H)
  (hs:∀i vs H x,xs[i]?=some x->i<xs.length->Pv i vs H->g x (dY k fi σ) H fun σ2 H4=>tc σ2 H4 fun b H5 =>
   if b=true then te σ2 H5 fun v H6=>H6 l=some (.lst vs)/\vs.length<ai/\∃m',m'<xs.length-i/\Wc xs.length Pv (i+1) m' (vs++[v]) (upd H6 l (.lst (vs++[v])))else ∃m',m'<xs.length-i/\Wc xs.length Pv (i+1) m' vs H5) :
  gG k fi σ (G7 K a) g tc te H1 l Q:=by
 refine mz xs.length Pv h0 (fun i vs H hi p=>(hl i vs H hi p).1) (fun i vs H hi p=>⟨xs,xs[i],(hl i vs H (fb hi) p).2,by simp[hi]⟩) (fun vs H p=>⟨⟨xs,(hl _ vs H (aA _) p).2,aA _⟩,hd vs H p⟩) fun i vs H x H3 hi p y=>?_;obtain⟨rfl,y⟩:=y;exact hs i vs _ x (y xs (hl i vs _ (fb hi) p).2) hi p
theorem AL{xs:List V}(Pv:Nat->List V->Hp->Prop)(h0:Pv 0 [] (upd H1 l (.lst [])))
  (hl:∀i vs H,i<=xs.length->Pv i vs H->H l=some (.lst vs)/\br K H a xs) (hd:∀vs H,Pv xs.length vs H->Q H)
  (hs:∀i vs H x,xs[i]?=some x->i<xs.length->Pv i vs H->g x (dY k fi σ) H fun σ2 H4=>tc σ2 H4 fun b H5 =>
   if b=true then te σ2 H5 fun v H6=>H6 l=some (.lst vs)/\vs.length<ai/\∃m',m'<xs.length-i/\Wc xs.length Pv (i+1) m' (vs++[v]) (upd H6 l (.lst (vs++[v])))else ∃m',m'<xs.length-i/\Wc xs.length Pv (i+1) m' vs H5) :
  gG k fi σ (JC K a) g tc te H1 l Q:=by
 refine mz xs.length Pv h0 (fun i vs H hi p=>(hl i vs H hi p).1) (fun i vs H hi p=>⟨xs,xs[i],(hl i vs H (fb hi) p).2,by simp[hi]⟩) (fun vs H p=>⟨⟨xs,(hl _ vs H (aA _) p).2,aA _⟩,hd vs H p⟩) fun i vs H x H3 hi p y=>?_;obtain⟨rfl,y⟩:=y;exact hs i vs _ x (y xs (hl i vs _ (fb hi) p).2) hi p
theorem Cj{lo:Int}{n:Nat}(Pv:Nat->List V->Hp->Prop)(h0:Pv 0 [] (upd H1 l (.lst [])))
  (hl:∀i vs H,i<=n->Pv i vs H->H l=some (.lst vs)) (hd:∀vs H,Pv n vs H->Q H)
  (hs:∀i vs H,i<n->Pv i vs H->g (.int (lo+i)) (dY k fi σ) H fun σ2 H4=>tc σ2 H4 fun b H5 =>
   if b=true then te σ2 H5 fun v H6=>H6 l=some (.lst vs)/\vs.length<ai/\∃m',m'<n-i/\Wc n Pv (i+1) m' (vs++[v]) (upd H6 l (.lst (vs++[v])))else ∃m',m'<n-i/\Wc n Pv (i+1) m' vs H5) :
  gG k fi σ (JD lo n) g tc te H1 l Q:=by
 refine mz n Pv h0 hl (fun i vs H hi p=>hi) (fun vs H p=>⟨aA _,hd vs H p⟩) fun i vs H x H3 hi p y=>?_;obtain⟨rfl,rfl⟩:=y;exact hs i vs _ hi p
theorem GR{x:Str}(Pv:Nat->List V->Hp->Prop)(h0:Pv 0 [] (upd H1 l (.lst [])))
  (hl:∀i vs H,i<=x.cps.size->Pv i vs H->H l=some (.lst vs)) (hd:∀vs H,Pv x.cps.size vs H->Q H)
  (hs:∀i vs H c,x.cps[i]?=some c->i<x.cps.size->Pv i vs H->g (.str ⟨#[c]⟩) (dY k fi σ) H fun σ2 H4=>tc σ2 H4 fun b H5 =>
   if b=true then te σ2 H5 fun v H6=>H6 l=some (.lst vs)/\vs.length<ai/\∃m',m'<x.cps.size-i/\Wc x.cps.size Pv (i+1) m' (vs++[v]) (upd H6 l (.lst (vs++[v])))else ∃m',m'<x.cps.size-i/\Wc x.cps.size Pv (i+1) m' vs H5) :
  gG k fi σ (KC x) g tc te H1 l Q:=by
 refine mz x.cps.size Pv h0 hl (fun i vs H hi p=>hi) (fun vs H p=>⟨aA _,hd vs H p⟩) fun i vs H y H3 hi p yl=>?_;obtain⟨rfl,c,hc,rfl⟩:=yl;exact hs i vs _ c hc hi p
end
theorem gN{j:Nat}{x:V}{σ:St}{H:Hp}{Q:St->Hp->Prop}(h:Q (σ.set j (some x)) H):eE j x σ H Q:=h
theorem se{σ:St}{H:Hp}{A B:Hp->Prop}(h:A H):kG σ H (fun b H5=>if b=true then A H5 else B H5):=by
 show(if(true:Bool)=true then A H else B H)
 exact h
theorem wv{α β:Type}{F:α->β->Prop}:∀{l₁:List α}{l₂:List β},Paired F l₁ l₂->∀{i:Nat}{a:α}{b:β},l₁[i]?=some a->l₂[i]?=some b->F a b
 |_,_,.nil,_,_,_,h,_=>by simp at h
 |_,_,.cons r t,0,_,_,h,h'=>by simp at h h';subst h h';exact r
 |_,_,.cons r t,i+1,_,_,h,h'=>by simp at h h';exact wv t h h'
end L2
namespace L2
open PySem PySem.W
def jF(K:Za)(td ty tv:TE):TS:=fun D σ H=>tv σ H fun v H1=>td σ H1 fun x H2=>ty σ H2 fun y H3 =>
 ∃(a b:Addr) (kvs:List (TK×V)) (k:TK),x=.ref a/\y=.ref b/\H3 a=some (.dT kvs)/\jR K H3 k (.ref b)/\k.depth<=8/\kvs.length<ai/\D.nx σ (upd H3 a (.dT (cM kvs k v)))
section
variable{X:Cx}{o i value:Expr}{pos pos':Pos}{td ty tv:TE}
theorem ig(hu:X.A.units+16<cLine)(ho:PE X o td)(hi:PE X i ty)(hv:PE X value tv)(hs:rL value (some (.Subscript o i pos')) pos.line X.env=pure false):
  PS X (.Assign [.Subscript o i pos'] value pos) (jF X.K td ty tv):=by
 intro J3 s σ H D I h;refine wpAny_Assign_Subscript (cI (hv J3 s σ H _ I h) fun r s1 ⟨v,H1,I1,rv,q1⟩=>cI (ho J3 s1 σ H1 _ I1 q1) fun u s2 ⟨x,H2,I2,rx,q2⟩=>cI (hi J3 s2 σ H2 _ I2 q2) fun iv s3 ⟨y,H3,I3,ry,a,b,kvs,k,ex,ey,e,eb,e8,l,q3⟩=>?_) hs;subst ex;subst ey;obtain rfl:u=Value.ref a:=rx;exact Cg hu I3 e eb e8 l ry rv fun s4 I4=>⟨σ,_,I4,q3⟩
end
theorem wk{K:Za}:∀xs:List Str,TKCs K H (xs.map fun x=>TK.k (some (.inr x))) (xs.map V.str)
 |[]=>by show TKCs K H [] [];unfold TKCs;rfl
 |x::xs=>by
  rw[bI,bI];unfold TKCs;refine⟨_,_,rfl,?_,wk xs⟩;unfold jR
  rfl
theorem pe{K:Za}{xs:Zb}(h:aS K H a (xs.map V.str)):jR K H (.t (xs.map fun x=>TK.k (some (.inr x)))) (.ref a):=by
 unfold jR;exact⟨a,_,rfl,h,wk xs⟩
end L2
end

section
set_option Elab.async false
set_option linter.all false
set_option maxRecDepth 100000
namespace L2
open PySem PySem.Spec PyProof.Rows PySem.W
def IF:Expr->List Str
 |.Name x _=>[x]
 |.Tuple es _ _=>es.filterMap fun e=>match e with | .Name x _=>some x|_=>none
 |_=>[]
theorem bK{t:TS}{D:mI}{σ:St}{H:Hp}(r:t D σ H)(p:A_ X b t):∃t,A_ X b t/\t D σ H:=⟨t,p,r⟩
section
variable{X:Cx}{k k0:Nat}{ps:Zb}{sp:Sp}{x m:Str}{C:Addr}{p pos J5:Pos}{o e a b:Expr}{es:List Expr}{t:TA}{ta tb te:TE}
theorem qf(hr:eZ k0 X.A)(D:Def X.prog X.w X.K X.mg X.base x ps k sp)(ha:PA X (e::es) t)(hk:k<=k0:=by decide)(hg:Gl X x:=by rfl)(hdb:(x==("__debug__":Str))=false:=by decide)
  (he:aN (e::es) X.env=(false,eval e X.env)::aN es X.env:=by rfl) (hpl:(backTo pos (aN es X.env)).any (·.1)=false:=by rfl) :
  PE X (.Call (.Name x p) (e::es) [] pos) (aM sp t):=IR D (hr.mono hk) hg ha hdb he hpl
theorem qm(hr:eZ k0 X.A)(M:DN X.prog X.w X.K X.mg X.base C m ps k sp)(he:PE X o ta)(ha:PA X (e::es) t)(hk:k<=k0:=by decide)
  (hst:aN (e::es) X.env=(false,eval e X.env)::aN es X.env:=by rfl) (hpl:(backTo pos (aN es X.env)).any (·.1)=false:=by rfl)
  (ht:eval (.Call (.Attribute o m J5) (e::es) [] pos) X.env=(do
   let ov <- eval o X.env
   rM J5.atName
   let(f,first) <- lJ [ov] (rJ ov m pl)
   v_ pos f first (backTo pos (aN (e::es) X.env)) (o9 pos (o8 [] X.env))):=by rfl) :
  PE X (.Call (.Attribute o m J5) (e::es) [] pos) (cZ C m sp [] E0 ta t):=Jn (pl:=pl) M (hr.mono hk) he ha hst hpl ht
theorem Db(hr:eZ k0 X.A)(M:DN X.prog X.w X.K X.mg X.base C m ps k sp)(he:PE X o ta)(hk:k<=k0:=by decide)
  (ht:eval (.Call (.Attribute o m J5) [] [] pos) X.env=(do
   let ov <- eval o X.env
   rM J5.atName
   let(f,first) <- lJ [ov] (rJ ov m pl)
   v_ pos f first (backTo pos (aN [] X.env)) (o9 pos (o8 [] X.env))):=by rfl) :
  PE X (.Call (.Attribute o m J5) [] [] pos) (cZ C m sp [] E0 ta bh):=HN (pl:=pl) M (hr.mono hk) he ht
theorem xl(ha:PE X a ta)(hb:PE X b tb)(hs:Fa b:=by exact fun _ _=>rfl):PE X (.Subscript a b pos) (aI (cV X.K) ta tb):=Df Du ha hb hs
theorem xt(ha:PE X a ta)(hb:PE X b tb)(hs:Fa b:=by exact fun _ _=>rfl):PE X (.Subscript a b pos) (aI (lD X.K) ta tb):=Df Gr ha hb hs
theorem xq(ha:PE X a ta)(hb:PE X b tb)(hs:Fa b:=by exact fun _ _=>rfl):PE X (.Subscript a b pos) (aI (oA X.K) ta tb):=Df Jr ha hb hs
theorem xs'(ha:PE X a ta)(hb:PE X b tb)(hs:Fa b:=by exact fun _ _=>rfl):PE X (.Subscript a b pos) (aI FR ta tb):=Df Gs ha hb hs
theorem ip(ho:lI X (e_ op) r)(ha:PE X a ta)(hb:PE X b tb)(hm:lp op b=false:=by exact Gd _):PT X (.Compare a [op] [b] pos) (aQ (aI r ta tb)):=Dc ho ha hb hm
theorem Dx(ho:lI X (e_ op) r)(ha:PE X a ta)(hb:PE X b tb)(hm:lp op b=false:=by exact Gd _):PE X (.Compare a [op] [b] pos) (aI r ta tb):=Dg ho ha hb hm
theorem Hf(ho:lI X (e_ op) r)(ha:PE X a ta)(hb:PE X b tb)(hm:lp op b=false:=by with_unfolding_all rfl):PT X (.Compare a [op] [b] pos) (aQ (aI r ta tb)):=Dc ho ha hb hm
theorem eci(ho:lI X (e_ op) r)(ha:PE X a ta)(hb:PE X b tb)(hm:lp op b=false:=by with_unfolding_all rfl):PE X (.Compare a [op] [b] pos) (aI r ta tb):=Dg ho ha hb hm
theorem qB{id:String}(hc:fg X (.builtin id) r)(hm:X.mg x=none)(hv:ji x=some (.builtin id))(ha:PA X (e::es) t)(hg:Gl X x:=by rfl)(hn:x≠"__name__":=by decide)(hdb:(x==("__debug__":Str))=false:=by decide)
  (he:aN (e::es) X.env=(false,eval e X.env)::aN es X.env:=by rfl) (hpl:(backTo pos (aN es X.env)).any (·.1)=false:=by rfl):PE X (.Call (.Name x p) (e::es) [] pos) (dB r t):=Ak hc hg hm hv ha hn hdb he hpl
theorem qL(hc:X.calm=true)(hm:X.mg "list"=none)(ha:PA X (e::es) t)(hg:Gl X "list":=by rfl)
  (he:aN (e::es) X.env=(false,eval e X.env)::aN es X.env:=by rfl) (hpl:(backTo pos (aN es X.env)).any (·.1)=false:=by rfl):PE X (.Call (.Name "list" p) (e::es) [] pos) (dB (da X.K) t):=eW (Co hc) hg hm oK ha (by decide) (by decide) he hpl
theorem ql(hm:X.mg "len"=none)(ha:PA X (e::es) t)(hg:Gl X "len":=by rfl)
  (he:aN (e::es) X.env=(false,eval e X.env)::aN es X.env:=by rfl) (hpl:(backTo pos (aN es X.env)).any (·.1)=false:=by rfl):PE X (.Call (.Name "len" p) (e::es) [] pos) (dB (eG X.K) t):=Ak EX hg hm xn ha (by decide) (by decide) he hpl
theorem qs(i:Nat){pos':Pos}(hN:X.N.Nodup)(he:PE X e te)(hi:X.N[i]?=some x:=by rfl)(hx:Loc X.env.scope x:=by first|exact Or.inl rfl|exact Or.inr rfl)(hs:rL e (some (.Name x pos')) pos.line X.env=pure false:=by rfl)(hf:X.fn x=true∨X.env.scope.names.lookup x=some .local:=by first|exact .inl rfl|exact .inr rfl|assumption):
  PS X (.Assign [.Name x pos'] e pos) (aP te (eE i)):=Jh hN hi hx he hs hf
theorem gn(i:Nat)(hN:X.N.Nodup)(hi:X.N[i]?=some x:=by rfl)(hx:Loc X.env.scope x:=by first|exact Or.inl rfl|exact Or.inr rfl)(hf:X.fn x=true∨X.env.scope.names.lookup x=some .local:=by first|exact .inl rfl|exact .inr rfl|assumption):PG X (.Name x pos) (eE i):=De hN hi hx hf
theorem gc(i:Nat)(hN:X.N.Nodup:=by exact of_decide_eq_true (by with_unfolding_all rfl))(hi:X.N[i]?=some x:=by rfl)(hx:Loc X.env.scope x:=by exact Or.inl rfl)(hf:X.fn x=true∨X.env.scope.names.lookup x=some .local:=by first|exact .inl rfl|exact .inr rfl|assumption):PG X (.Name x pos) (eE i):=De hN hi hx hf
theorem a1(ha:PE X a ta)(hs:aN [a] X.env=(false,eval a X.env)::aN [] X.env:=by rfl):PA X [a] (au ta bh):=b0 ha cn hs
theorem a2(ha:PE X a ta)(hb:PE X b tb)(hs:aN [a,b] X.env=(false,eval a X.env)::aN [b] X.env:=by rfl)(hs2:aN [b] X.env=(false,eval b X.env)::aN [] X.env:=by rfl):PA X [a,b] (au ta (au tb bh)):=b0 ha (b0 hb cn hs2) hs
theorem a3(ha:PE X a ta)(hb:PE X b tb)(hc:PE X c tc)(hs:aN [a,b,c] X.env=(false,eval a X.env)::aN [b,c] X.env:=by rfl)(hs1:aN [b,c] X.env=(false,eval b X.env)::aN [c] X.env:=by rfl)(hs2:aN [c] X.env=(false,eval c X.env)::aN [] X.env:=by rfl):PA X [a,b,c] (au ta (au tb (au tc bh))):=b0 ha (a2 hb hc hs1 hs2) hs
variable{elt iter tg:Expr}{ifs:List Expr}{scope:Scope}{fi:List Nat}{wi:TI}{g:TG}{tc:TT}
theorem qc(hi:PI X tg iter wi)(ho:AU k g)
  (h:∀C cl s₀ H₀ ex pn,PG (dZ X (IF tg++fi.map fun i=>X.N.getD i "") scope C cl s₀ H₀ ex pn) tg g/\I_ (dZ X (IF tg++fi.map fun i=>X.N.getD i "") scope C cl s₀ H₀ ex pn) ifs tc/\PE (dZ X (IF tg++fi.map fun i=>X.N.getD i "") scope C cl s₀ H₀ ex pn) elt te)
  (hS:m_ X.env.scope scope k (IF tg++fi.map fun i=>X.N.getD i "") X.N fi=true:=by with_unfolding_all rfl) (hc:X.calm=true:=by rfl)
  (hs:∀x,zm iter X.env x=pure x:=by intro _;rfl):PE X (.ListComp elt [⟨tg,iter,ifs,0⟩] scope pos) (c6 k fi wi g tc te) :=
 HS hS hc hi (fun _ _ _ _ _ _=>(h _ _ _ _ _ _).1) ho (fun _ _ _ _ _ _=>(h _ _ _ _ _ _).2.1) (fun _ _ _ _ _ _=>(h _ _ _ _ _ _).2.2) hs
theorem qsc(j:Nat){y:Str}{spos py:Pos}(hN:X.N.Nodup)(hi:PI X tg iter wi)(ho:AU k g)
  (h:∀C cl s₀ H₀ ex pn,PG (dZ X (IF tg++fi.map fun i=>X.N.getD i "") scope C cl s₀ H₀ ex pn) tg g/\I_ (dZ X (IF tg++fi.map fun i=>X.N.getD i "") scope C cl s₀ H₀ ex pn) ifs tc/\PE (dZ X (IF tg++fi.map fun i=>X.N.getD i "") scope C cl s₀ H₀ ex pn) elt te)
  (hj:X.N[j]?=some y:=by rfl) (hy:Loc X.env.scope y:=by first|exact Or.inl rfl|exact Or.inr rfl)
  (hS:m_ X.env.scope scope k (IF tg++fi.map fun i=>X.N.getD i "") X.N fi=true:=by with_unfolding_all rfl) (hc:X.calm=true:=by rfl)
  (hsw:rL (.ListComp elt [⟨tg,iter,ifs,0⟩] scope pos) (some (.Name y py)) spos.line X.env=pure true:=by rfl)
  (hs:∀x,zm iter X.env x=pure x:=by intro _;rfl) (hf:X.fn y=true∨X.env.scope.names.lookup y=some .local:=by first|exact .inl rfl|exact .inr rfl|assumption) :
  PS X (.Assign [.Name y py] (.ListComp elt [⟨tg,iter,ifs,0⟩] scope pos) spos) (aP (c6 k fi wi g tc te) (eE j)) :=
 BK hN hj hy hS hc hi (fun _ _ _ _ _ _=>(h _ _ _ _ _ _).1) ho (fun _ _ _ _ _ _=>(h _ _ _ _ _ _).2.1) (fun _ _ _ _ _ _=>(h _ _ _ _ _ _).2.2) hsw hs hf
end
end L2
end

section
set_option Elab.async false
set_option linter.all false
set_option maxRecDepth 100000
namespace L2
open PySem PySem.Spec PyProof.Rows
structure mC(h:Heap)(d:Addr)(es:Array kD)(ep:Nat):Prop where
 ex:∃o,h.get? d=some o/\o.ExactDict/\o.data=.dict es ep
section
variable{prog:cg}{w:World}{A:Around}{E:Zc}{s:Shared}{d v it:Addr}{es:Array kD}{ep i:Nat}
theorem mC.ty(h:mC s.heap d es ep):s.TypeIs (.ref d) "dict":=let⟨o,ho,e,_⟩:=h.ex;⟨o,ho,e.1⟩
theorem Eo{Q:Zc}(h:mC s.heap d es ep)(hd:(d==fD)=false)(q:Q (.ref s.heap.objs.size) { s with heap:=s.heap.push { cls:=.type "dict_items",data:=.fields #[.ref d] } }):
  wpAny (model prog w) A (call (.builtin "dict.items") [.ref d]) Q E s:=by
 refine nO F.slot_dict_items h.ty F.entry_dict_items ?_ (F.args_dict_items_1 _);unfold cb.«dict.items» cb.Dict.noArgs;refine ak <| ak <| tq h.ty <| ?_;refine aD (show wpAny _ _ (qx d >>= _) _ _ s from ?_);unfold qx;rw[if_neg (fun z=>by rw[hd]at z;cases z)];exact ak <| aD <| ak <| iU <| aD ⟨_,rfl,q⟩
theorem FO{Q:Zc}(hv:s.heap.IsItemsView v d)(h:mC s.heap d es ep)
  (q:∀h',iS h' s.heap.objs.size d 0 es.size ep .none .none->(∀b o,s.heap.get? b=some o->h'.get? b=some o)->Q (.ref s.heap.objs.size) { s with heap:=h' }):wpAny (model prog w) A (pyIter (.ref v)) Q E s:=by
 obtain⟨ov,hov,hcv,hdv⟩:=id hv;obtain⟨o,ho,hx,hdat⟩:=h.ex;refine wpAny_pyIter_slot hv.typeIs F.slot_dict_items_iter <| nO F.slot_dict_items_iter hv.typeIs F.entry_dict_items_iter ?_ (F.args_dict_items_iter_1 _);unfold cb.«dict_items.__iter__» cb.Dict_items.dictOf cb.Dict_items.newIterator;refine ak <| aD <| ak <| ak <| fh hov hdv (x:=.ref d) rfl <| aD <| ak <| ak <| kB ho hdat <| ak <| nT ho hdat ?_;simp only[show tp "dict_itemiterator"=true by decide,if_true];refine iU (aD ⟨_,rfl,"dict_itemiterator",_,⟨_,cG _ rfl,rfl⟩,tm.lookup,?_⟩) ?_
 ·refine q _ ?_ fun b o e=>bx _ e;simpa[rawInt,iS,cb.Dict_items.ownedTupleFields]using cG s.heap (o:={ cls:=.type "dict_itemiterator",data:=.fields #[.none,.bool false,.ref d,.int 0 0,.int es.size 0,.int ep 0,.none,.none] }) rfl
 ·simp only[sizeOk,cb.Dict_items.ownedTupleFields,bN,aK,dS,xF,jh];omega
theorem FN{Q:Option Value->Shared->Prop}(hit:iS s.heap it d i es.size ep ok ov)(h:mC s.heap d es ep)(hi:i<es.size)
  (q:∀h',IsItemIterOut h' it d (i+1) es.size ep es[i].key es[i].val s.heap.objs.size->h'.get? s.heap.objs.size=some { cls:=.type "tuple",data:=.seq #[es[i].key,es[i].val] } ->
   (∀b o,b≠it->s.heap.get? b=some o->h'.get? b=some o)->Q (some (.ref s.heap.objs.size)) { s with heap:=h' }):wpAny (model prog w) A (pyNext (.ref it)) Q E s:=by
 obtain⟨o,ho,hx,hdat⟩:=h.ex;obtain⟨hp,g,dr,tk,os⟩:=s;have ty:∀{h':Heap}{ok ov:Value}{j:Nat},iS h' it d j es.size ep ok ov->Shared.TypeIs ⟨h',g,dr,tk,os⟩ (.ref it) "dict_itemiterator":=fun x=>⟨_,x,rfl⟩;have hT:=ty hit;have own:tp "dict_itemiterator"=true:=by decide
 unfold pyNext;refine ak <| qz <| kC (name:=jB "__next__") hT tm <| nO tm hT F.entry_dict_itemiterator_next ?_ (F.args_dict_itemiterator_next_1 _);refine ak <| aD <| ak <| ak ?_
 first|refine ak <| xm hT <| aD ?_|refine ak <| xk hT <| aD ?_
 refine ak <| xj hit rfl ?_;simp only[own,if_true];show wpAny _ _ (if(Value.ref d==Value.none)=true then _ else _) _ _ _
 rw[if_neg (show ¬((Value.ref d==Value.none)=true)from fO)];refine ak <| aD <| ak <| kB ho hdat ?_;rw[if_neg (by simp)];refine ak <| aD <| ak <| nT ho hdat ?_;rw[if_neg (by simp)];refine aD ?_;simp only[show ¬((i:Int)<0)from by omega,if_false,jC,Array.getElem?_eq_getElem hi];refine ak ?_
 first|refine ak <| xm hT <| aD ?_|refine ak <| xk hT <| aD ?_
 refine ak <| wpAny_isOneOf_itemiter hT ?_;show wpAny _ _ (xi (.ref it) 3 (rawInt ((i:Int)+1)) >>= _) _ _ ⟨hp,g,dr,tk,os⟩;refine ak <| iT hit (by simp) fun h1 e1 s1=>?_;have s1:fZ it hp h1:=s1;have e1:iS h1 it d (i+1) es.size ep ok ov:=by
  have z:((i+1:Nat):Int)=(i:Int)+1:=by omega
  unfold iS;rw[z];simpa[rawInt]using e1
 have T1:=ty e1;refine ak <| lq <| ak <| wpAny_isOneOf_itemiter T1 <| ak <| wpAny_isOneOf_itemiter T1 ?_;show wpAny _ _ (cb.Dict_items.pairFromOwner (.ref it) 6 es[i].key es[i].val) _ _ ⟨h1,g,dr,tk,os⟩;unfold cb.Dict_items.pairFromOwner;refine ak <| wpAny_newTuple ?_;have e2:iS (h1.push { cls:=.type "tuple",data:=.seq #[es[i].key,es[i].val] }) it d (i+1) es.size ep ok ov:=bx _ e1;have z1:h1.objs.size=hp.objs.size:=s1.1;have t2:(h1.push { cls:=.type "tuple",data:=.seq #[es[i].key,es[i].val] }).get? hp.objs.size=some { cls:=.type "tuple",data:=.seq #[es[i].key,es[i].val] }:=by rw[<-z1];exact cG _ rfl
 have k2:∀b o,b≠it->hp.get? b=some o->(h1.push { cls:=.type "tuple",data:=.seq #[es[i].key,es[i].val] }).get? b=some o:=fun b o hb e=>bx _ (s1.extBut b o hb e);rw[z1];generalize h1.push { cls:=.type "tuple",data:=.seq #[es[i].key,es[i].val] }=h2 at e2 t2 k2;show wpAny _ _ (cb.Dict_items.ownedTupleIsFree (.ref it) >>= _) _ _ ⟨h2,g,dr,tk,os⟩;have lt:it<hp.objs.size:=ba hit;have ne:hp.objs.size≠it:=gQ lt;refine ak ?_;unfold cb.Dict_items.ownedTupleIsFree;refine ak <| fh e2 rfl (x:=.none) rfl <| aD ?_;simp only[if_true];refine ak <| fh e2 rfl (x:=ok) rfl <| ak <| fh e2 rfl (x:=ov) rfl <| ak <| iT e2 (by simp) fun h3 e3 s3=>?_;have s3:fZ it h2 h3:=s3;have e3:iS h3 it d (i+1) es.size ep es[i].key ov:=e3;refine ak <| iT e3 (by simp) fun h4 e4 s4=>?_;have s4:fZ it h3 h4:=s4;have e4:iS h4 it d (i+1) es.size ep es[i].key es[i].val:=e4;refine ak <| iT e4 (by simp) fun h5 e5 s5=>?_;have s5:fZ it h4 h5:=s5;have e5:IsItemIterOut h5 it d (i+1) es.size ep es[i].key es[i].val hp.objs.size:=e5;refine ak <| iT e5 (by simp) fun h6 e6 s6=>?_;have s6:fZ it h5 h6:=s6;have e6:IsItemIterOut h6 it d (i+1) es.size ep es[i].key es[i].val hp.objs.size:=e6;have up:∀b o,b≠it->h2.get? b=some o->h6.get? b=some o:=fun b o hb e=>s6.extBut b o hb <| s5.extBut b o hb <| s4.extBut b o hb <| s3.extBut b o hb e;exact ak <| tD <| aD <| aD ⟨_,rfl,aD <| q h6 e6 (up _ _ ne t2) fun b o hb e=>up b o hb (k2 b o hb e)⟩
theorem HG{Q:Option Value->Shared->Prop}(hh:A.handled=none)(hit:iS s.heap it d i es.size ep ok ov)(h:mC s.heap d es ep)(hi:es.size<=i)
  (q:∀h',Heap.ExtBut it s.heap h'->Q none { s with heap:=h' }):wpAny (model prog w) A (pyNext (.ref it)) Q E s:=by
 obtain⟨o,ho,hx,hdat⟩:=h.ex;have hT:s.TypeIs (.ref it) "dict_itemiterator":=⟨_,hit,rfl⟩;have own:tp "dict_itemiterator"=true:=by decide
 unfold pyNext;refine ak <| qz <| kC (name:=jB "__next__") hT tm <| nO tm hT F.entry_dict_itemiterator_next ?_ (F.args_dict_itemiterator_next_1 _);refine ak <| aD <| ak <| ak ?_
 first|refine ak <| xm hT <| aD ?_|refine ak <| xk hT <| aD ?_
 refine ak <| xj hit rfl ?_;simp only[own,if_true];show wpAny _ _ (if(Value.ref d==Value.none)=true then _ else _) _ _ _
 rw[if_neg (show ¬((Value.ref d==Value.none)=true)from fO)];refine ak <| aD <| ak <| kB ho hdat ?_;rw[if_neg (by simp)];refine ak <| aD <| ak <| nT ho hdat ?_;rw[if_neg (by simp)];refine aD ?_;simp only[show ¬((i:Int)<0)from by omega,if_false,jC,Array.getElem?_eq_none hi];refine ak ?_
 first|refine ak <| xm hT <| aD ?_|refine ak <| xk hT <| aD ?_
 show wpAny _ _ (xi (.ref it) 2 .none >>= _) _ _ s;refine ak <| tE hit rfl (by simp) ?_;show wpAny _ _ (newExc (.type "StopIteration") [] >>= _) _ _ _;refine ak ?_;simp only[newExc,newTuple];refine ak <| iU ?_ (by size_fits);refine ak (m:=qA _ _) <| wpAny_of_eq (a:=Value.none) (by first|rfl|(simp only[qA];rfl)) <| iU ?_ (by size_fits)
 simp only[raiseNew];refine ak <| wpAny_handled ?_;rw[show A.in1.handled=none from hh];refine ak <| aD <| wpAny_throw ?_;refine ak (zq (b:=true) (T:="StopIteration") ⟨_,cG _ rfl,rfl⟩ isSubtype_stop (aD (q _ (((lL ..).extBut.push _).push _))))
end
def IE(d:Addr)(o:Obj)(u:HO)(n:Nat)(ent:Nat->Hp->V->V->Prop):It :=
 ⟨fun i H=>H d=some (.frz o u)/\i<n,fun i H x H'=>∃p a b,H p=none/\x=.ref p/\ent i H a b/\H'=upd H p (.tup [a,b]),fun i H=>H d=some (.frz o u)/\n<=i⟩
structure G3(P:cg)(w:World)(K:Za)(d:Addr)(o:Obj)(u:HO)(n:Nat)(ent:Nat->Hp->V->V->Prop)(es:Array kD)(ep:Nat):Prop where
 ex:o.ExactDict
 dat:o.data=.dict es ep
 sz:es.size=n
 get:∀{H:Hp}{h:Heap}{i:Nat}(hi:i<es.size),ng P w K H h->H d=some (.frz o u)->∃a b,ent i H a b/\RelV a es[i].key/\RelV b es[i].val
theorem Bd{K:Za}{xs:List Expr}{kx:Nat}{J7:Pos}{it:Addr}(X0:G3 P w K d o u n ent es ep):
  sD P w K (.Tuple xs kx J7) (IE d o u n ent) [it] it (fun i h=>∃ok ov,iS h it d i n ep ok ov) where
 mem:=by simp
 obj:=fun i h ⟨ok,ov,st⟩ b hb=>by
  have e:b=it:=by simpa using hb
  subst e;exact⟨_,st,fun v z=>by cases z⟩
 keep:=fun i h h' ⟨ok,ov,st⟩ k=>⟨ok,ov,k it (by simp) _ st⟩
 item:=by
  intro X hP hw hK hc i J3 s σ H E I hf ⟨ok,ov,st⟩ hg;subst hP hw hK;obtain⟨hd,hi⟩:=hg;have hi':i<es.size:=by rw[X0.sz];exact hi
  obtain⟨g,ou⟩:=(show bW X.prog X.w X.K H s.heap d (.frz o u)from I.hok d _ hd);obtain⟨a,b,en,ra,rb⟩:=X0.get hi' I.hok hd;obtain⟨f0,f1,f2,f3,f4,f5⟩:=hf it (by simp);rw[<-X0.sz]at st;refine FN st ⟨o,g,X0.ex,X0.dat⟩ hi' fun h' ho' ht' hk'=>?_;refine⟨_,rfl,wpAny_letOwnedTupleGo_items (s:={ s with heap:=h' }) ho' fun h2 he2 hs2=>?_⟩;have hs2':fZ it h' h2:=hs2;have hpe:s.heap.objs.size≠it:=gQ (ba st);have ht2:h2.get? s.heap.objs.size=some { cls:=.type "tuple",data:=.seq #[es[i].key,es[i].val] }:=hs2'.extBut _ _ hpe ht';have hn0:H s.heap.objs.size=none:=I.fresh;have I2:Inv X J3 σ (upd H s.heap.objs.size (.tup [a,b])) { s with heap:=h2,toks:=s.toks }:=by
   refine I.turnedNew (ch:=[it]) hf (fun c o hb q=>?_) ⟨_,ht2⟩ (fun _ z=>nomatch z) ⟨by show 2<=ai;decide,[es[i].key,es[i].val],.cons ra (.cons rb .nil),⟨_,ht2,rfl,_,rfl⟩⟩;have nb1:c≠it:=fun z=>hb (by simp[z]);exact hs2'.extBut _ _ nb1 (hk' c o nb1 q)
  refine⟨.ref s.heap.objs.size,_,I2,rfl,⟨_,a,b,hn0,rfl,en,rfl⟩,⟨_,_,by rw[<-X0.sz];exact he2⟩,fun c hb=>?_⟩;have e:c=it:=by simpa using hb
  subst e;rw[ag (dE hpe)];exact f0
 done:=by
  intro X hP hw hK hc i J3 s σ H E I hf ⟨ok,ov,st⟩ hg;subst hP hw hK;obtain⟨hd,hi⟩:=hg;obtain⟨g,ou⟩:=(show bW X.prog X.w X.K H s.heap d (.frz o u)from I.hok d _ hd);obtain⟨f0,f1,f2,f3,f4,f5⟩:=hf it (by simp);rw[<-X0.sz]at st;exact HG (I.ok.hd hc) st ⟨o,g,X0.ex,X0.dat⟩ (by rw[X0.sz];exact hi) fun h' eb=>⟨rfl,I.turned (t':=s.toks) (fun b o hb e=>eb b o hb e) f0 f1 f3 f4 f5⟩
 self:=fun _ _ _ _ _ ⟨_,_,st⟩ h=>PySem.W.kcp_self st h
def Ce(K:Za)(kvs:List (TK×V)):Nat->Hp->V->V->Prop:=fun i H a b=>∃k,kvs[i]?=some (k,b)/\jR K H k a
theorem m9{K:Za}{d:Addr}{o:Obj}{kvs:List (TK×V)}(hok:ng P w K H h)(e:H d=some (.frz o (.dT kvs))):
  (d==fD)=false/\∃es ep,G3 P w K d o (.dT kvs) kvs.length (Ce K kvs) es ep:=by
 obtain⟨g,z,hsys,xs,rel,o',es,ep,ho',ex,hd,hes,nd⟩:=(show bW P w K H h d (.frz o (.dT kvs))from hok d _ e);rw[g]at ho';cases ho';have hl:es.size=xs.length:=by rw[<-ln,hes,aj]
 refine⟨hsys,es,ep,ex,hd,by rw[hl,Paired.length rel],fun{H' h' i} hi hok' e'=>?_⟩;obtain⟨g',z',hsys',xs',rel',o'',es',ep',ho'',ex',hd',hes',nd'⟩:=(show bW P w K H' h' d (.frz o (.dT kvs))from hok' d _ e');rw[g']at ho'';cases ho'';rw[hd]at hd';cases hd';have hl':es.size=xs'.length:=by rw[<-ln,hes',aj]
 have hi':i<xs'.length:=by omega
 have hk:i<kvs.length:=by rw[Paired.length rel'];exact hi'
 have hp:=wv rel' (i:=i) (a:=kvs[i]) (b:=xs'[i]) (by simp[hk]) (by simp[hi']);have he:es[i]=CY (dP P w) xs'[i]:=by
  have:es.toList[i]?=some es[i]:=by simp[hi]
  rw[hes',bQ,b9 hi']at this;injection this with this;exact this.symm
 refine⟨.ref xs'[i].2.1,kvs[i].2,⟨kvs[i].1,by simp[hk],hp.2.1⟩,?_,?_⟩
 ·rw[he];exact rfl
 ·rw[he];exact hp.2.2.2
def yG(K:Za)(tl:TE):TI:=fun σ H R=>tl σ H fun x H1=>∃d kvs,x=.ref d /\
 ((H1 d=some (.dT kvs)/\∀o,R (IE d o (.dT kvs) kvs.length (Ce K kvs)) (upd H1 d (.frz o (.dT kvs))))∨∃o,H1 d=some (.frz o (.dT kvs))/\R (IE d o (.dT kvs) kvs.length (Ce K kvs)) H1)
section
variable{X:Cx}{J3:Zd}{σ:St}{l:Expr}{tl:TE}{J5 J4 J7:Pos}{xs:List Expr}{kx:Nat}
theorem uR{R:It->Hp->Prop}(X0:G3 X.prog X.w X.K d o u n ent es ep)(hsys:(d==fD)=false)(I2:Inv X J3 σ H2 s1)(e:H2 d=some (.frz o u))(q:R (IE d o u n ent) H2):
  MethodOn X.prog X.w X.A "items" J4 (.ref d) [] (fun v s2=>wpAny (model X.prog X.w) X.A (pyIter v) (Kv X J3 σ (.Tuple xs kx J7) R) X.xe s2) X.xe s1:=by
 obtain⟨g,_⟩:=(show bW X.prog X.w X.K H2 s1.heap d (.frz o u)from I2.hok d _ e);have raw:mC s1.heap d es ep:=⟨o,g,X0.ex,X0.dat⟩;refine⟨"dict","dict.items",F.plainAttrs_dict,F.slot_dict_items,F.type_dict_items,raw.ty,fun a z=>?_,tL rfl (PySem.evalArgs_none (Eo raw hsys ?_))⟩
 ·cases z;exact⟨o,g,X0.ex.2.1⟩
 refine FO (s:={ s1 with heap:=s1.heap.push { cls:=.type "dict_items",data:=.fields #[.ref d] } }) ⟨_,cG _ rfl,rfl,rfl⟩ ⟨o,bx _ g,X0.ex,X0.dat⟩ fun h' hit hk=>?_;have I3:Inv X J3 σ H2 { s1 with heap:=h',toks:=s1.toks }:=I2.kept (t':=s1.toks) fun b o e=>hk b o (bx _ e);refine⟨_,[_],_,_,H2,rfl,I3,Bd X0,⟨_,_,by rw[<-X0.sz];exact hit⟩,fun b hb=>?_,q⟩;have e:b=(s1.heap.push { cls:=.type "dict_items",data:=.fields #[.ref d] }).objs.size:=by simpa using hb
 subst e;have z:s1.heap.objs.size<=(s1.heap.push { cls:=.type "dict_items",data:=.fields #[.ref d] }).objs.size:=by rw[o_];exact sQ _
 exact I2.fpOk z (I2.hok.fresh z)
theorem wq(hl:PE X l tl)(hbase:sS l "items" X.env (eval l X.env)=eval l X.env:=by rfl)(hline:(J5.endLine==J4.line)=true:=by rfl):PI X (.Tuple xs kx J7) (.Call (.Attribute l "items" J5) [] [] J4) (yG X.K tl):=by
 intro J3 s σ H R I h;refine wpAny_Call_method0_late hbase hline (cI (hl J3 s σ H _ I h) fun v s1 ⟨x,H1,I1,r1,d,kvs,ex,q⟩=>?_);subst ex;cases r1;rcases q with⟨e,q⟩|⟨o,e,q⟩
 ·obtain⟨z,hsys,xs',rel,o,es,ep,ho,r⟩:=id (show bW X.prog X.w X.K H1 s1.heap d (.dT kvs)from I1.hok d _ e);have I2:Inv X J3 σ (upd H1 d (.frz o (.dT kvs))) { s1 with heap:=s1.heap,toks:=s1.toks } :=
   I1.write (x:=d) (e:=d) (t':=s1.toks) (by rw[e];trivial) (.inl rfl) (fun _ _ _ q=>q) ⟨o,ho⟩ ⟨ho,z,hsys,xs',Paired.mapP rel (fun p q r=>⟨r.1,jR.keeps (fun b ys eb=>by rw[ag (fun z=>by rw[z,e]at eb;cases eb)];exact eb) 8 r.2.2.1 r.2.1,r.2.2⟩),o,es,ep,ho,r⟩
  obtain⟨hsys',es',ep',X0⟩:=m9 I2.hok (aa (H:=H1) (a:=d));exact uR X0 hsys' I2 aa (q o)
 ·obtain⟨hsys',es',ep',X0⟩:=m9 I1.hok e;exact uR X0 hsys' I1 e q
end
def xX(K:Za)(tk tv:TE):TE:=fun σ H Q=>∀p,H p=none->tk σ (upd H p (.dT [])) fun x H1=>tv σ H1 fun y H2=>H2 p=some (.dT [])/\∃b k,x=.ref b/\jR K H2 k (.ref b)/\k.depth<=8/\Q (.ref p) (upd H2 p (.dT [(k,y)]))
theorem wu{X:Cx}{pos:Pos}{tv:TE}(hu:X.A.units+16<cLine)(hk:PE X k tk)(hv:PE X v tv):PE X (.Dict [some k] [v] pos) (xX X.K tk tv):=by
 intro J3 s σ H Q I q;have hn:=I.hok.fresh (aA s.heap.objs.size);have I1:=I.laid (a:=s.heap.objs.size) (o:=.dT []) (h':=s.heap.push { cls:=.type "dict",data:=.dict #[] }) (t':=s.toks) (fun _ _ q=>bx _ q) (aA _) (AH s.heap I.big);rw[arm_eval_Dict,zip_pairTrees [some k] [v] X.env pos rfl rfl,dictDisplay_pairs (pairTrees [some k] [v] X.env pos) (by unfold pairTrees;simp) (by show 1<17;decide)];refine ak (CV (ak ?_));unfold subDict;refine ak (wpAny_alloc ?_);refine ak (lq ?_);rw[if_pos (show(pairTrees [some k] [v] X.env pos).length<=15 from by show 1<=15;decide)];refine ak (pairTrees_cons_walk (cI (hk J3 _ σ _ _ I1 (q _ hn)) fun u s1 ⟨x,H1,I1,rx,q1⟩=>cI (hv J3 s1 σ H1 _ I1 q1) fun r s2 ⟨y,H2,I2,ry,e,b,kk,ex,eb,e8,q2⟩=>pairTrees_nil_walk ?_));subst ex;cases rx;refine lq ?_;obtain⟨z,hd,xs,rel,dd⟩:=Dy I2.hok I2.kIn e;cases rel;rw[qD];refine ak (ak (ak (wpAny_dictSet_heap (hsz:=cX _) (show(dP X.prog X.w).room X.A from by show X.A.units+8<cLine;omega) (uO I2.hok I2.kIn eb e8) dd fun h' dd' hs=>aD ?_)));show wpAny _ _ (forIn [] PUnit.unit _) _ _ _;rw[List.forIn_nil];refine aD (aD (aD (aD ⟨.ref s.heap.objs.size,_,?_,rfl,q2⟩)));obtain⟨q,es,ep,hq,h2,h3,h4,_,h5⟩:=dd';refine p7 I2 (by rw[e];exact jg) hs ⟨q,hq⟩ ⟨by show 1<=ai;decide,hd,_,((KT.put (kvs:=[]) .nil kk eb e8 ry)).keeps fun c ys ec=>?_,q,es,ep,hq,h2,h3,h4,h5⟩;rw[ag (Dp ec e (fun z=>nomatch z))];exact ec
section
variable{prog:cg}{w:World}{A:Around}{E:Zc}{s:Shared}{d v it:Addr}{es:Array kD}{ep i:Nat}
theorem En{Q:Zc}(hd:(d==fD)=false)(h:mC s.heap d es ep)
  (q:∀h',h'.IsKeyIter s.heap.objs.size d 0 es.size ep->(∀b o,s.heap.get? b=some o->h'.get? b=some o)->Q (.ref s.heap.objs.size) { s with heap:=h' }):wpAny (model prog w) A (pyIter (.ref d)) Q E s:=by
 obtain⟨o,ho,hx,hdat⟩:=h.ex;refine wpAny_pyIter_slot h.ty xh <| nO xh h.ty F.entry_dict_iter ?_ (F.args_dict_iter_1 _);unfold cb.«dict.__iter__»;refine ak ?_;unfold cb.Dict.dictSlotNone;refine ak <| tq h.ty <| ?_;refine aD (show wpAny _ _ (qx d >>= _) _ _ s from ?_);unfold qx;rw[if_neg (fun z=>by rw[hd]at z;cases z)];refine ak <| aD <| ak <| kB ho hdat <| ak <| nT ho hdat ?_;refine ak (iU (aD ⟨_,rfl,"dict_keyiterator",_,⟨_,cG _ rfl,rfl⟩,qw.lookup,?_⟩));exact q _ ⟨_,cG _ rfl,rfl,by simp[rawInt]⟩ fun b o e=>bx _ e
theorem wo{Q:Option Value->Shared->Prop}(hit:s.heap.IsKeyIter it d i es.size ep)(h:mC s.heap d es ep)(hi:i<es.size)
  (q:∀h',h'.IsKeyIter it d (i+1) es.size ep->fZ it s.heap h'->Q (some es[i].key) { s with heap:=h' }):wpAny (model prog w) A (pyNext (.ref it)) Q E s:=by
 obtain⟨ov,hov,hcv,hdv⟩:=id hit;obtain⟨o,ho,hx,hdat⟩:=h.ex;have hT:=hit.typeIs;unfold pyNext;refine ak <| qz <| kC (name:=jB "__next__") hT qw <| nO qw hT F.entry_dict_keyiterator_next ?_ (F.args_dict_keyiterator_next_1 _);refine ak <| aD <| ak <| ak ?_
 first|refine ak <| xg hT <| aD ?_|refine ak <| xf hT <| aD ?_
 refine ak <| xj hov hdv ?_;simp only[show tp "dict_keyiterator"=false by decide,lN,if_false];show wpAny _ _ (if(Value.ref d==Value.none)=true then _ else _) _ _ _
 rw[if_neg (show ¬((Value.ref d==Value.none)=true)from fO)];refine ak <| aD <| ak <| kB ho hdat ?_;rw[if_neg (by simp)];refine ak <| aD <| ak <| nT ho hdat ?_;rw[if_neg (by simp)];refine aD ?_;simp only[show ¬((i:Int)<0)from by omega,if_false,jC,Array.getElem?_eq_getElem hi];refine ak ?_
 first|refine ak <| xg hT <| aD ?_|refine ak <| xf hT <| aD ?_
 refine ak <| wpAny_isOneOf_keyiter hT ?_;show wpAny _ _ (xi (.ref it) 1 (rawInt ((i:Int)+1)) >>= _) _ _ s;refine ak <| tE hov hdv (by simp) ?_;have n1:(s.heap.update it (Obj.mapFields (·.setIfInBounds 1 (rawInt ((i:Int)+1))))).IsKeyIter it d (i+1) es.size ep:=⟨_,xI _ hov (Obj.isFreed_of_fields (xz hdv _)),(Obj.cls_mapFields ..).trans hcv,by rw[xz hdv];simp[rawInt]⟩;have T1:=Heap.IsKeyIter.typeIs (s:={ s with heap:=s.heap.update it (Obj.mapFields (·.setIfInBounds 1 (rawInt ((i:Int)+1)))) }) n1;refine ak <| lq <| ak <| wpAny_isOneOf_keyiter T1 ?_;show wpAny _ _ (pure es[i].key) _ _ _;exact aD <| aD ⟨_,rfl,aD <| q _ n1 (lL ..)⟩
theorem Ae{Q:Option Value->Shared->Prop}(hh:A.handled=none)(hit:s.heap.IsKeyIter it d i es.size ep)(h:mC s.heap d es ep)(hi:es.size<=i)
  (q:∀h',Heap.ExtBut it s.heap h'->Q none { s with heap:=h' }):wpAny (model prog w) A (pyNext (.ref it)) Q E s:=by
 obtain⟨ov,hov,hcv,hdv⟩:=id hit;obtain⟨o,ho,hx,hdat⟩:=h.ex;have hT:=hit.typeIs;unfold pyNext;refine ak <| qz <| kC (name:=jB "__next__") hT qw <| nO qw hT F.entry_dict_keyiterator_next ?_ (F.args_dict_keyiterator_next_1 _);refine ak <| aD <| ak <| ak ?_
 first|refine ak <| xg hT <| aD ?_|refine ak <| xf hT <| aD ?_
 refine ak <| xj hov hdv ?_;simp only[show tp "dict_keyiterator"=false by decide,lN,if_false];show wpAny _ _ (if(Value.ref d==Value.none)=true then _ else _) _ _ _
 rw[if_neg (show ¬((Value.ref d==Value.none)=true)from fO)];refine ak <| aD <| ak <| kB ho hdat ?_;rw[if_neg (by simp)];refine ak <| aD <| ak <| nT ho hdat ?_;rw[if_neg (by simp)];refine aD ?_;simp only[show ¬((i:Int)<0)from by omega,if_false,jC,Array.getElem?_eq_none hi];refine ak ?_
 first|refine ak <| xg hT <| aD ?_|refine ak <| xf hT <| aD ?_
 show wpAny _ _ (xi (.ref it) 0 .none >>= _) _ _ s;refine ak <| tE hov hdv (by simp) ?_;show wpAny _ _ (newExc (.type "StopIteration") [] >>= _) _ _ _;refine ak ?_;simp only[newExc,newTuple];refine ak <| iU ?_ (by size_fits);refine ak (m:=qA _ _) <| wpAny_of_eq (a:=Value.none) (by first|rfl|(simp only[qA];rfl)) <| iU ?_ (by size_fits)
 simp only[raiseNew];refine ak <| wpAny_handled ?_;rw[show A.in1.handled=none from hh];refine ak <| aD <| wpAny_throw ?_;refine ak (zq (b:=true) (T:="StopIteration") ⟨_,cG _ rfl,rfl⟩ isSubtype_stop (aD (q _ (((lL ..).extBut.push _).push _))))
end
def Ja(d:Addr)(o:Obj)(u:HO)(n:Nat)(ent:Nat->Hp->V->V->Prop):It :=
 ⟨fun i H=>H d=some (.frz o u)/\i<n,fun i H x H'=>H'=H/\∃b,ent i H x b,fun i H=>H d=some (.frz o u)/\n<=i⟩
theorem DV{K:Za}{it:Addr}(X0:G3 P w K d o u n ent es ep):
  sD P w K tg (Ja d o u n ent) [it] it (fun i h=>h.IsKeyIter it d i n ep) where
 mem:=by simp
 obj:=fun i h st b hb=>by
  have e:b=it:=by simpa using hb
  subst e;obtain⟨o,e,c,d⟩:=st;exact⟨o,e,fun v z=>by rw[d]at z;cases z⟩
 keep:=fun i h h' st k=>st.at fun o e=>k it (by simp) o e
 item:=by
  intro X hP hw hK hc i J3 s σ H E I hf st hg;subst hP hw hK;obtain⟨hd,hi⟩:=hg;have hi':i<es.size:=by rw[X0.sz];exact hi
  obtain⟨g,ou⟩:=(show bW X.prog X.w X.K H s.heap d (.frz o u)from I.hok d _ hd);obtain⟨a,b,en,ra,rb⟩:=X0.get hi' I.hok hd;obtain⟨f0,f1,f2,f3,f4,f5⟩:=hf it (by simp);rw[<-X0.sz]at st;refine wo st ⟨o,g,X0.ex,X0.dat⟩ hi' fun h' st' sb=>?_;have I1:Inv X J3 σ H { s with heap:=h' }:=I.turned (t':=s.toks) (fun b o hb e=>(sb.2 b hb).trans e) f0 f1 f3 f4 f5;obtain⟨oi,e,c,dd⟩:=id st';exact⟨_,rfl,wK (s:={ s with heap:=h' }) e c dd (by decide) ⟨a,H,I1,ra,⟨rfl,b,en⟩,by rw[<-X0.sz];exact st',fun b hb=>(hf b hb).1⟩⟩
 done:=by
  intro X hP hw hK hc i J3 s σ H E I hf st hg;subst hP hw hK;obtain⟨hd,hi⟩:=hg;obtain⟨g,ou⟩:=(show bW X.prog X.w X.K H s.heap d (.frz o u)from I.hok d _ hd);obtain⟨f0,f1,f2,f3,f4,f5⟩:=hf it (by simp);rw[<-X0.sz]at st;exact Ae (I.ok.hd hc) st ⟨o,g,X0.ex,X0.dat⟩ (by rw[X0.sz];exact hi) fun h' eb=>⟨rfl,I.turned (t':=s.toks) (fun b o hb e=>eb b o hb e) f0 f1 f3 f4 f5⟩
 self:=fun _ _ _ _ _ st h=>wpAny_pyIter_keyiter st h
def Ca(K:Za)(tl:TE):TI:=fun σ H R=>tl σ H fun x H1=>∃d kvs,x=.ref d /\
 ((H1 d=some (.dT kvs)/\∀o,R (Ja d o (.dT kvs) kvs.length (Ce K kvs)) (upd H1 d (.frz o (.dT kvs))))∨∃o,H1 d=some (.frz o (.dT kvs))/\R (Ja d o (.dT kvs) kvs.length (Ce K kvs)) H1)
section
variable{X:Cx}{J3:Zd}{σ:St}{l tg:Expr}{tl:TE}
theorem wG{R:It->Hp->Prop}(X0:G3 X.prog X.w X.K d o u n ent es ep)(hsys:(d==fD)=false)(I2:Inv X J3 σ H2 s1)(e:H2 d=some (.frz o u))(q:R (Ja d o u n ent) H2):
  wpAny (model X.prog X.w) X.A (pyIter (.ref d)) (Kv X J3 σ tg R) X.xe s1:=by
 obtain⟨g,_⟩:=(show bW X.prog X.w X.K H2 s1.heap d (.frz o u)from I2.hok d _ e);refine En hsys ⟨o,g,X0.ex,X0.dat⟩ fun h' hit hk=>?_;have I3:Inv X J3 σ H2 { s1 with heap:=h',toks:=s1.toks }:=I2.kept (t':=s1.toks) hk;refine⟨_,[_],_,_,H2,rfl,I3,DV X0,by rw[<-X0.sz];exact hit,fun b hb=>?_,q⟩;have e:b=s1.heap.objs.size:=by simpa using hb
 subst e;exact I2.fpOk (aA _) (I2.hok.fresh (aA _))
theorem Ai(hl:PE X l tl):PI X tg l (Ca X.K tl):=by
 intro J3 s σ H R I h;refine cI (hl J3 s σ H _ I h) fun v s1 ⟨x,H1,I1,r1,d,kvs,ex,q⟩=>?_;subst ex;cases r1;rcases q with⟨e,q⟩|⟨o,e,q⟩
 ·obtain⟨z,hsys,xs',rel,o,es,ep,ho,r⟩:=id (show bW X.prog X.w X.K H1 s1.heap d (.dT kvs)from I1.hok d _ e);have I2:Inv X J3 σ (upd H1 d (.frz o (.dT kvs))) { s1 with heap:=s1.heap,toks:=s1.toks } :=
   I1.write (x:=d) (e:=d) (t':=s1.toks) (by rw[e];trivial) (.inl rfl) (fun _ _ _ q=>q) ⟨o,ho⟩ ⟨ho,z,hsys,xs',Paired.mapP rel (fun p q r=>⟨r.1,jR.keeps (fun b ys eb=>by rw[ag (fun z=>by rw[z,e]at eb;cases eb)];exact eb) 8 r.2.2.1 r.2.1,r.2.2⟩),o,es,ep,ho,r⟩
  obtain⟨hsys',es',ep',X0⟩:=m9 I2.hok (aa (H:=H1) (a:=d));exact wG X0 hsys' I2 aa (q o)
 ·obtain⟨hsys',es',ep',X0⟩:=m9 I1.hok e;exact wG X0 hsys' I1 e q
end
end L2
end

section
set_option Elab.async false
set_option linter.all false
set_option maxRecDepth 100000
namespace HT
open PySem PySem.Spec PyProof.Rows
end HT
namespace L2
open PySem PySem.Spec PyProof.Rows
end L2
namespace HT
open PySem PySem.Spec PyProof.Rows
end HT
namespace L2
open PySem PySem.Spec PyProof.Rows
end L2
end

section
set_option Elab.async false
set_option linter.all false
set_option maxRecDepth 100000
namespace HT
open PySem PyProof.Rows
end HT
namespace L2
open PySem PySem.Spec PyProof.Rows
end L2
end

section
set_option Elab.async false
set_option linter.all false
namespace L2
inductive KA{α β:Type}(P:α->β->Prop):Prop
 |mk a b:P a b->KA P
inductive Jz{α β γ:Type}(P:α->β->γ->Prop):Prop
 |mk a b c:P a b c->Jz P
inductive Kz{α β γ δ:Type}(P:α->β->γ->δ->Prop):Prop
 |mk a b c d:P a b c d->Kz P
inductive Ky{α β γ δ ε:Type}(P:α->β->γ->δ->ε->Prop):Prop
 |mk a b c d e:P a b c d e->Ky P
inductive NA4(a b c d:Prop):Prop
 |mk:a->b->c->d->NA4 a b c d
inductive JA(a b c d e:Prop):Prop
 |mk:a->b->c->d->e->JA a b c d e
inductive JH(a b c d e f:Prop):Prop
 |mk:a->b->c->d->e->f->JH a b c d e f
end L2
end

section
set_option Elab.async false
set_option linter.all false
set_option maxRecDepth 100000
namespace L2
open PySem PySem.Spec PyProof.Rows
section
variable{prog:cg}{w:World}{A:Around}{E:Zc}{s:Shared}{d v it:Addr}{es:Array kD}{ep i:Nat}
theorem BI(hd:(d==fD)=false)(h:mC s.heap d es ep):∃oI:Obj,(∀(E Q:Zc),Q (.ref s.heap.objs.size) { s with heap:=s.heap.push oI }->wpAny (model prog w) A (pyIter (.ref d)) Q E s)/\(s.heap.push oI).IsKeyIter s.heap.objs.size d 0 es.size ep:=by
 obtain⟨o,ho,hx,hdat⟩:=h.ex;refine⟨{ cls:=.type "dict_keyiterator",data:=.fields #[.ref d,rawInt 0,rawInt es.size,rawInt ep] },fun E Q q=>?_,⟨_,cG _ rfl,rfl,by simp[rawInt]⟩⟩;refine wpAny_pyIter_slot h.ty xh <| nO xh h.ty F.entry_dict_iter ?_ (F.args_dict_iter_1 _);unfold cb.«dict.__iter__»;refine ak ?_;unfold cb.Dict.dictSlotNone;refine ak <| tq h.ty <| ?_;refine aD (show wpAny _ _ (qx d >>= _) _ _ s from ?_);unfold qx;rw[if_neg (fun z=>by rw[hd]at z;cases z)];refine ak <| aD <| ak <| kB ho hdat <| ak <| nT ho hdat ?_;exact ak (iU (aD ⟨_,rfl,"dict_keyiterator",_,⟨_,cG _ rfl,rfl⟩,qw.lookup,q⟩))
end
theorem mC.kept{h':Heap}(r:mC h d es ep)(k:∀o,h.get? d=some o->h'.get? d=some o):mC h' d es ep:=let⟨o,ho,e⟩:=r.ex;⟨o,k o ho,e⟩
theorem HE{prog:cg}{w:World}{d:Addr}{es:Array kD}(hd:(d==fD)=false):PySem.W.KdlSrc prog w "dict" d d es.size (fun i v=>(es[i]?).map (·.key)=some v) fun h=>mC h d es ep where
 type:=fun s r=>r.ty
 there:=fun h r=>by obtain⟨o,ho,_⟩:=r.ex;exact⟨ba ho,ba ho⟩
 keep:=fun h h' r k=>r.kept (k d (.inl rfl))
 notList:=by decide
 notTuple:=by decide
 hint:=fun A E s Q r q=>PySem.W.kdl_hint_dict r.ty q
 iter:=fun A s hh r=>by
  obtain⟨oI,h1,h2⟩:=BI (prog:=prog) (w:=w) (A:=A) hd r;have ne:d≠s.heap.objs.size:=by obtain⟨o,ho,_⟩:=r.ex;exact cY (ba ho)
  refine⟨oI,fun i h=>h.IsKeyIter s.heap.objs.size d i es.size ep/\mC h d es ep,h1,⟨by simp,?_,?_,?_,?_⟩,h2,r.kept fun o e=>bx _ e⟩
  ·rintro i h h' ⟨a,b⟩ k;obtain⟨o,e,c⟩:=a;exact⟨⟨o,k _ (by simp) o e,c⟩,b.kept fun o e=>k d (by simp) o e⟩
  ·rintro i s' Q E hi ⟨a,b⟩ q;refine wo a b hi fun h' a' sb=>q _ _ _ (by simp[hi]) ⟨a',b.kept fun o e=>(sb.2 d ne).trans e⟩ fun b o nb e=>(sb.2 b (by simpa using nb)).trans e
  ·rintro s' Q E ⟨a,b⟩ q;exact Ae hh a b (aA _) fun h' eb=>q _ _ fun b o nb e=>eb b o (by simpa using nb) e
  ·rintro i s' Q E ⟨a,b⟩ q;exact wpAny_pyIter_keyiter a q
abbrev ym(K:Za):List V->Hp->VK->Prop:=fun xs H Q=>∃(d:Addr) (kvs:List (TK×V)),xs=[.ref d]/\H d=some (.dT kvs) /\
 ∀(l:Addr) (us:Ze),H l=none->Paired (fun u (kv:TK×V)=>jR K H kv.1 (.ref u)) us kvs->Q (.ref l) (upd H l (.lst (us.map V.ref)))
theorem Cn{X:Cx}(hc:X.calm=true):fg X (.type "list") (ym X.K):=by
 intro J3 s σ H xs us Q I r h;obtain⟨d,kvs,rfl,e,q⟩:=h;obtain⟨u,rfl,ru⟩:=vals1 r;cases ru;obtain⟨z,hsys,xs,rel,o,es,ep,ho,ex,hd,hes,nd⟩:=id (show bW X.prog X.w X.K H s.heap d (.dT kvs)from I.hok d _ e);have hl:=Paired.length rel;have hs:es.size=xs.length:=by rw[<-ln,hes,aj]
 refine PySem.W.kdl_call (HE hsys) (I.ok.hd hc) ⟨o,ho,ex,hd⟩ (by rw[hs,<-hl];exact z) fun h' tk acc c hk hD hacc=>?_;obtain⟨hn,hP⟩:=hacc;have ea:acc.toList=xs.map fun x=>Value.ref x.2.1:=by
  apply List.ext_getElem?;intro j;by_cases hj:j<acc.size
  ·have e1:acc[j]?=some acc[j]:=by simp[hj]
   have e2:=hP j _ e1;have e3:es[j]?=(xs[j]?).map fun x=>CY (dP X.prog X.w) x:=by rw[<-qF,hes,bQ]
   rw[qF,e1,bQ,<-e2,e3];cases xs[j]?<;>rfl
  ·have e1:acc[j]?=none:=by simp;omega
   rw[qF,e1,bQ,fS (by omega)]
   rfl
 have hv:bf ((xs.map (·.2.1)).map V.ref) acc.toList:=by
  rw[ea];clear ea rel hl hs hes nd
  induction xs with
  |nil=>exact .nil
  |cons x xs ih=>exact .cons rfl ih
 have pr:Paired (fun u (kv:TK×V)=>jR X.K H kv.1 (.ref u)) (xs.map (·.2.1)) kvs:=by
  clear ea hv hl hs hes nd e q z
  induction rel with
  |nil=>exact .nil
  |cons h _ ih=>exact .cons h.2.1 ih
 refine⟨.ref s.heap.objs.size,_,I.laid (o:=.lst ((xs.map (·.2.1)).map V.ref)) hk (aA _) ⟨by rw[aj,aj,<-hl];exact z,acc.toList,c,hv,by rw[Array.toArray_toList];exact hD⟩,rfl,q _ _ I.fresh pr⟩
section
variable{X:Cx}{e:Expr}{es:List Expr}{t:TA}{p pos:Pos}
theorem qLT(hc:X.calm=true)(hm:X.mg "list"=none)(ha:PA X (e::es) t)(hg:Gl X "list":=by rfl)
  (he:aN (e::es) X.env=(false,eval e X.env)::aN es X.env:=by rfl) (hpl:(backTo pos (aN es X.env)).any (·.1)=false:=by rfl):PE X (.Call (.Name "list" p) (e::es) [] pos) (dB (ym X.K) t):=eW (Cn hc) hg hm oK ha (by decide) (by decide) he hpl
end
theorem ir.non{K:Za}{kvs:List (TK×V)}{r:Str}(rd:Rd H a (.dT kvs))(e:br K H b [.str r,.non])(v:bq kvs (.t [.k (some (.inr r)),.k none])=none):ir K H a (.ref b) none :=
 .inr ⟨kvs,.t [.k (some (.inr r)),.k none],b,rd,rfl,by unfold je;exact⟨b,_,rfl,e,by unfold TKIns;exact⟨_,_,rfl,by unfold je;rfl,by unfold TKIns;exact⟨_,_,rfl,by unfold je;rfl,by unfold TKIns;rfl⟩⟩⟩,by show max 0 (max 0 0)+1<=8;decide,v.symm⟩
def IP(K:Za):R2:=fun x y H Q=>∃a b ys,x=.ref a/\y=.ref b/\br K H a []/\br K H b ys/\Q (.ref b) H
theorem GU{A:Around}{s:Shared}{ws:Zf}{Q:Zc}(ht:IsTup s.heap t ([]:Zf).toArray)(hb:IsTup s.heap b ws.toArray)(h:Q (.ref b) s):wpAny (model prog w) A (jU .Add (.ref t) (.ref b)) Q E s:=by
 obtain⟨⟨cls,dd,data,sl⟩,ho,hc,n,hd⟩:=id ht;obtain⟨⟨cls2,dd2,data2,sl2⟩,ho2,hc2,n2,hd2⟩:=id hb;simp only at hc hd hc2 hd2;subst hc hd hc2 hd2;exact concat_meets ⟨_,ho,rfl⟩ ⟨_,ho2,rfl⟩ noFill_tuple_add seq_tuple_add PySem.F.slot_tuple_add PySem.F.entry_tuple_add (PySem.F.args_tuple_add_2 _ _)
   (tuple_addW0 t b ([]:Zf).toArray ws.toArray n n2 dd dd2 sl sl2 (by simp)) ⟨ho,ho2,h⟩
theorem HX:lI X (jU .Add) (IP X.K):=by
 intro J3 s σ H x y v u Q I rx ry h;obtain⟨a,b,ys,rfl,rfl,ha,hb,q⟩:=h;cases rx;cases ry;obtain⟨its,r1,p1,_⟩:=I.tuple ha;obtain⟨its2,r2,p2,_⟩:=I.tuple hb;cases r1;exact GU p1 p2 ⟨.ref b,H,I,rfl,q⟩
abbrev IM(K:Za):R2:=fun x y H Q=>IN K x y H Q∨IP K x y H Q
theorem HV:lI X (jU .Add) (IM X.K):=HW.or HX
section
variable{prog:cg}{w:World}{A:Around}{E:Zc}{s:Shared}{d:Addr}{es:Array kD}{ep:Nat}
theorem HF{Q:Zc}(hd:(d==fD)=false)(hm:mC s.heap d es ep)(hfit:(es.size:Int)<2 ^ 63)(h:Q (.int es.size (s.toks+1)) { s with toks:=s.toks+1+1 }):wpAny (model prog w) A (call (.builtin "len") [.ref d]) Q E s:=by
 refine Calls.call_function_entry kind_len plain_len entry_len (args_len1 _) ?_;obtain⟨o,ho,hx,hdat⟩:=hm.ex;unfold cb.«len»;refine ak (m:=oneArg "len" _) (aD ?_);refine ak (m:=callSpecial? (.ref d) (jB "__len__")) (kC (name:=jB "__len__") hm.ty F.slot_dict_len
  (nO F.slot_dict_len hm.ty F.entry_dict_len ?_ (F.args_dict_len_1 _)))
 show wpAny _ _ (dictSize d >>= _) _ _ s;unfold dictSize;refine ak (ak (kB ho hdat (aD ?_)));show wpAny _ _ (cb.Dict.pendingCount d >>= _) _ _ s;refine ak (wpAny_pendingCount_other hd ?_);refine wpAny_ret_mkInt ?_;show wpAny _ _ _ _ _ { s with toks:=s.toks+1 };refine ak (lq (aD ?_));refine ak (tD ?_);show wpAny _ _ (if(es.size:Int)+((0:Nat):Int)<0 then _ else _) _ _ _
 rw[show(es.size:Int)+((0:Nat):Int)=(es.size:Int) by simp];rw[if_neg (by omega)];show wpAny _ _ (if(es.size:Int) ≥ 2 ^ 63 then _ else _) _ _ _
 rw[if_neg (by omega)];exact ak (wpAny_mkInt (aD ⟨_,rfl,h⟩))
end
abbrev C9(K:Za):List V->Hp->VK->Prop:=fun xs H Q=>∃(d:Addr) (kvs:List (TK×V)),xs=[.ref d]/\H d=some (.dT kvs)/\Q (.int kvs.length) H
theorem rh:fg X (.builtin "len") (C9 X.K):=by
 intro J3 s σ H xs us Q I r h;obtain⟨d,kvs,rfl,e,q⟩:=h;obtain⟨u,rfl,ru⟩:=vals1 r;cases ru;obtain⟨z,hsys,xs,rel,o,es,ep,ho,ex,hd,hes,nd⟩:=id (show bW X.prog X.w X.K H s.heap d (.dT kvs)from I.hok d _ e);have hl:=Paired.length rel;have hs:es.size=xs.length:=by rw[<-ln,hes,aj]
 refine HF (ep:=ep) hsys ⟨o,ho,ex,hd⟩ (by rw[hs,<-hl];rw[jh]at z;omega) ?_;rw[hs,<-hl];exact⟨.int kvs.length,H,I.tok _,⟨_,rfl⟩,q⟩
abbrev JQ:List V->Hp->VK->Prop:=fun xs H Q=>∃i j,xs=[.int i,.int j]/\Q (.int (if j > i then j else i)) H
end L2
end
set_option Elab.async false
set_option linter.all false
set_option maxRecDepth 100000
set_option maxHeartbeats 4000000
namespace Mum
open PySem PySem.Spec PyProof.Rows L2
def xS(K:Za):TS :=
 ap (bS (aQ (aI rGeI V0 (aI IK (tC (.int 10)) (tC (.int 18))))) (bc V0) (bg))
 (ap (aP (aI jo (aI fE (aI fE (aI me (aI jo V0 (tC (.int 1000000007))) (tC (.int 69069))) (aI me V1 (tC (.int 40503)))) (tC (.int 977))) (tC (.int 2147483629))) U2)
 (ap (aP (aI jo (aI fE (aI fE (aI me V2 V2) (aI me V1 (tC (.int 7919)))) (aI jo V0 (tC (.int 65537)))) (tC (.int 2147483587))) U3)
 (ap (aP (aI jo (aI fE (aI fE (aI me V3 V3) (aI me V2 (tC (.int 31)))) (tC (.int 5))) (tC (.int 2147483563))) U4)
 (bc (aI fE (aI me (aI fE (aI me V2 (tC (.int 2147483659))) V3) (tC (.int 2147483693))) V4)))))
def y4:List Str:=["cell","at","one","two","three"]
def Bl(K:Za):TS :=
 ap (aP (dB (da K) (ay (A2 (qW K) V0 (eU) (gj (tC (.int 12)))))) U1)
 (ap (dR (wI K (ay (A2 (qW K) V0 (gj (tC (.int 12))) (gj (tC (.int 63)))))) (g0 K 2 (aY U2 (aY U3 (gP)))) (aP (aI fE (aI (cV K) V1 (aI jo V2 (tC (.int 12)))) V3) (Cc V1 (aI jo V2 (tC (.int 12))) ut)))
 (bc (dA (dW V1 (tC (.int 0)) (tC (.int 0))))))
def CA:List Str:=["script","cells","k","cell"]
def Bo(K:Za):TS :=
 ap (aP (tC (.int 0)) (Cc V0 (tC (.int 2)) ut))
 (bc V0)
def CD:List Str:=["pen"]
def Bj(K:Za)(sp_law_spread:Sp):TS :=
 ap (bS (aQ (aI Ep (aI (cV K) V0 (tC (.int 2))) V1)) (ap (aP (aI (cV K) V0 (tC (.int 1))) U2)
 (ap (aP (tC (.int 0)) U3)
 (ap (bS (aQ (aI Ep V2 (dB (eG K) (ay (aI (cV K) V0 (tC (.int 0))))))) (aP (aI (cV K) (aI (cV K) V0 (tC (.int 0))) V2) U3) (bS (aQ (aI Er (dB (eG K) (ay (aI (cV K) V0 (tC (.int 0))))) (tC (.int 0)))) (aP (aI jo (aI (cV K) (aI (cV K) V0 (tC (.int 0))) (aI jo (aI fE (aI me V2 (tC (.int 5))) (tC (.int 3))) (dB (eG K) (ay (aI (cV K) V0 (tC (.int 0))))))) (aI fE (aI IK (tC (.int 10)) (tC (.int 17))) V2)) U3) (bg)))
 (ap (aP (aI fE V2 (tC (.int 1))) (Cc V0 (tC (.int 1)) ut))
 (aP (aM sp_law_spread (aO V3 V2)) (Cc V0 (tC (.int 2)) ut)))))) (bg))
 (ap (aP (aI jo (aI (cV K) V0 (tC (.int 2))) V1) U4)
 (ap (aP (aI FS (aI (cV K) V0 (tC (.int 2))) V1) (Cc V0 (tC (.int 2)) ut))
 (bc V4)))
def Cy:List Str:=["pen","many","at","cell","found"]
def zE(K:Za)(sp_law_take:Sp):TS :=
 ap (aP (tC (.str "abcdefghijklmnopqrstuvwxyz")) U2)
 (ap (aP (vp K "str" (IL K) (tC (.str "")) (au (c6 1 [2,0] (uS (ay (tC (.int 7)))) U0 (kG) (aI FR V1 (aM sp_law_take (aO V2 (tC (.int 26)))))) bh)) U3)
 (ap (aP (aM sp_law_take (aO V0 (tC (.int 3)))) U4)
 (ap (aP (aM sp_law_take (aO V0 (tC (.int 26)))) U5)
 (ap (aP (aM sp_law_take (aO V0 (tC (.int 8)))) U6)
 (ap (aP (dA (bh)) U7)
 (ap (dR (uS (ay V1)) U8 (ap (aP (aI FR V2 (aI jo (aI fE V5 (aI me (tC (.int 3)) V8)) (tC (.int 26)))) U9)
 (ap (aP (A2 HI V3 (eU) (gj (aI jo (aI fE V6 (aI me V8 (aI jo V4 (tC (.int 2))))) (tC (.int 8))))) Ks)
 (ap (aP (aI (cV K) (dA (dW (tC (.int 0)) (dB (eG K) (ay Iv)) (aI FS (dB (eG K) (ay Iv)) (tC (.int 2))))) V4) U11)
 (bV (vp K "list" cT V7 (ay (aI IQ (aI IQ (A2 HI Iv (eU) (gj V11)) V9) (A2 HI Iv (gj V11) (eU))))))))))
 (bc V7)))))))
def AW:List Str:=["pen","many","letters","base","way","turn","size","found","k","sign","part","at"]
def DZ(K:Za):TS :=
 bS (aQ (aI (kM K true) V1 V0)) (bV (vp K "list" cT V0 (ay V1))) (bg)
def Fb:List Str:=["doors","door"]
def qN(K:Za)(sp_law_take:Sp)(sp_law_put:Sp):TS :=
 ap (aP (dA (bh)) U5)
 (ap (aP (aM sp_law_take (aO V0 (tC (.int 2)))) U6)
 (ap (dR (wI K (ay V3)) (g0 K 2 (aY U7 (aY U8 (gP)))) (ap (dR (uS (au (aI (cV K) (dA (au (tC (.int 0)) (dW (tC (.int 1)) (tC (.int 1)) (tC (.int 2))))) (aM sp_law_take (aO V0 (tC (.int 4))))) bh)) U9 (ap (aP (bw (au (tC (.str "say")) (au (aI (cV K) V2 (aM sp_law_take (aO V0 (dB (eG K) (ay V2))))) bh))) Ks)
 (bV (aM sp_law_put (au V5 (au (bw (au V8 (au Iv (au (aI (cV K) V3 (aM sp_law_take (aO V0 (dB (eG K) (ay V3))))) bh)))) bh))))))
 (ap (dR (bT K V1) U11 (dR (uS (au (aI (cV K) (dA (au V4 (dW (tC (.int 1)) (tC (.int 1)) (tC (.int 2))))) (aM sp_law_take (aO V0 (tC (.int 4))))) bh)) U9 (bV (aM sp_law_put (au V5 (au (bw (au V8 (au (bw (aO (tC (.str "ask")) V11)) (au (aI (cV K) V3 (aM sp_law_take (aO V0 (dB (eG K) (ay V3))))) bh)))) bh))))))
 (ap (aP (aI (cV K) (dA (au (A2 (qW K) V3 (gj (aI fE V7 (tC (.int 1)))) (eU)) (ay (A2 (qW K) V3 (eU) (gj V7))))) V6) U12)
 (bS (lC (aQ (aI (uu K) V12 (dA (bh)))) (aQ (aI zg (aM sp_law_take (aO V0 (tC (.int 3)))) (tC (.int 0))))) (bV (aM sp_law_put (au V5 (au (bw (au V8 (au (bw (ay (tC (.str "still")))) (au (aI (oA K) V12 (aM sp_law_take (aO V0 (dB (eG K) (ay V12))))) bh)))) bh)))) (bg))))))
 (bc V5)))
def rA:List Str:=["pen","asks","says","rooms","full","doors","down","k","room","turn","sign","ask","later"]
def zG(K:Za)(sp_law_draw_doors:Sp)(sp_law_names:Sp)(sp_law_take:Sp)(sp_law_anew:Sp):TS :=
 ap (bV (aM sp_law_anew (ay V0)))
 (ap (aP (aM sp_law_names (aO V0 (tC (.int 8)))) U3)
 (ap (aP (A2 (qW K) V3 (eU) (gj (aI fE (tC (.int 1)) (aI (cV K) (dA (au (tC (.int 0)) (au (tC (.int 1)) (au (tC (.int 1)) (dW (tC (.int 2)) (tC (.int 2)) (tC (.int 3))))))) (aM sp_law_take (aO V0 (tC (.int 6)))))))) U4)
 (ap (aP (A2 (qW K) V3 (gj (tC (.int 4))) (gj (aI fE (tC (.int 5)) (aI (cV K) (dA (au (tC (.int 0)) (au (tC (.int 1)) (au (tC (.int 1)) (dW (tC (.int 2)) (tC (.int 2)) (tC (.int 3))))))) (aM sp_law_take (aO V0 (tC (.int 6)))))))) U5)
 (ap (aP (aM sp_law_names (aO V0 (aI fE (tC (.int 1)) (aM sp_law_take (au V0 (ay V1)))))) U6)
 (ap (aP (aM sp_law_draw_doors (au V0 (au V4 (dW V5 V6 V2)))) U7)
 (bc (bw (au V4 (dW V5 V6 V7)))))))))
def AX:List Str:=["pen","most","full","words","asks","says","rooms","doors"]
def vA(K:Za)(C_Machine:Addr)(sp_Machine_init:Sp):TS :=
 bc (zI C_Machine sp_Machine_init [] E0 (au (dB (da K) (ay (aI (oA K) V0 (tC (.int 0))))) (au (dB (da K) (ay (aI (oA K) V0 (tC (.int 1))))) (au (dB (da K) (ay (aI (oA K) V0 (tC (.int 2))))) (au (dB (da K) (ay (aI (oA K) V0 (tC (.int 3))))) bh)))))
def v9:List Str:=["told"]
def Bk(K:Za)(sp_law_same:Sp):TS :=
 ap (bS (tB (Hj V1)) (bc (Hj V0)) (bg))
 (ap (bS (aQ (aI BJ V1 (tC (.bl true)))) (bc (aI BJ V0 (tC (.bl true)))) (bg))
 (ap (bS (aQ (aI BJ V1 (tC (.bl false)))) (bc (aI BJ V0 (tC (.bl false)))) (bg))
 (ap (bS (tB (dB (vV K) (aO V1 (tC (.ty "int"))))) (bc (rR (dB (vV K) (aO V0 (tC (.ty "int")))) (rR (IG (dB (vV K) (aO V0 (tC (.ty "bool"))))) (aI (j5 K) V0 V1)))) (bg))
 (ap (bS (tB (dB (vV K) (aO V1 (tC (.ty "str"))))) (bc (rR (dB (vV K) (aO V0 (tC (.ty "str")))) (aI (j5 K) V0 V1))) (bg))
 (ap (bS (Ea (aQ (aI HJ (dB (vV K) (aO V1 (tC (.ty "tuple")))) (dB (vV K) (aO V0 (tC (.ty "tuple")))))) (aQ (aI HJ (dB (vV K) (aO V1 (tC (.ty "list")))) (dB (vV K) (aO V0 (tC (.ty "list"))))))) (bc (tC (.bl false))) (bg))
 (ap (bS (aQ (aI HJ (dB (eG K) (ay V0)) (dB (eG K) (ay V1)))) (bc (tC (.bl false))) (bg))
 (ap (dR (Gv K (aO V0 V1)) (g0 K 2 (aY U2 (aY U3 (gP)))) (bS (tZ (tB (aM sp_law_same (aO V2 V3)))) (bc (tC (.bl false))) (bg)))
 (bc (tC (.bl true))))))))))
def Cz:List Str:=["found","due","one","other"]
def D0(K:Za):TS :=
 bc (rR (aI HJ V0 (tC (.str ""))) (rR (aI rLeI (dB (eG K) (ay V0)) (tC (.int 8))) (dB (HL K) (ay (c6 1 [] (JW V0) U0 (kG) (aI rInS V0 (tC (.str "abcdefghijklmnopqrstuvwxyz"))))))))
def Fc:List Str:=["text"]
def D_(K:Za):TS :=
 ap (aP (ow) U1)
 (ap (dR (bT K V0) U2 (l_ V1 V2 (tC (.bl true))))
 (bc V1))
def wX:List Str:=["things","keys","thing"]
def n8(K:Za)(sp_is_name:Sp)(sp_as_keys:Sp):TS :=
 ap (bS (aQ (aI zg (dB (eG K) (ay V0)) (tC (.int 0)))) (bc (tC (.int 0))) (bg))
 (ap (aP (aM sp_as_keys (ay V2)) U3)
 (ap (dR (wI K (ay V0)) (g0 K 2 (aY U4 (aY U5 (gP)))) (ap (bS (Ea (aQ (aI zg V4 V1)) (Ea (tB (sw K V5 V3)) (tZ (tB (aM sp_is_name (ay V5)))))) (bc V4) (bg))
 (l_ V3 V5 (tC (.bl true)))))
 (bc (tC .non))))
def oO:List Str:=["names","most","taken","ahead","number","name"]
def xW(K:Za)(a_STILL:Addr):TS :=
 bc (aI sA (aI sA (c6 1 [] (bT K V0) U0 (kG) (bw (aO (tC (.str "ask")) V0))) (c6 1 [] (bT K V1) U0 (kG) (bw (aO (tC (.str "say")) V0)))) (dA (ay (tC (.ref a_STILL)))))
def y_:List Str:=["asks","says"]
def n_(K:Za)(sp_as_keys:Sp):TS :=
 ap (aP (aM sp_as_keys (ay V1)) U3)
 (ap (aP (jE) U4)
 (ap (dR (wI K (ay V0)) (g0 K 2 (aY U5 (aY U6 (gP)))) (ap (bS (Ea (aQ (aI zg V5 (tC (.int 2000)))) (tB (sw K V6 V4))) (bc V5) (bg))
 (ap (bS (Ea (tB (dk K (aI (oA K) V6 (tC (.int 0))) V3)) (Ea (aQ (aI (kM K true) (aI (oA K) V6 (tC (.int 1))) V2)) (tB (dk K (aI (oA K) V6 (tC (.int 2))) V3)))) (bc V5) (bg))
 (l_ V4 V6 (tC (.bl true))))))
 (bc (tC .non))))
def oP:List Str:=["doors","rooms","signs","own_rooms","ahead","number","door"]
def jb(K:Za):TS :=
 ap (aP (jE) U1)
 (ap (dR (bT K V0) (g0 K 3 (aY U2 (aY U3 (aY U4 (gP))))) (bV (vp K "list" cT (vp K "dict" C8 V1 (aO (bw (au V2 (ay V3))) (dA (bh)))) (ay V4))))
 (bc V1))
def jf:List Str:=["doors","goals","start","sign","goal"]
def tS(K:Za)(a_STILL:Addr):TS :=
 ap (aP (ow) U2)
 (ap (aP (dA (ay V1)) U3)
 (ap (om (aQ (aI Er (dB (eG K) (ay V3)) (tC (.int 0)))) (ap (aP (Hk K "list" Jg V3) U4)
 (dR (JX K (uc K V0 (bw (aO V4 (tC (.ref a_STILL)))) (bw (bh)))) U5 (bS (tB (dk K V5 V2)) (ap (l_ V2 V5 (tC (.bl true)))
 (bV (vp K "list" cT V3 (ay V5)))) (bg)))))
 (bc V2)))
def vb:List Str:=["goals","room","led","waiting","here","goal"]
def pf(K:Za):TS :=
 ap (dR (wI K (ay V0)) (g0 K 2 (aY U2 (aY U3 (gP)))) (bS (tB (sw K V3 (gR K V1 V3))) (bc V2) (bg)))
 (bc (tC .non))
def qe:List Str:=["rooms","led","number","room"]
def zD(K:Za):TS :=
 bS (tB (Fu V1)) (t4) (bg)
def AV:List Str:=["part","number"]
def xQ(K:Za)(sp_need_none:Sp)(sp_first_wrong_door:Sp)(sp_door_signs:Sp)(sp_first_wrong_name:Sp):TS :=
 ap (bV (aM sp_need_none (aO (tC (.str "asks")) (aM sp_first_wrong_name (dW V0 (tC (.int 4)) (dA (bh)))))))
 (ap (bV (aM sp_need_none (aO (tC (.str "says")) (aM sp_first_wrong_name (dW V1 (tC (.int 4)) V0)))))
 (ap (bV (aM sp_need_none (aO (tC (.str "rooms")) (aM sp_first_wrong_name (dW V2 (tC (.int 150)) (dA (bh)))))))
 (bV (aM sp_need_none (au (tC (.str "doors")) (ay (aM sp_first_wrong_door (dW V3 V2 (aM sp_door_signs (aO V0 V1))))))))))
def yZ:List Str:=["asks","says","rooms","doors"]
def qP(K:Za):TS :=
 ap (aP (ow) U2)
 (ap (dR (bT K V0) U3 (l_ V2 V3 (dA (bh))))
 (ap (dR (bT K V1) U4 (bV (vp K "list" cT (gR K V2 (aI (oA K) V4 (tC (.int 0)))) (ay V4))))
 (bc V2)))
def rC:List Str:=["rooms","doors","leaving","room","door"]
def qO(K:Za):TS :=
 bc (dB (HL K) (au (c6 1 [] (bT K V0) U0 (kG) (aI zg (aI (oA K) (aI (oA K) V0 (tC (.int 1))) (tC (.int 0))) (tC (.str "ask")))) bh))
def rB:List Str:=["doors"]
def oj(K:Za)(sp_need_none:Sp)(sp_first_led_round:Sp)(sp_led_by_still:Sp)(sp_goals_by_start_and_sign:Sp)(sp_as_keys:Sp)(sp_has_asks_alone:Sp)(sp_doors_by_start:Sp)(sp_need_parts:Sp):TS :=
 ap (bV (aM sp_need_parts (au V1 (dW V2 V3 V4))))
 (ap (pJ K V0 (dB (da K) (ay V1)) "own_asks")
 (ap (pJ K V0 (dB (da K) (ay V2)) "own_says")
 (ap (pJ K V0 (dB (da K) (ay V3)) "own_rooms")
 (ap (pJ K V0 (dB (da K) (ay V4)) "own_doors")
 (ap (pJ K V0 (aM sp_doors_by_start (aO V3 V4)) "leaving")
 (ap (pJ K V0 (aM sp_as_keys (au (c6 1 [0] (bT K V3) U0 (tB (aM sp_has_asks_alone (ay (gR K (gk K V1 "leaving") V0)))) V0) bh)) "quiet")
 (ap (pJ K V0 (aM sp_goals_by_start_and_sign (ay V4)) "sign_goals")
 (ap (pJ K V0 (dB (HK K) (au (c6 1 [0] (bT K V3) U0 (kG) (bw (aO V0 (aM sp_led_by_still (au (gk K V1 "sign_goals") (ay V0)))))) bh)) "still_led")
 (bV (aM sp_need_none (aO (tC (.str "still")) (aM sp_first_led_round (au V3 (ay (gk K V0 "still_led")))))))))))))))
def oS:List Str:=["self","asks","says","rooms","doors"]
def oh(K:Za):TS :=
 bc (sw K V1 (gk K V0 "quiet"))
def oR:List Str:=["self","room"]
def nG(K:Za)(sp_with_still:Sp)(C_Machine:Addr)(sp_Machine_goals:Sp)(a_HUSH:Addr)(sp_Machine_is_quiet:Sp):TS :=
 ap (bS (aQ (aI (j5 K) V2 (tC (.ref a_HUSH)))) (bc (dB (Af K) (ay (c6 1 [0] (Gw K V1) U0 (tB (cZ C_Machine "is_quiet" sp_Machine_is_quiet [] E0 V1 (ay V0))) V0)))) (bg))
 (ap (aP (dA (bh)) U3)
 (ap (dR (Gw K V1) U4 (bV (vp K "list" C_ V3 (ay (cZ C_Machine "goals" sp_Machine_goals [] E0 V0 (aO V4 V2))))))
 (bc (aM sp_with_still (aO V0 V3)))))
def nM:List Str:=["M","face","sign","goals","room"]
def df(p:Addr)(H H':Hp):Prop:=∀b o,H b=some o->b≠p->H' b=some o
theorem df.refl(p:Addr)(H:Hp):df p H H:=fun _ _ h _=>h
theorem df.trans(a:df p H H1)(b:df p H1 H2):df p H H2:=fun c o h n=>b c o (a c o h n) n
theorem ab.exB(a:ab H H'):df p H H':=fun b o h _=>a b o h
theorem df.upd(p:Addr)(H:Hp)(o:HO):df p H (upd H p o):=fun b u h n=>by rw[ag n];exact h
theorem ab.new{H:Hp}{a:Addr}{o:HO}(h:H a=none):ab H (upd H a o):=fun b u e=>by rw[ag (ae e h)];exact e
theorem df.free(e:df p H H'){u:HO}(hp:H' p=some u)(h:H' l=none):H l=none:=by
 cases q:H l with
 |none=>rfl
 |some o =>
  by_cases z:l=p
  ·subst z;rw[hp]at h;cases h
  ·rw[e l o q z]at h;cases h
theorem kp{H:Hp}{a b:Addr}{o x:HO}(h:H b=some o)(n:H a=none):upd H a x b=some o:=by rw[ag (ae h n)];exact h
structure DJ(H:Hp)(p c:Addr)(at_ rest:Int)(ns:List Int):Prop where
 pen:H p=some (.lst [.ref c,.int at_,.int rest])
 cells:H c=some (.lst (ns.map V.int))
 at0:0<=at_
 rest0:0<=rest
theorem DJ.ne(h:DJ H p c a r ns):c≠p:=by
 intro e;have h1:=h.pen;have h2:=h.cells;rw[e,h1]at h2;injection h2 with h2;injection h2 with h2;cases ns with
 |nil=>cases h2
 |cons n ns=>injection h2 with h2;cases h2
def g6(H:Hp)(p c:Addr):Prop:=∃a r ns,DJ H p c a r ns
theorem g6.ex(h:g6 H p c)(e:ab H H'):g6 H' p c:=by
 obtain⟨a,r,ns,h1,h2,h3,h4⟩:=h;exact⟨a,r,ns,e _ _ h1,e _ _ h2,h3,h4⟩
theorem g6.pen(h:g6 H p c):∃o,H p=some o:=by
 obtain⟨a,r,ns,h1,_⟩:=h;exact⟨_,h1⟩
theorem g6.cell(h:g6 H p c):∃o,H c=some o:=by
 obtain⟨a,r,ns,_,h1,_⟩:=h;exact⟨_,h1⟩
theorem g6.upd{l:Addr}{o:HO}(h:g6 H p c)(h1:p≠l)(h2:c≠l):g6 (upd H l o) p c:=by
 obtain⟨a,r,ns,g1,g2,g3,g4⟩:=h;exact⟨a,r,ns,by rw[ag h1];exact g1,by rw[ag h2];exact g2,g3,g4⟩
theorem g6.nep{l:Addr}(h:g6 H p c)(hl:H l=none):p≠l:=let⟨_,e⟩:=h.pen;ae e hl
theorem g6.nec{l:Addr}(h:g6 H p c)(hl:H l=none):c≠l:=let⟨_,e⟩:=h.cell;ae e hl
theorem df.new{H:Hp}{a:Addr}{o:HO}(h:H a=none):df p H (L2.upd H a o):=fun b u e _=>by rw[ag (ae e h)];exact e
inductive mP (vs:List V)(H:Hp)(Q:VK)(E:XK):Prop
 |mk (c a:Int):(vs=[.int c,.int a])->(0<=a)->(∀r:Int,0<=r->Q (.int r) H)->mP  vs H Q E
theorem p_{j:Int}(h1:-(2 ^ 64)<j)(h2:j<2 ^ 64):G4 i j:=.inr ⟨h1,h2⟩
theorem Eh{K:Za}(h:mP vs H Q E):xS K (bJ Q) (start y4 vs) H:=by
 obtain⟨c,a,rfl,ha,k⟩:=h;refine⟨_,rfl,_,_,rfl,rfl,⟨by decide,by decide,by decide⟩,_,_,rfl,rfl,_,rfl,?_⟩;refine jJ (fun h=>?_) (fun _=>?_)
 ·refine⟨_,rfl,k _ ?_⟩;have:=of_decide_eq_true h;have e:((10:Int) ^ (18:Int).toNat)=1000000000000000000:=by decide
  omega
 ·have one:∀z:Int,0<=z % 2147483629/\z % 2147483629<2147483629:=fun z=>⟨qv _ (by decide),qt _ (by decide)⟩;have two:∀z:Int,0<=z % 2147483587/\z % 2147483587<2147483587:=fun z=>⟨qv _ (by decide),qt _ (by decide)⟩;have three:∀z:Int,0<=z % 2147483563/\z % 2147483563<2147483563:=fun z=>⟨qv _ (by decide),qt _ (by decide)⟩;refine⟨_,rfl,_,_,rfl,rfl,(by show(0:Int)<1000000007;decide),_,_,rfl,rfl,p_ (by decide) (by decide),_,rfl,_,_,rfl,rfl,p_ (by decide) (by decide),_,_,rfl,rfl,_,_,rfl,rfl,_,_,rfl,rfl,(by show(0:Int)<2147483629;decide),?_⟩;generalize hz1:(c % 1000000007 * 69069+a * 40503+977)=z1;obtain⟨o1,o2⟩:=one z1;generalize z1 % 2147483629=o at o1 o2 ⊢;refine⟨_,rfl,_,rfl,_,_,rfl,rfl,p_ (by omega) (by omega),_,rfl,_,_,rfl,rfl,p_ (by decide) (by decide),_,_,rfl,rfl,_,rfl,_,_,rfl,rfl,(by show(0:Int)<65537;decide),_,_,rfl,rfl,_,_,rfl,rfl,(by show(0:Int)<2147483587;decide),?_⟩;generalize hz2:(o * o+a * 7919+c % 65537)=z2;obtain⟨p1,p2⟩:=two z2;generalize z2 % 2147483587=q at p1 p2 ⊢;refine⟨_,rfl,_,rfl,_,_,rfl,rfl,p_ (by omega) (by omega),_,rfl,_,_,rfl,rfl,p_ (by decide) (by decide),_,_,rfl,rfl,_,_,rfl,rfl,_,_,rfl,rfl,(by show(0:Int)<2147483563;decide),?_⟩;generalize hz3:(q * q+o * 31+5)=z3;obtain⟨r1,r2⟩:=three z3;generalize z3 % 2147483563=r at r1 r2 ⊢;refine⟨_,rfl,_,_,rfl,rfl,p_ (by decide) (by decide),_,rfl,_,_,rfl,rfl,_,_,rfl,rfl,p_ (by decide) (by decide),_,rfl,_,_,rfl,rfl,k _ ?_⟩;omega
def sM:Sp:=fun vs H Q _=>∃p c,vs=[.ref p]/\g6 H p c/\∀H',g6 H' p c->df p H H'->Q (.ref p) H'
theorem HD{K:Za}(h:sM vs H Q E):Bo K (bJ Q) (start CD vs) H:=by
 obtain⟨p,c,rfl,⟨a,r,ns,h⟩,k⟩:=h;refine⟨_,rfl,p,_,_,_,rfl,rfl,h.pen,rfl,_,rfl,k _ ⟨a,0,ns,aa,?_,h.at0,Int.le_refl 0⟩ (df.upd _ _ _)⟩;rw[ag h.ne];exact h.cells
theorem DF{ns:List Int}{a:Int}(h0:0<=a)(h1:a<ns.length):∃z,qk (ns.map V.int) a=some (.int z):=by
 obtain⟨n,rfl⟩:=jA h0;have hn:n<ns.length:=by omega
 exact⟨ns[n],bH (by simp[hn])⟩
inductive fK (vs:List V)(H:Hp)(Q:VK)(E:XK):Prop
 |mk (p c:Addr) (m:Int):(vs=[.ref p,.int m])->(g6 H p c)->(0<m)->(m<1073741824)->(∀(r:Int) (H':Hp),0<=r->r<m->g6 H' p c->df p H H'->Q (.int r) H')->fK  vs H Q E
theorem dX{Q:VK}{m:Int}(hp:g6 H p c)(m0:0<m)(m1:m<1073741824)(k:∀(r:Int) (H':Hp),0<=r->r<m->g6 H' p c->df p H H'->Q (.int r) H'):fK [.ref p,.int m] H Q E:=by
 exact⟨p,c,m,rfl,hp,m0,m1,k⟩
theorem Hu{K:Za}(h:fK vs H Q E):Bj K mP (bJ Q) (start Cy vs) H:=by
 obtain⟨p,c,m,rfl,⟨a,r,ns,h⟩,hm,hm2,k⟩:=h;have fin:∀(H':Hp) (a' r':Int) (x y:Option V),DJ H' p c a' r' ns->df p H H' ->
   (ap (aP (aI jo (aI (cV K) V0 (tC (.int 2))) V1) U4) (ap (aP (aI FS (aI (cV K) V0 (tC (.int 2))) V1) (Cc V0 (tC (.int 2)) ut)) (bc V4)))
    (bJ Q) [some (.ref p),some (.int m),x,y,none] H':=by
  intro H' a' r' x y h' ex;refine⟨_,rfl,p,_,2,_,rfl,rfl,az.of h'.pen,rfl,_,rfl,_,_,rfl,rfl,hm,?_⟩;refine⟨_,rfl,p,_,2,_,rfl,rfl,az.of h'.pen,rfl,_,rfl,_,_,rfl,rfl,⟨hm,hm2⟩,_,rfl,p,_,_,_,rfl,rfl,h'.pen,rfl,?_⟩;refine⟨_,rfl,k _ _ (qv _ (by omega)) (qt _ hm) ⟨a',_,ns,aa,?_,h'.at0,Int.ediv_nonneg h'.rest0 (by omega)⟩ (ex.trans (df.upd _ _ _))⟩;rw[ag h'.ne];exact h'.cells
 refine⟨_,rfl,p,_,2,_,rfl,rfl,az.of h.pen,rfl,_,rfl,_,_,rfl,rfl,_,rfl,?_⟩;refine jJ (fun h1=>?_) (fun h1=>?_)
 ·-- at=pen[1];cell=0;if at<len(pen[0])
  refine⟨_,rfl,p,_,1,_,rfl,rfl,az.of h.pen,rfl,?_⟩;have la:(V.int ((ns.map V.int).length:Nat))=V.int (ns.length:Nat):=by rw[aj]
  refine⟨_,rfl,_,rfl,p,_,0,_,rfl,rfl,az.of h.pen,rfl,.inl ⟨c,_,rfl,.inl (az.of h.cells),_,_,rfl,la,_,rfl,?_⟩⟩;refine jJ (fun h2=>?_) (fun h2=>?_)
  ·obtain⟨z,hz⟩:=DF (ns:=ns) h.at0 (of_decide_eq_true h2);refine⟨_,rfl,p,_,0,_,rfl,rfl,az.of h.pen,rfl,_,rfl,c,_,_,_,rfl,rfl,az.of h.cells,hz,?_⟩;refine⟨_,rfl,_,_,rfl,rfl,_,rfl,p,_,_,_,rfl,rfl,h.pen,rfl,?_⟩;refine⟨_,rfl,_,rfl,_,_,rfl,h.at0,fun q hq=>⟨_,rfl,p,_,_,_,rfl,rfl,aa,rfl,?_⟩⟩;rw[mM];refine fin _ (a+1) q _ _ ⟨aa,by rw[ag h.ne];exact h.cells,by have:=h.at0;omega,hq⟩ (df.upd _ _ _)
  ·refine⟨_,rfl,p,_,0,_,rfl,rfl,az.of h.pen,rfl,.inl ⟨c,_,rfl,.inl (az.of h.cells),_,_,la,rfl,_,rfl,?_⟩⟩;refine jJ (fun h3=>?_) (fun h3=>?_)
   ·have hl:(0:Int)<ns.length:=of_decide_eq_true h3;obtain⟨z,hz⟩:=DF (ns:=ns) (a:=(a * 5+3) % (ns.length:Int)) (qv _ (by omega)) (qt _ hl);refine⟨_,rfl,p,_,0,_,rfl,rfl,az.of h.pen,rfl,_,rfl,_,_,rfl,rfl,p_ (by decide) (by decide),_,_,rfl,rfl,_,rfl,p,_,0,_,rfl,rfl,az.of h.pen,rfl,.inl ⟨c,_,rfl,.inl (az.of h.cells),_,_,rfl,la,hl,c,_,_,_,rfl,rfl,az.of h.cells,hz,?_⟩⟩;refine⟨_,_,rfl,rfl,⟨by decide,by decide,by decide⟩,_,rfl,_,_,rfl,rfl,_,_,rfl,rfl,?_,?_⟩
    ·have e:((10:Int) ^ (17:Int).toNat)=100000000000000000:=by decide
     have:=h.at0;show(0:Int)<10 ^ (17:Int).toNat+a;omega
    refine⟨_,rfl,_,_,rfl,rfl,_,rfl,p,_,_,_,rfl,rfl,h.pen,rfl,?_⟩;refine⟨_,rfl,_,rfl,_,_,rfl,h.at0,fun q hq=>⟨_,rfl,p,_,_,_,rfl,rfl,aa,rfl,?_⟩⟩;rw[mM];refine fin _ (a+1) q _ _ ⟨aa,by rw[ag h.ne];exact h.cells,by have:=h.at0;omega,hq⟩ (df.upd _ _ _)
   ·refine⟨_,rfl,_,_,rfl,rfl,_,rfl,p,_,_,_,rfl,rfl,h.pen,rfl,?_⟩;refine⟨_,rfl,_,rfl,_,_,rfl,h.at0,fun q hq=>⟨_,rfl,p,_,_,_,rfl,rfl,aa,rfl,?_⟩⟩;rw[mM];refine fin _ (a+1) q _ _ ⟨aa,by rw[ag h.ne];exact h.cells,by have:=h.at0;omega,hq⟩ (df.upd _ _ _)
 ·exact fin H a r _ _ h (df.refl _ _)
inductive sG(K:Za)(vs:List V)(H:Hp)(Q:VK)(E:XK):Prop
 |mk (a:Addr) (ns:List Int):(vs=[.ref a])->(az K H a (ns.map V.int))->(ns.length<=63)->(∀(p c:Addr) (H':Hp),H p=none->g6 H' p c->ab H H'->Q (.ref p) H')->sG K vs H Q E
theorem wP(ns:List Int)(lo hi:Option Int):∃ms:List Int,fV (ns.map V.int) lo hi=ms.map V.int/\ms.length=(fV (ns.map V.int) lo hi).length:=by
 refine⟨(ns.drop (HT.sIx (ns.map V.int).length 0 lo)).take (HT.sIx (ns.map V.int).length (ns.map V.int).length hi-HT.sIx (ns.map V.int).length 0 lo),?_,?_⟩
 ·unfold fV;rw[nS,tj]
 ·unfold fV;rw[aG,aG,fj,fj,aj]
theorem Hw{K:Za}(h:sG K vs H Q E):Bl K (bJ Q) (start CA vs) H:=by
 obtain⟨a,ns,rfl,hs,hn,k⟩:=h;obtain⟨c0,e0,l0⟩:=wP ns none (some 12);obtain⟨c1,e1,l1⟩:=wP ns (some 12) (some 63);have hlen:c1≠[]->c0.length=12:=by
  intro hne;have hc1:0<c1.length:=by cases c1 with|nil=>exact absurd rfl hne|cons _ _=>simp
  rw[l1]at hc1;rw[l0];unfold fV at hc1 ⊢;rw[aG,fj,aj]at hc1;rw[aG,fj,aj];have s1:HT.sIx ns.length 0 (some 12)=min 12 ns.length:=HT.sIx_nat _ _ 12;have s2:HT.sIx ns.length ns.length (some 12)=min 12 ns.length:=HT.sIx_nat _ _ 12;rw[HT.sIx_none,s2];rw[s1]at hc1;omega
 refine⟨_,rfl,_,rfl,a,_,rfl,hs,fun q hq=>.inl ⟨q,_,rfl,.inl (az.of aa),fun c hc=>?_⟩⟩;rw[e0]at hc ⊢;have hcH:H c=none:=by
  have:c≠q:=fun z=>by subst z;rw[aa]at hc;cases hc
  rw[ag this]at hc;exact hc
 have hS:ab H (upd (upd H q (.lst (c0.map V.int))) c (.lst (c0.map V.int))):=(ab.new hq).trans (ab.new hc);refine⟨_,rfl,_,rfl,_,rfl,a,_,rfl,hS.seq hs,fun r hr=>⟨r,rfl,⟨_,az.of aa⟩,?_⟩⟩;rw[e1];have hcr:c≠r:=ae aa hr;refine mw (xs:=c1.map V.int) (fun i σ H'=>Jz fun(ms:List Int) (x y:Option V)=>JA (σ=[some (.ref a),some (.ref c),x,y]) (H' c=some (.lst (ms.map V.int))) (ms.length=c0.length) (H' r=some (.lst (c1.map V.int))) (ab H H'))
  ⟨c0,none,none,rfl,kp aa hr,rfl,aa,hS.trans (ab.new hr)⟩ (fun i σ H' _ ⟨ms,x,y,_,_,_,h,_⟩=>az.of h) ?_ ?_
 ·rintro i x σ H' t hi ⟨ms,u,v,rfl,hcell,hml,hr',hS'⟩ ht;have hi':i<c1.length:=by
   have:=(cu.mp hi).1;rwa[aj]at this
  have h12:=hlen (fun z=>by rw[z]at hi';simp at hi');obtain⟨z,rfl⟩:∃z,x=V.int z:=by
   rw[bQ,b9 hi']at hi;exact⟨_,(fe hi).symm⟩
  have hcell1:upd H' t (.tup [.int i,.int z]) c=some (.lst (ms.map V.int)):=kp hcell ht;have hidx:(i:Int) % 12=((i % 12:Nat):Int):=by omega
  have hlt:i % 12<ms.length:=by omega
  refine⟨t,_,rfl,br.of aa,rfl,_,_,rfl,_,_,rfl,rfl,?_⟩;have hat:qk (ms.map V.int) ((i:Int) % 12)=some (.int ms[i % 12]):=by rw[hidx];exact bH (by simp[hlt])
  refine⟨_,rfl,_,rfl,_,_,rfl,rfl,(by show(0:Int)<12;decide),c,_,_,_,rfl,rfl,az.of hcell1,hat,_,rfl,_,_,rfl,rfl,_,rfl,_,rfl,_,_,rfl,rfl,(by show(0:Int)<12;decide),c,_,_,i % 12,rfl,rfl,hcell1,?_,?_⟩
  ·rw[hidx];unfold G6;rw[if_pos (by omega),if_pos (by rw[aj];omega)];rw[jC]
  ·refine⟨ms.set (i % 12) (ms[i % 12]+z),_,_,rfl,?_,by rw[List.length_set];exact hml,?_,?_⟩
   ·rw[aa,List.map_set]
   ·rw[ag hcr.symm];exact kp hr' ht
   ·intro b o e;rw[ag (ae e hcH)];exact kp (hS' b o e) ht
 ·rintro σ H' ⟨ms,x,y,rfl,hcell,hml,hr',hS'⟩;refine⟨_,rfl,(by show 3<=ai;decide),fun p hp=>k p c _ (hS'.free hp) ⟨0,0,ms,aa,kp hcell hp,Int.le_refl _,Int.le_refl _⟩ (hS'.trans (ab.new hp))⟩
def yt(c:Nat):Prop:=97<=c/\c<=122
structure rD(w:Str):Prop where
 lo:1<=w.length
 hi:w.length<=8
 al:∀c∈w.cps.toList,yt c
theorem DH:∀n:Nat,n<26->(("abcdefghijklmnopqrstuvwxyz":Str).cps.toList)[n]?=some (97+n):=by decide +kernel
theorem DG:("abcdefghijklmnopqrstuvwxyz":Str).length<=ai:=by decide +kernel
theorem GX{r:Int}(h0:0<=r)(h1:r<26):qk (("abcdefghijklmnopqrstuvwxyz":Str).cps.toList) r=some (97+r.toNat):=by
 obtain⟨n,rfl⟩:=jA h0;rw[jC];exact bH (DH n (by omega))
theorem vX(cs:List Nat):∀acc:Array Nat,((cs.map fun c=>(⟨#[c]⟩:Str)).foldl (fun acc p=>acc++("":Str).cps++p.cps) acc).toList=acc.toList++cs:=by
 have e:("":Str).cps=#[]:=by decide +kernel
 induction cs with
 |nil=>intro acc;simp
 |cons c cs ih =>
  intro acc;rw[bI,nR,ih,e];simp
theorem BY(cs:List Nat):(xp "" (cs.map fun c=>(⟨#[c]⟩:Str))).cps.toList=cs:=by
 unfold xp cb.Str.glued;cases cs with
 |nil=>rfl
 |cons c cs =>
  rw[bI];show((cs.map fun c=>(⟨#[c]⟩:Str)).foldl (fun acc p=>acc++("":Str).cps++p.cps) #[c]).toList=_;rw[vX]
  rfl
theorem Hn{a b:Str}(h:a.cps.toList=b.cps.toList):a=b:=by
 cases a with|mk x=>cases b with|mk y=>exact congrArg Str.mk (Array.toList_inj.mp h)
theorem fJ(a:Str):a.length=a.cps.toList.length:=by simp[Str.length]
theorem yU(a b:Str):(a++b).cps.toList=a.cps.toList++b.cps.toList:=by
 show(a.cps++b.cps).toList=_;simp
theorem GO(z:Str)(m:Nat):(uY z none (some (m:Int))).cps.toList=z.cps.toList.take m:=by
 unfold uY;rw[HT.sIx_none,HT.sIx_nat,tu,Nat.sub_zero,fJ];show List.take _ _=_;rw[List.take_eq_take_iff];omega
theorem GP(z:Str)(m:Nat):(uY z (some (m:Int)) none).cps.toList=z.cps.toList.drop m:=by
 unfold uY;rw[HT.sIx_none,HT.sIx_nat,fJ];show List.take _ _=_;rw[xc (by rw[fj];omega)];by_cases h:m<=z.cps.toList.length
 ·rw[tf h]
 ·rw[Nat.min_eq_right (by omega),List.drop_length,qy (by omega)]
def fq(way size k:Nat):Nat:=(size+k * (way % 2)) % 8
def A0(way m:Nat):Nat:=if way=0 then 0 else if way=1 then m else m / 2
def nF(b:List Nat)(way turn size k:Nat):List Nat :=
 (b.take (fq way size k)).take (A0 way (fq way size k))++[97+(turn+3 * k) % 26]++(b.take (fq way size k)).drop (A0 way (fq way size k))
def zA(b:List Nat)(way turn size k:Nat):Str:=⟨(nF b way turn size k).toArray⟩
theorem qI{b:List Nat}(hb:b.length=7)(way turn size k:Nat):(nF b way turn size k).length=fq way size k+1:=by
 have h8:fq way size k<8:=s_ _ (by decide);unfold nF;rw[aK,aK,aG,fj,aG,hb];have:A0 way (fq way size k)<=fq way size k:=by unfold A0;split;omega;split;omega;omega
 simp;omega
theorem Ha{b:List Nat}(hb:b.length=7)(hl:∀c∈b,yt c)(way turn size k:Nat):rD (zA b way turn size k):=by
 have h8:fq way size k<8:=s_ _ (by decide);have hlen:=qI hb way turn size k;have e:(zA b way turn size k).cps.toList=nF b way turn size k:=by simp[zA]
 refine⟨?_,?_,?_⟩
 ·rw[fJ,e];omega
 ·rw[fJ,e];omega
 ·rw[e];intro c hc;unfold nF at hc;rcases a_.mp hc with hc|hc
  ·rcases a_.mp hc with hc|hc
   ·exact hl c (fR (fR hc))
   ·have:c=97+(turn+3 * k) % 26:=by simpa using hc
    subst this;have:(turn+3 * k) % 26<26:=s_ _ (by decide);exact⟨by omega,by omega⟩
  ·exact hl c (fR (List.mem_of_mem_drop hc))
theorem Fk{b:List Nat}(hb:b.length=7){way:Nat}(hw:way<3){j k:Nat}(hj:j<26)(hk:k<26)(h:zA b way turn size j=zA b way turn size k):j=k:=by
 have h8:∀i,fq way size i<8:=fun i=>s_ _ (by decide);have e:nF b way turn size j=nF b way turn size k:=by
  have:=congrArg (fun s=>Str.cps s |>.toList) h;simpa[zA]using this
 have el:fq way size j=fq way size k:=by
  have:=congrArg List.length e;rw[qI hb,qI hb]at this;omega
 have key:97+(turn+3 * j) % 26=97+(turn+3 * k) % 26:=by
  have hat:∀i,A0 way (fq way size i)<=fq way size i:=fun i=>by unfold A0;split;omega;split;omega;omega
  have get:∀i,(nF b way turn size i)[A0 way (fq way size i)]?=some (97+(turn+3 * i) % 26):=by
   intro i;unfold nF;have hl:((b.take (fq way size i)).take (A0 way (fq way size i))).length=A0 way (fq way size i):=by
    rw[aG,aG,hb];have:=h8 i;have:=hat i;omega
   rw[c9,n6 (by omega),hl,Nat.sub_self]
   rfl
  have g1:=get j;have g2:=get k;rw[e,el]at g1;rw[g1]at g2;exact fe g2
 omega
def kY(ws:Zb):Prop:=ws.Nodup/\∀w∈ws,rD w
def kE(b:List Nat)(way turn size n:Nat):List Str:=(jW n).map (zA b way turn size)
theorem Bb{b:List Nat}(hb:b.length=7)(hl:∀c∈b,yt c){way n:Nat}(hw:way<3)(hn:n<=26):kY (kE b way turn size n):=by
 refine⟨?_,fun w hm=>?_⟩
 ·unfold kE;rw[qr,List.pairwise_map];refine(List.nodup_range (n:=n)).imp_of_mem ?_;intro j k hj hk hne h;exact hne (Fk hb hw (by have:=List.mem_range.mp hj;omega) (by have:=List.mem_range.mp hk;omega) h)
 ·obtain⟨k,_,rfl⟩:=aw.mp hm;exact Ha hb hl _ _ _ _
inductive lX (vs:List V)(H:Hp)(Q:VK)(E:XK):Prop
 |mk (p c:Addr) (n:Nat):(vs=[.ref p,.int n])->(g6 H p c)->(n<=26)->(∀(l:Addr) (ws:Zb) (H':Hp),kY ws->ws.length=n->H l=none->H' l=some (.lst (ws.map V.str))->g6 H' p c->df p H H'->Q (.ref l) H')->lX  vs H Q E
theorem FI{K:Za}(h:lX vs H Q E):zE K fK (bJ Q) (start AW vs) H:=by
 obtain⟨p,c,n,rfl,hp,hn,k⟩:=h;refine⟨rfl,7,rfl,by decide,by decide,fun l hl=>?_⟩;refine Cj (lo:=0) (n:=Int.toNat 7) (fun i vs H'=>∃cs:List Nat,vs=cs.map (fun c=>V.str ⟨#[c]⟩)/\cs.length=i/\(∀c∈cs,yt c)/\g6 H' p c/\df p H H'/\H' l=some (.lst vs))
  ⟨[],rfl,rfl,(fun _ h=>nomatch h),hp.ex (ab.new hl),df.new hl,aa⟩ (fun i vs H' _ ⟨_,_,_,_,_,_,h⟩=>h) ?_ ?_
 rotate_left
 ·rintro i vs H' hi ⟨cs,rfl,hlen,hlet,hp',hex,hl'⟩;have hlp:=hp.nep hl;have hlc:=hp.nec hl;refine gN (se ?_);refine⟨_,rfl,_,rfl,dX hp' (by decide) (by decide) fun r H2 h0 h1 hp2 hex2=>⟨_,r,_,rfl,rfl,DG,GX h0 h1,?_⟩⟩;have hl2:=hex2 l _ hl' hlp.symm;refine⟨hl2,by rw[aj,hlen];exact ar (by omega),nA hi ⟨cs++[97+r.toNat],by rw[ax];rfl,by rw[aK,hlen];rfl,?_,hp2.upd hlp hlc,?_,aa⟩⟩
  ·intro x hc;rcases a_.mp hc with hc|hc
   ·exact hlet x hc
   ·have:x=97+r.toNat:=by simpa using hc
    subst this;exact⟨by omega,by omega⟩
  ·intro b o' e nb;rw[ag (ae e hl)];exact hex2 b o' (hex b o' e nb) nb
 ·rintro vs H1 ⟨cs,rfl,hlen,hlet,hp1,hex1,hl1⟩;refine⟨"",l,cs.map fun c=>(⟨#[c]⟩:Str),rfl,rfl,az.of (by rw[hl1,qq];rfl),?_,?_⟩
  ·have e0:("":Str).length=0:=by decide +kernel
   rw[e0,Nat.mul_zero,qq];have:∀cs:List Nat,(cs.map ((fun x=>Str.length x) ∘ fun c=>(⟨#[c]⟩:Str))).sum=cs.length:=by
    intro cs
    induction cs with
    |nil=>rfl
    |cons c cs ih=>rw[bI,List.sum_cons,ih,dS];show 1+_=_;omega
   rw[this,hlen];decide
  refine⟨_,rfl,dX hp1 (by decide) (by decide) fun way H2 w0 w1 hp2 hex2=>?_⟩;refine⟨_,rfl,dX hp2 (by decide) (by decide) fun turn H3 t0 t1 hp3 hex3=>?_⟩;refine⟨_,rfl,dX hp3 (by decide) (by decide) fun size H4 s0 s1 hp4 hex4=>?_⟩;have ex4:df p H H4:=((hex1.trans hex2).trans hex3).trans hex4;obtain⟨wy,rfl⟩:=jA w0;obtain⟨tn,rfl⟩:=jA t0;obtain⟨sz,rfl⟩:=jA s0;have hb:=BY cs;generalize xp "" (cs.map fun c=>(⟨#[c]⟩:Str))=base at hb ⊢;refine⟨(by show 0<=ai;decide),fun f hf=>?_⟩;obtain⟨op,hop⟩:=hp4.pen;have hfH:H f=none:=ex4.free hop hf;have hfp:=hp.nep hfH;have hfc:=hp.nec hfH;refine⟨_,rfl,n,rfl,by omega,by omega,kh (lo:=0) (n:=((n:Int)).toNat) (fun i σ H'=>∃(a b c' d:Option V),σ=[some (.ref p),some (.int n),some (.str "abcdefghijklmnopqrstuvwxyz"),some (.str base),some (.int wy),some (.int tn),some (.int sz),some (.ref f),a,b,c',d] /\
   g6 H' p c/\df p H H'/\H' f=some (.lst ((kE cs wy tn sz i).map V.str)))
   ⟨_,_,_,_,rfl,hp4.upd hfp hfc,ex4.trans (df.new hf),aa⟩ ?_ ?_⟩
  ·rintro i σ H' hi ⟨a,b,c',d,rfl,hp',hex',hf'⟩;have hi':i<n:=by omega
   have hwy:wy<3:=by omega
   have e26:((tn:Int)+3 * (0+(i:Int))) % 26=(((tn+3 * i) % 26:Nat):Int):=by omega
   refine⟨_,rfl,_,rfl,_,rfl,_,_,rfl,rfl,.inl ⟨by decide,by decide⟩,_,_,rfl,rfl,_,_,rfl,rfl,(by show(0:Int)<26;decide),_,_,_,rfl,rfl,DG,GX (qv _ (by decide)) (qt _ (by decide)),?_⟩;have blen:base.length<=ai:=by rw[fJ,hb,hlen];decide
   have e8:((sz:Int)+(0+(i:Int)) * ((wy:Int) % 2)) % 8=((fq wy sz i:Nat):Int):=by
    unfold fq;have:wy=0∨wy=1∨wy=2:=by omega
    rcases this with rfl|rfl|rfl<;>simp<;>omega
   refine⟨_,rfl,_,rfl,_,rfl,_,rfl,_,_,rfl,rfl,(by show(0:Int)<2;decide),_,_,rfl,rfl,.inr ⟨by omega,by omega⟩,_,_,rfl,rfl,_,_,rfl,rfl,(by show(0:Int)<8;decide),_,rfl,base,rfl,blen,?_⟩;rw[e8];have hpart:=GO base (fq wy sz i);rw[hb]at hpart;generalize uY base none (some ((fq wy sz i:Nat):Int))=part at hpart ⊢;have h8:fq wy sz i<8:=s_ _ (by decide);have plen:part.length=fq wy sz i:=by rw[fJ,hpart,aG,hlen];omega
   have pz:part.length<=ai:=by rw[plen];exact fb (ar (by omega))
   refine⟨_,rfl,.inr ⟨part,rfl,pz,_,rfl,.inr ⟨part,rfl,pz,_,_,rfl,rfl,⟨by decide,by decide⟩,(by show 3<=ai;decide),fun q hq=>?_⟩⟩⟩;have hqH:H q=none:=by
    obtain⟨op',hop'⟩:=hp'.pen;exact hex'.free hop' hq
   have hat:qk [V.int 0,V.int (part.length:Nat),V.int ((part.length:Int) / 2)] (wy:Int)=some (.int (A0 wy (fq wy sz i):Nat)):=by
    rw[plen];have:wy=0∨wy=1∨wy=2:=by omega
    rcases this with rfl|rfl|rfl
    ·rfl
    ·rfl
    ·show some (V.int (((fq 2 sz i:Nat):Int) / 2))=some (V.int ((A0 2 (fq 2 sz i):Nat):Int));have:A0 2 (fq 2 sz i)=fq 2 sz i / 2:=rfl;rw[this];congr 2
   refine⟨_,rfl,q,_,_,_,rfl,rfl,az.of aa,hat,?_⟩;have hf2:upd H' q (.lst [V.int 0,V.int (part.length:Nat),V.int ((part.length:Int) / 2)]) f=some (.lst ((kE cs wy tn sz i).map V.str)):=kp hf' hq;have c1:=GO part (A0 wy (fq wy sz i));have c2:=GP part (A0 wy (fq wy sz i));have l1:(uY part none (some ((A0 wy (fq wy sz i):Nat):Int))).length<=8:=by rw[fJ,c1,aG,hpart,aG,hlen];omega
   have l2:(uY part (some ((A0 wy (fq wy sz i):Nat):Int)) none).length<=8:=by rw[fJ,c2,fj,hpart,aG,hlen];omega
   refine⟨_,rfl,.inl ⟨rfl,_,az.of hf2⟩,_,rfl,_,rfl,_,rfl,part,rfl,pz,_,rfl,_,_,rfl,rfl,?_,_,rfl,_,rfl,_,rfl,part,rfl,pz,_,_,rfl,rfl,?_,f,_,_,rfl,rfl,hf2,?_,?_⟩
   ·have:Str.length ⟨#[97+(((tn:Int)+3 * (0+(i:Int))) % 26).toNat]⟩=1:=rfl;rw[this];exact fb (ar (by omega))
   ·rw[fJ,yU,aK,<-fJ,<-fJ];have:Str.length ⟨#[97+(((tn:Int)+3 * (0+(i:Int))) % 26).toNat]⟩=1:=rfl;rw[this];exact fb (ar (by omega))
   ·rw[aj];unfold kE;rw[aj,tw];exact ar (by omega)
   ·refine⟨_,_,_,_,rfl,(hp'.upd (hp.nep hqH) (hp.nec hqH)).upd hfp hfc,?_,?_⟩
    ·intro b' o' e nb;rw[ag (ae e hfH)];exact kp (hex' b' o' e nb) hq
    ·rw[aa];unfold kE;rw[List.range_succ,ax,ax];congr 3;show[V.str _]=[V.str _];congr 2;refine Hn ?_;rw[yU,yU,c1,c2,hpart,e26,jC];simp[zA,nF]
  ·rintro σ H' ⟨a,b,c',d,rfl,hp',hex',hf'⟩;have en:((n:Int)).toNat=n:=by omega
   rw[en]at hf';exact⟨_,rfl,k f _ H' (Bb hlen hlet (by omega) hn) (by unfold kE;rw[aj,tw]) hfH hf' hp' hex'⟩
structure am where
 a:Str
 sg:List Str
 b:Str
deriving DecidableEq
def SignAt(H:Hp)(s:Addr)(sg:Zb):Prop:=H s=some (.tup (sg.map V.str))
def g8(H:Hp)(t:Addr)(d:am):Prop:=∃s,H t=some (.tup [.str d.a,.ref s,.str d.b])/\SignAt H s d.sg
def gM(H H':Hp):Prop:=∀b xs,H b=some (.tup xs)->H' b=some (.tup xs)
theorem g8.kt(k:gM H H')(h:g8 H t d):g8 H' t d:=by
 obtain⟨s,h1,h2⟩:=h;exact⟨s,k _ _ h1,k _ _ h2⟩
theorem df.kt{xs:List V}(e:df p H H')(hp:H p=some (.lst xs)):gM H H':=fun b ys h=>e b _ h (fun z=>by rw[z,hp]at h;cases h)
theorem ab.kt(e:ab H H'):gM H H':=fun b ys h=>e b _ h
theorem gM.trans(a:gM H H1)(b:gM H1 H2):gM H H2:=fun x xs h=>b x xs (a x xs h)
theorem cL{H:Hp}{l:Addr}{xs:List V}{o:HO}(h:H l=some (.lst xs)):gM H (upd H l o):=fun b ys e=>by
 rw[ag (fun z=>by rw[z,h]at e;cases e)];exact e
abbrev cF(H:Hp)(ts:Ze)(ds:List am):Prop:=Paired (g8 H) ts ds
theorem Paired.get{α β:Type}{R:α->β->Prop}:∀{xs:List α}{ys:List β}{i:Nat}{y:β},Paired R xs ys->ys[i]?=some y->∃x,xs[i]?=some x/\R x y
 |_,_,i,y,.nil,h=>by simp at h
 |_,_,0,y,.cons r t,h=>by simp at h;subst h;exact⟨_,rfl,r⟩
 |_,_,i+1,y,.cons r t,h=>by
  simp at h;obtain⟨x,h1,h2⟩:=Paired.get t h;exact⟨x,by simpa using h1,h2⟩
theorem Paired.getL{α β:Type}{R:α->β->Prop}:∀{xs:List α}{ys:List β}{i:Nat}{x:α},Paired R xs ys->xs[i]?=some x->∃y,ys[i]?=some y/\R x y
 |_,_,i,y,.nil,h=>by simp at h
 |_,_,0,y,.cons r t,h=>by simp at h;subst h;exact⟨_,rfl,r⟩
 |_,_,i+1,y,.cons r t,h=>by
  simp at h;obtain⟨x,h1,h2⟩:=Paired.getL t h;exact⟨x,by simpa using h1,h2⟩
theorem cF.kt(k:gM H H')(h:cF H ts ds):cF H' ts ds:=Paired.mapP h fun _ _ r=>r.kt k
theorem Jb{H:Hp}{a:Addr}{o:HO}(h:H a=some o):upd H a o=H:=by
 funext b;by_cases e:b=a
 ·subst e;rw[aa,h]
 ·rw[ag e]
def gW(x:Str):DT:=.k (.inr x)
def uX(d:am):DT:=.t [gW d.a,.t (d.sg.map gW),gW d.b]
theorem pK(h:gW x=gW y):x=y:=by
 unfold gW at h;injection h with h;injection h
theorem ii:∀{x y:Zb},x.map gW=y.map gW->x=y
 |[],[],_=>rfl
 |[],_::_,h=>by cases h
 |_::_,[],h=>by cases h
 |a::x,b::y,h=>by
  rw[bI,bI]at h;injection h with h1 h2;rw[pK h1,ii h2]
theorem Im(h:uX x=uX y):x=y:=by
 unfold uX at h;injection h with h;injection h with h1 h;injection h with h2 h;injection h with h3 h;injection h2 with h2;cases x;cases y;simp only at *;rw[pK h1,ii h2,pK h3]
theorem fF(xs:Zb):DT.depths (xs.map gW)=0:=by
 induction xs with
 |nil=>rfl
 |cons x xs ih=>rw[bI];show max (DT.depth (gW x)) (DT.depths _)=0;rw[ih];rfl
theorem yL(d:am):(uX d).depth=2:=by
 show DT.depths [gW d.a,.t (d.sg.map gW),gW d.b]+1=2;show max (DT.depth (gW d.a)) (max (DT.depths (d.sg.map gW)+1) (max (DT.depth (gW d.b)) 0))+1=2;rw[fF]
 rfl
theorem EO(ds:List am):DT.depths (ds.map uX)<=8:=by
 induction ds with
 |nil=>exact cX _
 |cons x xs ih=>rw[bI];show max (DT.depth (uX x)) (DT.depths _)<=8;rw[yL];omega
theorem my{K:Za}:∀xs:List Str,DIns K H (xs.map gW) (xs.map V.str)
 |[]=>by show DIns K H [] [];unfold DIns;rfl
 |x::xs=>by
  rw[bI,bI];unfold DIns;refine⟨_,_,rfl,?_,my xs⟩;unfold gW mJ
  rfl
theorem js{K:Za}(x:Str):mJ K H (gW x) (.str x):=by unfold gW mJ;rfl
theorem aW{K:Za}{sg:Zb}(h:br K H s (sg.map V.str)):mJ K H (.t (sg.map gW)) (.ref s):=by
 unfold mJ;exact⟨s,_,rfl,h,my _⟩
theorem g8.dIn{K:Za}(h:g8 H t d):mJ K H (uX d) (.ref t):=by
 obtain⟨s,h1,h2⟩:=h;unfold uX;unfold mJ;refine⟨t,_,rfl,br.of h1,?_⟩;unfold DIns;refine⟨_,_,rfl,js _,?_⟩;unfold DIns;refine⟨_,_,rfl,aW (br.of h2),?_⟩;unfold DIns;refine⟨_,_,rfl,js _,?_⟩;unfold DIns
 rfl
theorem cF.dIns{K:Za}:∀{ts:Ze}{ds:List am},cF H ts ds->DIns K H (ds.map uX) (ts.map V.ref)
 |_,_,.nil=>by show DIns K H [] [];unfold DIns;rfl
 |_,_,.cons r t=>by
  rw[bI,bI];unfold DIns;exact⟨_,_,rfl,r.dIn,cF.dIns t⟩
theorem Ds{ds:List am}:uX d∈ds.map uX↔d∈ds:=by
 constructor
 ·intro h;obtain⟨x,hx,e⟩:=aw.mp h;rw[<-Im e];exact hx
 ·exact kz
def mh(ds:List am)(d:am):List am:=if d∈ds then ds else ds++[d]
inductive kK (vs:List V)(H:Hp)(Q:VK)(E:XK):Prop
 |mk (l t:Addr) (ts:Ze) (ds:List am) (d:am):(vs=[.ref l,.ref t])->(H l=some (.lst (ts.map V.ref)))->(cF H ts ds)->(g8 H t d)->(ds.length<=1000)->(∀ts':List Addr,cF H ts' (mh ds d)->Q .non (upd H l (.lst (ts'.map V.ref))))->kK  vs H Q E
theorem Jf{K:Za}(h:kK vs H Q E):DZ K (bJ Q) (start Fb vs) H:=by
 obtain⟨l,t,ts,ds,d,rfl,hl,hd,ht,hz,k⟩:=h;refine⟨_,rfl,_,rfl,uX d,ds.map uX,l,_,ht.dIn,rfl,.inl (az.of hl),hd.dIns,by rw[yL];decide,EO ds,_,rfl,?_⟩;by_cases hm:d∈ds
 ·rw[if_pos rfl,zzr1 (Ds.mpr hm)];refine bR ?_;have:=k ts (by unfold mh;rw[if_pos hm];exact hd);rw[Jb hl]at this;exact this
 ·rw[if_pos rfl,zzr0 (fun z=>hm (Ds.mp z))];refine cR ?_;refine⟨_,rfl,.inl ⟨rfl,_,az.of hl⟩,_,rfl,l,_,_,rfl,rfl,hl,?_,?_⟩
  ·rw[aj,Paired.length hd];exact ar hz
  ·have:=k (ts++[t]) (by unfold mh;rw[if_neg hm];exact c_ hd ht);rw[ax]at this;exact this
structure DI(R:am->Prop)(H0:Hp)(p c l:Addr)(m:Nat)(H:Hp):Prop where
 pen:g6 H p c
 ds:∃ts ds,H l=some (.lst (ts.map V.ref))/\cF H ts ds/\ds.Nodup/\(∀d∈ds,R d)/\ds.length<=m
 ex:df p H0 H
 fr:H0 l=none
 pl:p≠l
 cl:c≠l
section
variable{R:am->Prop}{H0 H H':Hp}{p c l:Addr}{m:Nat}
theorem g6.lst(h:g6 H p c):∃xs,H p=some (.lst xs):=by
 obtain⟨a,r,ns,h1,_⟩:=h;exact⟨_,h1⟩
theorem DI.took(h:DI R H0 p c l m H)(hp:g6 H' p c)(e:df p H H'):DI R H0 p c l m H':=by
 obtain⟨ts,ds,h1,h2,h3⟩:=h.ds;obtain⟨xs,hx⟩:=h.pen.lst;exact⟨hp,⟨ts,ds,e _ _ h1 h.pl.symm,h2.kt (e.kt hx),h3⟩,h.ex.trans e,h.fr,h.pl,h.cl⟩
theorem DI.new(h:DI R H0 p c l m H){o:HO}(hq:H q=none):DI R H0 p c l m (upd H q o) :=
 h.took (h.pen.ex (ab.new hq)) (df.new hq)
theorem DI.up(h:DI R H0 p c l m H){n:Nat}(hn:m<=n):DI R H0 p c l n H:=by
 obtain⟨ts,ds,h1,h2,h3,h4,h5⟩:=h.ds;exact⟨h.pen,⟨ts,ds,h1,h2,h3,h4,bC h5 hn⟩,h.ex,h.fr,h.pl,h.cl⟩
theorem DI.put(h:DI R H0 p c l m H){Q:VK}(ht:g8 H t d)(hR:R d)(hm:m<=1000)(k:∀H',DI R H0 p c l (m+1) H'->Q .non H'):kK [.ref l,.ref t] H Q E:=by
 obtain⟨ts,ds,h1,h2,h3,h4,h5⟩:=h.ds;refine⟨l,t,ts,ds,d,rfl,h1,h2,ht,bC h5 hm,fun ts' h'=>k _ ⟨h.pen.upd h.pl h.cl,⟨ts',mh ds d,aa,h'.kt (cL h1),?_,?_,?_⟩,?_,h.fr,h.pl,h.cl⟩⟩
 ·unfold mh;split
  ·exact h3
  ·next hn =>
   rw[cJ];refine⟨h3,by simp,?_⟩;intro a ha b hb e;have:b=d:=by simpa using hb
   subst this;exact hn (e▸ha)
 ·intro x hx;unfold mh at hx;split at hx
  ·exact h4 x hx
  ·rcases a_.mp hx with hx|hx
   ·exact h4 x hx
   ·have:x=d:=by simpa using hx
    rw[this];exact hR
 ·unfold mh;split
  ·omega
  ·rw[aK];show ds.length+1<=m+1;omega
 ·intro b o e n;rw[ag (ae e h.fr)];exact h.ex b o e n
end
theorem g6.ne_strs{a:Addr}{ws:Zb}(hp:g6 H p c)(ha:H a=some (.lst (ws.map V.str))):a≠p:=by
 intro e;obtain⟨x,y,ns,h1,_⟩:=hp;rw[e,h1]at ha;injection ha with ha;injection ha with ha;cases ws with
 |nil=>cases ha
 |cons w ws=>injection ha with ha;cases ha
theorem jn{K:Za}{r:R2}(hr:∀x y H Q,cV K x y H Q->r x y H Q){σ:L2.St}{Q:VK}{p a:Addr}{j:Nat}{ws:Zb}(h0:σ[0]?=some (some (.ref p)))(hj:σ[j]?=some (some (.ref a)))(hp:g6 H p c)
  (ha:H a=some (.lst (ws.map V.str))) (hne:ws≠[]) (hlen:ws.length<=1000) (k:∀w∈ws,∀H',g6 H' p c->df p H H'->Q (.str w) H') :
  ∃v,σ[j]?=some (some v)/\∃v0,σ[0]?=some (some v0)/\∃v1,σ[j]?=some (some v1)/\eG K [v1] H fun y H1=>fK [v0,y] H1 (fun y H2=>r v y H2 Q) E0:=by
 have hl:0<ws.length:=by cases ws with|nil=>exact absurd rfl hne|cons _ _=>simp
 have la:(V.int ((ws.map V.str).length:Nat))=V.int (ws.length:Nat):=by rw[aj]
 have hpa:=hp.ne_strs ha;have fin:∀(x:Int) (H':Hp),0<=x->x<(ws.length:Int)->g6 H' p c->df p H H'->cV K (.ref a) (.int x) H' Q:=by
  intro x H' x0 x1 hp' ex;obtain⟨n,rfl⟩:=jA x0;have hn:n<ws.length:=by omega
  exact⟨a,_,(n:Int),.str ws[n],rfl,rfl,az.of (ex _ _ ha hpa),bH (by simp[hn]),k _ (lK hn) H' hp' ex⟩
 exact⟨_,hj,_,h0,_,hj,.inl ⟨a,_,rfl,.inl (az.of ha),by rw[la];exact dX hp (by omega) (by omega) fun x H' x0 x1 hp' ex=>hr _ _ _ _ (fin x H' x0 x1 hp' ex)⟩⟩
def Up(up:Bool)(J2:Zb)(a b:Str):Prop:=∃i j:Nat,J2[i]?=some a/\J2[j]?=some b/\(if up=true then i<j else j<i)
structure mF(J0 J1 J2:Zb)(up:Bool)(d:am):Prop where
 a:d.a∈J2
 b:d.b∈J2
 sg:(∃w∈J0,d.sg=[("ask":Str),w])∨(∃w∈J1,d.sg=[("say":Str),w])∨(d.sg=[("still":Str)]/\Up up J2 d.a d.b)
def ao:List Str:=[("still":Str)]
structure AZ(J0 J1 J2:Zb)(d:am):Prop where
 a:d.a∈J2
 b:d.b∈J2
 sg:(∃w∈J0,d.sg=[("ask":Str),w])∨(∃w∈J1,d.sg=[("say":Str),w])∨d.sg=ao
theorem mF.d{J0 J1 J2:Zb}{up:Bool}{d:am}(h:mF J0 J1 J2 up d):AZ J0 J1 J2 d:=⟨h.a,h.b,h.sg.imp id (Or.imp id And.left)⟩
inductive Reach(ds:List am)(a:Str):Str->Prop
 |one {b:Str}(h:(⟨a,ao,b⟩:am)∈ds):Reach ds a b
 |step {b c:Str}(r:Reach ds a b) (h:(⟨b,ao,c⟩:am)∈ds):Reach ds a c
theorem sO{J2:Zb}(nd:J2.Nodup){i j:Nat}{a:Str}(hi:J2[i]?=some a)(hj:J2[j]?=some a):i=j:=by
 obtain⟨h1,e1⟩:=cu.mp hi;obtain⟨h2,e2⟩:=cu.mp hj;have pw:=List.pairwise_iff_getElem.mp nd;rcases Nat.lt_trichotomy i j with h|h|h
 ·exact absurd (e1.trans e2.symm) (pw i j h1 h2 h)
 ·exact h
 ·exact absurd (e2.trans e1.symm) (pw j i h2 h1 h)
theorem Up.trans{J2:Zb}(nd:J2.Nodup)(h1:Up up J2 a b)(h2:Up up J2 b c):Up up J2 a c:=by
 obtain⟨i,j,e1,e2,h⟩:=h1;obtain⟨j',k,e3,e4,h'⟩:=h2;have:=sO nd e2 e3;subst this;refine⟨i,k,e1,e4,?_⟩;cases up
 ·simp at h h' ⊢;omega
 ·simp at h h' ⊢;omega
theorem Up.irr{J2:Zb}(nd:J2.Nodup)(h:Up up J2 a a):False:=by
 obtain⟨i,j,e1,e2,h⟩:=h;have:=sO nd e1 e2;subst this;cases up
 ·simp at h
 ·simp at h
theorem Fn{J2:Zb}{ds:List am}(nd:J2.Nodup)(m:∀d∈ds,mF J0 J1 J2 up d)(h:Reach ds a b):Up up J2 a b:=by
 have edge:∀{a b:Str},(⟨a,ao,b⟩:am)∈ds->Up up J2 a b:=by
  intro a b h;rcases(m _ h).sg with⟨w,_,e⟩|⟨w,_,e⟩|⟨_,e⟩
  ·cases e
  ·cases e
  ·exact e
 induction h with
 |one h=>exact edge h
 |step r h ih=>exact ih.trans nd (edge h)
inductive hW (vs:List V)(H:Hp)(Q:VK)(E:XK):Prop
 |mk (p c l1 l2 l3:Addr) (J0 J1 J2:Zb) (full:Int):(vs=[.ref p,.ref l1,.ref l2,.ref l3,.int full])->(g6 H p c)->(H l1=some (.lst (J0.map V.str)))->(H l2=some (.lst (J1.map V.str)))->(H l3=some (.lst (J2.map V.str)))->(J0.length<=4)->(J1≠[])->(J1.length<=4)->(J2≠[])->(J2.length<=26)->(0<=full)->(full<=2)->(∀(l:Addr) (ts:Ze) (ds:List am) (up:Bool) (H':Hp),H l=none->H' l=some (.lst (ts.map V.ref))->cF H' ts ds->ds.Nodup->(∀d∈ds,mF J0 J1 J2 up d)->ds.length<=600->g6 H' p c->df p H H'->Q (.ref l) H')->hW  vs H Q E
theorem at4{x r:Int}(x0:0<=x)(x2:x<=2)(r0:0<=r)(r4:r<4):∃j:Int,qk [V.int x,.int 1,.int 1,.int 2] r=some (.int j)/\0<=j/\j<=2:=by
 have:r=0∨r=1∨r=2∨r=3:=by omega
 rcases this with rfl|rfl|rfl|rfl
 ·exact⟨x,rfl,x0,x2⟩
 ·exact⟨1,rfl,by decide,by decide⟩
 ·exact⟨1,rfl,by decide,by decide⟩
 ·exact⟨2,rfl,by decide,by decide⟩
theorem wQ(ws:Zb)(k:Nat):fV (ws.map V.str) (some (k:Int)) none=(ws.drop k).map V.str:=by
 unfold fV;rw[HT.sIx_none,HT.sIx_nat,aj,xc (by rw[fj,aj];omega),tj];by_cases h:k<=ws.length
 ·rw[tf h]
 ·rw[Nat.min_eq_right (by omega),qy (by simp),qy (by rw[aj];omega)]
theorem p9(ws:Zb)(k:Nat):fV (ws.map V.str) none (some (k:Int))=(ws.take k).map V.str:=by
 unfold fV;rw[HT.sIx_none,HT.sIx_nat,aj,tu,Nat.sub_zero,nS,List.take_eq_take_iff,aj];omega
theorem uW{K:Za}{ws:Zb}(h:az K H a (ws.map V.str)):mJ K H (.s (ws.map gW)) (.ref a):=by
 unfold mJ;exact⟨a,_,rfl,h,my _⟩
theorem DE{K:Za}(h:az K H a []):mJ K H (.s []) (.ref a):=by
 unfold mJ;refine⟨a,_,rfl,h,?_⟩;unfold DIns
 rfl
inductive DdI(G:am->Prop)(H:Hp)(p c l l1 l2 l3:Addr)(full dn:Int)(i:Nat)(σ:L2.St)(H':Hp):Prop
 |mk (a7 a8 a9 a10 a11 a12:Option V):σ=[some (.ref p),some (.ref l1),some (.ref l2),some (.ref l3),some (.int full),some (.ref l),some (.int dn),a7,a8,a9,a10,a11,a12]->DI G H p c l (11 * i) H'->DdI G H p c l l1 l2 l3 full dn i σ H'
theorem vS{K:Za}(h:hW vs H Q E):qN K fK kK (bJ Q) (start rA vs) H:=by
 obtain⟨p,c,l1,l2,l3,J0,J1,J2,full,rfl,hp,h1,h2,h3,ha,hs0,hs,hr0,hr,f0,f2,k⟩:=h;have n1:=hp.ne_strs h1;have n2:=hp.ne_strs h2;have n3:=hp.ne_strs h3;refine⟨(by show 0<=ai;decide),fun l hl=>?_⟩;have hpl:=hp.nep hl;have hcl:=hp.nec hl;refine⟨_,rfl,dX (hp.ex (ab.new hl)) (by decide) (by decide) fun dn H1 d0 d1 hp1 ex1=>?_⟩;generalize hG:mF J0 J1 J2 (decide (dn=0))=G;have base:DI G H p c l 0 H1:=⟨hp1,⟨[],[],ex1 _ _ aa hpl.symm,.nil,nU,by simp,cX _⟩,(df.new hl).trans ex1,hl,hpl,hcl⟩;refine⟨_,rfl,l3,rfl,⟨_,az.of (base.ex _ _ h3 n3)⟩,?_⟩;refine mw (xs:=J2.map V.str) (DdI G H p c l l1 l2 l3 full dn)
  ⟨_,_,_,_,_,_,rfl,base⟩ (fun i σ H' _ ⟨_,_,_,_,_,_,_,D⟩=>az.of (D.ex _ _ h3 n3)) ?_ ?_
 ·rintro i x σ H' t hi ⟨a7,a8,a9,a10,a11,a12,rfl,D⟩ ht;obtain⟨room,hroom,rfl⟩:∃room,J2[i]?=some room/\x=V.str room:=by
   rw[bQ]at hi;cases q:J2[i]? with
   |none=>rw[q]at hi;cases hi
   |some r=>rw[q]at hi;exact⟨r,rfl,(fe hi).symm⟩
  have hiL:i<J2.length:=(cu.mp hroom).1;have hmem:room∈J2:=aZ hroom;refine⟨t,_,rfl,br.of aa,rfl,_,_,rfl,_,_,rfl,rfl,?_⟩;have D1:=D.new ht (o:=.tup [.int i,.str room]);refine⟨(by show 4<=ai;decide),fun q hq=>⟨_,rfl,dX (D1.new hq).pen (by decide) (by decide) fun r H2 r0 r1 hp2 ex2=>?_⟩⟩;obtain⟨j,hj,j0,j2⟩:=at4 (x:=0) (by decide) (by decide) r0 r1;have D2:=(D1.new hq).took hp2 ex2;refine⟨q,_,_,_,rfl,rfl,az.of (ex2 q _ aa (D1.pen.nep hq).symm),hj,j,rfl,by omega,by omega,?_⟩;refine kh (lo:=0) (n:=j.toNat) (fun i' σ H''=>∃a9 a10:Option V,σ=[some (.ref p),some (.ref l1),some (.ref l2),some (.ref l3),some (.int full),some (.ref l),some (.int dn),some (.int i),some (.str room),a9,a10,a11,a12]/\DI G H p c l (11 * i+i') H'')
   ⟨_,_,rfl,D2⟩ ?_ ?_
  ·rintro i' σ H3 hi' ⟨a9,a10,rfl,D3⟩;refine jn (fun _ _ _ _ h=>h) rfl rfl D3.pen (D3.ex _ _ h2 n2) hs0 (by omega) fun w hw H4 hp4 ex4=>?_;have D4:=D3.took hp4 ex4;refine⟨(by show 2<=ai;decide),fun sg hsg=>?_⟩;have D5:=D4.new hsg (o:=.tup [.str "say",.str w]);refine⟨_,rfl,_,rfl,_,rfl,jn (fun _ _ _ _ h=>h) rfl rfl D5.pen (D5.ex _ _ h3 n3) hr0 (by omega) fun w2 hw2 H6 hp6 ex6=>?_⟩;have D6:=D5.took hp6 ex6;refine⟨(by show 3<=ai;decide),fun dr hdr=>?_⟩;have D7:=D6.new hdr (o:=.tup [.str room,.ref sg,.str w2]);have hsg6:H6 sg=some (.tup [.str "say",.str w]):=ex6 _ _ aa (D4.pen.nep hsg).symm;refine D7.put (d:=⟨room,["say",w],w2⟩) ⟨sg,aa,kp hsg6 hdr⟩ ?_ (by omega) fun H8 D8=>⟨_,_,rfl,D8⟩;rw[<-hG];exact⟨hmem,hw2,.inr (.inl ⟨w,hw,rfl⟩)⟩
  rintro σ H3 ⟨a9,a10,rfl,D3'⟩;have D3:DI G H p c l (11 * i+2) H3:=D3'.up (by omega);clear D3';refine⟨_,rfl,l1,rfl,⟨_,az.of (D3.ex _ _ h1 n1)⟩,?_⟩;refine bP (xs:=J0.map V.str) (fun i' σ H''=>∃a9 a11:Option V,σ=[some (.ref p),some (.ref l1),some (.ref l2),some (.ref l3),some (.int full),some (.ref l),some (.int dn),some (.int i),some (.str room),a9,a10,a11,a12]/\DI G H p c l (11 * i+2+2 * i') H'')
   ⟨_,_,rfl,D3⟩ (fun i σ H' _ ⟨_,_,_,D⟩=>az.of (D.ex _ _ h1 n1)) ?_ ?_
  ·rintro i' x σ H4 hi' ⟨a9,a11,rfl,D4⟩;obtain⟨ask,hask,rfl⟩:∃ask,J0[i']?=some ask/\x=V.str ask:=by
    rw[bQ]at hi';cases q:J0[i']? with
    |none=>rw[q]at hi';cases hi'
    |some r=>rw[q]at hi';exact⟨r,rfl,(fe hi').symm⟩
   have hi2:i'<J0.length:=(cu.mp hask).1;have hm2:ask∈J0:=aZ hask;refine⟨_,rfl,(by show 4<=ai;decide),fun q hq=>⟨_,rfl,dX (D4.new hq).pen (by decide) (by decide) fun r H5 r0 r1 hp5 ex5=>?_⟩⟩;obtain⟨j,hj,j0,j2⟩:=at4 f0 f2 r0 r1;have D5:=(D4.new hq).took hp5 ex5;refine⟨q,_,_,_,rfl,rfl,az.of (ex5 q _ aa (D4.pen.nep hq).symm),hj,j,rfl,by omega,by omega,?_⟩;refine kh (lo:=0) (n:=j.toNat) (fun i'' σ H''=>∃a9:Option V,σ=[some (.ref p),some (.ref l1),some (.ref l2),some (.ref l3),some (.int full),some (.ref l),some (.int dn),some (.int i),some (.str room),a9,a10,some (.str ask),a12]/\DI G H p c l (11 * i+2+2 * i'+i'') H'')
    ⟨_,rfl,D5⟩ ?_ ?_
   ·rintro i'' σ H6 hi'' ⟨a9,rfl,D6⟩;refine⟨_,rfl,_,rfl,_,rfl,(by show 2<=ai;decide),fun sg hsg=>?_⟩;have D7:=D6.new hsg (o:=.tup [.str "ask",.str ask]);refine jn (fun _ _ _ _ h=>h) rfl rfl D7.pen (D7.ex _ _ h3 n3) hr0 (by omega) fun w2 hw2 H8 hp8 ex8=>?_;have D8:=D7.took hp8 ex8;refine⟨(by show 3<=ai;decide),fun dr hdr=>?_⟩;have D9:=D8.new hdr (o:=.tup [.str room,.ref sg,.str w2]);have hsg8:H8 sg=some (.tup [.str "ask",.str ask]):=ex8 _ _ aa (D6.pen.nep hsg).symm;refine D9.put (d:=⟨room,["ask",ask],w2⟩) ⟨sg,aa,kp hsg8 hdr⟩ ?_ (by omega) fun H8 D8=>⟨_,rfl,D8⟩;rw[<-hG];exact⟨hmem,hw2,.inl ⟨ask,hm2,rfl⟩⟩
   ·rintro σ H6 ⟨a9,rfl,D6⟩;exact⟨_,_,rfl,D6.up (by omega)⟩
  rintro σ H4 ⟨a9,a11,rfl,D4'⟩;have D4:DI G H p c l (11 * i+10) H4:=D4'.up (by rw[aj];omega);clear D4';have hnext:∀(H9:Hp) (a12:Option V),DI G H p c l (11 * i+11) H9->DdI G H p c l l1 l2 l3 full dn (i+1) [some (.ref p),some (.ref l1),some (.ref l2),some (.ref l3),some (.int full),some (.ref l),some (.int dn),some (.int i),some (.str room),a9,a10,a11,a12] H9:=fun H9 a12 D9=>⟨_,_,_,_,_,_,rfl,D9.up (by omega)⟩;refine⟨_,rfl,_,rfl,_,_,rfl,rfl,_,rfl,l3,_,rfl,az.of (D4.ex _ _ h3 n3),fun q1 hq1=>?_⟩;have D5:=D4.new hq1 (o:=.lst (fV (J2.map V.str) (some ((i:Int)+1)) none));refine⟨_,rfl,_,rfl,_,rfl,l3,_,rfl,az.of (D5.ex _ _ h3 n3),fun q2 hq2=>?_⟩;have e1:fV (J2.map V.str) (some ((i:Int)+1)) none=(J2.drop (i+1)).map V.str:=wQ J2 (i+1);rw[p9];have D6:=D5.new hq2 (o:=.lst ((J2.take i).map V.str));refine⟨(by show 2<=ai;decide),fun q3 hq3=>?_⟩;have D7:=D6.new hq3 (o:=.lst [.ref q1,.ref q2]);obtain⟨lt,q,hq,hlt,hgood⟩:∃(lt:Zb) (q:Addr),qk [V.ref q1,.ref q2] dn=some (.ref q) /\
    upd (upd (upd H4 q1 (.lst (fV (J2.map V.str) (some ((i:Int)+1)) none))) q2 (.lst ((J2.take i).map V.str))) q3 (.lst [.ref q1,.ref q2]) q=some (.lst (lt.map V.str))/\lt.length<=26 /\
    ∀w∈lt,w∈J2/\Up (decide (dn=0)) J2 room w:=by
   have:dn=0∨dn=1:=by omega
   rcases this with rfl|rfl
   ·refine⟨J2.drop (i+1),q1,rfl,?_,by rw[fj];omega,fun w hw=>⟨List.mem_of_mem_drop hw,?_⟩⟩
    ·refine(kp (kp aa hq2) hq3).trans ?_;rw[e1]
    ·obtain⟨n,hn⟩:=im hw;rw[List.getElem?_drop]at hn;exact⟨i,i+1+n,hroom,hn,by rw[if_pos (by decide)];omega⟩
   ·refine⟨J2.take i,q2,rfl,?_,by rw[aG];omega,fun w hw=>⟨fR hw,?_⟩⟩
    ·exact kp aa hq3
    ·obtain⟨n,hn⟩:=im hw;have hnl:n<i:=by
      have:=(cu.mp hn).1;rw[aG]at this;omega
     rw[List.getElem?_take_of_lt hnl]at hn;exact⟨i,n,hroom,hn,by rw[if_neg (by decide)];omega⟩
  refine⟨_,rfl,q3,_,_,_,rfl,rfl,az.of aa,hq,?_⟩;generalize upd (upd (upd H4 q1 (.lst (fV (J2.map V.str) (some ((i:Int)+1)) none))) q2 (.lst ((J2.take i).map V.str))) q3 (.lst [.ref q1,.ref q2])=H7 at D7 hlt ⊢;refine⟨_,rfl,(by show 0<=ai;decide),fun e he=>⟨.s (lt.map gW),.s [],uW (az.of (kp hlt he)),DE (az.of aa),?_,by decide,_,rfl,?_⟩⟩
  ·show DT.depths (lt.map gW)+1<=8;rw[fF];decide
  have D8:=D7.new he (o:=.lst []);by_cases hz:lt=[]
  ·have ez:(!decide (DT.s (lt.map gW)=DT.s []))=false:=by rw[hz,zzr1 (by rfl)];rfl
   rw[ez];exact bR (bR (hnext _ _ (D8.up (by omega))))
  ·have ez:(!decide (DT.s (lt.map gW)=DT.s []))=true:=by
    rw[zzr0 (fun z=>hz (ii (y:=[]) (by injection z)))];rfl
   rw[ez];refine cR ?_;refine⟨_,rfl,dX D8.pen (by decide) (by decide) fun r H9 r0 r1 hp9 ex9=>⟨rfl,_,rfl,?_⟩⟩;have D9:=D8.took hp9 ex9;refine jJ (fun _=>?_) (fun _=>hnext _ _ (D9.up (by omega)));refine⟨_,rfl,_,rfl,(by show 1<=ai;decide),fun sg hsg=>?_⟩;have D10:=D9.new hsg (o:=.tup [.str "still"]);have hlt10:upd H9 sg (.tup [.str "still"]) q=some (.lst (lt.map V.str)):=kp (ex9 _ _ (kp hlt he) (D8.pen.ne_strs (kp hlt he))) hsg;refine jn (fun _ _ _ _ h=>.inl h) rfl rfl D10.pen hlt10 hz (by omega) fun w2 hw2 H11 hp11 ex11=>?_;have D11:=D10.took hp11 ex11;refine⟨(by show 3<=ai;decide),fun dr hdr=>?_⟩;have D12:=D11.new hdr (o:=.tup [.str room,.ref sg,.str w2]);have hsg11:H11 sg=some (.tup [.str "still"]):=ex11 _ _ aa (D9.pen.nep hsg).symm;refine D12.put (d:=⟨room,[("still":Str)],w2⟩) ⟨sg,aa,kp hsg11 hdr⟩ ?_ (by omega) fun H13 D13=>hnext _ _ D13;rw[<-hG];exact⟨hmem,(hgood.2 w2 hw2).1,.inr (.inr ⟨rfl,(hgood.2 w2 hw2).2⟩)⟩
 ·rintro σ H' ⟨a7,a8,a9,a10,a11,a12,rfl,D⟩;obtain⟨ts,ds,g1,g2,g3,g4,g5⟩:=D.ds;rw[aj]at g5;rw[<-hG]at g4;exact⟨_,rfl,k l ts ds _ H' hl g1 g2 g3 g4 (by omega) D.pen D.ex⟩
structure aL(J0 J1 J2:Zb)(ds:List am):Prop where
 okA:kY J0
 okS:kY J1
 apart:∀w∈J1,w∉J0
 okR:kY J2
 asks0:J0≠[]
 says0:J1≠[]
 rooms0:J2≠[]
 asks4:J0.length<=4
 says4:J1.length<=4
 rooms26:J2.length<=150
 nodup:ds.Nodup
 good:∀d∈ds,AZ J0 J1 J2 d
 few:ds.length<=1000
 noround:∀r,¬Reach ds r r
structure iE(H:Hp)(t l1 l2 l3 l4:Addr)(ts:Ze)(J0 J1 J2:Zb)(ds:List am):Prop where
 t:H t=some (.tup [.ref l1,.ref l2,.ref l3,.ref l4])
 a1:H l1=some (.lst (J0.map V.str))
 a2:H l2=some (.lst (J1.map V.str))
 a3:H l3=some (.lst (J2.map V.str))
 a4:H l4=some (.lst (ts.map V.ref))
 ds:cF H ts ds
theorem g6.ne_refs{a:Addr}{ts:Ze}(hp:g6 H p c)(ha:H a=some (.lst (ts.map V.ref))):a≠p:=by
 intro e;obtain⟨x,y,ns,h1,_⟩:=hp;rw[e,h1]at ha;injection ha with ha;injection ha with ha;cases ts with
 |nil=>cases ha
 |cons w ws =>
  injection ha with _ ha;cases ws with
  |nil=>cases ha
  |cons w ws=>injection ha with ha;cases ha
theorem iE.ex{H H':Hp}{p c t l1 l2 l3 l4:Addr}{ts:Ze}{J0 J1 J2:Zb}{ds:List am}(h:iE H t l1 l2 l3 l4 ts J0 J1 J2 ds)(hp:g6 H p c)(e:df p H H'):iE H' t l1 l2 l3 l4 ts J0 J1 J2 ds:=by
 obtain⟨xs,hx⟩:=hp.lst;exact⟨e.kt hx _ _ h.t,e _ _ h.a1 (hp.ne_strs h.a1),e _ _ h.a2 (hp.ne_strs h.a2),e _ _ h.a3 (hp.ne_strs h.a3),e _ _ h.a4 (hp.ne_refs h.a4),h.ds.kt (e.kt hx)⟩
theorem iE.same{H H':Hp}{t l1 l2 l3 l4:Addr}{ts:Ze}{J0 J1 J2:Zb}{ds:List am}(h:iE H t l1 l2 l3 l4 ts J0 J1 J2 ds)(e:ab H H'):iE H' t l1 l2 l3 l4 ts J0 J1 J2 ds :=
 ⟨e _ _ h.t,e _ _ h.a1,e _ _ h.a2,e _ _ h.a3,e _ _ h.a4,h.ds.kt (ab.kt e)⟩
inductive pD (vs:List V)(H:Hp)(Q:VK)(E:XK):Prop
 |mk (p c:Addr) (most full:Int):(vs=[.ref p,.int most,.int full])->(g6 H p c)->(0<most)->(most<=25)->(0<=full)->(full<=2)->(∀(t l1 l2 l3 l4:Addr) (ts:Ze) (J0 J1 J2:Zb) (ds:List am) (H':Hp),iE H' t l1 l2 l3 l4 ts J0 J1 J2 ds->aL J0 J1 J2 ds->J2.length<=most.toNat->ds.length<=600->g6 H' p c->df p H H'->Q (.ref t) H')->pD  vs H Q E
theorem at6{r:Int}(r0:0<=r)(r6:r<6):∃n:Nat,qk [V.int 0,.int 1,.int 1,.int 2,.int 2,.int 3] r=some (.int n)/\n<=3:=by
 have:r=0∨r=1∨r=2∨r=3∨r=4∨r=5:=by omega
 rcases this with rfl|rfl|rfl|rfl|rfl|rfl
 ·exact⟨0,rfl,by decide⟩
 ·exact⟨1,rfl,by decide⟩
 ·exact⟨1,rfl,by decide⟩
 ·exact⟨2,rfl,by decide⟩
 ·exact⟨2,rfl,by decide⟩
 ·exact⟨3,rfl,by decide⟩
theorem GQ{ws:Zb}(hw:ws.length=8){n:Nat}(hn:n<=3):fV (ws.map V.str) (some 4) (some (5+(n:Int)))=((ws.drop 4).take (1+n)).map V.str:=by
 unfold fV;have s1:HT.sIx (ws.map V.str).length 0 (some 4)=min 4 (ws.map V.str).length:=HT.sIx_nat _ _ 4;have s2:HT.sIx (ws.map V.str).length (ws.map V.str).length (some (5+(n:Int)))=min (5+n) (ws.map V.str).length:=HT.sIx_nat _ _ (5+n);rw[s1,s2,aj,hw,nS,tj];have e1:min 4 8=4:=by decide
 have e2:min (5+n) 8-4=1+n:=by omega
 rw[e1,e2]
theorem FJ{K:Za}(h:pD vs H Q E):zG K hW lX fK sM (bJ Q) (start AX vs) H:=by
 obtain⟨p,c,most,full,rfl,hp,m0,m1,f0,f2,k⟩:=h;refine⟨_,rfl,p,c,rfl,hp,fun H1 hp1 ex1=>?_⟩;refine⟨_,rfl,p,c,8,rfl,hp1,by decide,fun lw ws H2 ok len fr hl hp2 ex2=>?_⟩;have e2:=ex1.trans ex2;have nw:=hp2.ne_strs hl;refine⟨_,rfl,(by show 6<=ai;decide),fun q hq=>⟨_,rfl,dX (hp2.ex (ab.new hq)) (by decide) (by decide) fun r H3 r0 r1 hp3 ex3=>?_⟩⟩;obtain⟨n,hn,n3⟩:=at6 r0 r1;have hl3:H3 lw=some (.lst (ws.map V.str)):=ex3 _ _ (kp hl hq) nw;refine⟨q,_,_,_,rfl,rfl,az.of (ex3 _ _ aa (hp2.nep hq).symm),hn,_,_,rfl,rfl,_,rfl,lw,_,rfl,az.of hl3,fun l1 hl1=>?_⟩;have ea:fV (ws.map V.str) none (some (1+(n:Int)))=(ws.take (1+n)).map V.str:=p9 ws (1+n);rw[ea];have e3:df p H H3:=e2.trans ((df.new hq).trans ex3);have hp4:g6 (upd H3 l1 (.lst ((ws.take (1+n)).map V.str))) p c:=hp3.ex (ab.new hl1);have e4:df p H (upd H3 l1 (.lst ((ws.take (1+n)).map V.str))):=e3.trans (df.new hl1);have hl4:upd H3 l1 (.lst ((ws.take (1+n)).map V.str)) lw=some (.lst (ws.map V.str)):=kp hl3 hl1;have ha4:upd H3 l1 (.lst ((ws.take (1+n)).map V.str)) l1=some (.lst ((ws.take (1+n)).map V.str)):=aa;generalize upd H3 l1 (.lst ((ws.take (1+n)).map V.str))=H4 at hp4 e4 hl4 ha4 ⊢;refine⟨_,rfl,_,rfl,(by show 6<=ai;decide),fun q hq=>⟨_,rfl,dX (hp4.ex (ab.new hq)) (by decide) (by decide) fun r H5 r0 r1 hp5 ex5=>?_⟩⟩;obtain⟨m,hm,m3⟩:=at6 r0 r1;have hl5:H5 lw=some (.lst (ws.map V.str)):=ex5 _ _ (kp hl4 hq) nw;have ha5:H5 l1=some (.lst ((ws.take (1+n)).map V.str)):=ex5 _ _ (kp ha4 hq) (hp4.ne_strs ha4);refine⟨q,_,_,_,rfl,rfl,az.of (ex5 _ _ aa (hp4.nep hq).symm),hm,_,_,rfl,rfl,_,rfl,lw,_,rfl,az.of hl5,fun l2 hl2=>?_⟩;rw[GQ len m3];have e5:df p H H5:=e4.trans ((df.new hq).trans ex5);have hp6:g6 (upd H5 l2 (.lst (((ws.drop 4).take (1+m)).map V.str))) p c:=hp5.ex (ab.new hl2);have e6:df p H (upd H5 l2 (.lst (((ws.drop 4).take (1+m)).map V.str))):=e5.trans (df.new hl2);have ha6:upd H5 l2 (.lst (((ws.drop 4).take (1+m)).map V.str)) l1=some (.lst ((ws.take (1+n)).map V.str)):=kp ha5 hl2;have hb6:upd H5 l2 (.lst (((ws.drop 4).take (1+m)).map V.str)) l2=some (.lst (((ws.drop 4).take (1+m)).map V.str)):=aa;generalize upd H5 l2 (.lst (((ws.drop 4).take (1+m)).map V.str))=H6 at hp6 e6 ha6 hb6 ⊢;refine⟨_,rfl,_,rfl,_,rfl,dX hp6 m0 (by omega) fun r H7 r0 r1 hp7 ex7=>?_⟩;obtain⟨rn,rfl⟩:=jA r0;have ha7:=ex7 _ _ ha6 (hp6.ne_strs ha6);have hb7:=ex7 _ _ hb6 (hp6.ne_strs hb6);refine⟨_,_,rfl,rfl,p,c,1+rn,rfl,hp7,by omega,fun l3 J2 H8 okr lenr fr3 hl3' hp8 ex8=>?_⟩;have ha8:=ex8 _ _ ha7 (hp7.ne_strs ha7);have hb8:=ex8 _ _ hb7 (hp7.ne_strs hb7);have hs0:(ws.drop 4).take (1+m)≠[]:=by
  intro z;have:=congrArg List.length z;rw[aG,fj,len]at this;simp at this
 have ha0:ws.take (1+n)≠[]:=by
  intro z;have:=congrArg List.length z;rw[aG,len]at this;simp at this
 have hr0:J2≠[]:=by
  intro z;rw[z]at lenr;simp at lenr;omega
 refine⟨_,rfl,_,rfl,_,rfl,_,rfl,_,rfl,p,c,l1,l2,l3,_,_,J2,full,rfl,hp8,ha8,hb8,hl3',by rw[aG];omega,hs0,by rw[aG];omega,hr0,by omega,f0,f2,fun l4 ts ds up H9 fr4 hl4' hds nod good few hp9 ex9=>?_⟩;have ha9:=ex9 _ _ ha8 (hp8.ne_strs ha8);have hb9:=ex9 _ _ hb8 (hp8.ne_strs hb8);have hc9:=ex9 _ _ hl3' (hp8.ne_strs hl3');refine⟨_,rfl,_,rfl,_,rfl,_,rfl,(by show 4<=ai;decide),fun t ht=>k t l1 l2 l3 l4 ts _ _ J2 ds _ ⟨aa,kp ha9 ht,kp hb9 ht,kp hc9 ht,kp hl4' ht,hds.kt (ab.kt (ab.new ht))⟩ ?_ ?_ few (hp9.ex (ab.new ht)) ?_⟩
 ·refine⟨⟨?_,fun w h=>ok.2 w (fR h)⟩,⟨?_,fun w h=>ok.2 w (List.mem_of_mem_drop (fR h))⟩,?_,okr,ha0,hs0,hr0,by rw[aG];omega,by rw[aG];omega,by omega,nod,fun d hd=>(good d hd).d,by omega,fun r z=>(Fn okr.1 good z).irr okr.1⟩
  ·exact ok.1.sublist (List.take_sublist _ _)
  ·exact ok.1.sublist ((List.take_sublist _ _).trans (List.drop_sublist _ _))
  ·intro w h1 h2;have h3:w∈ws.drop 4:=fR h1;have h4:w∈ws.take 4:=by
    have:ws.take (1+n)=(ws.take 4).take (1+n):=by rw[List.take_take];congr 1;omega
    rw[this]at h2;exact fR h2
   have:=ok.1;rw[<-sZ 4 ws,cJ]at this;exact this.2.2 w h4 w h3 rfl
 ·omega
 ·exact(((e6.trans ex7).trans ex8).trans ex9).trans (df.new ht)
theorem bm{ws:Zb}{i:Nat}{x:V}(h:(ws.map V.str)[i]?=some x):∃w,ws[i]?=some w/\x=.str w:=by
 rw[bQ]at h;cases q:ws[i]? with
 |none=>rw[q]at h;cases h
 |some r=>rw[q]at h;exact⟨r,rfl,(fe h).symm⟩
theorem take_snoc{α:Type}{ws:List α}{i:Nat}{w:α}(h:ws[i]?=some w):ws.take (i+1)=ws.take i++[w]:=by
 obtain⟨hi,rfl⟩:=cu.mp h;rw[List.take_succ_eq_append_getElem hi]
def pS(w:Str):Bool:=!decide (w=("":Str)) && (decide (w.length<=8) && w.cps.toList.all fun c=>decide (c∈("abcdefghijklmnopqrstuvwxyz":Str).cps.toList))
theorem rD.b(h:rD w):pS w=true:=by
 unfold pS;have h1:¬(w=("":Str)):=fun e=>by
  have:=h.lo;rw[e]at this;exact absurd this (by decide +kernel)
 rw[zzr0 h1,zzr1 h.hi,Bool.not_false,sY,sY,xC];intro c hc;obtain⟨c1,c2⟩:=h.al c hc;refine zzr1 ?_;have:=DH (c-97) (by omega);have e:97+(c-97)=c:=by omega
 rw[e]at this;exact aZ this
inductive sp_is_name (vs:List V)(H:Hp)(Q:VK)(E:XK):Prop
 |mk (w:Str):(vs=[.str w])->(w.length<=1000)->(∀H',ab H H'->Q (.bl (pS w)) H')->sp_is_name  vs H Q E
theorem BG{K:Za}(h:sp_is_name vs H Q E):D0 K (bJ Q) (start Fc vs) H:=by
 obtain⟨w,rfl,hz,k⟩:=h;refine⟨_,rfl,rfl,_,rfl,?_⟩;have ed:(!decide (V.str w=V.str ("":Str)))=!decide (w=("":Str)):=by
  congr 1;by_cases e:w=("":Str)
  ·rw[zzr1 e,zzr1 (by rw[e])]
  ·rw[zzr0 e,zzr0 (fun z=>e (by injection z))]
 rw[ed];refine jJ (fun h1=>?_) (fun h1=>?_)
 ·refine⟨_,rfl,.inr ⟨w,rfl,fb (ar hz),_,_,rfl,rfl,_,rfl,?_⟩⟩;refine jJ (fun h2=>?_) (fun h2=>?_)
  ·refine⟨_,rfl,w,rfl,fun l hl=>?_⟩;refine GR (fun i vs H'=>vs=((w.cps.toList.take i).map fun c=>V.bl (decide (c∈("abcdefghijklmnopqrstuvwxyz":Str).cps.toList)))/\ab H H'/\H' l=some (.lst vs))
    ⟨rfl,ab.new hl,aa⟩ (fun i vs H' _ h=>h.2.2) ?_ ?_
   ·rintro vs H' ⟨rfl,hS,hl'⟩;refine⟨l,w.cps.toList.map fun c=>decide (c∈("abcdefghijklmnopqrstuvwxyz":Str).cps.toList),rfl,az.of ?_,?_⟩
    ·rw[hl',qq];have:w.cps.toList.take w.cps.size=w.cps.toList:=by
      rw[xc];simp
     rw[this]
     rfl
    ·have:=k H' hS;have h2':decide (w.length<=8)=true:=zzr1 (by have:=of_decide_eq_true h2;omega);unfold pS at this;rw[h1,h2',sY,sY]at this;rw[xo];exact this
   ·rintro i vs H' c hc hi ⟨rfl,hS,hl'⟩;refine gN (se ?_);refine⟨_,rfl,c,_,rfl,rfl,hl',?_,nA hi ⟨?_,?_,aa⟩⟩
    ·rw[aj,aG];have:w.length=w.cps.toList.length:=fJ w;exact ar (by omega)
    ·rw[take_snoc (by rw[<-hc];simp),ax]
     rfl
    ·intro b o e;rw[ag (ae e hl)];exact hS b o e
  ·have:=k H (ab.refl H);have h2':decide (w.length<=8)=false:=zzr0 (fun z=>h2 (zzr1 (by omega)));unfold pS at this;rw[h1,h2',sY,CT]at this;exact this
 ·have:=k H (ab.refl H);unfold pS at this;rw[Bool.eq_false_iff.mpr h1,CT]at this;exact this
def aJ(ws:Zb):List (fC×V):=ws.foldl (fun acc w=>cM acc (.inr w) (.bl true)) []
theorem dw(ws:Zb)(w:Str):aJ (ws++[w])=cM (aJ ws) (.inr w) (.bl true):=by
 unfold aJ;rw[ky]
 rfl
theorem Ah{κ:Type}[DecidableEq κ](kvs:List (κ×V))(k:κ)(v:V):(cM kvs k v).length<=kvs.length+1:=by
 unfold cM;split
 ·rw[aj];omega
 ·rw[aK];exact aA _
theorem jY{α:Type}(P:List α->Prop)(h0:P [])(hs:∀ws w,P ws->P (ws++[w]))(ws:List α):P ws:=by
 have:∀n (ws:List α),ws.length=n->P ws:=by
  intro n
  induction n with
  |zero=>intro ws h;rw[List.length_eq_zero_iff.mp h];exact h0
  |succ n ih =>
   intro ws h;have hne:ws≠[]:=fun z=>by rw[z]at h;cases h
   rw[<-List.dropLast_concat_getLast hne];exact hs _ _ (ih _ (by rw[List.length_dropLast,h];rfl))
 exact this _ ws rfl
theorem i3(ws:Zb):(aJ ws).length<=ws.length:=by
 refine jY (fun ws=>(aJ ws).length<=ws.length) (aA _) (fun ws w h=>?_) ws;show(aJ (ws++[w])).length<=(ws++[w]).length;rw[dw,aK];have:=Ah (aJ ws) (.inr w) (.bl true);show _<=ws.length+1;omega
theorem uM(ws:Zb)(x:Str):bq (aJ ws) (.inr x)=if x∈ws then some (.bl true)else none:=by
 refine jY (fun ws=>bq (aJ ws) (.inr x)=if x∈ws then some (.bl true)else none) rfl (fun ws w h=>?_) ws
 show bq (aJ (ws++[w])) (.inr x)=_;rw[dw,lR,h];by_cases e:x=w
 ·subst e;rw[if_pos rfl,if_pos (by simp)]
 ·have e1:¬((Sum.inr x:fC)=.inr w):=fun z=>e (by injection z);rw[if_neg e1];by_cases m:x∈ws
  ·rw[if_pos m,if_pos (cf _ m)]
  ·rw[if_neg m,if_neg (fun z=>by rcases a_.mp z with z|z;exact m z;exact e (by simpa using z))]
theorem dQ(ws:Zb)(x:Str):(bq (aJ ws) (.inr x)).isSome=decide (x∈ws):=by
 rw[uM];by_cases m:x∈ws
 ·rw[if_pos m,zzr1 m];rfl
 ·rw[if_neg m,zzr0 m];rfl
inductive sp_as_keys(K:Za)(vs:List V)(H:Hp)(Q:VK)(E:XK):Prop
 |mk (l:Addr) (ws:Zb):(vs=[.ref l])->(az K H l (ws.map V.str))->(ws.length<=1000)->(∀d,H d=none->Q (.ref d) (upd H d (.dK (aJ ws))))->sp_as_keys K vs H Q E
theorem BH{K:Za}(h:sp_as_keys K vs H Q E):D_ K (bJ Q) (start wX vs) H:=by
 obtain⟨l,ws,rfl,hl,hz,k⟩:=h;refine fun d hd=>?_;have key:∀kvs,az K (upd H d (.dK kvs)) l (ws.map V.str):=fun kvs=>(ab.new hd).seq hl;refine⟨_,rfl,l,rfl,⟨_,key _⟩,?_⟩;refine bP (xs:=ws.map V.str) (fun i σ H'=>∃x,σ=[some (.ref l),some (.ref d),x]/\H'=upd H d (.dK (aJ (ws.take i)))) ⟨_,rfl,rfl⟩ (fun i σ H' _ ⟨_,_,e⟩=>by rw[e];exact key _) ?_ ?_
 ·rintro i x σ H' hi ⟨y,rfl,rfl⟩;obtain⟨w,hw,rfl⟩:=bm hi;have hlen:(aJ (ws.take i)).length<ai:=ar (bC (i3 _) (by rw[aG];omega));refine⟨_,rfl,_,rfl,d,_,rfl,.inl ⟨_,.inr w,aa,rfl,hlen,rfl⟩,_,rfl,?_⟩;rw[mM,take_snoc hw,dw]
 ·rintro σ H' ⟨x,rfl,rfl⟩;rw[aj,aR];exact⟨_,rfl,k d hd⟩
def GA(most:Nat):Nat->List Str->List Str->Option Nat
 |_,_,[]=>none
 |i,ahead,n::ns=>if i=most∨n∈ahead∨pS n=false then some i else GA most (i+1) (ahead++[n]) ns
def cS(names:Zb)(most:Nat)(taken:Zb):Option Nat:=if names=[]then some 0 else GA most 0 taken names
def oV:Option Nat->V
 |none=>.non
 |some i=>.int i
inductive sp_first_wrong_name(K:Za)(vs:List V)(H:Hp)(Q:VK)(E:XK):Prop
 |mk (l t:Addr) (names taken:Zb) (most:Nat):(vs=[.ref l,.int most,.ref t])->(az K H l (names.map V.str))->(az K H t (taken.map V.str))->(names.length+taken.length<=1000)->((∀w∈names,w.length<=1000))->(∀H',ab H H'->Q (oV (cS names most taken)) H')->sp_first_wrong_name K vs H Q E
theorem rj{K:Za}{Q:VK}{ws:Zb}(hl:az K H l (ws.map V.str))(hz:ws.length<=1000)(k:∀d,H d=none->Q (.ref d) (upd H d (.dK (aJ ws)))):sp_as_keys K [.ref l] H Q E:=by
 exact⟨l,ws,rfl,hl,hz,k⟩
theorem EF{Q:VK}{w:Str}(hz:w.length<=1000)(k:∀H',ab H H'->Q (.bl (pS w)) H'):sp_is_name [.str w] H Q E:=by
 exact⟨w,rfl,hz,k⟩
theorem ny{K:Za}(h:sp_first_wrong_name K vs H Q E):n8 K sp_is_name (sp_as_keys K) (bJ Q) (start oO vs) H:=by
 obtain⟨l,t,names,taken,most,rfl,hl,ht,hz,hw,k⟩:=h;refine⟨_,rfl,.inl ⟨l,_,rfl,.inl hl,rfl,_,rfl,?_⟩⟩;by_cases h0:names=[]
 ·subst h0;refine cR ?_;have:=k H (ab.refl H);exact this
 have e0:decide (V.int ((names.map V.str).length:Nat)=V.int 0)=false:=zzr0 (fun z=>h0 (by
  injection z with z;rw[aj]at z;exact List.length_eq_zero_iff.mp (by omega)))
 rw[e0];refine bR ?_;have hk:∀H',ab H H'->Q (oV (GA most 0 taken names)) H':=by
  unfold cS at k;rw[if_neg h0]at k;exact k
 refine⟨_,rfl,rj ht (by omega) fun d hd=>?_⟩;refine⟨_,rfl,l,rfl,⟨_,(ab.new hd).seq hl⟩,?_⟩;refine mw (xs:=names.map V.str) (fun i σ H'=>∃x y,σ=[some (.ref l),some (.int most),some (.ref t),some (.ref d),x,y]/\ab H H'/\H' d=some (.dK (aJ (taken++names.take i)))/\GA most i (taken++names.take i) (names.drop i)=GA most 0 taken names)
  ⟨_,_,rfl,ab.new hd,by rw[sX,dj];exact aa,by rw[sX,dj,tu]⟩ (fun i σ H' _ ⟨_,_,_,hS,_⟩=>hS.seq hl) ?_ ?_
 ·rintro i x σ H' q hi ⟨x4,x5,rfl,hS,hd',hf⟩ hq;obtain⟨w,hw',rfl⟩:=bm hi;have hil:i<names.length:=(cu.mp hw').1;have ed:names.drop i=w::names.drop (i+1):=by
   rw[List.drop_eq_getElem_cons hil];congr 1;exact(cu.mp hw').2
  rw[ed]at hf;have hd2:upd H' q (.tup [.int i,.str w]) d=some (.dK (aJ (taken++names.take i))):=kp hd' hq;have hS2:ab H (upd H' q (.tup [.int i,.str w])):=hS.trans (ab.new hq);have hww:w.length<=1000:=hw w (aZ hw');refine⟨q,_,rfl,br.of aa,rfl,_,_,rfl,_,_,rfl,rfl,?_⟩;generalize upd H' q (.tup [.int i,.str w])=H2 at hd2 hS2 ⊢;refine⟨_,rfl,_,rfl,rfl,_,rfl,?_⟩;by_cases c1:i=most
  ·have e1:decide (V.int (i:Nat)=V.int (most:Nat))=true:=zzr1 (by rw[c1]);rw[e1];refine cR (cR ?_);refine⟨_,rfl,?_⟩;have:=hk H2 hS2;rw[<-hf]at this;unfold GA at this;rw[if_pos (.inl c1)]at this;exact this
  have e1:decide (V.int (i:Nat)=V.int (most:Nat))=false:=zzr0 (fun z=>c1 (by injection z with z;omega));rw[e1];refine bR ?_;refine⟨_,rfl,_,rfl,d,_,rfl,.inl ⟨_,.inr w,.inl hd2,rfl,rfl⟩,_,rfl,?_⟩;rw[dQ];by_cases c2:w∈taken++names.take i
  ·rw[zzr1 c2];refine cR (cR ?_);refine⟨_,rfl,?_⟩;have:=hk H2 hS2;rw[<-hf]at this;unfold GA at this;rw[if_pos (.inr (.inl c2))]at this;exact this
  rw[zzr0 c2];refine bR ?_;refine⟨_,rfl,EF hww fun H3 hS3=>⟨_,rfl,?_⟩⟩;have hd3:=hS3 _ _ hd2;cases c3:pS w with
  |false =>
   refine cR ?_;refine⟨_,rfl,?_⟩;have:=hk H3 (hS2.trans hS3);rw[<-hf]at this;unfold GA at this;rw[if_pos (.inr (.inr c3))]at this;exact this
  |true =>
   refine bR ?_;have hlen:(aJ (taken++names.take i)).length<ai:=ar (bC (i3 _) (by rw[aK,aG];omega));refine⟨_,rfl,_,rfl,d,_,rfl,.inl ⟨_,.inr w,hd3,rfl,hlen,rfl⟩,_,_,rfl,?_,?_,?_⟩
   ·intro b o e;rw[ag (ae e hd)];exact hS3 _ _ (hS2 _ _ e)
   ·rw[aa,take_snoc hw',<-c9,dw]
   ·rw[<-hf,take_snoc hw',<-c9]
    conv=>rhs;unfold GA
    rw[if_neg];rintro(z|z|z)
    ·exact c1 z
    ·exact c2 z
    ·rw[c3]at z;cases z
 ·rintro σ H' ⟨x,y,rfl,hS,_,hf⟩;rw[aj,List.drop_length]at hf;have:=hk H' hS;rw[<-hf]at this;exact this
theorem AE{most:Nat}:∀(ns ahead:Zb) (i:Nat),i+ns.length<=most->(ahead++ns).Nodup->(∀w∈ns,rD w)->GA most i ahead ns=none
 |[],_,_,_,_,_=>rfl
 |n::ns,ahead,i,h1,h2,h3=>by
  rw[dS]at h1;unfold GA;rw[if_neg]
  ·refine AE ns (ahead++[n]) (i+1) (by omega) (by rw[c9];exact h2) fun w hw=>h3 w (eI _ hw)
  ·rintro(z|z|z)
   ·omega
   ·rw[cJ]at h2;exact h2.2.2 n z n (dU) rfl
   ·rw[(h3 n dU).b]at z;cases z
theorem iq{most:Nat}{ns taken:Zb}(h0:ns≠[])(h1:ns.length<=most)(h2:(taken++ns).Nodup)(h3:∀w∈ns,rD w):cS ns most taken=none:=by
 unfold cS;rw[if_neg h0];exact AE ns taken 0 (by omega) h2 h3
theorem gV{n:Nat}(h:n<=9000):n<ai:=Nat.lt_of_le_of_lt h (by decide)
def mV(x:Str):TK:=.k (some (.inr x))
def fB(sg:Zb):TK:=.t (sg.map mV)
def DD(d:am):TK:=.t [mV d.a,fB d.sg,mV d.b]
theorem pI(h:mV x=mV y):x=y:=by
 unfold mV at h;injection h with h;injection h with h;injection h
theorem rV:∀{x y:Zb},x.map mV=y.map mV->x=y
 |[],[],_=>rfl
 |[],_::_,h=>by cases h
 |_::_,[],h=>by cases h
 |a::x,b::y,h=>by
  rw[bI,bI]at h;injection h with h1 h2;rw[pI h1,rV h2]
theorem iC(h:fB x=fB y):x=y:=by
 unfold fB at h;injection h with h;exact rV h
theorem Il(h:DD x=DD y):x=y:=by
 unfold DD at h;injection h with h;injection h with h1 h;injection h with h2 h;injection h with h3 h;cases x;cases y;simp only at *;rw[pI h1,iC h2,pI h3]
theorem Bf(xs:Zb):TK.depths (xs.map mV)=0:=by
 induction xs with
 |nil=>rfl
 |cons x xs ih=>rw[bI];show max (TK.depth (mV x)) (TK.depths _)=0;rw[ih];rfl
theorem qJ(sg:Zb):(fB sg).depth=1:=by
 show TK.depths (sg.map mV)+1=1;rw[Bf]
theorem wg(d:am):(DD d).depth=2:=by
 show max (TK.depth (mV d.a)) (max (TK.depth (fB d.sg)) (max (TK.depth (mV d.b)) 0))+1=2;rw[qJ]
 rfl
theorem C4:∀xs:List Str,TKAts H (xs.map mV) (xs.map V.str)
 |[]=>by show TKAts H [] [];unfold TKAts;rfl
 |x::xs=>by
  rw[bI,bI];unfold TKAts;refine⟨_,_,rfl,?_,C4 xs⟩;unfold mV cW
  rfl
theorem tR(x:Str):cW H (mV x) (.str x):=by unfold mV cW;rfl
theorem SignAt.tk(h:SignAt H s sg):cW H (fB sg) (.ref s):=by
 unfold fB cW;exact⟨s,_,rfl,h,C4 _⟩
theorem g8.tk(h:g8 H t d):cW H (DD d) (.ref t):=by
 obtain⟨s,h1,h2⟩:=h;unfold DD cW;refine⟨t,_,rfl,h1,?_⟩;unfold TKAts;refine⟨_,_,rfl,tR _,?_⟩;unfold TKAts;refine⟨_,_,rfl,SignAt.tk h2,?_⟩;unfold TKAts;refine⟨_,_,rfl,tR _,?_⟩;unfold TKAts
 rfl
section
variable{κ:Type}[DecidableEq κ]
def lr(ks:List κ):List (κ×V):=ks.foldl (fun acc k=>cM acc k (.bl true)) []
theorem oF(ws:List κ)(w:κ):lr (ws++[w])=cM (lr ws) w (.bl true):=by
 unfold lr;rw[ky]
 rfl
theorem EC(ws:List κ):(lr ws).length<=ws.length:=by
 refine jY (fun ws=>(lr ws).length<=ws.length) (aA _) (fun ws w h=>?_) ws;show(lr (ws++[w])).length<=(ws++[w]).length;rw[oF,aK];have:=Ah (lr ws) w (.bl true);show _<=ws.length+1;omega
theorem Gq(ws:List κ)(x:κ):(bq (lr ws) x).isSome=decide (x∈ws):=by
 refine jY (fun ws=>(bq (lr ws) x).isSome=decide (x∈ws)) rfl (fun ws w h=>?_) ws;show(bq (lr (ws++[w])) x).isSome=_;rw[oF,lR];by_cases e:x=w
 ·subst e;rw[if_pos rfl,zzr1 (by simp)]
  rfl
 ·rw[if_neg e,h];by_cases m:x∈ws
  ·rw[zzr1 m,zzr1 (cf _ m)]
  ·rw[zzr0 m,zzr0 (fun z=>by rcases a_.mp z with z|z;exact m z;exact e (by simpa using z))]
end
theorem Dr{ds:List am}:DD d∈ds.map DD↔d∈ds:=by
 constructor
 ·intro h;obtain⟨x,hx,e⟩:=aw.mp h;rw[<-Il e];exact hx
 ·exact kz
def oM(K:Za)(H:Hp)(v:V)(sg:Zb):Prop:=∃s,v=.ref s/\br K H s (sg.map V.str)
theorem ab.sqT{K:Za}(e:ab H H')(h:br K H a xs):br K H' a xs:=by
 rcases h with(h|⟨o,h⟩)|h
 ·exact .inl (.inl (e _ _ h))
 ·exact .inl (.inr ⟨o,e _ _ h⟩)
 ·exact .inr h
theorem Signs.same{K:Za}(e:ab H H'){xs:List V}{sgs:List (List Str)}(h:Paired (oM K H) xs sgs):Paired (oM K H') xs sgs :=
 Paired.mapP h fun _ _ ⟨s,h1,h2⟩=>⟨s,h1,ab.sqT e h2⟩
def jr(sg:Zb):DT:=.t (sg.map gW)
theorem Dw(h:jr x=jr y):x=y:=by
 unfold jr at h;injection h with h;exact ii h
theorem bA(sg:Zb):(jr sg).depth=1:=by
 show DT.depths (sg.map gW)+1=1;rw[fF]
theorem EN(sgs:List (List Str)):DT.depths (sgs.map jr)<=8:=by
 induction sgs with
 |nil=>exact cX _
 |cons x xs ih=>rw[bI];show max (DT.depth (jr x)) (DT.depths _)<=8;rw[bA];omega
theorem Signs.dIns{K:Za}:∀{xs:List V}{sgs:List (List Str)},Paired (oM K H) xs sgs->DIns K H (sgs.map jr) xs
 |_,_,.nil=>by show DIns K H [] [];unfold DIns;rfl
 |_,_,.cons ⟨s,e,r⟩ t=>by
  rw[bI];unfold DIns;refine⟨_,_,rfl,?_,Signs.dIns t⟩;rw[e];exact aW r
theorem Dq{ds:List (List Str)}:jr d∈ds.map jr↔d∈ds:=by
 constructor
 ·intro h;obtain⟨x,hx,e⟩:=aw.mp h;rw[<-Dw e];exact hx
 ·exact kz
theorem Paired.app{α β:Type}{R:α->β->Prop}:∀{a:List α}{b:List β}{c:List α}{d:List β},Paired R a b->Paired R c d->Paired R (a++c) (b++d)
 |_,_,_,_,.nil,h=>h
 |_,_,_,_,.cons r t,h=>.cons r (Paired.app t h)
def c7(w:Str):List Str:=[("ask":Str),w]
def l9(w:Str):List Str:=[("say":Str),w]
def ki(J0 J1:Zb):List (List Str):=J0.map c7++J1.map l9++[ao]
theorem uk{K:Za}{kw:Str}{H:Hp}{a l:Addr}{ws:Zb}{Q:Hp->Prop}(ha:H a=some (.lst (ws.map V.str)))(hl:H l=none)(hz:ws.length<=1000)
  (k:∀(xs:List V) (H':Hp),Paired (oM K H') xs (ws.map fun w=>[kw,w])->ab H H'->H' l=some (.lst xs)->Q H') :
  gG 1 [] σ (G7 K a) U0 kG (bw (aO (tC (.str kw)) V0)) H l Q:=by
 refine bZ (xs:=ws.map V.str) (fun i vs H'=>Paired (oM K H') vs ((ws.take i).map fun w=>[kw,w])/\ab H H'/\H' l=some (.lst vs))
  ⟨.nil,ab.new hl,aa⟩ (fun i vs H' _ ⟨_,hS,h'⟩=>⟨h',az.of (hS _ _ ha)⟩) ?_ ?_
 ·rintro vs H' ⟨h1,h2,h3⟩;rw[aj,aR]at h1;exact k vs H' h1 h2 h3
 ·rintro i vs H' x hx hi ⟨h1,h2,h3⟩;obtain⟨w,hw,rfl⟩:=bm hx;refine gN (se ?_);refine⟨_,rfl,(by show 2<=ai;decide),fun t ht=>⟨kp h3 ht,?_,nA hi ⟨?_,?_,aa⟩⟩⟩
  ·rw[Paired.length h1,aj,aG];exact ar (by omega)
  ·rw[take_snoc hw,ax];have hS2:gM (upd H' t (.tup [.str kw,.str w])) (upd (upd H' t (.tup [.str kw,.str w])) l (.lst (vs++[.ref t]))):=cL (kp h3 ht);have hS3:gM H' (upd (upd H' t (.tup [.str kw,.str w])) l (.lst (vs++[.ref t]))):=(ab.kt (ab.new ht)).trans hS2;refine Paired.app (Paired.mapP h1 fun v sg ⟨s,e1,e2⟩=>⟨s,e1,?_⟩) (.cons ⟨t,rfl,br.of (hS2 _ _ aa)⟩ .nil);rcases e2 with(e2|⟨o,e2⟩)|e2
   ·exact .inl (.inl (hS3 _ _ e2))
   ·refine .inl (.inr ⟨o,?_⟩);rw[ag (fun z=>by rw[z,h3]at e2;cases e2)];exact kp e2 ht
   ·exact .inr e2
  ·intro b o e;rw[ag (ae e hl)];exact kp (h2 _ _ e) ht
inductive sp_door_signs(K:Za)(vs:List V)(H:Hp)(Q:VK)(E:XK):Prop
 |mk (l1 l2:Addr) (J0 J1:Zb):(vs=[.ref l1,.ref l2])->(H l1=some (.lst (J0.map V.str)))->(H l2=some (.lst (J1.map V.str)))->(J0.length<=100)->(J1.length<=100)->(∀(l:Addr) (xs:List V) (H':Hp),Paired (oM K H') xs (ki J0 J1)->ab H H'->H' l=some (.lst xs)->Q (.ref l) H')->sp_door_signs K vs H Q E
theorem vU{K:Za}{st:Addr}(hst:∀H,br K H st (ao.map V.str))(h:sp_door_signs K vs H Q E):xW K st (bJ Q) (start y_ vs) H:=by
 obtain⟨l1,l2,J0,J1,rfl,h1,h2,z1,z2,k⟩:=h;refine⟨_,rfl,l1,rfl,⟨_,az.of h1⟩,fun a ha=>?_⟩;refine uk h1 ha (by omega) fun xs1 H1 p1 s1 g1=>?_;refine⟨_,rfl,l2,rfl,⟨_,az.of (s1 _ _ h2)⟩,fun b hb=>?_⟩;refine uk (s1 _ _ h2) hb (by omega) fun xs2 H2 p2 s2 g2=>?_;have len1:xs1.length<=100:=by rw[Paired.length p1,aj];exact z1
 have len2:xs2.length<=100:=by rw[Paired.length p2,aj];exact z2
 refine⟨a,b,xs1,xs2,rfl,rfl,s2 _ _ g1,g2,fb (ar (by omega)),fun c hc=>?_⟩;refine⟨(by show 1<=ai;decide),fun d hd=>?_⟩;refine⟨c,d,_,_,rfl,rfl,kp aa hd,aa,?_,fun e he=>k e _ _ ?_ ?_ aa⟩
 ·rw[aK];show _+1<=ai;exact fb (ar (by omega))
 ·have sx:ab H2 (upd (upd (upd H2 c (.lst (xs1++xs2))) d (.lst [.ref st])) e (.lst (xs1++xs2++[.ref st]))):=((ab.new hc).trans (ab.new hd)).trans (ab.new he);exact Paired.app (Paired.app (Signs.same (s2.trans sx) p1) (Signs.same sx p2)) (.cons ⟨st,rfl,hst _⟩ .nil)
 ·exact(((s1.trans s2).trans (ab.new hc)).trans (ab.new hd)).trans (ab.new he)
def Ii(J2:Zb)(sgs:List (List Str)):Nat->List am->List am->Option Nat
 |_,_,[]=>none
 |i,ahead,d::ds=>if i=2000∨d∈ahead∨d.a∉J2∨d.sg∉sgs∨d.b∉J2 then some i else Ii J2 sgs (i+1) (ahead++[d]) ds
inductive sp_first_wrong_door(K:Za)(vs:List V)(H:Hp)(Q:VK)(E:XK):Prop
 |mk (l l3 sl:Addr) (ts:Ze) (ds:List am) (J2:Zb) (xs:List V) (sgs:List (List Str)):(vs=[.ref l,.ref l3,.ref sl])->(H l=some (.lst (ts.map V.ref)))->(cF H ts ds)->(H l3=some (.lst (J2.map V.str)))->(J2.length<=1000)->(H sl=some (.lst xs))->(Paired (oM K H) xs sgs)->(ds.length<=9000)->(∀H',ab H H'->Q (oV (Ii J2 sgs 0 [] ds)) H')->sp_first_wrong_door K vs H Q E
theorem cj{ws:Ze}{i:Nat}{x:V}(h:(ws.map V.ref)[i]?=some x):∃w,ws[i]?=some w/\x=.ref w:=by
 rw[bQ]at h;cases q:ws[i]? with
 |none=>rw[q]at h;cases h
 |some r=>rw[q]at h;exact⟨r,rfl,(fe h).symm⟩
theorem nz{K:Za}(h:sp_first_wrong_door K vs H Q E):n_ K (sp_as_keys K) (bJ Q) (start oP vs) H:=by
 obtain⟨l,l3,sl,ts,ds,J2,xs,sgs,rfl,hl,hds,h3,hr,hsl,hsg,hz,k⟩:=h;refine⟨_,rfl,rj (az.of h3) hr fun d hd=>?_⟩;refine fun e he=>?_;have hS0:ab H (upd (upd H d (.dK (aJ J2))) e (.dT [])):=(ab.new hd).trans (ab.new he);have heH:H e=none:=(ab.new hd).free he;refine⟨_,rfl,l,rfl,⟨_,az.of (hS0 _ _ hl)⟩,?_⟩;refine mw (xs:=ts.map V.ref) (fun i σ H'=>∃x y,σ=[some (.ref l),some (.ref l3),some (.ref sl),some (.ref d),some (.ref e),x,y]/\ab H H'/\H' d=some (.dK (aJ J2))/\H' e=some (.dT (lr ((ds.take i).map DD)))/\Ii J2 sgs i (ds.take i) (ds.drop i)=Ii J2 sgs 0 [] ds)
  ⟨_,_,rfl,hS0,kp aa he,aa,rfl⟩ (fun i σ H' _ ⟨_,_,_,hS,_⟩=>az.of (hS _ _ hl)) ?_ ?_
 ·rintro i x σ H' q hi ⟨x5,x6,rfl,hS,hd',he',hf⟩ hq;obtain⟨t,ht,rfl⟩:=cj hi;obtain⟨dr,hdr,hat⟩:=Paired.getL hds ht;have hil:i<ds.length:=(cu.mp hdr).1;have ed:ds.drop i=dr::ds.drop (i+1):=by
   rw[List.drop_eq_getElem_cons hil];congr 1;exact(cu.mp hdr).2
  rw[ed]at hf;have hS2:ab H (upd H' q (.tup [.int i,.ref t])):=hS.trans (ab.new hq);have hd2:upd H' q (.tup [.int i,.ref t]) d=_:=kp hd' hq;have he2:upd H' q (.tup [.int i,.ref t]) e=_:=kp he' hq;refine⟨q,_,rfl,br.of aa,rfl,_,_,rfl,_,_,rfl,rfl,?_⟩;generalize upd H' q (.tup [.int i,.ref t])=H2 at hd2 he2 hS2 ⊢;have hat2:=hat.kt (ab.kt hS2);have hin:je K H2 (DD dr) (.ref t):=cW.isIn 8 (by rw[wg];decide) hat2.tk;have hd8:(DD dr).depth<=8:=by rw[wg];decide
  obtain⟨s,ht2,hs2⟩:=hat2;have bad:(i=2000∨dr∈ds.take i∨dr.a∉J2∨dr.sg∉sgs∨dr.b∉J2)->Q (.int i) H2:=by
   intro c;have:=k H2 hS2;rw[<-hf]at this;unfold Ii at this;rw[if_pos c]at this;exact this
  refine⟨_,rfl,rfl,_,rfl,?_⟩;by_cases c1:i=2000
  ·have e1:decide (V.int (i:Nat)=V.int 2000)=true:=zzr1 (by rw[c1];rfl);rw[e1];exact cR (cR ⟨_,rfl,bad (.inl c1)⟩)
  have e1:decide (V.int (i:Nat)=V.int 2000)=false:=zzr0 (fun z=>c1 (by injection z with z;omega));rw[e1];refine bR ?_;refine⟨_,rfl,_,rfl,e,_,rfl,.inr ⟨_,DD dr,t,.inl he2,rfl,hin,hd8,rfl⟩,_,rfl,?_⟩;rw[Gq];by_cases c2:dr∈ds.take i
  ·rw[zzr1 (Dr.mpr c2)];exact cR ⟨_,rfl,bad (.inr (.inl c2))⟩
  rw[zzr0 (fun z=>c2 (Dr.mp z))];refine bR ?_;refine⟨_,rfl,.inr (.inl ⟨t,_,0,_,rfl,rfl,br.of ht2,rfl,_,rfl,d,_,rfl,.inl ⟨_,.inr dr.a,.inl hd2,rfl,rfl⟩,_,rfl,?_⟩)⟩;rw[dQ];by_cases c3:dr.a∈J2;rotate_left
  ·rw[zzr0 c3];exact cR (cR ⟨_,rfl,bad (.inr (.inr (.inl c3)))⟩)
  rw[zzr1 c3];refine bR ?_;refine⟨_,rfl,.inr (.inl ⟨t,_,1,_,rfl,rfl,br.of ht2,rfl,_,rfl,jr dr.sg,sgs.map jr,sl,xs,aW (br.of hs2),rfl,.inl (az.of (hS2 _ _ hsl)),Signs.dIns (Signs.same hS2 hsg),by rw[bA];decide,EN _,_,rfl,?_⟩)⟩;rw[if_pos rfl];by_cases c4:dr.sg∈sgs;rotate_left
  ·rw[zzr0 (fun z=>c4 (Dq.mp z))];exact cR (cR ⟨_,rfl,bad (.inr (.inr (.inr (.inl c4))))⟩)
  rw[zzr1 (Dq.mpr c4)];refine bR ?_;refine⟨_,rfl,.inr (.inl ⟨t,_,2,_,rfl,rfl,br.of ht2,rfl,_,rfl,d,_,rfl,.inl ⟨_,.inr dr.b,.inl hd2,rfl,rfl⟩,_,rfl,?_⟩)⟩;rw[dQ];by_cases c5:dr.b∈J2;rotate_left
  ·rw[zzr0 c5];exact cR ⟨_,rfl,bad (.inr (.inr (.inr (.inr c5))))⟩
  rw[zzr1 c5];refine bR ?_;have hlen:(lr ((ds.take i).map DD)).length<ai:=gV (bC (EC _) (by rw[aj,aG];omega));refine⟨_,rfl,_,rfl,e,_,rfl,.inr ⟨_,DD dr,t,he2,rfl,g8.tk ⟨s,ht2,hs2⟩,hd8,hlen,rfl⟩,_,_,rfl,?_,?_,?_,?_⟩
  ·intro b o q;rw[ag (ae q heH)];exact hS2 _ _ q
  ·rw[ag (fun z=>by rw[z,he2]at hd2;cases hd2)];exact hd2
  ·rw[aa,take_snoc hdr,ax];exact congrArg (fun z=>some (HO.dT z)) (oF _ _).symm
  ·rw[<-hf,take_snoc hdr]
   conv=>rhs;unfold Ii
   rw[if_neg];rintro(z|z|z|z|z)
   ·exact c1 z
   ·exact c2 z
   ·exact z c3
   ·exact z c4
   ·exact z c5
 ·rintro σ H' ⟨x,y,rfl,hS,_,_,hf⟩;have:=k H' hS;rw[<-hf,aj,Paired.length hds,List.drop_length]at this;exact this
theorem AF{J2:Zb}{sgs:List (List Str)}:∀(ds ahead:List am) (i:Nat),i+ds.length<=2000->(ahead++ds).Nodup->(∀d∈ds,d.a∈J2/\d.sg∈sgs/\d.b∈J2)->Ii J2 sgs i ahead ds=none
 |[],_,_,_,_,_=>rfl
 |n::ns,ahead,i,h1,h2,h3=>by
  rw[dS]at h1;unfold Ii;rw[if_neg]
  ·refine AF ns (ahead++[n]) (i+1) (by omega) (by rw[c9];exact h2) fun w hw=>h3 w (eI _ hw)
  ·have:=h3 n dU;rintro(z|z|z|z|z)
   ·omega
   ·rw[cJ]at h2;exact h2.2.2 n z n (dU) rfl
   ·exact z this.1
   ·exact z this.2.1
   ·exact z this.2.2
inductive sp_need_none (vs:List V)(H:Hp)(Q:VK)(E:XK):Prop
 |mk (x:V):(vs=[x,.non])->(Q .non H)->sp_need_none  vs H Q E
theorem yj{K:Za}(h:sp_need_none vs H Q E):zD K (bJ Q) (start AV vs) H:=by
 obtain⟨x,rfl,k⟩:=h;refine⟨_,rfl,_,rfl,?_⟩;have e:(!decide (V.non=V.non))=false:=by rw[zzr1 rfl];rfl
 rw[e];exact bR k
structure Lists(H:Hp)(l1 l2 l3 l4:Addr)(ts:Ze)(J0 J1 J2:Zb)(ds:List am):Prop where
 a1:H l1=some (.lst (J0.map V.str))
 a2:H l2=some (.lst (J1.map V.str))
 a3:H l3=some (.lst (J2.map V.str))
 a4:H l4=some (.lst (ts.map V.ref))
 ds:cF H ts ds
theorem Lists.same{H H':Hp}{l1 l2 l3 l4:Addr}{ts:Ze}{J0 J1 J2:Zb}{ds:List am}(h:Lists H l1 l2 l3 l4 ts J0 J1 J2 ds)(e:ab H H'):Lists H' l1 l2 l3 l4 ts J0 J1 J2 ds :=
 ⟨e _ _ h.a1,e _ _ h.a2,e _ _ h.a3,e _ _ h.a4,h.ds.kt (ab.kt e)⟩
inductive sp_need_parts (vs:List V)(H:Hp)(Q:VK)(E:XK):Prop
 |mk (l1 l2 l3 l4:Addr) (ts:Ze) (J0 J1 J2:Zb) (ds:List am):(vs=[.ref l1,.ref l2,.ref l3,.ref l4])->(Lists H l1 l2 l3 l4 ts J0 J1 J2 ds)->(aL J0 J1 J2 ds)->(∀H',ab H H'->Q .non H')->sp_need_parts  vs H Q E
theorem aL.signs(m:aL J0 J1 J2 ds):∀d∈ds,d.a∈J2/\d.sg∈ki J0 J1/\d.b∈J2:=by
 intro d hd;have g:=m.good d hd;refine⟨g.a,?_,g.b⟩;unfold ki;rcases g.sg with⟨w,hw,e⟩|⟨w,hw,e⟩|e
 ·rw[e];exact cf _ (cf _ (aw.mpr ⟨w,hw,rfl⟩))
 ·rw[e];exact cf _ (cC _ (aw.mpr ⟨w,hw,rfl⟩))
 ·rw[e];exact cC _ (by simp[ao])
theorem qY(h:kY ws):∀w∈ws,w.length<=1000:=fun w hw=>bC (h.2 w hw).hi (by decide)
theorem vO{K:Za}(h:sp_need_parts vs H Q E):xQ K sp_need_none (sp_first_wrong_door K) (sp_door_signs K) (sp_first_wrong_name K) (bJ Q) (start yZ vs) H:=by
 obtain⟨l1,l2,l3,l4,ts,J0,J1,J2,ds,rfl,L,m,k⟩:=h;have w1:cS J0 4 []=none:=iq m.asks0 m.asks4 m.okA.1 m.okA.2;have w2:cS J1 4 J0=none:=iq m.says0 m.says4 (by
  rw[cJ];exact⟨m.okA.1,m.okS.1,fun a ha b hb e=>m.apart b hb (e▸ha)⟩) m.okS.2
 have w3:cS J2 150 []=none:=iq m.rooms0 (by have:=m.rooms26;omega) m.okR.1 m.okR.2;have w4:Ii J2 (ki J0 J1) 0 [] ds=none:=AF ds [] 0 (by have:=m.few;omega) m.nodup m.signs;have z1:=m.asks4;have z2:=m.says4;have z3:=m.rooms26;have z4:=m.few;refine⟨_,rfl,(by show 0<=ai;decide),fun e he=>⟨l1,e,J0,[],4,rfl,az.of (kp L.a1 he),az.of aa,by simp;omega,qY m.okA,fun H1 s1=>?_⟩⟩;rw[w1];refine⟨_,rfl,?_⟩;have S1:=(ab.new he).trans s1;refine⟨_,rfl,_,rfl,l2,l1,J1,J0,4,rfl,az.of (S1 _ _ L.a2),az.of (S1 _ _ L.a1),by omega,qY m.okS,fun H2 s2=>?_⟩;rw[w2];refine⟨_,rfl,?_⟩;have S2:=S1.trans s2;refine⟨_,rfl,(by show 0<=ai;decide),fun e he=>⟨l3,e,J2,[],150,rfl,az.of (kp (S2 _ _ L.a3) he),az.of aa,by simp;omega,qY m.okR,fun H3 s3=>?_⟩⟩;rw[w3];refine⟨_,rfl,?_⟩;have S3:=(S2.trans (ab.new he)).trans s3;refine⟨_,rfl,_,rfl,_,rfl,_,rfl,l1,l2,J0,J1,rfl,S3 _ _ L.a1,S3 _ _ L.a2,by omega,by omega,fun sl xs H4 hx s4 hsl=>?_⟩;have S4:=S3.trans s4;have L4:=L.same S4;refine⟨l4,l3,sl,ts,ds,J2,xs,ki J0 J1,rfl,L4.a4,L4.ds,L4.a3,by omega,hsl,hx,by omega,fun H5 s5=>?_⟩;rw[w4];exact⟨_,rfl,k H5 (S4.trans s5)⟩
section
variable{κ ι:Type}[DecidableEq κ]{e:ι->κ}
def eB(e:ι->κ)(ps:List (ι×Addr)):List (κ×V):=ps.map fun x=>(e x.1,V.ref x.2)
theorem mY(inj:∀x y,e x=e y->x=y){i:ι}:∀{ps:List (ι×Addr)},i∉ps.map (·.1)->bq (eB e ps) (e i)=none
 |[],_=>rfl
 |x::ps,h=>by
  rw[bI,cH]at h;show bq ((e x.1,V.ref x.2)::eB e ps) (e i)=none;rw[bY (fun z=>h (.inl (inj _ _ z).symm))];exact mY inj (fun z=>h (.inr z))
theorem eD(inj:∀x y,e x=e y->x=y){i:ι}{a:Addr}:∀{ps:List (ι×Addr)},(ps.map (·.1)).Nodup->(i,a)∈ps->bq (eB e ps) (e i)=some (.ref a)
 |[],_,h=>by cases h
 |x::ps,nd,h=>by
  rw[bI,io]at nd;show bq ((e x.1,V.ref x.2)::eB e ps) (e i)=_;rcases cH.mp h with h|h
  ·rw[<-h];exact cz rfl
  ·rw[bY (fun z=>nd.1 (by rw[inj _ _ z];exact aw.mpr ⟨_,h,rfl⟩))];exact eD inj nd.2 h
theorem wF(ps:List (ι×Addr))(i:ι)(a:Addr):eB e (ps++[(i,a)])=eB e ps++[(e i,.ref a)]:=by
 unfold eB;rw[ax]
 rfl
end
structure DL{ι:Type}(H0 H:Hp)(d:Addr)(ps:List (ι×Addr)):Prop where
 nd:(ps.map (·.1)).Nodup
 na:(ps.map (·.2)).Nodup
 fr:∀x∈ps,H0 x.2=none
 frd:H0 d=none
 ned:∀x∈ps,x.2≠d
 same:ab H0 H
theorem DL.snoc{ι:Type}{H0 H H':Hp}{d:Addr}{ps:List (ι×Addr)}{i:ι}{a:Addr}(h:DL H0 H d ps)(hi:i∉ps.map (·.1))(ha:∀x∈ps,x.2≠a)(fr:H0 a=none)(nd:a≠d)(s:ab H0 H'):DL H0 H' d (ps++[(i,a)]):=by
 refine⟨?_,?_,?_,h.frd,?_,s⟩
 ·rw[ax,cJ];refine⟨h.nd,by simp,fun x hx y hy e=>?_⟩;have:y=i:=by simpa using hy
  exact hi (by rw[<-this,<-e];exact hx)
 ·rw[ax,cJ];refine⟨h.na,by simp,fun x hx y hy e=>?_⟩;have:y=a:=by simpa using hy
  obtain⟨z,hz,rfl⟩:=aw.mp hx;exact ha z hz (e.trans this)
 ·intro x hx;rcases a_.mp hx with hx|hx
  ·exact h.fr x hx
  ·have:x=(i,a):=by simpa using hx
   rw[this];exact fr
 ·intro x hx;rcases a_.mp hx with hx|hx
  ·exact h.ned x hx
  ·have:x=(i,a):=by simpa using hx
   rw[this];exact nd
theorem Gi{ι:Type}:∀{ps:List (ι×Addr)},(ps.map (·.2)).Nodup->∀{x y:ι×Addr},x∈ps->y∈ps->x.2=y.2->x=y
 |[],_,x,_,h,_,_=>by cases h
 |p::ps,nd,x,y,hx,hy,e=>by
  rw[bI,io]at nd;rcases cH.mp hx with hx'|hx'<;>rcases cH.mp hy with hy'|hy'
  ·rw[hx',hy']
  ·exact absurd (aw.mpr ⟨y,hy',by rw[<-e,hx']⟩) nd.1
  ·exact absurd (aw.mpr ⟨x,hx',by rw[e,hy']⟩) nd.1
  ·exact Gi nd.2 hx' hy' e
theorem iB:∀x y:Str,(Sum.inr x:fC)=Sum.inr y->x=y:=fun x y h=>by injection h
def bj(ds:List am)(r:Str):List am:=ds.filter fun d=>decide (d.a=r)
inductive sp_doors_by_start (vs:List V)(H:Hp)(Q:VK)(E:XK):Prop
 |mk (l3 l4:Addr) (ts:Ze) (J2:Zb) (ds:List am):(vs=[.ref l3,.ref l4])->(H l3=some (.lst (J2.map V.str)))->(H l4=some (.lst (ts.map V.ref)))->(cF H ts ds)->(J2.Nodup)->(J2.length<=1000)->(ds.length<=9000)->((∀d∈ds,d.a∈J2))->(∀(d:Addr) (ps:List (Str×Addr)) (H':Hp),ps.map (·.1)=J2->H' d=some (.dK (eB Sum.inr ps))->(∀x∈ps,∃us,H' x.2=some (.lst (us.map V.ref))/\cF H' us (bj ds x.1))->ab H H'->Q (.ref d) H')->sp_doors_by_start  vs H Q E
theorem pM{K:Za}{vs:List V}{H:Hp}{Q:VK}{E:XK}(h:sp_doors_by_start vs H Q E):qP K (bJ Q) (start rC vs) H:=by
 obtain⟨l3,l4,ts,J2,ds,rfl,h3,h4,hds,nod,hz,hz2,hin,k⟩:=h;refine fun d hd=>?_;refine⟨_,rfl,l3,rfl,⟨_,az.of (kp h3 hd)⟩,?_⟩;refine bP (xs:=J2.map V.str) (fun i σ H'=>∃x y,σ=[some (.ref l3),some (.ref l4),some (.ref d),x,y]/\∃ps:List (Str×Addr),ps.map (·.1)=J2.take i/\H' d=some (.dK (eB Sum.inr ps))/\DL H H' d ps/\∀x∈ps,H' x.2=some (.lst []))
  ⟨_,_,rfl,[],rfl,aa,⟨by simp,by simp,by simp,hd,by simp,ab.new hd⟩,by simp⟩ (fun i σ H' _ ⟨_,_,_,_,_,_,D,_⟩=>az.of (D.same _ _ h3)) ?_ ?_
 ·rintro i x σ H' hi ⟨x3,x4,rfl,ps,hps,hd',D,hls⟩;obtain⟨w,hw,rfl⟩:=bm hi;have hnew:w∉ps.map (·.1):=by
   rw[hps];intro z;have:=nod;rw[<-sZ (i+1) J2,take_snoc hw,cJ]at this;have:=this.1;rw[cJ]at this;exact this.2.2 w z w (by simp) rfl
  refine⟨(by show 0<=ai;decide),fun a ha=>?_⟩;have hlen:(eB (Sum.inr:Str->fC) ps).length<ai:=ar (by
   unfold eB;rw[aj,<-aj (f:=(·.1)) (as:=ps),hps,aG];omega)
  have haH:H a=none:=D.same.free ha;have nda:a≠d:=(ae hd' ha).symm;have hneA:∀x∈ps,x.2≠a:=fun x hx=>ae (hls x hx) ha;refine⟨_,rfl,_,rfl,d,_,rfl,.inl ⟨_,.inr w,kp hd' ha,rfl,hlen,rfl⟩,_,_,rfl,ps++[(w,a)],?_,?_,?_,?_⟩
  ·rw[ax,hps,take_snoc hw];rfl
  ·rw[aa,dq _ (mY iB hnew),wF]
  ·refine D.snoc hnew hneA haH nda ?_;intro b o q;rw[ag (ae q hd)];exact kp (D.same _ _ q) ha
  ·intro x hx;rcases a_.mp hx with hx|hx
   ·rw[ag (D.ned x hx)];exact kp (hls x hx) ha
   ·have:x=(w,a):=by simpa using hx
    rw[this,ag nda];exact aa
 ·rintro σ H1 ⟨x3,x4,rfl,ps,hps,hd1,D1,hls⟩;rw[aj,aR]at hps;refine⟨_,rfl,l4,rfl,⟨_,az.of (D1.same _ _ h4)⟩,?_⟩;refine bP (xs:=ts.map V.ref) (fun i σ H'=>∃x4,σ=[some (.ref l3),some (.ref l4),some (.ref d),x3,x4]/\H' d=some (.dK (eB Sum.inr ps))/\DL H H' d ps/\∀x∈ps,∃us,H' x.2=some (.lst (us.map V.ref))/\cF H' us (bj (ds.take i) x.1))
   ⟨_,rfl,hd1,D1,fun x hx=>⟨[],hls x hx,.nil⟩⟩ (fun i σ H' _ ⟨_,_,_,D,_⟩=>az.of (D.same _ _ h4)) ?_ ?_
  ·rintro i x σ H' hi ⟨x4,rfl,hd',D,hls⟩;obtain⟨t,ht,rfl⟩:=cj hi;obtain⟨dr,hdr,hat⟩:=Paired.getL hds ht;have hat':=hat.kt (ab.kt D.same);have hat2:=hat';obtain⟨s,ht2,hs2⟩:=hat';have hmem:dr.a∈ps.map (·.1):=by rw[hps];exact hin dr (aZ hdr)
   obtain⟨⟨r,a⟩,hra,er⟩:=aw.mp hmem;obtain rfl:r=dr.a:=er;obtain⟨us,hus,hdo⟩:=hls _ hra;have hil:i<ds.length:=(cu.mp hdr).1;have hlu:us.length<=9000:=by
    rw[Paired.length hdo];refine bC (c8 _ _) ?_;rw[aG];omega
   have KT:gM H' (upd H' a (.lst (us.map V.ref++[.ref t]))):=cL hus;refine⟨_,rfl,_,rfl,.inr (.inl ⟨t,_,0,_,rfl,rfl,br.of ht2,rfl,d,.ref a,rfl,.inl ⟨_,.inr dr.a,.inl hd',rfl,(eD iB D.nd hra).symm⟩,.inl ⟨rfl,_,az.of hus⟩,_,rfl,a,_,_,rfl,rfl,hus,?_,_,rfl,?_,?_,?_⟩)⟩
   ·rw[aj];exact gV hlu
   ·rw[ag (D.ned _ hra).symm];exact hd'
   ·refine⟨D.nd,D.na,D.fr,D.frd,D.ned,fun b o q=>?_⟩;rw[ag (ae q (D.fr _ hra))];exact D.same _ _ q
   ·intro x hx;have hfl:∀r',bj (ds.take (i+1)) r'=bj (ds.take i) r'++(if dr.a=r' then[dr]else[]):=by
     intro r';unfold bj;rw[take_snoc hdr,nQ];congr 1;by_cases c:dr.a=r'
     ·rw[if_pos c];simp[c]
     ·rw[if_neg c];simp[c]
    by_cases c:x.2=a
    ·have ex:=Gi D.na hx hra c;subst ex;refine⟨us++[t],?_,?_⟩
     ·show upd H' a _ a=_;rw[aa,ax];rfl
     ·rw[hfl];show cF _ _ (bj (ds.take i) dr.a++(if dr.a=dr.a then[dr]else[]))
      rw[if_pos rfl];exact Paired.app (hdo.kt KT) (.cons (hat2.kt KT) .nil)
    ·obtain⟨us',h1,h2⟩:=hls x hx;have hne:¬(dr.a=x.1):=fun z=>by
      have e1:=eD (e:=(Sum.inr:Str->fC)) iB D.nd hra;have e2:=eD (e:=(Sum.inr:Str->fC)) (i:=x.1) (a:=x.2) iB D.nd hx;rw[<-z,e1]at e2;injection e2 with e2;injection e2 with e2;exact c e2.symm
     refine⟨us',by rw[ag c];exact h1,?_⟩;rw[hfl,if_neg hne,dj];exact h2.kt KT
  ·rintro σ H' ⟨x4,rfl,hd',D,hls⟩;rw[aj,Paired.length hds,aR]at hls;exact⟨_,rfl,k d ps H' hps hd' hls D.same⟩
def gB(d:am):Bool:=match d.sg with
 |s::_=>decide (s=("ask":Str))
 |[]=>false
inductive sp_has_asks_alone (vs:List V)(H:Hp)(Q:VK)(E:XK):Prop
 |mk (a:Addr) (us:Ze) (ds:List am):(vs=[.ref a])->(H a=some (.lst (us.map V.ref)))->(cF H us ds)->(ds.length<=9000)->((∀d∈ds,d.sg≠[]))->(∀H',ab H H'->Q (.bl (ds.all gB)) H')->sp_has_asks_alone  vs H Q E
theorem pL{K:Za}(h:sp_has_asks_alone vs H Q E):qO K (bJ Q) (start rB vs) H:=by
 obtain⟨a,us,ds,rfl,ha,hds,hz,hne,k⟩:=h;refine⟨_,rfl,a,rfl,⟨_,az.of ha⟩,fun l hl=>?_⟩;refine bZ (xs:=us.map V.ref) (fun i vs H'=>vs=(ds.take i).map (fun d=>V.bl (gB d))/\ab H H'/\H' l=some (.lst vs))
  ⟨rfl,ab.new hl,aa⟩ (fun i vs H' _ ⟨_,hS,h'⟩=>⟨h',az.of (hS _ _ ha)⟩) ?_ ?_
 ·rintro vs H' ⟨rfl,hS,h'⟩;rw[aj,Paired.length hds,aR]at h';refine⟨l,ds.map gB,rfl,az.of (by rw[h',qq];rfl),?_⟩;rw[xo];exact k H' hS
 ·rintro i vs H' x hx hi ⟨rfl,hS,h'⟩;obtain⟨t,ht,rfl⟩:=cj hx;obtain⟨dr,hdr,hat⟩:=Paired.getL hds ht;obtain⟨s,ht2,hs2⟩:=hat.kt (ab.kt hS);have hmem:=aZ hdr;obtain⟨s0,rest,hsg⟩:∃s0 rest,dr.sg=s0::rest:=by
   cases q:dr.sg with
   |nil=>exact absurd q (hne dr hmem)
   |cons x y=>exact⟨x,y,rfl⟩
  unfold SignAt at hs2;rw[hsg]at hs2;refine gN (se ?_);refine⟨_,rfl,.inr (.inl ⟨t,_,1,_,rfl,rfl,br.of ht2,rfl,.inr (.inl ⟨s,_,0,.str s0,rfl,rfl,br.of hs2,bH (j:=0) rfl,rfl,h',?_,nA hi ⟨?_,?_,aa⟩⟩)⟩)⟩
  ·rw[aj,aG];exact gV (by omega)
  ·rw[take_snoc hdr,ax];congr 1;show[V.bl _]=[V.bl _];congr 2;unfold gB;rw[hsg];show decide (V.str s0=V.str _)=decide (s0=_);by_cases c:s0=("ask":Str)
   ·rw[zzr1 c,zzr1 (by rw[c])]
   ·rw[zzr0 c,zzr0 (fun z=>c (by injection z))]
  ·intro b o e;rw[ag (ae e hl)];exact hS _ _ e
def vq(x:Str×List Str):TK:=.t [mV x.1,fB x.2]
theorem iz:∀x y:Str×List Str,vq x=vq y->x=y:=by
 intro x y h;unfold vq at h;injection h with h;injection h with h1 h;injection h with h2 h;cases x;cases y;simp only at *;rw[pI h1,iC h2]
theorem mU(x:Str×List Str):(vq x).depth<=8:=by
 show max (TK.depth (mV x.1)) (max (TK.depth (fB x.2)) 0)+1<=8;rw[qJ];show max 0 (max 1 0)+1<=8
 decide
def bz(ds:List am)(x:Str×List Str):List Str:=(ds.filter fun d=>decide (d.a=x.1/\d.sg=x.2)).map (·.b)
theorem yI(ds:List am)(d:am)(x:Str×List Str):bz (ds++[d]) x=bz ds x++(if(d.a,d.sg)=x then[d.b]else[]):=by
 unfold bz;rw[nQ,ax];congr 1;by_cases c:(d.a,d.sg)=x
 ·subst c;simp
 ·rw[if_neg c];have:¬(d.a=x.1/\d.sg=x.2):=fun z=>c (by cases x;simp only at z;rw[z.1,z.2]);simp[xb];intro h1 h2;exact this ⟨h1,h2⟩
theorem mv{ds:List am}{x:Str×List Str}(h:∀d∈ds,(d.a,d.sg)≠x):bz ds x=[]:=by
 unfold bz;rw[List.map_eq_nil_iff,List.filter_eq_nil_iff];intro d hd;have:¬(d.a=x.1/\d.sg=x.2):=fun z=>h d hd (by cases x;simp only at z;rw[z.1,z.2]);simp;intro h1 h2;exact this ⟨h1,h2⟩
theorem eN{b:Str}:b∈bz ds x↔(⟨x.1,x.2,b⟩:am)∈ds:=by
 unfold bz;rw[aw];constructor
 ·rintro⟨d,hd,rfl⟩;rw[bD]at hd;obtain⟨h1,h2⟩:=hd;obtain⟨h3,h4⟩:=of_decide_eq_true h2;cases d;simp only at h3 h4;rw[<-h3,<-h4];exact h1
 ·intro h;exact⟨_,bD.mpr ⟨h,zzr1 ⟨rfl,rfl⟩⟩,rfl⟩
structure jv(H:Hp)(g:Addr)(ps:List ((Str×List Str)×Addr))(ds:List am):Prop where
 nd:(ps.map (·.1)).Nodup
 g:H g=some (.dT (eB vq ps))
 ls:∀x∈ps,H x.2=some (.lst ((bz ds x.1).map V.str))
 all:∀d∈ds,(d.a,d.sg)∈ps.map (·.1)
theorem jv.same{H H':Hp}{g:Addr}{ps:List ((Str×List Str)×Addr)}{ds:List am}(h:jv H g ps ds)(s:ab H H'):jv H' g ps ds:=⟨h.nd,s _ _ h.g,fun x hx=>s _ _ (h.ls x hx),h.all⟩
inductive pE (vs:List V)(H:Hp)(Q:VK)(E:XK):Prop
 |mk (l4:Addr) (ts:Ze) (ds:List am):(vs=[.ref l4])->(H l4=some (.lst (ts.map V.ref)))->(cF H ts ds)->(ds.length<=9000)->(∀(g:Addr) (ps:List ((Str×List Str)×Addr)) (H':Hp),jv H' g ps ds->ab H H'->Q (.ref g) H')->pE  vs H Q E
theorem iY{K:Za}(h:pE vs H Q E):jb K (bJ Q) (start jf vs) H:=by
 obtain⟨l4,ts,ds,rfl,h4,hds,hz,k⟩:=h;refine fun g hg=>?_;refine⟨_,rfl,l4,rfl,⟨_,az.of (kp h4 hg)⟩,?_⟩;refine bP (xs:=ts.map V.ref) (fun i σ H'=>∃x y z,σ=[some (.ref l4),some (.ref g),x,y,z]/\∃ps:List ((Str×List Str)×Addr),DL H H' g ps/\H' g=some (.dT (eB vq ps))/\ps.length<=i/\(∀x∈ps,H' x.2=some (.lst ((bz (ds.take i) x.1).map V.str)))/\∀d∈ds.take i,(d.a,d.sg)∈ps.map (·.1))
  ⟨_,_,_,rfl,[],⟨by simp,by simp,by simp,hg,by simp,ab.new hg⟩,aa,by simp,by simp,by simp⟩ (fun i σ H' _ ⟨_,_,_,_,_,D,_⟩=>az.of (D.same _ _ h4)) ?_ ?_
 ·rintro i x σ H' hi ⟨x2,x3,x4,rfl,ps,D,hg',hlen,hls,hall⟩;obtain⟨t,ht,rfl⟩:=cj hi;obtain⟨dr,hdr,hat⟩:=Paired.getL hds ht;have hil:i<ds.length:=(cu.mp hdr).1;obtain⟨s,ht2,hs2⟩:=hat.kt (ab.kt D.same);refine⟨t,_,rfl,br.of ht2,rfl,_,_,rfl,_,_,rfl,_,_,rfl,rfl,?_⟩;refine⟨_,rfl,.inr (.inr (.inl ⟨rfl,.inr ⟨_,hg'⟩⟩)),_,rfl,_,rfl,(by show 2<=ai;decide),fun kt hkt=>⟨(by show 0<=ai;decide),fun nl hnl=>?_⟩⟩;have S2:ab H' (upd (upd H' kt (.tup [.str dr.a,.ref s])) nl (.lst [])):=(ab.new hkt).trans (ab.new hnl);have hkt2:upd (upd H' kt (.tup [.str dr.a,.ref s])) nl (.lst []) kt=some (.tup [.str dr.a,.ref s]):=kp aa hnl;have hnl2:upd (upd H' kt (.tup [.str dr.a,.ref s])) nl (.lst []) nl=some (.lst []):=aa;have hnlH':H' nl=none:=(ab.new hkt).free hnl;generalize upd (upd H' kt (.tup [.str dr.a,.ref s])) nl (.lst [])=H2 at S2 hkt2 hnl2 ⊢;have htk:cW H2 (vq (dr.a,dr.sg)) (.ref kt):=by
   unfold vq cW;refine⟨kt,_,rfl,hkt2,?_⟩;unfold TKAts;refine⟨_,_,rfl,tR _,?_⟩;unfold TKAts;refine⟨_,_,rfl,SignAt.tk (S2 _ _ hs2),?_⟩;unfold TKAts
   rfl
  have hlk:(eB vq ps).length<ai:=gV (by unfold eB;rw[aj];omega);have hgo:∀x,bz (ds.take (i+1)) x=bz (ds.take i) x++(if(dr.a,dr.sg)=x then[dr.b]else[]):=fun x=>by rw[take_snoc hdr,yI]
  have hgl:∀x,(bz (ds.take i) x).length<=9000:=fun x=>by
   unfold bz;rw[aj];refine bC (c8 _ _) ?_;rw[aG];omega
  refine⟨g,kt,_,vq (dr.a,dr.sg),.ref nl,rfl,rfl,S2 _ _ hg',htk,mU _,hlk,fun v hv=>?_,fun hv=>?_⟩
  ·-- there already
   have hmem:(dr.a,dr.sg)∈ps.map (·.1):=by
    refine xv fun z=>?_;rw[mY iz z]at hv;cases hv
   obtain⟨⟨r,a⟩,hra,er⟩:=aw.mp hmem;obtain rfl:r=(dr.a,dr.sg):=er;rw[eD iz D.nd hra]at hv;injection hv with hv;subst hv;have hla:=S2 _ _ (hls _ hra);refine⟨.inl ⟨rfl,_,az.of hla⟩,_,rfl,a,_,_,rfl,rfl,hla,by rw[aj];exact gV (hgl _),_,_,_,rfl,ps,⟨D.nd,D.na,D.fr,D.frd,D.ned,fun b o q=>?_⟩,?_,by omega,?_,?_⟩
   ·rw[ag (ae q (D.fr _ hra))];exact S2 _ _ (D.same _ _ q)
   ·rw[ag (D.ned _ hra).symm];exact S2 _ _ hg'
   ·intro x hx;by_cases c:x.2=a
    ·have ex:=Gi D.na hx hra c;subst ex;show upd H2 a _ a=_;rw[aa,hgo,if_pos rfl,ax];rfl
    ·have hne:¬((dr.a,dr.sg)=x.1):=fun z=>by
      have e1:=eD (e:=vq) iz D.nd hra;have e2:=eD (e:=vq) (i:=x.1) (a:=x.2) iz D.nd hx;rw[<-z,e1]at e2;injection e2 with e2;injection e2 with e2;exact c e2.symm
     rw[ag c,hgo,if_neg hne,dj];exact S2 _ _ (hls x hx)
   ·intro d hd;rw[take_snoc hdr]at hd;rcases a_.mp hd with hd|hd
    ·exact hall d hd
    ·have:d=dr:=by simpa using hd
     rw[this];exact hmem
  ·-- a new list
   have hnew:(dr.a,dr.sg)∉ps.map (·.1):=by
    intro z;obtain⟨⟨r,a⟩,hra,er⟩:=aw.mp z;obtain rfl:r=(dr.a,dr.sg):=er;rw[eD iz D.nd hra]at hv;cases hv
   have hgne:nl≠g:=(ae hg' hnlH').symm;have hnl3:upd H2 g (.dT (eB vq ps++[(vq (dr.a,dr.sg),.ref nl)])) nl=some (.lst []):=by rw[ag hgne];exact hnl2
   refine⟨.inl ⟨rfl,_,az.of hnl3⟩,_,rfl,nl,_,_,rfl,rfl,hnl3,(by show 0<ai;decide),_,_,_,rfl,ps++[((dr.a,dr.sg),nl)],?_,?_,?_,?_,?_⟩
   ·refine D.snoc hnew (fun x hx=>ae (hls x hx) hnlH') (D.same.free hnlH') hgne ?_;intro b o q;rw[ag (ae q (D.same.free hnlH')),ag (ae q hg)];exact S2 _ _ (D.same _ _ q)
   ·rw[ag hgne.symm,aa,wF]
   ·rw[aK];show _+1<=_;omega
   ·intro x hx;rcases a_.mp hx with hx|hx
    ·have hne:¬((dr.a,dr.sg)=x.1):=fun z=>hnew (by rw[z];exact aw.mpr ⟨x,hx,rfl⟩);rw[ag (ae (hls x hx) hnlH'),ag (D.ned x hx),hgo,if_neg hne,dj];exact S2 _ _ (hls x hx)
    ·have:x=((dr.a,dr.sg),nl):=by simpa using hx
     subst this;have hnil:bz (ds.take i) (dr.a,dr.sg)=[]:=mv fun d hd z=>hnew (by rw[<-z];exact hall d hd);show upd _ nl _ nl=_;rw[aa,hgo,if_pos rfl,hnil]
     rfl
   ·intro d hd;rw[ax];rw[take_snoc hdr]at hd;rcases a_.mp hd with hd|hd
    ·exact cf _ (hall d hd)
    ·have:d=dr:=by simpa using hd
     rw[this];exact cC _ (by simp)
 ·rintro σ H' ⟨x2,x3,x4,rfl,ps,D,hg',hlen,hls,hall⟩;rw[aj,Paired.length hds,aR]at hls hall;exact⟨_,rfl,k g ps H' ⟨D.nd,hg',hls,hall⟩ D.same⟩
theorem mn:∀{L R:Zb},L.Nodup->(∀y∈L,y∈R)->L.length<=R.length
 |[],_,_,_=>cX _
 |x::L,R,nd,h=>by
  rw[io]at nd;have hx:=h x dU;have:=mn (L:=L) (R:=R.erase x) nd.2 fun y hy=>(List.mem_erase_of_ne (fun e:y=x=>nd.1 (by rw[<-e];exact hy))).mpr (h y (eI _ hy));rw[List.length_erase_of_mem hx]at this;have:0<R.length:=List.length_pos_of_mem hx;rw[dS];omega
theorem Reach.in_{ds:List am}{J2:Zb}(hr:∀d∈ds,d.b∈J2)(h:Reach ds a b):b∈J2:=by
 cases h with
 |one h=>exact hr _ h
 |step r h=>exact hr _ h
inductive yg (vs:List V)(H:Hp)(Q:VK)(E:XK):Prop
 |mk (g:Addr) (room:Str) (ps:List ((Str×List Str)×Addr)) (ds:List am) (J2:Zb):(vs=[.ref g,.str room])->(jv H g ps ds)->((∀d∈ds,d.b∈J2))->(J2.length<=1000)->(∀(d:Addr) (L:Zb) (H':Hp),H' d=some (.dK (aJ L))->L.Nodup->(∀w,w∈L↔Reach ds room w)->H d=none->ab H H'->Q (.ref d) H')->yg  vs H Q E
structure JI(H0 H:Hp)(ds:List am)(room:Str)(d w:Addr)(L W:Zb)(open_:Str->Prop):Prop where
 d:H d=some (.dK (aJ L))
 w:H w=some (.lst (W.map V.str))
 same:ab H0 H
 nd:L.Nodup
 sound:∀y∈L,Reach ds room y
 wait:∀y∈W,y=room∨y∈L
 closed:∀y,(y=room∨y∈L)->y∉W->¬open_ y->∀c∈bz ds (y,ao),c∈L
theorem sy{K:Za}{st:Addr}(hst:∀H,br K H st (ao.map V.str))(h:yg vs H Q E):tS K st (bJ Q) (start vb vs) H:=by
 obtain⟨g,room,ps,ds,J2,rfl,G,hin,hz,k⟩:=h;refine fun d hd=>?_;refine⟨_,rfl,(by show 1<=ai;decide),fun w hw=>?_⟩;have hwH:H w=none:=(ab.new hd).free hw;have hdw:d≠w:=ae aa hw;refine⟨fun m σ H'=>∃(L W:Zb) (x y:Option V),σ=[some (.ref g),some (.str room),some (.ref d),some (.ref w),x,y]/\JI H H' ds room d w L W (fun _=>False)/\m=2 * (J2.length-L.length)+W.length/\m<=2 * J2.length+1,
  ⟨_,[],[room],_,_,rfl,⟨kp aa hw,aa,(ab.new hd).trans (ab.new hw),nU,by simp,by simp,?_⟩,rfl,aA _⟩,?_⟩
 ·intro y hy hn;rcases hy with rfl|hy
  ·simp at hn
  ·cases hy
 rintro m σ H1 ⟨L,W,x4,x5,rfl,D,rfl,hbound⟩;have lenL:∀{L':Zb},L'.Nodup->(∀y∈L',Reach ds room y)->L'.length<=J2.length:=fun nd sd=>mn nd fun y hy=>(sd y hy).in_ hin;refine⟨_,rfl,.inl ⟨w,_,rfl,.inl (az.of D.w),_,_,rfl,rfl,_,rfl,?_⟩⟩;refine jJ (fun hpos=>?_) (fun hpos=>?_)
 ·have hne:W≠[]:=by
   intro z;rw[z]at hpos;exact absurd (of_decide_eq_true hpos) (by decide)
  obtain⟨W',here,rfl⟩:∃W' here,W=W'++[here]:=⟨W.dropLast,W.getLast hne,(List.dropLast_concat_getLast hne).symm⟩;have hhere:here=room∨here∈L:=D.wait here (by simp);refine⟨fun σ' H'=>∃(L' W2:Zb) (x y:Option V),σ'=[some (.ref g),some (.str room),some (.ref d),some (.ref w),x,y]/\JI H H' ds room d w L' W2 (fun _=>False)/\2 * (J2.length-L'.length)+W2.length<2 * (J2.length-L.length)+(W'++[here]).length,
   fun σ' H' ⟨L',W2,x,y,e,D',hm⟩=>⟨_,hm,L',W2,x,y,e,D',rfl,by omega⟩,?_⟩
  have hlast:((W'++[here]).map V.str)[((W'++[here]).map V.str).length-1]?=some (.str here):=by simp
  have hdrop:((W'++[here]).map V.str).dropLast=W'.map V.str:=by rw[ax];simp
  refine⟨_,rfl,.inl ⟨rfl,_,az.of D.w⟩,w,_,_,rfl,rfl,D.w,hlast,?_⟩;rw[hdrop];have hd1:upd H1 w (.lst (W'.map V.str)) d=some (.dK (aJ L)):=by rw[ag hdw];exact D.d
  have hw1:upd H1 w (.lst (W'.map V.str)) w=some (.lst (W'.map V.str)):=aa;have S1:ab H (upd H1 w (.lst (W'.map V.str))):=fun b o q=>by rw[ag (ae q hwH)];exact D.same _ _ q
  generalize upd H1 w (.lst (W'.map V.str))=H2 at hd1 hw1 S1 ⊢;have G2:=G.same S1;refine⟨_,rfl,g,rfl,.inr ⟨_,.inl G2.g⟩,_,rfl,(by show 2<=ai;decide),fun kt hkt=>⟨(by show 0<=ai;decide),fun et het=>⟨bq (eB vq ps) (vq (here,ao)),.inr ⟨_,vq (here,ao),kt,.inl ?_,rfl,?_,mU _,rfl⟩,?_⟩⟩⟩
  ·exact kp (kp G2.g hkt) het
  ·unfold vq je;refine⟨kt,_,rfl,br.of (kp aa het),?_⟩;unfold TKIns;refine⟨_,_,rfl,?_,?_⟩
   ·unfold mV je;rfl
   unfold TKIns;refine⟨_,_,rfl,?_,?_⟩
   ·unfold fB je;refine⟨st,_,rfl,hst _,?_⟩;unfold ao;show TKIns K _ [mV _] [V.str _];unfold TKIns;refine⟨_,_,rfl,?_,?_⟩
    ·unfold mV je;rfl
    unfold TKIns;rfl
   unfold TKIns;rfl
  have S3:ab H2 (upd (upd H2 kt (.tup [.str here,.ref st])) et (.tup [])):=(ab.new hkt).trans (ab.new het);have het3:upd (upd H2 kt (.tup [.str here,.ref st])) et (.tup []) et=some (.tup []):=aa;generalize upd (upd H2 kt (.tup [.str here,.ref st])) et (.tup [])=H3 at S3 het3 ⊢;have D3:JI H H3 ds room d w L W' (fun y=>y=here):=⟨S3 _ _ hd1,S3 _ _ hw1,S1.trans S3,D.nd,D.sound,fun y hy=>D.wait y (cf _ hy),fun y hy hn ho=>D.closed y hy (fun z=>by rcases a_.mp z with z|z;exact hn z;exact ho (by simpa using z)) (fun z=>z)⟩;have hm3:2 * (J2.length-L.length)+W'.length<2 * (J2.length-L.length)+(W'++[here]).length:=by rw[aK];show _<_+(_+1);omega
  have fin:∀(H4:Hp) (L' W2:Zb) (x y:Option V),JI H H4 ds room d w L' W2 (fun y=>y=here)->(∀c∈bz ds (here,ao),c∈L')->2 * (J2.length-L'.length)+W2.length<2 * (J2.length-L.length)+(W'++[here]).length ->
    ∃(L' W2:Zb) (x' y':Option V),[some (V.ref g),some (.str room),some (.ref d),some (.ref w),x,y]=[some (.ref g),some (.str room),some (.ref d),some (.ref w),x',y']/\JI H H4 ds room d w L' W2 (fun _=>False)/\2 * (J2.length-L'.length)+W2.length<2 * (J2.length-L.length)+(W'++[here]).length:=by
   intro H4 L' W2 x y D4 hc hm;refine⟨L',W2,x,y,rfl,⟨D4.d,D4.w,D4.same,D4.nd,D4.sound,D4.wait,fun y hy hn _=>?_⟩,hm⟩;by_cases e:y=here
   ·rw[e];exact hc
   ·exact D4.closed y hy hn e
  by_cases hmem:(here,ao)∈ps.map (·.1)
  ·obtain⟨⟨r,a⟩,hra,er⟩:=aw.mp hmem;obtain rfl:r=(here,ao):=er;rw[eD iz G.nd hra];have hla:=G.ls _ hra;refine⟨a,rfl,.inl ⟨⟨_,az.of ((S1.trans S3) _ _ hla)⟩,?_⟩⟩;refine bP (xs:=(bz ds (here,ao)).map V.str) (fun j σ H'=>∃(L' W2:Zb) (y:Option V),σ=[some (.ref g),some (.str room),some (.ref d),some (.ref w),some (.str here),y]/\JI H H' ds room d w L' W2 (fun y=>y=here)/\(here=room∨here∈L')/\(∀c∈(bz ds (here,ao)).take j,c∈L') /\
     2 * (J2.length-L'.length)+W2.length<2 * (J2.length-L.length)+(W'++[here]).length)
    ⟨L,W',_,rfl,D3,hhere,by simp,hm3⟩ (fun j σ H' _ ⟨_,_,_,_,D',_⟩=>az.of (D'.same _ _ hla)) ?_ ?_
   ·rintro j x σ H4 hj ⟨L',W2,y,rfl,D4,hh,hc,hm⟩;obtain⟨goal,hgoal,rfl⟩:=bm hj;have hedge:(⟨here,ao,goal⟩:am)∈ds:=eN.mp (aZ hgoal);have hreach:Reach ds room goal:=by
     rcases hh with hh|hh
     ·rw[hh]at hedge;exact .one hedge
     ·exact .step (D4.sound _ hh) hedge
    have hlen':=lenL D4.nd D4.sound;refine⟨_,rfl,_,rfl,d,_,rfl,.inl ⟨_,.inr goal,.inl D4.d,rfl,rfl⟩,_,rfl,?_⟩;rw[dQ];by_cases c:goal∈L'
    ·rw[zzr1 c];refine bR ⟨L',W2,_,rfl,D4,hh,?_,hm⟩;intro c' hc';rw[take_snoc hgoal]at hc';rcases a_.mp hc' with h|h
     ·exact hc c' h
     ·have:c'=goal:=by simpa using h
      rw[this];exact c
    ·rw[zzr0 c];refine cR ?_;have nd':(L'++[goal]).Nodup:=by
      rw[cJ];refine⟨D4.nd,by simp,fun a ha b hb e=>?_⟩;have:b=goal:=by simpa using hb
      exact c (by rw[<-this,<-e];exact ha)
     have sd':∀y∈L'++[goal],Reach ds room y:=by
      intro y hy;rcases a_.mp hy with hy|hy
      ·exact D4.sound y hy
      ·have:y=goal:=by simpa using hy
       rw[this];exact hreach
     have hlen2:=lenL nd' sd';rw[aK]at hlen2;have hlen3:L'.length+1<=J2.length:=hlen2;have hWl:W2.length<=9000:=by omega
     refine⟨_,rfl,_,rfl,d,_,rfl,.inl ⟨_,.inr goal,D4.d,rfl,ar (bC (i3 _) (by omega)),rfl⟩,?_⟩;have hw5:upd H4 d (.dK (cM (aJ L') (.inr goal) (.bl true))) w=some (.lst (W2.map V.str)):=by rw[ag hdw.symm];exact D4.w
     refine⟨_,rfl,.inl ⟨rfl,_,az.of hw5⟩,_,rfl,w,_,_,rfl,rfl,hw5,by rw[aj];exact gV hWl,L'++[goal],W2++[goal],_,rfl,⟨?_,?_,?_,nd',sd',?_,?_⟩,?_,?_,?_⟩
     ·rw[ag hdw,aa,dw]
     ·rw[aa,ax];rfl
     ·intro b o q;rw[ag (ae q hwH),ag (ae q hd)];exact D4.same _ _ q
     ·intro y hy;rcases a_.mp hy with hy|hy
      ·rcases D4.wait y hy with h|h
       ·exact .inl h
       ·exact .inr (cf _ h)
      ·exact .inr (cC _ hy)
     ·intro y hy hn ho c' hc';have hn1:y∉W2:=fun z=>hn (cf _ z);have hyg:y≠goal:=fun z=>hn (cC _ (by simp[z]));refine cf _ (D4.closed y ?_ hn1 ho c' hc');rcases hy with hy|hy
      ·exact .inl hy
      ·rcases a_.mp hy with hy|hy
       ·exact .inr hy
       ·exact absurd (by simpa using hy) hyg
     ·rcases hh with h|h
      ·exact .inl h
      ·exact .inr (cf _ h)
     ·intro c' hc';rw[take_snoc hgoal]at hc';rcases a_.mp hc' with h|h
      ·exact cf _ (hc c' h)
      ·exact cC _ h
     ·rw[aK,aK];show 2 * (J2.length-(L'.length+1))+(W2.length+1)<_;omega
   ·rintro σ H4 ⟨L',W2,y,rfl,D4,hh,hc,hm⟩;rw[aj,aR]at hc;exact fin H4 L' W2 _ _ D4 hc hm
  ·rw[mY iz hmem];refine⟨et,rfl,.inr ⟨⟨_,br.of het3⟩,?_⟩⟩;have hnil:bz ds (here,ao)=[]:=mv fun x hx z=>hmem (by rw[<-z];exact G.all x hx);refine yJ (xs:=[]) (fun j σ H'=>σ=[some (.ref g),some (.str room),some (.ref d),some (.ref w),some (.str here),x5]/\H'=H3) ⟨rfl,rfl⟩ (fun j σ H' _ ⟨_,e⟩=>by rw[e];exact br.of het3) (fun j x σ H' hj=>by cases hj) ?_;rintro σ H' ⟨rfl,rfl⟩;exact fin _ L W' _ _ D3 (by rw[hnil];simp) hm3
 ·have hnil:W=[]:=by
   cases W with
   |nil=>rfl
   |cons a W=>exact absurd (zzr1 (by rw[aj,dS];omega)) hpos
  subst hnil;refine⟨_,rfl,k d L H1 D.d D.nd (fun w=>⟨D.sound w,fun hr=>?_⟩) hd D.same⟩
  induction hr with
  |one h=>exact D.closed room (.inl rfl) (by simp) (fun z=>z) _ (eN.mpr h)
  |step r h ih=>exact D.closed _ (.inr ih) (by simp) (fun z=>z) _ (eN.mpr h)
inductive sp_first_led_round (vs:List V)(H:Hp)(Q:VK)(E:XK):Prop
 |mk (l3 d:Addr) (J2:Zb) (ps:List (Str×Addr)):(vs=[.ref l3,.ref d])->(H l3=some (.lst (J2.map V.str)))->(H d=some (.dK (eB Sum.inr ps)))->(ps.map (·.1)=J2)->(J2.Nodup)->((∀x∈ps,∃L,H x.2=some (.dK (aJ L))/\x.1∉L))->(∀H',ab H H'->Q .non H')->sp_first_led_round  vs H Q E
theorem oz{K:Za}(h:sp_first_led_round vs H Q E):pf K (bJ Q) (start qe vs) H:=by
 obtain⟨l3,d,J2,ps,rfl,h3,hd,hps,nod,hL,k⟩:=h;refine⟨_,rfl,l3,rfl,⟨_,az.of h3⟩,?_⟩;refine mw (xs:=J2.map V.str) (fun i σ H'=>∃x y,σ=[some (.ref l3),some (.ref d),x,y]/\ab H H') ⟨_,_,rfl,ab.refl H⟩ (fun i σ H' _ ⟨_,_,_,S⟩=>az.of (S _ _ h3)) ?_ ?_
 ·rintro i x σ H' t hi ⟨x2,x3,rfl,S⟩ ht;obtain⟨w,hw,rfl⟩:=bm hi;refine⟨t,_,rfl,br.of aa,rfl,_,_,rfl,_,_,rfl,rfl,?_⟩;have S2:ab H (upd H' t (.tup [.int i,.str w])):=S.trans (ab.new ht);generalize upd H' t (.tup [.int i,.str w])=H2 at S2 ⊢;have hmem:w∈ps.map (·.1):=by rw[hps];exact aZ hw
  obtain⟨⟨r,a⟩,hra,er⟩:=aw.mp hmem;obtain rfl:r=w:=er;obtain⟨L,hLa,hn⟩:=hL _ hra;refine⟨_,rfl,_,rfl,_,rfl,d,.ref a,rfl,.inl ⟨_,.inr r,.inl (S2 _ _ hd),rfl,(eD iB (by rw[hps];exact nod) hra).symm⟩,a,_,rfl,.inl ⟨_,.inr r,.inl (S2 _ _ hLa),rfl,rfl⟩,_,rfl,?_⟩;rw[dQ,zzr0 hn];exact bR ⟨_,_,rfl,S2⟩
 ·rintro σ H' ⟨x,y,rfl,S⟩;exact k H' S
abbrev lk(f:Str)(fs:List (Str×V)):Option V:=fs.lookup f
def db(ds:List am)(r:Str):Bool:=(bj ds r).all gB
structure bv(C:Addr)(H:Hp)(x:Addr)(J0 J1 J2:Zb)(ds:List am):Prop where
 at_:∃(dx:Addr) (fs:List (Str×V)) (o1 o2 o3 o4 lv qu sg sl:Addr) (ts:Ze) (lps:List (Str×Addr)) (gps:List ((Str×List Str)×Addr)) (sps:List (Str×Addr)),
  H x=some (.ins C dx fs)/\lk "is_quiet" fs=none/\lk "goals" fs=none/\lk "led_from" fs=none/\lk "rooms" fs=none /\
  lk "own_asks" fs=some (.ref o1)/\lk "own_says" fs=some (.ref o2)/\lk "own_rooms" fs=some (.ref o3)/\lk "own_doors" fs=some (.ref o4) /\
  lk "leaving" fs=some (.ref lv)/\lk "quiet" fs=some (.ref qu)/\lk "sign_goals" fs=some (.ref sg)/\lk "still_led" fs=some (.ref sl) /\
  Lists H o1 o2 o3 o4 ts J0 J1 J2 ds /\
  lps.map (·.1)=J2/\H lv=some (.dK (eB Sum.inr lps))/\(∀x∈lps,∃us,H x.2=some (.lst (us.map V.ref))/\cF H us (bj ds x.1)) /\
  H qu=some (.dK (aJ (J2.filter (db ds))))/\jv H sg gps ds /\
  sps.map (·.1)=J2/\H sl=some (.dK (eB Sum.inr sps))/\(∀x∈sps,∃L,H x.2=some (.dK (aJ L))/\L.Nodup/\∀w,w∈L↔Reach ds x.1 w)
 ok:aL J0 J1 J2 ds
 more:∃(dx:Addr) (fs:List (Str×V)),H x=some (.ins C dx fs)/\lk "asks" fs=none/\lk "says" fs=none/\lk "doors" fs=none/\lk "doors_from" fs=none
theorem eA(f:Str)(v:V):∀fs:List (Str×V),(cK f v fs).length<=fs.length+1
 |[]=>aA _
 | (g,x)::r=>by
  unfold cK;split
  ·exact sQ _
  ·rw[dS,dS];have:=eA f v r;omega
theorem uG:∀(ps qs:List (Str×Addr)),((qs++ps).map (·.1)).Nodup->jI (eB Sum.inr qs) (eB Sum.inr ps)=eB Sum.inr (qs++ps)
 |[],qs,_=>by rw[dj];rfl
 |p::ps,qs,nd=>by
  show jI (cM (eB Sum.inr qs) (Sum.inr p.1) (.ref p.2)) (eB Sum.inr ps)=_;have e:qs++p::ps=(qs++[p])++ps:=by simp
  rw[e]at nd ⊢;have hnew:p.1∉qs.map (·.1):=by
   rw[ax,ax,cJ]at nd;have:=nd.1;rw[cJ]at this;intro z;exact this.2.2 _ z _ (by simp) rfl
  rw[dq _ (mY iB hnew)];have:=uG ps (qs++[p]) nd;rw[<-this];have e2:eB (Sum.inr:Str->fC) (qs++[p])=eB Sum.inr qs++[(Sum.inr p.1,V.ref p.2)]:=by
   unfold eB;rw[ax];rfl
  rw[e2]
inductive sJ(C:Addr)(vs:List V)(H:Hp)(Q:VK)(E:XK):Prop
 |mk (x dx l1 l2 l3 l4:Addr) (ts:Ze) (J0 J1 J2:Zb) (ds:List am):(vs=[.ref x,.ref l1,.ref l2,.ref l3,.ref l4])->(H x=some (.ins C dx []))->(Lists H l1 l2 l3 l4 ts J0 J1 J2 ds)->(aL J0 J1 J2 ds)->(∀H',bv C H' x J0 J1 J2 ds->df x H H'->Q .non H')->sJ C vs H Q E
theorem Lists.exI{H H':Hp}{x C dx:Addr}{fs:List (Str×V)}{l1 l2 l3 l4:Addr}{ts:Ze}{J0 J1 J2:Zb}{ds:List am}(h:Lists H l1 l2 l3 l4 ts J0 J1 J2 ds)(hx:H x=some (.ins C dx fs))(e:df x H H'):Lists H' l1 l2 l3 l4 ts J0 J1 J2 ds:=by
 have ne:∀{b:Addr}{xs:List V},H b=some (.lst xs)->b≠x:=fun hb z=>by rw[z,hx]at hb;cases hb
 exact⟨e _ _ h.a1 (ne h.a1),e _ _ h.a2 (ne h.a2),e _ _ h.a3 (ne h.a3),e _ _ h.a4 (ne h.a4),h.ds.kt fun b xs hb=>e _ _ hb fun z=>by rw[z,hx]at hb;cases hb⟩
theorem df.ktI{C dx:Addr}{fs:List (Str×V)}(e:df x H H')(hx:H x=some (.ins C dx fs)):gM H H':=fun b xs hb=>e _ _ hb fun z=>by rw[z,hx]at hb;cases hb
theorem df.neI{H:Hp}{x C dx:Addr}{fs:List (Str×V)}(hx:H x=some (.ins C dx fs)){b:Addr}{xs:List V}(hb:H b=some (.lst xs)):b≠x:=fun z=>by rw[z,hx]at hb;cases hb
theorem Gh{H:Hp}{x C dx:Addr}{fs:List (Str×V)}(hx:H x=some (.ins C dx fs)){b:Addr}{kvs:List (fC×V)}(hb:H b=some (.dK kvs)):b≠x:=fun z=>by rw[z,hx]at hb;cases hb
theorem IS{H:Hp}{x C dx:Addr}{fs:List (Str×V)}(hx:H x=some (.ins C dx fs)){b:Addr}{kvs:List (TK×V)}(hb:H b=some (.dT kvs)):b≠x:=fun z=>by rw[z,hx]at hb;cases hb
structure MC(K:Za)(C:Addr):Prop where
 cls:DP K C
 a1:d_ K C "own_asks"
 a2:d_ K C "own_says"
 a3:d_ K C "own_rooms"
 a4:d_ K C "own_doors"
 a5:d_ K C "leaving"
 a6:d_ K C "quiet"
 a7:d_ K C "sign_goals"
 a8:d_ K C "still_led"
theorem re{H:Hp}{x C dx:Addr}{fs:List (Str×V)}(f:Str)(y:V)(hx:H x=some (.ins C dx fs)):∃H',H'=upd H x (.ins C dx (cK f y fs))/\H' x=some (.ins C dx (cK f y fs))/\df x H H' :=
 ⟨_,rfl,aa,df.upd _ _ _⟩
theorem cw{p:Str->Bool}{ws:Zb}{i:Nat}{w:Str}(h:ws[i]?=some w):(ws.take (i+1)).filter p=(ws.take i).filter p++(if p w=true then[w]else[]):=by
 rw[take_snoc h,nQ];congr 1;by_cases c:p w=true
 ·rw[if_pos c];simp[c]
 ·rw[if_neg c];simp[c]
theorem BX(ds:List am)(r:Str):(bj ds r).length<=ds.length:=c8 _ _
theorem aL.sg0(m:aL J0 J1 J2 ds):∀d∈bj ds r,d.sg≠[]:=by
 intro d hd;have:=m.good d (bD.mp hd).1;rcases this.sg with⟨w,_,e⟩|⟨w,_,e⟩|e<;>rw[e]<;>exact List.cons_ne_nil _ _
theorem Hz{K:Za}(M:MC K C)(h:sJ C vs H Q E):
  oj K sp_need_none sp_first_led_round yg pE (sp_as_keys K) sp_has_asks_alone sp_doors_by_start sp_need_parts (bJ Q) (start oS vs) H:=by
 obtain⟨x,dx,l1,l2,l3,l4,ts,J0,J1,J2,ds,rfl,hx,L,m,k⟩:=h;have z3:=m.rooms26;have z4:=m.few;refine⟨_,rfl,_,rfl,_,rfl,_,rfl,l1,l2,l3,l4,ts,J0,J1,J2,ds,rfl,L,m,fun H1 S1=>?_⟩;have hx1:=S1 _ _ hx;have L1:=L.same S1;have E1:df x H H1:=ab.exB S1;refine⟨_,rfl,.inl ⟨l1,_,rfl,.inl (az.of L1.a1),fun o1 ho1=>⟨_,rfl,x,C,dx,_,rfl,kp hx1 ho1,M.cls,M.a1,(by show 0<1000;decide),?_⟩⟩⟩;obtain⟨H2,e2,hx2,F2⟩:=re "own_asks" (.ref o1) (kp (x:=.lst (J0.map V.str)) hx1 ho1);rw[<-e2];have n1:o1≠x:=(ae hx1 ho1).symm;have f1:=F2 _ _ aa n1;have E2:df x H1 H2:=(df.new ho1).trans F2;have L2':=L1.exI hx1 E2;have len2:(cK ("own_asks":Str) (.ref o1) []).length<=1:=eA _ _ _;clear e2 F2;refine⟨_,rfl,.inl ⟨l2,_,rfl,.inl (az.of L2'.a2),fun o2 ho2=>⟨_,rfl,x,C,dx,_,rfl,kp hx2 ho2,M.cls,M.a2,by omega,?_⟩⟩⟩;obtain⟨H3,e3,hx3,F3⟩:=re "own_says" (.ref o2) (kp (x:=.lst (J1.map V.str)) hx2 ho2);rw[<-e3];have n2:o2≠x:=(ae hx2 ho2).symm;have f2:=F3 _ _ aa n2;have E3:df x H2 H3:=(df.new ho2).trans F3;have L3:=L2'.exI hx2 E3;have len3:=eA ("own_says":Str) (.ref o2) (cK ("own_asks":Str) (.ref o1) []);clear e3 F3;refine⟨_,rfl,.inl ⟨l3,_,rfl,.inl (az.of L3.a3),fun o3 ho3=>⟨_,rfl,x,C,dx,_,rfl,kp hx3 ho3,M.cls,M.a3,by omega,?_⟩⟩⟩;obtain⟨H4,e4,hx4,F4⟩:=re "own_rooms" (.ref o3) (kp (x:=.lst (J2.map V.str)) hx3 ho3);rw[<-e4];have n3:o3≠x:=(ae hx3 ho3).symm;have f3:=F4 _ _ aa n3;have E4:df x H3 H4:=(df.new ho3).trans F4;have L4:=L3.exI hx3 E4;have len4:=eA ("own_rooms":Str) (.ref o3) (cK ("own_says":Str) (.ref o2) (cK ("own_asks":Str) (.ref o1) []));clear e4 F4;refine⟨_,rfl,.inl ⟨l4,_,rfl,.inl (az.of L4.a4),fun o4 ho4=>⟨_,rfl,x,C,dx,_,rfl,kp hx4 ho4,M.cls,M.a4,by omega,?_⟩⟩⟩;obtain⟨H5,e5,hx5,F5⟩:=re "own_doors" (.ref o4) (kp (x:=.lst (ts.map V.ref)) hx4 ho4);rw[<-e5];have n4:o4≠x:=(ae hx4 ho4).symm;have f4:=F5 _ _ aa n4;have E5:df x H4 H5:=(df.new ho4).trans F5;have L5:=L4.exI hx4 E5;generalize hfs4:cK ("own_doors":Str) (.ref o4) (cK ("own_rooms":Str) (.ref o3) (cK ("own_says":Str) (.ref o2) (cK ("own_asks":Str) (.ref o1) [])))=fs4 at hx5;have len5:fs4.length<=4:=by
  rw[<-hfs4];have:=eA ("own_doors":Str) (.ref o4) (cK ("own_rooms":Str) (.ref o3) (cK ("own_says":Str) (.ref o2) (cK ("own_asks":Str) (.ref o1) [])));omega
 clear e5 F5;refine⟨_,rfl,_,rfl,l3,l4,ts,J2,ds,rfl,L5.a3,L5.a4,L5.ds,m.okR.1,by omega,by omega,fun d hd=>(m.good d hd).a,fun lv lps H6' hlps flv' hlv' S6=>⟨_,rfl,x,C,dx,fs4,rfl,S6 _ _ hx5,M.cls,M.a5,by omega,?_⟩⟩;obtain⟨H6,e6,hx6,F6⟩:=re "leaving" (.ref lv) (S6 _ _ hx5);rw[<-e6];have E6:df x H5 H6:=(ab.exB S6).trans F6;have L6:=L5.exI hx5 E6;have flv:=F6 _ _ flv' (Gh (S6 _ _ hx5) flv');have hlv:∀y∈lps,∃us,H6 y.2=some (.lst (us.map V.ref))/\cF H6 us (bj ds y.1):=fun y hy=>by
  obtain⟨us,g1,g2⟩:=hlv' y hy;exact⟨us,F6 _ _ g1 (df.neI (S6 _ _ hx5) g1),g2.kt (F6.ktI (S6 _ _ hx5))⟩
 have ndl:(lps.map (·.1)).Nodup:=by rw[hlps];exact m.okR.1
 have len6:=eA ("leaving":Str) (.ref lv) fs4;have lk5:lk "leaving" (cK ("leaving":Str) (.ref lv) fs4)=some (.ref lv):=by
  show lm _ _=_;rw[eO,if_pos rfl]
 clear e6 F6 flv' hlv';refine⟨_,rfl,l3,rfl,⟨_,az.of L6.a3⟩,fun f hf=>?_⟩;refine bZ (xs:=J2.map V.str) (fun i vs H'=>vs=((J2.take i).filter (db ds)).map V.str/\ab H6 H'/\H' f=some (.lst vs)) ⟨rfl,ab.new hf,aa⟩ (fun i vs H' _ ⟨_,S,h'⟩=>⟨h',az.of (S _ _ L6.a3)⟩) ?_ ?_;rotate_left
 ·rintro i vs H' x' hx' hi ⟨rfl,S,f'⟩;obtain⟨r,hr,rfl⟩:=bm hx';obtain⟨⟨r',a⟩,hra,er⟩:=aw.mp (show r∈lps.map (·.1) by rw[hlps];exact aZ hr);obtain rfl:r'=r:=er;obtain⟨us,hus,hdo⟩:=hlv _ hra;refine gN ?_;refine⟨_,rfl,x,C,dx,_,.ref lv,rfl,S _ _ hx6,M.cls,M.a5,lk5,_,rfl,lv,.ref a,rfl,.inl ⟨_,.inr r',.inl (S _ _ flv),rfl,(eD iB ndl hra).symm⟩,a,us,bj ds r',rfl,S _ _ hus,hdo.kt (ab.kt S),bC (BX _ _) (by omega),m.sg0,fun H'' S''=>⟨_,rfl,?_⟩⟩;have hlen:(((J2.take i).filter (db ds)).map V.str).length<ai:=by
   rw[aj];refine ar (bC (c8 _ _) ?_);rw[aG];omega
  refine jJ (fun hq=>?_) (fun hq=>?_)
  ·refine⟨_,rfl,S'' _ _ f',hlen,nA hi ⟨?_,?_,aa⟩⟩
   ·rw[cw hr,if_pos (show db ds r'=true from hq),ax];rfl
   ·intro b o q;rw[ag (ae q hf)];exact S'' _ _ (S _ _ q)
  ·refine nA hi ⟨?_,S.trans S'',?_⟩
   ·rw[cw hr,if_neg (show ¬db ds r'=true from hq),dj]
   ·exact S'' _ _ f'
 rintro vs H7' ⟨rfl,S7,f7⟩;rw[aj,aR]at f7;refine rj (ws:=J2.filter (db ds)) (az.of f7) (bC (c8 _ _) (by omega)) fun qu hqu=>⟨_,rfl,x,C,dx,_,rfl,kp (S7 _ _ hx6) hqu,M.cls,M.a6,by omega,?_⟩;obtain⟨H7,e7,hx7,F7⟩:=re "quiet" (.ref qu) (kp (x:=.dK (aJ (J2.filter (db ds)))) (S7 _ _ hx6) hqu);rw[<-e7];have n7:qu≠x:=(ae (S7 _ _ hx6) hqu).symm;have fqu:=F7 _ _ aa n7;have E7:df x H6 H7:=((ab.exB S7).trans (df.new hqu)).trans F7;have L7:=L6.exI hx6 E7;have len7:=eA ("quiet":Str) (.ref qu) (cK ("leaving":Str) (.ref lv) fs4);clear e7 F7;refine⟨_,rfl,l4,ts,ds,rfl,L7.a4,L7.ds,by omega,fun sg gps H8' G' S8=>⟨_,rfl,x,C,dx,_,rfl,S8 _ _ hx7,M.cls,M.a7,by omega,?_⟩⟩;obtain⟨H8,e8,hx8,F8⟩:=re "sign_goals" (.ref sg) (S8 _ _ hx7);rw[<-e8];have E8:df x H7 H8:=(ab.exB S8).trans F8;have L8:=L7.exI hx7 E8;have G8:jv H8 sg gps ds:=⟨G'.nd,F8 _ _ G'.g (IS (S8 _ _ hx7) G'.g),fun y hy=>F8 _ _ (G'.ls y hy) (df.neI (S8 _ _ hx7) (G'.ls y hy)),G'.all⟩;have len8:=eA ("sign_goals":Str) (.ref sg) (cK ("quiet":Str) (.ref qu) (cK ("leaving":Str) (.ref lv) fs4));have lk7:lk "sign_goals" (cK ("sign_goals":Str) (.ref sg) (cK ("quiet":Str) (.ref qu) (cK ("leaving":Str) (.ref lv) fs4)))=some (.ref sg):=by
  show lm _ _=_;rw[eO,if_pos rfl]
 clear e8 F8 G';refine⟨_,rfl,l3,rfl,⟨_,az.of L8.a3⟩,fun f2' hf2=>?_⟩;refine bZ (xs:=J2.map V.str) (fun i vs H'=>KA fun(us:Ze) (pl:List (Str×Addr))=>JH (vs=us.map V.ref) (Paired (fun t (p:Str×Addr)=>H' t=some (.tup [.str p.1,.ref p.2])) us pl) (pl.map (·.1)=J2.take i) ((∀p∈pl,∃L,H' p.2=some (.dK (aJ L))/\L.Nodup/\∀w,w∈L↔Reach ds p.1 w)) (ab H8 H') (H' f2'=some (.lst vs)))
  ⟨[],[],rfl,.nil,rfl,by simp,ab.new hf2,aa⟩ (fun i vs H' _ ⟨_,_,_,_,_,_,S,h'⟩=>⟨h',az.of (S _ _ L8.a3)⟩) ?_ ?_
 rotate_left
 ·rintro i vs H' x' hx' hi ⟨us,pl,rfl,hpa,hpl,hle,S,f'⟩;obtain⟨r,hr,rfl⟩:=bm hx';have hilen:us.length<=150:=by
   rw[Paired.length hpa,<-aj (f:=(·.1)) (as:=pl),hpl,aG];omega
  refine gN (se ?_);refine⟨_,rfl,_,rfl,x,C,dx,_,.ref sg,rfl,S _ _ hx8,M.cls,M.a7,lk7,_,rfl,sg,r,gps,ds,J2,rfl,G8.same S,fun d hd=>(m.good d hd).b,by omega,fun ld Lr H'' hld nd hLr hfr S''=>⟨(by show 2<=ai;decide),fun t ht=>⟨?_,?_,nA hi ⟨us++[t],pl++[(r,ld)],?_,?_,?_,?_,?_,aa⟩⟩⟩⟩
  ·exact kp (S'' _ _ f') ht
  ·rw[aj];exact ar (by omega)
  ·rw[ax];rfl
  ·have KT:gM (upd H'' t (.tup [.str r,.ref ld])) (upd (upd H'' t (.tup [.str r,.ref ld])) f2' (.lst (us.map V.ref++[.ref t]))):=cL (kp (S'' _ _ f') ht);exact Paired.app (Paired.mapP hpa fun t' p' e=>KT _ _ (kp (S'' _ _ e) ht)) (.cons (KT _ _ aa) .nil)
  ·rw[ax,hpl,take_snoc hr];rfl
  ·have ned:∀{b:Addr}{kvs:List (fC×V)},upd H'' t (.tup [.str r,.ref ld]) b=some (.dK kvs)->b≠f2':=fun hb z=>by rw[z,kp (S'' _ _ f') ht]at hb;cases hb
   intro p hp;rcases a_.mp hp with hp|hp
   ·obtain⟨L0,g1,g2⟩:=hle p hp;refine⟨L0,?_,g2⟩;have:=kp (x:=.tup [.str r,.ref ld]) (S'' _ _ g1) ht;rw[ag (ned this)];exact this
   ·have:p=(r,ld):=by simpa using hp
    subst this;refine⟨Lr,?_,nd,hLr⟩;have:=kp (x:=.tup [.str r,.ref ld]) hld ht;rw[ag (ned this)];exact this
  ·intro b o q;rw[ag (ae q hf2)];exact kp (S'' _ _ (S _ _ q)) ht
 rintro vs H9' ⟨us,sps,rfl,hpa,hsps,hled,S9,f9⟩;rw[aj,aR]at hsps;have nds:(sps.map (·.1)).Nodup:=by rw[hsps];exact m.okR.1
 refine⟨f2',us,eB Sum.inr sps,rfl,az.of f9,?_,?_,fun sl hsl=>⟨_,rfl,x,C,dx,_,rfl,kp (S9 _ _ hx8) hsl,M.cls,M.a8,by omega,?_⟩⟩
 ·rw[Paired.length hpa];unfold eB;rw[aj]
 ·intro j t kv hj hkv;obtain⟨p,hp,e⟩:=Paired.getL hpa hj;unfold eB at hkv;rw[bQ,hp]at hkv;have:=fe hkv;rw[<-this];exact e
 have emerge:jI [] (eB Sum.inr sps)=eB Sum.inr sps:=uG sps [] nds;rw[emerge];obtain⟨H9,e9,hx9,F9⟩:=re "still_led" (.ref sl) (kp (x:=.dK (eB Sum.inr sps)) (S9 _ _ hx8) hsl);rw[<-e9];have n9:sl≠x:=(ae (S9 _ _ hx8) hsl).symm;have fsl:=F9 _ _ aa n9;have E9:df x H8 H9:=((ab.exB S9).trans (df.new hsl)).trans F9;have L9:=L8.exI hx8 E9;have hled9:∀p∈sps,∃L,H9 p.2=some (.dK (aJ L))/\L.Nodup/\∀w,w∈L↔Reach ds p.1 w:=fun p hp=>by
  obtain⟨L0,g1,g2⟩:=hled p hp;have g3:=kp (x:=.dK (eB Sum.inr sps)) g1 hsl;exact⟨L0,F9 _ _ g3 (Gh (kp (S9 _ _ hx8) hsl) g3),g2⟩
 clear e9 F9;have lk8:lk "still_led" (cK ("still_led":Str) (.ref sl) (cK ("sign_goals":Str) (.ref sg) (cK ("quiet":Str) (.ref qu) (cK ("leaving":Str) (.ref lv) fs4))))=some (.ref sl):=by
  show lm _ _=_;rw[eO,if_pos rfl]
 refine⟨_,rfl,_,rfl,x,C,dx,_,.ref sl,rfl,hx9,M.cls,M.a8,lk8,l3,sl,J2,sps,rfl,L9.a3,fsl,hsps,m.okR.1,fun p hp=>?_,fun H10 S10=>⟨_,rfl,k H10 ?_ ?_⟩⟩
 ·obtain⟨L0,g1,g2,g3⟩:=hled9 p hp;exact⟨L0,g1,fun z=>m.noround _ ((g3 _).mp z)⟩
 ·have X69:df x H6 H9:=(E7.trans E8).trans E9;have X59:=((E6.trans E7).trans E8).trans E9;have Y:∀{b:Addr}{o:HO},H9 b=some o->H10 b=some o:=fun h=>S10 _ _ h;have LL:Lists H5 o1 o2 o3 o4 ts J0 J1 J2 ds:=⟨(E3.trans (E4.trans E5)) _ _ f1 n1,(E4.trans E5) _ _ f2 n2,E5 _ _ f3 n3,f4,L5.ds⟩;refine⟨⟨dx,_,o1,o2,o3,o4,lv,qu,sg,sl,ts,lps,gps,sps,Y hx9,?_,?_,?_,?_,?_,?_,?_,?_,?_,?_,?_,lk8,(LL.exI hx5 X59).same S10,hlps,?_,?_,?_,?_,hsps,Y fsl,fun p hp=>?_⟩,m,⟨dx,_,Y hx9,?_,?_,?_,?_⟩⟩
  rotate_right 9
  ·exact Y (X69 _ _ flv (Gh hx6 flv))
  ·intro y hy;obtain⟨us',g1,g2⟩:=hlv y hy;exact⟨us',Y (X69 _ _ g1 (df.neI hx6 g1)),(g2.kt (X69.ktI hx6)).kt (ab.kt S10)⟩
  ·exact Y ((E8.trans E9) _ _ fqu n7)
  ·exact jv.same ⟨G8.nd,E9 _ _ G8.g (IS hx8 G8.g),fun y hy=>E9 _ _ (G8.ls y hy) (df.neI hx8 (G8.ls y hy)),G8.all⟩ S10
  ·obtain⟨L0,g1,g2⟩:=hled9 p hp;exact⟨L0,Y g1,g2⟩
  all_goals(show lm _ _=_;subst hfs4;repeat (rw[eO];first|rw[if_pos rfl] | rw[if_neg (by decide +kernel)]))
  all_goals rfl
 ·exact((((((((E1.trans E2).trans E3).trans E4).trans E5).trans E6).trans E7).trans E8).trans E9).trans (ab.exB S10)
theorem yM(a b:Str):decide (gW a=gW b)=decide (a=b):=by
 by_cases e:a=b
 ·rw[zzr1 e,zzr1 (by rw[e])]
 ·rw[zzr0 e,zzr0 (fun z=>e (pK z))]
theorem bv.by{H':Hp}(h:bv C H x J0 J1 J2 ds)
  (hs:∀b ws,H b=some (.lst (List.map V.str ws))->H' b=some (.lst (List.map V.str ws))) (hr:∀b ts,H b=some (.lst (List.map V.ref ts))->H' b=some (.lst (List.map V.ref ts))) (ht:gM H H')
  (hd:∀b kvs,H b=some (.dK kvs)->H' b=some (.dK kvs)) (hT:∀b kvs,H b=some (.dT kvs)->H' b=some (.dT kvs)) (hi:∀b C dx fs,H b=some (.ins C dx fs)->H' b=some (.ins C dx fs)):bv C H' x J0 J1 J2 ds:=by
 obtain⟨dx,fs,o1,o2,o3,o4,lv,qu,sg,sl,ts,lps,gps,sps,g1,a1,a2,a3,a4,b1,b2,b3,b4,b5,b6,b7,b8,L,c1,c2,c3,c4,G,d1,d2,d3⟩:=h.at_;refine⟨⟨dx,fs,o1,o2,o3,o4,lv,qu,sg,sl,ts,lps,gps,sps,hi _ _ _ _ g1,a1,a2,a3,a4,b1,b2,b3,b4,b5,b6,b7,b8,⟨hs _ _ L.a1,hs _ _ L.a2,hs _ _ L.a3,hr _ _ L.a4,L.ds.kt ht⟩,c1,hd _ _ c2,fun y hy=>?_,hd _ _ c4,⟨G.nd,hT _ _ G.g,fun y hy=>hs _ _ (G.ls y hy),G.all⟩,d1,hd _ _ d2,fun y hy=>?_⟩,h.ok,by obtain⟨dx,fs,g,r⟩:=h.more;exact⟨dx,fs,hi _ _ _ _ g,r⟩⟩
 ·obtain⟨us,e1,e2⟩:=c3 y hy;exact⟨us,hr _ _ e1,e2.kt ht⟩
 ·obtain⟨L0,e1,e2⟩:=d3 y hy;exact⟨L0,hd _ _ e1,e2⟩
theorem bv.same(h:bv C H x J0 J1 J2 ds)(S:ab H H'):bv C H' x J0 J1 J2 ds :=
 h.by (fun _ _ e=>S _ _ e) (fun _ _ e=>S _ _ e) (ab.kt S) (fun _ _ e=>S _ _ e) (fun _ _ e=>S _ _ e) (fun _ _ _ _ e=>S _ _ e)
inductive ie(C:Addr)(vs:List V)(H:Hp)(Q:VK)(E:XK):Prop
 |mk (x:Addr) (w:Str) (J0 J1 J2:Zb) (ds:List am):(vs=[.ref x,.str w])->(bv C H x J0 J1 J2 ds)->(Q (.bl (decide (w∈J2.filter (db ds)))) H)->ie C vs H Q E
theorem Ab{K:Za}(M:MC K C)(h:ie C vs H Q E):oh K (bJ Q) (start oR vs) H:=by
 obtain⟨x,w,J0,J1,J2,ds,rfl,h,k⟩:=h;obtain⟨dx,fs,o1,o2,o3,o4,lv,qu,sg,sl,ts,lps,gps,sps,g1,a1,a2,a3,a4,b1,b2,b3,b4,b5,b6,b7,b8,L,c1,c2,c3,c4,_⟩:=h.at_;refine⟨_,rfl,_,rfl,x,C,dx,fs,.ref qu,rfl,g1,M.cls,M.a6,b6,qu,_,rfl,.inl ⟨_,.inr w,.inl c4,rfl,rfl⟩,?_⟩;rw[dQ];exact k
def aV:List Str:=[("hush":Str)]
inductive kL(C:Addr)(vs:List V)(H:Hp)(Q:VK)(E:XK):Prop
 |mk (t l1 l2 l3 l4:Addr) (ts:Ze) (J0 J1 J2:Zb) (ds:List am):(vs=[.ref t])->(iE H t l1 l2 l3 l4 ts J0 J1 J2 ds)->(aL J0 J1 J2 ds)->(∀(x:Addr) (H':Hp),bv C H' x J0 J1 J2 ds->ab H H'->Q (.ref x) H')->kL C vs H Q E
theorem BF{K:Za}(h:kL C vs H Q E):vA K C (sJ C) (bJ Q) (start v9 vs) H:=by
 obtain⟨t,l1,l2,l3,l4,ts,J0,J1,J2,ds,rfl,T,m,k⟩:=h;refine⟨_,rfl,.inr (.inl ⟨t,_,0,_,rfl,rfl,br.of T.t,rfl,.inl ⟨l1,_,rfl,.inl (az.of T.a1),fun m1 h1=>?_⟩⟩)⟩;have T1:=T.same (ab.new (o:=.lst (J0.map V.str)) h1);refine⟨_,rfl,.inr (.inl ⟨t,_,1,_,rfl,rfl,br.of T1.t,rfl,.inl ⟨l2,_,rfl,.inl (az.of T1.a2),fun m2 h2=>?_⟩⟩)⟩;have T2:=T1.same (ab.new (o:=.lst (J1.map V.str)) h2);refine⟨_,rfl,.inr (.inl ⟨t,_,2,_,rfl,rfl,br.of T2.t,rfl,.inl ⟨l3,_,rfl,.inl (az.of T2.a3),fun m3 h3=>?_⟩⟩)⟩;have T3:=T2.same (ab.new (o:=.lst (J2.map V.str)) h3);refine⟨_,rfl,.inr (.inl ⟨t,_,3,_,rfl,rfl,br.of T3.t,rfl,.inl ⟨l4,_,rfl,.inl (az.of T3.a4),fun m4 h4=>?_⟩⟩)⟩;have T4:=T3.same (ab.new (o:=.lst (ts.map V.ref)) h4);have S4:=(((ab.new (o:=.lst (J0.map V.str)) h1).trans (ab.new (o:=.lst (J1.map V.str)) h2)).trans (ab.new (o:=.lst (J2.map V.str)) h3)).trans (ab.new (o:=.lst (ts.map V.ref)) h4);refine fun x dx hx hdx hne=>?_;have S5:ab H (upd (upd (upd (upd (upd (upd H m1 (.lst (J0.map V.str))) m2 (.lst (J1.map V.str))) m3 (.lst (J2.map V.str))) m4 (.lst (ts.map V.ref))) dx (.own x)) x (.ins C dx [])) :=
  (S4.trans (ab.new hdx)).trans (ab.new (by rw[ag hne.symm];exact hx))
 have hxx:upd (upd (upd (upd (upd H m1 (.lst (J0.map V.str))) m2 (.lst (J1.map V.str))) m3 (.lst (J2.map V.str))) m4 (.lst (ts.map V.ref))) dx (.own x) x=none:=by rw[ag hne.symm];exact hx
 refine⟨x,dx,m1,m2,m3,m4,ts,J0,J1,J2,ds,rfl,aa,⟨?_,?_,?_,?_,T.ds.kt (ab.kt S5)⟩,m,fun H' M ex=>⟨rfl,k x H' M fun b o q=>?_⟩⟩
 ·exact kp (kp (kp (kp (kp aa h2) h3) h4) hdx) hxx
 ·exact kp (kp (kp (kp aa h3) h4) hdx) hxx
 ·exact kp (kp (kp aa h4) hdx) hxx
 ·exact kp (kp aa hdx) hxx
 ·have hq:=S5 _ _ q;exact ex _ _ hq (ae (S4.trans (ab.new hdx) _ _ q) hxx)
def fA(ds:List am):List Str:=(ds.filter fun d=>!gB d).map (·.a)
theorem kN(ds:List am)(r:Str):db ds r=decide (r∉fA ds):=by
 unfold db fA bj;rw[rK,xC,decide_eq_true_iff];constructor
 ·intro h z;obtain⟨d,hd,rfl⟩:=aw.mp z;rw[bD]at hd;have:=h d (bD.mpr ⟨hd.1,zzr1 rfl⟩);rw[this]at hd;exact absurd hd.2 (by decide)
 ·intro h d hd;rw[bD]at hd;cases q:gB d with
  |true=>rfl
  |false =>
   refine absurd (aw.mpr ⟨d,bD.mpr ⟨hd.1,by rw[q];rfl⟩,?_⟩) h;exact of_decide_eq_true hd.2
theorem mW{ws:Zb}:gW w∈ws.map gW↔w∈ws:=by
 constructor
 ·intro h;obtain⟨x,hx,e⟩:=aw.mp h;rw[<-pK e];exact hx
 ·exact kz
def xP(K:Za)(C_Machine:Addr)(sp_Machine_rooms:Sp)(sp_Machine_led_from:Sp):TS :=
 ap (aP (ow) U2)
 (ap (dR (bT K V1) U3 (bS (tB (dk K V3 V2)) (ap (l_ V2 V3 (tC (.bl true)))
 (dR (bT K (cZ C_Machine "led_from" sp_Machine_led_from [] E0 V0 (ay V3))) U4 (l_ V2 V4 (tC (.bl true))))) (bg)))
 (bc (dB (Af K) (ay (c6 1 [2] (bT K (cZ C_Machine "rooms" sp_Machine_rooms [] E0 V0 bh)) U0 (tB (sw K V0 V1)) V0)))))
def yY:List Str:=["M","rooms","found","room","led"]
def sf(K:Za):TS :=
 bc (dB (da K) (ay (gk K V0 "own_rooms")))
def sE:List Str:=["self"]
def og(K:Za):TS :=
 bc (dB (da K) (ay (uc K (gk K V0 "still_led") V1 (bw (bh)))))
def oQ:List Str:=["self","room"]
def si(K:Za):TS :=
 bc (dB (da K) (ay (uc K (gk K V0 "sign_goals") (bw (aO V1 V2)) (bw (bh)))))
def sF:List Str:=["self","room","sign"]
def tT(K:Za):TS :=
 ap (aP (dB (da K) (ay V1)) U2)
 (ap (aP (tC (.int 0)) U3)
 (ap (om (aQ (aI Ep V3 (dB (eG K) (ay V2)))) (ap (dR (bT K V0) (g0 K 3 (aY U4 (aY U5 (aY U6 (gP))))) (bS (lC (aQ (aI (j5 K) V4 (aI (oA K) V2 V3))) (lC (aQ (aI (j5 K) V5 (bw (ay (tC (.str "still")))))) (aQ (aI (kM K true) V6 V2)))) (bV (vp K "list" cT V2 (ay V6))) (bg)))
 (aP (aI fE V3 (tC (.int 1))) U3)))
 (bc V2)))
def vc:List Str:=["doors","rooms","found","at","room","sign","other"]
inductive gl(C:Addr)(vs:List V)(H:Hp)(Q:VK)(E:XK):Prop
 |mk (x:Addr) (J0 J1 J2:Zb) (ds:List am):(vs=[.ref x])->(bv C H x J0 J1 J2 ds)->(∀l,H l=none->Q (.ref l) (upd H l (.lst (J2.map V.str))))->gl C vs H Q E
theorem FG{K:Za}(M:MC K C)(h:gl C vs H Q E):sf K (bJ Q) (start sE vs) H:=by
 obtain⟨x,J0,J1,J2,ds,rfl,h,k⟩:=h;obtain⟨dx,fs,o1,o2,o3,o4,lv,qu,sg,sl,ts,lps,gps,sps,g1,a1,a2,a3,a4,b1,b2,b3,b4,b5,b6,b7,b8,L,_⟩:=h.at_;exact⟨_,rfl,x,C,dx,fs,.ref o3,rfl,g1,M.cls,M.a3,b3,.inl ⟨o3,_,rfl,.inl (az.of L.a3),k⟩⟩
theorem AA:∀{L:Zb},L.Nodup->(aJ L).map (fun kv=>kV kv.1)=L.map V.str:=by
 intro L;refine jY (fun L=>L.Nodup->(aJ L).map (fun kv=>kV kv.1)=L.map V.str) (fun _=>rfl) (fun ws w ih nd=>?_) L;rw[cJ]at nd;have hn:bq (aJ ws) (.inr w)=none:=by
  rw[uM,if_neg (fun z=>nd.2.2 w z w (by simp) rfl)]
 show(aJ (ws++[w])).map _=_;rw[dw,dq _ hn,ax,ih nd.1,ax]
 rfl
inductive ib(C:Addr)(vs:List V)(H:Hp)(Q:VK)(E:XK):Prop
 |mk (x:Addr) (r:Str) (J0 J1 J2:Zb) (ds:List am):(vs=[.ref x,.str r])->(bv C H x J0 J1 J2 ds)->(r∈J2)->(∀(l:Addr) (L:Zb) (H':Hp),H' l=some (.lst (L.map V.str))->L.Nodup->(∀w,w∈L↔Reach ds r w)->H l=none->ab H H'->Q (.ref l) H')->ib C vs H Q E
theorem z_{K:Za}(M:MC K C)(h:ib C vs H Q E):og K (bJ Q) (start oQ vs) H:=by
 obtain⟨x,r,J0,J1,J2,ds,rfl,h,hr,k⟩:=h;obtain⟨dx,fs,o1,o2,o3,o4,lv,qu,sg,sl,ts,lps,gps,sps,g1,a1,a2,a3,a4,b1,b2,b3,b4,b5,b6,b7,b8,L,c1,c2,c3,c4,G,d1,d2,d3⟩:=h.at_;have nod:=h.ok.okR.1;obtain⟨⟨r',a⟩,hra,er⟩:=aw.mp (show r∈sps.map (·.1) by rw[d1];exact hr);obtain rfl:r'=r:=er;obtain⟨L0,e1,e2,e3⟩:=d3 _ hra;refine⟨_,rfl,x,C,dx,fs,.ref sl,rfl,g1,M.cls,M.a8,b8,sl,rfl,.inl ⟨_,.inl d2⟩,_,rfl,(by show 0<=ai;decide),fun et het=>⟨_,.inl ⟨_,.inr r',.inl (kp d2 het),rfl,rfl⟩,?_⟩⟩;rw[eD iB (by rw[d1];exact nod) hra];refine .inr ⟨a,_,rfl,.inl (kp e1 het),fun l hl=>k l L0 _ ?_ e2 e3 ((ab.new het).free hl) ((ab.new het).trans (ab.new hl))⟩;rw[aa,AA e2]
inductive iK(C:Addr)(vs:List V)(H:Hp)(Q:VK)(E:XK):Prop
 |mk (x s:Addr) (r:Str) (sg J0 J1 J2:Zb) (ds:List am):(vs=[.ref x,.str r,.ref s])->(bv C H x J0 J1 J2 ds)->(H s=some (.tup (sg.map V.str)))->(∀(l:Addr) (H':Hp),H' l=some (.lst ((bz ds (r,sg)).map V.str))->H l=none->ab H H'->Q (.ref l) H')->iK C vs H Q E
theorem Ej{K:Za}(M:MC K C)(h:iK C vs H Q E):si K (bJ Q) (start sF vs) H:=by
 obtain⟨x,s,r,sgn,J0,J1,J2,ds,rfl,h,hs,k⟩:=h;obtain⟨dx,fs,o1,o2,o3,o4,lv,qu,sg,sl,ts,lps,gps,sps,g1,a1,a2,a3,a4,b1,b2,b3,b4,b5,b6,b7,b8,L,c1,c2,c3,c4,G,d1,d2,d3⟩:=h.at_;have nod:=h.ok.okR.1;refine⟨_,rfl,x,C,dx,fs,.ref sg,rfl,g1,M.cls,M.a7,b7,sg,rfl,.inr ⟨_,.inl G.g⟩,_,rfl,_,rfl,(by show 2<=ai;decide),fun kt hkt=>⟨(by show 0<=ai;decide),fun et het=>⟨bq (eB vq gps) (vq (r,sgn)),.inr ⟨_,vq (r,sgn),kt,.inl (kp (kp G.g hkt) het),rfl,?_,mU _,rfl⟩,?_⟩⟩⟩
 ·refine cW.isIn 8 (mU _) ?_;unfold vq cW;refine⟨kt,_,rfl,kp aa het,?_⟩;unfold TKAts;refine⟨_,_,rfl,tR _,?_⟩;unfold TKAts;refine⟨_,_,rfl,SignAt.tk (kp (kp hs hkt) het),?_⟩;unfold TKAts
  rfl
 have S2:ab H (upd (upd H kt (.tup [.str r,.ref s])) et (.tup [])):=(ab.new hkt).trans (ab.new het);by_cases hmem:(r,sgn)∈gps.map (·.1)
 ·obtain⟨⟨y,a⟩,hra,er⟩:=aw.mp hmem;obtain rfl:y=(r,sgn):=er;rw[eD iz G.nd hra];exact .inl ⟨a,_,rfl,.inl (az.of (S2 _ _ (G.ls _ hra))),fun l hl=>k l _ aa (S2.free hl) (S2.trans (ab.new hl))⟩
 ·rw[mY iz hmem];have hnil:bz ds (r,sgn)=[]:=mv fun y hy z=>hmem (by rw[<-z];exact G.all y hy);refine .inl ⟨et,[],rfl,.inr (br.of aa),fun l hl=>k l _ ?_ (S2.free hl) (S2.trans (ab.new hl))⟩;rw[hnil];exact aa
theorem Reach.trans(h1:Reach ds a b)(h2:Reach ds b c):Reach ds a c:=by
 induction h2 with
 |one h=>exact .step h1 h
 |step r h ih=>exact .step ih h
def gg(ds:List am)(gs:Zb)(w:Str):Prop:=∃g∈gs,w=g∨Reach ds g w
theorem gg.in_{ds:List am}{gs J2:Zb}(hg:∀g∈gs,g∈J2)(hd:∀d∈ds,d.b∈J2)(h:gg ds gs w):w∈J2:=by
 obtain⟨g,h1,rfl|h2⟩:=h
 ·exact hg _ h1
 ·exact h2.in_ hd
def sC(F:Zb)(w:Str):List Str:=if w∈F then F else F++[w]
theorem Az(F:Zb):∀kv∈aJ F,kv.2=.bl true:=by
 refine jY (fun F=>∀kv∈aJ F,kv.2=.bl true) (by intro kv h;cases h) (fun ws w ih=>?_) F;intro kv hkv;rw[dw]at hkv;unfold cM at hkv;split at hkv
 ·obtain⟨x,hx,rfl⟩:=aw.mp hkv;split
  ·rfl
  ·exact ih x hx
 ·rcases a_.mp hkv with h|h
  ·exact ih kv h
  ·have:kv=(.inr w,.bl true):=by simpa using h
   rw[this]
theorem uN(F:Zb)(w:Str):cM (aJ F) (.inr w) (.bl true)=aJ (sC F w):=by
 unfold sC;by_cases c:w∈F
 ·rw[if_pos c];have h1:((aJ F).any fun kv=>decide (kv.1=(.inr w:fC)))=true:=by
   rw[jX,dQ,zzr1 c]
  unfold cM;rw[if_pos h1];have:∀l:List (fC×V),(∀kv∈l,kv.2=.bl true)->l.map (fun kv=>if kv.1=(.inr w:fC)then(kv.1,V.bl true)else kv)=l:=by
   intro l
   induction l with
   |nil=>intro _;rfl
   |cons x l ih =>
    intro h;rw[bI,ih fun kv hkv=>h kv (eI _ hkv)];congr 1;split
    ·rw[<-h x dU]
    ·rfl
  exact this _ (Az F)
 ·rw[if_neg c,dw]
theorem u8{F:Zb}(h:F.Nodup)(w:Str):(sC F w).Nodup:=by
 unfold sC;split
 ·exact h
 ·next c =>
  rw[cJ];refine⟨h,by simp,fun a ha b hb e=>?_⟩;have:b=w:=by simpa using hb
  exact c (by rw[<-this,<-e];exact ha)
theorem Aw{y:Str}:y∈sC F w↔y∈F∨y=w:=by
 unfold sC;split
 ·next c=>exact⟨.inl,fun h=>h.elim id fun e=>by rw[e];exact c⟩
 ·rw[a_];simp
inductive sp_with_still(C:Addr)(vs:List V)(H:Hp)(Q:VK)(E:XK):Prop
 |mk (x l:Addr) (gs J0 J1 J2:Zb) (ds:List am):(vs=[.ref x,.ref l])->(bv C H x J0 J1 J2 ds)->(H l=some (.lst (gs.map V.str)))->((∀g∈gs,g∈J2))->(∀(t:Addr) (F:Zb) (H':Hp),H' t=some (.tup ((J2.filter fun r=>decide (r∈F)).map V.str))->(∀w,w∈F↔gg ds gs w)->ab H H'->Q (.ref t) H')->sp_with_still C vs H Q E
theorem vN{K:Za}(h:sp_with_still C vs H Q E):xP K C (gl C) (ib C) (bJ Q) (start yY vs) H:=by
 obtain⟨x,l,gs,J0,J1,J2,ds,rfl,M,hl,hg,k⟩:=h;have hdb:∀d∈ds,d.b∈J2:=fun d hd=>(M.ok.good d hd).b;have z3:=M.ok.rooms26;refine fun d hd=>?_;refine⟨_,rfl,l,rfl,⟨_,az.of (kp hl hd)⟩,?_⟩;refine bP (xs:=gs.map V.str) (fun i σ H'=>Jz fun(F:Zb) (x3 x4:Option V)=>JA (σ=[some (.ref x),some (.ref l),some (.ref d),x3,x4]) (H' d=some (.dK (aJ F))) (ab H H') (F.Nodup) (∀w,w∈F↔gg ds (gs.take i) w))
  ⟨[],_,_,rfl,aa,ab.new hd,nU,fun w=>⟨fun h=>(by cases h),fun⟨g,h,_⟩=>(by cases h)⟩⟩ (fun i σ H' _ ⟨_,_,_,_,_,S,_,_⟩=>az.of (S _ _ hl)) ?_ ?_
 ·rintro i y σ H1 hi ⟨F,x3,x4,rfl,hd1,S1,nd,hF⟩;obtain⟨r,hr,rfl⟩:=bm hi;have hrm:r∈J2:=hg r (aZ hr);have hsub:∀w∈F,w∈J2:=fun w hw=>((hF w).mp hw).in_ (fun g hg'=>hg g (fR hg')) hdb;refine⟨_,rfl,_,rfl,d,_,rfl,.inl ⟨_,.inr r,.inl hd1,rfl,rfl⟩,_,rfl,?_⟩;rw[dQ];have hstep:∀w,gg ds (gs.take (i+1)) w↔(gg ds (gs.take i) w∨w=r∨Reach ds r w):=by
   intro w;rw[take_snoc hr];constructor
   ·rintro⟨g,hg',h⟩;rcases a_.mp hg' with hg'|hg'
    ·exact .inl ⟨g,hg',h⟩
    ·have:g=r:=by simpa using hg'
     subst this;exact .inr h
   ·rintro(⟨g,hg',h⟩|h)
    ·exact⟨g,cf _ hg',h⟩
    ·exact⟨r,cC _ (by simp),h⟩
  by_cases c:r∈F
  ·rw[zzr1 c];refine bR ⟨F,_,_,rfl,hd1,S1,nd,fun w=>?_⟩;rw[hstep,hF];refine⟨.inl,fun h=>h.elim id fun h=>?_⟩;obtain⟨g,hg',hgr⟩:=(hF r).mp c;rcases h with h|h
   ·rw[h];exact⟨g,hg',hgr⟩
   ·refine⟨g,hg',.inr ?_⟩;rcases hgr with e|hgr
    ·rw[<-e];exact h
    ·exact hgr.trans h
  ·rw[zzr0 c];refine cR ?_;have hlen:∀{F:Zb},F.Nodup->(∀w∈F,w∈J2)->(aJ F).length<ai:=fun nd hs=>ar (bC (i3 _) (bC (mn nd hs) (by omega)));refine⟨_,rfl,_,rfl,d,_,rfl,.inl ⟨_,.inr r,hd1,rfl,hlen nd hsub,rfl⟩,?_⟩;rw[uN];have S2:ab H (upd H1 d (.dK (aJ (sC F r)))):=fun b o q=>by rw[ag (ae q hd)];exact S1 _ _ q
   have hd2:upd H1 d (.dK (aJ (sC F r))) d=some (.dK (aJ (sC F r))):=aa;generalize upd H1 d (.dK (aJ (sC F r)))=H2 at S2 hd2 ⊢;have M2:=M.same S2;obtain⟨dx,fs,o1,o2,o3,o4,lv,qu,sg,sl,ts,lps,gps,sps,g1,a1,a2,a3,a4,_⟩:=M2.at_;refine⟨_,rfl,x,dx,fs,rfl,g1,a3,_,rfl,x,r,J0,J1,J2,ds,rfl,M2,hrm,fun ll L H3 hll ndL hL frl S3=>⟨ll,rfl,⟨_,az.of hll⟩,?_⟩⟩;have hd3:=S3 _ _ hd2;have llH:H ll=none:=S2.free frl;have lld:ll≠d:=fun z=>by rw[z,hd2]at frl;cases frl
   refine bP (xs:=L.map V.str) (fun j σ H'=>KA fun(F':Zb) (x4:Option V)=>JH (σ=[some (.ref x),some (.ref l),some (.ref d),some (.str r),x4]) (H' d=some (.dK (aJ F'))) (H' ll=some (.lst (L.map V.str))) (ab H H') (F'.Nodup) (∀w,w∈F'↔(gg ds (gs.take i) w∨w=r∨w∈L.take j)))
    ⟨sC F r,_,rfl,hd3,hll,S2.trans S3,u8 nd r,fun w=>?_⟩ (fun j σ H' _ ⟨_,_,_,_,h,_,_,_⟩=>az.of h) ?_ ?_
   ·rw[Aw,hF];simp
   ·rintro j y σ H4 hj ⟨F',x4',rfl,hd4,hll4,S4,nd4,hF4⟩;obtain⟨v,hv,rfl⟩:=bm hj;have hsub4:∀w∈F',w∈J2:=by
     intro w hw;rcases(hF4 w).mp hw with h|h|h
     ·exact h.in_ (fun g hg'=>hg g (fR hg')) hdb
     ·rw[h];exact hrm
     ·exact((hL w).mp (fR h)).in_ hdb
    refine⟨_,rfl,_,rfl,d,_,rfl,.inl ⟨_,.inr v,hd4,rfl,hlen nd4 hsub4,rfl⟩,sC F' v,_,rfl,?_,?_,?_,u8 nd4 v,fun w=>?_⟩
    ·rw[aa,uN]
    ·rw[ag lld];exact hll4
    ·intro b o q;rw[ag (ae q hd)];exact S4 _ _ q
    ·rw[Aw,hF4,take_snoc hv,a_];simp only[aU];constructor
     ·rintro((h|h|h)|h)
      ·exact .inl h
      ·exact .inr (.inl h)
      ·exact .inr (.inr (.inl h))
      ·exact .inr (.inr (.inr h))
     ·rintro(h|h|h|h)
      ·exact .inl (.inl h)
      ·exact .inl (.inr (.inl h))
      ·exact .inl (.inr (.inr h))
      ·exact .inr h
   ·rintro σ H4 ⟨F',x4',rfl,hd4,hll4,S4,nd4,hF4⟩;rw[aj,aR]at hF4;refine⟨F',_,_,rfl,hd4,S4,nd4,fun w=>?_⟩;rw[hstep,hF4,hL]
 ·rintro σ H1 ⟨F,x3,x4,rfl,hd1,S1,nd,hF⟩;rw[aj,aR]at hF;have M1:=M.same S1;obtain⟨dx,fs,o1,o2,o3,o4,lv,qu,sg,sl,ts,lps,gps,sps,g1,a1,a2,a3,a4,_⟩:=M1.at_;refine⟨_,rfl,x,dx,fs,rfl,g1,a4,x,J0,J1,J2,ds,rfl,M1,fun rl hrl=>⟨rl,rfl,⟨_,az.of aa⟩,fun f hf=>?_⟩⟩;have S2:ab H (upd H1 rl (.lst (J2.map V.str))):=S1.trans (ab.new hrl);have hd2:upd H1 rl (.lst (J2.map V.str)) d=some (.dK (aJ F)):=kp hd1 hrl;have hrl2:upd H1 rl (.lst (J2.map V.str)) rl=some (.lst (J2.map V.str)):=aa;generalize upd H1 rl (.lst (J2.map V.str))=H2 at S2 hd2 hrl2 hf ⊢;refine bZ (xs:=J2.map V.str) (fun i vs H'=>vs=((J2.take i).filter fun r=>decide (r∈F)).map V.str/\ab H2 H'/\H' f=some (.lst vs)) ⟨rfl,ab.new hf,aa⟩ (fun i vs H' _ ⟨_,S,h'⟩=>⟨h',az.of (S _ _ hrl2)⟩) ?_ ?_
  ·rintro vs H' ⟨rfl,S,f'⟩;rw[aj,aR]at f';exact⟨f,_,rfl,.inl ⟨az.of f',fun t ht=>k t F _ aa hF (S2.trans (S.trans (ab.new ht)))⟩⟩
  ·rintro i vs H' x' hx' hi ⟨rfl,S,f'⟩;obtain⟨r,hr,rfl⟩:=bm hx';refine gN ?_;refine⟨_,rfl,_,rfl,d,_,rfl,.inl ⟨_,.inr r,.inl (S _ _ hd2),rfl,rfl⟩,_,rfl,?_⟩;rw[dQ];have hlen:(((J2.take i).filter fun r=>decide (r∈F)).map V.str).length<ai:=by
    rw[aj];refine ar (bC (c8 _ _) ?_);rw[aG];omega
   refine jJ (fun hq=>?_) (fun hq=>?_)
   ·refine⟨_,rfl,f',hlen,nA hi ⟨?_,?_,aa⟩⟩
    ·rw[cw hr,if_pos hq,ax];rfl
    ·intro b o q;rw[ag (ae q hf)];exact S _ _ q
   ·refine nA hi ⟨?_,S,f'⟩;rw[cw hr,if_neg hq,dj]
inductive eK(K:Za)(vs:List V)(H:Hp)(Q:VK)(E:XK):Prop
 |mk (l4 l:Addr) (ts:Ze) (ds:List am) (gs J2:Zb):(vs=[.ref l4,.ref l])->(H l4=some (.lst (ts.map V.ref)))->(cF H ts ds)->(H l=some (.lst (gs.map V.str)))->((∀d∈ds,d.b∈J2))->(J2.length<=1000)->(gs.length<=1000)->(∀(f:Addr) (F:Zb) (H':Hp),H' f=some (.lst (F.map V.str))->(∀w,w∈F↔gg ds gs w)->F.length<=2000->H f=none->ab H H'->Q (.ref f) H')->eK K vs H Q E
structure SO(H0 H:Hp)(ds:List am)(gs:Zb)(f:Addr)(X:Zb):Prop where
 f:H f=some (.lst ((gs++X).map V.str))
 same:ab H0 H
 nd:X.Nodup
 new:∀y∈X,y∉gs
 sound:∀y∈X,gg ds gs y
theorem gg.step{gs:Zb}{b:Str}(h:gg ds gs a)(e:(⟨a,ao,b⟩:am)∈ds):gg ds gs b:=by
 obtain⟨g,hg,rfl|h⟩:=h
 ·exact⟨_,hg,.inr (.one e)⟩
 ·exact⟨g,hg,.inr (.step h e)⟩
theorem eF(a b:Zb):decide (jr a=jr b)=decide (a=b):=by
 by_cases e:a=b
 ·rw[zzr1 e,zzr1 (by rw[e])]
 ·rw[zzr0 e,zzr0 (fun z=>e (Dw z))]
inductive SoI(l4 l f:Addr)(at_:Int)(H:Hp)(ds:List am)(gs X:Zb)(here:Str)(j:Nat)(σ:L2.St)(H':Hp):Prop
 |mk (X' Y:Zb) (x y z:Option V):σ=[some (.ref l4),some (.ref l),some (.ref f),some (.int at_),x,y,z]->X'=X++Y->SO H H' ds gs f X'->(∀d∈ds.take j,d.a=here->d.sg=ao->d.b∈gs++X')->SoI l4 l f at_ H ds gs X here j σ H'
theorem z5{K:Za}(h:eK K vs H Q E):tT K (bJ Q) (start vc vs) H:=by
 obtain⟨l4,l,ts,ds,gs,J2,rfl,h4,hds,hl,hin,hz,hz2,k⟩:=h;refine⟨_,rfl,.inl ⟨l,_,rfl,.inl (az.of hl),fun f hf=>?_⟩⟩;have lenX:∀{X:Zb},X.Nodup->(∀y∈X,y∉gs)->(∀y∈X,gg ds gs y)->X.length<=J2.length:=fun nd nw sd=>mn nd fun y hy=>by
  obtain⟨g,hg,e|h⟩:=sd y hy
  ·exact absurd (by rw[e];exact hg) (nw y hy)
  ·exact h.in_ hin
 refine⟨fun m σ H'=>∃(X:Zb) (at_:Nat) (x y z:Option V),σ=[some (.ref l4),some (.ref l),some (.ref f),some (.int at_),x,y,z]/\SO H H' ds gs f X/\at_<=(gs++X).length/\(∀i y,i<at_->(gs++X)[i]?=some y->∀c,(⟨y,ao,c⟩:am)∈ds->c∈gs++X)/\m=gs.length+J2.length-at_,
  ⟨_,[],0,_,_,_,rfl,⟨by rw[dj];exact aa,ab.new hf,nU,by simp,by simp⟩,cX _,fun i y h=>by omega,rfl⟩,?_⟩
 rintro m σ H1 ⟨X,at_,x4,x5,x6,rfl,D,hat,hcl,rfl⟩;have hXl:=lenX D.nd D.new D.sound;refine⟨_,rfl,_,rfl,.inl ⟨f,_,rfl,.inl (az.of D.f),_,_,rfl,rfl,_,rfl,?_⟩⟩;refine jJ (fun hlt=>?_) (fun hlt=>?_)
 ·have hlt':at_<(gs++X).length:=by
   have:=of_decide_eq_true hlt;rw[aj]at this;omega
  have hat0:at_<gs.length+J2.length:=by rw[aK]at hlt';omega
  generalize hhere:(gs++X)[at_]=here;have hget:(gs++X)[at_]?=some here:=by rw[<-hhere];exact b9 hlt'
  have hfrom:∀{Y:Zb}{y:Str},(∀y∈Y,gg ds gs y)->y∈gs++Y->gg ds gs y:=fun sd hy=>by
   rcases a_.mp hy with hy|hy
   ·exact⟨_,hy,.inl rfl⟩
   ·exact sd _ hy
  refine⟨fun σ' H'=>∃(X':Zb) (x y z:Option V),σ'=[some (.ref l4),some (.ref l),some (.ref f),some (.int ((at_+1:Nat):Int)),x,y,z]/\SO H H' ds gs f X'/\at_+1<=(gs++X').length/\(∀i y,i<at_+1->(gs++X')[i]?=some y->∀c,(⟨y,ao,c⟩:am)∈ds->c∈gs++X'),
   fun σ' H' ⟨X',x,y,z,e,D',h1,h2⟩=>⟨_,(by omega:gs.length+J2.length-(at_+1)<gs.length+J2.length-at_),X',at_+1,x,y,z,e,D',h1,h2,rfl⟩,?_⟩
  refine⟨_,rfl,l4,rfl,⟨_,az.of (D.same _ _ h4)⟩,?_⟩;refine bP (xs:=ts.map V.ref) (SoI l4 l f at_ H ds gs X here)
   ⟨X,[],_,_,_,rfl,by simp,D,by simp⟩ (fun j σ H' _ ⟨_,_,_,_,_,_,_,D',_⟩=>az.of (D'.same _ _ h4)) ?_ ?_
  ·rintro j y σ H2 hj ⟨X',Y,x4',x5',x6',rfl,rfl,D2,hdone⟩;obtain⟨t,ht,rfl⟩:=cj hj;obtain⟨dr,hdr,hatd⟩:=Paired.getL hds ht;obtain⟨s,ht2,hs2⟩:=hatd.kt (ab.kt D2.same);have hmem:=aZ hdr;have hXl2:=lenX D2.nd D2.new D2.sound;have hget2:(gs++(X++Y))[at_]?=some here:=by
    rw[<-c9,fk hlt'];exact hget
   refine⟨t,_,rfl,br.of ht2,rfl,_,_,rfl,_,_,rfl,_,_,rfl,rfl,?_⟩;have nextI:∀(H3:Hp) (X3 Y3:Zb) (q4 q5 q6:Option V),X3=X++Y3->SO H H3 ds gs f X3->(∀y∈X++Y,y∈X3)->(dr.a=here->dr.sg=ao->dr.b∈gs++X3) ->
     SoI l4 l f at_ H ds gs X here (j+1) [some (.ref l4),some (.ref l),some (.ref f),some (.int at_),q4,q5,q6] H3:=by
    intro H3 X3 Y3 q4 q5 q6 e D3 hsub hnew;refine⟨X3,Y3,q4,q5,q6,rfl,e,D3,fun d hd e1 e2=>?_⟩;rw[take_snoc hdr]at hd;rcases a_.mp hd with hd|hd
    ·rcases a_.mp (hdone d hd e1 e2)with h|h
     ·exact cf _ h
     ·exact cC _ (hsub _ h)
    ·have:d=dr:=by simpa using hd
     subst this;exact hnew e1 e2
   refine⟨_,rfl,_,rfl,_,rfl,.inl ⟨f,_,_,_,rfl,rfl,az.of D2.f,bH (j:=at_) (by rw[bQ,hget2];rfl),gW dr.a,gW here,js _,js _,(by show 0<=8;decide),(by show 0<=8;decide),_,rfl,?_⟩⟩;rw[yM];by_cases c1:dr.a=here;rotate_left
   ·rw[zzr0 c1];exact bR (bR (nextI H2 _ _ _ _ _ rfl D2 (fun _ h=>h) fun e=>absurd e c1))
   rw[zzr1 c1];refine cR ?_;refine⟨_,rfl,(by show 1<=ai;decide),fun st hst=>⟨jr dr.sg,jr ao,aW (br.of (kp hs2 hst)),aW (br.of aa),by rw[bA];decide,by rw[bA];decide,_,rfl,?_⟩⟩;rw[eF];have D3:SO H (upd H2 st (.tup [.str "still"])) ds gs f (X++Y):=⟨kp D2.f hst,D2.same.trans (ab.new hst),D2.nd,D2.new,D2.sound⟩;have hstS:H st=none:=D2.same.free hst;generalize upd H2 st (.tup [.str "still"])=H3 at D3 ⊢;by_cases c2:dr.sg=ao;rotate_left
   ·rw[zzr0 c2];exact bR (bR (nextI H3 _ _ _ _ _ rfl D3 (fun _ h=>h) fun _ e=>absurd e c2))
   rw[zzr1 c2];refine cR ?_;refine⟨_,rfl,_,rfl,gW dr.b,(gs++(X++Y)).map gW,f,_,js _,rfl,.inl (az.of D3.f),my _,(by show 0<=8;decide),by rw[fF];decide,_,rfl,?_⟩;rw[if_pos rfl];by_cases c3:dr.b∈gs++(X++Y)
   ·rw[zzr1 (mW.mpr c3)];exact bR (nextI H3 _ _ _ _ _ rfl D3 (fun _ h=>h) fun _ _=>c3)
   rw[zzr0 (fun z=>c3 (mW.mp z))];refine cR ?_;refine⟨_,rfl,.inl ⟨rfl,_,az.of D3.f⟩,_,rfl,f,_,_,rfl,rfl,D3.f,by rw[aj,aK];exact gV (by omega),?_⟩;have hedge:(⟨here,ao,dr.b⟩:am)∈ds:=by
    have:dr=⟨here,ao,dr.b⟩:=by cases dr;simp only at c1 c2;rw[c1,c2]
    rw[<-this];exact hmem
   refine nextI _ (X++(Y++[dr.b])) _ _ _ _ rfl ⟨?_,?_,?_,?_,?_⟩ ?_ ?_
   ·rw[aa];have:gs++(X++(Y++[dr.b]))=gs++(X++Y)++[dr.b]:=by simp
    rw[this,ax (l₂:=[dr.b])]
    rfl
   ·intro b o q;rw[ag (ae q hf)];exact D3.same _ _ q
   ·rw[<-c9,cJ];refine⟨D3.nd,by simp,fun a ha b hb e=>?_⟩;have:b=dr.b:=by simpa using hb
    exact c3 (cC _ (by rw[<-this,<-e];exact ha))
   ·intro y hy;rw[<-c9]at hy;rcases a_.mp hy with hy|hy
    ·exact D3.new y hy
    ·have:y=dr.b:=by simpa using hy
     rw[this];exact fun z=>c3 (cf _ z)
   ·intro y hy;rw[<-c9]at hy;rcases a_.mp hy with hy|hy
    ·exact D3.sound y hy
    ·have:y=dr.b:=by simpa using hy
     rw[this];exact(hfrom D.sound (aZ hget)).step hedge
   ·intro y hy;rw[<-c9];exact cf _ hy
   ·intro _ _;exact cC _ (by simp)
  ·rintro σ H2 ⟨X',Y,x4',x5',x6',rfl,rfl,D2,hdone⟩;rw[aj,Paired.length hds,aR]at hdone;refine⟨_,rfl,_,_,rfl,rfl,X++Y,_,_,_,rfl,D2,?_,fun i y hi hy c hc=>?_⟩
   ·rw[<-c9,aK];omega
   ·by_cases e:i=at_
    ·subst e;rw[<-c9,fk hlt',hget]at hy;have:=fe hy;subst this;exact hdone _ hc rfl rfl
    ·have hi':i<at_:=by omega
     rw[<-c9,fk (by omega)]at hy;have:=hcl i y hi' hy c hc;rw[<-c9];exact cf _ this
 ·have hend:at_=(gs++X).length:=by
   have:¬(at_<(gs++X).length):=fun z=>hlt (zzr1 (by rw[aj];omega));omega
  refine⟨_,rfl,k f (gs++X) H1 D.f (fun w=>⟨fun hw=>?_,fun hw=>?_⟩) (by rw[aK];omega) hf D.same⟩
  ·rcases a_.mp hw with hw|hw
   ·exact⟨_,hw,.inl rfl⟩
   ·exact D.sound _ hw
  ·have closed:∀y∈gs++X,∀c,(⟨y,ao,c⟩:am)∈ds->c∈gs++X:=fun y hy c hc=>by
    obtain⟨n,hn⟩:=im hy;exact hcl n y (by rw[hend];exact(cu.mp hn).1) hn c hc
   obtain⟨g,hg,rfl|h⟩:=hw
   ·exact cf _ hg
   ·induction h with
    |one e=>exact closed _ (cf _ hg) _ e
    |step r e ih=>exact closed _ ih _ e

theorem BC{b:Str}(h:¬gg ds [b] a)(r:Reach (ds++[⟨a,ao,b⟩]) x y):Reach ds x y∨((x=a∨Reach ds x a)/\(y=b∨Reach ds b y)):=by
 have edge:∀{u v:Str},(⟨u,ao,v⟩:am)∈ds++[⟨a,ao,b⟩]->(⟨u,ao,v⟩:am)∈ds∨(u=a/\v=b):=by
  intro u v e;rcases a_.mp e with e|e
  ·exact .inl e
  ·have:(⟨u,ao,v⟩:am)=⟨a,ao,b⟩:=by simpa using e
   injection this with h1 h2 h3;exact .inr ⟨h1,h3⟩
 induction r with
 |one e =>
  rcases edge e with e|⟨rfl,rfl⟩
  ·exact .inl (.one e)
  ·exact .inr ⟨.inl rfl,.inl rfl⟩
 |step r e0 ih =>
  rcases edge e0 with e|⟨rfl,rfl⟩
  ·rcases ih with ih|⟨h1,h2⟩
   ·exact .inl (.step ih e)
   ·refine .inr ⟨h1,.inr ?_⟩;rcases h2 with h2|h2
    ·exact .one (by rw[<-h2];exact e)
    ·exact .step h2 e
  ·rcases ih with ih|⟨h1,h2⟩
   ·exact .inr ⟨.inr ih,.inl rfl⟩
   ·exact absurd ⟨_,by simp,h2⟩ h
theorem yo{b:Str}(hn:∀r,¬Reach ds r r)(h:¬gg ds [b] a):∀r,¬Reach (ds++[⟨a,ao,b⟩]) r r:=by
 intro r z;have no:¬(a=b∨Reach ds b a):=fun z=>h ⟨b,by simp,z⟩;rcases BC h z with z|⟨h1,h2⟩
 ·exact hn r z
 ·rcases h1 with rfl|h1
  ·exact no h2
  ·rcases h2 with rfl|h2
   ·exact no (.inr h1)
   ·exact no (.inr (h2.trans h1))
theorem aL.putStill{a b:Str}(m:aL J0 J1 J2 ds)(ha:a∈J2)(hb:b∈J2)(h:¬gg ds [b] a)(hf:ds.length<=699):aL J0 J1 J2 (mh ds ⟨a,ao,b⟩):=by
 unfold mh;split
 ·exact m
 ·next hn =>
  refine{ m with nodup:=?_,good:=?_,few:=?_,noround:=yo m.noround h }
  ·rw[cJ];refine⟨m.nodup,by simp,fun x hx y hy e=>?_⟩;have:y=⟨a,ao,b⟩:=by simpa using hy
   subst this;exact hn (e▸hx)
  ·intro d hd;rcases a_.mp hd with hd|hd
   ·exact m.good d hd
   ·have:d=⟨a,ao,b⟩:=by simpa using hd
    subst this;exact⟨ha,hb,.inr (.inr rfl)⟩
  ·rw[aK];show ds.length+1<=1000;omega
theorem uv(ds:List am)(d:am):(mh ds d).length<=ds.length+1:=by
 unfold mh;split
 ·omega
 ·rw[aK];exact aA _
def dz(ds:List am)(sg:Zb)(J6:Zb):List Str:=J6.flatMap fun r=>bz ds (r,sg)
theorem vY{J6:Zb}{i:Nat}{r:Str}(h:J6[i]?=some r):dz ds sg (J6.take (i+1))=dz ds sg (J6.take i)++bz ds (r,sg):=by
 unfold dz;rw[take_snoc h,xa];simp
theorem rZ(ds:List am)(x:Str×List Str):(bz ds x).length<=ds.length:=by
 unfold bz;rw[aj];exact c8 _ _
theorem pY(ds:List am)(sg:Zb):∀J6:List Str,(dz ds sg J6).length<=J6.length * ds.length
 |[]=>cX _
 |r::J6=>by
  show((bz ds (r,sg))++dz ds sg J6).length<=(J6.length+1) * ds.length;rw[aK,Nat.succ_mul];have h1:=rZ ds (r,sg);have h2:=pY ds sg J6;omega
theorem iA{b:Str}:b∈dz ds sg J6↔∃r∈J6,(⟨r,sg,b⟩:am)∈ds:=by
 unfold dz;rw[jz];constructor
 ·rintro⟨r,hr,h⟩;exact⟨r,hr,eN.mp h⟩
 ·rintro⟨r,hr,h⟩;exact⟨r,hr,eN.mpr h⟩
theorem gD{ds:List am}{i:Nat}{d:am}{p:am->Bool}(h:ds[i]?=some d):(ds.take (i+1)).filter p=(ds.take i).filter p++(if p d=true then[d]else[]):=by
 rw[take_snoc h,nQ];congr 1;by_cases c:p d=true
 ·rw[if_pos c];simp[c]
 ·rw[if_neg c];simp[c]
def xV(K:Za)(sp_with_still:Sp)(C_Machine:Addr)(sp_Machine_rooms:Sp):TS :=
 bc (aM sp_with_still (aO V0 (A2 (qW K) (cZ C_Machine "rooms" sp_Machine_rooms [] E0 V0 bh) (eU) (gj (tC (.int 1))))))
def y9:List Str:=["M"]
def vz(K:Za)(sp_law_take:Sp)(sp_law_names:Sp):TS :=
 ap (aP V1 (g0 K 4 (aY U2 (aY U3 (aY U4 (aY U5 (gP)))))))
 (ap (aP (ow) U6)
 (ap (dR (Gv K (au V4 (ay (aM sp_law_names (aO V0 (dB (eG K) (ay V4))))))) (g0 K 2 (aY U7 (aY U8 (gP)))) (l_ V6 V7 V8))
 (ap (aP (c6 1 [6] (bT K V4) U0 (kG) (gR K V1 V0)) U9)
 (ap (aP (aI fE (tC (.int 1)) (aM sp_law_take (aO V0 (dB (eG K) (ay V4))))) Ks)
 (ap (aP (aI sA (aI sA (A2 (qW K) V9 (eU) (gj (tC (.int 1)))) (A2 (qW K) V9 (gj Iv) (eU))) (A2 (qW K) V9 (gj (tC (.int 1))) (gj Iv))) U9)
 (ap (aP (c6 3 [6] (bT K V5) (g0 K 3 (aY U0 (aY U1 (aY U2 (gP))))) (kG) (bw (dW (gR K V3 V0) V1 (gR K V3 V2)))) U5)
 (bc (bw (au V2 (dW V3 V9 V5))))))))))
def v7:List Str:=["pen","told","asks","says","rooms","doors","names","room","name","some","at"]
inductive cA(C:Addr)(vs:List V)(H:Hp)(Q:VK)(E:XK):Prop
 |mk (x:Addr) (J0 J1 J2:Zb) (ds:List am):(vs=[.ref x])->(bv C H x J0 J1 J2 ds)->(∀(t':Addr) (F:Zb) (H':Hp),H' t'=some (.tup ((J2.filter fun r=>decide (r∈F)).map V.str))->(∀w,w∈F↔gg ds (J2.take 1) w)->ab H H'->Q (.ref t') H')->cA C vs H Q E
theorem vQ{K:Za}(h:cA C vs H Q E):xV K (sp_with_still C) C (gl C) (bJ Q) (start y9 vs) H:=by
 obtain⟨x,J0,J1,J2,ds,rfl,M,k⟩:=h;obtain⟨dx,fs,o1,o2,o3,o4,lv,qu,sgA,sl,ts,lps,gps,sps,g1,a1,a2,a3,a4,_⟩:=M.at_;have c1:fV (J2.map V.str) none (some 1)=(J2.take 1).map V.str:=p9 J2 1;refine⟨_,rfl,_,rfl,x,dx,fs,rfl,g1,a4,x,J0,J1,J2,ds,rfl,M,fun rl hrl=>⟨_,rfl,rl,_,rfl,az.of aa,fun l hl=>?_⟩⟩;rw[c1];have S:ab H (upd (upd H rl (.lst (J2.map V.str))) l (.lst ((J2.take 1).map V.str))):=(ab.new hrl).trans (ab.new hl);exact⟨x,l,J2.take 1,J0,J1,J2,ds,rfl,M.same S,aa,fun g hg=>fR hg,fun t' F H' h1 h2 S2=>k t' F H' h1 h2 (S.trans S2)⟩
theorem GG{K:Za}{xs ys:List V}{g:TG}{tb:TS}{D:mI}{σ:L2.St}{H:Hp}(hxy:xs.length=ys.length)(Pv:Nat->L2.St->Hp->Prop)(h0:Pv 0 σ H)(hl:∀i σ H,i<=xs.length->Pv i σ H->az K H a xs/\az K H b ys)
  (hs:∀i x y σ H p,xs[i]?=some x->ys[i]?=some y->Pv i σ H->H p=none->g (.ref p) σ (upd H p (.tup [x,y])) fun σ2 H2=>tb { D with nx:=Pv (i+1),ct:=Pv (i+1),bk:=D.nx } σ2 H2) (hd:∀σ H,Pv xs.length σ H->D.nx σ H) :
  ∃W:Nat->Nat->L2.St->Hp->Prop,(∃m,W 0 m σ H)/\∀i m σ H,W i m σ H ->
   ((Kc K a b).stop i H/\D.nx σ H)∨((Kc K a b).go i H/\∃N:L2.St->Hp->Prop,(∀σ' H',N σ' H'->∃m',m'<m/\W (i+1) m' σ' H')/\∀x H',(Kc K a b).yld i H x H'->g x σ H' fun σ2 H2=>tb { D with nx:=N,ct:=N,bk:=D.nx } σ2 H2):=by
 refine⟨fun i m σ H=>m=xs.length-i/\i<=xs.length/\Pv i σ H,⟨xs.length,by simp,cX _,h0⟩,?_⟩;rintro i m σ H ⟨rfl,hi,p⟩;obtain⟨q1,q2⟩:=hl i σ H hi p;by_cases hlt:i<xs.length
 ·have hlt2:i<ys.length:=by omega
  refine .inr ⟨⟨xs,ys,xs[i],ys[i],q1,q2,by simp[hlt],by simp[hlt2]⟩,Pv (i+1),fun σ' H' p'=>⟨xs.length-(i+1),by omega,rfl,hlt,p'⟩,fun x H' y=>?_⟩;obtain⟨t,u,v,rfl,hn,hu,hv,rfl⟩:=y;exact hs i u v σ H t (hu xs q1) (hv ys q2) p hn
 ·have e:i=xs.length:=by omega
  subst e;exact .inl ⟨⟨xs,ys,q1,q2,.inl (aA _)⟩,hd σ H p⟩
def Ff(ps:List (Str×Str)):List (fC×V):=ps.map fun x=>(.inr x.1,.str x.2)
def G5:List (Str×Str)->Str->Str
 |[],r=>r
 | (a,b)::ps,r=>if a=r then b else G5 ps r
theorem Dn{r:Str}:∀{ps:List (Str×Str)},r∈ps.map (·.1)->bq (Ff ps) (.inr r:fC)=some (.str (G5 ps r))
 |[],h=>by cases h
 | (a,b)::ps,h=>by
  unfold Ff bq G5;rw[bI,lQ];by_cases c:a=r
  ·rw[if_pos c,zzr1 (by rw[c])]
   rfl
  ·rw[if_neg c,zzr0 (fun z=>c (by injection z))];have:r∈ps.map (·.1):=by
    rcases cH.mp h with z|z
    ·exact absurd z.symm c
    ·exact z
   exact Dn this
theorem Ar{r:Str}:∀{ps:List (Str×Str)},r∉ps.map (·.1)->bq (Ff ps) (.inr r:fC)=none
 |[],_=>rfl
 | (a,b)::ps,h=>by
  unfold Ff bq;rw[bI,lQ,zzr0 (fun z=>h (by injection z with z;rw[bI];exact cH.mpr (.inl z.symm)))];exact Ar fun z=>h (by rw[bI];exact eI _ z)
theorem Gf{ps:List (Str×Str)}{r w:Str}(h:r∉ps.map (·.1)):cM (Ff ps) (.inr r) (.str w)=Ff (ps++[(r,w)]):=by
 rw[dq _ (Ar h)];unfold Ff;rw[ax]
 rfl
theorem xM:∀{rs ws:Zb},ws.length=rs.length->(rs.zip ws).map (·.1)=rs
 |[],_,_=>by simp
 |_::_,[],h=>by cases h
 |r::rs,w::ws,h=>by
  rw[List.zip_cons_cons,bI,xM (by simpa using h)]
theorem C7:∀{rs ws:Zb},rs.Nodup->ws.length=rs.length->rs.map (G5 (rs.zip ws))=ws
 |[],[],_,_=>rfl
 |[],_::_,_,h=>by cases h
 |_::_,[],_,h=>by cases h
 |r::rs,w::ws,nd,h=>by
  rw[List.zip_cons_cons,bI];have nd':=io.mp nd;have e1:G5 ((r,w)::rs.zip ws) r=w:=by unfold G5;rw[if_pos rfl]
  have e2:rs.map (G5 ((r,w)::rs.zip ws))=rs.map (G5 (rs.zip ws)):=by
   refine xr fun x hx=>?_;show(if r=x then w else G5 (rs.zip ws) x)=_
   rw[if_neg (fun z=>nd'.1 (by rw[z];exact hx))]
  rw[e1,e2,C7 nd'.2 (by simpa using h)]
def vM(f:Str->Str)(d:am):am:=⟨f d.a,d.sg,f d.b⟩
theorem Jt{J2 ws:Zb}{f:Str->Str}(hf:J2.map f=ws)(nd:ws.Nodup){a b:Str}(ha:a∈J2)(hb:b∈J2)(e:f a=f b):a=b:=by
 obtain⟨i,hi⟩:=im ha;obtain⟨j,hj⟩:=im hb;have h1:ws[i]?=some (f a):=by rw[<-hf,bQ,hi];rfl
 have h2:ws[j]?=some (f a):=by rw[<-hf,bQ,hj,e];rfl
 have:=sO nd h1 h2;subst this;rw[hi]at hj;exact fe hj
theorem Ef{J2:Zb}{f:Str->Str}{ds:List am}(inj:∀a∈J2,∀b∈J2,f a=f b->a=b)(hin:∀d∈ds,d.a∈J2/\d.b∈J2)(h:Reach (ds.map (vM f)) x y):
  ∃a∈J2,∃b∈J2,x=f a/\y=f b/\Reach ds a b:=by
 have edge:∀{u v:Str},(⟨u,ao,v⟩:am)∈ds.map (vM f)->∃a b,(⟨a,ao,b⟩:am)∈ds/\u=f a/\v=f b:=by
  intro u v e;obtain⟨⟨a,s,b⟩,hd,e⟩:=aw.mp e;unfold vM at e;injection e with e1 e2 e3;simp only at e2;subst e2;exact⟨a,b,hd,e1.symm,e3.symm⟩
 induction h with
 |one e =>
  obtain⟨a,b,hd,rfl,rfl⟩:=edge e;exact⟨a,(hin _ hd).1,b,(hin _ hd).2,rfl,rfl,.one hd⟩
 |step r e ih =>
  obtain⟨a,ha,b,hb,e1,e2,hr⟩:=ih;obtain⟨a',b',hd,e3,rfl⟩:=edge e;have:b=a':=inj b hb a' (hin _ hd).1 (e2.symm.trans e3);subst this;exact⟨a,ha,b',(hin _ hd).2,e1,rfl,.step hr hd⟩
theorem aL.renamed{rooms':Zb}{f:Str->Str}(m:aL J0 J1 J2 ds)(okw:kY ws)(hf:J2.map f=ws)(hp:rooms'.Perm ws):aL J0 J1 rooms' (ds.map (vM f)):=by
 have hlen:rooms'.length=J2.length:=by rw[hp.length_eq,<-hf,aj]
 have inj:∀a∈J2,∀b∈J2,f a=f b->a=b:=fun a ha b hb e=>Jt hf okw.1 ha hb e;have hin:∀d∈ds,d.a∈J2/\d.b∈J2:=fun d hd=>⟨(m.good d hd).a,(m.good d hd).b⟩;have hmem:∀a∈J2,f a∈rooms':=fun a ha=>hp.mem_iff.mpr (by rw[<-hf];exact kz ha);refine{ m with okR:=⟨hp.nodup_iff.mpr okw.1,fun w hw=>okw.2 w (hp.mem_iff.mp hw)⟩,rooms0:=?_,rooms26:=by rw[hlen];exact m.rooms26,nodup:=?_,good:=?_,few:=by rw[aj];exact m.few,noround:=?_ }
 ·intro z;rw[z]at hlen;exact m.rooms0 (List.eq_nil_of_length_eq_zero hlen.symm)
 ·refine List.Pairwise.map _ ?_ (List.Pairwise.and_mem.mp m.nodup);rintro⟨a,s,b⟩ ⟨a',s',b'⟩ ⟨h1,h2,hne⟩ e;unfold vM at e;injection e with e1 e2 e3;simp only at e1 e2 e3;refine hne ?_;rw[inj a (hin _ h1).1 a' (hin _ h2).1 e1,e2,inj b (hin _ h1).2 b' (hin _ h2).2 e3]
 ·intro d hd;obtain⟨d0,hd0,rfl⟩:=aw.mp hd;exact⟨hmem _ (hin _ hd0).1,hmem _ (hin _ hd0).2,(m.good d0 hd0).sg⟩
 ·intro r z;obtain⟨a,ha,b,hb,e1,e2,hr⟩:=Ef inj hin z;have:=inj a ha b hb (e1.symm.trans e2);subst this;exact m.noround a hr
theorem ES(ws:Zb){j k:Nat}(hj:j<=k)(hk:k<=ws.length):fV (ws.map V.str) (some (j:Int)) (some (k:Int))=((ws.drop j).take (k-j)).map V.str:=by
 unfold fV;rw[HT.sIx_nat,HT.sIx_nat,aj,tf hk,tf (bC hj hk),nS,tj]
theorem zC(ws:Zb)(n:Nat):(ws.take 1++ws.drop (1+n)++(ws.drop 1).take (1+n-1)).Perm ws:=by
 have e:ws.drop (1+n)=(ws.drop 1).drop n:=by rw[List.drop_drop]
 have e2:1+n-1=n:=by omega
 rw[e,e2,c9];have h:ws=ws.take 1++((ws.drop 1).take n++(ws.drop 1).drop n):=by rw[sZ,sZ]
 exact(List.Perm.append_left _ List.perm_append_comm).trans (by rw[<-h])
theorem yN(o:Str)(L:Zb):decide (gW o∈L.map gW)=decide (o∈L):=by
 by_cases c:o∈L
 ·rw[zzr1 (mW.mpr c),zzr1 c]
 ·rw[zzr0 (fun z=>c (mW.mp z)),zzr0 c]
theorem br.same{K:Za}(S:ab H H')(h:br K H a xs):br K H' a xs:=by
 rcases h with(h|⟨o,h⟩)|h
 ·exact .inl (.inl (S _ _ h))
 ·exact .inl (.inr ⟨o,S _ _ h⟩)
 ·exact .inr h
theorem az.same{K:Za}(S:ab H H')(h:az K H a xs):az K H' a xs:=by
 rcases h with(h|⟨o,h⟩)|h
 ·exact .inl (.inl (S _ _ h))
 ·exact .inl (.inr ⟨o,S _ _ h⟩)
 ·exact .inr h
mutual
theorem mJ.same{K:Za}(S:ab H H'):∀{d:DT}{v:V},mJ K H d v->mJ K H' d v
 |.k a,v,h=>by unfold mJ at h ⊢;exact h
 |.t l,v,h=>by
  unfold mJ at h ⊢;obtain⟨b,xs,e,q,r⟩:=h;exact⟨b,xs,e,br.same S q,DIns.same S r⟩
 |.s l,v,h=>by
  unfold mJ at h ⊢;obtain⟨b,xs,e,q,r⟩:=h;exact⟨b,xs,e,az.same S q,DIns.same S r⟩
theorem DIns.same{K:Za}(S:ab H H'):∀{ds:List DT}{vs:List V},DIns K H ds vs->DIns K H' ds vs
 |[],vs,h=>by unfold DIns at h ⊢;exact h
 |d::ds,vs,h=>by
  unfold DIns at h ⊢;obtain⟨v,us,e,q,r⟩:=h;exact⟨v,us,e,mJ.same S q,DIns.same S r⟩
end
def Ft(K:Za)(sp_law_still_on:Sp):TS :=
 ap (aP (aM sp_law_still_on (aO (aI (oA K) V0 (tC (.int 3))) V1)) U2)
 (bc (dB (Af K) (au (c6 1 [2] (bT K (aI (oA K) V0 (tC (.int 2)))) U0 (aQ (aI (kM K false) V0 V1)) V0) bh)))
def GZ:List Str:=["told","some","there"]
def tU(K:Za):TS :=
 bc (aI (j5 K) (c6 1 [1] (bT K (aI (oA K) V0 (tC (.int 3)))) U0 (lC (aQ (aI (j5 K) (aI (oA K) V0 (tC (.int 0))) V1)) (aQ (aI HJ (aI (oA K) (aI (oA K) V0 (tC (.int 1))) (tC (.int 0))) (tC (.str "ask"))))) V0) (dA (bh)))
def vd:List Str:=["told","room"]
def xT(K:Za)(sp_law_on:Sp)(sp_law_is_quiet:Sp):TS :=
 ap (bS (aQ (aI (j5 K) V2 (bw (ay (tC (.str "hush")))))) (bc (dB (Af K) (ay (c6 1 [0] (Gw K V1) U0 (tB (aM sp_law_is_quiet (aO V1 V0))) V0)))) (bg))
 (bc (aM sp_law_on (au V0 (au (c6 1 [1,2] (bT K (aI (oA K) V0 (tC (.int 3)))) U0 (lC (aQ (aI (kM K false) (aI (oA K) V0 (tC (.int 0))) V1)) (aQ (aI (j5 K) (aI (oA K) V0 (tC (.int 1))) V2))) (aI (oA K) V0 (tC (.int 2)))) bh))))
def y6:List Str:=["told","face","sign"]
open Classical in
def closF(J2:Zb)(ds:List am)(gs:Zb):List Str:=J2.filter fun r=>decide (gg ds gs r)
open Classical in
theorem qa{J2 F gs:Zb}(hF:∀w,w∈F↔gg ds gs w):J2.filter (fun r=>decide (r∈F))=closF J2 ds gs:=by
 unfold closF;refine qp fun r _=>?_;by_cases c:r∈F
 ·rw[zzr1 c,zzr1 ((hF r).mp c)]
 ·rw[zzr0 c,zzr0 fun z=>c ((hF r).mpr z)]
open Classical in
theorem AM{gs gs':Zb}(h:∀g,g∈gs↔g∈gs'):closF J2 ds gs=closF J2 ds gs':=by
 have:∀r,gg ds gs r↔gg ds gs' r:=fun r=>⟨fun⟨g,hg,e⟩=>⟨g,(h g).mp hg,e⟩,fun⟨g,hg,e⟩=>⟨g,(h g).mpr hg,e⟩⟩;unfold closF;refine qp fun r _=>?_;by_cases c:gg ds gs r
 ·rw[zzr1 c,zzr1 ((this r).mp c)]
 ·rw[zzr0 c,zzr0 fun z=>c ((this r).mpr z)]
def behF(J2:Zb)(ds:List am)(J6 sg:Zb):List Str:=if sg=aV then J6.filter (fun r=>decide (r∉fA ds))else closF J2 ds (dz ds sg J6)
theorem FT{J2:Zb}{fc:Zb}(hfc:∀r∈fc,r∈J2):(fc.filter fun r=>decide (r∈J2.filter (db ds)))=fc.filter fun r=>decide (r∉fA ds):=by
 refine qp fun r hr=>?_;rw[<-kN];cases q:db ds r with
 |true=>exact zzr1 (bD.mpr ⟨hfc r hr,q⟩)
 |false=>exact zzr0 (fun z=>by rw[(bD.mp z).2]at q;cases q)
inductive zY (vs:List V)(H:Hp)(Q:VK)(E:XK):Prop
 |mk (t l l1 l2 l3 l4:Addr) (ts:Ze) (J0 J1 J2 gs:Zb) (ds:List am):(vs=[.ref t,.ref l])->(iE H t l1 l2 l3 l4 ts J0 J1 J2 ds)->(aL J0 J1 J2 ds)->(H l=some (.lst (gs.map V.str)))->(gs.length<=1000)->(∀(t':Addr) (H':Hp),H' t'=some (.tup ((closF J2 ds gs).map V.str))->ab H H'->Q (.ref t') H')->zY  vs H Q E
theorem JP{K:Za}(h:zY vs H Q E):Ft K (eK K) (bJ Q) (start GZ vs) H:=by
 obtain⟨t,l,l1,l2,l3,l4,ts,J0,J1,J2,gs,ds,rfl,T,m,hl,hz,k⟩:=h;have z3:=m.rooms26;refine⟨_,rfl,.inr (.inl ⟨t,_,3,_,rfl,rfl,br.of T.t,rfl,_,rfl,l4,l,ts,ds,gs,J2,rfl,T.a4,T.ds,hl,fun d hd=>(m.good d hd).b,by omega,hz,fun th F H1 hth hF hFl fr S1=>?_⟩)⟩;have T1:=T.same S1;refine⟨_,rfl,.inr (.inl ⟨t,_,2,_,rfl,rfl,br.of T1.t,rfl,l3,rfl,⟨_,az.of T1.a3⟩,fun f hf=>?_⟩)⟩;refine bZ (xs:=J2.map V.str) (fun i vs H'=>vs=((J2.take i).filter fun r=>decide (r∈F)).map V.str/\ab H1 H'/\H' f=some (.lst vs)) ⟨rfl,ab.new hf,aa⟩ (fun i vs H' _ ⟨_,S,h'⟩=>⟨h',az.of (S _ _ T1.a3)⟩) ?_ ?_
 ·rintro vs H' ⟨rfl,S,f'⟩;rw[aj,aR,qa hF]at f';exact⟨f,_,rfl,.inl ⟨az.of f',fun t' ht'=>k t' _ aa ((S1.trans S).trans (ab.new ht'))⟩⟩
 ·rintro i vs H' x' hx' hi ⟨rfl,S,f'⟩;obtain⟨r,hr,rfl⟩:=bm hx';refine gN ?_;refine⟨_,rfl,_,rfl,gW r,F.map gW,th,_,js r,rfl,.inl (az.of (S _ _ hth)),my _,(by show 0<=8;decide),by rw[fF];decide,_,rfl,?_⟩;rw[if_neg fO,yN];have hlen:(((J2.take i).filter fun r=>decide (r∈F)).map V.str).length<ai:=by
   rw[aj];refine ar (bC (c8 _ _) ?_);rw[aG];omega
  refine jJ (fun hq=>?_) (fun hq=>?_)
  ·refine⟨_,rfl,f',hlen,nA hi ⟨?_,?_,aa⟩⟩
   ·rw[cw hr,if_pos hq,ax];rfl
   ·intro b o q;rw[ag (ae q hf)];exact S _ _ q
  ·refine nA hi ⟨?_,S,f'⟩;rw[cw hr,if_neg hq,dj]
theorem oG(ds:List am):DT.depths (ds.map uX)<=2:=by
 induction ds with
 |nil=>exact cX _
 |cons x xs ih=>rw[bI];show max (DT.depth (uX x)) (DT.depths _)<=2;rw[yL];omega
theorem mT(g:AZ J0 J1 J2 dr):∃s0 rest,dr.sg=s0::rest/\(!decide (V.str s0=V.str ("ask":Str)))=!gB dr:=by
 obtain⟨s0,rest,hsg⟩:∃s0 rest,dr.sg=s0::rest:=by
  rcases g.sg with⟨w,_,e⟩|⟨w,_,e⟩|e<;>exact⟨_,_,e⟩
 refine⟨s0,rest,hsg,?_⟩;unfold gB;rw[hsg];congr 1;show _=decide (s0=("ask":Str));by_cases c:s0=("ask":Str)
 ·rw[zzr1 c,zzr1 (by rw[c])]
 ·rw[zzr0 c,zzr0 (fun z=>c (by injection z))]
inductive j3 (vs:List V)(H:Hp)(Q:VK)(E:XK):Prop
 |mk (t l1 l2 l3 l4:Addr) (ts:Ze) (J0 J1 J2:Zb) (ds:List am) (r:Str):(vs=[.ref t,.str r])->(iE H t l1 l2 l3 l4 ts J0 J1 J2 ds)->(aL J0 J1 J2 ds)->(∀H',ab H H'->Q (.bl (decide (r∉fA ds))) H')->j3  vs H Q E
theorem Ek{K:Za}(h:j3 vs H Q E):tU K (bJ Q) (start vd vs) H:=by
 obtain⟨t,l1,l2,l3,l4,ts,J0,J1,J2,ds,r,rfl,T,m,k⟩:=h;have z4:=m.few;refine⟨_,rfl,.inr (.inl ⟨t,_,3,_,rfl,rfl,br.of T.t,rfl,l4,rfl,⟨_,az.of T.a4⟩,fun f hf=>?_⟩)⟩;refine bZ (xs:=ts.map V.ref) (fun i vs H'=>∃us:List Addr,vs=us.map V.ref/\ab H H'/\H' f=some (.lst vs)/\cF H' us ((ds.take i).filter fun d=>decide (d.a=r) && !gB d)) ⟨[],rfl,ab.new hf,aa,.nil⟩ (fun i vs H' _ ⟨_,_,S,h',_⟩=>⟨h',az.of (S _ _ T.a4)⟩) ?_ ?_;rotate_left
 ·rintro i vs H' x' hx' hi ⟨us,rfl,S,f',hP⟩;obtain⟨u,hu,rfl⟩:=cj hx';obtain⟨dr,hdr,hatd⟩:=Paired.getL T.ds hu;have hat':=hatd.kt (ab.kt S);obtain⟨sb,ht2,hs2⟩:=hatd.kt (ab.kt S);obtain⟨s0,rest,hsg,ea⟩:=mT (m.good dr (aZ hdr));unfold SignAt at hs2;rw[hsg]at hs2;have keep:(decide (dr.a=r) && !gB dr)=false->∃m',m'<(ts.map V.ref).length-i/\Wc (ts.map V.ref).length (fun i vs H'=>∃us:List Addr,vs=us.map V.ref/\ab H H'/\H' f=some (.lst vs)/\cF H' us ((ds.take i).filter fun d=>decide (d.a=r) && !gB d)) (i+1) m' (us.map V.ref) H':=by
   intro z;refine nA hi ⟨us,rfl,S,f',?_⟩;rw[gD hdr,if_neg (by rw[z];decide),dj];exact hP
  refine gN ?_;refine⟨_,rfl,.inr (.inl ⟨u,_,0,_,rfl,rfl,br.of ht2,rfl,_,rfl,gW dr.a,gW r,js _,js _,(by show 0<=8;decide),(by show 0<=8;decide),_,rfl,?_⟩)⟩;rw[yM];by_cases c1:dr.a=r;rotate_left
  ·rw[zzr0 c1];exact bR (bR (keep (by rw[zzr0 c1];rfl)))
  rw[zzr1 c1];refine cR ?_;refine⟨_,rfl,.inr (.inl ⟨u,_,1,_,rfl,rfl,br.of ht2,rfl,.inr (.inl ⟨sb,_,0,.str s0,rfl,rfl,br.of hs2,bH (j:=0) rfl,rfl,_,rfl,?_⟩)⟩)⟩;rw[ea];cases q:gB dr with
  |true=>exact bR (keep (by rw[q,zzr1 c1];rfl))
  |false =>
   refine cR ?_;refine⟨_,rfl,f',?_,nA hi ⟨us++[u],by rw[ax];rfl,?_,aa,?_⟩⟩
   ·rw[aj,Paired.length hP];refine ar (bC (c8 _ _) ?_);rw[aG];omega
   ·intro b o q;rw[ag (ae q hf)];exact S _ _ q
   ·rw[gD hdr,if_pos (by rw[q,zzr1 c1];rfl)];have hk:gM H' (upd H' f (.lst (us.map V.ref++[.ref u]))):=cL f';exact c_ (hP.kt hk) (hat'.kt hk)
 rintro vs H1 ⟨us,rfl,S1,f1,hP⟩;rw[aj,Paired.length T.ds,aR]at hP;refine⟨(by show 0<=ai;decide),fun e he=>⟨.s ((ds.filter fun d=>decide (d.a=r) && !gB d).map uX),.s [],?_,DE (az.of aa),?_,by decide,?_⟩⟩
 ·unfold mJ;exact⟨f,_,rfl,az.of (kp f1 he),cF.dIns (hP.kt (ab.kt (ab.new he)))⟩
 ·show DT.depths _+1<=8;have:=oG (ds.filter fun d=>decide (d.a=r) && !gB d);omega
 have ed:decide (DT.s ((ds.filter fun d=>decide (d.a=r) && !gB d).map uX)=DT.s [])=decide (r∉fA ds):=by
  by_cases c:r∈fA ds
  ·have e0:decide (r∉fA ds)=false:=zzr0 (fun z=>z c);rw[e0];refine zzr0 fun z=>?_;injection z with z;unfold fA at c;obtain⟨d,hd,e1⟩:=aw.mp c;obtain⟨h1,h2⟩:=bD.mp hd;have:uX d∈(ds.filter fun d=>decide (d.a=r) && !gB d).map uX:=kz (bD.mpr ⟨h1,by rw[zzr1 e1,h2];rfl⟩);rw[z]at this;cases this
  ·have e0:decide (r∉fA ds)=true:=zzr1 c;rw[e0];refine zzr1 ?_;have:(ds.filter fun d=>decide (d.a=r) && !gB d)=[]:=by
    rw[List.filter_eq_nil_iff];intro d hd z;rw[tG]at z;exact c (aw.mpr ⟨d,bD.mpr ⟨hd,z.2⟩,of_decide_eq_true z.1⟩)
   rw[this]
   rfl
 rw[ed];exact k _ (S1.trans (ab.new he))
abbrev yX(H:Hp)(us:Ze)(L:List (List Str)):Prop:=Paired (SignAt H) us L
theorem yX.kt(k:gM H H')(h:yX H us L):yX H' us L:=Paired.mapP h fun _ _ r=>k _ _ r
def bd(J0 J1:Zb):List (List Str):=J0.map c7++J1.map l9++[aV]
theorem uZ{K:Za}{H:Hp}{a l:Addr}{ws:Zb}{kd:Str}{Q:Hp->Prop}(ha:H a=some (.lst (ws.map V.str)))(hz:ws.length<=1000)(hl:H l=none)
  (k:∀(us:Ze) (H':Hp),H' l=some (.lst (us.map V.ref))->yX H' us (ws.map fun w=>[kd,w])->ab H H'->Q H') :
  gG 1 [] σ (G7 K a) U0 kG (bw (aO (tC (.str kd)) V0)) H l Q:=by
 refine bZ (xs:=ws.map V.str) (fun i vs H'=>∃us:List Addr,vs=us.map V.ref/\ab H H'/\H' l=some (.lst vs)/\yX H' us ((ws.take i).map fun w=>[kd,w])) ⟨[],rfl,ab.new hl,aa,.nil⟩ (fun i vs H' _ ⟨_,_,S,h',_⟩=>⟨h',az.of (S _ _ ha)⟩) ?_ ?_
 ·rintro vs H' ⟨us,rfl,S,h',hP⟩;rw[aj,aR]at hP;exact k us H' h' hP S
 ·rintro i vs H' x' hx' hi ⟨us,rfl,S,f',hP⟩;obtain⟨w,hw,rfl⟩:=bm hx';refine gN (se ?_);refine⟨_,rfl,(by show 2<=ai;decide),fun u hu=>⟨kp f' hu,?_,nA hi ⟨us++[u],by rw[ax];rfl,?_,aa,?_⟩⟩⟩
  ·rw[aj,Paired.length hP,aj,aG];exact ar (by omega)
  ·intro b o q;rw[ag (ae q hl)];exact kp (S _ _ q) hu
  ·rw[take_snoc hw,ax];have hk:gM H' (upd (upd H' u (.tup [.str kd,.str w])) l (.lst (us.map V.ref++[.ref u]))):=(ab.kt (ab.new hu)).trans (cL (kp f' hu));exact c_ (yX.kt hk hP) ((cL (kp f' hu)) _ _ aa)
theorem Ci(xs:List V)(k:Nat):fV xs (some (k:Int)) none=xs.drop k:=by
 unfold fV;rw[HT.sIx_none,HT.sIx_nat,xc (by rw[fj];omega)];by_cases h:k<=xs.length
 ·rw[tf h]
 ·rw[Nat.min_eq_right (by omega),qy (by simp),qy (by omega)]
theorem Paired.takeP{α β:Type}{R:α->β->Prop}:∀(n:Nat) {xs:List α}{ys:List β},Paired R xs ys->Paired R (xs.take n) (ys.take n)
 |0,_,_,_=>by rw[sX,sX];exact .nil
 |_+1,_,_,.nil=>.nil
 |n+1,_,_,.cons r t=>.cons r (Paired.takeP n t)
theorem Paired.dropP{α β:Type}{R:α->β->Prop}:∀(n:Nat) {xs:List α}{ys:List β},Paired R xs ys->Paired R (xs.drop n) (ys.drop n)
 |0,_,_,h=>h
 |_+1,_,_,.nil=>.nil
 |n+1,_,_,.cons r t=>Paired.dropP n t
def tX(K:Za):TS :=
 bc (dB (da K) (ay (gk K V0 "own_asks")))
def vg:List Str:=["self"]
def tW(K:Za):TS :=
 bc (dB (da K) (ay (gk K V0 "own_says")))
def vf:List Str:=["self"]
def lT(K:Za):TS :=
 bc (dB (da K) (ay (uc K (gk K V0 "leaving") V1 (bw (bh)))))
def mE:List Str:=["self","room"]
theorem oy(h:bv C H x J0 J1 J2 ds):∃(dx:Addr) (fs:List (Str×V)) (o1 o2 lv:Addr) (lps:List (Str×Addr)),H x=some (.ins C dx fs)/\lk "asks" fs=none/\lk "says" fs=none/\lk "doors_from" fs=none/\lk "is_quiet" fs=none/\lk "own_asks" fs=some (.ref o1)/\lk "own_says" fs=some (.ref o2)/\lk "leaving" fs=some (.ref lv) /\
  H o1=some (.lst (J0.map V.str))/\H o2=some (.lst (J1.map V.str))/\lps.map (·.1)=J2/\H lv=some (.dK (eB Sum.inr lps))/\(∀x∈lps,∃us,H x.2=some (.lst (us.map V.ref))/\cF H us (bj ds x.1)):=by
 obtain⟨dx,fs,o1,o2,o3,o4,lv,qu,sg,sl,ts,lps,gps,sps,g1,a1,a2,a3,a4,b1,b2,b3,b4,b5,b6,b7,b8,L,c1,c2,c3,c4,G,d1,d2,d3⟩:=h.at_;obtain⟨dx',fs',g1',e1,e2,e3,e4⟩:=h.more;rw[g1]at g1';cases g1';exact⟨dx,fs,o1,o2,lv,lps,g1,e1,e2,e4,a1,b1,b2,b5,L.a1,L.a2,c1,c2,c3⟩
inductive mS(C:Addr)(vs:List V)(H:Hp)(Q:VK)(E:XK):Prop
 |mk (x:Addr) (J0 J1 J2:Zb) (ds:List am):(vs=[.ref x])->(bv C H x J0 J1 J2 ds)->(∀l,H l=none->Q (.ref l) (upd H l (.lst (J0.map V.str))))->mS C vs H Q E
theorem HC{K:Za}(M:MC K C)(h:mS C vs H Q E):tX K (bJ Q) (start vg vs) H:=by
 obtain⟨x,J0,J1,J2,ds,rfl,h,k⟩:=h;obtain⟨dx,fs,o1,o2,lv,lps,g1,a1,a2,a3,a4,b1,b2,b3,c1,c2,_⟩:=oy h;exact⟨_,rfl,x,C,dx,fs,.ref o1,rfl,g1,M.cls,M.a1,b1,.inl ⟨o1,_,rfl,.inl (az.of c1),k⟩⟩
inductive pA(C:Addr)(vs:List V)(H:Hp)(Q:VK)(E:XK):Prop
 |mk (x:Addr) (J0 J1 J2:Zb) (ds:List am):(vs=[.ref x])->(bv C H x J0 J1 J2 ds)->(∀l,H l=none->Q (.ref l) (upd H l (.lst (J1.map V.str))))->pA C vs H Q E
theorem Hv{K:Za}(M:MC K C)(h:pA C vs H Q E):tW K (bJ Q) (start vf vs) H:=by
 obtain⟨x,J0,J1,J2,ds,rfl,h,k⟩:=h;obtain⟨dx,fs,o1,o2,lv,lps,g1,a1,a2,a3,a4,b1,b2,b3,c1,c2,_⟩:=oy h;exact⟨_,rfl,x,C,dx,fs,.ref o2,rfl,g1,M.cls,M.a2,b2,.inl ⟨o2,_,rfl,.inl (az.of c2),k⟩⟩
inductive hZ(C:Addr)(vs:List V)(H:Hp)(Q:VK)(E:XK):Prop
 |mk (x:Addr) (r:Str) (J0 J1 J2:Zb) (ds:List am):(vs=[.ref x,.str r])->(bv C H x J0 J1 J2 ds)->(r∈J2)->(∀(l:Addr) (us:Ze) (H':Hp),H' l=some (.lst (us.map V.ref))->cF H' us (bj ds r)->H l=none->ab H H'->Q (.ref l) H')->hZ C vs H Q E
theorem vT{K:Za}(M:MC K C)(h:hZ C vs H Q E):lT K (bJ Q) (start mE vs) H:=by
 obtain⟨x,r,J0,J1,J2,ds,rfl,h,hr,k⟩:=h;obtain⟨dx,fs,o1,o2,lv,lps,g1,a1,a2,a3,a4,b1,b2,b3,c1,c2,c3,c4,c5⟩:=oy h;have nod:=h.ok.okR.1;obtain⟨⟨r',a⟩,hra,er⟩:=aw.mp (show r∈lps.map (·.1) by rw[c3];exact hr);obtain rfl:r'=r:=er;obtain⟨us,e1,e2⟩:=c5 _ hra;refine⟨_,rfl,x,C,dx,fs,.ref lv,rfl,g1,M.cls,M.a5,b3,lv,rfl,.inl ⟨_,.inl c4⟩,_,rfl,(by show 0<=ai;decide),fun et het=>⟨_,.inl ⟨_,.inr r',.inl (kp c4 het),rfl,rfl⟩,?_⟩⟩;rw[eD iB (by rw[c3];exact nod) hra];have S1:ab H (upd H et (.tup [])):=ab.new het;refine .inl ⟨a,_,rfl,.inl (az.of (S1 _ _ e1)),fun l hl=>k l us _ aa ?_ (S1.free hl) (S1.trans (ab.new hl))⟩;exact e2.kt (ab.kt (S1.trans (ab.new hl)))

theorem Ie{n j:Nat}(h:j<n):G6 n (j:Int)=some j:=by
 unfold G6;rw[if_pos (Int.natCast_nonneg j),if_pos (by omega)]
 rfl
theorem Reach.mono{ds ds':List am}(h:∀a b,(⟨a,ao,b⟩:am)∈ds->(⟨a,ao,b⟩:am)∈ds')(r:Reach ds a b):Reach ds' a b:=by
 induction r with
 |one e=>exact .one (h _ _ e)
 |step _ e ih=>exact .step ih (h _ _ e)
theorem Gg{K:Za}{H:Hp}{l q:Addr}{ts:Ze}{Q:VK}(hl:H l=some (.lst (ts.map V.ref)))(hd:cF H ts ds)(hq:H q=some (.lst []))(h1:ds≠[]->Q (.bl true) H)(h2:ds=[]->Q (.bl false) H):uu K (.ref l) (.ref q) H Q:=by
 refine⟨.s (ds.map uX),.s [],(by unfold mJ;exact⟨l,_,rfl,az.of hl,hd.dIns⟩),(by unfold mJ;exact⟨q,_,rfl,az.of hq,by unfold DIns;rfl⟩),?_,(by decide),?_⟩
 ·show DT.depths _+1<=8;have:=oG ds;omega
 ·by_cases c:ds=[]
  ·subst c;rw[zzr1 (show DT.s (([]:List am).map uX)=DT.s []from rfl)];exact h2 rfl
  ·rw[zzr0 (fun z=>c (by injection z with z;exact List.map_eq_nil_iff.mp z))];exact h1 c
abbrev JR:List V->Hp->VK->Prop:=fun xs H Q=>(∃i,xs=[.int i]/\Q (.int i) H)∨∃k,xs=[.bl k]/\Q (.int (if k then 1 else 0)) H
def Hg(K:Za)(C_Machine:Addr)(sp_Machine_led_from:Sp)(sp_Machine_goals:Sp):TS :=
 bc (dB (rAny K) (au (c6 1 [0,2] (bT K (aI sA (dA (ay V1)) (cZ C_Machine "led_from" sp_Machine_led_from [] E0 V0 (ay V1)))) U0 (kG) (aI Er (dB (eG K) (au (cZ C_Machine "goals" sp_Machine_goals [] E0 V1 (aO V0 (bw (au (tC (.str "ask")) (ay V2))))) bh)) (tC (.int 0)))) bh))
def IA:List Str:=["I","room","ask"]
def vy(K:Za)(sp_law_put:Sp)(sp_law_take:Sp)(sp_law_still_on:Sp):TS :=
 ap (aP V1 (g0 K 4 (aY U2 (aY U3 (aY U4 (aY U5 (gP)))))))
 (ap (aP (dB (da K) (ay V5)) U5)
 (ap (dR (bT K V4) U6 (dR (bT K V2) U7 (ap (aP (aM sp_law_still_on (aO V5 (dA (ay V6)))) U8)
 (bS (aQ (aI (j5 K) (c6 1 [8,7] (bT K V5) U0 (lC (aQ (aI (kM K false) (aI (oA K) V0 (tC (.int 0))) V1)) (aQ (aI (j5 K) (aI (oA K) V0 (tC (.int 1))) (bw (aO (tC (.str "ask")) V2))))) V0) (dA (bh)))) (ap (aP (aI (cV K) (dA (au V6 (au (aI (cV K) V4 (aM sp_law_take (aO V0 (dB (eG K) (ay V4))))) bh))) (aM sp_law_take (aO V0 (tC (.int 2))))) U9)
 (bV (aM sp_law_put (au V5 (au (bw (dW V6 (bw (aO (tC (.str "ask")) V7)) V9)) bh))))) (bg)))))
 (bc (bw (au V2 (dW V3 V4 V5))))))
def v6:List Str:=["pen","told","asks","says","rooms","doors","room","ask","there","other"]
def gS(ds:List am)(r a:Str):Prop:=∃h,(h=r∨Reach ds r h)/\∃b,(⟨h,c7 a,b⟩:am)∈ds
open Classical in
def takesB(ds:List am)(r a:Str):Bool:=decide (gS ds r a)
theorem lS:takesB ds r a=true↔gS ds r a:=by unfold takesB;exact @decide_eq_true_iff _ (qo _)
theorem xO:takesB ds r a=false↔¬gS ds r a:=by unfold takesB;exact @decide_eq_false_iff_not _ (qo _)
theorem rY{h:Str}{sg:Zb}:0<(bz ds (h,sg)).length↔∃b,(⟨h,sg,b⟩:am)∈ds:=by
 rw[List.length_pos_iff_exists_mem];constructor
 ·rintro⟨b,hb⟩;exact⟨b,eN.mp hb⟩
 ·rintro⟨b,hb⟩;exact⟨b,eN.mpr hb⟩
theorem DY{L:Zb}(hL:∀w,w∈L↔Reach ds r w):((r::L).map fun h=>decide ((0:Int)<(bz ds (h,c7 a)).length)).any id=takesB ds r a:=by
 rw[rK,lS,List.any_eq_true];constructor
 ·rintro⟨b,hb,e⟩;obtain⟨h,hh,rfl⟩:=aw.mp hb;have:=of_decide_eq_true e;refine⟨h,?_,rY.mp (by omega)⟩;rcases cH.mp hh with e|e
  ·exact .inl e
  ·exact .inr ((hL h).mp e)
 ·rintro⟨h,hh,hb⟩;refine⟨true,aw.mpr ⟨h,?_,zzr1 (by have:=rY.mpr hb;omega)⟩,rfl⟩;rcases hh with e|e
  ·rw[e];exact dU
  ·exact eI _ ((hL h).mpr e)
inductive jZ(C:Addr)(vs:List V)(H:Hp)(Q:VK)(E:XK):Prop
 |mk (x:Addr) (r a:Str) (J0 J1 J2:Zb) (ds:List am):(vs=[.ref x,.str r,.str a])->(bv C H x J0 J1 J2 ds)->(r∈J2)->(∀H',ab H H'->Q (.bl (takesB ds r a)) H')->jZ C vs H Q E
theorem FA{K:Za}(h:jZ C vs H Q E):Hg K C (ib C) (iK C) (bJ Q) (start IA vs) H:=by
 obtain⟨x,r,a,J0,J1,J2,ds,rfl,M,hr,k⟩:=h;refine⟨_,rfl,(by show 1<=ai;decide),fun l1 hl1=>?_⟩;have S1:ab H (upd H l1 (.lst [.str r])):=ab.new hl1;have e1:upd H l1 (.lst [.str r]) l1=some (.lst [.str r]):=aa;generalize upd H l1 (.lst [.str r])=H1 at S1 e1 ⊢;have M1:=M.same S1;obtain⟨dx,fs,o1,o2,o3,o4,lv,qu,sgA,sl,ts,lps,gps,sps,g1,a1,a2,a3,a4,_⟩:=id M1.at_;refine⟨_,rfl,x,dx,fs,rfl,g1,a3,_,rfl,x,r,J0,J1,J2,ds,rfl,M1,hr,fun l2 L H2 e2 nd hL _ S2=>?_⟩;have hin:∀w∈L,w∈J2:=fun w hw=>((hL w).mp hw).in_ fun d hd=>(M.ok.good d hd).b;have zL:=mn nd hin;have z3:=M.ok.rooms26;refine⟨l1,l2,_,_,rfl,rfl,S2 _ _ e1,e2,by rw[aj];show 1+L.length<=ai;exact fb (ar (by omega)),fun l3 hl3=>?_⟩;have eq:([.str r]++L.map V.str:List V)=(r::L).map V.str:=rfl;rw[eq];have S3:ab H (upd H2 l3 (.lst ((r::L).map V.str))):=(S1.trans S2).trans (ab.new hl3);have e3:upd H2 l3 (.lst ((r::L).map V.str)) l3=some (.lst ((r::L).map V.str)):=aa;generalize upd H2 l3 (.lst ((r::L).map V.str))=H3 at S3 e3 ⊢;refine⟨l3,rfl,⟨_,az.of e3⟩,fun q hq=>?_⟩;refine bZ (xs:=(r::L).map V.str) (fun i vs H'=>vs=(((r::L).take i).map fun h=>decide ((0:Int)<(bz ds (h,c7 a)).length)).map V.bl/\ab H3 H'/\H' q=some (.lst vs)) ⟨rfl,ab.new hq,aa⟩ (fun i vs H' _ ⟨_,S,h⟩=>⟨h,az.of (S _ _ e3)⟩) ?_ ?_
 ·rintro vs H' ⟨rfl,S,h⟩;rw[aj,aR]at h;refine⟨q,_,rfl,az.of h,?_⟩;rw[DY hL];exact k H' (S3.trans S)
 ·rintro i vs H' y hy hi ⟨rfl,S,h⟩;obtain⟨w,hw,rfl⟩:=bm hy;refine gN (se ?_);have M':=M.same (S3.trans S);obtain⟨dx,fs,o1,o2,o3,o4,lv,qu,sgA,sl,ts,lps,gps,sps,g1,a1,a2,a3,a4,_⟩:=id M'.at_;refine⟨_,rfl,x,dx,fs,rfl,g1,a2,_,rfl,_,rfl,(by show 2<=ai;decide),fun s hs=>?_⟩;have S4:ab H' (upd H' s (.tup ((c7 a).map V.str))):=ab.new hs;refine⟨x,s,w,c7 a,J0,J1,J2,ds,rfl,M'.same S4,aa,fun g H5 hg _ S5=>?_⟩;have S45:=S4.trans S5;refine .inl ⟨g,_,rfl,.inl (az.of hg),_,_,rfl,rfl,S45 _ _ h,?_,?_⟩
  ·rw[aj,aj,aG];exact ar (by rw[dS];omega)
  refine nA hi ⟨?_,fun b o e=>?_,aa⟩
  ·rw[take_snoc hw,ax,ax];show _++[V.bl (decide ((0:Int)<(((bz ds (w,c7 a)).map V.str).length:Nat)))]=_;rw[aj];rfl
  ·rw[ag (ae e hq)];exact S45 _ _ (S _ _ e)
theorem Do{K:Za}{H:Hp}{l m:Addr}{a b:Zb}{Q:VK}(hl:H l=some (.lst (a.map V.str)))(hm:H m=some (.lst (b.map V.str)))(k:Q (.bl (!decide (a=b))) H):uu K (.ref l) (.ref m) H Q:=by
 refine⟨.s (a.map gW),.s (b.map gW),uW (az.of hl),uW (az.of hm),?_,?_,?_⟩
 ·show DT.depths _+1<=8;rw[fF];decide
 ·show DT.depths _+1<=8;rw[fF];decide
 ·rw[decide_eq_decide.mpr (show DT.s (a.map gW)=DT.s (b.map gW)↔a=b from⟨fun h=>ii (by injection h),fun h=>by rw[h]⟩)];exact k
def AS(F:Zb)(a:Str)(d:am):Bool:=decide (d.a∈F) && decide (d.sg=c7 a)
theorem AR{F:Zb}{r:Str}(hF:∀w,w∈F↔gg ds [r] w):ds.filter (AS F a)=[]↔takesB ds r a=false:=by
 rw[xO,List.filter_eq_nil_iff];constructor
 ·rintro h ⟨w,hw,b,hb⟩;refine h _ hb ?_;unfold AS;rw[zzr1,zzr1]
  ·rfl
  ·rfl
  ·exact(hF w).mpr ⟨r,dU,hw⟩
 ·intro n d hd q;unfold AS at q;rw[tG]at q;have q1:=of_decide_eq_true q.1;have q2:=of_decide_eq_true q.2;obtain⟨g,hg,e⟩:=(hF _).mp q1;have:g=r:=by simpa using hg
  subst this;obtain⟨x,sg,b⟩:=d;exact n ⟨x,e,b,by rw[<-q2];exact hd⟩
theorem GW{K:Za}{σ:L2.St}{jt ja:Nat}{l4 f l:Addr}{ts:Ze}{F:Zb}{a:Str}{H1:Hp}{Q:Hp->Prop}(st:σ[jt]?=some (some (.ref f)))(sa:σ[ja]?=some (some (.str a)))
  (h4:H1 l4=some (.lst (ts.map V.ref))) (hd:cF H1 ts ds) (hf:H1 f=some (.lst (F.map V.str))) (z:ds.length<=1000) (hl:H1 l=none)
  (k:∀(us:Ze) (H':Hp),H' l=some (.lst (us.map V.ref))->cF H' us (ds.filter (AS F a))->ab H1 H'->Q H') :
  gG 1 [jt,ja] σ (G7 K l4) U0 (lC (aQ (aI (kM K false) (aI (oA K) V0 (tC (.int 0))) V1)) (aQ (aI (j5 K) (aI (oA K) V0 (tC (.int 1))) (bw (aO (tC (.str "ask")) V2))))) V0 H1 l Q:=by
 have cs:dY 1 [jt,ja] σ=[none,some (.ref f),some (.str a)]:=by simp[dY,st,sa]
 refine bZ (xs:=ts.map V.ref) (fun i vs H'=>∃us:List Addr,vs=us.map V.ref/\cF H' us ((ds.take i).filter (AS F a))/\ab H1 H'/\H' l=some (.lst vs))
  ⟨[],rfl,.nil,ab.new hl,aa⟩ (fun i vs H' _ ⟨_,_,_,S,h'⟩=>⟨h',az.of (S _ _ h4)⟩) ?_ ?_
 ·rintro vs H' ⟨us,rfl,D,S,h'⟩;rw[aj,Paired.length hd,aR]at D;exact k us H' h' D S
 ·rintro i vs H' y hy hi ⟨us,rfl,D,S,h'⟩;obtain⟨u,hu,rfl⟩:=cj hy;obtain⟨dr,hdr,hat⟩:=Paired.getL hd hu;obtain⟨sb,ht2,hs2⟩:=hat.kt (ab.kt S);have hi':i<ds.length:=(cu.mp hdr).1;have zu:us.length<=i:=by
   have:=Paired.length D;rw[this];refine bC (c8 _ _) ?_;rw[aG];omega
  rw[cs];refine gN ?_;refine⟨_,rfl,.inr (.inl ⟨u,_,0,_,rfl,rfl,br.of ht2,rfl,_,rfl,gW dr.a,F.map gW,f,_,js _,rfl,.inl (az.of (S _ _ hf)),my _,(by show 0<=8;decide),by rw[fF];decide,_,rfl,?_⟩)⟩;rw[if_neg fO,yN];by_cases c1:dr.a∈F;rotate_left
  ·rw[zzr0 c1];refine bR (bR (nA hi ⟨us,rfl,?_,S,h'⟩));rw[gD hdr,if_neg (by unfold AS;rw[zzr0 c1,CT];decide),dj];exact D
  rw[zzr1 c1];refine cR ?_;refine⟨_,rfl,.inr (.inl ⟨u,_,1,_,rfl,rfl,br.of ht2,rfl,_,rfl,(by show 2<=ai;decide),fun s hs=>?_⟩)⟩;have S2:ab H' (upd H' s (.tup ((c7 a).map V.str))):=ab.new hs;have e2:upd H' s (.tup ((c7 a).map V.str)) s=some (.tup ((c7 a).map V.str)):=aa;have e2':(.tup [.str "ask",.str a]:HO)=.tup ((c7 a).map V.str):=rfl;rw[e2'];generalize upd H' s (.tup ((c7 a).map V.str))=H2 at S2 e2 ⊢;have D2:=D.kt (ab.kt S2);refine⟨jr dr.sg,jr (c7 a),aW (br.of (S2 _ _ hs2)),aW (br.of e2),by rw[bA];decide,by rw[bA];decide,_,rfl,?_⟩;rw[eF];by_cases c2:dr.sg=c7 a;rotate_left
  ·rw[zzr0 c2];refine bR (nA hi ⟨us,rfl,?_,S.trans S2,S2 _ _ h'⟩);rw[gD hdr,if_neg (by unfold AS;rw[zzr0 c2,xG];decide),dj];exact D2
  rw[zzr1 c2];refine cR ?_;have S3:ab H1 (upd H2 l (.lst (us.map V.ref++[.ref u]))):=fun b o q=>by
   rw[ag (ae q hl)];exact S2 _ _ (S _ _ q)
  have kt:gM H2 (upd H2 l (.lst (us.map V.ref++[.ref u]))):=fun b xs q=>by
   rw[ag (fun z=>by rw[z,S2 _ _ h']at q;cases q)];exact q
  refine⟨_,rfl,S2 _ _ h',by rw[aj];exact ar (by omega),nA hi ⟨us++[u],by rw[ax];rfl,?_,S3,aa⟩⟩;rw[gD hdr,if_pos (by unfold AS;rw[zzr1 c1,zzr1 c2];rfl)];exact c_ (D2.kt kt) ⟨sb,kt _ _ (S2 _ _ ht2),kt _ _ (S2 _ _ hs2)⟩
theorem GI{K:Za}{H:Hp}{l q:Addr}{ts:Ze}{Q:VK}(hl:H l=some (.lst (ts.map V.ref)))(hd:cF H ts ds)(hq:H q=some (.lst []))(h:Q (.bl (decide (ds=[]))) H):j5 K (.ref l) (.ref q) H Q:=by
 refine⟨.s (ds.map uX),.s [],(by unfold mJ;exact⟨l,_,rfl,az.of hl,hd.dIns⟩),(by unfold mJ;exact⟨q,_,rfl,az.of hq,by unfold DIns;rfl⟩),?_,(by decide),?_⟩
 ·show DT.depths _+1<=8;have:=oG ds;omega
 ·rw[decide_eq_decide.mpr (show DT.s (ds.map uX)=DT.s []↔ds=[]from⟨fun z=>List.map_eq_nil_iff.mp (by injection z),fun z=>by rw[z];rfl⟩)];exact h
theorem Reach.unask{ds:List am}{d:am}(n:d.sg≠ao)(r:Reach (ds++[d]) a b):Reach ds a b:=by
 have key:∀{x y:Str},(⟨x,ao,y⟩:am)∈ds++[d]->(⟨x,ao,y⟩:am)∈ds:=fun q=>by
  rcases a_.mp q with q|q
  ·exact q
  ·have e:=aU.mp q;exact absurd (by rw[<-e]) n
 induction r with
 |one q=>exact .one (key q)
 |step _ q ih=>exact .step ih (key q)
theorem gS.mono{ds es:List am}(h:∀d∈ds,d∈es):gS ds r a->gS es r a:=fun⟨w,hw,b,hb⟩=>⟨w,hw.imp id (Reach.mono fun x y=>h _),b,h _ hb⟩
theorem mem_putD{x:am}:x∈mh ds d↔x∈ds∨x=d:=by
 unfold mh;split
 ·rename_i h;exact⟨.inl,fun z=>z.elim id fun e=>by rw[e];exact h⟩
 ·simp
theorem aL.putOne(m:aL J0 J1 J2 ds)(g:AZ J0 J1 J2 d)(n:d.sg≠ao)(z:ds.length+1<=1000):aL J0 J1 J2 (mh ds d):=by
 refine⟨m.okA,m.okS,m.apart,m.okR,m.asks0,m.says0,m.rooms0,m.asks4,m.says4,m.rooms26,?_,fun x hx=>?_,?_,fun r q=>?_⟩
 ·unfold mh;split
  ·exact m.nodup
  ·rename_i h;rw[cJ];exact⟨m.nodup,by simp,fun a ha b hb e=>h (by rw[<-aU.1 hb,<-e];exact ha)⟩
 ·rcases mem_putD.mp hx with h|h
  ·exact m.good x h
  ·rw[h];exact g
 ·have:=uv ds d;omega
 ·refine m.noround r ?_;unfold mh at q;split at q
  ·exact q
  ·exact q.unask n
theorem wW(a:Str):c7 a≠ao:=by unfold c7 ao;intro h;injection h with _ h;cases h
structure TX(H0:Hp)(p c l:Addr)(R:List am->Prop)(H:Hp):Prop where
 pen:g6 H p c
 ds:∃ts ds,H l=some (.lst (ts.map V.ref))/\cF H ts ds/\R ds
 ex:df p H0 H
 fr:H0 l=none
 pl:p≠l
 cl:c≠l
section
variable{H0 H H':Hp}{p c l:Addr}{R R':List am->Prop}
theorem TX.took(h:TX H0 p c l R H)(hp:g6 H' p c)(e:df p H H'):TX H0 p c l R H':=by
 obtain⟨ts,ds,h1,h2,h3⟩:=h.ds;obtain⟨xs,hx⟩:=h.pen.lst;exact⟨hp,⟨ts,ds,e _ _ h1 h.pl.symm,h2.kt (e.kt hx),h3⟩,h.ex.trans e,h.fr,h.pl,h.cl⟩
theorem TX.same(h:TX H0 p c l R H)(S:ab H H'):TX H0 p c l R H':=h.took (h.pen.ex S) (ab.exB S)
theorem TX.imp(h:TX H0 p c l R H)(q:∀ds,R ds->R' ds):TX H0 p c l R' H:=by
 obtain⟨ts,ds,h1,h2,h3⟩:=h.ds;exact⟨h.pen,⟨ts,ds,h1,h2,q _ h3⟩,h.ex,h.fr,h.pl,h.cl⟩
theorem TX.put{ts:Ze}{ds:List am}(h:TX H0 p c l R H)(hl:∃xs,H l=some (.lst xs))(hd:cF H ts ds)(r:R' ds):TX H0 p c l R' (upd H l (.lst (ts.map V.ref))):=by
 obtain⟨xs,hx⟩:=hl;refine⟨h.pen.upd h.pl h.cl,⟨ts,ds,aa,hd.kt fun b ys q=>?_,r⟩,fun b o q n=>?_,h.fr,h.pl,h.cl⟩
 ·rw[ag (fun z=>by rw[z,hx]at q;cases q)];exact q
 ·rw[ag (ae q h.fr)];exact h.ex _ _ q n
end
def WR(J0 J1 J2:Zb)(D:List (Str×Str))(n:Nat)(ds:List am):Prop:=aL J0 J1 J2 ds/\ds.length<=n/\∀x∈D,gS ds x.1 x.2
theorem WR.up{n':Nat}(h:WR J0 J1 J2 D n ds)(z:n<=n'):WR J0 J1 J2 D n' ds:=⟨h.1,bC h.2.1 z,h.2.2⟩
inductive kI (vs:List V)(H:Hp)(Q:VK)(E:XK):Prop
 |mk (p c t l1 l2 l3 l4:Addr) (ts:Ze) (J0 J1 J2:Zb) (ds:List am):(vs=[.ref p,.ref t])->(g6 H p c)->(iE H t l1 l2 l3 l4 ts J0 J1 J2 ds)->(aL J0 J1 J2 ds)->(J2.length<=26)->(ds.length<=800)->(∀(t' l4':Addr) (ts':Ze) (ds':List am) (H':Hp),iE H' t' l1 l2 l3 l4' ts' J0 J1 J2 ds'->aL J0 J1 J2 ds'->(∀r∈J2,∀a∈J0,gS ds' r a)->ds'.length<=ds.length+4 * J2.length->g6 H' p c->df p H H'->Q (.ref t') H')->kI  vs H Q E
theorem BD{K:Za}(h:kI vs H Q E):vy K kK fK (eK K) (bJ Q) (start v6 vs) H:=by
 obtain⟨p,c,t,l1,l2,l3,l4,ts,J0,J1,J2,ds,rfl,hp,T,m,z26,z8,k⟩:=h;have a4:=m.asks4;refine⟨_,rfl,t,_,rfl,br.of T.t,rfl,_,_,rfl,_,_,rfl,_,_,rfl,_,_,rfl,rfl,?_⟩;refine⟨_,rfl,.inl ⟨l4,_,rfl,.inl (az.of T.a4),fun f hf=>?_⟩⟩;have B0:TX H p c f (WR J0 J1 J2 [] ds.length) (upd H f (.lst (ts.map V.ref))):=⟨hp.ex (ab.new hf),⟨ts,ds,aa,T.ds.kt (ab.kt (ab.new hf)),m,aA _,by simp⟩,df.new hf,hf,hp.nep hf,hp.nec hf⟩;generalize upd H f (.lst (ts.map V.ref))=H1 at B0 ⊢;have keep:∀{H':Hp}{R:List am->Prop},TX H p c f R H'->H' l1=some (.lst (J0.map V.str))/\H' l2=some (.lst (J1.map V.str))/\H' l3=some (.lst (J2.map V.str)):=fun B =>
  ⟨B.ex _ _ T.a1 (hp.ne_strs T.a1),B.ex _ _ T.a2 (hp.ne_strs T.a2),B.ex _ _ T.a3 (hp.ne_strs T.a3)⟩
 refine⟨_,rfl,l3,rfl,⟨_,az.of (keep B0).2.2⟩,?_⟩;refine bP (xs:=J2.map V.str) (fun i σ H'=>Kz fun(a6 a7 a8 a9:Option V)=>σ=[some (.ref p),some (.ref t),some (.ref l1),some (.ref l2),some (.ref l3),some (.ref f),a6,a7,a8,a9]/\TX H p c f (WR J0 J1 J2 ((J2.take i).flatMap fun r=>J0.map fun a=>(r,a)) (ds.length+4 * i)) H')
  ⟨_,_,_,_,rfl,B0⟩ (fun i σ H' _ ⟨_,_,_,_,_,B⟩=>az.of (keep B).2.2) ?_ ?_
 ·rintro i v σ H2 hi ⟨a6,a7,a8,a9,rfl,B2⟩;obtain⟨r,hr,rfl⟩:=bm hi;have hir:i<J2.length:=(cu.mp hr).1;have hrm:=aZ hr;refine⟨_,rfl,l1,rfl,⟨_,az.of (keep B2).1⟩,?_⟩;refine bP (xs:=J0.map V.str) (fun j σ H'=>Jz fun(a7 a8 a9:Option V)=>σ=[some (.ref p),some (.ref t),some (.ref l1),some (.ref l2),some (.ref l3),some (.ref f),some (.str r),a7,a8,a9]/\TX H p c f (WR J0 J1 J2 ((J2.take i).flatMap (fun r=>J0.map fun a=>(r,a))++(J0.take j).map fun a=>(r,a)) (ds.length+4 * i+j)) H')
   ⟨_,_,_,rfl,B2.imp fun ds h=>by simpa using h⟩ (fun i σ H' _ ⟨_,_,_,_,B⟩=>az.of (keep B).1) ?_ ?_
  ·rintro j v σ H3 hj ⟨a7,a8,a9,rfl,B3⟩;obtain⟨a,ha,rfl⟩:=bm hj;have hja:j<J0.length:=(cu.mp ha).1;have ham:=aZ ha;have fin:∀es n,WR J0 J1 J2 ((J2.take i).flatMap (fun r=>J0.map fun a=>(r,a))++(J0.take j).map fun a=>(r,a)) n es->gS es r a->WR J0 J1 J2 ((J2.take i).flatMap (fun r=>J0.map fun a=>(r,a))++(J0.take (j+1)).map fun a=>(r,a)) n es:=fun es n w tk=>by
    refine⟨w.1,w.2.1,fun x hx=>?_⟩;rw[take_snoc ha,ax,<-c9]at hx;rcases a_.mp hx with h|h
    ·exact w.2.2 x h
    ·have:x=(r,a):=by simpa using h
     rw[this];exact tk
   refine⟨_,rfl,_,rfl,(by show 1<=ai;decide),fun q hq=>?_⟩;have B4:=B3.same (ab.new (o:=.lst [.str r]) hq);have q4:upd H3 q (.lst [.str r]) q=some (.lst [.str r]):=aa;generalize upd H3 q (.lst [.str r])=H4 at B4 q4 ⊢;obtain⟨us,es,g1,g2,g3⟩:=B4.ds;refine⟨f,q,us,es,[r],J2,rfl,g1,g2,q4,fun d hd=>(g3.1.good d hd).b,by omega,(by show 1<=1000;decide),fun th F H5 hth hF _ _ S5=>?_⟩;have B5:=B4.same S5;have f5:=S5 _ _ g1;have d5:=g2.kt (ab.kt S5);refine⟨_,rfl,f,rfl,⟨_,az.of f5⟩,fun l hl=>?_⟩;refine GW (K:=K) (jt:=8) (ja:=7) rfl rfl f5 d5 hth g3.1.few hl fun vs H6 h6 D6 S6=>⟨(by show 0<=ai;decide),fun e he=>?_⟩;refine GI (kp h6 he) (D6.kt (ab.kt (ab.new he))) aa ⟨_,rfl,?_⟩;have S7:ab H5 (upd H6 e (.lst [])):=S6.trans (ab.new he);generalize upd H6 e (.lst [])=H7 at S7 ⊢;have f7:=S7 _ _ f5;have d7:=d5.kt (ab.kt S7);have B7:TX H p c f (fun ds'=>ds'=es) H7:=by
    have B:=B5.same S7;exact⟨B.pen,⟨us,es,f7,d7,rfl⟩,B.ex,B.fr,B.pl,B.cl⟩
   cases q:takesB es r a with
   |true =>
    rw[zzr0 (fun z=>by rw[AR hF,q]at z;cases z)];exact bR ⟨_,_,_,rfl,B7.imp fun ds' e=>by rw[e];exact fin _ _ (g3.up (by omega)) (lS.mp q)⟩
   |false =>
    rw[zzr1 ((AR hF).mpr q)];refine cR ?_;have l37:=(keep B7).2.2;refine⟨_,rfl,_,rfl,_,rfl,_,rfl,.inl ⟨l3,_,rfl,.inl (az.of l37),?_⟩⟩;rw[aj];refine dX B7.pen (by omega) (by omega) fun x H8 x0 x1 hp8 ex8=>?_;obtain⟨n,rfl⟩:=jA x0;have B8:=B7.took hp8 ex8;obtain⟨w,hw⟩:∃w,J2[n]?=some w:=⟨_,b9 (by omega)⟩;refine⟨l3,_,(n:Int),.str w,rfl,rfl,az.of (keep B8).2.2,bH (j:=n) (by rw[bQ,hw];rfl),(by show 2<=ai;decide),fun u hu=>?_⟩;have B9:=B8.same (ab.new (o:=.lst [.str r,.str w]) hu);have u9:upd H8 u (.lst [.str r,.str w]) u=some (.lst ([r,w].map V.str)):=aa;generalize upd H8 u (.lst [.str r,.str w])=H9 at B9 u9 ⊢;refine⟨_,rfl,dX B9.pen (by decide) (by decide) fun y H10 y0 y1 hp10 ex10=>?_⟩;have B10:=B9.took hp10 ex10;obtain⟨g,hg,hgm⟩:∃g,qk ([r,w].map V.str) y=some (.str g)/\g∈J2:=by
     have:y=0∨y=1:=by omega
     rcases this with rfl|rfl
     ·exact⟨r,rfl,hrm⟩
     ·exact⟨w,rfl,aZ hw⟩
    refine⟨u,_,y,.str g,rfl,rfl,az.of (ex10 _ _ u9 (B9.pen.ne_strs u9)),hg,?_⟩;refine⟨_,rfl,_,rfl,_,rfl,(by show 2<=ai;decide),fun s hs=>⟨_,rfl,(by show 3<=ai;decide),fun d hd=>?_⟩⟩;have S12:ab H10 (upd (upd H10 s (.tup [.str "ask",.str a])) d (.tup [.str r,.ref s,.str g])):=(ab.new hs).trans (ab.new hd);have at12:g8 (upd (upd H10 s (.tup [.str "ask",.str a])) d (.tup [.str r,.ref s,.str g])) d ⟨r,c7 a,g⟩:=⟨s,aa,kp aa hd⟩;generalize upd (upd H10 s (.tup [.str "ask",.str a])) d (.tup [.str r,.ref s,.str g])=H12 at S12 at12 ⊢;have B12:=B10.same S12;obtain⟨us',es',k1,k2,rfl⟩:=id B12.ds;have zz:=g3.2.1;have good:AZ J0 J1 J2 ⟨r,c7 a,g⟩:=⟨hrm,hgm,.inl ⟨a,ham,rfl⟩⟩;refine⟨f,d,us',_,⟨r,c7 a,g⟩,rfl,k1,k2,at12,g3.1.few,fun us2 D2=>?_⟩;refine⟨_,_,_,rfl,B12.put ⟨_,k1⟩ D2 (fin _ _ ⟨g3.1.putOne good (wW a) (by omega),?_,fun x hx=>(g3.2.2 x hx).mono fun y hy=>mem_putD.mpr (.inl hy)⟩ ⟨r,.inl rfl,g,mem_putD.mpr (.inr rfl)⟩)⟩;have:=uv es' ⟨r,c7 a,g⟩;omega
  ·rintro σ H3 ⟨a7,a8,a9,rfl,B3⟩;refine⟨_,_,_,_,rfl,B3.imp fun es h=>?_⟩;rw[aj]at h;refine⟨h.1,by have:=h.2.1;omega,fun x hx=>h.2.2 x ?_⟩;rw[take_snoc hr,xa]at hx;rw[aR];simpa using hx
 ·rintro σ H2 ⟨a6,a7,a8,a9,rfl,B2⟩;rw[aj,aR]at B2;obtain⟨us,es,g1,g2,g3⟩:=B2.ds;obtain⟨q1,q2,q3⟩:=keep B2;refine⟨_,rfl,_,rfl,_,rfl,_,rfl,(by show 4<=ai;decide),fun t' ht'=>?_⟩;have S3:=ab.new (o:=.tup [.ref l1,.ref l2,.ref l3,.ref f]) ht';exact k t' f us es _ ⟨aa,S3 _ _ q1,S3 _ _ q2,S3 _ _ q3,S3 _ _ g1,g2.kt (ab.kt S3)⟩ g3.1 (fun r hr a ha=>g3.2.2 (r,a) (jz.mpr ⟨r,hr,aw.mpr ⟨a,ha,rfl⟩⟩)) g3.2.1 (B2.pen.ex S3) (B2.ex.trans (ab.exB S3))
def qK(K:Za)(C_Machine:Addr)(sp_Machine_asks:Sp)(sp_Machine_says:Sp)(a_HUSH:Addr):TS :=
 bc (aI sA (aI sA (c6 1 [] (bT K (cZ C_Machine "asks" sp_Machine_asks [] E0 V0 bh)) U0 (kG) (bw (aO (tC (.str "ask")) V0))) (c6 1 [] (bT K (cZ C_Machine "says" sp_Machine_says [] E0 V0 bh)) U0 (kG) (bw (aO (tC (.str "say")) V0)))) (dA (ay (tC (.ref a_HUSH)))))
def rm:List Str:=["M"]
def Bh(K:Za)(sp_signs_in_order:Sp)(sp_face_behind:Sp):TS :=
 ap (aP (jE) U2)
 (ap (dR (bT K (aM sp_signs_in_order (ay V0))) U3 (ap (aP (aM sp_face_behind (dW V0 V1 V3)) U4)
 (bS (aQ (aI Er (dB (eG K) (ay V4)) (tC (.int 0)))) (jF K V2 V3 V4) (bg))))
 (bc V2))
def Cv:List Str:=["M","face","steps","sign","behind"]
def ni(K:Za):TS :=
 ap (bS (tB (dk K V1 (gk K V0 "numbers"))) (ap (bS (aQ (aI zg (dB (eG K) (ay (gk K V0 "faces"))) (tC (.int 400)))) (t4) (bg))
 (ap (l_ (gk K V0 "numbers") V1 (dB (eG K) (ay (gk K V0 "faces"))))
 (ap (bV (vp K "list" cT (gk K V0 "faces") (ay V1)))
 (bV (vp K "list" cT (gk K V0 "first_stories") (ay V2)))))) (bg))
 (bc (gR K (gk K V0 "numbers") V1))
def nC:List Str:=["self","face","story"]
def jD(K:Za)(sp_steps_at:Sp)(C_FaceMap:Addr)(sp_FaceMap_number_at:Sp):TS :=
 ap (aP (jE) U2)
 (ap (dR (yG K (aM sp_steps_at (aO (gk K V0 "machine") (aI (cV K) (gk K V0 "faces") V1)))) (g0 K 2 (aY U3 (aY U4 (gP)))) (jF K V2 V3 (cZ C_FaceMap "number_at" sp_FaceMap_number_at [] E0 V0 (aO V4 (aI sA (aI (cV K) (gk K V0 "first_stories") V1) (dA (ay V3)))))))
 (bc V2))
def jL:List Str:=["self","number","steps","sign","face"]
def ol(K:Za)(C_FaceMap:Addr)(sp_FaceMap_numbered_steps:Sp)(sp_FaceMap_number_at:Sp)(cA:Sp):TS :=
 ap (pJ K V0 V1 "machine")
 (ap (pJ K V0 (dA (bh)) "faces")
 (ap (pJ K V0 (dA (bh)) "first_stories")
 (ap (pJ K V0 (jE) "numbers")
 (ap (pJ K V0 (dA (bh)) "steps")
 (ap (bV (cZ C_FaceMap "number_at" sp_FaceMap_number_at [] E0 V0 (aO (aM cA (ay V1)) (dA (bh)))))
 (om (aQ (aI Ep (dB (eG K) (ay (gk K V0 "steps"))) (dB (eG K) (ay (gk K V0 "faces"))))) (bV (vp K "list" cT (gk K V0 "steps") (au (cZ C_FaceMap "numbered_steps" sp_FaceMap_numbered_steps [] E0 V0 (ay (dB (eG K) (ay (gk K V0 "steps"))))) bh)))))))))
def oT:List Str:=["self","M"]
abbrev Sg:=List Str
def stepsF(J0 J1 J2:Zb)(ds:List am)(J6:Zb):List (Sg×List Str):=((bd J0 J1).map fun sg=>(sg,behF J2 ds J6 sg)).filter fun p=>decide (p.2≠[])
structure km where
 fs:List (List Str)
 ss:List (List Sg)
def km.add(m:km)(f:Zb)(s:List Sg):km:=if f∈m.fs then m else⟨m.fs++[f],m.ss++[s]⟩
def Dm(s:List Sg)(q:km×List (Sg×Nat))(p:Sg×List Str):km×List (Sg×Nat):=(q.1.add p.2 (s++[p.1]),q.2++[(p.1,(q.1.add p.2 (s++[p.1])).fs.idxOf p.2)])
def eM(s:List Sg)(m:km)(L:List (Sg×List Str)):km×List (Sg×Nat):=L.foldl (Dm s) (m,[])
abbrev vh:=km×List (List (Sg×Nat))
def initF(J2:Zb)(ds:List am):vh:=((⟨[],[]⟩:km).add (closF J2 ds (J2.take 1)) [],[])
def nextF(J0 J1 J2:Zb)(ds:List am)(S:vh):vh :=
 ((eM (S.1.ss.getD S.2.length []) S.1 (stepsF J0 J1 J2 ds (S.1.fs.getD S.2.length []))).1,S.2++[(eM (S.1.ss.getD S.2.length []) S.1 (stepsF J0 J1 J2 ds (S.1.fs.getD S.2.length []))).2])
def itF(J0 J1 J2:Zb)(ds:List am):Nat->vh
 |0=>initF J2 ds
 |k+1=>nextF J0 J1 J2 ds (itF J0 J1 J2 ds k)
def nH:List Str->List (List Str)
 |[]=>[[]]
 |r::rs=>(nH rs).map (r::·)++nH rs
theorem qT:∀rs:List Str,(nH rs).length=2 ^ rs.length
 |[]=>rfl
 |r::rs=>by
  show((nH rs).map (r::·)++nH rs).length=2 ^ (rs.length+1);rw[aK,aj,qT rs,Nat.pow_succ];omega
theorem qS(p:Str->Bool):∀rs:List Str,rs.filter p∈nH rs
 |[]=>by show[]∈[[]];simp
 |r::rs=>by
  show(r::rs).filter p∈(nH rs).map (r::·)++nH rs;have ih:=qS p rs;rw[xb];split
  ·exact cf _ (kz ih)
  ·exact cC _ ih
theorem ka{α:Type}[DecidableEq α]:∀{L R:List α},L.Nodup->(∀y∈L,y∈R)->L.length<=R.length
 |[],_,_,_=>cX _
 |x::L,R,h,hs=>by
  rw[io]at h;have hx:x∈R:=hs x dU;have h1:∀y∈L,y∈R.erase x:=fun y hy=>(List.mem_erase_of_ne (fun e=>h.1 (by rw[<-e];exact hy))).2 (hs y (eI _ hy));have h2:=ka h.2 h1;rw[List.length_erase_of_mem hx]at h2;have h3:0<R.length:=List.length_pos_of_mem hx;rw[dS];omega
def qg(J2 f:Zb):Prop:=∃p:Str->Bool,f=J2.filter p
theorem Ig(h:qg J2 f):qg J2 (behF J2 ds f sg):=by
 classical
 unfold behF;split
 ·obtain⟨p,rfl⟩:=h;rw[List.filter_filter];exact⟨_,rfl⟩
 ·unfold closF;exact⟨_,rfl⟩
theorem EG{gs:Zb}:qg J2 (closF J2 ds gs):=by
 classical
 unfold closF;exact⟨_,rfl⟩
theorem qg.sub(h:qg J2 f):∀r∈f,r∈J2:=by
 obtain⟨p,rfl⟩:=h;exact fun r hr=>(bD.1 hr).1
theorem qg.len(h:qg J2 f):f.length<=J2.length:=by
 obtain⟨p,rfl⟩:=h;exact c8 _ _
structure Good(J2:Zb)(m:km):Prop where
 nd:m.fs.Nodup
 len:m.ss.length=m.fs.length
 isF:∀f∈m.fs,qg J2 f
 sl:∀(i:Nat) (s:List Sg),m.ss[i]?=some s->s.length<=i
theorem Good.few(g:Good J2 m)(hr:J2.length<=8):m.fs.length<=256:=by
 have h:=ka g.nd (R:=nH J2) (fun f hf=>by obtain⟨p,rfl⟩:=g.isF f hf;exact qS p J2);rw[qT]at h;have:2 ^ J2.length<=2 ^ 8:=w_ (by decide) hr;omega
theorem km.add_in{m:km}{f:Zb}{s:List Sg}(h:f∈m.fs):m.add f s=m:=if_pos h
theorem km.add_new{m:km}{f:Zb}{s:List Sg}(h:¬f∈m.fs):m.add f s=⟨m.fs++[f],m.ss++[s]⟩:=if_neg h
theorem Good.add{s:List Sg}(g:Good J2 m)(h:qg J2 f)(hs:s.length<=m.fs.length):Good J2 (m.add f s):=by
 by_cases c:f∈m.fs
 ·rw[km.add_in c];exact g
 ·rw[km.add_new c];refine⟨?_,?_,?_,?_⟩;rotate_left 3
  ·intro i s' e
   change (m.ss++[s])[i]?=some s' at e
   rcases iR i m.ss.length with z|z
   ·rw[fk z]at e;exact g.sl i s' e
   ·rw[n6 z]at e;have h0:i-m.ss.length=0:=by
     rcases w8 (i-m.ss.length)with q|q
     ·exact q
     ·rw[fS (by show 1<=_;omega)]at e;cases e
    rw[h0]at e;injection e with e;rw[<-e];have:=g.len;omega
  ·rw[cJ];exact⟨g.nd,by simp,fun x hx y hy e=>c (by rw[aU.1 hy]at e;rw[<-e];exact hx)⟩
  ·show(m.ss++[s]).length=(m.fs++[f]).length;rw[aK,aK,g.len];rfl
  ·intro x hx;rcases a_.1 hx with hx|hx
   ·exact g.isF x hx
   ·rw[aU.1 hx];exact h
theorem Iu{m:km}{f:Zb}{s:List Sg}:f∈(m.add f s).fs:=by
 by_cases c:f∈m.fs
 ·rw[km.add_in c];exact c
 ·rw[km.add_new c];simp
def qh(m m':km):Prop:=(∃r,m'.fs=m.fs++r)/\∃r,m'.ss=m.ss++r
theorem qh.refl(m:km):qh m m:=⟨⟨[],(dj _).symm⟩,⟨[],(dj _).symm⟩⟩
theorem qh.trans(h:qh a b)(k:qh b c):qh a c:=by
 obtain⟨⟨r,e⟩,⟨s,f⟩⟩:=h;obtain⟨⟨r',e'⟩,⟨s',f'⟩⟩:=k;exact⟨⟨r++r',by rw[e',e,c9]⟩,⟨s++s',by rw[f',f,c9]⟩⟩
theorem AD{f:Zb}{s:List Sg}:qh m (m.add f s):=by
 by_cases c:f∈m.fs
 ·rw[km.add_in c];exact .refl _
 ·rw[km.add_new c];exact⟨⟨[f],rfl⟩,⟨[s],rfl⟩⟩
theorem j_(s:List Sg)(m:km)(L:List (Sg×List Str))(p:Sg×List Str):eM s m (L++[p])=Dm s (eM s m L) p:=by
 unfold eM;rw[ky];rfl
theorem qh.at(h:qh m m'){i:Nat}{f:Zb}(e:m.fs[i]?=some f):m'.fs[i]?=some f:=by
 obtain⟨⟨r,q⟩,_⟩:=h;rw[q,fk (by rcases iR i m.fs.length with z|z;exact z;rw[fS z]at e;cases e),e]
theorem wB{s:List Sg}(g:Good J2 m)(hs:s.length<m.fs.length)(L:List (Sg×List Str))(hL:∀p∈L,qg J2 p.2):
  Good J2 (eM s m L).1/\qh m (eM s m L).1/\Paired (fun(a:Sg×Nat) (p:Sg×List Str)=>a.1=p.1/\(eM s m L).1.fs[a.2]?=some p.2) (eM s m L).2 L:=by
 have key:∀n,n<=L.length->Good J2 (eM s m (L.take n)).1/\qh m (eM s m (L.take n)).1/\Paired (fun(a:Sg×Nat) (p:Sg×List Str)=>a.1=p.1/\(eM s m (L.take n)).1.fs[a.2]?=some p.2) (eM s m (L.take n)).2 (L.take n):=by
  intro n
  induction n with
  |zero=>intro _;exact⟨g,.refl _,.nil⟩
  |succ n ih =>
   intro hn;obtain⟨h1,h2,h3⟩:=ih (by omega);have hp:L[n]?=some L[n]:=b9 (by omega);rw[take_snoc hp,j_];have hf:=hL L[n] (lK _);have hl:m.fs.length<=(eM s m (L.take n)).1.fs.length:=by
    obtain⟨⟨r,q⟩,_⟩:=h2;rw[q,aK];omega
   refine⟨h1.add hf (by rw[aK];show _+1<=_;omega),h2.trans AD,?_⟩;refine c_ (Paired.mapP h3 fun a p r=>⟨r.1,AD.at r.2⟩) ⟨rfl,?_⟩;show(km.add _ _ _).fs[(km.add _ _ _).fs.idxOf L[n].2]?=some L[n].2;have hm:=Iu (m:=(eM s m (L.take n)).1) (f:=L[n].2) (s:=s++[L[n].1]);have hi:=List.idxOf_lt_length_of_mem hm;rw[b9 hi,List.getElem_idxOf]
 have:=key L.length (aA _);rw[aR]at this;exact this
structure mH(J0 J1 J2:Zb)(ds:List am)(S:vh):Prop where
 good:Good J2 S.1
 le:S.2.length<=S.1.fs.length
 zero:S.1.fs[0]?=some (closF J2 ds (J2.take 1))
 st:∀(i:Nat) (l:List (Sg×Nat)),S.2[i]?=some l->∃f,S.1.fs[i]?=some f/\Paired (fun(a:Sg×Nat) (p:Sg×List Str)=>a.1=p.1/\S.1.fs[a.2]?=some p.2) l (stepsF J0 J1 J2 ds f)
theorem ue(h:qg J2 f):∀p∈stepsF J0 J1 J2 ds f,qg J2 p.2:=by
 intro p hp;obtain⟨sg,_,rfl⟩:=aw.1 (bD.1 hp).1;exact Ig h
theorem EM:mH J0 J1 J2 ds (initF J2 ds):=by
 have e:(⟨[],[]⟩:km).add (closF J2 ds (J2.take 1)) []=⟨[closF J2 ds (J2.take 1)],[[]]⟩:=km.add_new (by simp);refine⟨?_,cX _,?_,fun i l h=>?_⟩
 ·exact Good.add (m:=⟨[],[]⟩) ⟨nU,rfl,(fun f hf=>nomatch hf),(fun i s (e:([]:List (List Sg))[i]?=some s)=>by rw[List.getElem?_nil]at e;cases e)⟩ EG (cX _)
 ·show((⟨[],[]⟩:km).add _ _).fs[0]?=_;rw[e];rfl
 ·simp[initF]at h
theorem EL(h:mH J0 J1 J2 ds S)(lt:S.2.length<S.1.fs.length):mH J0 J1 J2 ds (nextF J0 J1 J2 ds S):=by
 have e0:S.1.fs[S.2.length]?=some S.1.fs[S.2.length]:=by simp[lt]
 have hd:S.1.fs.getD S.2.length []=S.1.fs[S.2.length]:=by simp[lt]
 have hF:=h.good.isF S.1.fs[S.2.length] (lK _);obtain⟨g,gr,pr⟩:=wB (s:=S.1.ss.getD S.2.length []) h.good (by
  have l2:S.2.length<S.1.ss.length:=by rw[h.good.len];exact lt
  have e:S.1.ss[S.2.length]?=some (S.1.ss[S.2.length]'l2):=b9 l2;have:=h.good.sl _ _ e;rw[eJ,e];show(S.1.ss[S.2.length]'l2).length<_;omega) (stepsF J0 J1 J2 ds S.1.fs[S.2.length]) (ue hF)
 unfold nextF;rw[hd];generalize eM (S.1.ss.getD S.2.length []) S.1 (stepsF J0 J1 J2 ds S.1.fs[S.2.length])=q at g gr pr;refine⟨g,?_,gr.at h.zero,fun i l hl=>?_⟩
 ·obtain⟨⟨r,e⟩,_⟩:=gr;show(S.2++[q.2]).length<=q.1.fs.length;rw[e,aK,aK];show S.2.length+1<=_;omega
 ·change (S.2++[q.2])[i]?=some l at hl
  rcases Nat.lt_trichotomy i S.2.length with c|c|c
  ·rw[fk c]at hl;obtain⟨f,e,p⟩:=h.st i l hl;exact⟨f,gr.at e,Paired.mapP p fun a p r=>⟨r.1,gr.at r.2⟩⟩
  ·subst c;rw[n6 (aA _),Nat.sub_self]at hl;injection hl with hl;subst hl;exact⟨S.1.fs[S.2.length],gr.at e0,pr⟩
  ·rw[n6 (fb c)]at hl;obtain⟨k,hk⟩:=Nat.exists_eq_succ_of_ne_zero (show i-S.2.length≠0 by omega);rw[hk]at hl;cases hl
def Ix(hu:Addr)(H:Hp)(u:Addr)(sg:Zb):Prop:=H u=some (.tup (sg.map V.str))∨(u=hu/\sg=aV)
theorem Ix.same(h:Ix hu H u sg)(S:ab H H'):Ix hu H' u sg:=h.imp (S _ _) id
theorem C2{K:Za}(h:∀H,br K H a xs)(H:Hp):aS K H a xs:=by
 rcases h (fun _=>none)with(h|⟨o,h⟩)|h
 ·cases h
 ·cases h
 ·exact .inr h
section
variable{K:Za}{hu:Addr}(hh:∀H,br K H hu (aV.map V.str))
include hh
theorem Ix.tup(h:Ix hu H u sg):aS K H u (sg.map V.str):=by
 rcases h with h|⟨rfl,rfl⟩
 ·exact .inl h
 ·exact C2 hh H
theorem Ix.sq(h:Ix hu H u sg):br K H u (sg.map V.str):=by
 rcases h with h|⟨rfl,rfl⟩
 ·exact br.of h
 ·exact hh H
end
inductive yf(C hu:Addr)(vs:List V)(H:Hp)(Q:VK)(E:XK):Prop
 |mk (x:Addr) (J0 J1 J2:Zb) (ds:List am):(vs=[.ref x])->(bv C H x J0 J1 J2 ds)->(∀(l:Addr) (us:Ze) (H':Hp),H' l=some (.lst (us.map V.ref))->Paired (Ix hu H') us (bd J0 J1)->ab H H'->Q (.ref l) H')->yf C hu vs H Q E
theorem Je{K:Za}(h:yf C hu vs H Q E):qK K C (mS C) (pA C) hu (bJ Q) (start rm vs) H:=by
 obtain⟨x,J0,J1,J2,ds,rfl,M,k⟩:=h;have z1:=M.ok.asks4;have z2:=M.ok.says4;obtain⟨dx,fs,o1,o2,lv,lps,g1,a1,a2,_⟩:=oy M;refine⟨_,rfl,x,dx,fs,rfl,g1,a1,x,J0,J1,J2,ds,rfl,M,fun w1 hw1=>⟨w1,rfl,⟨_,az.of aa⟩,fun la hla=>?_⟩⟩;have S0:ab H (upd H w1 (.lst (J0.map V.str))):=ab.new hw1;refine uZ (kd:="ask") (ws:=J0) aa (by omega) hla fun ua H1 h1 hP1 S1=>?_;have M1:=M.same (S0.trans S1);obtain⟨dx,fs,o1,o2,lv,lps,g1,a1,a2,_⟩:=oy M1;refine⟨_,rfl,x,dx,fs,rfl,g1,a2,x,J0,J1,J2,ds,rfl,M1,fun w2 hw2=>⟨w2,rfl,⟨_,az.of aa⟩,fun ls hls=>?_⟩⟩;have S2:ab H1 (upd H1 w2 (.lst (J1.map V.str))):=ab.new hw2;refine uZ (kd:="say") (ws:=J1) aa (by omega) hls fun us H2 h2 hP2 S3=>?_;have S23:=S2.trans S3;have h12:=S23 _ _ h1;have hP12:=yX.kt (ab.kt S23) hP1;refine⟨la,ls,_,_,rfl,rfl,h12,h2,?_,fun c1 hc1=>?_⟩
 ·rw[aj,aj,Paired.length hP1,Paired.length hP2,aj,aj];exact fb (ar (by omega))
 refine⟨(by show 1<=ai;decide),fun hl hhl=>?_⟩;refine⟨c1,hl,_,_,rfl,rfl,kp aa hhl,aa,?_,fun r hr=>?_⟩
 ·rw[aK,aj,aj,Paired.length hP1,Paired.length hP2,aj,aj];exact fb (ar (by show _+1<=1000;omega))
 have S4:=((ab.new (o:=.lst (ua.map V.ref++us.map V.ref)) hc1).trans (ab.new (o:=.lst [.ref hu]) hhl)).trans (ab.new (o:=.lst (ua.map V.ref++us.map V.ref++[.ref hu])) hr);refine k r (ua++us++[hu]) _ ?_ ?_ (((S0.trans S1).trans S23).trans S4)
 ·rw[aa,ax,ax];rfl
 ·exact Paired.app (Paired.app (Paired.mapP (yX.kt (ab.kt S4) hP12) fun _ _ r=>.inl r) (Paired.mapP (yX.kt (ab.kt S4) hP2) fun _ _ r=>.inl r)) (.cons (.inr ⟨rfl,rfl⟩) .nil)
theorem mr(m:aL J0 J1 J2 ds):(bd J0 J1).Nodup:=by
 unfold bd;have i1:∀a b:Str,c7 a=c7 b->a=b:=fun a b h=>by unfold c7 at h;injection h with _ h;injection h
 have i2:∀a b:Str,l9 a=l9 b->a=b:=fun a b h=>by unfold l9 at h;injection h with _ h;injection h
 have nd:∀{f:Str->List Str}{l:Zb},(∀a b,f a=f b->a=b)->l.Nodup->(l.map f).Nodup:=by
  intro f l hf hl;rw[qr,List.pairwise_map];exact(qr.1 hl).imp fun h e=>h (hf _ _ e)
 rw[cJ,cJ];refine⟨⟨nd i1 m.okA.1,nd i2 m.okS.1,?_⟩,by simp,?_⟩
 ·intro x hx y hy e;obtain⟨a,_,rfl⟩:=aw.1 hx;obtain⟨b,_,rfl⟩:=aw.1 hy;unfold c7 l9 at e;injection e with e _;exact absurd e (by decide)
 ·intro x hx y hy e;rw[aU.1 hy]at e;rcases a_.1 hx with hx|hx
  ·obtain⟨a,_,rfl⟩:=aw.1 hx;unfold c7 aV at e;injection e with _ e;cases e
  ·obtain⟨a,_,rfl⟩:=aw.1 hx;unfold l9 aV at e;injection e with _ e;cases e
abbrev lG(H:Hp)(kvs:List (TK×V))(L:List (Sg×List Str)):Prop:=Paired (fun(kv:TK×V) (p:Sg×List Str)=>kv.1=fB p.1/\∃u,kv.2=.ref u/\H u=some (.tup (p.2.map V.str))) kvs L
theorem xN{κ:Type}[DecidableEq κ]{kvs:List (κ×V)}{k:κ}(h:∀kv∈kvs,kv.1≠k):bq kvs k=none:=by
 unfold bq;rw[List.find?_eq_none.2 fun kv hkv=>by simpa using h kv hkv]
 rfl
theorem cO(sg:Zb):(fB sg).depth<=8:=by
 have:∀l:List Str,TK.depths (l.map mV)=0:=by
  intro l
  induction l with
  |nil=>rfl
  |cons a l ih=>show max (TK.depth (mV a)) (TK.depths _)=0;rw[ih];rfl
 show TK.depths (sg.map mV)+1<=8;rw[this];decide
def stG(J2:Zb)(ds:List am)(J6:Zb)(L:List (List Str)):List (Sg×List Str):=(L.map fun sg=>(sg,behF J2 ds J6 sg)).filter fun p=>decide (p.2≠[])
theorem zX(J2:Zb)(ds:List am)(J6:Zb)(L:List (List Str))(sg:Zb):stG J2 ds J6 (L++[sg])=stG J2 ds J6 L++if behF J2 ds J6 sg=[]then[]else[(sg,behF J2 ds J6 sg)]:=by
 unfold stG;rw[ax,nQ];congr 1;by_cases c:behF J2 ds J6 sg=[]
 ·rw[if_pos c];simp[c]
 ·rw[if_neg c];simp[c]
theorem Ho{p:Sg×List Str}(h:p∈stG J2 ds J6 L):p.1∈L:=by
 obtain⟨sg,hs,rfl⟩:=aw.1 (bD.1 h).1;exact hs
theorem C5:(stG J2 ds J6 L).length<=L.length:=by
 unfold stG;exact bC (c8 _ _) (by rw[aj];exact aA _)
theorem lG.kt(k:gM H H')(h:lG H kvs L):lG H' kvs L:=Paired.mapP h fun _ _ ⟨e,u,e2,r⟩=>⟨e,u,e2,k _ _ r⟩
theorem lG.no(h:lG H kvs L){sg:Sg}(n:∀p∈L,p.1≠sg):bq kvs (fB sg)=none:=by
 refine xN ?_
 induction h with
 |nil=>intro kv hk;exact nomatch hk
 |@cons a b as bs r t ih =>
  intro kv hk;rcases cH.1 hk with rfl|hk
  ·rw[r.1];exact fun e=>n b dU (iC e)
  ·exact ih (fun p hp=>n p (eI _ hp)) kv hk
theorem kS{α:Type}{L:List α}(nd:L.Nodup){i:Nat}{x:α}(e:L[i]?=some x):¬x∈L.take i:=by
 intro h;obtain⟨j,hj,ej⟩:=w6 h;rw[aG]at hj;have hi:i<L.length:=by rcases iR i L.length with z|z;exact z;rw[fS z]at e;cases e
 rw[List.getElem_take]at ej;rw[b9 hi]at e;injection e with e;exact List.pairwise_iff_getElem.1 (qr.1 nd) j i (by omega) hi (by omega) (ej.trans e.symm)
theorem A6{H:Hp}{d:Addr}{kvs:List (TK×V)}{o:HO}(h:H d=some (.dT kvs)):gM H (upd H d o):=fun b xs e=>by rw[ag (fun z=>by rw[z,h]at e;cases e)];exact e
theorem nK{b:Bool}{P X Y:Prop}(h:b=true↔P)(h1:P->X)(h2:¬P->Y):if b=true then X else Y:=by
 cases b with
 |true=>exact h1 (h.1 rfl)
 |false=>exact h2 fun z=>by cases h.2 z
inductive kJ(C:Addr)(vs:List V)(H:Hp)(Q:VK)(E:XK):Prop
 |mk (x t:Addr) (J6 J0 J1 J2:Zb) (ds:List am):(vs=[.ref x,.ref t])->(bv C H x J0 J1 J2 ds)->(H t=some (.tup (J6.map V.str)))->((∀r∈J6,r∈J2))->(J6.length<=1000)->(∀(d:Addr) (kvs:List (TK×V)) (H':Hp),H' d=some (.dT kvs)->lG H' kvs (stepsF J0 J1 J2 ds J6)->H d=none->ab H H'->Q (.ref d) H')->kJ C vs H Q E
def pR:Nat->List (List Str)->List (TK×V)
 |_,[]=>[]
 |n,f::r=>(fB f,.int (n:Nat))::pR (n+1) r
theorem wC(f:Zb):∀(fs:List (List Str)) (n:Nat),pR n (fs++[f])=pR n fs++[(fB f,.int ((n+fs.length:Nat)))]
 |[],n=>rfl
 |x::r,n=>by
  show _::pR (n+1) (r++[f])=_::(pR (n+1) r++_);rw[wC f r (n+1),dS,show n+1+r.length=n+(r.length+1) by omega]
theorem Ao:∀(fs:List (List Str)) (n:Nat),(pR n fs).length=fs.length
 |[],n=>rfl
 |x::r,n=>by show _+1=_+1;rw[Ao r (n+1)]
theorem ml(f:Zb):∀(fs:List (List Str)) (n:Nat),bq (pR n fs) (fB f)=if f∈fs then some (.int ((n+fs.idxOf f:Nat)))else none
 |[],n=>rfl
 |x::r,n=>by
  by_cases c:x=f
  ·subst c;rw[if_pos dU];show bq ((fB x,_)::_) _=_;rw[cz rfl];rw[List.idxOf_cons_self];rfl
  ·show bq ((fB x,_)::_) _=_;rw[bY (fun e=>c (iC e)),ml f r (n+1)];by_cases d:f∈r
   ·rw[if_pos d,if_pos (eI _ d)];have e:(x::r).idxOf f=r.idxOf f+1:=by rw[List.idxOf_cons,show(x==f)=false from beq_false_of_ne c];rfl
    rw[e,show n+1+r.idxOf f=n+(r.idxOf f+1) by omega]
   ·rw[if_neg d,if_neg (by simp[dE c,d])]
abbrev ju(K:Za)(H:Hp)(w:Addr)(s:List Sg):Prop:=∃gs:List Addr,H w=some (.lst (gs.map V.ref))/\Paired (fun g (sg:Sg)=>aS K H g (sg.map V.str)) gs s
structure FC(K:Za)(C:Addr):Prop where
 cls:DP K C
 a1:d_ K C "machine"
 a2:d_ K C "faces"
 a3:d_ K C "first_stories"
 a4:d_ K C "numbers"
 a5:d_ K C "steps"
def Kh(C:Addr)(H:Hp)(x M fa sa na ta:Addr):Prop:=∃(dx:Addr) (fs:List (Str×V)),H x=some (.ins C dx fs)/\lk "machine" fs=some (.ref M)/\lk "faces" fs=some (.ref fa)/\lk "first_stories" fs=some (.ref sa)/\lk "numbers" fs=some (.ref na)/\lk "steps" fs=some (.ref ta)/\lk "number_at" fs=none/\lk "numbered_steps" fs=none
structure ij(K:Za)(C:Addr)(H:Hp)(x M fa sa na ta:Addr)(us ws:Ze)(m:km):Prop where
 ob:Kh C H x M fa sa na ta
 hfa:H fa=some (.lst (us.map V.ref))
 faces:Paired (fun u (f:Zb)=>H u=some (.tup (f.map V.str))) us m.fs
 hsa:H sa=some (.lst (ws.map V.ref))
 stories:Paired (fun w s=>(w≠fa/\w≠sa/\w≠ta)/\ju K H w s) ws m.ss
 hna:H na=some (.dT (pR 0 m.fs))
 ne:fa≠sa/\fa≠ta/\sa≠ta
theorem aS.kt{K:Za}(k:gM H H')(h:aS K H a xs):aS K H' a xs:=h.keeps k
theorem ju.kt{K:Za}{w:Addr}(k:gM H H')(e:∀o,H w=some o->H' w=some o)(h:ju K H w s):ju K H' w s:=by
 obtain⟨gs,h1,h2⟩:=h;exact⟨gs,e _ h1,Paired.mapP h2 fun _ _ r=>aS.kt k r⟩
def JE(fa sa na:Addr)(H H':Hp):Prop:=∀b o,H b=some o->b≠fa->b≠sa->b≠na->H' b=some o
theorem JE.refl(fa sa na:Addr)(H:Hp):JE fa sa na H H:=fun _ _ e _ _ _=>e
theorem ij.same{K:Za}(h:ij K C H x M fa sa na ta us ws m)(S:ab H H'):ij K C H' x M fa sa na ta us ws m:=by
 obtain⟨⟨dx,fs,g,r⟩,h1,h2,h3,h4,h5,h6⟩:=h;exact⟨⟨dx,fs,S _ _ g,r⟩,S _ _ h1,Paired.mapP h2 fun _ _ r=>S _ _ r,S _ _ h3,Paired.mapP h4 fun _ _ r=>⟨r.1,r.2.kt (ab.kt S) fun o e=>S _ _ e⟩,S _ _ h5,h6⟩
theorem ij.move{K:Za}{d:Addr}{o:HO}{kvs:List (TK×V)}(h:ij K C H x M fa sa na ta us ws m)(hd:H d=some (.dT kvs))(n:d≠na):ij K C (upd H d o) x M fa sa na ta us ws m:=by
 have k:gM H (upd H d o):=A6 hd;obtain⟨⟨dx,fs,g,r⟩,h1,h2,h3,h4,h5,h6⟩:=h;refine⟨⟨dx,fs,by rw[ag (fun z=>by rw[z,hd]at g;cases g)];exact g,r⟩,by rw[ag (fun z=>by rw[z,hd]at h1;cases h1)];exact h1,Paired.mapP h2 fun _ _ r=>k _ _ r,by rw[ag (fun z=>by rw[z,hd]at h3;cases h3)];exact h3,Paired.mapP h4 fun w s r=>⟨r.1,?_⟩,by rw[ag n.symm];exact h5,h6⟩;obtain⟨gs,g1,g2⟩:=r.2;exact⟨gs,by rw[ag (fun z=>by rw[z,hd]at g1;cases g1)];exact g1,Paired.mapP g2 fun _ _ r=>aS.kt k r⟩
inductive lW(K:Za)(C:Addr)(vs:List V)(H:Hp)(Q:VK)(E:XK):Prop
 |mk (x M fa sa na ta u st:Addr) (us ws:Ze) (m:km) (J6:Zb) (story:List Sg):(vs=[.ref x,.ref u,.ref st])->(ij K C H x M fa sa na ta us ws m)->(H u=some (.tup (J6.map V.str)))->(ju K H st story)->((st≠fa/\st≠sa/\st≠ta))->(m.fs.length<400)->(m.ss.length<400)->(∀(us' ws':Ze) (H':Hp),ij K C H' x M fa sa na ta us' ws' (m.add J6 story)->JE fa sa na H H'->Q (.int (((m.add J6 story).fs.idxOf J6:Nat))) H')->lW K C vs H Q E
theorem FH{K:Za}(c:FC K C)(h:lW K C vs H Q E):ni K (bJ Q) (start nC vs) H:=by
 obtain⟨x,M,fa,sa,na,ta,u,st,us,ws,m,J6,story,rfl,F,hu,hst,ns,z1,z2,k⟩:=h;obtain⟨dx,fs,g,l1,l2,l3,l4,l5,l6,l7⟩:=F.ob;have tk:je K H (fB J6) (.ref u):=cW.isIn 8 (cO J6) (SignAt.tk hu);have g1:ir K H na (.ref u) (bq (pR 0 m.fs) (fB J6)):=.inr ⟨_,_,_,.inl F.hna,rfl,tk,cO J6,rfl⟩;refine⟨_,rfl,_,rfl,x,C,dx,fs,.ref na,rfl,g,c.cls,c.a4,l4,na,_,rfl,g1,_,rfl,?_⟩;rw[ml];refine nK (P:=¬J6∈m.fs) (by by_cases c:J6∈m.fs<;>simp[c]) (fun nin=>?_) (fun nin=>?_);rotate_left
 ·have hin:=kr.1 nin;have e:=km.add_in (s:=story) hin;refine⟨_,rfl,x,C,dx,fs,.ref na,rfl,g,c.cls,c.a4,l4,_,rfl,na,.int ((m.fs.idxOf J6:Nat)),rfl,?_,?_⟩
  ·rw[ml,if_pos hin,wZ]at g1;exact g1
  ·have:=k us ws H (by rw[e];exact F) (.refl _ _ _ _);rw[e]at this;exact this
 have e:=km.add_new (s:=story) nin;have zl:(us.map V.ref).length=m.fs.length:=by rw[aj,Paired.length F.faces]
 have zs:(ws.map V.ref).length=m.ss.length:=by rw[aj,Paired.length F.stories]
 refine⟨_,rfl,x,C,dx,fs,.ref fa,rfl,g,c.cls,c.a2,l2,.inl ⟨fa,_,rfl,.inl (az.of F.hfa),rfl,_,rfl,?_⟩⟩;refine nK (P:=False) (by rw[zl];simp;omega) (fun z=>z.elim) fun _=>?_;have tka:cW H (fB J6) (.ref u):=SignAt.tk hu;refine⟨_,rfl,x,C,dx,fs,.ref fa,rfl,g,c.cls,c.a2,l2,.inl ⟨fa,_,rfl,.inl (az.of F.hfa),_,rfl,x,C,dx,fs,.ref na,rfl,g,c.cls,c.a4,l4,_,rfl,na,_,rfl,.inr ⟨_,_,u,F.hna,rfl,tka,cO J6,?_,rfl⟩,?_⟩⟩
 ·rw[Ao];exact ar (by omega)
 rw[dq _ (by rw[ml,if_neg nin]),zl];have e1:pR 0 m.fs++[(fB J6,V.int (m.fs.length:Nat))]=pR 0 (m.fs++[J6]):=by rw[wC,wZ]
 rw[e1];have kna:gM H (upd H na (.dT (pR 0 (m.fs++[J6])))):=A6 F.hna;generalize hH1:upd H na (.dT (pR 0 (m.fs++[J6])))=H1 at kna ⊢;have nx:x≠na:=fun z=>by rw[z,F.hna]at g;cases g
 have nxf:x≠fa:=fun z=>by rw[z,F.hfa]at g;cases g
 have nxs:x≠sa:=fun z=>by rw[z,F.hsa]at g;cases g
 have nfa:fa≠na:=fun z=>by have:=F.hfa;rw[z,F.hna]at this;cases this
 have nsa:sa≠na:=fun z=>by have:=F.hsa;rw[z,F.hna]at this;cases this
 have fa1:H1 fa=some (.lst (us.map V.ref)):=by rw[<-hH1,ag nfa];exact F.hfa
 have sa1:H1 sa=some (.lst (ws.map V.ref)):=by rw[<-hH1,ag nsa];exact F.hsa
 have g1':H1 x=some (.ins C dx fs):=by rw[<-hH1,ag nx];exact g
 refine⟨_,rfl,x,C,dx,fs,.ref fa,rfl,g1',c.cls,c.a2,l2,.inl ⟨rfl,_,az.of fa1⟩,_,rfl,fa,_,.ref u,rfl,rfl,fa1,?_,?_⟩
 ·rw[zl];exact ar (by omega)
 generalize hH2:upd H1 fa (.lst (us.map V.ref++[.ref u]))=H2;have k2:gM H1 H2:=by rw[<-hH2];exact cL fa1
 have sa2:H2 sa=some (.lst (ws.map V.ref)):=by rw[<-hH2,ag F.ne.1.symm];exact sa1
 have g2:H2 x=some (.ins C dx fs):=by rw[<-hH2,ag nxf];exact g1'
 refine⟨_,rfl,x,C,dx,fs,.ref sa,rfl,g2,c.cls,c.a3,l3,.inl ⟨rfl,_,az.of sa2⟩,_,rfl,sa,_,.ref st,rfl,rfl,sa2,?_,?_⟩
 ·rw[zs];exact ar (by omega)
 generalize hH3:upd H2 sa (.lst (ws.map V.ref++[.ref st]))=H3;have k3:gM H2 H3:=by rw[<-hH3];exact cL sa2
 have kt:gM H H3:=(kna.trans k2).trans k3;have ex:JE fa sa na H H3:=fun b o e n1 n2 n3=>by rw[<-hH3,ag n2,<-hH2,ag n1,<-hH1,ag n3];exact e
 have g3:H3 x=some (.ins C dx fs):=ex _ _ g nxf nxs nx;have na3:H3 na=some (.dT (pR 0 (m.fs++[J6]))):=by rw[<-hH3,ag nsa.symm,<-hH2,ag nfa.symm,<-hH1,aa]
 have fa3:H3 fa=some (.lst ((us++[u]).map V.ref)):=by rw[<-hH3,ag F.ne.1,<-hH2,aa,ax];rfl
 have sa3:H3 sa=some (.lst ((ws++[st]).map V.ref)):=by rw[<-hH3,aa,ax];rfl
 have sto:∀{w:Addr}{s:List Sg},(w≠fa/\w≠sa/\w≠ta)->ju K H w s->ju K H3 w s:=fun n r=>by
  obtain⟨gs,q1,q2⟩:=r;exact⟨gs,ex _ _ q1 n.1 n.2.1 (fun z=>by rw[z,F.hna]at q1;cases q1),Paired.mapP q2 fun _ _ r=>aS.kt kt r⟩
 have F3:ij K C H3 x M fa sa na ta (us++[u]) (ws++[st]) (m.add J6 story):=by
  rw[e];exact⟨⟨dx,fs,g3,l1,l2,l3,l4,l5,l6,l7⟩,fa3,c_ (Paired.mapP F.faces fun _ _ r=>kt _ _ r) (kt _ _ hu),sa3,c_ (Paired.mapP F.stories fun _ _ r=>⟨r.1,sto r.1 r.2⟩) ⟨ns,sto ns hst⟩,na3,F.ne⟩
 have tk3:je K H3 (fB J6) (.ref u):=cW.isIn 8 (cO J6) (SignAt.tk (kt _ _ hu));have hin:J6∈m.fs++[J6]:=by simp
 have g5:ir K H3 na (.ref u) (some (.int ((m.add J6 story).fs.idxOf J6:Nat))):=by
  refine .inr ⟨_,fB J6,u,.inl na3,rfl,tk3,cO J6,?_⟩;rw[ml,if_pos hin,wZ,e]
 exact⟨_,rfl,x,C,dx,fs,.ref na,rfl,g3,c.cls,c.a4,l4,_,rfl,na,_,rfl,g5,k _ _ H3 F3 ex⟩
theorem wL{d:Addr}{o:Obj}{u:HO}{n:Nat}{ent:Nat->Hp->V->V->Prop}{g:TG}{tb:TS}{D:mI}{σ:L2.St}{H:Hp}(Pv:Nat->L2.St->Hp->Prop)(h0:Pv 0 σ H)(hl:∀i σ H,i<=n->Pv i σ H->H d=some (.frz o u))
  (hs:∀i σ H p a b,i<n->Pv i σ H->H p=none->ent i H a b->g (.ref p) σ (upd H p (.tup [a,b])) fun σ2 H2=>tb { D with nx:=Pv (i+1),ct:=Pv (i+1),bk:=D.nx } σ2 H2) (hd:∀σ H,Pv n σ H->D.nx σ H) :
  ∃W:Nat->Nat->L2.St->Hp->Prop,(∃m,W 0 m σ H)/\∀i m σ H,W i m σ H ->
   ((IE d o u n ent).stop i H/\D.nx σ H)∨((IE d o u n ent).go i H/\∃N:L2.St->Hp->Prop,(∀σ' H',N σ' H'->∃m',m'<m/\W (i+1) m' σ' H')/\∀x H',(IE d o u n ent).yld i H x H'->g x σ H' fun σ2 H2=>tb { D with nx:=N,ct:=N,bk:=D.nx } σ2 H2):=by
 refine⟨fun i m σ H=>m=n-i/\i<=n/\Pv i σ H,⟨n,by simp,cX _,h0⟩,?_⟩;rintro i m σ H ⟨rfl,hi,p⟩;have q:=hl i σ H hi p;by_cases lt:i<n
 ·refine .inr ⟨⟨q,lt⟩,Pv (i+1),fun σ' H' p'=>⟨n-(i+1),by omega,rfl,lt,p'⟩,fun x H' y=>?_⟩;obtain⟨t,a,b,hn,rfl,en,rfl⟩:=y;exact hs i σ H t a b lt p hn en
 ·have e:i=n:=by omega
  subst e;exact .inl ⟨⟨q,aA _⟩,hd σ H p⟩
def stK(l:List (Sg×Nat)):List (TK×V):=l.map fun a=>(fB a.1,.int (a.2:Nat))
def Fd(L:Ze)(H H':Hp):Prop:=∀b o,H b=some o->b∉L->H' b=some o
theorem Fd.refl(L:Ze)(H:Hp):Fd L H H:=fun _ _ e _=>e
theorem Fd.trans(a:Fd L H H1)(b:Fd L H1 H2):Fd L H H2:=fun c o e n=>b c o (a c o e n) n
theorem ab.exL(S:ab H H'):Fd L H H':=fun b o e _=>S b o e
theorem JE.exL{L:Ze}(a:JE fa sa na H H')(s:fa∈L/\sa∈L/\na∈L):Fd L H H':=fun b o e n=>a b o e (fun z=>n (z▸s.1)) (fun z=>n (z▸s.2.1)) (fun z=>n (z▸s.2.2))
theorem Fd.upd{L:Ze}{d:Addr}{o:HO}(h:d∈L):Fd L H (upd H d o):=fun b u e n=>by rw[ag (fun z:b=d=>n (by rw[z];exact h))];exact e
theorem Good.grow_len(g:Good J2 m)(hr:J2.length<=8):m.fs.length<400/\m.ss.length<400:=by
 have h1:=g.few hr;have h2:=g.len;omega
theorem wj{K:Za}:∀{sg:Zb}{xs:List V},TKCs K H (sg.map mV) xs->xs=sg.map V.str
 |[],xs,h=>by rw[List.map_nil]at h;unfold TKCs at h;exact h
 |s::sg,xs,h=>by
  rw[bI]at h;unfold TKCs at h;obtain⟨v,us,rfl,h1,h2⟩:=h;unfold mV jR at h1;rw[h1,wj h2]
  rfl
theorem tQ{K:Za}(h:jR K H (fB sg) a):∃b,a=.ref b/\aS K H b (sg.map V.str):=by
 unfold fB jR at h;obtain⟨b,xs,rfl,h1,h2⟩:=h;rw[wj h2]at h1;exact⟨b,rfl,h1⟩
theorem yd(m:aL J0 J1 J2 ds):((stepsF J0 J1 J2 ds J6).map (·.1)).Nodup:=by
 have nd:=mr m;unfold stepsF;refine List.Nodup.sublist (List.Sublist.map _ List.filter_sublist) ?_;rw[qq];have e:((fun p:Sg×List Str=>p.1) ∘ fun sg=>(sg,behF J2 ds J6 sg))=id:=rfl;rw[e,List.map_id];exact nd
theorem wA(s:List Sg)(m:km)(L:List (Sg×List Str)):(eM s m L).2.map (·.1)=L.map (·.1):=by
 have key:∀n,n<=L.length->(eM s m (L.take n)).2.map (·.1)=(L.take n).map (·.1):=by
  intro n
  induction n with
  |zero=>intro _;rfl
  |succ n ih =>
   intro hn;have hp:L[n]?=some L[n]:=b9 (by omega);rw[take_snoc hp,j_];show((eM s m (L.take n)).2++[(L[n].1,_)]).map (fun a:Sg×Nat=>a.1)=_;rw[ax,ax,ih (by omega)]
   rfl
 have:=key L.length (aA _);rw[aR]at this;exact this
theorem qh.atS(h:qh m m'){i:Nat}{f:List Sg}(e:m.ss[i]?=some f):m'.ss[i]?=some f:=by
 obtain⟨_,⟨r,q⟩⟩:=h;rw[q,fk (by rcases iR i m.ss.length with z|z;exact z;rw[fS z]at e;cases e),e]
theorem ij.ex3{K:Za}(h:ij K C H x M fa sa na ta us ws m)(e:JE fa sa na H H'):gM H H':=fun b xs q =>
 e b _ q (fun z=>by rw[z,h.hfa]at q;cases q) (fun z=>by rw[z,h.hsa]at q;cases q) (fun z=>by rw[z,h.hna]at q;cases q)
inductive jk(K:Za)(C Cm:Addr)(vs:List V)(H:Hp)(Q:VK)(E:XK):Prop
 |mk (x M fa sa na ta:Addr) (us ws:Ze) (m:km) (n:Nat) (J0 J1 J2:Zb) (ds:List am):(vs=[.ref x,.int (n:Nat)])->(ij K C H x M fa sa na ta us ws m)->(bv Cm H M J0 J1 J2 ds)->(Good J2 m)->(J2.length<=8)->(n<m.fs.length)->((∃vs,H ta=some (.lst vs)))->(∀(d:Addr) (us' ws':Ze) (H':Hp),ij K C H' x M fa sa na ta us' ws' (eM (m.ss.getD n []) m (stepsF J0 J1 J2 ds (m.fs.getD n []))).1->H' d=some (.dT (stK (eM (m.ss.getD n []) m (stepsF J0 J1 J2 ds (m.fs.getD n []))).2))->H d=none->Fd [fa,sa,na] H H'->Q (.ref d) H')->jk K C Cm vs H Q E
theorem z9{K:Za}(c:FC K C)(h:jk K C Cm vs H Q E):jD K (kJ Cm) C (lW K C) (bJ Q) (start jL vs) H:=by
 obtain⟨x,M,fa,sa,na,ta,us,ws,m,n,J0,J1,J2,ds,rfl,F,MA,gd,hr,hn,⟨tvs,hta⟩,k⟩:=h;have hfn:m.fs[n]?=some m.fs[n]:=b9 hn;have hsn:n<m.ss.length:=by rw[gd.len];exact hn
 have hss:m.ss[n]?=some m.ss[n]:=b9 hsn;have ef:m.fs.getD n []=m.fs[n]:=by simp[hn]
 have es:m.ss.getD n []=m.ss[n]:=by simp[hsn]
 rw[ef,es]at k;have hF:=gd.isF m.fs[n] (lK _);have hFl:=hF.len;obtain⟨u,hu,hut⟩:=Paired.get F.faces hfn;obtain⟨w,hw,hwn,hwt⟩:=Paired.get F.stories hss;have atw:qk (ws.map V.ref) n=some (.ref w):=bH (by rw[bQ,hw];rfl);have atu:qk (us.map V.ref) n=some (.ref u):=bH (by rw[bQ,hu];rfl);refine fun d hd=>?_;have S0:ab H (upd H d (.dT [])):=ab.new hd;have F0:=F.same S0;obtain⟨dx,fs,g,l1,l2,l3,l4,l5,l6,l7⟩:=F0.ob;refine⟨_,rfl,x,C,dx,fs,.ref M,rfl,g,c.cls,c.a1,l1,_,rfl,x,C,dx,fs,.ref fa,rfl,g,c.cls,c.a2,l2,_,rfl,fa,_,_,_,rfl,rfl,az.of F0.hfa,atu,M,u,m.fs[n],J0,J1,J2,ds,rfl,MA.same S0,S0 _ _ hut,hF.sub,by omega,fun d0 kvs H1 hd0 st hd0' S1=>?_⟩;have F1:=F0.same S1;have nd0:d0≠d:=fun z=>by rw[z,aa]at hd0';cases hd0'
 have fr:∀{b:Addr}{o:HO},H b=some o->b≠d0:=fun e=>ae (S0 _ _ e) hd0';have frd:∀{b:Addr}{o:HO},H b=some o->b≠d:=fun e=>ae e hd;obtain⟨dx',fs',gx,_⟩:=F.ob;refine⟨d0,kvs,rfl,.inl ⟨hd0,fun o=>?_⟩⟩;have F2:=F1.move (o:=.frz o (.dT kvs)) hd0 (dE (fr F.hna));have kt12:gM H1 (upd H1 d0 (.frz o (.dT kvs))):=A6 hd0;have d2:upd H1 d0 (.frz o (.dT kvs)) d=some (.dT []):=by rw[ag nd0.symm];exact S1 _ _ aa
 have ta2:upd H1 d0 (.frz o (.dT kvs)) ta=some (.lst tvs):=by rw[ag (fr hta)];exact S1 _ _ (S0 _ _ hta)
 have f2:upd H1 d0 (.frz o (.dT kvs)) d0=some (.frz o (.dT kvs)):=aa;have e02:∀b o',H b=some o'->upd H1 d0 (.frz o (.dT kvs)) b=some o':=fun b o' e=>by rw[ag (fr e)];exact S1 _ _ (S0 _ _ e)
 have st2:=st.kt kt12;generalize upd H1 d0 (.frz o (.dT kvs))=H2 at F2 kt12 d2 ta2 f2 st2 e02 ⊢;have hLF:∀p∈stepsF J0 J1 J2 ds m.fs[n],qg J2 p.2:=ue hF;have zL:(stepsF J0 J1 J2 ds m.fs[n]).length<=9:=by
  have z1:=MA.ok.asks4;have z2:=MA.ok.says4;refine bC (C5 (L:=bd J0 J1)) ?_;unfold bd;rw[aK,aK,aj,aj];show _+1<=9;omega
 have ndL:=yd (J6:=m.fs[n]) MA.ok;generalize stepsF J0 J1 J2 ds m.fs[n]=L at st st2 hLF ndL zL k ⊢;have gq:∀i,Good J2 (eM m.ss[n] m (L.take i)).1/\qh m (eM m.ss[n] m (L.take i)).1:=fun i=>by
  obtain⟨h1,h2,_⟩:=wB (s:=m.ss[n]) gd (by have:=gd.sl _ _ hss;omega) (L.take i) fun p hp=>hLF p (fR hp);exact⟨h1,h2⟩
 have nfd:fa≠d:=frd F.hfa;have nsd:sa≠d:=frd F.hsa;have nnd:na≠d:=frd F.hna;refine wL (fun i σ H'=>Kz fun(us' ws':Ze) (x3 x4:Option V)=>JA (σ=[some (.ref x),some (.int (n:Nat)),some (.ref d),x3,x4]) (ij K C H' x M fa sa na ta us' ws' (eM m.ss[n] m (L.take i)).1) (H' d=some (.dT (stK (eM m.ss[n] m (L.take i)).2))) (Fd [fa,sa,na,d] H2 H') (gM H2 H'))
  ⟨us,ws,_,_,rfl,F2,d2,.refl _ _,fun _ _ e=>e⟩ ?_ ?_ ?_
 ·rintro i σ H' _ ⟨_,_,_,_,_,_,_,ex,_⟩;exact ex _ _ f2 (by simp[dE (fr F.hfa),dE (fr F.hsa),dE (fr F.hna),nd0])
 ·rintro i σ H3 p a b hi ⟨us',ws',x3,x4,rfl,F3,d3,ex3,kt3⟩ hp ⟨key,ek,tkc⟩;obtain⟨pr,hpr,rfl,uf,rfl,huf⟩:=Paired.getL st2 ek;obtain⟨sga,rfl,hsga⟩:=tQ tkc;obtain⟨gd3,gr3⟩:=gq i;obtain⟨z1,z2⟩:=gd3.grow_len hr;obtain⟨w',hw',hwn',gs,hg1,hg2⟩:=Paired.get F3.stories (gr3.atS hss);have atw':qk (ws'.map V.ref) n=some (.ref w'):=bH (by rw[bQ,hw'];rfl);have Sp:ab H3 (upd H3 p (.tup [.ref sga,.ref uf])):=ab.new hp;have hp4:upd H3 p (.tup [.ref sga,.ref uf]) p=some (.tup [.ref sga,.ref uf]):=aa;generalize upd H3 p (.tup [.ref sga,.ref uf])=H4 at Sp hp4 ⊢;refine⟨p,_,rfl,br.of hp4,rfl,_,_,rfl,_,_,rfl,rfl,?_⟩;have F4:=F3.same Sp;obtain⟨dx4,fs4,g4,m1,m2,m3,m4,m5,m6,m7⟩:=F4.ob;have hw4:=Sp _ _ hg1;refine⟨_,rfl,x,dx4,fs4,rfl,g4,m6,_,rfl,_,rfl,x,C,dx4,fs4,.ref sa,rfl,g4,c.cls,c.a3,m3,_,rfl,sa,_,_,_,rfl,rfl,az.of F4.hsa,atw',_,rfl,(by show 1<=ai;decide),fun ll hll=>?_⟩;have Sl:ab H4 (upd H4 ll (.lst [.ref sga])):=ab.new hll;have hl5:upd H4 ll (.lst [.ref sga]) ll=some (.lst [.ref sga]):=aa;generalize upd H4 ll (.lst [.ref sga])=H5 at Sl hl5 ⊢;have zw:gs.length<=400:=by rw[Paired.length hg2];have:=gd.sl _ _ hss;have:=gd.few hr;omega
  refine⟨w',ll,_,_,rfl,rfl,Sl _ _ hw4,hl5,(by rw[aj];exact fb (ar (by show _+1<=1000;omega))),fun p2 hp2=>?_⟩;have S2:ab H5 (upd H5 p2 (.lst (gs.map V.ref++[.ref sga]))):=ab.new hp2;have hp6:upd H5 p2 (.lst (gs.map V.ref++[.ref sga])) p2=some (.lst ((gs++[sga]).map V.ref)):=by rw[aa,ax];rfl
  generalize upd H5 p2 (.lst (gs.map V.ref++[.ref sga]))=H6 at S2 hp6 ⊢;have S36:ab H3 H6:=(Sp.trans Sl).trans S2;have F6:=F3.same S36;have ta3:H3 ta=some (.lst tvs):=ex3 _ _ ta2 (by simp[F.ne.2.1.symm,F.ne.2.2.symm,frd hta];exact fun z=>by rw[z,F.hna]at hta;cases hta);have np:∀{b:Addr}{o:HO},H3 b=some o->p2≠b:=fun e=>dE (ae (Sl _ _ (Sp _ _ e)) hp2);have sto:ju K H6 p2 (m.ss[n]++[pr.1]):=⟨gs++[sga],hp6,c_ (Paired.mapP hg2 fun _ _ r=>aS.kt (ab.kt S36) r) (aS.kt (ab.kt S36) hsga)⟩;refine⟨x,M,fa,sa,na,ta,uf,p2,us',ws',_,pr.2,m.ss[n]++[pr.1],rfl,F6,S36 _ _ (kt3 _ _ huf),sto,⟨np F3.hfa,np F3.hsa,np ta3⟩,z1,z2,fun us'' ws'' H7 F7 e7=>?_⟩;have k67:=F6.ex3 e7;have k37:gM H3 H7:=(ab.kt S36).trans k67;have d7:H7 d=some (.dT (stK (eM m.ss[n] m (L.take i)).2)):=e7 _ _ (S36 _ _ d3) nfd.symm nsd.symm nnd.symm;have ek7:bq (stK (eM m.ss[n] m (L.take i)).2) (fB pr.1)=none:=by
   refine xN fun kv hkv e=>?_;obtain⟨q,hq,rfl⟩:=aw.1 hkv;have h1:q.1∈(L.take i).map (·.1):=by rw[<-wA m.ss[n] m];exact kz hq
   rw[iC e,nS]at h1;exact kS ndL (by rw[bQ,hpr];rfl) h1
  have l7:(stK (eM m.ss[n] m (L.take i)).2).length<ai:=by
   have h1:=congrArg List.length (wA m.ss[n] m (L.take i));rw[aj,aj,aG]at h1;unfold stK;rw[aj,h1];exact ar (by omega)
  refine⟨_,rfl,_,rfl,d,sga,_,fB pr.1,rfl,rfl,d7,pe (aS.kt k37 hsga),cO _,l7,us'',ws'',_,_,rfl,?_,?_,?_,?_⟩
  ·rw[take_snoc hpr,j_];exact F7.move d7 (dE nnd)
  ·rw[aa,dq _ ek7,take_snoc hpr,j_];show _=some (HO.dT (stK ((eM m.ss[n] m (L.take i)).2++[_])));unfold stK;rw[ax]
   rfl
  ·exact(ex3.trans (ab.exL S36)).trans ((e7.exL ⟨by simp,by simp,by simp⟩).trans (Fd.upd (by simp)))
  ·exact(kt3.trans k37).trans (A6 d7)
 ·rintro σ H3 ⟨us',ws',x3,x4,rfl,F3,d3,ex3,kt3⟩;rw[Paired.length st,aR]at F3 d3;refine⟨_,rfl,k d us' ws' H3 F3 d3 hd fun b o' e nb=>ex3 _ _ (e02 _ _ e) ?_⟩;simp at nb ⊢;exact⟨nb.1,nb.2.1,nb.2.2,frd e⟩
abbrev qd(H0:Hp)(na:Addr)(H:Hp)(ts:Ze)(st:List (List (Sg×Nat))):Prop:=Paired (fun d l=>H0 d=none/\d≠na/\H d=some (.dT (stK l))) ts st
inductive mR(K:Za)(C Cm:Addr)(vs:List V)(H:Hp)(Q:VK)(E:XK):Prop
 |mk (H0:Hp) (x dx M:Addr) (J0 J1 J2:Zb) (ds:List am):(vs=[.ref x,.ref M])->(H x=some (.ins C dx []))->(bv Cm H0 M J0 J1 J2 ds)->(H0 x=none)->(ab H0 H)->(J2.length<=8)->(∀(fa sa na ta:Addr) (us ws ts:Ze) (S:vh) (j:Nat) (H':Hp),ij K C H' x M fa sa na ta us ws S.1->H' ta=some (.lst (ts.map V.ref))->qd H0 na H' ts S.2->mH J0 J1 J2 ds S->S.2.length=S.1.fs.length->S=itF J0 J1 J2 ds j->ab H0 H'->Q .non H')->mR K C Cm vs H Q E
theorem ij.moveT{K:Za}{xs ys:List V}(h:ij K C H x M fa sa na ta us ws m)(ht:H ta=some (.lst xs)):ij K C (upd H ta (.lst ys)) x M fa sa na ta us ws m:=by
 have k:gM H (upd H ta (.lst ys)):=cL ht;obtain⟨⟨dx,fs,g,r⟩,h1,h2,h3,h4,h5,h6⟩:=h;refine⟨⟨dx,fs,by rw[ag (fun z=>by rw[z,ht]at g;cases g)];exact g,r⟩,by rw[ag h6.2.1];exact h1,Paired.mapP h2 fun _ _ r=>k _ _ r,by rw[ag h6.2.2];exact h3,Paired.mapP h4 fun w s r=>⟨r.1,?_⟩,by rw[ag (fun z=>by rw[z,ht]at h5;cases h5)];exact h5,h6⟩;obtain⟨gs,g1,g2⟩:=r.2;exact⟨gs,by rw[ag r.1.2.2];exact g1,Paired.mapP g2 fun _ _ r=>aS.kt k r⟩
theorem Em{K:Za}(c:FC K C)(h:mR K C Cm vs H Q E):ol K C (jk K C Cm) (lW K C) (cA Cm) (bJ Q) (start oT vs) H:=by
 obtain⟨H0,x,dx,M,J0,J1,J2,ds,rfl,hx,MA,hx0,S0,hr,k⟩:=h;have up:∀{H1 H2:Hp}{o:HO},ab H0 H1->H2=upd H1 x o->ab H0 H2:=fun S e b o q=>by rw[e,ag (ae q hx0)];exact S _ _ q
 refine⟨_,rfl,_,rfl,x,C,dx,[],rfl,hx,c.cls,c.a1,(by decide),?_⟩;obtain⟨H1,e1,hx1,X1⟩:=re "machine" (.ref M) hx;rw[<-e1];have S1:=up S0 e1;have len1:(cK ("machine":Str) (.ref M) []).length<=1:=eA _ _ _;refine⟨(by show 0<=ai;decide),fun fa hfa=>⟨_,rfl,x,C,dx,_,rfl,kp hx1 hfa,c.cls,c.a2,by omega,?_⟩⟩;obtain⟨H2,e2,hx2,X2⟩:=re "faces" (.ref fa) (kp (x:=.lst []) hx1 hfa);rw[<-e2];have S2:=up (S1.trans (ab.new hfa)) e2;have nf:fa≠x:=(ae hx1 hfa).symm;have fa2:=X2 _ _ aa nf;have len2:=eA ("faces":Str) (.ref fa) (cK ("machine":Str) (.ref M) []);refine⟨(by show 0<=ai;decide),fun sa hsa=>⟨_,rfl,x,C,dx,_,rfl,kp hx2 hsa,c.cls,c.a3,by omega,?_⟩⟩;obtain⟨H3,e3,hx3,X3⟩:=re "first_stories" (.ref sa) (kp (x:=.lst []) hx2 hsa);rw[<-e3];have S3:=up (S2.trans (ab.new hsa)) e3;have ns:sa≠x:=(ae hx2 hsa).symm;have sa3:=X3 _ _ aa ns;have fa3:=X3 _ _ (kp (x:=.lst []) fa2 hsa) nf;have nfs:fa≠sa:=ae fa2 hsa;have len3:=eA ("first_stories":Str) (.ref sa) (cK ("faces":Str) (.ref fa) (cK ("machine":Str) (.ref M) []));refine fun na hna=>⟨_,rfl,x,C,dx,_,rfl,kp hx3 hna,c.cls,c.a4,by omega,?_⟩;obtain⟨H4,e4,hx4,X4⟩:=re "numbers" (.ref na) (kp (x:=.dT []) hx3 hna);rw[<-e4];have S4:=up (S3.trans (ab.new hna)) e4;have nn:na≠x:=(ae hx3 hna).symm;have na4:=X4 _ _ aa nn;have fa4:=X4 _ _ (kp (x:=.dT []) fa3 hna) nf;have sa4:=X4 _ _ (kp (x:=.dT []) sa3 hna) ns;have len4:=eA ("numbers":Str) (.ref na) (cK ("first_stories":Str) (.ref sa) (cK ("faces":Str) (.ref fa) (cK ("machine":Str) (.ref M) [])));refine⟨(by show 0<=ai;decide),fun ta hta=>⟨_,rfl,x,C,dx,_,rfl,kp hx4 hta,c.cls,c.a5,by omega,?_⟩⟩;obtain⟨H5,e5,hx5,X5⟩:=re "steps" (.ref ta) (kp (x:=.lst []) hx4 hta);rw[<-e5];have S5:=up (S4.trans (ab.new hta)) e5;have nt:ta≠x:=(ae hx4 hta).symm;have ta5:=X5 _ _ aa nt;have fa5:=X5 _ _ (kp (x:=.lst []) fa4 hta) nf;have sa5:=X5 _ _ (kp (x:=.lst []) sa4 hta) ns;have na5:=X5 _ _ (kp (x:=.lst []) na4 hta) nn;have F5:ij K C H5 x M fa sa na ta [] [] ⟨[],[]⟩:=by
  refine⟨⟨dx,_,hx5,?_,?_,?_,?_,?_,?_,?_⟩,fa5,.nil,sa5,.nil,na5,nfs,ae fa4 hta,ae sa4 hta⟩
  all_goals(show lm _ _=_;repeat (rw[eO];first|rw[if_pos rfl] | rw[if_neg (by decide +kernel)]))
  all_goals rfl
 clear e1 hx1 X1 len1 e2 hx2 X2 fa2 len2 e3 hx3 X3 sa3 fa3 len3 e4 hx4 X4 na4 fa4 sa4 len4 e5 hx5 X5 up;obtain⟨dx5,fs5,g5,l1,l2,l3,l4,l5,l6,l7⟩:=id F5.ob;have M5:=MA.same S5;refine⟨_,rfl,x,dx5,fs5,rfl,g5,l6,_,rfl,M,J0,J1,J2,ds,rfl,M5,fun f0 FF H6 hf0 hF S6=>⟨(by show 0<=ai;decide),fun st hst=>?_⟩⟩;rw[qa hF]at hf0;have S7:ab H6 (upd H6 st (.lst [])):=ab.new hst;have st7:upd H6 st (.lst []) st=some (.lst []):=aa;generalize upd H6 st (.lst [])=H7 at S7 st7 ⊢;have S57:ab H5 H7:=ab.trans S6 S7;have F7:=F5.same S57;have np:∀{b:Addr}{o:HO},H5 b=some o->st≠b:=fun e=>dE (ae (S6 _ _ e) hst);refine⟨x,M,fa,sa,na,ta,f0,st,[],[],⟨[],[]⟩,_,[],rfl,F7,S7 _ _ hf0,⟨[],st7,.nil⟩,⟨np fa5,np sa5,np ta5⟩,(by show 0<400;decide),(by show 0<400;decide),fun us ws H8 F8 e8=>?_⟩;have nta:ta≠na:=fun z=>by rw[z,na5]at ta5;cases ta5
 have ta8:H8 ta=some (.lst (([]:Ze).map V.ref)):=e8 _ _ (S57 _ _ ta5) F5.ne.2.1.symm F5.ne.2.2.symm nta;have in0:∀{b:Addr}{o:HO},H0 b=some o->b≠fa/\b≠sa/\b≠na:=fun e=>⟨ae (S1 _ _ e) hfa,ae (S2 _ _ e) hsa,ae (S3 _ _ e) hna⟩;have S08:ab H0 H8:=fun b o e=>by
  obtain⟨n1,n2,n3⟩:=in0 e;exact e8 _ _ (S57 _ _ (S5 _ _ e)) n1 n2 n3
 refine⟨fun m σ H'=>σ=[some (.ref x),some (.ref M)]/\∃(us ws ts:Ze) (j:Nat),m=300-j/\ij K C H' x M fa sa na ta us ws (itF J0 J1 J2 ds j).1/\H' ta=some (.lst (ts.map V.ref))/\qd H0 na H' ts (itF J0 J1 J2 ds j).2/\mH J0 J1 J2 ds (itF J0 J1 J2 ds j)/\(itF J0 J1 J2 ds j).2.length=j/\ab H0 H',⟨300,rfl,us,ws,[],0,rfl,F8,ta8,.nil,EM,rfl,S08⟩,?_⟩;rintro m σ H9 ⟨rfl,us9,ws9,ts,j,rfl,F9,ta9,st9,ok9,lj,S09⟩;obtain⟨dx9,fs9,g9,m1,m2,m3,m4,m5,m6,m7⟩:=id F9.ob;refine⟨_,rfl,x,C,dx9,fs9,.ref ta,rfl,g9,c.cls,c.a5,m5,.inl ⟨ta,_,rfl,.inl (az.of ta9),_,rfl,x,C,dx9,fs9,.ref fa,rfl,g9,c.cls,c.a2,m2,.inl ⟨fa,_,rfl,.inl (az.of F9.hfa),_,_,rfl,rfl,_,rfl,?_⟩⟩⟩;have z1:(ts.map V.ref).length=j:=by rw[aj,Paired.length st9,lj]
 have z2:(us9.map V.ref).length=(itF J0 J1 J2 ds j).1.fs.length:=by rw[aj,Paired.length F9.faces]
 have z3:=ok9.good.few hr;refine nK (P:=j<(itF J0 J1 J2 ds j).1.fs.length) (by rw[z1,z2];simp) (fun lt=>?_) (fun ge=>?_)
 ·have nA:nextF J0 J1 J2 ds (itF J0 J1 J2 ds j)=itF J0 J1 J2 ds (j+1):=rfl;have ok10:mH J0 J1 J2 ds (itF J0 J1 J2 ds (j+1)):=EL ok9 (by rw[lj];exact lt);have fr9:∀{b:Addr}{o:HO},H9 b=some o->∀{d:Addr},H9 d=none->d≠b:=fun e d h=>dE (ae e h);refine⟨fun σ' H'=>σ'=[some (.ref x),some (.ref M)]/\∃(us ws ts:Ze),ij K C H' x M fa sa na ta us ws (itF J0 J1 J2 ds (j+1)).1/\H' ta=some (.lst (ts.map V.ref))/\qd H0 na H' ts (itF J0 J1 J2 ds (j+1)).2/\ab H0 H',fun σ' H' ⟨e,us,ws,ts,q1,q2,q3,q4⟩=>⟨300-(j+1),by omega,e,us,ws,ts,j+1,rfl,q1,q2,q3,ok10,?_,q4⟩,?_⟩
  ·show(_++[_]).length=j+1;rw[aK,lj];rfl
  refine⟨_,rfl,x,C,dx9,fs9,.ref ta,rfl,g9,c.cls,c.a5,m5,.inl ⟨rfl,_,az.of ta9⟩,_,rfl,x,dx9,fs9,rfl,g9,m7,_,rfl,x,C,dx9,fs9,.ref ta,rfl,g9,c.cls,c.a5,m5,.inl ⟨ta,_,rfl,.inl (az.of ta9),?_⟩⟩;refine⟨x,M,fa,sa,na,ta,us9,ws9,_,j,J0,J1,J2,ds,by rw[z1];rfl,F9,MA.same S09,ok9.good,hr,lt,⟨_,ta9⟩,fun d us' ws' H10 F10 hd hdn ex=>?_⟩;have nta9:ta∉[fa,sa,na]:=by simp[F9.ne.2.1.symm,F9.ne.2.2.symm,nta]
  have ta10:=ex _ _ ta9 nta9;have S010:ab H0 H10:=fun b o e=>by
   obtain⟨n1,n2,n3⟩:=in0 e;exact ex _ _ (S09 _ _ e) (by simp[n1,n2,n3])
  have st10:qd H0 na H10 ts (itF J0 J1 J2 ds j).2:=Paired.mapP st9 fun d l ⟨q1,q2,q3⟩=>⟨q1,q2,ex _ _ q3 (by
   simp[q2];exact⟨(fun z=>by rw[z,F9.hfa]at q3;cases q3),(fun z=>by rw[z,F9.hsa]at q3;cases q3)⟩)⟩
  have d0:H0 d=none:=S09.free hdn;have ndt:d≠ta:=fr9 ta9 hdn;refine⟨ta,_,.ref d,rfl,rfl,ta10,?_,rfl,us',ws',ts++[d],?_,?_,?_,?_⟩
  ·rw[z1];exact ar (by omega)
  ·have e:(itF J0 J1 J2 ds (j+1)).1=(eM ((itF J0 J1 J2 ds j).1.ss.getD j []) (itF J0 J1 J2 ds j).1 (stepsF J0 J1 J2 ds ((itF J0 J1 J2 ds j).1.fs.getD j []))).1:=by
    show(nextF J0 J1 J2 ds (itF J0 J1 J2 ds j)).1=_;unfold nextF;rw[lj]
   rw[e];exact F10.moveT ta10
  ·rw[aa,ax];rfl
  ·have e:(itF J0 J1 J2 ds (j+1)).2=(itF J0 J1 J2 ds j).2++[(eM ((itF J0 J1 J2 ds j).1.ss.getD j []) (itF J0 J1 J2 ds j).1 (stepsF J0 J1 J2 ds ((itF J0 J1 J2 ds j).1.fs.getD j []))).2]:=by
    show(nextF J0 J1 J2 ds (itF J0 J1 J2 ds j)).2=_;unfold nextF;rw[lj]
   rw[e];exact c_ (Paired.mapP st10 fun d l ⟨q1,q2,q3⟩=>⟨q1,q2,by rw[ag (fun z=>by rw[z,ta10]at q3;cases q3)];exact q3⟩) ⟨d0,fr9 F9.hna hdn,by rw[ag ndt];exact hd⟩
  ·intro b o e;have h1:=S010 _ _ e;rw[ag (fun z=>?_)]
   ·exact h1
   ·have h4:=S4 _ _ e;rw[z,hta]at h4;cases h4
 ·have e:=ok9.le;exact k fa sa na ta us9 ws9 ts _ j H9 F9 ta9 st9 ok9 (by omega) rfl S09
abbrev A9(H0 H:Hp)(ts:Ze)(st:List (List (Sg×Nat))):Prop:=Paired (fun d l=>H0 d=none/\Rd H d (.dT (stK l))) ts st
theorem Rd.same(S:ab H H')(h:Rd H a u):Rd H' a u:=by
 rcases h with h|⟨o,h⟩
 ·exact .inl (S _ _ h)
 ·exact .inr ⟨o,S _ _ h⟩
theorem Rd.frz{H:Hp}{d:Addr}{k kvs:List (TK×V)}{o:Obj}(hd:H d=some (.dT kvs))(h:Rd H a (.dT k)):Rd (upd H d (.frz o (.dT kvs))) a (.dT k):=by
 by_cases z:a=d
 ·subst z;rcases h with h|⟨q,h⟩
  ·rw[hd]at h;cases h;exact .inr ⟨o,aa⟩
  ·rw[hd]at h;cases h
 ·rcases h with h|⟨q,h⟩
  ·exact .inl (by rw[ag z];exact h)
  ·exact .inr ⟨q,by rw[ag z];exact h⟩
def Kf(J:It)(g:TG)(tb:TS)(D:mI)(σ:L2.St)(H:Hp):Prop:=∃W:Nat->Nat->L2.St->Hp->Prop,(∃m,W 0 m σ H)/\∀i m σ H,W i m σ H ->
 (J.stop i H/\D.nx σ H)∨(J.go i H/\∃N:L2.St->Hp->Prop,(∀σ' H',N σ' H'->∃m',m'<m/\W (i+1) m' σ' H')/\∀x H',J.yld i H x H'->g x σ H' fun σ2 H2=>tb { D with nx:=N,ct:=N,bk:=D.nx } σ2 H2)
inductive sL(K:Za)(vs:List V)(H:Hp)(Q:VK)(E:XK):Prop
 |mk (t ft s l1 l2 l3 l4:Addr) (ts:Ze) (J0 J1 J2 J6 sg:Zb) (ds:List am):(vs=[.ref t,.ref ft,.ref s])->(iE H t l1 l2 l3 l4 ts J0 J1 J2 ds)->(aL J0 J1 J2 ds)->(br K H ft (J6.map V.str))->(br K H s (sg.map V.str))->(J6.length<=1000)->(∀(t':Addr) (H':Hp),H' t'=some (.tup ((behF J2 ds J6 sg).map V.str))->ab H H'->Q (.ref t') H')->sL K vs H Q E
theorem HB{K:Za}(h:sL K vs H Q E):xT K zY j3 (bJ Q) (start y6 vs) H:=by
 obtain⟨t,ft,s,l1,l2,l3,l4,ts,J0,J1,J2,J6,sg,ds,rfl,T,m,hft,hs,hz,k⟩:=h;have z4:=m.few;refine⟨_,rfl,(by show 1<=ai;decide),fun hh hhh=>⟨jr sg,jr aV,aW (br.same (ab.new hhh) hs),aW (br.of aa),by rw[bA];decide,by rw[bA];decide,_,rfl,?_⟩⟩;rw[eF];have Sn:ab H (upd H hh (.tup [.str "hush"])):=ab.new hhh;generalize upd H hh (.tup [.str "hush"])=H1 at Sn ⊢;have T1:=T.same Sn;have ft1:=br.same Sn hft;have hs1:=br.same Sn hs;by_cases c:sg=aV
 ·rw[zzr1 c];refine cR ?_;refine⟨_,rfl,ft,rfl,⟨_,ft1⟩,fun f hf=>?_⟩;refine AL (xs:=J6.map V.str) (fun i vs H'=>vs=((J6.take i).filter fun r=>decide (r∉fA ds)).map V.str/\ab H1 H'/\H' f=some (.lst vs)) ⟨rfl,ab.new hf,aa⟩ (fun i vs H' _ ⟨_,S,h'⟩=>⟨h',br.same S ft1⟩) ?_ ?_
  ·rintro vs H' ⟨rfl,S,f'⟩;rw[aj,aR]at f';refine⟨f,_,rfl,.inl ⟨az.of f',fun t' ht'=>k t' _ ?_ ((Sn.trans S).trans (ab.new ht'))⟩⟩;rw[aa];unfold behF;rw[if_pos c]
  ·rintro i vs H' x' hx' hi ⟨rfl,S,f'⟩;obtain⟨r,hr,rfl⟩:=bm hx';refine gN ?_;refine⟨_,rfl,_,rfl,t,l1,l2,l3,l4,ts,J0,J1,J2,ds,r,rfl,T1.same S,m,fun H2 S2=>⟨_,rfl,?_⟩⟩;have hlen:(((J6.take i).filter fun r=>decide (r∉fA ds)).map V.str).length<ai:=by
    rw[aj];refine ar (bC (c8 _ _) ?_);rw[aG];omega
   refine jJ (fun hq=>?_) (fun hq=>?_)
   ·refine⟨_,rfl,S2 _ _ f',hlen,nA hi ⟨?_,?_,aa⟩⟩
    ·rw[cw hr,if_pos hq,ax];rfl
    ·intro b o q;rw[ag (ae q hf)];exact S2 _ _ (S _ _ q)
   ·refine nA hi ⟨?_,S.trans S2,S2 _ _ f'⟩;rw[cw hr,if_neg hq,dj]
 ·rw[zzr0 c];refine bR ?_;refine⟨_,rfl,_,rfl,.inr (.inl ⟨t,_,3,_,rfl,rfl,br.of T1.t,rfl,l4,rfl,⟨_,az.of T1.a4⟩,fun f hf=>?_⟩)⟩;refine bZ (xs:=ts.map V.ref) (fun i vs H'=>∃G:List Str,vs=G.map V.str/\ab H1 H'/\H' f=some (.lst vs)/\G.length<=i/\∀g,g∈G↔∃d∈ds.take i,d.a∈J6/\d.sg=sg/\d.b=g)
   ⟨[],rfl,ab.new hf,aa,aA _,fun g=>⟨fun h=>(by cases h),fun⟨_,h,_⟩=>by simp at h⟩⟩ (fun i vs H' _ ⟨_,_,S,h',_⟩=>⟨h',az.of (S _ _ T1.a4)⟩) ?_ ?_
  rotate_left
  ·rintro i vs H' x' hx' hi ⟨G,rfl,S,f',hl,hG⟩;obtain⟨u,hu,rfl⟩:=cj hx';obtain⟨dr,hdr,hatd⟩:=Paired.getL T1.ds hu;obtain⟨sb,ht2,hs2⟩:=hatd.kt (ab.kt S);have hi':i<ds.length:=(cu.mp hdr).1;have hstep:∀g,(∃d∈ds.take (i+1),d.a∈J6/\d.sg=sg/\d.b=g)↔((∃d∈ds.take i,d.a∈J6/\d.sg=sg/\d.b=g)∨(dr.a∈J6/\dr.sg=sg/\dr.b=g)):=by
    intro g;rw[take_snoc hdr];constructor
    ·rintro⟨d,hd,h⟩;rcases a_.mp hd with hd|hd
     ·exact .inl ⟨d,hd,h⟩
     ·have:d=dr:=by simpa using hd
      subst this;exact .inr h
    ·rintro(⟨d,hd,h⟩|h)
     ·exact⟨d,cf _ hd,h⟩
     ·exact⟨dr,cC _ (by simp),h⟩
   have keep:¬(dr.a∈J6/\dr.sg=sg)->∃m',m'<(ts.map V.ref).length-i/\Wc (ts.map V.ref).length (fun i vs H'=>∃G:List Str,vs=G.map V.str/\ab H1 H'/\H' f=some (.lst vs)/\G.length<=i/\∀g,g∈G↔∃d∈ds.take i,d.a∈J6/\d.sg=sg/\d.b=g) (i+1) m' (G.map V.str) H':=by
    intro z;refine nA hi ⟨G,rfl,S,f',by omega,fun g=>?_⟩;rw[hstep,hG];exact⟨.inl,fun h=>h.elim id fun h=>absurd ⟨h.1,h.2.1⟩ z⟩
   refine gN ?_;refine⟨_,rfl,.inr (.inl ⟨u,_,0,_,rfl,rfl,br.of ht2,rfl,_,rfl,gW dr.a,J6.map gW,ft,_,js _,rfl,.inr (br.same S ft1),my _,(by show 0<=8;decide),by rw[fF];decide,_,rfl,?_⟩)⟩;rw[if_neg fO,yN];by_cases c1:dr.a∈J6;rotate_left
   ·rw[zzr0 c1];exact bR (bR (keep fun z=>c1 z.1))
   rw[zzr1 c1];refine cR ?_;refine⟨_,rfl,.inr (.inl ⟨u,_,1,_,rfl,rfl,br.of ht2,rfl,_,rfl,jr dr.sg,jr sg,aW (br.of hs2),aW (br.same S hs1),by rw[bA];decide,by rw[bA];decide,_,rfl,?_⟩)⟩;rw[eF];by_cases c2:dr.sg=sg;rotate_left
   ·rw[zzr0 c2];exact bR (keep fun z=>c2 z.2)
   rw[zzr1 c2];refine cR ?_;refine⟨_,rfl,.inr (.inl ⟨u,_,2,_,rfl,rfl,br.of ht2,rfl,f',by rw[aj];exact ar (by omega),nA hi ⟨G++[dr.b],by rw[ax];rfl,?_,aa,by rw[aK];show G.length+1<=i+1;omega,fun g=>?_⟩⟩)⟩
   ·intro b o q;rw[ag (ae q hf)];exact S _ _ q
   ·rw[hstep,<-hG,a_];simp only[aU];exact⟨fun h=>h.imp id fun h=>⟨c1,c2,h.symm⟩,fun h=>h.imp id fun h=>h.2.2.symm⟩
  rintro vs H2 ⟨G,rfl,S2,f2,hl,hG⟩;rw[aj,Paired.length T.ds]at hl;rw[aj,Paired.length T.ds,aR]at hG;refine⟨t,f,l1,l2,l3,l4,ts,J0,J1,J2,G,ds,rfl,T1.same S2,m,f2,by omega,fun t' H' h1 S'=>k t' H' ?_ ((Sn.trans S2).trans S')⟩;rw[h1];unfold behF;rw[if_neg c]
  suffices e0:closF J2 ds G=closF J2 ds (dz ds sg J6) by rw[e0]
  refine AM fun g=>?_;rw[hG,iA];constructor
  ·rintro⟨⟨a,sgd,b⟩,hd,h1,h2,h3⟩;simp only at h1 h2 h3;subst h2 h3;exact⟨a,h1,hd⟩
  ·rintro⟨r,hr,h⟩;exact⟨_,h,hr,rfl,rfl⟩
theorem C3{K:Za}:∀xs:List Str,TKIns K H (xs.map mV) (xs.map V.str)
 |[]=>by show TKIns K H [] [];unfold TKIns;rfl
 |x::xs=>by
  rw[bI,bI];unfold TKIns;refine⟨_,_,rfl,?_,C3 xs⟩;unfold mV je
  rfl
theorem aS.sq{K:Za}(h:aS K H a xs):br K H a xs:=h.imp .inl id
theorem mN{K:Za}{f:Zb}(h:aS K H a (f.map V.str)):je K H (fB f) (.ref a):=by
 unfold fB je;exact⟨a,_,rfl,aS.sq h,C3 f⟩
def Bg(K:Za):TS :=
 ap (aP (dA (bh)) U2)
 (ap (om (tB (Fu (gR K V0 V1))) (ap (aP (gR K V0 V1) (g0 K 2 (aY U1 (aY U3 (gP)))))
 (bV (vp K "list" cT V2 (ay V3)))))
 (ap (bV (Hk K "list" Ag V2))
 (bc V2)))
def Cu:List Str:=["came","place","story","sign"]
def vx(K:Za)(sp_story_to:Sp):TS :=
 ap (aP (xX K (bw (aO (tC (.int 0)) (tC (.int 0)))) (tC .non)) U2)
 (ap (aP (dA (ay (bw (aO (tC (.int 0)) (tC (.int 0)))))) U3)
 (ap (aP (tC (.int 0)) U4)
 (ap (om (aQ (aI Ep V4 (dB (eG K) (ay V3)))) (ap (aP (aI (cV K) V3 V4) U5)
 (ap (JM 4 (tC (.int 1)) (ipI fun i j=>i+j))
 (ap (aP (aI (cV K) V0 (aI (lD K) V5 (tC (.int 0)))) U6)
 (dR (yG K (aI (cV K) V1 (aI (lD K) V5 (tC (.int 1))))) (g0 K 2 (aY U7 (aY U8 (gP)))) (bS (tB (dk K V7 V6)) (bS (aQ (aI HJ (aI (lD K) V7 (tC (.int 0))) (tC (.str "ask")))) (bc (bw (aO (aM sp_story_to (au V2 (ay V5))) V7))) (bg)) (bS (tB (dk K (bw (aO (gR K V6 V7) V8)) V2)) (ap (jF K V2 (bw (aO (gR K V6 V7) V8)) (bw (aO V5 V7)))
 (bV (vp K "list" cT V3 (ay (bw (aO (gR K V6 V7) V8)))))) (bg))))))))
 (bc (tC .non)))))
def v5:List Str:=["model_steps","machine_steps","came","pairs","looked","here","wanted","sign","goal"]
def vt(K:Za)(C_Machine:Addr)(sp_Machine_is_quiet:Sp)(a_HUSH:Addr)(sp_Machine_doors_from:Sp)(a_STILL:Addr):TS :=
 ap (aP (dA (bh)) U4)
 (ap (dR (bT K (cZ C_Machine "doors_from" sp_Machine_doors_from [] E0 V0 (ay V1))) (g0 K 3 (aY U5 (aY U6 (aY U7 (gP))))) (bS (aQ (aI (j5 K) V6 (tC (.ref a_STILL)))) (bV (vp K "list" cT V4 (ay (bw (aO V7 V2))))) (bS (Ea (tB (sw K V6 V3)) (aQ (aI zg (aI (lD K) V6 (tC (.int 0))) (tC (.str "say"))))) (bV (vp K "list" cT V4 (ay (bw (aO V7 (yb K V3 V6)))))) (bg))))
 (ap (bS (tB (cZ C_Machine "is_quiet" sp_Machine_is_quiet [] E0 V0 (ay V1))) (bV (vp K "list" cT V4 (au (bw (aO V1 (yb K V3 (tC (.ref a_HUSH))))) bh))) (bg))
 (bc V4)))
def v2:List Str:=["I","room","face","steps","rows","start","sign","goal"]
def Bi(K:Za)(sp_rows_needed:Sp)(C_Machine:Addr)(sp_Machine_rooms:Sp):TS :=
 ap (aP (bw (aO (aI (cV K) (cZ C_Machine "rooms" sp_Machine_rooms [] E0 V1 bh) (tC (.int 0))) (tC (.int 0)))) U2)
 (ap (aP (xX K V2 (tC (.bl true))) U3)
 (ap (aP (dA (ay V2)) U4)
 (ap (om (aQ (aI Er (dB (eG K) (ay V4)) (tC (.int 0)))) (ap (aP (Hk K "list" Jg V4) (g0 K 2 (aY U5 (aY U6 (gP)))))
 (dR (bT K (aM sp_rows_needed (au V1 (dW V5 V6 (aI (cV K) (gk K V0 "steps") V6))))) U7 (bS (tB (dk K V7 V3)) (ap (jF K V3 V7 (tC (.bl true)))
 (bV (vp K "list" cT V4 (ay V7)))) (bg)))))
 (bc (c6 2 [0] (Ca K V3) (g0 K 2 (aY U0 (aY U1 (gP)))) (kG) (bw (aO V0 (aI (cV K) (gk K V2 "faces") V1))))))))
def Cw:List Str:=["model","I","first","rows","waiting","room","number","row"]
def Hi(K:Za)(sp_paper_of:Sp)(sp_least_fault:Sp)(C_FaceMap:Addr)(sp_FaceMap_init:Sp)(sp_need_taker:Sp):TS :=
 ap (bV (aM sp_need_taker (aO V0 V1)))
 (ap (aP (zI C_FaceMap sp_FaceMap_init [] E0 (ay V0)) U2)
 (ap (aP (aM sp_least_fault (aO (gk K V2 "steps") (gk K (zI C_FaceMap sp_FaceMap_init [] E0 (ay V1)) "steps"))) U3)
 (ap (bS (tB (Hj V3)) (bc (bw (aO (tC (.str "keeps")) (aM sp_paper_of (au V2 (ay V1)))))) (bg))
 (ap (aP V3 (g0 K 2 (aY U4 (aY U5 (gP)))))
 (bc (bw (dW (tC (.str "fault")) V4 V5)))))))
def IB:List Str:=["M","I","model","fault","story","sign"]
abbrev Pr:=Nat×Nat
structure cr where
 key:Pr
 from_:Option (Pr×Sg)
 story:List Sg
def jK(P:List cr)(k:Pr):Bool:=P.any fun c=>decide (c.key=k)
def bL(l:List (Sg×Nat))(sg:Sg):Option Nat:=(l.find? fun p=>decide (p.1=sg)).map (·.2)
def ga(wanted:List (Sg×Nat))(here:cr)(q:List cr×Option Sg)(p:Sg×Nat):List cr×Option Sg :=
 match q.2 with
 |some _=>q
 |none=>match bL wanted p.1 with
  |none=>if p.1.head?=some ("ask":Str)then q else(q.1,some p.1)
  |some w=>if jK q.1 (w,p.2)=true then q else(q.1++[⟨(w,p.2),some (here.key,p.1),here.story++[p.1]⟩],none)
def cE(wanted:List (Sg×Nat))(here:cr)(P:List cr)(l:List (Sg×Nat)):List cr×Option Sg:=l.foldl (ga wanted here) (P,none)
structure oY(ms ws:List (List (Sg×Nat)))(P:List cr):Prop where
 zero:∃r,P=⟨(0,0),none,[]⟩::r
 nd:(P.map (·.key)).Nodup
 back:∀(i:Nat) (c:cr),P[i]?=some c->i=0∨∃(j:Nat) (b:cr) (sg:Sg),j<i/\P[j]?=some b/\c.from_=some (b.key,sg)/\c.story=b.story++[sg]/\bL (ws.getD b.key.1 []) sg=some c.key.1/\(sg,c.key.2)∈ms.getD b.key.2 []
theorem pX:jK P k=true↔k∈P.map (·.key):=by
 unfold jK;rw[List.any_eq_true,aw];exact⟨fun⟨c,h,e⟩=>⟨c,h,of_decide_eq_true e⟩,fun⟨c,h,e⟩=>⟨c,h,zzr1 e⟩⟩
theorem EU(ms ws:List (List (Sg×Nat))):oY ms ws [⟨(0,0),none,[]⟩]:=by
 refine⟨⟨[],rfl⟩,by simp,fun i c h=>?_⟩;rcases w8 i with z|z
 ·exact .inl z
 ·rw[fS (by show 1<=i;exact z)]at h;cases h
theorem oY.add(h:oY ms ws P){j:Nat}{b:cr}{w g:Nat}(hj:P[j]?=some b)(hn:jK P (w,g)=false)(hw:bL (ws.getD b.key.1 []) sg=some w)(hg:(sg,g)∈ms.getD b.key.2 []):
  oY ms ws (P++[⟨(w,g),some (b.key,sg),b.story++[sg]⟩]):=by
 have lt:j<P.length:=by
  rcases iR j P.length with z|z
  ·exact z
  ·rw[fS z]at hj;cases hj
 obtain⟨r,e⟩:=h.zero;refine⟨⟨r++[⟨(w,g),some (b.key,sg),b.story++[sg]⟩],by rw[e];rfl⟩,?_,fun i c hc=>?_⟩
 ·rw[ax,cJ];refine⟨h.nd,by simp,fun x hx y hy z=>?_⟩;have:jK P (w,g)=true:=pX.2 (by rw[<-show y=(w,g)from by simpa using hy,<-z];exact hx);rw[hn]at this;cases this
 ·rcases iR i P.length with z|z
  ·rw[fk z]at hc;rcases h.back i c hc with q|⟨j',b',sg',q1,q2,q3⟩
   ·exact .inl q
   ·exact .inr ⟨j',b',sg',q1,by rw[fk (by omega)];exact q2,q3⟩
  ·rw[n6 z]at hc;have h0:i-P.length=0:=by
    rcases w8 (i-P.length)with q|q
    ·exact q
    ·rw[fS (by show 1<=_;exact q)]at hc;cases hc
   rw[h0]at hc;injection hc with hc;subst hc;exact .inr ⟨j,b,sg,by omega,by rw[fk lt];exact hj,rfl,rfl,hw,hg⟩
theorem Go(h:oY ms ws P){j:Nat}{b:cr}(hj:P[j]?=some b)(l:List (Sg×Nat))(hl:∀p∈l,p∈ms.getD b.key.2 []):
  (∃r,(cE (ws.getD b.key.1 []) b P l).1=P++r)/\oY ms ws (cE (ws.getD b.key.1 []) b P l).1/\∀sg,(cE (ws.getD b.key.1 []) b P l).2=some sg->(∃g,(sg,g)∈l)/\bL (ws.getD b.key.1 []) sg=none/\sg.head?≠some ("ask":Str):=by
 have key:∀n,n<=l.length->(∃r,(cE (ws.getD b.key.1 []) b P (l.take n)).1=P++r)/\oY ms ws (cE (ws.getD b.key.1 []) b P (l.take n)).1/\∀sg,(cE (ws.getD b.key.1 []) b P (l.take n)).2=some sg->(∃g,(sg,g)∈l)/\bL (ws.getD b.key.1 []) sg=none/\sg.head?≠some ("ask":Str):=by
  intro n
  induction n with
  |zero=>intro _;exact⟨⟨[],(dj _).symm⟩,h,fun sg e=>by cases e⟩
  |succ n ih =>
   intro hn;obtain⟨⟨r,e1⟩,h2,h3⟩:=ih (by omega);have hp:l[n]?=some l[n]:=b9 (by omega);have es:cE (ws.getD b.key.1 []) b P (l.take (n+1))=ga (ws.getD b.key.1 []) b (cE (ws.getD b.key.1 []) b P (l.take n)) l[n]:=by
    unfold cE;rw[take_snoc hp,ky];rfl
   rw[es];generalize cE (ws.getD b.key.1 []) b P (l.take n)=q at e1 h2 h3;have hm:l[n]∈l:=lK _;generalize l[n]=p at hm;unfold ga;cases e2:q.2 with
   |some s=>exact⟨⟨r,e1⟩,h2,fun sg e=>h3 sg e⟩
   |none =>
    cases e3:bL (ws.getD b.key.1 []) p.1 with
    |none =>
     by_cases c:p.1.head?=some ("ask":Str)
     ·simp only[c,if_true];exact⟨⟨r,e1⟩,h2,fun sg e=>h3 sg e⟩
     ·simp only[c,if_false];refine⟨⟨r,e1⟩,h2,fun sg e=>?_⟩;injection e with e;subst e;exact⟨⟨p.2,hm⟩,e3,c⟩
    |some w =>
     cases e4:jK q.1 (w,p.2)with
     |true =>
      simp only[e4,if_true];exact⟨⟨r,e1⟩,h2,fun sg e=>h3 sg e⟩
     |false =>
      simp only[e4,lN,if_false];refine⟨⟨r++[⟨(w,p.2),some (b.key,p.1),b.story++[p.1]⟩],by rw[e1,c9]⟩,h2.add (j:=j) (b:=b) ?_ e4 e3 (hl p hm),fun sg e=>by cases e⟩;rw[e1,fk (by rcases iR j P.length with z|z;exact z;rw[fS z]at hj;cases hj)];exact hj
 have:=key l.length (aA _);rw[aR]at this;exact this
def o7(k:Pr):TK:=.t [.k (some (.inl (k.1:Int))),.k (some (.inl (k.2:Int)))]
theorem Dj(h:o7 a=o7 b):a=b:=by
 unfold o7 at h;injection h with h;injection h with h1 h2;injection h2 with h2 _;injection h1 with h1;injection h2 with h2;injection h1 with h1;injection h2 with h2;injection h1 with h1;injection h2 with h2;obtain⟨a1,a2⟩:=a;obtain⟨b1,b2⟩:=b;simp only at h1 h2;rw[show a1=b1 by omega,show a2=b2 by omega]
theorem gb(k:Pr):(o7 k).depth<=8:=by
 show max 0 (max 0 0)+1<=8
 decide
abbrev mD(H:Hp)(a:Addr)(k:Pr):Prop:=H a=some (.tup [.int (k.1:Nat),.int (k.2:Nat)])
theorem mD.tk(h:mD H a k):cW H (o7 k) (.ref a):=by
 unfold o7 cW;refine⟨a,_,rfl,h,?_⟩;unfold TKAts;refine⟨_,_,rfl,?_,?_⟩
 ·unfold cW;rfl
 unfold TKAts;refine⟨_,_,rfl,?_,?_⟩
 ·unfold cW;rfl
 unfold TKAts
 rfl
def qi(K:Za)(H:Hp)(c:cr)(v:V):Prop:=match c.from_ with
 |none=>v=.non
 |some (k,sg)=>∃t ha g,v=.ref t/\H t=some (.tup [.ref ha,.ref g])/\mD H ha k/\aS K H g (sg.map V.str)
theorem qi.kt{K:Za}(k:gM H H')(h:qi K H c v):qi K H' c v:=by
 unfold qi at h ⊢;cases e:c.from_ with
 |none=>rw[e]at h;exact h
 |some p =>
  rw[e]at h;obtain⟨t,ha,g,h1,h2,h3,h4⟩:=h;exact⟨t,ha,g,h1,k _ _ h2,k _ _ h3,aS.kt k h4⟩
abbrev iu(K:Za)(H:Hp)(kvs:List (TK×V))(P:List cr):Prop:=Paired (fun(kv:TK×V) (c:cr)=>kv.1=o7 c.key/\qi K H c kv.2) kvs P
theorem iu.kt{K:Za}(k:gM H H')(h:iu K H kvs P):iu K H' kvs P:=Paired.mapP h fun _ _ r=>⟨r.1,r.2.kt k⟩
theorem iu.val{K:Za}:∀{kvs:List (TK×V)}{P:List cr},iu K H kvs P->(P.map (·.key)).Nodup->∀{i:Nat}{c:cr},P[i]?=some c->∃v,bq kvs (o7 c.key)=some v/\qi K H c v
 |_,_,.nil,_,i,c,h=>by simp at h
 |_,_,.cons (a:=kv) (b:=b) r t,nd,0,c,h=>by
  injection h with h;subst h;exact⟨kv.2,cz r.1,r.2⟩
 |_,_,.cons (a:=kv) (b:=b) r t,nd,i+1,c,h=>by
  rw[bI,io]at nd;rw[List.getElem?_cons_succ]at h;obtain⟨v,h1,h2⟩:=iu.val t nd.2 (i:=i) h;refine⟨v,?_,h2⟩;rw[bY,h1];intro z;rw[r.1]at z;exact nd.1 (by rw[Dj z];exact kz (f:=(·.key)) (aZ h))
theorem iu.none{K:Za}(h:iu K H kvs P)(n:jK P k=false):bq kvs (o7 k)=.none:=by
 refine xN ?_
 induction h with
 |nil=>intro kv hk;exact nomatch hk
 |@cons a b as bs r t ih =>
  intro kv hk;have n':decide (b.key=k)=false/\jK bs k=false:=by
   unfold jK at n ⊢;rw[nX,Bool.or_eq_false_iff]at n;exact n
  rcases cH.1 hk with rfl|hk
  ·rw[r.1];exact fun e=>of_decide_eq_false n'.1 (Dj e)
  ·exact ih n'.2 kv hk
theorem Paired.rev{α β:Type}{R:α->β->Prop}:∀{a:List α}{b:List β},Paired R a b->Paired R a.reverse b.reverse
 |_,_,.nil=>.nil
 |_,_,.cons r t=>by
  rw[xH,xH];exact Paired.app (Paired.rev t) (.cons r .nil)
inductive fU(K:Za)(vs:List V)(H:Hp)(Q:VK)(E:XK):Prop
 |mk (cd pa:Addr) (kvs:List (TK×V)) (ms ws:List (List (Sg×Nat))) (P:List cr) (i:Nat) (c:cr):(vs=[.ref cd,.ref pa])->(H cd=some (.dT kvs))->(iu K H kvs P)->(oY ms ws P)->(P[i]?=some c)->(mD H pa c.key)->(P.length<=100000)->(∀(l:Addr) (gs:Ze) (H':Hp),H' l=some (.lst (gs.map V.ref))->Paired (fun g (sg:Sg)=>aS K H' g (sg.map V.str)) gs c.story->H l=none->ab H H'->Q (.ref l) H')->fU K vs H Q E
theorem BE{K:Za}(h:fU K vs H Q E):Bg K (bJ Q) (start Cu vs) H:=by
 obtain⟨cd,pa,kvs,ms,ws,P,i,c,rfl,hcd,hP,ok,hc,hpa,hz,k⟩:=h;refine⟨(by show 0<=ai;decide),fun l hl=>?_⟩;have hi:i<P.length:=by
  rcases iR i P.length with z|z
  ·exact z
  ·rw[fS z]at hc;cases hc
 refine⟨fun m σ H'=>∃(pa:Addr) (c':cr) (gs:Ze) (L:List Sg) (x3:Option V),σ=[some (.ref cd),some (.ref pa),some (.ref l),x3]/\P[m]?=some c'/\H' l=some (.lst (gs.map V.ref))/\Paired (fun g (sg:Sg)=>aS K H' g (sg.map V.str)) gs L/\c.story=c'.story++L.reverse/\mD H' pa c'.key/\L.length+m<=i/\ab H H',
  ⟨i,pa,c,[],[],_,rfl,hc,aa,.nil,(dj _).symm,kp hpa hl,by simp,ab.new hl⟩,?_⟩
 rintro m σ H1 ⟨pa,c',gs,L,x3,rfl,hc',hl1,hg,es,hpa1,hlen,S1⟩;have P1:=hP.kt (ab.kt S1);have cd1:=S1 _ _ hcd;obtain⟨v,hv,cv⟩:=P1.val ok.nd hc';have g1:ir K H1 cd (.ref pa) (some v):=.inr ⟨_,o7 c'.key,pa,.inl cd1,rfl,cW.isIn 8 (gb _) hpa1.tk,gb _,hv.symm⟩;refine⟨_,rfl,_,rfl,cd,v,rfl,g1,_,rfl,?_⟩;unfold qi at cv;cases ef:c'.from_ with
 |none =>
  rw[ef]at cv;subst cv;refine bR ?_;have m0:m=0:=by
   rcases ok.back m c' hc' with q|⟨j,b,sg,_,_,q,_⟩
   ·exact q
   ·rw[ef]at q;cases q
  subst m0;obtain⟨r,er⟩:=ok.zero;rw[er]at hc';injection hc' with hc';have es':c.story=L.reverse:=by rw[es,<-hc'];rfl
  refine⟨_,rfl,.inl ⟨rfl,_,az.of hl1⟩,l,_,rfl,rfl,hl1,?_⟩;have kt:gM H1 (upd H1 l (.lst (gs.map V.ref).reverse)):=cL hl1;refine⟨_,rfl,k l gs.reverse _ (by rw[aa,List.map_reverse]) ?_ hl fun b o e=>by rw[ag (ae e hl)];exact S1 _ _ e⟩;rw[es'];exact Paired.rev (Paired.mapP hg fun _ _ r=>aS.kt kt r)
 |some kp' =>
  obtain⟨kk,sg⟩:=kp';rw[ef]at cv;obtain⟨t,ha,g,rfl,ht,hha,hgs⟩:=cv;refine cR ?_;have par:∃(j:Nat) (b:cr),j<m/\P[j]?=some b/\b.key=kk/\c'.story=b.story++[sg]:=by
   rcases ok.back m c' hc' with q|⟨j,b,sg',lt,hb,q,e,_⟩
   ·subst q;obtain⟨r,er⟩:=ok.zero;rw[er]at hc';injection hc' with hc';rw[<-hc']at ef;cases ef
   ·rw[ef]at q;injection q with q;injection q with q1 q2;subst q2;exact⟨j,b,lt,hb,q1.symm,e⟩
  obtain⟨j,b,lt,hb,rfl,eb⟩:=par;refine⟨fun σ' H'=>∃(pa:Addr) (gs:Ze) (x3:Option V),σ'=[some (.ref cd),some (.ref pa),some (.ref l),x3]/\H' l=some (.lst (gs.map V.ref))/\Paired (fun g (sg:Sg)=>aS K H' g (sg.map V.str)) gs (L++[sg])/\mD H' pa b.key/\ab H H',fun σ' H' ⟨pa,gs,x3,q1,q2,q3,q4,q5⟩=>⟨j,lt,pa,b,gs,L++[sg],x3,q1,hb,q2,q3,?_,q4,?_,q5⟩,?_⟩
  ·rw[es,eb,List.reverse_append,c9];rfl
  ·rw[aK];show L.length+1+j<=i;omega
  refine⟨_,rfl,_,rfl,cd,_,rfl,g1,t,_,rfl,br.of ht,rfl,_,_,rfl,_,_,rfl,rfl,?_⟩;refine⟨_,rfl,.inl ⟨rfl,_,az.of hl1⟩,_,rfl,l,_,.ref g,rfl,rfl,hl1,?_,ha,gs++[g],_,rfl,?_,?_,?_,?_⟩
  ·rw[aj,Paired.length hg,jh];omega
  ·rw[aa,ax];rfl
  ·have kt:gM H1 (upd H1 l (.lst (gs.map V.ref++[.ref g]))):=cL hl1;exact c_ (Paired.mapP hg fun _ _ r=>aS.kt kt r) (aS.kt kt hgs)
  ·exact cL hl1 _ _ hha
  ·intro b' o e;rw[ag (ae e hl)];exact S1 _ _ e
theorem Es{P:List Pr}{a b:Nat}(nd:P.Nodup)(h:∀p∈P,p.1<a/\p.2<b):P.length<=a * b:=by
 have h1:=ka (L:=P.map fun p=>p.1 * b+p.2) (R:=jW (a * b)) ?_ ?_
 ·rw[aj,tw]at h1;exact h1
 ·rw[qr,List.pairwise_map];refine List.Pairwise.imp_of_mem (fun{x y} hx hy hne e=>hne ?_) (qr.1 nd);obtain⟨x1,x2⟩:=x;obtain⟨y1,y2⟩:=y;have hx:=(h _ hx).2;have hy:=(h _ hy).2;simp only at hx hy e;have bp:0<b:=by omega
  have e1:x1=y1:=by
   have:=congrArg (· / b) e;simp only[Nat.add_comm (x1 * b),Nat.add_comm (y1 * b),Nat.add_mul_div_right _ _ bp,Nat.div_eq_of_lt hx,Nat.div_eq_of_lt hy,wZ]at this;exact this
  subst e1;rw[show x2=y2 by omega]
 ·intro x hx;obtain⟨p,hp,rfl⟩:=aw.1 hx;obtain⟨h2,h3⟩:=h p hp;rw[List.mem_range];have:(p.1+1) * b<=a * b:=Nat.mul_le_mul_right b h2;rw[Nat.succ_mul]at this;omega
def lA(ms ws:List (List (Sg×Nat)))(P:List cr)(c:cr):Prop:=∀p∈ms.getD c.key.2 [],match bL (ws.getD c.key.1 []) p.1 with
 |none=>p.1.head?=some ("ask":Str)
 |some w=>jK P (w,p.2)=true
theorem AC{r:List cr}(h:jK P k=true):jK (P++r) k=true:=by
 unfold jK at h ⊢;rw[List.any_append,h];rfl
theorem lA.mono{r:List cr}(h:lA ms ws P c):lA ms ws (P++r) c:=fun p hp=>by
 have:=h p hp;cases e:bL (ws.getD c.key.1 []) p.1 with
 |none=>rw[e]at this;exact this
 |some w=>rw[e]at this;exact AC this
theorem BV{ws:List (List (Sg×Nat))}{b:cr}(l:List (Sg×Nat))(h:(cE (ws.getD b.key.1 []) b P l).2=none):∀p∈l,match bL (ws.getD b.key.1 []) p.1 with
 |none=>p.1.head?=some ("ask":Str)
 |some w=>jK (cE (ws.getD b.key.1 []) b P l).1 (w,p.2)=true:=by
 have key:∀n,n<=l.length->(cE (ws.getD b.key.1 []) b P (l.take n)).2=none->∀p∈l.take n,match bL (ws.getD b.key.1 []) p.1 with
  |none=>p.1.head?=some ("ask":Str)
  |some w=>jK (cE (ws.getD b.key.1 []) b P (l.take n)).1 (w,p.2)=true:=by
  intro n
  induction n with
  |zero=>intro _ _ p hp;rw[sX]at hp;exact nomatch hp
  |succ n ih =>
   intro hn;have hp:l[n]?=some l[n]:=b9 (by omega);have es:cE (ws.getD b.key.1 []) b P (l.take (n+1))=ga (ws.getD b.key.1 []) b (cE (ws.getD b.key.1 []) b P (l.take n)) l[n]:=by
    unfold cE;rw[take_snoc hp,ky];rfl
   rw[es,take_snoc hp];have ih:=ih (by omega);generalize cE (ws.getD b.key.1 []) b P (l.take n)=q at ih;generalize l[n]=p at *;intro h0 x hx;have q0:q.2=none:=by
    unfold ga at h0;cases e:q.2 with
    |none=>rfl
    |some s=>rw[e]at h0;simp only at h0;rw[e]at h0;exact h0
   unfold ga at h0 ⊢;rw[q0]at h0 ⊢;rcases a_.1 hx with hx|hx
   ·have:=ih q0 x hx;cases e:bL (ws.getD b.key.1 []) x.1 with
    |none=>rw[e]at this;exact this
    |some w =>
     rw[e]at this;simp only at this ⊢;cases e3:bL (ws.getD b.key.1 []) p.1 with
     |none =>
      by_cases c:p.1.head?=some ("ask":Str)
      ·simp only[c,if_true];exact this
      ·simp only[c,if_false];exact this
     |some w' =>
      cases e4:jK q.1 (w',p.2)with
      |true=>simp only[e4,if_true];exact this
      |false=>simp only[e4,lN,if_false];exact AC this
   ·have:x=p:=by simpa using hx
    subst this;cases e3:bL (ws.getD b.key.1 []) x.1 with
    |none =>
     rw[e3]at h0;by_cases c:x.1.head?=some ("ask":Str)
     ·exact c
     ·simp only[c,if_false]at h0;cases h0
    |some w =>
     simp only;cases e4:jK q.1 (w,x.2)with
     |true=>simp only[e4,if_true]
     |false =>
      simp only[e4,lN,if_false];exact pX.2 (by rw[ax];exact cC _ (by simp))
 have:=key l.length (aA _);rw[aR]at this;exact this h
theorem wD:bq (stK l) (fB sg)=(bL l sg).map fun n=>V.int (n:Nat):=by
 unfold bL stK
 induction l with
 |nil=>rfl
 |cons p l ih =>
  rw[bI];by_cases c:p.1=sg
  ·rw[cz (by show fB p.1=fB sg;rw[c]),List.find?_cons_of_pos (by simpa using c)];rfl
  ·rw[bY (fun z=>c (iC z)),List.find?_cons_of_neg (by simpa using c),ih]
structure nD(H0 H:Hp)(a1 a2:Addr)(ts1 ts2:Ze)(ws ms:List (List (Sg×Nat))):Prop where
 h1:H a1=some (.lst (ts1.map V.ref))
 h2:H a2=some (.lst (ts2.map V.ref))
 r1:A9 H0 H ts1 ws
 r2:A9 H0 H ts2 ms
 S:ab H0 H
theorem nD.same{a1 a2:Addr}(h:nD H0 H a1 a2 ts1 ts2 ws ms)(S:ab H H'):nD H0 H' a1 a2 ts1 ts2 ws ms :=
 ⟨S _ _ h.h1,S _ _ h.h2,Paired.mapP h.r1 fun _ _ r=>⟨r.1,Rd.same S r.2⟩,Paired.mapP h.r2 fun _ _ r=>⟨r.1,Rd.same S r.2⟩,h.S.trans S⟩
theorem Rd.ne{a d:Addr}{k:List (TK×V)}{o:HO}(n:a≠d)(h:Rd H a (.dT k)):Rd (upd H d o) a (.dT k):=by
 rcases h with h|⟨q,h⟩
 ·exact .inl (by rw[ag n];exact h)
 ·exact .inr ⟨q,by rw[ag n];exact h⟩
theorem nD.own{a1 a2 d:Addr}{o:HO}(h:nD H0 H a1 a2 ts1 ts2 ws ms)(d0:H0 d=none)(n1:a1≠d)(n2:a2≠d)(m1:∀t∈ts1,t≠d)(m2:∀t∈ts2,t≠d):nD H0 (upd H d o) a1 a2 ts1 ts2 ws ms:=by
 have mem:∀{ts:Ze}{st:List (List (Sg×Nat))},A9 H0 H ts st->(∀t∈ts,t≠d)->A9 H0 (upd H d o) ts st:=by
  intro ts st r
  induction r with
  |nil=>intro _;exact .nil
  |@cons a b as bs q t ih=>intro m;exact .cons ⟨q.1,Rd.ne (m a dU) q.2⟩ (ih fun x hx=>m x (eI _ hx))
 exact⟨by rw[ag n1];exact h.h1,by rw[ag n2];exact h.h2,mem h.r1 m1,mem h.r2 m2,fun b q e=>by rw[ag (ae e d0)];exact h.S _ _ e⟩
theorem nD.frz{a1 a2 d:Addr}{o:Obj}{kvs:List (TK×V)}(h:nD H0 H a1 a2 ts1 ts2 ws ms)(d0:H0 d=none)(hd:H d=some (.dT kvs)):nD H0 (upd H d (.frz o (.dT kvs))) a1 a2 ts1 ts2 ws ms :=
 ⟨by rw[ag (fun z=>by have:=h.h1;rw[z,hd]at this;cases this)];exact h.h1,by rw[ag (fun z=>by have:=h.h2;rw[z,hd]at this;cases this)];exact h.h2,
  Paired.mapP h.r1 fun _ _ r=>⟨r.1,Rd.frz hd r.2⟩,Paired.mapP h.r2 fun _ _ r=>⟨r.1,Rd.frz hd r.2⟩,fun b q e=>by rw[ag (ae e d0)];exact h.S _ _ e⟩
theorem A9.ne{st:List (List (Sg×Nat))}(h:A9 H0 H ts st)(n:∀k,¬Rd H d (.dT k)):∀t∈ts,t≠d:=by
 induction h with
 |nil=>intro t ht;exact nomatch ht
 |@cons a b as bs q t ih =>
  intro x hx;rcases cH.1 hx with rfl|hx
  ·intro z;subst z;exact n _ q.2
  ·exact ih x hx
structure iF(K:Za)(H0 H:Hp)(a1 a2 cd pl:Addr)(ts1 ts2 prs:Ze)(kvs:List (TK×V))(ws ms:List (List (Sg×Nat)))(P:List cr):Prop where
 i:nD H0 H a1 a2 ts1 ts2 ws ms
 hcd:H cd=some (.dT kvs)
 came:iu K H kvs P
 hpl:H pl=some (.lst (prs.map V.ref))
 hprs:Paired (fun a (c:cr)=>mD H a c.key) prs P
 ok:oY ms ws P
 rg:∀c∈P,c.key.1<ts1.length/\c.key.2<ts2.length
 c0:H0 cd=none
 p0:H0 pl=none
 nc1:∀t∈ts1,t≠cd
 nc2:∀t∈ts2,t≠cd
 np1:a1≠pl
 np2:a2≠pl
theorem iF.same{K:Za}{a1 a2:Addr}(h:iF K H0 H a1 a2 cd pl ts1 ts2 prs kvs ws ms P)(S:ab H H'):iF K H0 H' a1 a2 cd pl ts1 ts2 prs kvs ws ms P :=
 ⟨h.i.same S,S _ _ h.hcd,h.came.kt (ab.kt S),S _ _ h.hpl,Paired.mapP h.hprs fun _ _ r=>S _ _ r,h.ok,h.rg,h.c0,h.p0,h.nc1,h.nc2,h.np1,h.np2⟩
theorem iF.few2{K:Za}{a1 a2:Addr}(h:iF K H0 H a1 a2 cd pl ts1 ts2 prs kvs ws ms P):P.length<=ts1.length * ts2.length:=by
 have:=Es (P:=P.map (·.key)) (a:=ts1.length) (b:=ts2.length) h.ok.nd fun p hp=>by
  obtain⟨c,hc,rfl⟩:=aw.1 hp;exact h.rg c hc
 rw[aj]at this;exact this
theorem iF.few{K:Za}{a1 a2:Addr}(h:iF K H0 H a1 a2 cd pl ts1 ts2 prs kvs ws ms P)(z1:ts1.length<=256)(z2:ts2.length<=256):P.length<=65536:=by
 have:=h.few2;have h2:ts1.length * ts2.length<=256 * 256:=sW z1 z2;omega
theorem iF.frz{K:Za}{a1 a2 d:Addr}{o:Obj}{kd:List (TK×V)}(h:iF K H0 H a1 a2 cd pl ts1 ts2 prs kvs ws ms P)(d0:H0 d=none)(hd:H d=some (.dT kd))(n:d≠cd):iF K H0 (upd H d (.frz o (.dT kd))) a1 a2 cd pl ts1 ts2 prs kvs ws ms P :=
 ⟨h.i.frz d0 hd,by rw[ag n.symm];exact h.hcd,h.came.kt (A6 hd),by rw[ag (fun z=>by have:=h.hpl;rw[z,hd]at this;cases this)];exact h.hpl,Paired.mapP h.hprs fun _ _ r=>A6 hd _ _ r,h.ok,h.rg,h.c0,h.p0,h.nc1,h.nc2,h.np1,h.np2⟩
theorem iF.add{K:Za}{a1 a2:Addr}(h:iF K H0 H a1 a2 cd pl ts1 ts2 prs kvs ws ms P){c:cr}(hn:jK P c.key=false)(hv:qi K H c v)(hpa:mD H pa c.key)(ok:oY ms ws (P++[c]))(rg:c.key.1<ts1.length/\c.key.2<ts2.length):
  iF K H0 (upd (upd H cd (.dT (cM kvs (o7 c.key) v))) pl (.lst (prs.map V.ref++[.ref pa]))) a1 a2 cd pl ts1 ts2 (prs++[pa]) (kvs++[(o7 c.key,v)]) ws ms (P++[c]):=by
 have npc:pl≠cd:=fun z=>by have:=h.hpl;rw[z,h.hcd]at this;cases this
 have k1:gM H (upd H cd (.dT (cM kvs (o7 c.key) v))):=A6 h.hcd;have pl1:upd H cd (.dT (cM kvs (o7 c.key) v)) pl=some (.lst (prs.map V.ref)):=by rw[ag npc];exact h.hpl
 have k2:gM H (upd (upd H cd (.dT (cM kvs (o7 c.key) v))) pl (.lst (prs.map V.ref++[.ref pa]))):=k1.trans (cL pl1);have na1:a1≠cd:=fun z=>by have:=h.i.h1;rw[z,h.hcd]at this;cases this
 have na2:a2≠cd:=fun z=>by have:=h.i.h2;rw[z,h.hcd]at this;cases this
 have i1:=h.i.own (o:=.dT (cM kvs (o7 c.key) v)) h.c0 na1 na2 h.nc1 h.nc2;have nr:∀k,¬Rd (upd H cd (.dT (cM kvs (o7 c.key) v))) pl (.dT k):=fun k r=>by
  rcases r with r|⟨o,r⟩
  ·rw[pl1]at r;cases r
  ·rw[pl1]at r;cases r
 refine⟨i1.own h.p0 h.np1 h.np2 (A9.ne i1.r1 nr) (A9.ne i1.r2 nr),?_,?_,?_,?_,ok,?_,h.c0,h.p0,h.nc1,h.nc2,h.np1,h.np2⟩
 ·rw[ag npc.symm,aa,dq _ (h.came.none hn)]
 ·exact c_ (h.came.kt k2) ⟨rfl,hv.kt k2⟩
 ·rw[aa,ax];rfl
 ·exact c_ (Paired.mapP h.hprs fun _ _ r=>k2 _ _ r) (k2 _ _ hpa)
 ·intro x hx;rcases a_.1 hx with hx|hx
  ·exact h.rg x hx
  ·rw[aU.1 hx];exact rg
structure KB(ts1 ts2:Ze)(ws ms:List (List (Sg×Nat))):Prop where
 z1:ts1.length<=256
 z2:ts2.length<=256
 c1:∀i,∀p∈ws.getD i [],p.2<ts1.length
 c2:∀i,∀p∈ms.getD i [],p.2<ts2.length
 ne:∀i,∀p∈ms.getD i [],p.1≠[]
theorem uK{w:Nat}(h:bL l sg=some w):(sg,w)∈l:=by
 unfold bL at h;obtain⟨p,hp,e⟩:=sV.1 h;have h1:=List.find?_some hp;have h2:=List.mem_of_find?_eq_some hp;obtain⟨a,b⟩:=p;have h1:a=sg:=of_decide_eq_true h1;subst h1;have e:b=w:=e;subst e;exact h2
theorem Fl{H:Hp}{a b:Addr}{x y:HO}(n:a≠b):upd (upd H a x) b y=upd (upd H b y) a x:=by
 funext c;unfold upd;by_cases h1:c=b
 ·by_cases h2:c=a
  ·exact absurd (h2.symm.trans h1) n
  ·simp[h1,h2,n.symm]
 ·by_cases h2:c=a
  ·simp[h1,h2,n]
  ·simp[h1,h2]
theorem iu.has{K:Za}(h:iu K H kvs P)(nd:(P.map (·.key)).Nodup)(k:Pr):(bq kvs (o7 k)).isSome=jK P k:=by
 cases e:jK P k with
 |false=>rw[h.none e];rfl
 |true =>
  obtain⟨c,hc,rfl⟩:=aw.1 (pX.1 e);obtain⟨i,hi,ei⟩:=w6 hc;obtain⟨v,h1,_⟩:=h.val nd (i:=i) (c:=c) (by rw[b9 hi,ei]);rw[h1];rfl
def BW(K:Za)(sp:Sp):TS :=
 bS (tB (dk K V7 V6)) (bS (aQ (aI HJ (aI (lD K) V7 (tC (.int 0))) (tC (.str "ask")))) (bc (bw (aO (aM sp (au V2 (ay V5))) V7))) (bg)) (bS (tB (dk K (bw (aO (gR K V6 V7) V8)) V2)) (ap (jF K V2 (bw (aO (gR K V6 V7) V8)) (bw (aO V5 V7)))
 (bV (vp K "list" cT V3 (ay (bw (aO (gR K V6 V7) V8)))))) (bg))
section
variable{K:Za}{H0:Hp}{a1 a2 cd pl ha wd md:Addr}{ts1 ts2:Ze}{ws ms:List (List (Sg×Nat))}{n:Nat}{b:cr}{wl l:List (Sg×Nat)}{o:Obj}{D:mI}
theorem Ib(C:KB ts1 ts2 ws ms){H':Hp}{p:Sg×Nat}{pp:Addr}{x7 x8:Option V}(A:iF K H0 H a1 a2 cd pl ts1 ts2 prs kvs ws ms P)(hb:P[n]?=some b)(hha:mD H ha b.key)(hwd:Rd H wd (.dT (stK wl)))(ewl:wl=ws.getD b.key.1 [])(hp:p∈ms.getD b.key.2 [])(hsb:aS K H sb (p.1.map V.str))(nwc:wd≠cd)
  (fault:∀(t lst:Addr) (gs:Ze) (H2:Hp),bL wl p.1=none->p.1.head?≠some ("ask":Str)->H2 t=some (.tup [.ref lst,.ref sb])->H2 lst=some (.lst (gs.map V.ref))->Paired (fun g (sg:Sg)=>aS K H2 g (sg.map V.str)) gs b.story->aS K H2 sb (p.1.map V.str)->H0 t=none->H0 lst=none->nD H0 H2 a1 a2 ts1 ts2 ws ms->D.rt (.ref t) H2)
  (next:∀(prs':Ze) (kvs':List (TK×V)) (H2:Hp),(ga wl b (P,none) p).2=none->iF K H0 H2 a1 a2 cd pl ts1 ts2 prs' kvs' ws ms (ga wl b (P,none) p).1->(∀x u,H x=some u->x≠cd->x≠pl->H2 x=some u)->D.nx [some (.ref a1),some (.ref a2),some (.ref cd),some (.ref pl),some (.int ((n:Int)+1)),some (.ref ha),some (.ref wd),some (.ref sb),some (.int (p.2:Nat))] H2) :
  BW K (fU K) D [some (.ref a1),some (.ref a2),some (.ref cd),some (.ref pl),some (.int ((n:Int)+1)),some (.ref ha),some (.ref wd),some (.ref sb),some (.int (p.2:Nat))] H:=by
 have few:=A.few C.z1 C.z2;have gw:∀{H:Hp},Rd H wd (.dT (stK wl))->aS K H sb (p.1.map V.str)->ir K H wd (.ref sb) ((bL wl p.1).map fun n=>V.int (n:Nat)):=fun hwd hsb=>.inr ⟨_,fB p.1,sb,hwd,rfl,mN hsb,cO _,wD.symm⟩;refine⟨_,rfl,_,rfl,wd,_,rfl,gw hwd hsb,_,rfl,?_⟩;cases e:bL wl p.1 with
 |none =>
  refine cR ?_;obtain⟨s0,rest,es⟩:=List.exists_cons_of_ne_nil (C.ne _ p hp);have at0:qk (p.1.map V.str) 0=some (.str s0):=by rw[es];exact bH (j:=0) rfl
  refine⟨_,rfl,sb,_,0,_,rfl,rfl,aS.sq hsb,at0,rfl,_,rfl,?_⟩;refine nK (P:=p.1.head?≠some ("ask":Str)) (by rw[es];simp) (fun c=>?_) (fun c=>?_)
  ·refine⟨_,rfl,_,rfl,cd,ha,kvs,ms,ws,P,n,b,rfl,A.hcd,A.came,A.ok,hb,hha,by omega,fun lst gs H2 hl hg hl0 S2=>⟨_,rfl,(by show 2<=ai;decide),fun t ht=>?_⟩⟩;have S3:ab H2 (upd H2 t (.tup [.ref lst,.ref sb])):=ab.new ht;exact fault t lst gs _ e c aa (S3 _ _ hl) (Paired.mapP hg fun _ _ r=>aS.kt (ab.kt S3) r) (aS.kt ((ab.kt S2).trans (ab.kt S3)) hsb) ((A.i.S.trans S2).free ht) (A.i.S.free hl0) (A.i.same (S2.trans S3))
  ·have c':=kr.1 c;have e1:ga wl b (P,none) p=(P,none):=by unfold ga;simp only[e,c',if_true]
   exact next prs kvs H (by rw[e1]) (by rw[e1];exact A) fun x u q _ _=>q
 |some w =>
  refine bR ?_;have gw1:∀{H:Hp},Rd H wd (.dT (stK wl))->aS K H sb (p.1.map V.str)->ir K H wd (.ref sb) (some (.int (w:Nat))):=fun h1 h2=>by
   have:=gw h1 h2;rw[e]at this;exact this
  have hw:=uK e;rw[ewl]at hw;have rg:w<ts1.length/\p.2<ts2.length:=⟨C.c1 _ _ hw,C.c2 _ _ hp⟩;have l2:([V.int (w:Nat),V.int (p.2:Nat)]:List V).length<=ai:=by show 2<=ai;decide
  refine⟨_,rfl,_,rfl,wd,_,rfl,gw1 hwd hsb,_,rfl,l2,fun p1 hp1=>?_⟩;have S1:ab H (upd H p1 (.tup [.int (w:Nat),.int (p.2:Nat)])):=ab.new hp1;have pr1:mD (upd H p1 (.tup [.int (w:Nat),.int (p.2:Nat)])) p1 (w,p.2):=aa;generalize upd H p1 (.tup [.int (w:Nat),.int (p.2:Nat)])=H1 at S1 pr1 ⊢;have A1:=A.same S1;refine⟨_,rfl,cd,_,rfl,.inr ⟨_,o7 (w,p.2),p1,.inl A1.hcd,rfl,cW.isIn 8 (gb _) pr1.tk,gb _,rfl⟩,_,rfl,?_⟩;rw[A1.came.has A1.ok.nd];cases eh:jK P (w,p.2)with
  |true =>
   refine bR ?_;have e1:ga wl b (P,none) p=(P,none):=by unfold ga;simp only[e,eh,if_true]
   exact next prs kvs H1 (by rw[e1]) (by rw[e1];exact A1) fun x u q _ _=>S1 _ _ q
  |false =>
   refine cR ?_;have e1:ga wl b (P,none) p=(P++[⟨(w,p.2),some (b.key,p.1),b.story++[p.1]⟩],none):=by unfold ga;simp only[e,eh,lN,if_false]
   refine⟨_,rfl,_,rfl,(by show 2<=ai;decide),fun t ht=>⟨_,rfl,_,rfl,_,rfl,wd,_,rfl,gw1 (Rd.same (S1.trans (ab.new ht)) hwd) (aS.kt (ab.kt (S1.trans (ab.new ht))) hsb),_,rfl,l2,fun p2 hp2=>?_⟩⟩;have S2:ab H1 (upd H1 t (.tup [.ref ha,.ref sb])):=ab.new ht;have t2:upd H1 t (.tup [.ref ha,.ref sb]) t=some (.tup [.ref ha,.ref sb]):=aa;generalize upd H1 t (.tup [.ref ha,.ref sb])=H2 at S2 t2 hp2 ⊢;have S3:ab H2 (upd H2 p2 (.tup [.int (w:Nat),.int (p.2:Nat)])):=ab.new hp2;have pr3:mD (upd H2 p2 (.tup [.int (w:Nat),.int (p.2:Nat)])) p2 (w,p.2):=aa;generalize upd H2 p2 (.tup [.int (w:Nat),.int (p.2:Nat)])=H3 at S3 pr3 ⊢;have S03:=(S1.trans S2).trans S3;have A3:=A.same S03;have lk:kvs.length<ai:=by rw[Paired.length A.came,jh];omega
   refine⟨cd,p2,kvs,o7 (w,p.2),rfl,rfl,A3.hcd,cW.c 8 (gb _) pr3.tk,gb _,lk,?_⟩;have npc:pl≠cd:=fun z=>by have:=A.hpl;rw[z,A.hcd]at this;cases this
   have pl4:upd H3 cd (.dT (cM kvs (o7 (w,p.2)) (.ref t))) pl=some (.lst (prs.map V.ref)):=by rw[ag npc];exact A3.hpl
   have wd4:Rd (upd H3 cd (.dT (cM kvs (o7 (w,p.2)) (.ref t)))) wd (.dT (stK wl)):=Rd.ne nwc (Rd.same S03 hwd);refine⟨_,rfl,.inl ⟨rfl,_,az.of pl4⟩,_,rfl,_,rfl,wd,_,rfl,gw1 wd4 (aS.kt ((ab.kt S03).trans (A6 A3.hcd)) hsb),_,rfl,l2,fun p3 hp3=>?_⟩;have ncp:cd≠p3:=fun z=>by rw[<-z,aa]at hp3;cases hp3
   have hp3':H3 p3=none:=by rw[ag ncp.symm]at hp3;exact hp3
   rw[Fl ncp];have S4:ab H3 (upd H3 p3 (.tup [.int (w:Nat),.int (p.2:Nat)])):=ab.new hp3';have pr4:mD (upd H3 p3 (.tup [.int (w:Nat),.int (p.2:Nat)])) p3 (w,p.2):=aa;generalize upd H3 p3 (.tup [.int (w:Nat),.int (p.2:Nat)])=H4 at S4 pr4 ⊢;have A4:=A3.same S4;have S04:=S03.trans S4;have pl5:upd H4 cd (.dT (cM kvs (o7 (w,p.2)) (.ref t))) pl=some (.lst (prs.map V.ref)):=by rw[ag npc];exact A4.hpl
   refine⟨pl,_,.ref p3,rfl,rfl,pl5,?_,?_⟩
   ·rw[aj,Paired.length A.hprs,jh];omega
   have cv:qi K H4 ⟨(w,p.2),some (b.key,p.1),b.story++[p.1]⟩ (.ref t):=⟨t,ha,sb,rfl,S4 _ _ (S3 _ _ t2),S04 _ _ hha,aS.kt (ab.kt S04) hsb⟩;refine next (prs++[p3]) (kvs++[(o7 (w,p.2),.ref t)]) _ (by rw[e1]) ?_ fun x u q n1 n2=>by rw[ag n2,ag n1];exact S04 _ _ q
   rw[e1];exact A4.add (c:=⟨(w,p.2),some (b.key,p.1),b.story++[p.1]⟩) eh cv pr4 (A.ok.add hb eh (by rw[<-ewl];exact e) hp) rg
end
def oE(ms ws:List (List (Sg×Nat))):Nat->List cr×Option (List Sg×Sg)
 |0=>([⟨(0,0),none,[]⟩],none)
 |n+1=>match (oE ms ws n).2 with
  |some _=>oE ms ws n
  |none=>match (oE ms ws n).1[n]? with
   |none=>oE ms ws n
   |some c=>((cE (ws.getD c.key.1 []) c (oE ms ws n).1 (ms.getD c.key.2 [])).1,(cE (ws.getD c.key.1 []) c (oE ms ws n).1 (ms.getD c.key.2 [])).2.map fun sg=>(c.story,sg))
theorem Ay{P:List cr}{c:cr}(h:oE ms ws n=(P,none))(hc:P[n]?=some c):oE ms ws (n+1)=((cE (ws.getD c.key.1 []) c P (ms.getD c.key.2 [])).1,(cE (ws.getD c.key.1 []) c P (ms.getD c.key.2 [])).2.map fun sg=>(c.story,sg)):=by
 show(match (oE ms ws n).2 with|some _=>_|none=>_)=_
 rw[h];simp only[hc]
theorem rW(w:List (Sg×Nat))(b:cr):∀(l:List (Sg×Nat)) (q:List cr×Option Sg) (s:Sg),q.2=some s->(l.foldl (ga w b) q).2=some s
 |[],_,_,h=>h
 |p::l,q,s,h=>by
  rw[nR];have e:ga w b q p=q:=by unfold ga;rw[h]
  rw[e];exact rW w b l q s h
theorem Ax{l:List (Sg×Nat)}{i:Nat}{p:Sg×Nat}(h:(cE w b P (l.take i)).2=none)(hp:l[i]?=some p)(h1:bL w p.1=none)(h2:p.1.head?≠some ("ask":Str)):(cE w b P l).2=some p.1:=by
 have e:l=l.take i++p::l.drop (i+1):=by
  obtain⟨hi,ei⟩:=cu.1 hp;rw[<-ei,List.getElem_cons_drop hi,sZ]
 unfold cE at h ⊢;rw[e,ky,nR];refine rW w b _ _ _ ?_;generalize(l.take i).foldl (ga w b) (P,none)=q at h;unfold ga;simp only[h,h1,h2,if_false]
theorem A9.rd{st:List (List (Sg×Nat))}(h:A9 H0 H ts st){i:Nat}{d:Addr}(e:ts[i]?=some d):H0 d=none/\Rd H d (.dT (stK (st.getD i []))):=by
 obtain⟨l,hl,h0,hr⟩:=Paired.getL h e;have:st.getD i []=l:=by rw[eJ,hl];rfl
 rw[this];exact⟨h0,hr⟩
theorem Jp{K:Za}{a1 a2 wd md:Addr}{n:Nat}{b:cr}{o:Obj}{D:mI}(C:KB ts1 ts2 ws ms){x7 x8:Option V}(A:iF K H0 H a1 a2 cd pl ts1 ts2 prs kvs ws ms P)(hb:P[n]?=some b)(hha:mD H ha b.key)
  (ewd:ts1[b.key.1]?=some wd) (emd:ts2[b.key.2]?=some md) (hmd:H md=some (.frz o (.dT (stK (ms.getD b.key.2 [])))))
  (fault:∀(P':List cr) (p:Sg×Nat) (sb t lst:Addr) (gs:Ze) (H2:Hp),oY ms ws P'->(∃r,P'=P++r)->(cE (ws.getD b.key.1 []) b P (ms.getD b.key.2 [])).2=some p.1->p∈ms.getD b.key.2 []->bL (ws.getD b.key.1 []) p.1=none->p.1.head?≠some ("ask":Str)->H2 t=some (.tup [.ref lst,.ref sb])->H2 lst=some (.lst (gs.map V.ref))->Paired (fun g (sg:Sg)=>aS K H2 g (sg.map V.str)) gs b.story->aS K H2 sb (p.1.map V.str)->H0 t=none->H0 lst=none->nD H0 H2 a1 a2 ts1 ts2 ws ms->D.rt (.ref t) H2)
  (next:∀(P':List cr) (prs':Ze) (kvs':List (TK×V)) (x7 x8:Option V) (H2:Hp),(∃r,P'=P++r)->cE (ws.getD b.key.1 []) b P (ms.getD b.key.2 [])=(P',none)->lA ms ws P' b->iF K H0 H2 a1 a2 cd pl ts1 ts2 prs' kvs' ws ms P'->D.nx [some (.ref a1),some (.ref a2),some (.ref cd),some (.ref pl),some (.int ((n:Int)+1)),some (.ref ha),some (.ref wd),x7,x8] H2) :
  Kf (IE md o (.dT (stK (ms.getD b.key.2 []))) (stK (ms.getD b.key.2 [])).length (Ce K (stK (ms.getD b.key.2 [])))) (g0 K 2 (aY U7 (aY U8 (gP)))) (BW K (fU K)) D [some (.ref a1),some (.ref a2),some (.ref cd),some (.ref pl),some (.int ((n:Int)+1)),some (.ref ha),some (.ref wd),x7,x8] H:=by
 have ell:(stK (ms.getD b.key.2 [])).length=(ms.getD b.key.2 []).length:=by unfold stK;rw[aj]
 have lfok:=fun i=>Go A.ok hb ((ms.getD b.key.2 []).take i) fun p hp=>fR hp;have lt:n<P.length:=by
  rcases iR n P.length with z|z
  ·exact z
  ·rw[fS z]at hb;cases hb
 refine wL (fun i σ H'=>Kz fun(prs':Ze) (kvs':List (TK×V)) (x7 x8:Option V)=>JA (σ=[some (.ref a1),some (.ref a2),some (.ref cd),some (.ref pl),some (.int ((n:Int)+1)),some (.ref ha),some (.ref wd),x7,x8]) ((cE (ws.getD b.key.1 []) b P ((ms.getD b.key.2 []).take i)).2=none) (iF K H0 H' a1 a2 cd pl ts1 ts2 prs' kvs' ws ms (cE (ws.getD b.key.1 []) b P ((ms.getD b.key.2 []).take i)).1) (H' md=some (.frz o (.dT (stK (ms.getD b.key.2 []))))) (mD H' ha b.key))
  ⟨prs,kvs,_,_,rfl,rfl,A,hmd,hha⟩ ?_ ?_ ?_
 ·rintro i σ H' _ ⟨_,_,_,_,_,_,_,h,_⟩;exact h
 ·rintro i σ H3 pp a v hi ⟨prs',kvs',x7,x8,rfl,q0,A3,md3,ha3⟩ hpp ⟨key,ek,tkc⟩;unfold stK at ek;rw[bQ]at ek;obtain⟨p,hp,ep⟩:=sV.1 ek;cases ep;obtain⟨sb,rfl,hsb⟩:=tQ tkc;have S:ab H3 (upd H3 pp (.tup [.ref sb,.int (p.2:Nat)])):=ab.new hpp;have hpp4:upd H3 pp (.tup [.ref sb,.int (p.2:Nat)]) pp=some (.tup [.ref sb,.int (p.2:Nat)]):=aa;generalize upd H3 pp (.tup [.ref sb,.int (p.2:Nat)])=H4 at S hpp4 ⊢;refine⟨pp,_,rfl,br.of hpp4,rfl,_,_,rfl,_,_,rfl,rfl,?_⟩;have A4:=A3.same S;obtain⟨⟨r,er⟩,okr,_⟩:=lfok i;have es:cE (ws.getD b.key.1 []) b P ((ms.getD b.key.2 []).take (i+1))=ga (ws.getD b.key.1 []) b (cE (ws.getD b.key.1 []) b P ((ms.getD b.key.2 []).take i)) p:=by
   unfold cE;rw[take_snoc hp,ky];rfl
  have e2:cE (ws.getD b.key.1 []) b P ((ms.getD b.key.2 []).take i)=((cE (ws.getD b.key.1 []) b P ((ms.getD b.key.2 []).take i)).1,none):=by rw[<-q0]
  have hb4:(cE (ws.getD b.key.1 []) b P ((ms.getD b.key.2 []).take i)).1[n]?=some b:=by rw[er,fk lt];exact hb
  obtain⟨w0,hwd⟩:=A9.rd A4.i.r1 ewd;have ncm:md≠cd:=A.nc2 md (aZ emd);have ncw:wd≠cd:=A.nc1 wd (aZ ewd);refine Ib C (n:=n) (b:=b) (p:=p) (sb:=sb) (x7:=none) (x8:=none) (pp:=pp) (H':=H4) A4 hb4 (S _ _ ha3) hwd rfl (aZ hp) (aS.kt (ab.kt S) hsb) ncw ?_ ?_
  ·intro t lst gs H2 f1 f2 f3 f4 f5 f6 f7 f8 f9;exact fault _ p sb t lst gs H2 okr ⟨r,er⟩ (Ax q0 hp f1 f2) (aZ hp) f1 f2 f3 f4 f5 f6 f7 f8 f9
  ·intro prs'' kvs'' H2 g1 g2 g3;rw[es,e2];refine⟨prs'',kvs'',_,_,rfl,g1,g2,?_,?_⟩
   ·refine g3 _ _ (S _ _ md3) ncm fun z=>?_;have:=A4.hpl;rw[<-z,S _ _ md3]at this;cases this
   ·refine g3 _ _ (S _ _ ha3) (fun z=>?_) fun z=>?_
    ·have:=A4.hcd;rw[<-z,S _ _ ha3]at this;cases this
    ·have:=A4.hpl;rw[<-z,S _ _ ha3]at this;cases this
 ·rintro σ H3 ⟨prs',kvs',x7,x8,rfl,q0,A3,md3,ha3⟩;rw[ell,aR]at q0 A3;obtain⟨⟨r,er⟩,_⟩:=lfok (ms.getD b.key.2 []).length;rw[aR]at er;exact next _ prs' kvs' x7 x8 H3 ⟨r,er⟩ (by rw[<-q0]) (fun p hp=>BV _ q0 p hp) A3
inductive hV(K:Za)(vs:List V)(H:Hp)(Q:VK)(E:XK):Prop
 |mk (H0:Hp) (a1 a2:Addr) (ts1 ts2:Ze) (ws ms:List (List (Sg×Nat))):(vs=[.ref a1,.ref a2])->(nD H0 H a1 a2 ts1 ts2 ws ms)->(KB ts1 ts2 ws ms)->(0<ts1.length)->(0<ts2.length)->((∀(P:List cr) (H':Hp),oY ms ws P->oE ms ws P.length=(P,none)->P.length<=ts1.length * ts2.length->(∀c∈P,lA ms ws P c)->nD H0 H' a1 a2 ts1 ts2 ws ms->Q .non H'))->(∀(P:List cr) (i:Nat) (c:cr) (p:Sg×Nat) (sb t lst:Addr) (gs:Ze) (H':Hp),oY ms ws P->(oE ms ws (i+1)).2=some (c.story,p.1)->i<ts1.length * ts2.length->P[i]?=some c->(∀(j:Nat) (c':cr),j<i->P[j]?=some c'->lA ms ws P c')->p∈ms.getD c.key.2 []->bL (ws.getD c.key.1 []) p.1=none->p.1.head?≠some ("ask":Str)->H' t=some (.tup [.ref lst,.ref sb])->H' lst=some (.lst (gs.map V.ref))->Paired (fun g (sg:Sg)=>aS K H' g (sg.map V.str)) gs c.story->aS K H' sb (p.1.map V.str)->H0 t=none->H0 lst=none->nD H0 H' a1 a2 ts1 ts2 ws ms->Q (.ref t) H')->hV K vs H Q E
theorem vP{K:Za}(h:hV K vs H Q E):vx K (fU K) (bJ Q) (start v5 vs) H:=by
 obtain⟨H0,a1,a2,ts1,ts2,ws,ms,rfl,I,C,z1,z2,kn,kf⟩:=h;have l2:([V.int 0,V.int 0]:List V).length<=ai:=by show 2<=ai;decide
 refine fun cd hcd=>⟨l2,fun p0 hp0=>?_⟩;have S1:ab H (upd H cd (.dT [])):=ab.new hcd;have S2:ab (upd H cd (.dT [])) (upd (upd H cd (.dT [])) p0 (.tup [.int 0,.int 0])):=ab.new hp0;have cd2:=S2 _ _ (aa (H:=H) (a:=cd) (o:=.dT []));have pr2:mD (upd (upd H cd (.dT [])) p0 (.tup [.int 0,.int 0])) p0 (0,0):=aa;have I2:=I.same (S1.trans S2);have c0:H0 cd=none:=I.S.free hcd;have nc:∀{ts:Ze}{st:List (List (Sg×Nat))},A9 H0 H ts st->∀t∈ts,t≠cd:=fun r=>A9.ne r fun k q=>by
  rcases q with q|⟨o,q⟩
  ·rw[hcd]at q;cases q
  ·rw[hcd]at q;cases q
 have nc1:=nc I.r1;have nc2:=nc I.r2;have na1:a1≠cd:=ae I.h1 hcd;have na2:a2≠cd:=ae I.h2 hcd;generalize upd (upd H cd (.dT [])) p0 (.tup [.int 0,.int 0])=H2 at cd2 pr2 I2 ⊢;refine⟨cd2,p0,o7 (0,0),rfl,cW.c 8 (gb _) pr2.tk,gb _,?_⟩;have I3:=I2.own (o:=.dT [(o7 (0,0),.non)]) c0 na1 na2 nc1 nc2;have cd3:upd H2 cd (.dT [(o7 (0,0),.non)]) cd=some (.dT [(o7 (0,0),.non)]):=aa;generalize upd H2 cd (.dT [(o7 (0,0),.non)])=H3 at I3 cd3 ⊢;refine⟨l2,fun p1 hp1=>⟨(by show 1<=ai;decide),fun pl hpl=>?_⟩⟩;have S4:ab H3 (upd H3 p1 (.tup [.int 0,.int 0])):=ab.new hp1;have pr4:mD (upd H3 p1 (.tup [.int 0,.int 0])) p1 (0,0):=aa;generalize upd H3 p1 (.tup [.int 0,.int 0])=H4 at S4 pr4 hpl ⊢;have S5:ab H4 (upd H4 pl (.lst [.ref p1])):=ab.new hpl;have pl5:upd H4 pl (.lst [.ref p1]) pl=some (.lst (([p1]:Ze).map V.ref)):=aa;have I5:=(I3.same S4).same S5;have A5:iF K H0 (upd H4 pl (.lst [.ref p1])) a1 a2 cd pl ts1 ts2 [p1] [(o7 (0,0),.non)] ws ms [⟨(0,0),none,[]⟩]:=by
  refine⟨I5,S5 _ _ (S4 _ _ cd3),.cons ⟨rfl,rfl⟩ .nil,pl5,.cons (S5 _ _ pr4) .nil,EU ms ws,fun c hc=>?_,c0,(I3.same S4).S.free hpl,nc1,nc2,ae (I3.same S4).h1 hpl,ae (I3.same S4).h2 hpl⟩;rw[aU.1 hc];exact⟨z1,z2⟩
 generalize upd H4 pl (.lst [.ref p1])=H5 at A5 ⊢;clear S1 S2 cd2 pr2 I2 I3 cd3 S4 pr4 S5 pl5 I5;refine⟨fun m σ H'=>∃(n:Nat) (P:List cr) (prs:Ze) (kvs:List (TK×V)) (x5 x6 x7 x8:Option V),m=70000-n/\n<=P.length/\σ=[some (.ref a1),some (.ref a2),some (.ref cd),some (.ref pl),some (.int (n:Int)),x5,x6,x7,x8]/\iF K H0 H' a1 a2 cd pl ts1 ts2 prs kvs ws ms P/\oE ms ws n=(P,none)/\∀(j:Nat) (c:cr),j<n->P[j]?=some c->lA ms ws P c,
  ⟨70000,0,_,_,_,_,_,_,_,rfl,cX _,rfl,A5,rfl,fun j c hj=>by omega⟩,?_⟩
 rintro m σ H6 ⟨n,P,prs,kvs,x5,x6,x7,x8,rfl,hn,rfl,A,eit,rows⟩;have few:=A.few C.z1 C.z2;have few2:=A.few2;refine⟨_,rfl,_,rfl,.inl ⟨pl,_,rfl,.inl (az.of A.hpl),_,_,rfl,rfl,_,rfl,?_⟩⟩;have zp:(prs.map V.ref).length=P.length:=by rw[aj,Paired.length A.hprs]
 refine nK (P:=n<P.length) (by rw[zp];simp) (fun lt=>?_) (fun ge=>?_);rotate_left
 ·have e:n=P.length:=by omega
  refine kn P H6 A.ok (by rw[<-e];exact eit) few2 (fun c hc=>?_) A.i;obtain⟨j,hj,ej⟩:=w6 hc;exact rows j c (by omega) (by rw[b9 hj,ej])
 have hb:P[n]?=some P[n]:=b9 lt;obtain⟨ha,eha,hha⟩:=Paired.get A.hprs hb;have hrg:=A.rg P[n] (lK _);generalize P[n]=b at hb hha hrg;have ath:qk (prs.map V.ref) n=some (.ref ha):=bH (by rw[bQ,eha];rfl);have ewd:ts1[b.key.1]?=some ts1[b.key.1]:=b9 hrg.1;have emd:ts2[b.key.2]?=some ts2[b.key.2]:=b9 hrg.2;have atw:qk (ts1.map V.ref) (b.key.1:Nat)=some (.ref ts1[b.key.1]):=bH (by rw[bQ,ewd];rfl);have atm:qk (ts2.map V.ref) (b.key.2:Nat)=some (.ref ts2[b.key.2]):=bH (by rw[bQ,emd];rfl);generalize ts1[b.key.1]=wd at ewd atw;generalize ts2[b.key.2]=md at emd atm;have ncm:md≠cd:=A.nc2 md (aZ emd);refine⟨fun σ' H'=>∃m',m'<70000-n/\∃(n:Nat) (P:List cr) (prs:Ze) (kvs:List (TK×V)) (x5 x6 x7 x8:Option V),m'=70000-n/\n<=P.length/\σ'=[some (.ref a1),some (.ref a2),some (.ref cd),some (.ref pl),some (.int (n:Int)),x5,x6,x7,x8]/\iF K H0 H' a1 a2 cd pl ts1 ts2 prs kvs ws ms P/\oE ms ws n=(P,none)/\∀(j:Nat) (c:cr),j<n->P[j]?=some c->lA ms ws P c,fun σ' H' h=>h,?_⟩;refine⟨_,rfl,_,rfl,pl,_,_,_,rfl,rfl,az.of A.hpl,ath,?_⟩;refine⟨_,rfl,_,_,rfl,rfl,?_⟩;refine⟨_,rfl,_,rfl,ha,_,0,_,rfl,rfl,br.of hha,bH (j:=0) rfl,a1,_,_,_,rfl,rfl,az.of A.i.h1,atw,?_⟩;refine⟨_,rfl,_,rfl,ha,_,1,_,rfl,rfl,br.of hha,bH (j:=1) rfl,a2,_,_,_,rfl,rfl,az.of A.i.h2,atm,md,stK (ms.getD b.key.2 []),rfl,?_⟩;obtain⟨md0,hmd⟩:=A9.rd A.i.r2 emd;have up:∀{P':List cr},(∃r,P'=P++r)->(∀(j:Nat) (c:cr),j<n->P'[j]?=some c->lA ms ws P' c)/\P'[n]?=some b/\n+1<=P'.length:=by
  rintro P' ⟨r,rfl⟩;refine⟨fun j c hj hc=>?_,by rw[fk lt];exact hb,by rw[aK];omega⟩;rw[fk (by omega)]at hc;exact(rows j c hj hc).mono
 have fin:∀{H7:Hp}{o:Obj},iF K H0 H7 a1 a2 cd pl ts1 ts2 prs kvs ws ms P->mD H7 ha b.key->H7 md=some (.frz o (.dT (stK (ms.getD b.key.2 []))))->Kf (IE md o (.dT (stK (ms.getD b.key.2 []))) (stK (ms.getD b.key.2 [])).length (Ce K (stK (ms.getD b.key.2 [])))) (g0 K 2 (aY U7 (aY U8 (gP)))) (BW K (fU K)) { nx:=fun σ' H'=>∃m',m'<70000-n/\∃(n:Nat) (P:List cr) (prs:Ze) (kvs:List (TK×V)) (x5 x6 x7 x8:Option V),m'=70000-n/\n<=P.length/\σ'=[some (.ref a1),some (.ref a2),some (.ref cd),some (.ref pl),some (.int (n:Int)),x5,x6,x7,x8]/\iF K H0 H' a1 a2 cd pl ts1 ts2 prs kvs ws ms P/\oE ms ws n=(P,none)/\∀(j:Nat) (c:cr),j<n->P[j]?=some c->lA ms ws P c,rt:=Q,ct:=fun σ' H'=>∃m',m'<70000-n/\∃(n:Nat) (P:List cr) (prs:Ze) (kvs:List (TK×V)) (x5 x6 x7 x8:Option V),m'=70000-n/\n<=P.length/\σ'=[some (.ref a1),some (.ref a2),some (.ref cd),some (.ref pl),some (.int (n:Int)),x5,x6,x7,x8]/\iF K H0 H' a1 a2 cd pl ts1 ts2 prs kvs ws ms P/\oE ms ws n=(P,none)/\∀(j:Nat) (c:cr),j<n->P[j]?=some c->lA ms ws P c,bk:=fun σ H'=>bc (tC .non) (bJ Q) σ H' } [some (.ref a1),some (.ref a2),some (.ref cd),some (.ref pl),some (.int ((n:Int)+1)),some (.ref ha),some (.ref wd),x7,x8] H7:=by
  intro H7 o A7 ha7 md7;refine Jp C A7 hb ha7 ewd emd md7 ?_ ?_
  ·intro P' p sb t lst gs H2 ok' ex fr f0 f1 f2 f3 f4 f5 f6 f7 f8 f9;obtain⟨u1,u2,_⟩:=up ex;exact kf P' n b p sb t lst gs H2 ok' (by rw[Ay eit hb,fr];rfl) (by omega) u2 u1 f0 f1 f2 f3 f4 f5 f6 f7 f8 f9
  ·intro P' prs' kvs' x7 x8 H2 ex fr ro A';obtain⟨u1,u2,u3⟩:=up ex;refine⟨70000-(n+1),by omega,n+1,P',prs',kvs',_,_,x7,x8,rfl,u3,by rw[show((n+1:Nat):Int)=(n:Int)+1 from by omega],A',by rw[Ay eit hb,fr];rfl,fun j c hj hc=>?_⟩;rcases iR j n with z|z
   ·exact u1 j c z hc
   ·have:j=n:=by omega
    subst this;rw[u2]at hc;injection hc with hc;subst hc;exact ro
 rcases hmd with e|⟨o,e⟩
 ·exact .inl ⟨e,fun o=>fin (A.frz md0 e ncm) (A6 e _ _ hha) aa⟩
 ·exact .inr ⟨o,e,fin A hha e⟩
def Jo:Option Nat->V
 |none=>.non
 |some n=>.int (n:Nat)
def i6(fc:Nat)(st:List (Sg×Nat))(d:am):List (Str×Option Nat) :=
 if d.sg=ao then[(d.b,some fc)]else if(bL st d.sg).isSome=true∨d.sg.head?=some ("say":Str)then[(d.b,bL st d.sg)]else[]
def ma(J2:Zb)(ds:List am)(room:Str)(fc:Nat)(st:List (Sg×Nat)):List (Str×Option Nat) :=
 (bj ds room).flatMap (i6 fc st)++if room∈J2.filter (db ds)then[(room,bL st aV)]else[]
abbrev rk(H:Hp)(us:Ze)(L:List (Str×Option Nat)):Prop:=Paired (fun u (r:Str×Option Nat)=>H u=some (.tup [.str r.1,Jo r.2])) us L
theorem rk.kt(k:gM H H')(h:rk H us L):rk H' us L:=Paired.mapP h fun _ _ r=>k _ _ r
inductive pB(K:Za)(C:Addr)(vs:List V)(H:Hp)(Q:VK)(E:XK):Prop
 |mk (x sd:Addr) (room:Str) (fc:Nat) (st:List (Sg×Nat)) (J0 J1 J2:Zb) (ds:List am):(vs=[.ref x,.str room,.int (fc:Nat),.ref sd])->(bv C H x J0 J1 J2 ds)->(room∈J2)->(Rd H sd (.dT (stK st)))->(∀(l:Addr) (us:Ze) (H':Hp),H' l=some (.lst (us.map V.ref))->rk H' us (ma J2 ds room fc st)->H l=none->ab H H'->Q (.ref l) H')->pB K C vs H Q E
def GY(ds:List am)(f:Zb):Prop:=∀d∈ds,d.sg=ao->d.a∈f->d.b∈f
theorem wn{J2 gs:Zb}{ds:List am}(hb:∀d∈ds,d.b∈J2):GY ds (closF J2 ds gs):=by
 classical
 intro d hd hs ha;unfold closF at ha ⊢;rw[bD]at ha ⊢;obtain⟨a,sg,b⟩:=d;have hs:sg=ao:=hs;subst hs;exact⟨hb _ hd,zzr1 (gg.step (of_decide_eq_true ha.2) hd)⟩
theorem Fx{J2:Zb}{ds:List am}(hb:∀d∈ds,d.b∈J2):GY ds (behF J2 ds f sg):=by
 unfold behF;split
 ·intro d hd hs ha;have h:=of_decide_eq_true (bD.1 ha).2;refine absurd (aw.2 ⟨d,bD.2 ⟨hd,?_⟩,rfl⟩) h;unfold gB;rw[hs]
  decide
 ·exact wn hb
theorem Ga(L:List (Sg×List Str)):∀f∈(eM s m L).1.fs,f∈m.fs∨∃p∈L,f=p.2:=by
 have key:∀n,n<=L.length->∀f∈(eM s m (L.take n)).1.fs,f∈m.fs∨∃p∈L,f=p.2:=by
  intro n
  induction n with
  |zero=>intro _ f hf;exact .inl hf
  |succ n ih =>
   intro hn f hf;have hp:L[n]?=some L[n]:=b9 (by omega);rw[take_snoc hp,j_]at hf;have hf:f∈((eM s m (L.take n)).1.add L[n].2 (s++[L[n].1])).fs:=hf;by_cases c:L[n].2∈(eM s m (L.take n)).1.fs
   ·rw[km.add_in c]at hf;exact ih (by omega) f hf
   ·rw[km.add_new c]at hf;rcases a_.1 hf with hf|hf
    ·exact ih (by omega) f hf
    ·exact .inr ⟨L[n],lK _,aU.1 hf⟩
 have:=key L.length (aA _);rw[aR]at this;exact this
theorem C6{J2:Zb}{ds:List am}(hb:∀d∈ds,d.b∈J2):∀k,∀f∈(itF J0 J1 J2 ds k).1.fs,GY ds f
 |0,f,hf=>by
  have e:(⟨[],[]⟩:km).add (closF J2 ds (J2.take 1)) []=⟨[closF J2 ds (J2.take 1)],[[]]⟩:=km.add_new (fun z=>nomatch z);have hf:f∈((⟨[],[]⟩:km).add (closF J2 ds (J2.take 1)) []).fs:=hf;rw[e]at hf;rw[aU.1 hf];exact wn hb
 |k+1,f,hf=>by
  rcases Ga _ f hf with h|⟨p,hp,rfl⟩
  ·exact C6 hb k f h
  ·obtain⟨sg,_,rfl⟩:=aw.1 (bD.1 hp).1;exact Fx hb
theorem Gy{J2 f:Zb}{ds:List am}{d:am}(hd:d∈ds)(hr:d.b∈J2)(ha:d.a∈f)(hn:d.sg≠aV):d.b∈behF J2 ds f d.sg:=by
 classical
 unfold behF;rw[if_neg hn];unfold closF;refine bD.2 ⟨hr,zzr1 ⟨d.b,?_,.inl rfl⟩⟩;unfold dz;rw[jz];refine⟨d.a,ha,?_⟩;unfold bz;exact aw.2 ⟨d,bD.2 ⟨hd,zzr1 ⟨rfl,rfl⟩⟩,rfl⟩
def wY(P:List cr)(SI:vh)(room:Str)(num:Nat):Prop:=∃c∈P,c.key.1=num/\∃F,SI.1.fs[c.key.2]?=some F/\room∈F
section
variable{J0 J1 J2:Zb}{ds:List am}{SI:vh}{ws:List (List (Sg×Nat))}{P:List cr}(m:aL J0 J1 J2 ds)(ok:mH J0 J1 J2 ds SI)(le:SI.2.length=SI.1.fs.length)(ro:∀c∈P,lA SI.2 ws P c)
include m ok le ro
theorem zW{c:cr}(hc:c∈P){F:Zb}(hF:SI.1.fs[c.key.2]?=some F){sg:Sg}(hs:sg∈bd J0 J1){r:Str}(hr:r∈behF J2 ds F sg):
  (bL (ws.getD c.key.1 []) sg=none->sg.head?=some ("ask":Str))/\∀w,bL (ws.getD c.key.1 []) sg=some w->wY P SI r w:=by
 have lt:c.key.2<SI.2.length:=by
  rw[le];rcases iR c.key.2 SI.1.fs.length with z|z
  ·exact z
  ·rw[fS z]at hF;cases hF
 have hl:SI.2[c.key.2]?=some SI.2[c.key.2]:=b9 lt;obtain⟨f,hf,pr⟩:=ok.st _ _ hl;rw[hF]at hf;injection hf with hf;subst hf;have hm:(sg,behF J2 ds F sg)∈stepsF J0 J1 J2 ds F:=bD.2 ⟨aw.2 ⟨sg,hs,rfl⟩,zzr1 fun z=>by rw[show behF J2 ds F sg=[]from z]at hr;cases hr⟩;obtain⟨k,hk,ek⟩:=w6 hm;obtain⟨a,ha,e1,e2⟩:=Paired.get pr (i:=k) (y:=(sg,behF J2 ds F sg)) (by rw[b9 hk,ek]);have hp:a∈SI.2.getD c.key.2 []:=by
  rw[eJ,hl];exact aZ ha
 have row:=ro c hc a hp;rw[e1]at row;constructor
 ·intro z;rw[show bL (ws.getD c.key.1 []) (sg,behF J2 ds F sg).1=none from z]at row;exact row
 ·intro w z;rw[show bL (ws.getD c.key.1 []) (sg,behF J2 ds F sg).1=some w from z]at row;obtain⟨c',hc',ec⟩:=aw.1 (pX.1 row);exact⟨c',hc',by rw[ec],behF J2 ds F sg,by rw[ec];exact e2,hr⟩
theorem Hs(sh:∀f∈SI.1.fs,GY ds f)(h:wY P SI room num):∀r∈ma J2 ds room num (ws.getD num []),∃n',r.2=some n'/\wY P SI r.1 n':=by
 obtain⟨c,hc,rfl,F,hF,hroom⟩:=h;intro r hr;unfold ma at hr;rcases a_.1 hr with hr|hr
 ·obtain⟨d,hd,hrd⟩:=jz.1 hr;have hd1:d∈ds:=(bD.1 hd).1;have hda:d.a=room:=of_decide_eq_true (bD.1 hd).2;have good:=m.good d hd1;unfold i6 at hrd;split at hrd
  ·rename_i c1;rw[aU.1 hrd];exact⟨_,rfl,c,hc,rfl,F,hF,sh F (aZ hF) d hd1 c1 (by rw[hda];exact hroom)⟩
  ·rename_i c1;split at hrd
   ·rename_i c2;rw[aU.1 hrd];have hsg:d.sg∈bd J0 J1/\d.sg≠aV:=by
     unfold bd;rcases good.sg with⟨w,hw,e⟩|⟨w,hw,e⟩|e
     ·exact⟨cf _ (cf _ (aw.2 ⟨w,hw,e.symm⟩)),by rw[e];unfold aV;intro z;injection z with _ z;cases z⟩
     ·exact⟨cf _ (cC _ (aw.2 ⟨w,hw,e.symm⟩)),by rw[e];unfold aV;intro z;injection z with _ z;cases z⟩
     ·exact absurd e c1
    obtain⟨s1,s2⟩:=zW m ok le ro hc hF hsg.1 (Gy hd1 good.b (by rw[hda];exact hroom) hsg.2);cases e:bL (ws.getD c.key.1 []) d.sg with
    |some w=>exact⟨w,rfl,s2 w e⟩
    |none =>
     have h1:=s1 e;rcases c2 with z|z
     ·rw[e]at z;cases z
     ·rw[h1]at z;exact absurd z (by decide)
   ·cases hrd
 ·split at hr
  ·rename_i q;rw[aU.1 hr];have hq:=(bD.1 q).2;rw[kN]at hq;have hb:room∈behF J2 ds F aV:=by
    unfold behF;rw[if_pos rfl];exact bD.2 ⟨hroom,hq⟩
   obtain⟨s1,s2⟩:=zW m ok le ro hc hF (sg:=aV) (by unfold bd;exact cC _ dU) hb;cases e:bL (ws.getD c.key.1 []) aV with
   |some w=>exact⟨w,rfl,s2 w e⟩
   |none=>exact absurd (s1 e) (by decide)
  ·cases hr
end
theorem ET{l:Addr}{o:Obj}{u:HO}{n:Nat}{ent:Nat->Hp->V->V->Prop}{g:TG}{tc:TT}{H1:Hp}{Q:Hp->Prop}(Pv:Nat->List V->Hp->Prop)(h0:Pv 0 [] (upd H1 l (.lst [])))
  (hl:∀i vs H,i<=n->Pv i vs H->H l=some (.lst vs)/\H d=some (.frz o u)) (hd:∀vs H,Pv n vs H->Q H)
  (hs:∀i vs H a b,i<n->Pv i vs H->ent i H a b->g a (dY k fi σ) H fun σ2 H4=>tc σ2 H4 fun b H5 =>
   if b=true then te σ2 H5 fun v H6=>H6 l=some (.lst vs)/\vs.length<ai/\∃m',m'<n-i/\Wc n Pv (i+1) m' (vs++[v]) (upd H6 l (.lst (vs++[v])))else ∃m',m'<n-i/\Wc n Pv (i+1) m' vs H5) :
  gG k fi σ (Ja d o u n ent) g tc te H1 l Q:=by
 refine mz n Pv h0 (fun i vs H hi p=>(hl i vs H hi p).1) (fun i vs H hi p=>⟨(hl i vs H (fb hi) p).2,hi⟩) (fun vs H p=>⟨⟨(hl n vs H (aA _) p).2,aA _⟩,hd vs H p⟩) fun i vs H x H3 hi p y=>?_;obtain⟨rfl,b,en⟩:=y;exact hs i vs _ x b hi p en
abbrev Row:=Str×Nat
def qV(r:Row):TK:=.t [.k (some (.inr r.1)),.k (some (.inl (r.2:Int)))]
theorem HH(h:qV a=qV b):a=b:=by
 unfold qV at h;injection h with h;injection h with h1 h2;injection h2 with h2 _;injection h1 with h1;injection h2 with h2;injection h1 with h1;injection h2 with h2;injection h1 with h1;injection h2 with h2;obtain⟨a1,a2⟩:=a;obtain⟨b1,b2⟩:=b;simp only at h1 h2;rw[h1,show a2=b2 by omega]
theorem iO(k:Row):(qV k).depth<=8:=by
 show max 0 (max 0 0)+1<=8
 decide
abbrev u_(H:Hp)(a:Addr)(k:Row):Prop:=H a=some (.tup [.str k.1,.int (k.2:Nat)])
theorem u_.tk(h:u_ H a k):cW H (qV k) (.ref a):=by
 unfold qV cW;refine⟨a,_,rfl,h,?_⟩;unfold TKAts;refine⟨_,_,rfl,?_,?_⟩
 ·unfold cW;rfl
 unfold TKAts;refine⟨_,_,rfl,?_,?_⟩
 ·unfold cW;rfl
 unfold TKAts
 rfl
theorem Hc{K:Za}(h:jR K H (qV k) a):∃b,a=.ref b/\aS K H b [.str k.1,.int (k.2:Nat)]:=by
 unfold qV jR at h;obtain⟨b,xs,rfl,h1,h2⟩:=h;unfold TKCs at h2;obtain⟨v,us,rfl,h3,h4⟩:=h2;unfold TKCs at h4;obtain⟨v',us',rfl,h5,h6⟩:=h4;unfold TKCs at h6;unfold jR at h3 h5;subst h3 h5 h6;exact⟨b,rfl,h1⟩
def uL(L:List Row):List (TK×V):=L.map fun r=>(qV r,.bl true)
theorem yv(r:Row):∀L:List Row,(bq (uL L) (qV r)).isSome=decide (r∈L)
 |[]=>rfl
 |x::L=>by
  show(bq ((qV x,V.bl true)::uL L) (qV r)).isSome=_;by_cases c:x=r
  ·rw[cz (by show qV x=qV r;rw[c])];simp[c]
  ·rw[bY (fun z=>c (HH z)),yv r L];simp[dE c]
theorem zZ{J2:Zb}{n:Nat}{L:List Row}(nd:L.Nodup)(h:∀r∈L,r.1∈J2/\r.2<n):L.length<=J2.length * n:=by
 have h1:=ka nd (R:=J2.flatMap fun x=>(jW n).map fun i=>(x,i)) fun r hr=>by
  obtain⟨h2,h3⟩:=h r hr;exact jz.2 ⟨r.1,h2,aw.2 ⟨r.2,List.mem_range.2 h3,rfl⟩⟩
 have:∀l:List Str,(l.flatMap fun x=>(jW n).map fun i=>(x,i)).length=l.length * n:=by
  intro l
  induction l with
  |nil=>simp
  |cons x l ih=>rw[nP,aK,ih,aj,tw,dS,Nat.succ_mul];omega
 rw[this]at h1;exact h1
structure RowP(J2:Zb)(ds:List am)(ws:List (List (Sg×Nat)))(n:Nat)(R:Row->Prop):Prop where
 rg:∀r,R r->r.1∈J2/\r.2<n
 next:∀r,R r->∀x∈ma J2 ds r.1 r.2 (ws.getD r.2 []),∃n',x.2=some n'/\R (x.1,n')
structure va(H0 H:Hp)(rd wl:Addr)(ps:Ze)(L W:List Row)(R:Row->Prop):Prop where
 hrd:H rd=some (.dT (uL L))
 hwl:H wl=some (.lst (ps.map V.ref))
 hps:Paired (fun a r=>u_ H a r) ps W
 nd:L.Nodup
 all:∀r∈L,R r
 sub:∀r∈W,r∈L
 S:ab H0 H
 r0:H0 rd=none
 w0:H0 wl=none
theorem va.same(h:va H0 H rd wl ps L W R)(S:ab H H'):va H0 H' rd wl ps L W R :=
 ⟨S _ _ h.hrd,S _ _ h.hwl,Paired.mapP h.hps fun _ _ r=>S _ _ r,h.nd,h.all,h.sub,h.S.trans S,h.r0,h.w0⟩
theorem va.add(h:va H0 H rd wl ps L W R)(hu:u_ H u r)(hn:¬r∈L)(hr:R r):
  va H0 (upd (upd H rd (.dT (cM (uL L) (qV r) (.bl true)))) wl (.lst (ps.map V.ref++[.ref u]))) rd wl (ps++[u]) (L++[r]) (W++[r]) R:=by
 have nwr:wl≠rd:=fun z=>by have:=h.hwl;rw[z,h.hrd]at this;cases this
 have k1:gM H (upd H rd (.dT (cM (uL L) (qV r) (.bl true)))):=A6 h.hrd;have wl1:upd H rd (.dT (cM (uL L) (qV r) (.bl true))) wl=some (.lst (ps.map V.ref)):=by rw[ag nwr];exact h.hwl
 have k2:=k1.trans (cL (o:=.lst (ps.map V.ref++[.ref u])) wl1);have vn:bq (uL L) (qV r)=none:=by
  have:=yv r L;rw[zzr0 hn]at this;cases e:bq (uL L) (qV r)with
  |none=>rfl
  |some v=>rw[e]at this;cases this
 refine⟨?_,?_,c_ (Paired.mapP h.hps fun _ _ q=>k2 _ _ q) (k2 _ _ hu),?_,?_,?_,?_,h.r0,h.w0⟩
 ·rw[ag nwr.symm,aa,dq _ vn];unfold uL;rw[ax];rfl
 ·rw[aa,ax];rfl
 ·rw[cJ];exact⟨h.nd,by simp,fun a ha b hb e=>hn (by rw[<-aU.1 hb,<-e];exact ha)⟩
 ·intro x hx;rcases a_.1 hx with hx|hx
  ·exact h.all x hx
  ·rw[aU.1 hx];exact hr
 ·intro x hx;rcases a_.1 hx with hx|hx
  ·exact cf _ (h.sub x hx)
  ·exact cC _ hx
 ·intro b q e;rw[ag (ae e h.w0),ag (ae e h.r0)];exact h.S _ _ e
def vw(K:Za)(C_Machine:Addr)(sp_Machine_says:Sp)(sp_Machine_asks:Sp):TS :=
 bS (Ea (aQ (aI (uu K) (cZ C_Machine "asks" sp_Machine_asks [] E0 V0 bh) (cZ C_Machine "asks" sp_Machine_asks [] E0 V1 bh))) (aQ (aI (uu K) (cZ C_Machine "says" sp_Machine_says [] E0 V0 bh) (cZ C_Machine "says" sp_Machine_says [] E0 V1 bh)))) (t4) (bg)
def v4:List Str:=["M","I"]
def kF(K:Za)(C_Machine:Addr)(sp_Machine_rooms:Sp)(sp_Machine_asks:Sp)(jZ:Sp):TS :=
 dR (bT K (cZ C_Machine "rooms" sp_Machine_rooms [] E0 V0 bh)) U1 (dR (bT K (cZ C_Machine "asks" sp_Machine_asks [] E0 V0 bh)) U2 (bS (tZ (tB (aM jZ (dW V0 V1 V2)))) (t4) (bg)))
def kZ:List Str:=["I","room","ask"]
def vv(K:Za)(sp_need_all_asks_taken:Sp)(sp_need_match:Sp):TS :=
 ap (bV (aM sp_need_match (aO V0 V1)))
 (bV (aM sp_need_all_asks_taken (ay V1)))
def v3:List Str:=["M","I"]
def xR(K:Za)(sp_law_put:Sp)(sp_law_take:Sp)(sp_law_still_on:Sp):TS :=
 ap (aP V1 (g0 K 4 (aY U2 (aY U3 (aY U4 (aY U5 (gP)))))))
 (ap (aP (dB (da K) (ay V5)) U5)
 (ap (aP (aM sp_law_take (aO V0 (tC (.int 6)))) U6)
 (ap (aP (aM sp_law_take (au V0 (ay (dB JQ (aO (tC (.int 1)) (dB (eG K) (ay V5))))))) U7)
 (ap (aP (aI (cV K) V4 (aM sp_law_take (aO V0 (dB (eG K) (ay V4))))) U8)
 (ap (aP (aI (cV K) V4 (aM sp_law_take (aO V0 (dB (eG K) (ay V4))))) U9)
 (ap (bS (aQ (aI zg V6 (tC (.int 0)))) (bV (aM sp_law_put (au V5 (au (bw (au V8 (au (bw (au (tC (.str "say")) (au (aI (cV K) V3 (aM sp_law_take (aO V0 (dB (eG K) (ay V3))))) bh))) (ay V9)))) bh)))) (bS (aQ (aI zg V6 (tC (.int 1)))) (bV (aM sp_law_put (au V5 (au (bw (au V8 (au (bw (au (tC (.str "ask")) (au (aI (cV K) V2 (aM sp_law_take (aO V0 (dB (eG K) (ay V2))))) bh))) (ay V9)))) bh)))) (bS (lC (aQ (aI Ep V6 (tC (.int 4)))) (lC (aQ (aI (uu K) V5 (dA (bh)))) (aQ (aI HJ (aI (lD K) (aI (lD K) (aI (cV K) V5 V7) (tC (.int 1))) (tC (.int 0))) (tC (.str "still")))))) (ap (aP (vp K "list" FQ V5 (ay V7)) Ks)
 (bS (aQ (aI zg V6 (tC (.int 3)))) (bV (aM sp_law_put (au V5 (au (bw (dW (aI (lD K) Iv (tC (.int 0))) (aI (lD K) Iv (tC (.int 1))) V9)) bh)))) (bg))) (bS (lC (aQ (aI zg V6 (tC (.int 4)))) (aQ (aI (kM K true) V8 (aM sp_law_still_on (aO V5 (dA (ay V9))))))) (bV (aM sp_law_put (au V5 (au (bw (dW V8 (bw (ay (tC (.str "still")))) V9)) bh)))) (bg)))))
 (bc (bw (au V2 (dW V3 V4 V5))))))))))
def y3:List Str:=["pen","told","asks","says","rooms","doors","way","at","room","other","door"]
def Bm(K:Za)(sp_law_take:Sp)(sp_law_renamed:Sp)(sp_law_willing:Sp)(sp_law_turned:Sp)(sp_law_anew:Sp):TS :=
 ap (bV (aM sp_law_anew (ay V0)))
 (ap (dR (uS (au (aM sp_law_take (aO V0 (aI fE V2 (tC (.int 1))))) bh)) U3 (aP (aM sp_law_turned (aO V0 V1)) U1))
 (ap (aP (aM sp_law_willing (aO V0 V1)) U1)
 (ap (bS (aQ (aI zg (aM sp_law_take (aO V0 (tC (.int 2)))) (tC (.int 0)))) (aP (aM sp_law_renamed (aO V0 V1)) U1) (bg))
 (bc V1))))
def CB:List Str:=["pen","told","most","turn"]
inductive gm(C:Addr)(vs:List V)(H:Hp)(Q:VK)(E:XK):Prop
 |mk (x y:Addr) (J0 J1 J2 rooms':Zb) (ds ds':List am):(vs=[.ref x,.ref y])->(bv C H x J0 J1 J2 ds)->(bv C H y J0 J1 rooms' ds')->(∀H',ab H H'->Q .non H')->gm C vs H Q E
theorem ur{K:Za}(h:gm C vs H Q E):vw K C (pA C) (mS C) (bJ Q) (start v4 vs) H:=by
 obtain⟨x,y,J0,J1,J2,rooms',ds,ds',rfl,M,N,k⟩:=h;obtain⟨dx,fs,g1,a1,a2,_⟩:=id M.more;obtain⟨dy,gs,g2,b1,b2,_⟩:=id N.more;refine⟨_,rfl,x,dx,fs,rfl,g1,a1,x,J0,J1,J2,ds,rfl,M,fun l1 h1=>?_⟩;have S1:ab H (upd H l1 (.lst (J0.map V.str))):=ab.new h1;have e1:upd H l1 (.lst (J0.map V.str)) l1=some (.lst (J0.map V.str)):=aa;generalize upd H l1 (.lst (J0.map V.str))=H1 at S1 e1 ⊢;refine⟨_,rfl,y,dy,gs,rfl,S1 _ _ g2,b1,y,J0,J1,rooms',ds',rfl,N.same S1,fun l2 h2=>?_⟩;have S2:ab H (upd H1 l2 (.lst (J0.map V.str))):=S1.trans (ab.new h2);refine Do (kp e1 h2) aa ⟨_,rfl,?_⟩;generalize upd H1 l2 (.lst (J0.map V.str))=H2 at S2 ⊢;rw[zzr1 rfl];refine bR ?_;refine⟨_,rfl,x,dx,fs,rfl,S2 _ _ g1,a2,x,J0,J1,J2,ds,rfl,M.same S2,fun l3 h3=>?_⟩;have S3:ab H (upd H2 l3 (.lst (J1.map V.str))):=S2.trans (ab.new h3);have e3:upd H2 l3 (.lst (J1.map V.str)) l3=some (.lst (J1.map V.str)):=aa;generalize upd H2 l3 (.lst (J1.map V.str))=H3 at S3 e3 ⊢;refine⟨_,rfl,y,dy,gs,rfl,S3 _ _ g2,b2,y,J0,J1,rooms',ds',rfl,N.same S3,fun l4 h4=>?_⟩;have S4:ab H (upd H3 l4 (.lst (J1.map V.str))):=S3.trans (ab.new h4);refine Do (kp e3 h4) aa ⟨_,rfl,?_⟩;rw[zzr1 rfl];exact bR (k _ S4)
inductive iy(C:Addr)(vs:List V)(H:Hp)(Q:VK)(E:XK):Prop
 |mk (x:Addr) (J0 J1 J2:Zb) (ds:List am):(vs=[.ref x])->(bv C H x J0 J1 J2 ds)->((∀r∈J2,∀a∈J0,gS ds r a))->(∀H',ab H H'->Q .non H')->iy C vs H Q E
theorem yk{K:Za}(h:iy C vs H Q E):kF K C (gl C) (mS C) (jZ C) (bJ Q) (start kZ vs) H:=by
 obtain⟨x,J0,J1,J2,ds,rfl,M,tk,k⟩:=h;obtain⟨dx,fs,o1,o2,o3,o4,lv,qu,sgA,sl,ts,lps,gps,sps,g1,a1,a2,a3,a4,_⟩:=id M.at_;refine⟨_,rfl,x,dx,fs,rfl,g1,a4,x,J0,J1,J2,ds,rfl,M,fun l1 h1=>?_⟩;have S1:ab H (upd H l1 (.lst (J2.map V.str))):=ab.new h1;have e1:upd H l1 (.lst (J2.map V.str)) l1=some (.lst (J2.map V.str)):=aa;generalize upd H l1 (.lst (J2.map V.str))=H1 at S1 e1 ⊢;refine⟨l1,rfl,⟨_,az.of e1⟩,?_⟩;refine bP (xs:=J2.map V.str) (fun i σ H'=>∃y z,σ=[some (.ref x),y,z]/\ab H1 H') ⟨_,_,rfl,ab.refl _⟩ (fun i σ H' _ ⟨_,_,_,S⟩=>az.of (S _ _ e1)) ?_ ?_
 ·rintro i v σ H2 hi ⟨y,z,rfl,S2⟩;obtain⟨r,hr,rfl⟩:=bm hi;have M2:=M.same (S1.trans S2);obtain⟨dx,fs,g1,a1,_⟩:=id M2.more;refine⟨_,rfl,x,dx,fs,rfl,g1,a1,x,J0,J1,J2,ds,rfl,M2,fun l2 h2=>?_⟩;have S3:ab H1 (upd H2 l2 (.lst (J0.map V.str))):=S2.trans (ab.new h2);have e2:upd H2 l2 (.lst (J0.map V.str)) l2=some (.lst (J0.map V.str)):=aa;generalize upd H2 l2 (.lst (J0.map V.str))=H3 at S3 e2 ⊢;refine⟨l2,rfl,⟨_,az.of e2⟩,?_⟩;refine bP (xs:=J0.map V.str) (fun j σ H'=>∃z,σ=[some (.ref x),some (.str r),z]/\ab H3 H') ⟨_,rfl,ab.refl _⟩ (fun i σ H' _ ⟨_,_,S⟩=>az.of (S _ _ e2)) ?_ ?_
  ·rintro j v σ H4 hj ⟨z,rfl,S4⟩;obtain⟨a,ha,rfl⟩:=bm hj;refine⟨_,rfl,_,rfl,_,rfl,x,r,a,J0,J1,J2,ds,rfl,M.same ((S1.trans S3).trans S4),aZ hr,fun H5 S5=>⟨_,rfl,?_⟩⟩;rw[lS.2 (tk r (aZ hr) a (aZ ha))];exact bR ⟨_,rfl,S4.trans S5⟩
  ·rintro σ H4 ⟨z,rfl,S4⟩;exact⟨_,_,rfl,S3.trans S4⟩
 ·rintro σ H2 ⟨y,z,rfl,S2⟩;exact k H2 (S1.trans S2)
inductive eL(C:Addr)(vs:List V)(H:Hp)(Q:VK)(E:XK):Prop
 |mk (x y:Addr) (J0 J1 J2 rooms':Zb) (ds ds':List am):(vs=[.ref x,.ref y])->(bv C H x J0 J1 J2 ds)->(bv C H y J0 J1 rooms' ds')->((∀r∈rooms',∀a∈J0,gS ds' r a))->(∀H',ab H H'->Q .non H')->eL C vs H Q E
theorem uq{K:Za}(h:eL C vs H Q E):vv K (iy C) (gm C) (bJ Q) (start v3 vs) H:=by
 obtain⟨x,y,J0,J1,J2,rooms',ds,ds',rfl,M,N,tk,k⟩:=h;exact⟨_,rfl,_,rfl,x,y,J0,J1,J2,rooms',ds,ds',rfl,M,N,fun H1 S1=>⟨_,rfl,y,J0,J1,rooms',ds',rfl,N.same S1,tk,fun H2 S2=>k H2 (S1.trans S2)⟩⟩
theorem aL.out(m:aL J0 J1 J2 ds)(k:Nat):aL J0 J1 J2 (ds.eraseIdx k):=by
 have sub:(ds.eraseIdx k).Sublist ds:=List.eraseIdx_sublist ds k;exact{ m with nodup:=m.nodup.sublist sub,good:=fun d hd=>m.good d (sub.mem hd),few:=bC sub.length_le m.few,noround:=fun r z=>m.noround r (z.mono fun x y h=>sub.mem h) }
theorem Paired.out{α β:Type}{R:α->β->Prop}:∀{as:List α}{bs:List β}(k:Nat),Paired R as bs->Paired R (as.eraseIdx k) (bs.eraseIdx k)
 |_,_,_,.nil=>.nil
 |_,_,0,.cons _ t=>t
 |_,_,k+1,.cons r t=>.cons r (Paired.out k t)
theorem wM{α β:Type}(f:α->β):∀(l:List α) (n:Nat),(l.map f).eraseIdx n=(l.eraseIdx n).map f
 |[],_=>rfl
 |_::_,0=>rfl
 |a::l,n+1=>by show f a::_=f a::_;rw[wM f l n]
def TR(J0 J1 J2:Zb)(n:Nat)(ds:List am):Prop:=aL J0 J1 J2 ds/\ds.length<=n
inductive mO (vs:List V)(H:Hp)(Q:VK)(E:XK):Prop
 |mk (p c t l1 l2 l3 l4:Addr) (ts:Ze) (J0 J1 J2:Zb) (ds:List am):(vs=[.ref p,.ref t])->(g6 H p c)->(iE H t l1 l2 l3 l4 ts J0 J1 J2 ds)->(aL J0 J1 J2 ds)->(ds.length<=690)->(∀(t' l4':Addr) (ts':Ze) (ds':List am) (H':Hp),iE H' t' l1 l2 l3 l4' ts' J0 J1 J2 ds'->aL J0 J1 J2 ds'->ds'.length<=ds.length+1->g6 H' p c->df p H H'->Q (.ref t') H')->mO  vs H Q E
theorem Eg{K:Za}(h:mO vs H Q E):xR K kK fK (eK K) (bJ Q) (start y3 vs) H:=by
 obtain⟨p,c,t,l1,l2,l3,l4,ts,J0,J1,J2,ds,rfl,hp,T,m,z8,k⟩:=h;have a4:=m.asks4;have s4:=m.says4;have r4:=m.rooms26;refine⟨_,rfl,t,_,rfl,br.of T.t,rfl,_,_,rfl,_,_,rfl,_,_,rfl,_,_,rfl,rfl,?_⟩;refine⟨_,rfl,.inl ⟨l4,_,rfl,.inl (az.of T.a4),fun f hf=>?_⟩⟩;have B0:TX H p c f (fun x=>x=ds) (upd H f (.lst (ts.map V.ref))):=⟨hp.ex (ab.new hf),⟨ts,ds,aa,T.ds.kt (ab.kt (ab.new hf)),rfl⟩,df.new hf,hf,hp.nep hf,hp.nec hf⟩;generalize upd H f (.lst (ts.map V.ref))=H1 at B0 ⊢;have keep:∀{H':Hp}{R:List am->Prop},TX H p c f R H'->H' l1=some (.lst (J0.map V.str))/\H' l2=some (.lst (J1.map V.str))/\H' l3=some (.lst (J2.map V.str)):=fun B =>
  ⟨B.ex _ _ T.a1 (hp.ne_strs T.a1),B.ex _ _ T.a2 (hp.ne_strs T.a2),B.ex _ _ T.a3 (hp.ne_strs T.a3)⟩
 refine⟨_,rfl,dX B0.pen (by decide) (by decide) fun way H2 w0 w1 hp2 ex2=>?_⟩;have B2:=B0.took hp2 ex2;obtain⟨us,es,g1,g2,rfl⟩:=id B2.ds;refine⟨_,rfl,_,rfl,.inl ⟨f,_,rfl,.inl (az.of g1),_,_,rfl,?_⟩⟩;have lu:us.length=es.length:=Paired.length g2;refine dX B2.pen (by split<;>omega) (by rw[aj,lu];split<;>omega) fun at_ H3 n0 n1 hp3 ex3=>?_;have B3:=B2.took hp3 ex3;rw[aj,lu]at n1;refine jn (fun _ _ _ _ h=>h) rfl rfl B3.pen (keep B3).2.2 m.rooms0 (by omega) fun room hroom H4 hp4 ex4=>?_;have B4:=B3.took hp4 ex4;refine jn (fun _ _ _ _ h=>h) rfl rfl B4.pen (keep B4).2.2 m.rooms0 (by omega) fun other hother H5 hp5 ex5=>?_;have B5:=B4.took hp5 ex5;clear B0 B2 B3 B4 hp2 hp3 hp4 hp5 ex2 ex3 ex4 ex5 g1 g2;have fin:∀{H6:Hp}(x10:Option V),TX H p c f (TR J0 J1 J2 (es.length+1)) H6->(bc (bw (au V2 (dW V3 V4 V5)))) (bJ Q) [some (.ref p),some (.ref t),some (.ref l1),some (.ref l2),some (.ref l3),some (.ref f),some (.int way),some (.int at_),some (.str room),some (.str other),x10] H6:=fun x10 B=>by
  obtain⟨us,fs,g1,g2,g3⟩:=B.ds;obtain⟨q1,q2,q3⟩:=keep B;refine⟨_,rfl,_,rfl,_,rfl,_,rfl,(by show 4<=ai;decide),fun t' ht'=>?_⟩;have S3:=ab.new (o:=.tup [.ref l1,.ref l2,.ref l3,.ref f]) ht';exact k t' f us fs _ ⟨aa,S3 _ _ q1,S3 _ _ q2,S3 _ _ q3,S3 _ _ g1,g2.kt (ab.kt S3)⟩ g3.1 g3.2 (B.pen.ex S3) (B.ex.trans (ab.exB S3))
 have put:∀{H6:Hp}{fs:List am}{d:Addr}{x:am}(x10:Option V),TX H p c f (fun y=>y=fs) H6->fs.length<=es.length->g8 H6 d x->aL J0 J1 J2 (mh fs x)->kK [.ref f,.ref d] H6 (fun _ H'=>(bc (bw (au V2 (dW V3 V4 V5)))) (bJ Q) [some (.ref p),some (.ref t),some (.ref l1),some (.ref l2),some (.ref l3),some (.ref f),some (.int way),some (.int at_),some (.str room),some (.str other),x10] H') E0:=fun x10 B le hat ok=>by
  obtain⟨us',fs',k1,k2,rfl⟩:=id B.ds;refine⟨f,_,us',_,_,rfl,k1,k2,hat,by omega,fun us2 D2=>fin x10 (B.put ⟨_,k1⟩ D2 ⟨ok,?_⟩)⟩;exact bC (uv _ _) (by omega)
 refine⟨_,rfl,rfl,_,rfl,?_⟩;refine jJ (fun _=>?_) (fun _=>?_)
 ·refine⟨_,rfl,_,rfl,jn (fun _ _ _ _ h=>h) rfl rfl B5.pen (keep B5).2.1 m.says0 (by omega) fun w hw H6 hp6 ex6=>⟨(by show 2<=ai;decide),fun s hs=>⟨_,rfl,(by show 3<=ai;decide),fun d hd=>?_⟩⟩⟩;have B6:=B5.took hp6 ex6;have S:ab H6 (upd (upd H6 s (.tup [.str "say",.str w])) d (.tup [.str room,.ref s,.str other])):=(ab.new hs).trans (ab.new hd);exact put (x:=⟨room,l9 w,other⟩) _ (B6.same S) (aA _) ⟨s,aa,kp aa hd⟩ (m.putOne ⟨hroom,hother,.inr (.inl ⟨w,hw,rfl⟩)⟩ (by unfold l9 ao;intro h;injection h with _ h;cases h) (by omega))
 refine⟨_,rfl,rfl,_,rfl,?_⟩;refine jJ (fun _=>?_) (fun _=>?_)
 ·refine⟨_,rfl,_,rfl,jn (fun _ _ _ _ h=>h) rfl rfl B5.pen (keep B5).1 m.asks0 (by omega) fun w hw H6 hp6 ex6=>⟨(by show 2<=ai;decide),fun s hs=>⟨_,rfl,(by show 3<=ai;decide),fun d hd=>?_⟩⟩⟩;have B6:=B5.took hp6 ex6;have S:ab H6 (upd (upd H6 s (.tup [.str "ask",.str w])) d (.tup [.str room,.ref s,.str other])):=(ab.new hs).trans (ab.new hd);exact put (x:=⟨room,c7 w,other⟩) _ (B6.same S) (aA _) ⟨s,aa,kp aa hd⟩ (m.putOne ⟨hroom,hother,.inl ⟨w,hw,rfl⟩⟩ (wW w) (by omega))
 have still:∀{H6:Hp},TX H p c f (fun y=>y=es) H6->(bS (lC (aQ (aI zg V6 (tC (.int 4)))) (aQ (aI (kM K true) V8 (aM (eK K) (aO V5 (dA (ay V9))))))) (bV (aM kK (au V5 (au (bw (dW V8 (bw (ay (tC (.str "still")))) V9)) bh)))) (bg)) { nx:=(bc (bw (au V2 (dW V3 V4 V5)))) (bJ Q),rt:=Q } [some (.ref p),some (.ref t),some (.ref l1),some (.ref l2),some (.ref l3),some (.ref f),some (.int way),some (.int at_),some (.str room),some (.str other),none] H6:=fun{H6} B=>by
  have idle:TX H p c f (TR J0 J1 J2 (es.length+1)) H6:=B.imp fun y e=>by rw[e];exact⟨m,sQ _⟩
  refine⟨_,rfl,rfl,_,rfl,?_⟩;refine jJ (fun _=>?_) (fun _=>bR (fin _ idle));refine⟨_,rfl,_,rfl,_,rfl,(by show 1<=ai;decide),fun bl hbl=>?_⟩;have B7:=B.same (ab.new (o:=.lst [.str other]) hbl);have e7:upd H6 bl (.lst [.str other]) bl=some (.lst [.str other]):=aa;generalize upd H6 bl (.lst [.str other])=H7 at B7 e7 ⊢;obtain⟨us,fs,g1,g2,rfl⟩:=id B7.ds;refine⟨f,bl,us,fs,[other],J2,rfl,g1,g2,e7,fun d hd=>(m.good d hd).b,by omega,(by show 1<=1000;decide),fun g F H8 hg hF _ _ S8=>?_⟩;have B8:=B7.same S8;refine⟨gW room,F.map gW,g,_,js room,rfl,.inl (az.of hg),my _,(by show 0<=8;decide),by rw[fF];decide,_,rfl,?_⟩;rw[if_pos rfl];by_cases c1:room∈F
  ·rw[zzr1 (mW.mpr c1)];exact bR (fin _ (B8.imp fun y e=>by rw[e];exact⟨m,sQ _⟩))
  rw[zzr0 (fun z=>c1 (mW.mp z))];refine cR ?_;refine⟨_,rfl,_,rfl,(by show 1<=ai;decide),fun s hs=>⟨_,rfl,(by show 3<=ai;decide),fun d hd=>?_⟩⟩;have S:ab H8 (upd (upd H8 s (.tup [.str "still"])) d (.tup [.str room,.ref s,.str other])):=(ab.new hs).trans (ab.new hd);exact put (x:=⟨room,ao,other⟩) _ (B8.same S) (aA _) ⟨s,aa,kp aa hd⟩ (m.putStill hroom hother (fun z=>c1 ((hF room).mpr z)) (by omega))
 refine⟨_,rfl,_,_,rfl,rfl,_,rfl,?_⟩;refine jJ (fun _=>?_) (fun _=>bR (still B5));refine⟨_,rfl,(by show 0<=ai;decide),fun q hq=>?_⟩;have B6:=B5.same (ab.new (o:=.lst []) hq);have e6:upd H5 q (.lst []) q=some (.lst []):=aa;generalize upd H5 q (.lst [])=H6 at B6 e6 ⊢;obtain⟨us,fs,g1,g2,rfl⟩:=id B6.ds;refine Gg g1 g2 e6 (fun c1=>⟨_,rfl,cR ?_⟩) (fun _=>⟨_,rfl,bR (bR (still B6))⟩);have fl:0<fs.length:=List.length_pos_iff.2 c1;have n2:at_<fs.length:=by split at n1<;>omega
 obtain⟨n,rfl⟩:=jA n0;have n3:n<fs.length:=by omega
 have hdr:fs[n]?=some fs[n]:=b9 n3;obtain⟨u,hu,hat⟩:=Paired.get g2 hdr;generalize fs[n]=dr at hdr hat;have hm:=aZ hdr;obtain⟨sb,ht2,hs2⟩:=hat;obtain⟨s0,rest,hsg,_⟩:=mT (m.good dr hm);have at0:qk (dr.sg.map V.str) 0=some (.str s0):=by rw[hsg];exact bH (j:=0) rfl
 have atu:(us.map V.ref)[n]?=some (.ref u):=by rw[bQ,hu];rfl
 refine⟨_,rfl,_,rfl,f,_,_,_,rfl,rfl,az.of g1,bH atu,u,_,1,_,rfl,rfl,br.of ht2,rfl,sb,_,0,_,rfl,rfl,br.of hs2,at0,rfl,_,rfl,?_⟩;refine jJ (fun c2=>?_) (fun _=>still B6);have ns:dr.sg≠ao:=fun z=>by
  rw[hsg]at z;injection z with z;rw[z]at c2;simp at c2
 have six:xK (n:Int) (us.map V.ref).length=some n:=(yF (Ie (by rw[aj,Paired.length g2];exact n3))).1;refine⟨_,rfl,.inl ⟨rfl,_,az.of g1⟩,_,rfl,f,_,_,n,.ref u,rfl,rfl,g1,by omega,by omega,six,atu,?_⟩;have ee:(us.map V.ref).eraseIdx n=(us.eraseIdx n).map V.ref:=wM _ us n;rw[ee];have k6:gM H6 (upd H6 f (.lst ((us.eraseIdx n).map V.ref))):=cL g1;have B7:TX H p c f (fun y=>y=fs.eraseIdx n) (upd H6 f (.lst ((us.eraseIdx n).map V.ref))):=B6.put ⟨_,g1⟩ (Paired.out n g2) rfl;have t7:=k6 _ _ ht2;have s7:=k6 _ _ hs2;generalize upd H6 f (.lst ((us.eraseIdx n).map V.ref))=H7 at B7 t7 s7 ⊢;have m7:=m.out n;have l7:(fs.eraseIdx n).length<=fs.length:=(List.eraseIdx_sublist fs n).length_le;refine⟨_,rfl,rfl,_,rfl,?_⟩;refine jJ (fun _=>?_) (fun _=>fin _ (B7.imp fun y e=>by rw[e];exact⟨m7,by omega⟩));refine⟨_,rfl,_,rfl,u,_,0,_,rfl,rfl,br.of t7,rfl,_,rfl,u,_,1,_,rfl,rfl,br.of t7,rfl,_,rfl,(by show 3<=ai;decide),fun d hd=>?_⟩;have S:ab H7 (upd H7 d (.tup [.str dr.a,.ref sb,.str other])):=ab.new hd;exact put (x:=⟨dr.a,dr.sg,other⟩) _ (B7.same S) l7 ⟨sb,aa,S _ _ s7⟩ (m7.putOne ⟨(m.good dr hm).a,hother,(m.good dr hm).sg⟩ ns (by omega))
theorem Reach.ren(h:Reach ds x y):Reach (ds.map (vM f)) (f x) (f y):=by
 induction h with
 |one e=>exact .one (aw.2 ⟨_,e,rfl⟩)
 |step _ e ih=>exact .step ih (aw.2 ⟨_,e,rfl⟩)
theorem gS.ren:gS ds r a->gS (ds.map (vM f)) (f r) a:=fun⟨w,hw,b,hb⟩ =>
 ⟨f w,hw.imp (fun e=>by rw[e]) Reach.ren,f b,aw.2 ⟨_,hb,rfl⟩⟩
inductive jj (vs:List V)(H:Hp)(Q:VK)(E:XK):Prop
 |mk (p c t l1 l2 l3 l4:Addr) (ts:Ze) (J0 J1 J2:Zb) (ds:List am):(vs=[.ref p,.ref t])->(g6 H p c)->(iE H t l1 l2 l3 l4 ts J0 J1 J2 ds)->(aL J0 J1 J2 ds)->(J2.length<=26)->(∀(t' l3' l4':Addr) (ts':Ze) (rooms':Zb) (f:Str->Str) (H':Hp),iE H' t' l1 l2 l3' l4' ts' J0 J1 rooms' (ds.map (vM f))->aL J0 J1 rooms' (ds.map (vM f))->rooms'.Perm (J2.map f)->g6 H' p c->df p H H'->Q (.ref t') H')->jj  vs H Q E
theorem z7{K:Za}(h:jj vs H Q E):vz K fK lX (bJ Q) (start v7 vs) H:=by
 obtain⟨p,c,t,l1,l2,l3,l4,ts,J0,J1,J2,ds,rfl,hp,T,m,z3,k⟩:=h;have z4:=m.few;have hr0:0<J2.length:=by
  cases hq:J2 with
  |nil=>exact absurd hq m.rooms0
  |cons _ _=>simp
 refine⟨_,rfl,t,_,rfl,br.of T.t,rfl,_,_,rfl,_,_,rfl,_,_,rfl,_,_,rfl,rfl,?_⟩;refine fun d hd=>?_;have dp:=hp.nep hd;have dc:=hp.nec hd;have T1:=T.same (ab.new (o:=.dK []) hd);have hp1:=hp.ex (ab.new (o:=.dK []) hd);have hd1:upd H d (.dK []) d=some (.dK (Ff [])):=aa;have ex1:df p H (upd H d (.dK [])):=df.new hd;generalize upd H d (.dK [])=H1 at T1 hp1 hd1 ex1 ⊢;refine⟨_,rfl,_,rfl,_,rfl,.inl ⟨l3,_,rfl,.inl (az.of T1.a3),p,c,(J2.map V.str).length,rfl,hp1,by rw[aj];exact z3,fun lw ws H2 okw lenw frw hlw hp2 ex2=>?_⟩⟩;rw[aj]at lenw;have T2:=T1.ex hp1 ex2;have hd2:=ex2 _ _ hd1 dp.symm;have lwd:lw≠d:=fun z=>by rw[z,hd1]at frw;cases frw
 have lwp:=hp2.ne_strs hlw;refine⟨l3,lw,rfl,.inl ⟨⟨_,az.of T2.a3⟩,⟨_,az.of hlw⟩,?_⟩⟩;have ez:(J2.zip ws).length=J2.length:=by rw[List.length_zip,lenw,Nat.min_self]
 refine GG (xs:=J2.map V.str) (ys:=ws.map V.str) (by rw[aj,aj,lenw]) (fun i σ H'=>KA fun(x7 x8:Option V)=>JA (σ=[some (.ref p),some (.ref t),some (.ref l1),some (.ref l2),some (.ref l3),some (.ref l4),some (.ref d),x7,x8,none,none]) (H' d=some (.dK (Ff ((J2.zip ws).take i)))) (H' lw=some (.lst (ws.map V.str))) (g6 H' p c) (df p H H'))
  ⟨_,_,rfl,hd2,hlw,hp2,ex1.trans ex2⟩ (fun i σ H' _ ⟨_,_,_,_,h1,_,ex⟩=>⟨az.of (ex _ _ T.a3 (hp.ne_strs T.a3)),az.of h1⟩) ?_ ?_
 ·rintro i x y σ H3 q hx hy ⟨x7,x8,rfl,hd3,hlw3,hp3,ex3⟩ hq;obtain⟨r,hr,rfl⟩:=bm hx;obtain⟨w,hw,rfl⟩:=bm hy;have hi:i<J2.length:=(cu.mp hr).1;refine⟨q,_,rfl,br.of aa,rfl,_,_,rfl,_,_,rfl,rfl,?_⟩;have hlen:(Ff ((J2.zip ws).take i)).length<ai:=by
   unfold Ff;rw[aj,aG];exact ar (by omega)
  refine⟨_,rfl,_,rfl,_,rfl,d,_,rfl,.inl ⟨_,.inr r,kp hd3 hq,rfl,hlen,rfl⟩,_,_,rfl,?_,?_,?_,?_⟩
  ·have hz:(J2.zip ws)[i]?=some (r,w):=by
    rw[List.getElem?_zip_eq_some];exact⟨hr,hw⟩
   have hn:r∉((J2.zip ws).take i).map (·.1):=by
    rw[nS,xM lenw];intro z;obtain⟨j,hj⟩:=im z;have hjl:j<i:=by
     have:=(cu.mp hj).1;rw[aG]at this;omega
    rw[List.getElem?_take_of_lt hjl]at hj;have:=sO m.okR.1 hj hr;omega
   rw[aa,Gf hn,take_snoc hz]
  ·rw[ag lwd];exact kp hlw3 hq
  ·exact(hp3.ex (ab.new hq)).upd dp dc
  ·intro b o e n;rw[ag (ae e hd)];exact kp (ex3 _ _ e n) hq
 rintro σ H3 ⟨x7,x8,rfl,hd3,hlw3,hp3,ex3⟩;rw[aj,<-ez,aR]at hd3;have T3:=T.ex hp ex3;generalize hρ:G5 (J2.zip ws)=ρ;have hmap:J2.map ρ=ws:=by rw[<-hρ];exact C7 m.okR.1 lenw
 have hval:∀r∈J2,bq (Ff (J2.zip ws)) (.inr r:fC)=some (.str (ρ r)):=fun r hr=>by
  rw[<-hρ];exact Dn (by rw[xM lenw];exact hr)
 refine⟨_,rfl,l3,rfl,⟨_,az.of T3.a3⟩,fun f hf=>?_⟩;refine bZ (xs:=J2.map V.str) (fun i vs H'=>vs=((J2.take i).map ρ).map V.str/\ab H3 H'/\H' f=some (.lst vs)) ⟨rfl,ab.new hf,aa⟩ (fun i vs H' _ ⟨_,S,h'⟩=>⟨h',az.of (S _ _ T3.a3)⟩) ?_ ?_;rotate_left
 ·rintro i vs H' x' hx' hi ⟨rfl,S,f'⟩;obtain⟨r,hr,rfl⟩:=bm hx';refine gN (se ?_);refine⟨_,rfl,_,rfl,d,.str (ρ r),rfl,.inl ⟨_,.inr r,.inl (S _ _ hd3),rfl,(hval r (aZ hr)).symm⟩,f',?_,nA hi ⟨?_,?_,aa⟩⟩
  ·rw[aj,aj,aG];exact ar (by omega)
  ·rw[take_snoc hr,ax,ax];rfl
  ·intro b o q;rw[ag (ae q hf)];exact S _ _ q
 rintro vs H4 ⟨rfl,S4,f4⟩;rw[aj,aR,hmap]at f4;have T4:=T3.same S4;have hp4:=hp3.ex S4;have hd4:=S4 _ _ hd3;refine⟨_,rfl,_,rfl,.inl ⟨l3,_,rfl,.inl (az.of T4.a3),dX (m:=((J2.map V.str).length:Nat)) hp4 (by rw[aj];omega) (by rw[aj];omega) fun r H5 r0 r1 hp5 ex5=>⟨_,_,rfl,rfl,?_⟩⟩⟩;rw[aj]at r1;obtain⟨n,rfl⟩:=jA r0;have T5:=T4.ex hp4 ex5;have f5:=ex5 _ _ f4 (hp4.ne_strs f4);have hd5:=ex5 _ _ hd4 dp.symm;have exx5:df p H H5:=(ex3.trans (ab.exB S4)).trans ex5;have c1:fV (ws.map V.str) none (some 1)=(ws.take 1).map V.str:=p9 ws 1;have c2:fV (ws.map V.str) (some (1+(n:Int))) none=(ws.drop (1+n)).map V.str:=wQ ws (1+n);have c3:fV (ws.map V.str) (some 1) (some (1+(n:Int)))=((ws.drop 1).take (1+n-1)).map V.str:=ES ws (j:=1) (k:=1+n) (by omega) (by omega);refine⟨_,rfl,_,rfl,f,_,rfl,az.of f5,fun q1 hq1=>⟨_,rfl,_,rfl,_,rfl,f,_,rfl,az.of (kp f5 hq1),fun q2 hq2=>⟨q1,q2,_,_,rfl,rfl,kp aa hq2,aa,?_,fun q3 hq3=>⟨_,rfl,_,rfl,_,rfl,_,rfl,f,_,rfl,az.of (kp (kp (kp f5 hq1) hq2) hq3),fun q4 hq4=>⟨q3,q4,_,_,rfl,rfl,kp aa hq4,aa,?_,fun q5 hq5=>?_⟩⟩⟩⟩⟩
 ·rw[c1,c2,aj,aj,aG,fj];exact fb (ar (by omega))
 ·rw[c1,c2,c3,aK,aj,aj,aj,aG,fj,aG,fj];exact fb (ar (by omega))
 rw[c1,c2,c3]at hq5 ⊢;have m1:(ws.take 1).map V.str++(ws.drop (1+n)).map V.str=(ws.take 1++ws.drop (1+n)).map V.str:=ax.symm;have m2:(ws.take 1++ws.drop (1+n)).map V.str++((ws.drop 1).take (1+n-1)).map V.str=(ws.take 1++ws.drop (1+n)++(ws.drop 1).take (1+n-1)).map V.str:=ax.symm;rw[m1]at hq5 ⊢;rw[m2];have S6:=((((ab.new (o:=.lst ((ws.take 1).map V.str)) hq1).trans (ab.new (o:=.lst ((ws.drop (1+n)).map V.str)) (by rw[<-c1];exact hq2))).trans (ab.new (o:=.lst ((ws.take 1++ws.drop (1+n)).map V.str)) (by rw[<-c1,<-c2];exact hq3))).trans (ab.new (o:=.lst (((ws.drop 1).take (1+n-1)).map V.str)) (by rw[ax,<-c1,<-c2];exact hq4))).trans (ab.new (o:=.lst ((ws.take 1++ws.drop (1+n)++(ws.drop 1).take (1+n-1)).map V.str)) hq5);have hperm:=zC ws n;generalize ws.take 1++ws.drop (1+n)++(ws.drop 1).take (1+n-1)=rooms' at S6 hperm hq5 ⊢;have hr':(upd (upd (upd (upd (upd H5 q1 (.lst ((ws.take 1).map V.str))) q2 (.lst ((ws.drop (1+n)).map V.str))) q3 (.lst ((ws.take 1++ws.drop (1+n)).map V.str))) q4 (.lst (((ws.drop 1).take (1+n-1)).map V.str))) q5 (.lst (rooms'.map V.str))) q5=some (.lst (rooms'.map V.str)):=aa;generalize(upd (upd (upd (upd (upd H5 q1 (.lst ((ws.take 1).map V.str))) q2 (.lst ((ws.drop (1+n)).map V.str))) q3 (.lst ((ws.take 1++ws.drop (1+n)).map V.str))) q4 (.lst (((ws.drop 1).take (1+n-1)).map V.str))) q5 (.lst (rooms'.map V.str)))=H6 at S6 hr' ⊢;have T6:=T5.same S6;have hd6:=S6 _ _ hd5;refine⟨_,rfl,l4,rfl,⟨_,az.of T6.a4⟩,fun g hg=>?_⟩;refine bZ (xs:=ts.map V.ref) (fun i vs H'=>∃us:List Addr,vs=us.map V.ref/\ab H6 H'/\H' g=some (.lst vs)/\cF H' us ((ds.take i).map (vM ρ))) ⟨[],rfl,ab.new hg,aa,.nil⟩ (fun i vs H' _ ⟨_,_,S,h',_⟩=>⟨h',az.of (S _ _ T6.a4)⟩) ?_ ?_;rotate_left
 ·rintro i vs H' x' hx' hi ⟨us,rfl,S,g',hP⟩;obtain⟨u,hu,rfl⟩:=cj hx';obtain⟨dr,hdr,hatd⟩:=Paired.getL T6.ds hu;obtain⟨sb,ht2,hs2⟩:=hatd.kt (ab.kt S);have hmem:=aZ hdr;have hda:=hval dr.a (m.good dr hmem).a;have hdb:=hval dr.b (m.good dr hmem).b;refine⟨u,_,rfl,br.of ht2,rfl,_,_,rfl,_,_,rfl,_,_,rfl,rfl,?_⟩;refine se ?_;refine⟨_,rfl,_,rfl,d,.str (ρ dr.a),rfl,.inl ⟨_,.inr dr.a,.inl (S _ _ hd6),rfl,hda.symm⟩,_,rfl,_,rfl,_,rfl,d,.str (ρ dr.b),rfl,.inl ⟨_,.inr dr.b,.inl (S _ _ hd6),rfl,hdb.symm⟩,(by show 3<=ai;decide),fun w hw=>⟨kp g' hw,?_,nA hi ⟨us++[w],by rw[ax];rfl,?_,aa,?_⟩⟩⟩
  ·rw[aj,Paired.length hP,aj,aG];exact ar (by omega)
  ·intro b o q;rw[ag (ae q hg)];exact kp (S _ _ q) hw
  ·rw[take_snoc hdr,ax];have hk:gM H' (upd (upd H' w (.tup [.str (ρ dr.a),.ref sb,.str (ρ dr.b)])) g (.lst (us.map V.ref++[.ref w]))):=(ab.kt (ab.new hw)).trans (cL (kp g' hw));refine c_ (hP.kt hk) ⟨sb,?_,hk _ _ hs2⟩;exact(cL (kp g' hw)) _ _ aa
 rintro vs H7 ⟨us,rfl,S7,g7,hP⟩;rw[aj,Paired.length T.ds,aR]at hP;have T7:=T6.same S7;have hp7:=(hp5.ex S6).ex S7;have ex7:df p H H7:=exx5.trans (ab.exB (S6.trans S7));refine⟨_,rfl,_,rfl,_,rfl,_,rfl,(by show 4<=ai;decide),fun t' ht'=>k t' q5 g us rooms' ρ _ ⟨aa,kp T7.a1 ht',kp T7.a2 ht',kp (S7 _ _ hr') ht',kp g7 ht',hP.kt (ab.kt (ab.new ht'))⟩ (m.renamed okw hmap hperm) (by rw[hmap];exact hperm) (hp7.ex (ab.new ht')) (ex7.trans (df.new ht'))⟩
inductive sH (vs:List V)(H:Hp)(Q:VK)(E:XK):Prop
 |mk (p c t l1 l2 l3 l4:Addr) (ts:Ze) (J0 J1 J2:Zb) (ds:List am) (n:Nat):(vs=[.ref p,.ref t,.int (n:Nat)])->(g6 H p c)->(iE H t l1 l2 l3 l4 ts J0 J1 J2 ds)->(aL J0 J1 J2 ds)->(J2.length<=26)->(ds.length<=650)->(n<=8)->(∀(t' l3' l4':Addr) (ts':Ze) (rooms':Zb) (ds':List am) (H':Hp),iE H' t' l1 l2 l3' l4' ts' J0 J1 rooms' ds'->aL J0 J1 rooms' ds'->(∀r∈rooms',∀a∈J0,gS ds' r a)->rooms'.length=J2.length->ds'.length<=ds.length+n+4 * J2.length->g6 H' p c->df p H H'->Q (.ref t') H')->sH  vs H Q E
theorem Hx{K:Za}(h:sH vs H Q E):Bm K fK jj kI mO sM (bJ Q) (start CB vs) H:=by
 obtain⟨p,c,t,l1,l2,l3,l4,ts,J0,J1,J2,ds,n,rfl,hp,T,m,z3,z4,zn,k⟩:=h;refine⟨_,rfl,p,c,rfl,hp,fun H1 hp1 ex1=>?_⟩;have T1:=T.ex hp ex1;refine⟨_,rfl,_,rfl,_,_,rfl,rfl,dX hp1 (by omega) (by omega) fun x H2 x0 x1 hp2 ex2=>?_⟩;have T2:=T1.ex hp1 ex2;refine⟨x,rfl,by omega,by omega,?_⟩;refine kh (lo:=0) (n:=x.toNat) (fun i σ H'=>Ky fun(t' l4':Addr) (ts':Ze) (ds':List am) (x3:Option V)=>JH (σ=[some (.ref p),some (.ref t'),some (.int (n:Nat)),x3]) (iE H' t' l1 l2 l3 l4' ts' J0 J1 J2 ds') (aL J0 J1 J2 ds') (ds'.length<=ds.length+i) (g6 H' p c) (df p H H'))
  ⟨t,l4,ts,ds,_,rfl,T2,m,aA _,hp2,ex1.trans ex2⟩ ?_ ?_
 ·rintro i σ H3 hi ⟨t',l4',ts',ds',x3,rfl,T3,m3,z,hp3,ex3⟩;refine⟨_,rfl,_,rfl,p,c,t',l1,l2,l3,l4',ts',J0,J1,J2,ds',rfl,hp3,T3,m3,by omega,fun t2 l42 ts2 ds2 H4 T4 m4 z4 hp4 ex4=>?_⟩;exact⟨t2,l42,ts2,ds2,_,rfl,T4,m4,by omega,hp4,ex3.trans ex4⟩
 ·rintro σ H3 ⟨t',l4',ts',ds',x3,rfl,T3,m3,z,hp3,ex3⟩;refine⟨_,rfl,_,rfl,p,c,t',l1,l2,l3,l4',ts',J0,J1,J2,ds',rfl,hp3,T3,m3,z3,by omega,fun t2 l42 ts2 ds2 H4 T4 m4 tk4 zw hp4 ex4=>?_⟩;refine⟨_,rfl,dX hp4 (by decide) (by decide) fun w H5 w0 w1 hp5 ex5=>⟨rfl,_,rfl,?_⟩⟩;have T5:=T4.ex hp4 ex5;refine jJ (fun _=>?_) (fun _=>?_)
  ·refine⟨_,rfl,_,rfl,p,c,t2,l1,l2,l3,l42,ts2,J0,J1,J2,ds2,rfl,hp5,T5,m4,z3,fun t3 l33 l43 ts3 rooms3 f H6 T6 m6 pr hp6 ex6=>⟨_,rfl,?_⟩⟩;refine k t3 l33 l43 ts3 rooms3 _ H6 T6 m6 (fun r hr a ha=>?_) (by rw[pr.length_eq,aj]) (by rw[aj];omega) hp6 (((ex3.trans ex4).trans ex5).trans ex6);obtain⟨r0,hr0,rfl⟩:=aw.1 (pr.mem_iff.1 hr);exact(tk4 r0 hr0 a ha).ren
  ·exact⟨_,rfl,k t2 l3 l42 ts2 J2 ds2 H5 T5 m4 tk4 rfl (by omega) hp5 ((ex3.trans ex4).trans ex5)⟩
theorem EA{fm:List (List Str)}{l:List (Sg×Nat)}(pr:Paired (fun(a:Sg×Nat) (p:Sg×List Str)=>a.1=p.1/\fm[a.2]?=some p.2) l (stepsF J0 J1 J2 ds f)){sg:Sg}(hs:sg∈bd J0 J1):
  match bL l sg with|none=>behF J2 ds f sg=[] | some w=>behF J2 ds f sg≠[]/\fm[w]?=some (behF J2 ds f sg):=by
 cases e:bL l sg with
 |some w =>
  obtain⟨i,hi⟩:=im (uK e);obtain⟨p,hp,e1,e2⟩:=Paired.getL pr hi;have hp:=aZ hp;obtain⟨s,_,e3⟩:=aw.1 (bD.1 hp).1;have h3:=of_decide_eq_true (bD.1 hp).2;rw[<-e3]at e1 e2 h3;have e1:sg=s:=e1;subst e1;exact⟨h3,e2⟩
 |none =>
  simp only;refine xv fun n=>?_;have hm:(sg,behF J2 ds f sg)∈stepsF J0 J1 J2 ds f:=bD.2 ⟨aw.2 ⟨sg,hs,rfl⟩,zzr1 n⟩;obtain⟨i,hi⟩:=im hm;obtain⟨a,ha,e1,_⟩:=Paired.get pr hi;unfold bL at e;rw[Option.map_eq_none_iff,List.find?_eq_none]at e;exact e a (aZ ha) (zzr1 e1)
theorem ij.part{K:Za}{H':Hp}(h:ij K C H x M fa sa na ta us ws m)(e:∀b o,H b=some o->(∀k,o=.dT k->b=na)->H' b=some o):ij K C H' x M fa sa na ta us ws m:=by
 have k:gM H H':=fun b xs q=>e _ _ q fun _ z=>nomatch z;obtain⟨⟨dx,fs,g,r⟩,h1,h2,h3,h4,h5,h6⟩:=h;refine⟨⟨dx,fs,e _ _ g fun _ z=>(nomatch z),r⟩,e _ _ h1 fun _ z=>(nomatch z),Paired.mapP h2 fun _ _ r=>k _ _ r,e _ _ h3 fun _ z=>(nomatch z),Paired.mapP h4 fun w s r=>⟨r.1,?_⟩,e _ _ h5 fun _ _=>rfl,h6⟩;obtain⟨gs,g1,g2⟩:=r.2;exact⟨gs,e _ _ g1 fun _ z=>(nomatch z),Paired.mapP g2 fun _ _ r=>aS.kt k r⟩
theorem Jd{sg:Sg}(h:sg∈bd J0 J1):sg≠[]:=by
 unfold bd at h;intro z;subst z;rcases a_.1 h with h|h
 ·rcases a_.1 h with h|h
  ·obtain⟨w,_,e⟩:=aw.1 h;cases e
  ·obtain⟨w,_,e⟩:=aw.1 h;cases e
 ·have:=aU.1 h;cases this
theorem mH.steps(ok:mH J0 J1 J2 ds S){i:Nat}{p:Sg×Nat}(hp:p∈S.2.getD i []):p.2<S.1.fs.length/\p.1≠[]:=by
 rw[eJ]at hp;cases e:S.2[i]? with
 |none=>rw[e]at hp;cases hp
 |some l =>
  rw[e]at hp;obtain⟨f,_,pr⟩:=ok.st i l e;obtain⟨j,hj⟩:=im hp;obtain⟨q,hq,e1,e2⟩:=Paired.getL pr hj;obtain⟨s,hs,e3⟩:=aw.1 (bD.1 (aZ hq)).1;exact⟨(cu.1 e2).1,by rw[e1,<-e3];exact Jd hs⟩
theorem Good.few4(g:Good J2 m)(hr:J2.length<=4):m.fs.length<=16:=by
 have h:=ka g.nd (R:=nH J2) (fun f hf=>by obtain⟨p,rfl⟩:=g.isF f hf;exact qS p J2);rw[qT]at h;have:2 ^ J2.length<=2 ^ 4:=w_ (by decide) hr;omega
theorem iJ{st:List (List (Sg×Nat))}(h:qd H0 na H ts st):∀t∈ts,H0 t=none/\t≠na/\∃l,H t=some (.dT l):=fun t ht=>by
 obtain⟨i,hi⟩:=im ht;obtain⟨l,_,r⟩:=Paired.getL h hi;exact⟨r.1,r.2.1,_,r.2.2⟩
theorem Paired.mapM{α β:Type}{F G:α->β->Prop}:∀{as:List α}{bs:List β},Paired F as bs->(∀a b,a∈as->F a b->G a b)->Paired G as bs
 |_,_,.nil,_=>.nil
 |_,_,.cons r t,h=>.cons (h _ _ dU r) (Mum.Paired.mapM t fun a b ha=>h a b (eI _ ha))
inductive nI(K:Za)(C:Addr)(vs:List V)(H:Hp)(Q:VK)(E:XK):Prop
 |mk (x t s:Addr) (J6 sg J0 J1 J2:Zb) (ds:List am):(vs=[.ref x,.ref t,.ref s])->(bv C H x J0 J1 J2 ds)->(aS K H t (J6.map V.str))->(H s=some (.tup (sg.map V.str)))->(sg≠aV)->(J6.length<=1000)->(∀(t':Addr) (F:Zb) (H':Hp),H' t'=some (.tup ((J2.filter fun r=>decide (r∈F)).map V.str))->(∀w,w∈F↔gg ds (dz ds sg J6) w)->ab H H'->Q (.ref t') H')->nI K C vs H Q E
theorem vR{K:Za}(hhu:∀H,br K H hu (aV.map V.str))(h:nI K C vs H Q E):
  nG K (sp_with_still C) C (iK C) hu sp2 (bJ Q) (start nM vs) H:=by
 obtain⟨x,t,s,J6,sg,J0,J1,J2,ds,rfl,M,ht,hs,hne,hz,k⟩:=h;have hdb:∀d∈ds,d.b∈J2:=fun d hd=>(M.ok.good d hd).b;have z4:=M.ok.few;refine⟨_,rfl,jr sg,jr aV,aW (br.of hs),aW (hhu _),by rw[bA];decide,by rw[bA];decide,_,rfl,?_⟩;rw[eF,zzr0 hne];refine bR ?_;refine⟨(by show 0<=ai;decide),fun g hg=>?_⟩;refine⟨_,rfl,t,rfl,⟨_,aS.sq (aS.kt (ab.kt (ab.new hg)) ht)⟩,?_⟩;refine yJ (xs:=J6.map V.str) (fun i σ H'=>∃x4:Option V,σ=[some (.ref x),some (.ref t),some (.ref s),some (.ref g),x4]/\H' g=some (.lst ((dz ds sg (J6.take i)).map V.str))/\ab H H')
  ⟨_,rfl,aa,ab.new hg⟩ (fun i σ H' _ ⟨_,_,_,S⟩=>aS.sq (aS.kt (ab.kt S) ht)) ?_ ?_
 ·rintro i y σ H1 hi ⟨x4,rfl,hg1,S1⟩;obtain⟨r,hr,rfl⟩:=bm hi;have M1:=M.same S1;obtain⟨dx,fs,o1,o2,o3,o4,lv,qu,sgA,sl,ts,lps,gps,sps,g1,a1,a2,a3,a4,_⟩:=M1.at_;refine⟨_,rfl,.inl ⟨rfl,_,az.of hg1⟩,_,rfl,x,dx,fs,rfl,g1,a2,_,rfl,_,rfl,x,s,r,sg,J0,J1,J2,ds,rfl,M1,S1 _ _ hs,fun l H2 hl fr S2=>?_⟩;have hg2:=S2 _ _ hg1;have hlen:((dz ds sg (J6.take i)).map V.str).length+((bz ds (r,sg)).map V.str).length<=ai:=by
   rw[aj,aj];have h1:=pY ds sg (J6.take i);have h2:=rZ ds (r,sg);have h3:(J6.take i).length * ds.length<=1000 * 1000:=sW (by rw[aG];omega) z4;have:(1001000:Nat)<=ai:=by decide
   omega
  refine⟨g,l,_,_,rfl,rfl,hg2,hl,hlen,_,rfl,?_,?_⟩
  ·rw[aa,vY hr,ax]
  ·intro b o q;rw[ag (ae q hg)];exact S2 _ _ (S1 _ _ q)
 ·rintro σ H1 ⟨x4,rfl,hg1,S1⟩;rw[aj,aR]at hg1;refine⟨_,rfl,_,rfl,x,g,dz ds sg J6,J0,J1,J2,ds,rfl,M.same S1,hg1,fun w hw=>?_,fun t' F H' h1 h2 S2=>k t' F H' h1 h2 (S1.trans S2)⟩;obtain⟨r,_,h⟩:=iA.mp hw;exact hdb _ h
inductive pG(K:Za)(C:Addr)(vs:List V)(H:Hp)(Q:VK)(E:XK):Prop
 |mk (x t s:Addr) (J6 sg J0 J1 J2:Zb) (ds:List am):(vs=[.ref x,.ref t,.ref s])->(bv C H x J0 J1 J2 ds)->(aS K H t (J6.map V.str))->(br K H s (sg.map V.str))->((sg=aV∨H s=some (.tup (sg.map V.str))))->((∀r∈J6,r∈J2))->(J6.length<=1000)->(∀(t':Addr) (H':Hp),H' t'=some (.tup ((behF J2 ds J6 sg).map V.str))->ab H H'->Q (.ref t') H')->pG K C vs H Q E
theorem FM{K:Za}(hhu:∀H,br K H hu (aV.map V.str))(h:pG K C vs H Q E):
  nG K (sp_with_still C) C (iK C) hu (ie C) (bJ Q) (start nM vs) H:=by
 obtain⟨x,t,s,J6,sg,J0,J1,J2,ds,rfl,M,ht,hs,hor,hsub,hz,k⟩:=h;by_cases hh:sg=aV;rotate_left
 ·refine vR (E:=E) hhu ⟨x,t,s,J6,sg,J0,J1,J2,ds,rfl,M,ht,hor.resolve_left hh,hh,hz,fun t' F H' h1 hF S=>k t' H' ?_ S⟩;rw[h1,qa hF];unfold behF;rw[if_neg hh]
 subst hh;refine⟨_,rfl,jr aV,jr aV,aW hs,aW (hhu _),by rw[bA];decide,by rw[bA];decide,_,rfl,?_⟩;rw[zzr1 rfl];refine cR ?_;refine⟨_,rfl,t,rfl,⟨_,aS.sq ht⟩,fun f hf=>?_⟩;refine AL (xs:=J6.map V.str) (fun i vs H'=>vs=((J6.take i).filter fun r=>decide (r∈J2.filter (db ds))).map V.str/\ab H H'/\H' f=some (.lst vs)) ⟨rfl,ab.new hf,aa⟩ (fun i vs H' _ ⟨_,S,h'⟩=>⟨h',aS.sq (aS.kt (ab.kt S) ht)⟩) ?_ ?_
 ·rintro vs H' ⟨rfl,S,f'⟩;rw[aj,aR]at f';refine⟨f,_,rfl,.inl ⟨az.of f',fun t' ht'=>k t' _ ?_ (S.trans (ab.new ht'))⟩⟩;rw[aa,FT hsub];unfold behF;rw[if_pos rfl]
 ·rintro i vs H' x' hx' hi ⟨rfl,S,f'⟩;obtain⟨r,hr,rfl⟩:=bm hx';have M':=M.same S;obtain⟨dx,fs,o1,o2,o3,o4,lv,qu,sgA,sl,ts,lps,gps,sps,g1,a1,_⟩:=M'.at_;refine gN ?_;refine⟨_,rfl,x,dx,fs,rfl,g1,a1,_,rfl,x,r,J0,J1,J2,ds,rfl,M',_,rfl,?_⟩;have hlen:(((J6.take i).filter fun r=>decide (r∈J2.filter (db ds))).map V.str).length<ai:=by
   rw[aj];refine ar (bC (c8 _ _) ?_);rw[aG];omega
  refine jJ (fun hq=>?_) (fun hq=>?_)
  ·refine⟨_,rfl,f',hlen,nA hi ⟨?_,?_,aa⟩⟩
   ·rw[cw hr,if_pos hq,ax];rfl
   ·intro b o q;rw[ag (ae q hf)];exact S _ _ q
  ·refine nA hi ⟨?_,S,f'⟩;rw[cw hr,if_neg hq,dj]
inductive ia(K:Za)(C:Addr)(vs:List V)(H:Hp)(Q:VK)(E:XK):Prop
 |mk (x t:Addr) (J6 J0 J1 J2:Zb) (ds:List am):(vs=[.ref x,.ref t])->(bv C H x J0 J1 J2 ds)->(aS K H t (J6.map V.str))->((∀r∈J6,r∈J2))->(J6.length<=1000)->(∀(d:Addr) (kvs:List (TK×V)) (H':Hp),H' d=some (.dT kvs)->lG H' kvs (stepsF J0 J1 J2 ds J6)->H d=none->ab H H'->Q (.ref d) H')->ia K C vs H Q E
theorem z6{K:Za}(hh:∀H,br K H hu (aV.map V.str))(h:ia K C vs H Q E):Bh K (yf C hu) (pG K C) (bJ Q) (start Cv vs) H:=by
 obtain⟨x,t,J6,J0,J1,J2,ds,rfl,M,ht,hsub,hz,k⟩:=h;have z1:=M.ok.asks4;have z2:=M.ok.says4;have zl:(bd J0 J1).length<=9:=by unfold bd;rw[aK,aK,aj,aj];show _+1<=9;omega
 have nd:=mr M.ok;refine fun d hd=>?_;have S0:ab H (upd H d (.dT [])):=ab.new hd;refine⟨_,rfl,x,J0,J1,J2,ds,rfl,M.same S0,fun l us H1 hl hP S1=>⟨l,rfl,⟨_,az.of hl⟩,?_⟩⟩;refine bP (xs:=us.map V.ref) (fun i σ H'=>Jz fun(kvs:List (TK×V)) (x3 x4:Option V)=>JA (σ=[some (.ref x),some (.ref t),some (.ref d),x3,x4]) (H' d=some (.dT kvs)) (ab H H') ((∀b o,H1 b=some o->b≠d->H' b=some o)) (lG H' kvs (stG J2 ds J6 ((bd J0 J1).take i))))
  ⟨[],_,_,rfl,S1 _ _ aa,S0.trans S1,fun _ _ e _=>e,.nil⟩ (fun i σ H' _ ⟨_,_,_,_,_,_,S,_⟩=>az.of (S _ _ hl fun e=>by subst e;have:=S1 _ _ (aa (H:=H) (a:=l) (o:=.dT []));rw[hl]at this;cases this)) ?_ ?_
 ·rintro i y σ H2 hi ⟨kvs,x3,x4,rfl,h2,S2,S12,st⟩;obtain⟨u,hu',rfl⟩:=cj hi;obtain⟨sg,hsg,hat⟩:=Paired.getL hP hu';have hat2:Ix hu H2 u sg:=hat.imp (fun e=>S12 _ _ e fun z=>by subst z;have:=S1 _ _ (aa (H:=H) (a:=u) (o:=.dT []));rw[e]at this;cases this) id;refine⟨_,rfl,_,rfl,_,rfl,x,t,u,J6,sg,J0,J1,J2,ds,rfl,M.same S2,aS.kt (ab.kt S2) ht,hat2.sq hh,hat2.symm.imp (fun e=>e.2) id,hsub,hz,fun f H3 hf S3=>?_⟩;have h3:=S3 _ _ h2;refine⟨_,rfl,.inl ⟨f,_,rfl,.inr (br.of hf),_,_,rfl,rfl,?_⟩⟩;refine⟨_,rfl,?_⟩;have hat3:=hat2.same S3;have S13:∀b o,H1 b=some o->b≠d->H3 b=some o:=fun b o e n=>S3 _ _ (S12 b o e n);have st3:=st.kt (ab.kt S3);refine nK (P:=behF J2 ds J6 sg≠[]) ?_ (fun c=>?_) (fun c=>?_)
  ·rw[aj];constructor
   ·intro h z;rw[z]at h;exact absurd h (by decide)
   ·intro h;exact zzr1 (by have:=List.length_pos_iff.mpr h;omega)
  rotate_left
  ·have c:=kr.1 c;refine⟨kvs,_,_,rfl,h3,S2.trans S3,S13,?_⟩;rw[take_snoc hsg,zX,if_pos c,dj];exact st3
  ·have no:bq kvs (fB sg)=none:=st3.no fun p hp e=>by
    have h1:=Ho hp;rw[e]at h1;exact kS nd hsg h1
   have ll:kvs.length<ai:=by
    rw[Paired.length st];refine ar ?_;have h1:=C5 (J2:=J2) (ds:=ds) (J6:=J6) (L:=(bd J0 J1).take i);rw[aG]at h1;omega
   refine⟨_,rfl,_,rfl,_,rfl,d,u,kvs,fB sg,rfl,rfl,h3,pe (hat3.tup hh),cO sg,ll,_,_,_,rfl,aa,?_,?_,?_⟩
   ·intro b o e;rw[ag (ae e hd)];exact S3 _ _ (S2 _ _ e)
   ·intro b o e n;rw[ag n];exact S13 b o e n
   ·rw[dq _ no,take_snoc hsg,zX,if_neg c];have kt:gM H3 (upd H3 d (.dT (kvs++[(fB sg,.ref f)]))):=A6 h3;exact c_ (st3.kt kt) ⟨rfl,f,rfl,kt _ _ hf⟩
 ·rintro σ H2 ⟨kvs,x3,x4,rfl,h2,S2,_,st⟩;rw[aj,Paired.length hP,aR]at st;exact⟨_,rfl,k d kvs H2 h2 st hd S2⟩
def cN(fv:V)(lo:Sg->Option V)(d:am):List (Str×V) :=
 if d.sg=ao then[(d.b,fv)]else if(lo d.sg).isSome=true∨d.sg.head?=some ("say":Str)then[(d.b,(lo d.sg).getD .non)]else[]
def uo(J2:Zb)(ds:List am)(room:Str)(fv:V)(lo:Sg->Option V):List (Str×V) :=
 (bj ds room).flatMap (cN fv lo)++if room∈J2.filter (db ds)then[(room,(lo aV).getD .non)]else[]
abbrev kW(H:Hp)(us:Ze)(L:List (Str×V)):Prop:=Paired (fun u (r:Str×V)=>H u=some (.tup [.str r.1,r.2])) us L
theorem kW.kt(k:gM H H')(h:kW H us L):kW H' us L:=Paired.mapP h fun _ _ r=>k _ _ r
theorem vZ(fv:V)(lo:Sg->Option V)(d:am):(cN fv lo d).length<=1:=by
 unfold cN;split
 ·exact aA _
 ·split
  ·exact aA _
  ·exact cX _
theorem qU(fv:V)(lo:Sg->Option V):∀L:List am,(L.flatMap (cN fv lo)).length<=L.length
 |[]=>aA _
 |d::L=>by
  rw[nP,aK,dS];have:=vZ fv lo d;have:=qU fv lo L;omega
inductive j1(K:Za)(C:Addr)(vs:List V)(H:Hp)(Q:VK)(E:XK):Prop
 |mk (x sd:Addr) (room:Str) (fv:V) (lo:Sg->Option V) (J0 J1 J2:Zb) (ds:List am):(vs=[.ref x,.str room,fv,.ref sd])->(bv C H x J0 J1 J2 ds)->(room∈J2)->((∀(H':Hp) (s:Addr) (sg:Sg),ab H H'->aS K H' s (sg.map V.str)->Ke H' sd/\ir K H' sd (.ref s) (lo sg)))->(∀(l:Addr) (us:Ze) (H':Hp),H' l=some (.lst (us.map V.ref))->kW H' us (uo J2 ds room fv lo)->H l=none->ab H H'->Q (.ref l) H')->j1 K C vs H Q E
inductive Ku(x:Addr)(room:Str)(fv:V)(sd l:Addr)(ds:List am)(lo:Sg->Option V)(H H1:Hp)(i:Nat)(σ:L2.St)(H':Hp):Prop
 |mk (us:Ze) (x5 x6 x7:Option V):σ=[some (.ref x),some (.str room),some (fv),some (.ref sd),some (.ref l),x5,x6,x7]->H' l=some (.lst (us.map V.ref))->kW H' us (((bj ds room).take i).flatMap (cN fv lo))->ab H H'->(∀b o,H1 b=some o->b≠l->H' b=some o)->Ku x room fv sd l ds lo H H1 i σ H'
theorem FD{K:Za}(hh:∀H,br K H hu (aV.map V.str))(hs:∀H,br K H sa (ao.map V.str))(h:j1 K C vs H Q E):vt K C (ie C) hu (hZ C) sa (bJ Q) (start v2 vs) H:=by
 obtain⟨x,sd,room,fv,lo,J0,J1,J2,ds,rfl,M,hr,hsd,k⟩:=h;have z4:=M.ok.few;refine⟨(by show 0<=ai;decide),fun l hl=>?_⟩;have S0:ab H (upd H l (.lst [])):=ab.new hl;obtain⟨dx,fs,o1,o2,lv,lps,g1,a1,a2,a3,a4,_⟩:=oy (M.same S0);refine⟨_,rfl,x,dx,fs,rfl,g1,a3,_,rfl,x,room,J0,J1,J2,ds,rfl,M.same S0,hr,fun dl du H1 hdl hD hdl0 S1=>⟨dl,rfl,⟨_,az.of hdl⟩,?_⟩⟩;have lz:(bj ds room).length<=1000:=bC (c8 _ _) (by omega);have ndl:dl≠l:=fun z=>by rw[z,aa]at hdl0;cases hdl0
 refine bP (xs:=du.map V.ref) (Ku x room fv sd l ds lo H H1)
  ⟨[],_,_,_,rfl,S1 _ _ aa,.nil,S0.trans S1,fun _ _ e _=>e⟩ (fun i σ H' _ ⟨_,_,_,_,_,_,_,_,e⟩=>az.of (e _ _ hdl ndl)) ?_ ?_
 ·rintro i y σ H2 hi ⟨us,x5,x6,x7,rfl,hl2,hR,S2,e2⟩;obtain⟨u,hu',rfl⟩:=cj hi;obtain⟨d,hd,hat⟩:=Paired.getL hD hu';have k12:gM H1 H2:=fun b xs e=>e2 _ _ e fun z=>by have:=S1 _ _ (aa (H:=H) (a:=l) (o:=.lst []));rw[<-z,e]at this;cases this
  obtain⟨sb,ht2,hs2⟩:=hat.kt k12;have hgood:=M.ok.good d (bD.1 (aZ hd)).1;obtain⟨s0,rest,hsg,_⟩:=mT hgood;have il:i<(bj ds room).length:=(cu.mp hd).1;have ul:us.length<=1000:=by
   rw[Paired.length hR];refine bC (qU fv lo _) ?_;rw[aG];omega
  have row:∀{H3:Hp}(r:Str×V) (p:Addr),ab H2 H3->H3 p=none->cN fv lo d=[r]->Ku x room fv sd l ds lo H H1 (i+1) [some (.ref x),some (.str room),some (fv),some (.ref sd),some (.ref l),some (.str d.a),some (.ref sb),some (.str d.b)] (upd (upd H3 p (.tup [.str r.1,r.2])) l (.lst (us.map V.ref++[.ref p]))):=by
   intro H3 r p S3 hp er;have hk:gM H2 (upd (upd H3 p (.tup [.str r.1,r.2])) l (.lst (us.map V.ref++[.ref p]))):=((ab.kt S3).trans (ab.kt (ab.new hp))).trans (cL (kp (S3 _ _ hl2) hp));refine⟨us++[p],_,_,_,rfl,by rw[aa,ax];rfl,?_,fun b o e=>by rw[ag (ae e hl)];exact kp (S3 _ _ (S2 _ _ e)) hp,fun b o e nb=>by rw[ag nb];exact kp (S3 _ _ (e2 _ _ e nb)) hp⟩;rw[take_snoc hd,xa,nP,er];refine c_ (kW.kt hk hR) ?_;rw[ag (ae (S3 _ _ hl2) hp).symm];exact aa
  refine⟨u,_,rfl,br.of ht2,rfl,_,_,rfl,_,_,rfl,_,_,rfl,rfl,?_⟩;refine⟨_,rfl,jr d.sg,jr ao,aW (br.of hs2),aW (hs H2),by rw[bA];decide,by rw[bA];decide,_,rfl,?_⟩;rw[eF];refine nK (P:=d.sg=ao) (by simp) (fun c=>?_) (fun c=>?_)
  ·refine⟨_,rfl,.inl ⟨rfl,_,az.of hl2⟩,_,rfl,_,rfl,(by show 2<=ai;decide),fun p hp=>⟨l,_,.ref p,rfl,rfl,kp hl2 hp,by rw[aj];exact ar ul,?_⟩⟩;exact row (d.b,fv) p (.refl _) hp (by unfold cN;rw[if_pos c])
  ·have gd:ir K H2 sd (.ref sb) (lo d.sg):=(hsd H2 sb d.sg S2 (.inl hs2)).2;have isd:Ke H2 sd:=(hsd H2 sb d.sg S2 (.inl hs2)).1;have at0:qk (d.sg.map V.str) 0=some (.str s0):=by rw[hsg];exact bH (j:=0) rfl
   have put:(lo d.sg).isSome=true∨d.sg.head?=some ("say":Str)->bV (vp K "list" cT V4 (ay (bw (aO V7 (yb K V3 V6))))) { nx:=Ku x room fv sd l ds lo H H1 (i+1),rt:=Q } [some (.ref x),some (.str room),some (fv),some (.ref sd),some (.ref l),some (.str d.a),some (.ref sb),some (.str d.b)] H2:=by
    intro cc;refine⟨_,rfl,.inl ⟨rfl,_,az.of hl2⟩,_,rfl,_,rfl,sd,rfl,isd,_,rfl,_,gd,?_⟩;refine⟨(by show 2<=ai;decide),fun p hp=>⟨l,_,.ref p,rfl,rfl,kp hl2 hp,by rw[aj];exact ar ul,?_⟩⟩;exact row (d.b,(lo d.sg).getD .non) p (.refl _) hp (by unfold cN;rw[if_neg c,if_pos cc])
   refine⟨_,rfl,_,rfl,sd,_,rfl,gd,_,rfl,?_⟩;cases hv:lo d.sg with
   |some w=>exact cR (cR (put (.inl (by rw[hv];rfl))))
   |none =>
    refine bR ?_;refine⟨_,rfl,sb,_,0,_,rfl,rfl,br.of hs2,at0,rfl,_,rfl,?_⟩;refine nK (P:=d.sg.head?=some ("say":Str)) (by rw[hsg];simp) (fun c2=>put (.inr c2)) (fun c2=>?_);refine⟨us,_,_,_,rfl,hl2,?_,S2,e2⟩;have er:cN fv lo d=[]:=by
     unfold cN;rw[if_neg c,if_neg];rintro(z|z)
     ·rw[hv]at z;cases z
     ·exact c2 z
    rw[take_snoc hd,xa,nP,er];simpa using hR
 ·rintro σ H2 ⟨us,x5,x6,x7,rfl,hl2,hR,S2,e2⟩;rw[aj,Paired.length hD,aR]at hR;have M2:=M.same S2;obtain⟨dx,fs,o1,o2,lv,lps,g1,a1,a2,a3,a4,_⟩:=oy M2;have ul:us.length<=1000:=by
   rw[Paired.length hR];exact bC (qU fv lo _) lz
  refine⟨_,rfl,x,dx,fs,rfl,g1,a4,_,rfl,x,room,J0,J1,J2,ds,rfl,M2,_,rfl,?_⟩;refine nK (P:=room∈J2.filter (db ds)) (by simp) (fun c=>?_) (fun c=>?_)
  ·have gd:=hsd H2 hu aV S2 (C2 hh H2);refine⟨_,rfl,.inl ⟨rfl,_,az.of hl2⟩,_,rfl,_,rfl,sd,rfl,gd.1,_,gd.2,?_⟩;refine⟨(by show 2<=ai;decide),fun p hp=>⟨l,_,.ref p,rfl,rfl,kp hl2 hp,by rw[aj];exact ar ul,?_⟩⟩;have hk:gM H2 (upd (upd H2 p (.tup [.str room,(lo aV).getD .non])) l (.lst (us.map V.ref++[.ref p]))):=(ab.kt (ab.new hp)).trans (cL (kp hl2 hp));refine⟨_,rfl,k l (us++[p]) _ (by rw[aa,ax];rfl) ?_ hl fun b o e=>by rw[ag (ae e hl)];exact kp (S2 _ _ e) hp⟩;unfold uo;rw[if_pos c];refine c_ (kW.kt hk hR) ?_;rw[ag (ae hl2 hp).symm];exact aa
  ·refine⟨_,rfl,k l us H2 hl2 ?_ hl S2⟩;unfold uo;rw[if_neg c,dj];exact hR
def CF:List Str:=["things","keys","thing"]
def Bp(K:Za):TS :=
 ap (aP (ow) U1)
 (ap (dR (Gw K V0) U2 (l_ V1 V2 (tC (.bl true))))
 (bc V1))
def CG:List Str:=["things","keys","thing"]
def tV(K:Za)(C_Machine:Addr)(sp_Machine_rooms:Sp)(sp_as_keys:Sp):TS :=
 ap (aP (aM sp_as_keys (ay V1)) U2)
 (bc (rR (aI Er (dB (eG K) (ay V1)) (tC (.int 0))) (aI (j5 K) V1 (dB (Af K) (ay (c6 1 [2] (bT K (cZ C_Machine "rooms" sp_Machine_rooms [] E0 V0 bh)) U0 (tB (sw K V0 V1)) V0))))))
def ve:List Str:=["M","face","rooms"]
def xU(K:Za)(cA:Sp)(C_Machine:Addr)(sp_Machine_rooms:Sp)(sp_rows_needed:Sp)(sp_steps_at:Sp)(sp_is_full_face:Sp)(sp_as_keys:Sp)(sp_need_taker:Sp):TS :=
 ap (bV (aM sp_need_taker (aO V0 V1)))
 (ap (aP (aM sp_as_keys (ay V2)) U3)
 (ap (aP (aM sp_as_keys (ay (cZ C_Machine "rooms" sp_Machine_rooms [] E0 V1 bh))) U4)
 (ap (aP (jE) U5)
 (ap (dR (Ca K V3) (g0 K 2 (aY U6 (aY U7 (gP)))) (ap (bS (tB (dk K V7 V5)) (ap (bS (tZ (tB (aM sp_is_full_face (aO V0 V7)))) (bc (tC (.bl false))) (bg))
 (jF K V5 V7 (aM sp_steps_at (aO V0 V7)))) (bg))
 (bS (Ea (tB (dk K V6 V4)) (tZ (tB (dB (HL K) (au (c6 1 [3] (bT K (aM sp_rows_needed (au V1 (dW V6 V7 (gR K V5 V7))))) U0 (kG) (sw K V0 V1)) bh))))) (bc (tC (.bl false))) (bg))))
 (bc (sw K (bw (aO (aI (cV K) (cZ C_Machine "rooms" sp_Machine_rooms [] E0 V1 bh) (tC (.int 0))) (aM cA (ay V0)))) V3))))))
def y8:List Str:=["M","I","paper","rows","rooms","steps","room","face"]
def qM(K:Za)(sp_law_is_quiet:Sp)(sp_law_behind:Sp):TS :=
 ap (dR (bT K (aI (oA K) V1 (tC (.int 3)))) (g0 K 3 (aY U5 (aY U6 (aY U7 (gP))))) (ap (bS (lC (aQ (aI zg V5 V3)) (lC (aQ (aI (j5 K) V6 (bw (ay (tC (.str "still")))))) (tB (dk K (bw (aO V7 V4)) V2)))) (bc (tC (.bl false))) (bg))
 (bS (lC (aQ (aI zg V5 V3)) (aQ (aI (uu K) V6 (bw (ay (tC (.str "still"))))))) (ap (aP (aM sp_law_behind (dW V0 V4 V6)) U8)
 (bS (Ea (lC (aQ (aI (j5 K) V8 (bw (bh)))) (aQ (aI zg (aI (lD K) V6 (tC (.int 0))) (tC (.str "say"))))) (lC (aQ (aI (uu K) V8 (bw (bh)))) (tB (dk K (bw (aO V7 V8)) V2)))) (bc (tC (.bl false))) (bg))) (bg))))
 (ap (bS (tB (aM sp_law_is_quiet (aO V1 V3))) (ap (aP (aM sp_law_behind (dW V0 V4 (bw (ay (tC (.str "hush")))))) U8)
 (bc (rR (aI (uu K) V8 (bw (bh))) (sw K (bw (aO V3 V8)) V2)))) (bg))
 (bc (tC (.bl true))))
def rq:List Str:=["told","some","rows","room","face","one","sign","other","behind"]
theorem EK{d:Addr}{o:Obj}{u:HO}{n:Nat}{ent:Nat->Hp->V->V->Prop}{g:TG}{tb:TS}{D:mI}{σ:L2.St}{H:Hp}(Pv:Nat->L2.St->Hp->Prop)(h0:Pv 0 σ H)(hl:∀i σ H,i<=n->Pv i σ H->H d=some (.frz o u))
  (hs:∀i σ H a b,i<n->Pv i σ H->ent i H a b->g a σ H fun σ2 H2=>tb { D with nx:=Pv (i+1),ct:=Pv (i+1),bk:=D.nx } σ2 H2) (hd:∀σ H,Pv n σ H->D.nx σ H) :
  ∃W:Nat->Nat->L2.St->Hp->Prop,(∃m,W 0 m σ H)/\∀i m σ H,W i m σ H ->
   ((Ja d o u n ent).stop i H/\D.nx σ H)∨((Ja d o u n ent).go i H/\∃N:L2.St->Hp->Prop,(∀σ' H',N σ' H'->∃m',m'<m/\W (i+1) m' σ' H')/\∀x H',(Ja d o u n ent).yld i H x H'->g x σ H' fun σ2 H2=>tb { D with nx:=N,ct:=N,bk:=D.nx } σ2 H2):=by
 refine⟨fun i m σ H=>m=n-i/\i<=n/\Pv i σ H,⟨n,by simp,cX _,h0⟩,?_⟩;rintro i m σ H ⟨rfl,hi,p⟩;have q:=hl i σ H hi p;by_cases lt:i<n
 ·refine .inr ⟨⟨q,lt⟩,Pv (i+1),fun σ' H' p'=>⟨n-(i+1),by omega,rfl,lt,p'⟩,fun x H' y=>?_⟩;obtain⟨rfl,b,en⟩:=y;exact hs i σ _ x b lt p en
 ·have e:i=n:=by omega
  subst e;exact .inl ⟨⟨q,aA _⟩,hd σ H p⟩
theorem uj{n:Nat}(h:n<=200000):n<ai:=by rw[jh];omega
abbrev bO:=Str×List Str
def eP(r:bO):TK:=.t [mV r.1,fB r.2]
theorem GD(h:eP a=eP b):a=b:=by
 unfold eP at h;injection h with h;injection h with h1 h2;injection h2 with h2 _;obtain⟨a1,a2⟩:=a;obtain⟨b1,b2⟩:=b;rw[show a1=b1 from pI h1,show a2=b2 from iC h2]
theorem i7(k:bO):(eP k).depth<=8:=by
 show max (mV k.1).depth (max (fB k.2).depth 0)+1<=8;rw[qJ];show max 0 (max 1 0)+1<=8
 decide
def rE(H:Hp)(u:Addr)(r:bO):Prop:=∃ft,H u=some (.tup [.str r.1,.ref ft])/\SignAt H ft r.2
theorem rE.kt(kt:gM H H'):rE H b k->rE H' b k:=fun⟨u,h1,h2⟩=>⟨u,kt _ _ h1,kt _ _ h2⟩
theorem rE.tk(h:rE H b k):cW H (eP k) (.ref b):=by
 obtain⟨u,h1,h2⟩:=h;unfold eP cW;refine⟨b,_,rfl,h1,?_⟩;unfold TKAts;refine⟨_,_,rfl,tR _,?_⟩;unfold TKAts;refine⟨_,_,rfl,SignAt.tk h2,?_⟩;unfold TKAts
 rfl
theorem Fq{K:Za}(h:jR K H (eP k) a):∃b ft,a=.ref b/\aS K H b [.str k.1,.ref ft]/\aS K H ft (k.2.map V.str):=by
 unfold eP jR at h;obtain⟨b,xs,rfl,h1,h2⟩:=h;unfold TKCs at h2;obtain⟨v,us,rfl,h3,h4⟩:=h2;unfold TKCs at h4;obtain⟨v',us',rfl,h5,h6⟩:=h4;unfold TKCs at h6;obtain⟨ft,rfl,h7⟩:=tQ h5;unfold mV jR at h3;subst h3 h6;exact⟨b,ft,rfl,h1,h7⟩
def jd(L:List bO):List (TK×V):=L.map fun k=>(eP k,.bl true)
theorem kU(k:bO):∀L:List bO,(bq (jd L) (eP k)).isSome=decide (k∈L)
 |[]=>rfl
 |x::L=>by
  show(bq ((eP x,V.bl true)::jd L) (eP k)).isSome=_;by_cases c:x=k
  ·rw[cz (by show eP x=eP k;rw[c])];simp[c]
  ·rw[bY (fun z=>c (GD z)),kU k L];simp[dE c]
theorem Dt(r:Str):∀L:List bO,bq (jd L) (.t [.k (some (.inr r)),.k none])=none
 |[]=>rfl
 |x::L=>by
  show bq ((eP x,V.bl true)::jd L) _=none;rw[bY (fun z=>by unfold eP fB at z;injection z with z;injection z with _ z;injection z with z _;cases z),Dt r L]
def lE(L:List bO)(r:bO):List bO:=if r∈L then L else L++[r]
def bE(L:List bO):List bO:=L.foldl lE []
theorem yy(r:bO)(L:List bO):cM (jd L) (eP r) (.bl true)=jd (lE L r):=by
 unfold lE;by_cases c:r∈L
 ·rw[if_pos c];unfold cM;rw[if_pos]
  ·unfold jd;rw[qq];refine xr fun x _=>?_;show(if eP x=eP r then(eP x,V.bl true)else(eP x,V.bl true))=_
   split<;>rfl
  ·rw[List.any_eq_true];exact⟨(eP r,.bl true),aw.2 ⟨r,c,rfl⟩,zzr1 rfl⟩
 ·rw[if_neg c];have vn:bq (jd L) (eP r)=none:=by
   have:=kU r L;rw[zzr0 c]at this;cases e:bq (jd L) (eP r)with
   |none=>rfl
   |some v=>rw[e]at this;cases this
  rw[dq _ vn];unfold jd;rw[ax];rfl
theorem yi{L:List bO}{i:Nat}{r:bO}(h:L[i]?=some r):bE (L.take (i+1))=lE (bE (L.take i)) r:=by
 unfold bE;rw[take_snoc h,ky];rfl
theorem Av{x:bO}:x∈lE L r↔x∈L∨x=r:=by
 unfold lE;split
 ·rename_i h;exact⟨.inl,fun z=>z.elim id fun e=>by rw[e];exact h⟩
 ·simp
theorem jp{x:bO}:x∈bE L↔x∈L:=by
 have:∀(L A:List bO),x∈L.foldl lE A↔x∈A∨x∈L:=by
  intro L
  induction L with
  |nil=>intro A;simp
  |cons y L ih =>
   intro A;rw[nR,ih,Av,cH,or_assoc]
 unfold bE;rw[this];simp
theorem rT(L:List bO):(bE L).length<=L.length:=by
 have:∀(L A:List bO),(L.foldl lE A).length<=A.length+L.length:=by
  intro L
  induction L with
  |nil=>intro A;exact aA _
  |cons y L ih =>
   intro A;rw[nR,dS];have h1:=ih (lE A y);have h2:(lE A y).length<=A.length+1:=by
    unfold lE;split
    ·omega
    ·rw[aK];exact aA _
   omega
 have:=this L [];simpa[bE]using this
inductive rS(K:Za)(vs:List V)(H:Hp)(Q:VK)(E:XK):Prop
 |mk (l:Addr) (us:Ze) (L:List bO):(vs=[.ref l])->(H l=some (.lst (us.map V.ref)))->(Paired (rE H) us L)->(L.length<=100000)->(∀d,H d=none->Q (.ref d) (upd H d (.dT (jd (bE L)))))->rS K vs H Q E
inductive jm(K:Za)(vs:List V)(H:Hp)(Q:VK)(E:XK):Prop
 |mk (l:Addr) (ws:Zb):(vs=[.ref l])->(aS K H l (ws.map V.str))->(ws.length<=1000)->(∀d,H d=none->Q (.ref d) (upd H d (.dK (aJ ws))))->jm K vs H Q E
theorem Ac{K:Za}(h:jm K vs H Q E):Bp K (bJ Q) (start CG vs) H:=by
 obtain⟨l,ws,rfl,hl,hz,k⟩:=h;refine fun d hd=>?_;have key:∀kvs,br K (upd H d (.dK kvs)) l (ws.map V.str):=fun kvs=>aS.sq (aS.kt (ab.kt (ab.new hd)) hl);refine⟨_,rfl,l,rfl,⟨_,key _⟩,?_⟩;refine yJ (xs:=ws.map V.str) (fun i σ H'=>∃x,σ=[some (.ref l),some (.ref d),x]/\H'=upd H d (.dK (aJ (ws.take i)))) ⟨_,rfl,rfl⟩ (fun i σ H' _ ⟨_,_,e⟩=>by rw[e];exact key _) ?_ ?_
 ·rintro i x σ H' hi ⟨y,rfl,rfl⟩;obtain⟨w,hw,rfl⟩:=bm hi;have hlen:(aJ (ws.take i)).length<ai:=ar (bC (i3 _) (by rw[aG];omega));refine⟨_,rfl,_,rfl,d,_,rfl,.inl ⟨_,.inr w,aa,rfl,hlen,rfl⟩,_,rfl,?_⟩;rw[mM,take_snoc hw,dw]
 ·rintro σ H' ⟨x,rfl,rfl⟩;rw[aj,aR];exact⟨_,rfl,k d hd⟩
def uh(K:Za):Sp:=fun vs H Q E=>sp_as_keys K vs H Q E∨rS K vs H Q E∨jm K vs H Q E
def i5(J2 f:Zb):Bool:=decide (f≠[]/\f=J2.filter fun r=>decide (r∈f))
inductive sK(K:Za)(C:Addr)(vs:List V)(H:Hp)(Q:VK)(E:XK):Prop
 |mk (x ft:Addr) (f J0 J1 J2:Zb) (ds:List am):(vs=[.ref x,.ref ft])->(bv C H x J0 J1 J2 ds)->(aS K H ft (f.map V.str))->(f.length<=1000)->(∀H',ab H H'->Q (.bl (i5 J2 f)) H')->sK K C vs H Q E
theorem HA{K:Za}(h:sK K C vs H Q E):tV K C (gl C) (uh K) (bJ Q) (start ve vs) H:=by
 obtain⟨x,ft,f,J0,J1,J2,ds,rfl,M,hf,hz,k⟩:=h;refine⟨_,rfl,.inr (.inr ⟨ft,f,rfl,hf,hz,fun d hd=>?_⟩)⟩;have S1:ab H (upd H d (.dK (aJ f))):=ab.new hd;have d1:upd H d (.dK (aJ f)) d=some (.dK (aJ f)):=aa;generalize upd H d (.dK (aJ f))=H1 at S1 d1 ⊢;have f1:=aS.kt (ab.kt S1) hf;refine⟨_,rfl,.inl ⟨ft,_,rfl,.inr (aS.sq f1),_,_,rfl,rfl,_,rfl,?_⟩⟩;by_cases c0:f=[]
 ·refine nK (P:=False) (by rw[c0];simp) (fun z=>z.elim) fun _=>?_;have:=k H1 S1;unfold i5 at this;rw[zzr0 (fun z=>z.1 c0)]at this;exact this
 refine nK (P:=True) (by have:=List.length_pos_iff.2 c0;simpa using this) (fun _=>?_) fun z=>(z trivial).elim;have M1:=M.same S1;obtain⟨dx,fs,o1,o2,o3,o4,lv,qu,sgA,sl,ts,lps,gps,sps,g1,a1,a2,a3,a4,_⟩:=id M1.at_;have z3:=M.ok.rooms26;refine⟨_,rfl,_,rfl,x,dx,fs,rfl,g1,a4,x,J0,J1,J2,ds,rfl,M1,fun rl hrl=>⟨rl,rfl,⟨_,az.of aa⟩,fun l hl=>?_⟩⟩;have S2:ab H1 (upd H1 rl (.lst (J2.map V.str))):=ab.new hrl;have r2:upd H1 rl (.lst (J2.map V.str)) rl=some (.lst (J2.map V.str)):=aa;generalize upd H1 rl (.lst (J2.map V.str))=H2 at S2 r2 hl ⊢;have d2:=S2 _ _ d1;refine bZ (xs:=J2.map V.str) (fun i vs H'=>vs=((J2.take i).filter fun r=>decide (r∈f)).map V.str/\ab H2 H'/\H' l=some (.lst vs)) ⟨rfl,ab.new hl,aa⟩ (fun i vs H' _ ⟨_,S,h'⟩=>⟨h',az.of (S _ _ r2)⟩) ?_ ?_
 ·rintro vs H' ⟨rfl,S,h'⟩;rw[aj,aR]at h';refine⟨l,_,rfl,.inl ⟨az.of h',fun t' ht'=>?_⟩⟩;have S3:ab H1 (upd H' t' (.tup ((J2.filter fun r=>decide (r∈f)).map V.str))):=(S2.trans S).trans (ab.new ht');refine⟨jr f,jr (J2.filter fun r=>decide (r∈f)),aW (aS.sq (aS.kt (ab.kt S3) f1)),aW (br.of aa),by rw[bA];decide,by rw[bA];decide,?_⟩;rw[eF];have:=k _ (S1.trans S3);unfold i5 at this;rw[decide_eq_decide.2 (show(f≠[]/\f=J2.filter fun r=>decide (r∈f))↔f=J2.filter fun r=>decide (r∈f)from⟨fun z=>z.2,fun z=>⟨c0,z⟩⟩)]at this;exact this
 ·rintro i vs H' y hy hi ⟨rfl,S,h'⟩;obtain⟨r,hr,rfl⟩:=bm hy;refine gN ?_;refine⟨_,rfl,_,rfl,d,_,rfl,.inl ⟨_,.inr r,.inl (S _ _ d2),rfl,rfl⟩,_,rfl,?_⟩;rw[dQ];refine nK (P:=r∈f) (by simp) (fun c=>?_) fun c=>?_
  ·refine⟨_,rfl,h',?_,nA hi ⟨?_,fun b o q=>by rw[ag (ae q hl)];exact S _ _ q,aa⟩⟩
   ·rw[aj];exact ar (bC (c8 _ _) (by rw[aG];omega))
   ·rw[cw hr,if_pos (by simpa using c),ax];rfl
  ·refine nA hi ⟨?_,S,h'⟩;rw[cw hr,if_neg (by simpa using c),dj]
def d9(J2:Zb)(ds ds':List am)(L:List bO)(r:Str)(f:Zb):Prop :=
 (∀d∈ds',d.a=r->(d.sg=ao->(d.b,f)∈L)/\(d.sg≠ao->(behF J2 ds f d.sg=[]->d.sg.head?≠some ("say":Str))/\(behF J2 ds f d.sg≠[]->(d.b,behF J2 ds f d.sg)∈L))) /\
 (r∉fA ds'->behF J2 ds f aV≠[]/\(r,behF J2 ds f aV)∈L)
def nh(J2 rooms':Zb)(ds ds':List am)(L:List bO)(x:bO):Prop:=x.1∈rooms'/\i5 J2 x.2=true/\d9 J2 ds ds' L x.1 x.2
def dI(J2 rooms':Zb)(ds ds':List am)(L:List bO):Prop:=(∀x∈L,nh J2 rooms' ds ds' L x)/\∃r0,rooms'[0]?=some r0/\(r0,closF J2 ds (J2.take 1))∈L
theorem GC(h:i5 J2 f=true):∀r∈f,r∈J2:=fun r hr=>by
 have:=(of_decide_eq_true h).2;rw[this]at hr;exact(bD.1 hr).1
theorem AG(h:i5 J2 f=true):f.length<=J2.length:=by
 have:=(of_decide_eq_true h).2;rw[this];exact c8 _ _
theorem uV{K:Za}{ft:Addr}{r:Str}{f:Zb}(hd:Rd H d (.dT (jd L)))(hp:br K H p [.str r,.ref ft])(hf:aS K H ft (f.map V.str)):ir K H d (.ref p) (bq (jd L) (eP (r,f))):=by
 refine .inr ⟨_,eP (r,f),p,hd,rfl,?_,i7 _,rfl⟩;unfold eP je;refine⟨p,_,rfl,hp,?_⟩;unfold TKIns;refine⟨_,_,rfl,?_,?_⟩
 ·unfold mV je;rfl
 unfold TKIns;refine⟨_,_,rfl,mN hf,?_⟩;unfold TKIns
 rfl
theorem lG.find{sg:Sg}:∀{kvs:List (TK×V)}{L:List (Sg×List Str)},lG H kvs L->((∀p∈L,p.1≠sg)/\bq kvs (fB sg)=none)∨∃p∈L,p.1=sg/\∃u,bq kvs (fB sg)=some (.ref u)/\H u=some (.tup (p.2.map V.str))
 |_,_,.nil=>.inl ⟨fun _ h=>(nomatch h),rfl⟩
 |kv::_,p::_,.cons ⟨e,u,e2,hu⟩ t=>by
  by_cases c:p.1=sg
  ·refine .inr ⟨p,dU,c,u,?_,hu⟩;rw[cz (by rw[e,c]),e2]
  ·rw[bY (fun z=>c (iC (by rw[<-e,z])))];rcases lG.find t with⟨h1,h2⟩|⟨q,hq,h⟩
   ·exact .inl ⟨fun x hx=>(cH.1 hx).elim (fun z=>by rw[z];exact c) (h1 x),h2⟩
   ·exact .inr ⟨q,eI _ hq,h⟩
theorem lG.look(h:lG H kvs (stepsF J0 J1 J2 ds f)){sg:Sg}(hs:sg∈bd J0 J1):
  (behF J2 ds f sg=[]/\bq kvs (fB sg)=none)∨(behF J2 ds f sg≠[]/\∃u,bq kvs (fB sg)=some (.ref u)/\H u=some (.tup ((behF J2 ds f sg).map V.str))):=by
 rcases lG.find (sg:=sg) h with⟨h1,h2⟩|⟨p,hp,e,u,h1,h2⟩
 ·refine .inl ⟨?_,h2⟩;refine kr.1 fun z=>h1 (sg,behF J2 ds f sg) ?_ rfl;exact bD.2 ⟨aw.2 ⟨sg,hs,rfl⟩,zzr1 z⟩
 ·obtain⟨h3,h4⟩:=bD.1 hp;obtain⟨s,_,rfl⟩:=aw.1 h3;cases e;exact .inr ⟨of_decide_eq_true h4,u,h1,h2⟩
def rowS(J2:Zb)(ds:List am)(f:Zb)(d:am):List (Str×Option (List Str)) :=
 if d.sg=ao then[(d.b,some f)]else if behF J2 ds f d.sg≠[]then[(d.b,some (behF J2 ds f d.sg))]else if d.sg.head?=some ("say":Str)then[(d.b,none)]else[]
def rowsS(J2 rooms':Zb)(ds ds':List am)(r:Str)(f:Zb):List (Str×Option (List Str)) :=
 (bj ds' r).flatMap (rowS J2 ds f)++if r∈rooms'.filter (db ds')then[(r,if behF J2 ds f aV=[]then none else some (behF J2 ds f aV))]else[]
def RwIs(K:Za)(H:Hp)(x:Str×V)(s:Str×Option (List Str)):Prop:=x.1=s.1/\((s.2=none/\x.2=.non)∨∃g u,s.2=some g/\x.2=.ref u/\aS K H u (g.map V.str))
def Bz(L:List bO)(s:Str×Option (List Str)):Bool:=match s.2 with
 |none=>false
 |some g=>decide ((s.1,g)∈L)
theorem ww{α β γ:Type}{R:β->γ->Prop}{F:α->List β}{G:α->List γ}:∀{l:List α},(∀a∈l,Paired R (F a) (G a))->Paired R (l.flatMap F) (l.flatMap G)
 |[],_=>.nil
 |a::l,h=>by
  rw[nP,nP];exact Paired.app (h a dU) (ww fun b hb=>h b (eI _ hb))
theorem Hr{K:Za}{lo:Sg->Option V}(hlo:∀sg,lo sg=bq kvs (fB sg))(m':aL J0 J1 rooms' ds')(h:lG H kvs (stepsF J0 J1 J2 ds f))(hf:aS K H ft (f.map V.str)):
  Paired (RwIs K H) (uo rooms' ds' r (.ref ft) lo) (rowsS J2 rooms' ds ds' r f):=by
 unfold uo rowsS;refine Paired.app (ww fun d hd=>?_) ?_
 ·have hd':=(bD.1 hd).1;unfold cN rowS;by_cases c:d.sg=ao
  ·rw[if_pos c,if_pos c];exact .cons ⟨rfl,.inr ⟨f,ft,rfl,rfl,hf⟩⟩ .nil
  rw[if_neg c,if_neg c];have hs:d.sg∈bd J0 J1:=by
   unfold bd;rcases(m'.good d hd').sg with⟨w,hw,e⟩|⟨w,hw,e⟩|e
   ·exact cf _ (cf _ (aw.2 ⟨w,hw,e.symm⟩))
   ·exact cf _ (cC _ (aw.2 ⟨w,hw,e.symm⟩))
   ·exact absurd e c
  rcases h.look hs with⟨e1,e2⟩|⟨e1,u,e2,e3⟩
  ·rw[if_neg (fun z:_≠_=>z e1)];by_cases c2:d.sg.head?=some ("say":Str)
   ·rw[if_pos (.inr c2),if_pos c2,hlo,e2];exact .cons ⟨rfl,.inl ⟨rfl,rfl⟩⟩ .nil
   ·rw[if_neg c2,if_neg]
    ·exact .nil
    ·rintro(z|z)
     ·rw[hlo,e2]at z;cases z
     ·exact c2 z
  ·rw[if_pos e1,if_pos (.inl (by rw[hlo,e2];rfl)),hlo,e2];exact .cons ⟨rfl,.inr ⟨_,u,rfl,rfl,.inl e3⟩⟩ .nil
 ·by_cases c:r∈rooms'.filter (db ds')
  ·rw[if_pos c,if_pos c];have hs:aV∈bd J0 J1:=cC _ (aU.2 rfl);rcases h.look hs with⟨e1,e2⟩|⟨e1,u,e2,e3⟩
   ·rw[if_pos e1,hlo,e2];exact .cons ⟨rfl,.inl ⟨rfl,rfl⟩⟩ .nil
   ·rw[if_neg e1,hlo,e2];exact .cons ⟨rfl,.inr ⟨_,u,rfl,rfl,.inl e3⟩⟩ .nil
  ·rw[if_neg c,if_neg c];exact .nil
theorem BB{rooms':Zb}{r:Str}(hr:r∈rooms'):((rowsS J2 rooms' ds ds' r f).map (Bz L)).all id=true↔d9 J2 ds ds' L r f:=by
 rw[xo,xC];have split:(∀x∈rowsS J2 rooms' ds ds' r f,(id ∘ Bz L) x=true)↔(∀d∈ds',d.a=r->∀x∈rowS J2 ds f d,Bz L x=true)/\(r∉fA ds'->Bz L (r,if behF J2 ds f aV=[]then none else some (behF J2 ds f aV))=true):=by
  have q:r∈rooms'.filter (db ds')↔r∉fA ds':=by
   rw[bD,kN,decide_eq_true_iff];exact⟨fun z=>z.2,fun z=>⟨hr,z⟩⟩
  unfold rowsS;constructor
  ·intro h;refine⟨fun d hd e x hx=>h x (cf _ (jz.2 ⟨d,bD.2 ⟨hd,zzr1 e⟩,hx⟩)),fun z=>?_⟩;rw[if_pos (q.2 z)]at h;exact h _ (cC _ (aU.2 rfl))
  ·rintro⟨h1,h2⟩ x hx;rcases a_.1 hx with z|z
   ·obtain⟨d,hd,hx⟩:=jz.1 z;obtain⟨hd,e⟩:=bD.1 hd;exact h1 d hd (of_decide_eq_true e) x hx
   ·by_cases c:r∈rooms'.filter (db ds')
    ·rw[if_pos c]at z;rw[aU.1 z];exact h2 (q.1 c)
    ·rw[if_neg c]at z;cases z
 rw[split];unfold d9;refine and_congr ?_ ?_
 ·refine forall_congr' fun d=>forall_congr' fun _=>forall_congr' fun _=>?_;unfold rowS;by_cases c:d.sg=ao
  ·rw[if_pos c];refine⟨fun h=>⟨fun _=>of_decide_eq_true (h _ (aU.2 rfl)),fun z=>absurd c z⟩,fun h x hx=>?_⟩;rw[aU.1 hx];exact zzr1 (h.1 c)
  ·rw[if_neg c];by_cases e:behF J2 ds f d.sg=[]
   ·rw[if_neg (fun z:_≠_=>z e)];by_cases c2:d.sg.head?=some ("say":Str)
    ·rw[if_pos c2];refine⟨fun h=>?_,fun h=>absurd c2 ((h.2 c).1 e)⟩;have:=h _ (aU.2 rfl);cases this
    ·rw[if_neg c2];exact⟨fun _=>⟨fun z=>absurd z c,fun _=>⟨fun _=>c2,fun z=>absurd e z⟩⟩,fun _ x hx=>by cases hx⟩
   ·rw[if_pos e];refine⟨fun h=>⟨fun z=>absurd z c,fun _=>⟨fun z=>absurd z e,fun _=>of_decide_eq_true (h _ (aU.2 rfl))⟩⟩,fun h x hx=>?_⟩;rw[aU.1 hx];exact zzr1 ((h.2 c).2 e)
 ·refine forall_congr' fun _=>?_;by_cases e:behF J2 ds f aV=[]
  ·rw[if_pos e];exact⟨fun h=>(by cases h),fun h=>absurd e h.1⟩
  ·rw[if_neg e];exact⟨fun h=>⟨e,of_decide_eq_true h⟩,fun h=>zzr1 h.2⟩
theorem Ee(J2 rooms':Zb)(ds ds':List am)(r:Str)(f:Zb):(rowsS J2 rooms' ds ds' r f).length<=ds'.length+1:=by
 have h1:∀l:List am,(l.flatMap (rowS J2 ds f)).length<=l.length:=by
  intro l
  induction l with
  |nil=>exact aA _
  |cons d l ih =>
   rw[nP,aK,dS];have:(rowS J2 ds f d).length<=1:=by
    unfold rowS;split
    ·exact aA _
    ·split
     ·exact aA _
     ·split
      ·exact aA _
      ·exact cX _
   omega
 unfold rowsS;rw[aK];have:=h1 (bj ds' r);have:(bj ds' r).length<=ds'.length:=c8 _ _;split
 ·show _+1<=_;omega
 ·show _+0<=_;omega
structure r9(H:Hp)(sd:Addr)(kvS:List (TK×V))(J0 J1 J2:Zb)(ds:List am):Prop where
 at_:H sd=some (.dT kvS)
 ok:∀f:List Str,bq kvS (fB f)=none∨∃d kvs,bq kvS (fB f)=some (.ref d)/\d≠sd/\H d=some (.dT kvs)/\lG H kvs (stepsF J0 J1 J2 ds f)/\i5 J2 f=true
theorem r9.same(S:ab H H')(h:r9 H sd kvS J0 J1 J2 ds):r9 H' sd kvS J0 J1 J2 ds :=
 ⟨S _ _ h.at_,fun f=>(h.ok f).imp id fun⟨d,kvs,h1,h2,h3,h4,h5⟩=>⟨d,kvs,h1,h2,S _ _ h3,h4.kt (ab.kt S),h5⟩⟩
theorem r9.put{d:Addr}{kvs:List (TK×V)}(h:r9 H sd kvS J0 J1 J2 ds)(nd:d≠sd)(hd:H d=some (.dT kvs))(st:lG H kvs (stepsF J0 J1 J2 ds f))(fu:i5 J2 f=true)(no:bq kvS (fB f)=none):
  r9 (upd H sd (.dT (kvS++[(fB f,.ref d)]))) sd (kvS++[(fB f,.ref d)]) J0 J1 J2 ds:=by
 have kt:gM H (upd H sd (.dT (kvS++[(fB f,.ref d)]))):=A6 h.at_;refine⟨aa,fun g=>?_⟩;by_cases c:g=f
 ·subst c;refine .inr ⟨d,kvs,?_,nd,by rw[ag nd];exact hd,st.kt kt,fu⟩;rw[<-dq (.ref d) no,lR,if_pos rfl]
 ·have e:bq (kvS++[(fB f,V.ref d)]) (fB g)=bq kvS (fB g):=by
   rw[<-dq (.ref d) no];rw[lR,if_neg fun z=>c (iC z)]
  rw[e];exact(h.ok g).imp id fun⟨d',kvs',h1,h2,h3,h4,h5⟩=>⟨d',kvs',h1,h2,by rw[ag h2];exact h3,h4.kt kt,h5⟩
inductive KpI(x y l rd md sd:Addr)(o:Obj)(L:List bO)(J0 J1 J2 rooms':Zb)(ds ds':List am)(H:Hp)(i:Nat)(σ:L2.St)(H':Hp):Prop
 |mk (kvS:List (TK×V)) (x6 x7:Option V):σ=[some (.ref x),some (.ref y),some (.ref l),some (.ref rd),some (.ref md),some (.ref sd),x6,x7]->H' rd=some (.frz o (.dT (jd (bE L))))->H' md=some (.dK (aJ rooms'))->r9 H' sd kvS J0 J1 J2 ds->kvS.length<=i->ab H H'->(∀r∈(bE L).take i,nh J2 rooms' ds ds' L r)->KpI x y l rd md sd o L J0 J1 J2 rooms' ds ds' H i σ H'
def CI(J2:Zb)(ds:List am)(L:List bO)(f:Zb)(d:am):Prop :=
 (d.sg=ao->(d.b,f)∈L)/\(d.sg≠ao->(behF J2 ds f d.sg=[]->d.sg.head?≠some ("say":Str))/\(behF J2 ds f d.sg≠[]->(d.b,behF J2 ds f d.sg)∈L))
inductive RsI(t t' rd ft:Addr)(r:Str)(J2:Zb)(ds ds':List am)(L:List bO)(f:Zb)(H:Hp)(i:Nat)(σ:L2.St)(H':Hp):Prop
 |mk (x5 x6 x7 x8:Option V):σ=[some (.ref t),some (.ref t'),some (.ref rd),some (.str r),some (.ref ft),x5,x6,x7,x8]->ab H H'->(∀d∈ds'.take i,d.a=r->CI J2 ds L f d)->RsI t t' rd ft r J2 ds ds' L f H i σ H'
inductive pC(K:Za)(vs:List V)(H:Hp)(Q:VK)(E:XK):Prop
 |mk (t t' rd ft l1 l2 l3 l4 l3' l4':Addr) (ts ts':Ze) (J0 J1 J2 rooms' f:Zb) (ds ds':List am) (L:List bO) (r:Str):(vs=[.ref t,.ref t',.ref rd,.str r,.ref ft])->(iE H t l1 l2 l3 l4 ts J0 J1 J2 ds)->(aL J0 J1 J2 ds)->(iE H t' l1 l2 l3' l4' ts' J0 J1 rooms' ds')->(aL J0 J1 rooms' ds')->(H rd=some (.dT (jd L)))->(aS K H ft (f.map V.str))->(f.length<=1000)->(∀(b:Bool) (H':Hp),(b=true↔d9 J2 ds ds' L r f)->ab H H'->Q (.bl b) H')->pC K vs H Q E
theorem FE{K:Za}(h:pC K vs H Q E):qM K j3 (sL K) (bJ Q) (start rq vs) H:=by
 obtain⟨t,t',rd,ft,l1,l2,l3,l4,l3',l4',ts,ts',J0,J1,J2,rooms',f,ds,ds',L,r,rfl,T,m,T',m',hrd,hft,zf,k⟩:=h;have no:∀{H':Hp}{P:Prop},P->(d9 J2 ds ds' L r f->¬P)->ab H H'->Q (.bl false) H':=fun p n S=>k false _ ⟨fun z=>(by cases z),fun z=>absurd p (n z)⟩ S;refine⟨_,rfl,.inr (.inl ⟨t',_,3,_,rfl,rfl,br.of T'.t,rfl,l4',rfl,⟨_,az.of T'.a4⟩,?_⟩)⟩;refine bP (xs:=ts'.map V.ref) (RsI t t' rd ft r J2 ds ds' L f H) ⟨_,_,_,_,rfl,ab.refl _,fun d hd=>by simp at hd⟩ (fun i σ H' _ ⟨_,_,_,_,_,S,_⟩=>az.of (S _ _ T'.a4)) ?_ ?_
 ·rintro i y σ H1 hi ⟨x5,x6,x7,x8,rfl,S1,good⟩;obtain⟨u,hu,rfl⟩:=cj hi;obtain⟨d,hd,hat⟩:=Paired.getL T'.ds hu;obtain⟨sb,hu1,hs1⟩:=hat.kt (ab.kt S1);have hdm:d∈ds':=aZ hd;have ft1:=aS.kt (ab.kt S1) hft;have rd1:=S1 _ _ hrd;have more:(d.a=r->CI J2 ds L f d)->∀e∈ds'.take (i+1),e.a=r->CI J2 ds L f e:=fun h e he=>by
   rw[take_snoc hd]at he;rcases a_.1 he with z|z
   ·exact good e z
   ·rw[aU.1 z];exact h
  refine⟨u,_,rfl,br.of hu1,rfl,_,_,rfl,_,_,rfl,_,_,rfl,rfl,?_⟩;refine⟨_,rfl,_,rfl,rfl,_,rfl,?_⟩;refine nK (P:=d.a=r) (by simp) (fun ca=>?_) (fun ca=>?_);rotate_left
  ·refine bR ?_;refine⟨_,rfl,_,rfl,rfl,_,rfl,?_⟩;refine nK (P:=d.a=r) (by simp) (fun z=>absurd z ca) (fun _=>bR ?_);exact⟨_,_,_,_,rfl,S1,more fun z=>absurd z ca⟩
  refine⟨_,rfl,(by show 1<=ai;decide),fun e1 he1=>⟨jr d.sg,jr ao,aW (br.of (kp hs1 he1)),aW (br.of aa),by rw[bA];decide,by rw[bA];decide,_,rfl,?_⟩⟩;rw[eF];have S2:ab H1 (upd H1 e1 (.tup [V.str ("still":Str)])):=ab.new he1;generalize upd H1 e1 (.tup [V.str ("still":Str)])=H2 at S2 ⊢;refine nK (P:=d.sg=ao) (by simp) (fun cs=>?_) (fun cs=>bR ?_)
  ·refine⟨_,rfl,_,rfl,(by show 2<=ai;decide),fun p hp=>⟨_,rfl,rd,_,rfl,uV (.inl (kp (S2 _ _ rd1) hp)) (br.of aa) (aS.kt (ab.kt (S2.trans (ab.new hp))) ft1),_,rfl,?_⟩⟩;have S3:ab H1 (upd H2 p (.tup [.str d.b,.ref ft])):=S2.trans (ab.new hp);rw[kU];refine nK (P:=(d.b,f)∉L) (by simp) (fun c=>no c (fun z=>fun w=>w ((z.1 d hdm ca).1 cs)) (S1.trans S3)) (fun c=>?_);generalize upd H2 p (.tup [.str d.b,.ref ft])=H3 at S3 ⊢;refine⟨_,rfl,_,rfl,rfl,_,rfl,?_⟩;refine nK (P:=d.a=r) (by simp) (fun _=>?_) (fun z=>absurd ca z);refine⟨_,rfl,(by show 1<=ai;decide),fun e2 he2=>⟨jr d.sg,jr ao,aW (br.of (kp (S3 _ _ hs1) he2)),aW (br.of aa),by rw[bA];decide,by rw[bA];decide,_,rfl,?_⟩⟩;rw[eF];refine nK (P:=d.sg≠ao) (by simp) (fun z=>absurd cs z) (fun _=>?_);exact⟨_,_,_,_,rfl,(S1.trans S3).trans (ab.new he2),more fun _=>⟨fun _=>kr.1 c,fun z=>absurd cs z⟩⟩
  ·refine⟨_,rfl,_,rfl,rfl,_,rfl,?_⟩;refine nK (P:=d.a=r) (by simp) (fun _=>?_) (fun z=>absurd ca z);refine⟨_,rfl,(by show 1<=ai;decide),fun e2 he2=>⟨jr d.sg,jr ao,aW (br.of (kp (S2 _ _ hs1) he2)),aW (br.of aa),by rw[bA];decide,by rw[bA];decide,_,rfl,?_⟩⟩;rw[eF];have S3:ab H1 (upd H2 e2 (.tup [V.str ("still":Str)])):=S2.trans (ab.new he2);generalize upd H2 e2 (.tup [V.str ("still":Str)])=H3 at S3 ⊢;refine nK (P:=d.sg≠ao) (by simp) (fun _=>?_) (fun z=>absurd cs z);have S13:=S1.trans S3;refine⟨_,rfl,_,rfl,_,rfl,t,ft,sb,l1,l2,l3,l4,ts,J0,J1,J2,f,d.sg,ds,rfl,T.same S13,m,aS.sq (aS.kt (ab.kt S3) ft1),br.of (S3 _ _ hs1),zf,fun bt H4 hbt S4=>?_⟩;have S14:=S13.trans S4;obtain⟨s0,rest,hsg,_⟩:=mT (m'.good d hdm);have at0:qk (d.sg.map V.str) 0=some (.str s0):=by rw[hsg];exact bH (j:=0) rfl
   have hs4:=S4 _ _ (S3 _ _ hs1);refine⟨_,rfl,(by show 0<=ai;decide),fun e3 he3=>⟨jr (behF J2 ds f d.sg),jr [],aW (br.of (kp hbt he3)),aW (sg:=[]) (br.of aa),by rw[bA];decide,by rw[bA];decide,_,rfl,?_⟩⟩;rw[eF];have S5:ab H4 (upd H4 e3 (.tup [])):=ab.new he3;generalize upd H4 e3 (.tup [])=H5 at S5 ⊢;have half:∀H6,ab H4 H6->(behF J2 ds f d.sg=[]->d.sg.head?≠some ("say":Str))->(lC (aQ (aI (uu K) V8 (bw (bh)))) (tB (dk K (bw (aO V7 V8)) V2))) [some (.ref t),some (.ref t'),some (.ref rd),some (.str r),some (.ref ft),some (.str d.a),some (.ref sb),some (.str d.b),some (.ref bt)] H6 fun b H7=>if b=true then Q (.bl false) H7 else RsI t t' rd ft r J2 ds ds' L f H (i+1) [some (.ref t),some (.ref t'),some (.ref rd),some (.str r),some (.ref ft),some (.str d.a),some (.ref sb),some (.str d.b),some (.ref bt)] H7:=by
    intro H6 S6 say;refine⟨_,rfl,(by show 0<=ai;decide),fun e4 he4=>⟨jr (behF J2 ds f d.sg),jr [],aW (br.of (kp (S6 _ _ hbt) he4)),aW (sg:=[]) (br.of aa),by rw[bA];decide,by rw[bA];decide,_,rfl,?_⟩⟩;rw[eF];have S7:ab H4 (upd H6 e4 (.tup [])):=S6.trans (ab.new he4);generalize upd H6 e4 (.tup [])=H7 at S7 ⊢;refine nK (P:=behF J2 ds f d.sg≠[]) (by simp) (fun c=>?_) (fun c=>bR ⟨_,_,_,_,rfl,S14.trans S7,more fun _=>⟨fun z=>absurd z cs,fun _=>⟨say,fun z=>absurd z c⟩⟩⟩);refine⟨_,rfl,_,rfl,(by show 2<=ai;decide),fun p hp=>⟨_,rfl,rd,_,rfl,uV (.inl (kp ((S14.trans S7) _ _ hrd) hp)) (br.of aa) (.inl (kp (S7 _ _ hbt) hp)),_,rfl,?_⟩⟩;have S8:ab H (upd H7 p (.tup [.str d.b,.ref bt])):=(S14.trans S7).trans (ab.new hp);rw[kU];exact nK (P:=(d.b,behF J2 ds f d.sg)∉L) (by simp) (fun w=>no w (fun z=>fun v=>v (((z.1 d hdm ca).2 cs).2 c)) S8) (fun w=>⟨_,_,_,_,rfl,S8,more fun _=>⟨fun z=>absurd z cs,fun _=>⟨say,fun _=>kr.1 w⟩⟩⟩)
   refine nK (P:=behF J2 ds f d.sg=[]) (by simp) (fun c=>?_) (fun c=>bR (half H5 S5 fun z=>absurd z c));refine⟨_,rfl,sb,_,0,_,rfl,rfl,br.of (S5 _ _ hs4),at0,rfl,_,rfl,?_⟩;refine nK (P:=d.sg.head?=some ("say":Str)) (by rw[hsg];simp) (fun w=>cR (no w (fun z=>((z.1 d hdm ca).2 cs).1 c) (S14.trans S5))) (fun w=>half H5 S5 fun _=>w)
 ·rintro σ H1 ⟨x5,x6,x7,x8,rfl,S1,good⟩;rw[aj,Paired.length T'.ds,aR]at good;refine⟨_,rfl,_,rfl,t',l1,l2,l3',l4',ts',J0,J1,rooms',ds',r,rfl,T'.same S1,m',fun H2 S2=>⟨_,rfl,?_⟩⟩;refine nK (P:=r∉fA ds') (by simp) (fun c=>?_) (fun c=>k true _ ⟨fun _=>⟨good,fun z=>absurd z c⟩,fun _=>rfl⟩ (S1.trans S2));refine⟨_,rfl,_,rfl,(by show 1<=ai;decide),fun e1 he1=>?_⟩;have S3:ab H (upd H2 e1 (.tup [V.str ("hush":Str)])):=(S1.trans S2).trans (ab.new he1);have h3:upd H2 e1 (.tup [V.str ("hush":Str)]) e1=some (.tup (aV.map V.str)):=aa;generalize upd H2 e1 (.tup [V.str ("hush":Str)])=H3 at S3 h3 ⊢;refine⟨t,ft,e1,l1,l2,l3,l4,ts,J0,J1,J2,f,aV,ds,rfl,T.same S3,m,aS.sq (aS.kt (ab.kt S3) hft),br.of h3,zf,fun bt H4 hbt S4=>?_⟩;refine⟨_,rfl,(by show 0<=ai;decide),fun e3 he3=>⟨jr (behF J2 ds f aV),jr [],aW (br.of (kp hbt he3)),aW (sg:=[]) (br.of aa),by rw[bA];decide,by rw[bA];decide,_,rfl,?_⟩⟩;rw[eF];have S5:ab H (upd H4 e3 (.tup [])):=(S3.trans S4).trans (ab.new he3);have bt5:upd H4 e3 (.tup []) bt=_:=kp hbt he3;generalize upd H4 e3 (.tup [])=H5 at S5 bt5 ⊢;refine nK (P:=behF J2 ds f aV≠[]) (by simp) (fun w=>?_) (fun w=>no w (fun z v=>v (z.2 c).1) S5);refine⟨_,rfl,_,rfl,(by show 2<=ai;decide),fun p hp=>⟨_,rfl,rd,_,rfl,uV (.inl (kp (S5 _ _ hrd) hp)) (br.of aa) (.inl (kp bt5 hp)),?_⟩⟩;rw[kU];refine k _ _ ?_ (S5.trans (ab.new hp));rw[decide_eq_true_iff];exact⟨fun z=>⟨good,fun _=>⟨w,z⟩⟩,fun z=>(z.2 c).2⟩
def SE(σ:L2.St)(H0:Hp)(te:TE)(w:Str):Prop:=∀(H:Hp) (Q:VK),ab H0 H->Q (.str w) H->te σ H Q
def kg(r:bO):DT:=.t [gW r.1,jr r.2]
theorem wO(L:List bO):DT.depths (L.map kg)<=2:=by
 induction L with
 |nil=>exact cX _
 |cons r L ih =>
  rw[bI];show max (max 0 (max (jr r.2).depth 0)+1) _<=2;rw[bA];omega
def JF(J2:Zb)(ds:List am)(ws:List (List (Sg×Nat)))(L:List Row)(r:Row):Prop:=∀x∈ma J2 ds r.1 r.2 (ws.getD r.2 []),∃n',x.2=some n'/\(x.1,n')∈L
theorem JF.mono{L':List Row}(h:JF J2 ds ws L r)(e:∀x∈L,x∈L'):JF J2 ds ws L' r:=fun x hx=>by
 obtain⟨n,h1,h2⟩:=h x hx;exact⟨n,h1,e _ h2⟩
inductive mQ(K:Za)(C Cm:Addr)(vs:List V)(H:Hp)(Q:VK)(E:XK):Prop
 |mk (H0:Hp) (mo I M fa sa na ta:Addr) (us ws' ts:Ze) (m:km) (ws:List (List (Sg×Nat))) (J0 J1 J2:Zb) (ds:List am) (R:Row->Prop) (f0:Str):(vs=[.ref mo,.ref I])->(ij K C H mo M fa sa na ta us ws' m)->(H ta=some (.lst (ts.map V.ref)))->(A9 H0 H ts ws)->(bv Cm H I J0 J1 J2 ds)->(RowP J2 ds ws ts.length R)->(ts.length=m.fs.length)->(ts.length<=256)->(J2[0]?=some f0)->(R (f0,0))->(∀(l:Addr) (ps:Ze) (L:List Row) (H':Hp),H' l=some (.lst (ps.map V.ref))->Paired (fun u (r:Row)=>∃ft f,H' u=some (.tup [.str r.1,.ref ft])/\m.fs[r.2]?=some f/\H' ft=some (.tup (f.map V.str))) ps L->L.Nodup->(∀r∈L,R r)->(f0,0)∈L->(∀r∈L,JF J2 ds ws L r)->H l=none->ab H H'->Q (.ref l) H')->mQ K C Cm vs H Q E
inductive PcI(mo I p0 rd wl:Addr)(J2:Zb)(ds:List am)(ws:List (List (Sg×Nat)))(f0:Str)(R:Row->Prop)(H:Hp)(mm:Nat)(σ:L2.St)(H':Hp):Prop
 |mk (ps:Ze) (L W:List Row) (x5 x6 x7:Option V):mm=2 * (40000-L.length)+W.length->mm<=80000->σ=[some (.ref mo),some (.ref I),some (.ref p0),some (.ref rd),some (.ref wl),x5,x6,x7]->va H H' rd wl ps L W R->(f0,0)∈L->(∀q∈L,q∈W∨JF J2 ds ws L q)->PcI mo I p0 rd wl J2 ds ws f0 R H mm σ H'
inductive PcJ(mo I p0 rd wl:Addr)(J2:Zb)(ds:List am)(ws:List (List (Sg×Nat)))(f0:Str)(R:Row->Prop)(H:Hp)(nl:Addr)(nu:Ze)(r:Row)(mm i:Nat)(σ:L2.St)(H':Hp):Prop
 |mk (ps:Ze) (L' W':List Row) (x7:Option V):σ=[some (.ref mo),some (.ref I),some (.ref p0),some (.ref rd),some (.ref wl),some (.str r.1),some (.int (r.2:Nat)),x7]->va H H' rd wl ps L' W' R->2 * (40000-L'.length)+W'.length<mm->H' nl=some (.lst (nu.map V.ref))->rk H' nu (ma J2 ds r.1 r.2 (ws.getD r.2 []))->(f0,0)∈L'->(∀q∈L',q∈W'∨q=r∨JF J2 ds ws L' q)->(∀x∈(ma J2 ds r.1 r.2 (ws.getD r.2 [])).take i,∃n',x.2=some n'/\(x.1,n')∈L')->PcJ mo I p0 rd wl J2 ds ws f0 R H nl nu r mm i σ H'
theorem Ei{K:Za}(c:FC K C)(h:mQ K C Cm vs H Q E):Bi K (pB K Cm) Cm (gl Cm) (bJ Q) (start Cw vs) H:=by
 obtain⟨H0,mo,I,M,fa,sa,na,ta,us,ws',ts,m,ws,J0,J1,J2,ds,R,f0,rfl,F,hta,st,MA,rp,zt,z256,hf0,hR0,k⟩:=h;have z3:=MA.ok.rooms26;obtain⟨dx,fs,o1,o2,o3,o4,lv,qu,sg,sl,tt,lps,gps,sps,g1,a1,a2,a3,a4,_⟩:=MA.at_;have at0:qk (J2.map V.str) 0=some (.str f0):=bH (j:=0) (by rw[bQ,hf0];rfl);have lt0:=(rp.rg _ hR0).2;refine⟨_,rfl,I,dx,fs,rfl,g1,a4,I,J0,J1,J2,ds,rfl,MA,fun rl hrl=>⟨rl,_,0,_,rfl,rfl,az.of aa,at0,(by show 2<=ai;decide),fun p0 hp0=>?_⟩⟩;have S1:ab H (upd (upd H rl (.lst (J2.map V.str))) p0 (.tup [.str f0,.int 0])):=(ab.new hrl).trans (ab.new hp0);have r1:u_ (upd (upd H rl (.lst (J2.map V.str))) p0 (.tup [.str f0,.int 0])) p0 (f0,0):=aa;generalize upd (upd H rl (.lst (J2.map V.str))) p0 (.tup [.str f0,.int 0])=H1 at S1 r1 ⊢;refine fun rd hrd=>⟨_,rfl,aa,p0,qV (f0,0),rfl,cW.c 8 (iO _) (u_.tk (kp r1 hrd)),iO _,?_⟩;have S2:ab H1 (upd (upd H1 rd (.dT [])) rd (.dT [(qV (f0,0),.bl true)])):=fun b o e=>by rw[ag (ae e hrd)];exact kp e hrd
 have rd2:upd (upd H1 rd (.dT [])) rd (.dT [(qV (f0,0),.bl true)]) rd=some (.dT (uL [(f0,0)])):=aa;generalize upd (upd H1 rd (.dT [])) rd (.dT [(qV (f0,0),.bl true)])=H2 at S2 rd2 ⊢;refine⟨_,rfl,(by show 1<=ai;decide),fun wl hwl=>?_⟩;have S3:ab H2 (upd H2 wl (.lst [.ref p0])):=ab.new hwl;have A3:va H (upd H2 wl (.lst [.ref p0])) rd wl [p0] [(f0,0)] [(f0,0)] R :=
  ⟨S3 _ _ rd2,aa,.cons (S3 _ _ (S2 _ _ r1)) .nil,by simp,fun r hr=>by rw[aU.1 hr];exact hR0,fun r hr=>hr,(S1.trans S2).trans S3,S1.free hrd,(S1.trans S2).free hwl⟩
 generalize upd H2 wl (.lst [.ref p0])=H3 at S3 A3 ⊢;have few:∀{H':Hp}{ps:Ze}{L W:List Row},va H H' rd wl ps L W R->L.length<=40000:=fun A=>by
  have h1:=zZ A.nd fun r hr=>rp.rg r (A.all r hr);have h2:J2.length * ts.length<=150 * 256:=sW z3 z256;omega
 refine⟨PcI mo I p0 rd wl J2 ds ws f0 R H,⟨_,[p0],[(f0,0)],[(f0,0)],_,_,_,rfl,(by show 2 * (40000-1)+1<=80000;decide),rfl,A3,aU.2 rfl,fun q hq=>.inl hq⟩,?_⟩;rintro mm σ H4 ⟨ps,L,W,x5,x6,x7,rfl,hmm,rfl,A,m0,cl⟩;have fw:=few A;refine⟨_,rfl,.inl ⟨wl,_,rfl,.inl (az.of A.hwl),_,_,rfl,rfl,_,rfl,?_⟩⟩;have zp:(ps.map V.ref).length=W.length:=by rw[aj,Paired.length A.hps]
 refine nK (P:=0<W.length) (by rw[zp];simp) (fun pos=>?_) (fun nil=>?_)
 ·have hr:W[W.length-1]?=some W[W.length-1]:=b9 (by omega);obtain⟨a,ea,hat⟩:=Paired.get A.hps hr;have hrL:=A.sub W[W.length-1] (lK _);have hRr:=A.all _ hrL;have hrg:=rp.rg _ hRr;have hnext:=rp.next _ hRr;have cut:∀q∈W,q∈W.take (W.length-1)∨q=W[W.length-1]:=fun q hq=>by
   have e:W=W.take (W.length-1)++[W[W.length-1]]:=by
    have h1:=take_snoc hr;rw[show W.length-1+1=W.length by omega,aR]at h1;exact h1
   rw[e]at hq;exact(a_.1 hq).imp id fun z=>aU.1 z
  generalize W[W.length-1]=r at hr hat hrL hRr hrg hnext cut;have last:(ps.map V.ref)[(ps.map V.ref).length-1]?=some (.ref a):=by rw[zp,bQ,ea];rfl
  have kt:gM H4 (upd H4 wl (.lst (ps.map V.ref).dropLast)):=cL A.hwl;have nwr:wl≠rd:=fun z=>by have:=A.hwl;rw[z,A.hrd]at this;cases this
  have A5:va H (upd H4 wl (.lst (ps.map V.ref).dropLast)) rd wl (ps.take (W.length-1)) L (W.take (W.length-1)) R:=by
   refine⟨by rw[ag nwr.symm];exact A.hrd,?_,Paired.mapP (Paired.takeP _ A.hps) fun _ _ q=>kt _ _ q,A.nd,A.all,fun x hx=>A.sub x (fR hx),fun b q e=>by rw[ag (ae e A.w0)];exact A.S _ _ e,A.r0,A.w0⟩;rw[aa,List.dropLast_eq_take,zp,nS]
  have hat5:=kt _ _ hat;have zw:(W.take (W.length-1)).length=W.length-1:=by rw[aG];omega
  refine⟨fun σ' H'=>∃m',m'<2 * (40000-L.length)+W.length/\PcI mo I p0 rd wl J2 ds ws f0 R H m' σ' H',fun σ' H' h=>h,?_⟩;refine⟨_,rfl,.inl ⟨rfl,_,az.of A.hwl⟩,wl,_,.ref a,rfl,rfl,A.hwl,last,a,_,rfl,br.of hat5,rfl,_,_,rfl,_,_,rfl,rfl,?_⟩;generalize upd H4 wl (.lst (ps.map V.ref).dropLast)=H5 at A5 hat5 kt ⊢;have F5:=F.same A5.S;obtain⟨dx5,fs5,g5,m1,m2,m3,m4,m5,_⟩:=F5.ob;have ed:ts[r.2]?=some (ts[r.2]'hrg.2):=b9 hrg.2;have atd:qk (ts.map V.ref) (r.2:Nat)=some (.ref (ts[r.2]'hrg.2)):=bH (by rw[bQ,ed];rfl);obtain⟨_,hrd5⟩:=A9.rd st ed;generalize ts[r.2]'hrg.2=sd at ed atd hrd5;refine⟨_,rfl,_,rfl,_,rfl,_,rfl,mo,C,dx5,fs5,.ref ta,rfl,g5,c.cls,c.a5,m5,_,rfl,ta,_,_,_,rfl,rfl,az.of (A5.S _ _ hta),atd,I,sd,r.1,r.2,ws.getD r.2 [],J0,J1,J2,ds,rfl,MA.same A5.S,hrg.1,Rd.same A5.S hrd5,fun nl nu H6 hnl hR6 hnl0 S6=>⟨nl,rfl,⟨_,az.of hnl⟩,?_⟩⟩;have nnw:nl≠wl:=dE (ae A5.hwl hnl0);refine bP (xs:=nu.map V.ref) (PcJ mo I p0 rd wl J2 ds ws f0 R H nl nu r (2 * (40000-L.length)+W.length))
   ⟨_,_,_,_,rfl,A5.same S6,by rw[zw];omega,hnl,hR6,m0,(fun q hq=>(cl q hq).elim (fun z=>(cut q z).imp id .inl) fun z=>.inr (.inr z)),fun x hx=>by simp at hx⟩ (fun i σ H' _ ⟨_,_,_,_,_,_,_,q,_,_,_,_⟩=>az.of q) ?_ ?_
  ·rintro i y σ H7 hi ⟨ps7,L7,W7,x7,rfl,A7,lt7,nl7,R7,m7,cl7,tk7⟩;obtain⟨u,hu,rfl⟩:=cj hi;obtain⟨row,hrow,hut⟩:=Paired.getL R7 hu;obtain⟨n',en,hRn⟩:=hnext row (aZ hrow);have hu7:u_ H7 u (row.1,n'):=by rw[en]at hut;exact hut
   have gd:ir K H7 rd (.ref u) (bq (uL L7) (qV (row.1,n'))):=.inr ⟨_,qV (row.1,n'),u,.inl A7.hrd,rfl,cW.isIn 8 (iO _) hu7.tk,iO _,rfl⟩;refine⟨_,rfl,_,rfl,rd,_,rfl,gd,_,rfl,?_⟩;rw[yv];have fw7:=few A7;refine nK (P:=¬(row.1,n')∈L7) (by by_cases q:(row.1,n')∈L7<;>simp[q]) (fun new=>?_) (fun old=>⟨ps7,L7,W7,_,rfl,A7,lt7,nl7,R7,m7,cl7,fun x hx=>?_⟩);rotate_left
   ·rw[take_snoc hrow]at hx;rcases a_.1 hx with z|z
    ·exact tk7 x z
    ·rw[aU.1 z];exact⟨n',en,kr.1 old⟩
   have A8:=A7.add hu7 new hRn;have fw8:=few A8;rw[aK]at fw8;have fw8:L7.length+1<=40000:=fw8;have nwr:wl≠rd:=fun z=>by have:=A7.hwl;rw[z,A7.hrd]at this;cases this
   refine⟨_,rfl,_,rfl,rd,u,uL L7,qV (row.1,n'),rfl,rfl,A7.hrd,cW.c 8 (iO _) hu7.tk,iO _,by unfold uL;rw[aj,jh];omega,?_⟩;have wl8:upd H7 rd (.dT (cM (uL L7) (qV (row.1,n')) (.bl true))) wl=some (.lst (ps7.map V.ref)):=by rw[ag nwr];exact A7.hwl
   have w7:W7.length<=1000000:=by omega
   refine⟨_,rfl,.inl ⟨rfl,_,az.of wl8⟩,_,rfl,wl,_,.ref u,rfl,rfl,wl8,by rw[aj,Paired.length A7.hps,jh];omega,?_⟩;have up:∀x∈L7,x∈L7++[(row.1,n')]:=fun x hx=>cf _ hx;refine⟨_,_,_,_,rfl,A8,?_,?_,?_,up _ m7,fun q hq=>?_,fun x hx=>?_⟩
   ·rw[aK,aK];show 2 * (40000-(L7.length+1))+(W7.length+1)<_;omega
   ·rw[ag nnw,ag (fun z=>by have:=A7.hrd;rw[<-z,nl7]at this;cases this)];exact nl7
   ·exact rk.kt ((A6 A7.hrd).trans (cL wl8)) R7
   ·rcases a_.1 hq with z|z
    ·exact(cl7 q z).imp (fun z=>cf _ z) fun z=>z.imp id fun z=>z.mono up
    ·exact .inl (cC _ z)
   ·rw[take_snoc hrow]at hx;rcases a_.1 hx with z|z
    ·obtain⟨n1,e1,e2⟩:=tk7 x z;exact⟨n1,e1,up _ e2⟩
    ·rw[aU.1 z];exact⟨n',en,cC _ (aU.2 rfl)⟩
  ·rintro σ H7 ⟨ps7,L7,W7,x7,rfl,A7,lt7,_,_,m7,cl7,tk7⟩;rw[aj,Paired.length hR6,aR]at tk7;exact⟨_,lt7,ps7,L7,W7,_,_,_,rfl,by omega,rfl,A7,m7,fun q hq=>(cl7 q hq).imp id fun z=>z.elim (fun z=>by rw[z];exact tk7) id⟩
 ·refine⟨_,rfl,rd,uL L,rfl,.inl ⟨A.hrd,fun o l hl=>?_⟩⟩;have S5:ab H (upd H4 rd (.frz o (.dT (uL L)))):=fun b q e=>by rw[ag (ae e A.r0)];exact A.S _ _ e
  have rd5:upd H4 rd (.frz o (.dT (uL L))) rd=some (.frz o (.dT (uL L))):=aa;generalize upd H4 rd (.frz o (.dT (uL L)))=H5 at S5 rd5 hl ⊢;have el:(uL L).length=L.length:=by unfold uL;rw[aj]
  have nrl:rd≠l:=ae rd5 hl;refine ET (fun i vs H'=>∃qs:List Addr,vs=qs.map V.ref/\H' l=some (.lst vs)/\H' rd=some (.frz o (.dT (uL L)))/\Paired (fun u (r:Row)=>∃ft f,H' u=some (.tup [.str r.1,.ref ft])/\m.fs[r.2]?=some f/\H' ft=some (.tup (f.map V.str))) qs (L.take i)/\ab H H')
   ⟨[],rfl,aa,kp rd5 hl,.nil,S5.trans (ab.new hl)⟩ (fun i vs H' _ ⟨_,_,q1,q2,_⟩=>⟨q1,q2⟩) ?_ ?_
  ·rintro vs H' ⟨qs,rfl,q1,_,q3,q4⟩;rw[el,aR]at q3;exact k l qs L H' q1 q3 A.nd A.all m0 (fun q hq=>(cl q hq).resolve_left fun z=>nil (List.length_pos_of_mem z)) (S5.free hl) q4
  ·rintro i vs H' x b hi ⟨qs,rfl,q1,q2,q3,q4⟩ ⟨key,ek,tkc⟩;unfold uL at ek;rw[bQ]at ek;obtain⟨r,hr,er⟩:=sV.1 ek;cases er;obtain⟨rb,rfl,hrb⟩:=Hc tkc;have hrg:=rp.rg r (A.all r (aZ hr));have F':=F.same q4;obtain⟨dx',fs',g',m1,m2,_⟩:=F'.ob;have hfn:m.fs[r.2]?=some (m.fs[r.2]'(by omega)):=b9 (by omega);obtain⟨u,eu,hut⟩:=Paired.get F'.faces hfn;have atu:qk (us.map V.ref) (r.2:Nat)=some (.ref u):=bH (by rw[bQ,eu];rfl);refine⟨rb,_,rfl,aS.sq hrb,rfl,_,_,rfl,_,_,rfl,rfl,se ?_⟩;refine⟨_,rfl,_,rfl,mo,C,dx',fs',.ref fa,rfl,g',c.cls,c.a2,m2,_,rfl,fa,_,_,_,rfl,rfl,az.of F'.hfa,atu,(by show 2<=ai;decide),fun v hv=>⟨kp q1 hv,?_,nA hi ⟨qs++[v],by rw[ax];rfl,aa,?_,?_,?_⟩⟩⟩
   ·rw[aj,Paired.length q3,aG,jh];omega
   ·rw[ag (fun z=>by rw[z,q1]at q2;cases q2)];exact kp q2 hv
   ·rw[take_snoc hr];have hk:gM H' (upd (upd H' v (.tup [.str r.1,.ref u])) l (.lst (qs.map V.ref++[.ref v]))):=(ab.kt (ab.new hv)).trans (cL (kp q1 hv));refine c_ (Paired.mapP q3 fun _ _ ⟨ft,f,w1,w2,w3⟩=>⟨ft,f,hk _ _ w1,w2,hk _ _ w3⟩) ⟨u,_,?_,hfn,hk _ _ hut⟩;rw[ag (ae q1 hv).symm];exact aa
   ·intro b q e;rw[ag (ae e (S5.free hl))];exact kp (q4 _ _ e) hv
section
variable{J0 J1 J2 rooms':Zb}{ds ds':List am}{S:vh}
theorem wN(m':aL J0 J1 rooms' ds'){d:am}(hd:d∈ds')(c:d.sg≠ao):d.sg∈bd J0 J1:=by
 unfold bd;rcases(m'.good d hd).sg with⟨w,hw,e⟩|⟨w,hw,e⟩|e
 ·exact cf _ (cf _ (aw.2 ⟨w,hw,e.symm⟩))
 ·exact cf _ (cC _ (aw.2 ⟨w,hw,e.symm⟩))
 ·exact absurd e c
theorem pU(ok:mH J0 J1 J2 ds S)(len:S.2.length=S.1.fs.length){n:Nat}(hn:n<S.1.fs.length){sg:Sg}(hs:sg∈bd J0 J1):
  (bL (S.2.getD n []) sg=none/\behF J2 ds (S.1.fs.getD n []) sg=[])∨∃w,bL (S.2.getD n []) sg=some w/\behF J2 ds (S.1.fs.getD n []) sg≠[]/\w<S.1.fs.length/\S.1.fs.getD w []=behF J2 ds (S.1.fs.getD n []) sg:=by
 have h2:S.2[n]?=some (S.2[n]'(by omega)):=b9 (by omega);obtain⟨f,hf,pr⟩:=ok.st n _ h2;have e1:S.2.getD n []=S.2[n]'(by omega):=by rw[eJ,h2];rfl
 have e2:S.1.fs.getD n []=f:=by rw[eJ,hf];rfl
 have:=EA pr hs;rw[e1,e2];cases e:bL (S.2[n]'(by omega)) sg with
 |none=>rw[e]at this;exact .inl ⟨rfl,this⟩
 |some w =>
  rw[e]at this;exact .inr ⟨w,rfl,this.1,(cu.1 this.2).1,by rw[eJ,this.2];rfl⟩
theorem wJ:aV∈bd J0 J1:=cC _ (aU.2 rfl)
theorem H_(m':aL J0 J1 rooms' ds')(ok:mH J0 J1 J2 ds S)(len:S.2.length=S.1.fs.length){r:Row}(hn:r.2<S.1.fs.length)(ne:S.1.fs.getD r.2 []≠[]){x:Str×Option Nat}(hx:x∈ma rooms' ds' r.1 r.2 (S.2.getD r.2 [])){n:Nat}(e:x.2=some n):S.1.fs.getD n []≠[]:=by
 have key:∀sg∈bd J0 J1,bL (S.2.getD r.2 []) sg=some n->S.1.fs.getD n []≠[]:=fun sg hs h=>by
  rcases pU ok len hn hs with⟨h1,_⟩|⟨w,h1,h2,_,h3⟩
  ·rw[h1]at h;cases h
  ·rw[h1]at h;cases h;rw[h3];exact h2
 unfold ma at hx;rcases a_.1 hx with hx|hx
 ·obtain⟨d,hd,hx⟩:=jz.1 hx;have hd:=(bD.1 hd).1;unfold i6 at hx;by_cases c:d.sg=ao
  ·rw[if_pos c]at hx;rw[aU.1 hx]at e;cases e;exact ne
  ·rw[if_neg c]at hx;split at hx
   ·rw[aU.1 hx]at e;exact key _ (wN m' hd c) e
   ·cases hx
 ·split at hx
  ·rw[aU.1 hx]at e;exact key _ wJ e
  ·cases hx
theorem Ij(h:qg J2 f)(ne:f≠[]):i5 J2 f=true:=by
 obtain⟨p,rfl⟩:=h;refine zzr1 ⟨ne,qp fun r hr=>?_⟩;rw[rK,decide_eq_true_iff,bD];exact⟨fun z=>⟨hr,z⟩,fun z=>z.2⟩
theorem FY(m':aL J0 J1 rooms' ds')(ok:mH J0 J1 J2 ds S)(len:S.2.length=S.1.fs.length){L:List Row}{f0:Str}(rg:∀r∈L,r.1∈rooms'/\r.2<S.1.fs.length)(fn:∀r∈L,S.1.fs.getD r.2 []≠[])(hf0:rooms'[0]?=some f0)(m0:(f0,0)∈L)(cl:∀r∈L,JF rooms' ds' S.2 L r):
  dI J2 rooms' ds ds' (L.map fun r=>(r.1,S.1.fs.getD r.2 [])):=by
 have inL:∀{r:Row},r∈L->(r.1,S.1.fs.getD r.2 [])∈L.map fun r=>((r.1,S.1.fs.getD r.2 []):bO):=fun h=>aw.2 ⟨_,h,rfl⟩;refine⟨fun x hx=>?_,f0,hf0,?_⟩
 ·obtain⟨r,hr,rfl⟩:=aw.1 hx;obtain⟨h1,h2⟩:=rg r hr;have hg:S.1.fs[r.2]?=some (S.1.fs.getD r.2 []):=by rw[eJ,b9 h2];rfl
  refine⟨h1,Ij (ok.good.isF _ (aZ hg)) (fn r hr),fun d hd ea=>⟨fun cs=>?_,fun cs=>?_⟩,fun q=>?_⟩
  ·obtain⟨n',e1,e2⟩:=cl r hr (d.b,some r.2) (cf _ (jz.2 ⟨d,bD.2 ⟨hd,zzr1 ea⟩,by unfold i6;rw[if_pos cs];exact aU.2 rfl⟩));cases e1;exact inL e2
  ·have hs:=wN m' hd cs;have go:(bL (S.2.getD r.2 []) d.sg).isSome=true∨d.sg.head?=some ("say":Str)->∃n',bL (S.2.getD r.2 []) d.sg=some n'/\(d.b,n')∈L:=fun c=>by
    obtain⟨n',e1,e2⟩:=cl r hr (d.b,bL (S.2.getD r.2 []) d.sg) (cf _ (jz.2 ⟨d,bD.2 ⟨hd,zzr1 ea⟩,by unfold i6;rw[if_neg cs,if_pos c];exact aU.2 rfl⟩));exact⟨n',e1,e2⟩
   rcases pU ok len h2 hs with⟨e1,e2⟩|⟨w,e1,e2,_,e3⟩
   ·refine⟨fun _ c=>?_,fun z=>absurd e2 z⟩;obtain⟨n',e4,_⟩:=go (.inr c);rw[e1]at e4;cases e4
   ·refine⟨fun z=>absurd z e2,fun _=>?_⟩;obtain⟨n',e4,e5⟩:=go (.inl (by rw[e1];rfl));rw[e1]at e4;cases e4;have:=inL e5;rw[e3]at this;exact this
  ·have qu:r.1∈rooms'.filter (db ds'):=by
    rw[bD,kN,decide_eq_true_iff];exact⟨h1,q⟩
   obtain⟨n',e1,e2⟩:=cl r hr (r.1,bL (S.2.getD r.2 []) aV) (cC _ (by rw[if_pos qu];exact aU.2 rfl));rcases pU ok len h2 wJ with⟨e4,_⟩|⟨w,e4,e5,_,e6⟩
   ·rw[e4]at e1;cases e1
   ·rw[e4]at e1;cases e1;have:=inL e2;rw[e6]at this;exact⟨e5,this⟩
 ·have:=inL m0;rw[show S.1.fs.getD (f0,0).2 []=closF J2 ds (J2.take 1) by rw[eJ,ok.zero];rfl]at this;exact this
end
theorem Ip{J2:Zb}(h:J2≠[]):closF J2 ds (J2.take 1)≠[]:=by
 cases e:J2 with
 |nil=>exact absurd e h
 |cons ro rest =>
  have ff:gg ds ((ro::rest).take 1) ro:=⟨ro,aU.2 rfl,.inl rfl⟩;exact List.ne_nil_of_mem (a:=ro) (bD.2 ⟨dU,@zzr1 _ (qo _) ff⟩)
theorem Al{α β γ:Type}{R:α->γ->Prop}{g:β->γ}:∀{as:List α}{bs:List β},Paired (fun a b=>R a (g b)) as bs->Paired R as (bs.map g)
 |_,_,.nil=>.nil
 |_,_,.cons r t=>.cons r (Al t)
theorem Def.weak{P:cg}{w:World}{K:Za}{mg:Str->Option Value}{base:Heap}{x:Str}{ps:Zb}{k:Nat}{sp sp':Sp}(D:L2.Def P w K mg base x ps k sp)(h:∀vs H Q E,sp' vs H Q E->sp vs H Q E):L2.Def P w K mg base x ps k sp':=by
 obtain⟨f,fd,F,r⟩:=D;exact⟨f,fd,⟨fun vs H Q E q=>F.len vs H Q E (h _ _ _ _ q),fun A o s H a us vs Q E r1 r2 r3 r4 q=>F.run A o s H a us vs Q E r1 r2 r3 r4 (h _ _ _ _ q)⟩,r⟩
theorem Ec{K:Za}(vs:List V)(H:Hp)(Q:VK)(E:XK)(h:kJ C vs H Q E):ia K C vs H Q E:=by
 obtain⟨x,t,J6,J0,J1,J2,ds,e,M,ht,r,z,k⟩:=h;exact⟨x,t,J6,J0,J1,J2,ds,e,M,.inl ht,r,z,k⟩
def nV(x:Str×Option Nat):Str×V:=(x.1,Jo x.2)
theorem Fz(J2:Zb)(ds:List am)(room:Str)(fc:Nat)(st:List (Sg×Nat)):uo J2 ds room (.int (fc:Nat)) (fun sg=>(bL st sg).map fun n=>V.int (n:Nat))=(ma J2 ds room fc st).map nV:=by
 have e0:∀o:Option Nat,(o.map fun n=>V.int (n:Nat)).getD .non=Jo o:=fun o=>by cases o<;>rfl
 have e1:∀d:am,cN (.int (fc:Nat)) (fun sg=>(bL st sg).map fun n=>V.int (n:Nat)) d=(i6 fc st d).map nV:=fun d=>by
  unfold cN i6;by_cases c:d.sg=ao
  ·rw[if_pos c,if_pos c];rfl
  ·rw[if_neg c,if_neg c];by_cases c2:(bL st d.sg).isSome=true∨d.sg.head?=some ("say":Str)
   ·rw[if_pos c2,if_pos (c2.imp (fun z=>by rw[tJ];exact z) id),e0];rfl
   ·rw[if_neg c2,if_neg (fun z=>c2 (z.imp (fun z=>by rw[tJ]at z;exact z) id))];rfl
 unfold uo ma;rw[ax,List.map_flatMap];congr 1
 ·exact congrArg (fun f=>(bj ds room).flatMap f) (funext e1)
 ·split
  ·rw[e0];rfl
  ·rfl
theorem kP{α β γ:Type}{R:α->γ->Prop}{g:β->γ}:∀{as:List α}{bs:List β},Paired R as (bs.map g)->Paired (fun a b=>R a (g b)) as bs
 |_,[],.nil=>.nil
 |_,_::_,.cons r t=>.cons r (kP t)
theorem Ht{K:Za}(vs:List V)(H:Hp)(Q:VK)(E:XK)(h:pB K C vs H Q E):j1 K C vs H Q E:=by
 obtain⟨x,sd,room,fc,st,J0,J1,J2,ds,e,M,hr,hsd,k⟩:=h;refine⟨x,sd,room,.int (fc:Nat),fun sg=>(bL st sg).map fun n=>V.int (n:Nat),J0,J1,J2,ds,e,M,hr,fun H' s sg S hs=>?_,fun l us H' hl hR l0 S=>k l us H' hl ?_ l0 S⟩
 ·have rd:=Rd.same S hsd;refine⟨.inr ⟨_,rd⟩,.inr ⟨_,fB sg,s,rd,rfl,mN hs,cO _,?_⟩⟩;rw[wD]
 ·rw[Fz]at hR;exact kP (R:=fun u (r:Str×V)=>H' u=some (.tup [.str r.1,r.2])) (g:=nV) hR
theorem um{sg:Sg}(h:sg∈bd J0 J1):sg=aV∨sg≠aV/\sg≠ao/\(sg.head?=some ("ask":Str)∨sg.head?=some ("say":Str)):=by
 unfold bd at h;rcases a_.mp h with h|h
 ·rcases a_.mp h with h|h
  ·obtain⟨w,_,rfl⟩:=aw.mp h;exact .inr ⟨fun z=>(by unfold c7 aV at z;injection z with _ z;cases z),fun z=>(by unfold c7 ao at z;injection z with _ z;cases z),.inl rfl⟩
  ·obtain⟨w,_,rfl⟩:=aw.mp h;exact .inr ⟨fun z=>(by unfold l9 aV at z;injection z with _ z;cases z),fun z=>(by unfold l9 ao at z;injection z with _ z;cases z),.inr rfl⟩
 ·exact .inl (aU.1 h)
section
variable{J0 J1 J2 rooms':Zb}{ds ds':List am}{S SI:vh}{L:List bO}
theorem dI.still(h:dI J2 rooms' ds ds' L){r:Str}{f:Zb}(hr:(r,f)∈L)(q:Reach ds' r w):(w,f)∈L:=by
 induction q with
 |one hd=>exact((h.1 _ hr).2.2.1 _ hd rfl).1 rfl
 |step _ hd ih=>exact((h.1 _ ih).2.2.1 _ hd rfl).1 rfl
theorem dI.from_(h:dI J2 rooms' ds ds' L){gs:Zb}{f:Zb}(hr:∀g∈gs,(g,f)∈L)(q:gg ds' gs w):(w,f)∈L:=by
 obtain⟨g,hg,rfl|q⟩:=q
 ·exact hr _ hg
 ·exact h.still (hr _ hg) q
theorem rf{gs:Zb}{w:Str}(h:w∈closF J2 ds gs):gg ds gs w:=@of_decide_eq_true _ (qo _) (bD.1 h).2
theorem ye(ok:mH J0 J1 J2 ds S){k n:Nat}{sg:Sg}(h:(sg,n)∈S.2.getD k []):sg∈bd J0 J1/\n<S.1.fs.length/\behF J2 ds (S.1.fs.getD k []) sg≠[]/\S.1.fs.getD n []=behF J2 ds (S.1.fs.getD k []) sg:=by
 rw[eJ]at h;cases e:S.2[k]? with
 |none=>rw[e]at h;cases h
 |some l =>
  rw[e]at h;obtain⟨f,hf,pr⟩:=ok.st k l e;obtain⟨j,hj⟩:=im h;obtain⟨q,hq,e1,e2⟩:=Paired.getL pr hj;obtain⟨h1,h2⟩:=bD.1 (aZ hq);obtain⟨s,hs,rfl⟩:=aw.1 h1;have ef:S.1.fs.getD k []=f:=by rw[eJ,hf];rfl
  cases e1;rw[ef];exact⟨hs,(cu.1 e2).1,of_decide_eq_true h2,by rw[eJ,e2];rfl⟩
theorem dI.on(h:dI J2 rooms' ds ds' L){f g:Zb}{sg:Sg}(hs:sg∈bd J0 J1)(hf:∀r∈g,(r,f)∈L)(ne:behF J2 ds f sg≠[]):∀r∈behF rooms' ds' g sg,(r,behF J2 ds f sg)∈L:=by
 intro r hr;rcases um hs with rfl|⟨c1,c2,_⟩
 ·unfold behF at hr;rw[if_pos rfl]at hr;obtain⟨h1,h2⟩:=bD.1 hr;exact((h.1 _ (hf r h1)).2.2.2 (of_decide_eq_true h2)).2
 ·unfold behF at hr;rw[if_neg c1]at hr;refine h.from_ (fun b hb=>?_) (rf hr);obtain⟨r1,h1,hd⟩:=iA.1 hb;exact(((h.1 _ (hf r1 h1)).2.2.1 _ hd rfl).2 c2).2 ne
theorem Ge(okM:mH J0 J1 J2 ds S)(lenM:S.2.length=S.1.fs.length)(okI:mH J0 J1 rooms' ds' SI)(okP:oY SI.2 S.2 P)(p0:0<S.1.fs.length){i:Nat}{c:cr}{p:Sg×Nat}(hc:P[i]?=some c)(hp:p∈SI.2.getD c.key.2 [])(hl:bL (S.2.getD c.key.1 []) p.1=none)(ha:p.1.head?≠some ("ask":Str)):¬dI J2 rooms' ds ds' L:=by
 intro h;have key:∀(n i:Nat) (c:cr),i<n->P[i]?=some c->c.key.1<S.1.fs.length/\∀r∈SI.1.fs.getD c.key.2 [],(r,S.1.fs.getD c.key.1 [])∈L:=by
  intro n
  induction n with
  |zero=>intro i c lt;omega
  |succ n ih =>
   intro i c lt hc;rcases okP.back i c hc with rfl|⟨j,b,sg,lj,hb,_,_,h1,h2⟩
   ·obtain⟨r,e⟩:=okP.zero;rw[e]at hc;cases hc;refine⟨p0,fun r hr=>?_⟩;rw[show SI.1.fs.getD 0 []=closF rooms' ds' (rooms'.take 1) by rw[eJ,okI.zero];rfl]at hr;rw[show S.1.fs.getD 0 []=closF J2 ds (J2.take 1) by rw[eJ,okM.zero];rfl];obtain⟨r0,e0,m0⟩:=h.2;refine h.from_ (fun g hg=>?_) (rf hr);cases er:rooms' with
    |nil=>rw[er]at hg;cases hg
    |cons a l =>
     rw[er]at hg e0;cases e0;rw[aU.1 hg];exact m0
   ·obtain⟨b1,b2⟩:=ih j b (by omega) hb;obtain⟨hs,_,ne,e2⟩:=ye okI h2;rcases pU okM lenM b1 hs with⟨e3,_⟩|⟨w,e3,e4,e5,e6⟩
    ·rw[h1]at e3;cases e3
    ·rw[h1]at e3;cases e3;refine⟨e5,?_⟩;rw[e2,e6];exact h.on hs b2 e4
 obtain⟨c1,c2⟩:=key (i+1) i c (by omega) hc;obtain⟨sg,n⟩:=p;obtain⟨hs,_,ne,_⟩:=ye okI hp;rcases pU okM lenM c1 hs with⟨_,e⟩|⟨w,e3,_⟩;rotate_left
 ·rw[show bL (S.2.getD c.key.1 []) sg=none from hl]at e3;cases e3
 obtain⟨r,hr⟩:=List.exists_mem_of_ne_nil _ ne;rcases um hs with rfl|⟨n1,n2,n3⟩
 ·unfold behF at hr;rw[if_pos rfl]at hr;obtain⟨h1,h2⟩:=bD.1 hr;exact((h.1 _ (c2 r h1)).2.2.2 (of_decide_eq_true h2)).1 e
 ·unfold behF at hr;rw[if_neg n1]at hr;obtain⟨b,hb,_⟩:=rf hr;obtain⟨r1,h1,hd⟩:=iA.1 hb;exact(((h.1 _ (c2 r1 h1)).2.2.1 _ hd rfl).2 n2).1 e (n3.resolve_left ha)
end
theorem Iq(ok:mH J0 J1 J2 ds S)(okP:oY ms S.2 P)(p0:0<S.1.fs.length){i:Nat}{c:cr}(hc:P[i]?=some c):c.key.1<S.1.fs.length:=by
 rcases okP.back i c hc with rfl|⟨j,b,sg,_,_,_,_,h1,_⟩
 ·obtain⟨r,e⟩:=okP.zero;rw[e]at hc;cases hc;exact p0
 ·exact(ye ok (uK h1)).2.1
inductive j4(K:Za)(Cm:Addr)(vs:List V)(H:Hp)(Q:VK)(E:XK):Prop
 |mk (x y:Addr) (J0 J1 J2 rooms':Zb) (ds ds':List am):(vs=[.ref x,.ref y])->(bv Cm H x J0 J1 J2 ds)->(bv Cm H y J0 J1 rooms' ds')->((∀r∈rooms',∀a∈J0,gS ds' r a))->(J2.length<=4)->(rooms'.length<=4)->((∀(u l:Addr) (ps:Ze) (L:List bO) (H':Hp),H' u=some (.tup [.str "keeps",.ref l])->H' l=some (.lst (ps.map V.ref))->Paired (rE H') ps L->dI J2 rooms' ds ds' L->L.length<=64->(∀r∈L,r.2.length<=4)->H l=none->ab H H'->Q (.ref u) H'))->(∀(s:List Sg) (g:Sg),(∀L,¬dI J2 rooms' ds ds' L)->∀(u l b:Addr) (gs:Ze) (H':Hp),H' u=some (.tup [.str "fault",.ref l,.ref b])->H' l=some (.lst (gs.map V.ref))->Paired (fun g (sg:Sg)=>aS K H' g (sg.map V.str)) gs s->aS K H' b (g.map V.str)->H l=none->ab H H'->Q (.ref u) H')->j4 K Cm vs H Q E
theorem ED{K:Za}{Q:VK}(M:bv Cm H x J0 J1 J2 ds)(N:bv Cm H y J0 J1 rooms' ds')(tk:∀r∈rooms',∀a∈J0,gS ds' r a)(z1:J2.length<=4)(z2:rooms'.length<=4)
  (kn:∀(u l:Addr) (ps:Ze) (L:List bO) (H':Hp),H' u=some (.tup [.str "keeps",.ref l])->H' l=some (.lst (ps.map V.ref))->Paired (rE H') ps L->dI J2 rooms' ds ds' L->L.length<=64->(∀r∈L,r.2.length<=4)->H l=none->ab H H'->Q (.ref u) H')
  (kf:∀(s:List Sg) (g:Sg),(∀L,¬dI J2 rooms' ds ds' L)->∀(u l b:Addr) (gs:Ze) (H':Hp),H' u=some (.tup [.str "fault",.ref l,.ref b])->H' l=some (.lst (gs.map V.ref))->Paired (fun g (sg:Sg)=>aS K H' g (sg.map V.str)) gs s->aS K H' b (g.map V.str)->H l=none->ab H H'->Q (.ref u) H'):j4 K Cm [.ref x,.ref y] H Q E:=by
 exact⟨x,y,J0,J1,J2,rooms',ds,ds',rfl,M,N,tk,z1,z2,kn,kf⟩
theorem El{K:Za}(c:FC K C)(h:j4 K Cm vs H Q E):Hi K (mQ K C Cm) (hV K) C (mR K C Cm) (eL Cm) (bJ Q) (start IB vs) H:=by
 classical
 obtain⟨x,y,J0,J1,J2,rooms',ds,ds',rfl,MX,MY,tk,z4,z4',kn,kf⟩:=h;refine⟨_,rfl,_,rfl,x,y,J0,J1,J2,rooms',ds,ds',rfl,MX,MY,tk,fun H1 S1=>?_⟩;have MX1:=MX.same S1;have MY1:=MY.same S1;refine⟨_,rfl,fun o1 d1 ho1 hd1 ne1=>?_⟩;have S2:ab H1 (upd (upd H1 d1 (.own o1)) o1 (.ins C d1 [])):=fun b o e=>by rw[ag (ae e ho1)];exact kp e hd1
 refine⟨H1,o1,d1,x,J0,J1,J2,ds,rfl,aa,MX1,ho1,S2,by omega,fun fa sa na ta us ws ts S j H3 F3 ta3 st3 ok3 len3 _ S3=>⟨rfl,?_⟩⟩;clear S2;obtain⟨dx1,fs1,g1,l1,l2,l3,l4,l5,l6,l7⟩:=F3.ob;refine⟨_,rfl,o1,C,dx1,fs1,.ref ta,rfl,g1,c.cls,c.a5,l5,?_⟩;refine⟨_,rfl,fun o2 d2 ho2 hd2 ne2=>?_⟩;have S4:ab H3 (upd (upd H3 d2 (.own o2)) o2 (.ins C d2 [])):=fun b o e=>by rw[ag (ae e ho2)];exact kp e hd2
 refine⟨H3,o2,d2,y,J0,J1,rooms',ds',rfl,aa,MY1.same S3,ho2,S4,by omega,fun fa' sa' na' ta' us' ws' ts' SI j' H5 F5 ta5 st5 ok5 len5 itI S5=>⟨rfl,?_⟩⟩;clear S4;obtain⟨dx2,fs2,g2,m1,m2,m3,m4,m5,m6,m7⟩:=F5.ob;refine⟨o2,C,dx2,fs2,.ref ta',rfl,g2,c.cls,c.a5,m5,?_⟩
 let H0:Hp:=fun b=>if b∈ts∨b∈ts' then none else H5 b
 have hz:∀{b:Addr},b∈ts∨b∈ts'->H0 b=none:=fun h=>if_pos h;have hk:∀{b:Addr}{o:HO},H5 b=some o->(∀k,o=.dT k->b∉ts/\b∉ts')->H0 b=some o:=fun{b o} e n=>by
  have:¬(b∈ts∨b∈ts'):=fun z=>by
   have hd:∃l,H5 b=some (.dT l):=by
    rcases z with z|z
    ·obtain⟨_,_,l,hl⟩:=iJ st3 b z;exact⟨l,S5 _ _ hl⟩
    ·exact(iJ st5 b z).2.2
   obtain⟨l,hl⟩:=hd;rw[e]at hl;injection hl with hl;obtain⟨n1,n2⟩:=n _ hl;exact z.elim n1 n2
  show(if b∈ts∨b∈ts' then none else H5 b)=some o
  rw[if_neg this];exact e
 have SH:ab H H0:=fun b o e=>by
  have e1:=S3 _ _ (S1 _ _ e);refine hk (S5 _ _ e1) fun k _=>⟨fun z=>?_,fun z=>?_⟩
  ·have:=(iJ st3 b z).1;rw[S1 _ _ e]at this;cases this
  ·have:=(iJ st5 b z).1;rw[e1]at this;cases this
 have F0:ij K C H0 o1 x fa sa na ta us ws S.1:=(F3.same S5).part fun b o e n=>hk e fun k z=>by
  have:=n k z;subst this;refine⟨fun z=>(iJ st3 b z).2.1 rfl,fun z=>?_⟩;have:=(iJ st5 b z).1;rw[F3.hna]at this;cases this
 have ta5':=S5 _ _ ta3;have I:nD H0 H5 ta ta' ts ts' S.2 SI.2:=by
  refine⟨ta5',ta5,?_,?_,fun b o e=>?_⟩
  ·refine Mum.Paired.mapM st3 fun t _ ht r=>⟨hz (.inl ht),.inl (S5 _ _ r.2.2)⟩
  ·refine Mum.Paired.mapM st5 fun t _ ht r=>⟨hz (.inr ht),.inl r.2.2⟩
  ·have e:(if b∈ts∨b∈ts' then none else H5 b)=some o:=e
   split at e
   ·cases e
   ·exact e
 have zt:ts.length=S.1.fs.length:=by rw[Paired.length st3,len3]
 have zt':ts'.length=SI.1.fs.length:=by rw[Paired.length st5,len5]
 have f16:=ok3.good.few4 z4;have f16':=ok5.good.few4 z4';have pos:∀{rs:Zb}{es:List am}{S:vh},mH J0 J1 rs es S->0<S.1.fs.length:=fun{rs es S} ok=>by
  rcases w8 S.1.fs.length with z|z
  ·have:=ok.zero;rw[fS (by omega)]at this;cases this
  ·exact z
 have LC:KB ts ts' S.2 SI.2:=⟨by omega,by omega,fun i p hp=>by rw[zt];exact(ok3.steps hp).1,fun i p hp=>by rw[zt'];exact(ok5.steps hp).1,fun i p hp=>(ok5.steps hp).2⟩;have prod:ts.length * ts'.length<=16 * 16:=sW (by omega) (by omega);refine⟨H0,ta,ta',ts,ts',S.2,SI.2,rfl,I,LC,by rw[zt];exact pos ok3,by rw[zt'];exact pos ok5,fun P H6 okP itP lenP ro I6=>?_,fun P i cm p sb t lst gs H6 okP _ _ hcm _ hpm hlk hask ht hl hg hb t0 l0 I6=>?_⟩
 ·refine⟨_,rfl,_,rfl,?_⟩;rw[zzr1 rfl];refine cR ?_;have F6:=F0.same I6.S;have ins:∀r:Row,wY P SI r.1 r.2->r.1∈rooms'/\r.2<ts.length:=fun r ⟨cm,hc,e,F,hF,hr⟩=>by
   obtain⟨i,hi⟩:=im hc;refine⟨(ok5.good.isF F (aZ hF)).sub _ hr,?_⟩;rw[zt,<-e];exact Iq ok3 okP (pos ok3) hi
  have r0:rooms'[0]?=some (rooms'.headD ""):=by
   cases e:rooms' with
   |nil=>exact absurd e MY.ok.rooms0
   |cons a b=>rfl
  have hb:∀d∈ds',d.b∈rooms':=fun d hd=>(MY.ok.good d hd).b;have first:wY P SI (rooms'.headD "") 0:=by
   obtain⟨r,e⟩:=okP.zero;refine⟨⟨(0,0),none,[]⟩,by rw[e];exact dU,rfl,_,ok5.zero,?_⟩;unfold closF;refine bD.2 ⟨aZ r0,zzr1 ⟨rooms'.headD "",?_,.inl rfl⟩⟩;cases e:rooms' with
   |nil=>exact absurd e MY.ok.rooms0
   |cons a b=>exact dU
  have shut:∀f∈SI.1.fs,GY ds' f:=by rw[itI];exact C6 hb j'
  refine⟨_,rfl,_,rfl,H0,o1,y,x,fa,sa,na,ta,us,ws,ts,S.1,S.2,J0,J1,rooms',ds',fun r:Row=>wY P SI r.1 r.2/\S.1.fs.getD r.2 []≠[],rooms'.headD "",rfl,F6,I6.h1,I6.r1,(MY.same SH).same I6.S,⟨fun r hr=>ins r hr.1,fun r hr x hx=>by obtain⟨n',h1,h2⟩:=Hs MY.ok ok5 len5 ro shut hr.1 x hx;exact⟨n',h1,h2,H_ MY.ok ok3 len3 (by rw[<-zt];exact(ins r hr.1).2) hr.2 hx h1⟩⟩,zt,by omega,r0,⟨first,by rw[eJ,ok3.zero];exact Ip MX.ok.rooms0⟩,fun l ps L H7 hl pr nd all m0 cl hl0 S7=>⟨(by show 2<=ai;decide),fun u hu=>?_⟩⟩
  have S8:ab H7 (upd H7 u (.tup [.str "keeps",.ref l])):=ab.new hu;have rg:∀r∈L,r.1∈rooms'/\r.2<S.1.fs.length:=fun r hr=>by have:=ins r (all r hr).1;rw[zt]at this;exact this
  have faces:Paired (rE (upd H7 u (.tup [.str "keeps",.ref l]))) ps (L.map fun r=>(r.1,S.1.fs.getD r.2 [])):=by
   refine Al (Paired.mapP pr fun a r h=>?_);obtain⟨ft,f,h1,h2,h3⟩:=h;have e:S.1.fs.getD r.2 []=f:=by rw[eJ,h2];rfl
   rw[e];exact⟨ft,S8 _ _ h1,S8 _ _ h3⟩
  refine kn u l ps _ _ aa (S8 _ _ hl) faces (FY MY.ok ok3 len3 rg (fun r hr=>(all r hr).2) r0 m0 cl) ?_ (fun x hx=>?_) ((SH.trans I6.S).free hl0) (((SH.trans I6.S).trans S7).trans S8)
  ·rw[aj];have:=zZ nd fun r hr=>ins r (all r hr).1;have:rooms'.length * ts.length<=4 * 16:=sW z4' (by omega);omega
  ·obtain⟨r,hr,rfl⟩:=aw.1 hx;have h2:=(rg r hr).2;have hg:S.1.fs[r.2]?=some (S.1.fs.getD r.2 []):=by rw[eJ,b9 h2];rfl
   obtain⟨p,e⟩:=ok3.good.isF _ (aZ hg);show(S.1.fs.getD r.2 []).length<=4;rw[e];exact bC (c8 _ _) z4
 ·refine⟨_,rfl,_,rfl,?_⟩;rw[zzr0 (fun z=>by cases z)];refine bR ?_;refine⟨_,rfl,t,_,rfl,br.of ht,rfl,_,_,rfl,_,_,rfl,rfl,?_⟩;refine⟨_,rfl,_,rfl,(by show 3<=ai;decide),fun u hu=>?_⟩;have S8:ab H6 (upd H6 u (.tup [.str "fault",.ref lst,.ref sb])):=ab.new hu;exact kf cm.story p.1 (fun L=>Ge ok3 len3 ok5 okP (pos ok3) hcm hpm hlk hask) u lst sb gs _ aa (S8 _ _ hl) (Paired.mapP hg fun _ _ r=>aS.kt (ab.kt S8) r) (aS.kt (ab.kt S8) hb) (SH.free l0) ((SH.trans I6.S).trans S8)
def ug(F:List (List Str))(r:Str):List (List Str):=F++F.map fun f=>f++[r]
def kj(J2:Zb):List (List Str):=J2.foldl ug [[]]
theorem Gm{J2:Zb}:∀{F:List (List Str)}{f:Zb},f∈J2.foldl ug F↔∃f0∈F,∃s,s.Sublist J2/\f=f0++s:=by
 induction J2 with
 |nil =>
  intro F f;show f∈F↔_;exact⟨fun h=>⟨f,h,[],.slnil,(dj _).symm⟩,fun⟨f0,h,s,hs,e⟩=>by
   cases hs;rw[e,dj];exact h⟩
 |cons r rs ih =>
  intro F f;rw[nR,ih];constructor
  ·rintro⟨f0,h,s,hs,e⟩;unfold ug at h;rcases a_.1 h with h|h
   ·exact⟨f0,h,s,.cons _ hs,e⟩
   ·obtain⟨f1,h1,rfl⟩:=aw.1 h;exact⟨f1,h1,r::s,.cons_cons _ hs,by rw[e,c9];rfl⟩
  ·rintro⟨f0,h,s,hs,e⟩;cases hs with
   |cons _ hs=>exact⟨f0,cf _ h,s,hs,e⟩
   |cons_cons _ hs=>exact⟨f0++[r],cC _ (aw.2 ⟨f0,h,rfl⟩),_,hs,by rw[e,c9];rfl⟩
theorem uJ{f:Zb}:f∈kj J2↔f.Sublist J2:=by
 unfold kj;rw[Gm];exact⟨fun⟨f0,h,s,hs,e⟩=>by rw[aU.1 h]at e;rw[e];exact hs,fun h=>⟨[],aU.2 rfl,f,h,rfl⟩⟩
theorem E_(J2:Zb):∃R,kj J2=[]::R/\∀f∈R,f≠[]:=by
 have:∀(J2:Zb) (R:List (List Str)),(∀f∈R,f≠[])->∃R',J2.foldl ug ([]::R)=[]::R'/\∀f∈R',f≠[]:=by
  intro J2
  induction J2 with
  |nil=>exact fun R h=>⟨R,rfl,h⟩
  |cons r rs ih =>
   intro R h;refine ih (R++([]::R).map fun f=>f++[r]) fun f hf=>?_;rcases a_.1 hf with hf|hf
   ·exact h f hf
   ·obtain⟨g,_,rfl⟩:=aw.1 hf;simp
 exact this J2 [] (fun f hf=>by cases hf)
theorem ox:∀{J2 f:Zb},J2.Nodup->f.Sublist J2->f=J2.filter fun r=>decide (r∈f)
 |[],_,_,.slnil=>rfl
 |r::rs,f,nd,.cons _ h=>by
  rw[io]at nd;rw[xb,if_neg (by simpa using fun z=>nd.1 (h.subset z))];exact ox nd.2 h
 |r::rs,_::f,nd,.cons_cons _ h=>by
  rw[io]at nd;rw[xb,if_pos (by simp)];congr 1;have e:=ox nd.2 h;refine e.trans (qp fun x hx=>?_);rw[decide_eq_decide,cH];exact⟨.inr,fun z=>z.resolve_left fun e=>nd.1 (by rw[<-e];exact hx)⟩
theorem Ez{J2 f:Zb}(nd:J2.Nodup):f∈(kj J2).drop 1↔i5 J2 f=true:=by
 obtain⟨R,e,hR⟩:=E_ J2;have e1:(kj J2).drop 1=R:=by rw[e];rfl
 rw[e1];unfold i5;rw[decide_eq_true_iff];constructor
 ·intro h;refine⟨hR f h,ox nd (uJ.1 ?_)⟩;rw[e];exact eI _ h
 ·rintro⟨ne,h⟩;have:f∈kj J2:=uJ.2 (by rw[h];exact List.filter_sublist);rw[e]at this;exact(cH.1 this).resolve_left ne
theorem AT(J2:Zb):(kj J2).length=2 ^ J2.length:=by
 have:∀(J2:Zb) (F:List (List Str)),(J2.foldl ug F).length=F.length * 2 ^ J2.length:=by
  intro J2
  induction J2 with
  |nil=>intro F;simp
  |cons r rs ih =>
   intro F;rw[nR,ih];unfold ug;rw[aK,aj,dS,Nat.pow_succ];rw[Nat.mul_comm (2 ^ rs.length) 2,<-Nat.mul_assoc];congr 1;omega
 have h:=this J2 [[]];rw[show([[]]:List (List Str)).length=1 from rfl,Nat.one_mul]at h;exact h
open Classical in
def outS(J2:Zb)(ds ds':List am)(L:List bO):List bO:=L.filter fun x=>decide (d9 J2 ds ds' L x.1 x.2)
def outN(J2:Zb)(ds ds':List am)(L:List bO):Nat->List bO
 |0=>L
 |n+1=>outS J2 ds ds' (outN J2 ds ds' L n)
section
variable{J2 rooms':Zb}{ds ds':List am}{L:List bO}
theorem uH{x:bO}:x∈outS J2 ds ds' L↔x∈L/\d9 J2 ds ds' L x.1 x.2:=by
 unfold outS;rw[bD];refine and_congr Iff.rfl ⟨fun h=>@of_decide_eq_true _ (qo _) h,fun h=>@zzr1 _ (qo _) h⟩
theorem FZ:(outS J2 ds ds' L).length<=L.length:=c8 _ _
theorem Et(h:(outS J2 ds ds' L).length=L.length):outS J2 ds ds' L=L/\∀x∈L,d9 J2 ds ds' L x.1 x.2:=by
 have e:outS J2 ds ds' L=L:=List.filter_sublist.eq_of_length h;refine⟨e,fun x hx=>?_⟩;rw[<-e]at hx;exact(uH.1 hx).2
theorem d9.mono{L L':List bO}(e:∀x∈L,x∈L')(h:d9 J2 ds ds' L r f):d9 J2 ds ds' L' r f :=
 ⟨fun d hd ea=>⟨fun c=>e _ ((h.1 d hd ea).1 c),fun c=>⟨((h.1 d hd ea).2 c).1,fun n=>e _ (((h.1 d hd ea).2 c).2 n)⟩⟩,fun q=>⟨(h.2 q).1,e _ (h.2 q).2⟩⟩
theorem qX{M:List bO}(hM:∀x∈M,d9 J2 ds ds' M x.1 x.2)(h0:∀x∈M,x∈L):∀n,∀x∈M,x∈outN J2 ds ds' L n
 |0=>h0
 |n+1=>fun x hx=>uH.2 ⟨qX hM h0 n x hx,(hM x hx).mono (qX hM h0 n)⟩
theorem An:∀n,∀x∈outN J2 ds ds' L n,x∈L
 |0=>fun _ h=>h
 |n+1=>fun x h=>An n x (uH.1 h).1
end
def zH(K:Za):TS :=
 ap (aP (dA (ay (bw (bh)))) U1)
 (ap (dR (bT K V0) U2 (aP (aI sA V1 (c6 1 [2] (bT K V1) U0 (kG) (aI (IM K) V0 (bw (ay V1))))) U1))
 (bc (A2 (qW K) V1 (gj (tC (.int 1))) (eU))))
def AY:List Str:=["rooms","found","room"]
def Bn(K:Za)(sp_law_row_stands:Sp)(sp_law_faces:Sp):TS :=
 ap (aP (jE) U2)
 (ap (dR (bT K (aI (oA K) V1 (tC (.int 2)))) U3 (dR (bT K (aM sp_law_faces (ay (aI (oA K) V0 (tC (.int 2)))))) U4 (jF K V2 (bw (aO V3 V4)) (tC (.bl true)))))
 (ap (dR (uS (ay (dB (C9 K) (ay V2)))) U5 (ap (aP (jE) U6)
 (ap (dR (bT K (dB (ym K) (ay V2))) (g0 K 2 (aY U3 (aY U4 (gP)))) (bS (tB (aM sp_law_row_stands (au V0 (au V1 (dW V2 V3 V4))))) (jF K V6 (bw (aO V3 V4)) (tC (.bl true))) (bg)))
 (ap (bS (aQ (aI zg (dB (C9 K) (ay V6)) (dB (C9 K) (ay V2)))) (bc (dB (ym K) (ay V6))) (bg))
 (aP V6 U2)))))
 (bc (dA (bh)))))
def CC:List Str:=["told","some","rows","room","face","turn","left"]
def Hh(K:Za)(sp_is_keeping:Sp)(sp_law_same:Sp)(sp_keeps:Sp)(sp_law_on:Sp)(sp_law_left:Sp)(sp_law_machine:Sp)(sp_law_near:Sp)(sp_law_model:Sp)(sp_law_open:Sp):TS :=
 ap (aP (aM sp_law_open (ay V0)) U1)
 (ap (aP (aM sp_law_model (dW V1 (tC (.int 3)) (tC (.int 0)))) U2)
 (ap (aP (aM sp_law_near (dW V1 V2 (tC (.int 3)))) U3)
 (ap (aP (aM sp_law_machine (ay V2)) U4)
 (ap (aP (aM sp_law_machine (ay V3)) U5)
 (ap (aP (aM sp_law_left (aO V2 V3)) U6)
 (ap (aP (bw (au (aI (cV K) (aI (lD K) V3 (tC (.int 2))) (tC (.int 0))) (au (aM sp_law_on (aO V2 (A2 (qW K) (aI (lD K) V2 (tC (.int 2))) (eU) (gj (tC (.int 1)))))) bh))) U7)
 (ap (aP (aM sp_keeps (aO V4 V5)) U8)
 (ap (bS (Ea (tZ (tB (dB (vV K) (aO V8 (tC (.ty "tuple")))))) (tZ (tB (aM sp_law_same (au (aI (lD K) V8 (tC (.int 0))) (au (aI (cV K) (dA (aO (tC (.str "fault")) (tC (.str "keeps")))) (dB JR (ay (aI (kM K false) V7 V6)))) bh)))))) (bc (tC (.bl false))) (bg))
 (ap (bS (tZ (tB (aM sp_law_same (aO (aM sp_is_keeping (dW V4 V5 (dB (da K) (ay V6)))) (aI (kM K false) V7 V6))))) (bc (tC (.bl false))) (bg))
 (ap (bS (aQ (aI (kM K true) V7 V6)) (bc (aI BJ (aM sp_is_keeping (dW V4 V5 (aI sA (dA (ay V7)) V6))) (tC (.bl false)))) (bg))
 (bc (aI (j5 K) (c6 1 [6] (bT K (aI (lD K) V8 (tC (.int 1)))) U0 (aQ (aI (kM K true) V0 V1)) V0) (dA (bh))))))))))))))
def DM:List Str:=["script","pen","told","some","model","made","left","first","found"]
def FW:List Str:=["script"]
def zb(K:Za)(H:Hp)(u:Addr)(r:bO):Prop:=∃ft,aS K H u [.str r.1,.ref ft]/\aS K H ft (r.2.map V.str)
section
variable{K:Za}{H H':Hp}{u:Addr}{r:bO}
theorem rE.c(h:rE H u r):zb K H u r:=let⟨ft,h1,h2⟩:=h;⟨ft,.inl h1,.inl h2⟩
theorem zb.kt(kt:gM H H')(h:zb K H u r):zb K H' u r:=let⟨ft,h1,h2⟩:=h;⟨ft,aS.kt kt h1,aS.kt kt h2⟩
theorem zb.tk(h:zb K H u r):jR K H (eP r) (.ref u):=by
 obtain⟨ft,h1,h2⟩:=h;unfold eP jR;refine⟨u,_,rfl,h1,?_⟩;unfold TKCs;refine⟨_,_,rfl,?_,?_⟩
 ·unfold mV jR;rfl
 unfold TKCs;refine⟨_,_,rfl,pe h2,?_⟩;unfold TKCs
 rfl
theorem zb.of(h:jR K H (eP r) (.ref u)):zb K H u r:=by
 obtain⟨b,ft,e,h1,h2⟩:=Fq h;cases e;exact⟨ft,h1,h2⟩
end
def Bq(K:Za):TS :=
 ap (aP (jE) U1)
 (ap (dR (bT K V0) U2 (jF K V1 V2 (tC (.bl true))))
 (bc V1))
inductive lY(K:Za)(vs:List V)(H:Hp)(Q:VK)(E:XK):Prop
 |mk (l:Addr) (us:Ze) (L:List bO):(vs=[.ref l])->(H l=some (.lst (us.map V.ref)))->(Paired (zb K H) us L)->(L.length<=100000)->(∀d,H d=none->Q (.ref d) (upd H d (.dT (jd (bE L)))))->lY K vs H Q E
theorem Ad{K:Za}(h:lY K vs H Q E):Bq K (bJ Q) (start CF vs) H:=by
 obtain⟨l,us,L,rfl,hl,hu,hz,k⟩:=h;refine fun d hd=>?_;have key:∀o,upd H d o l=some (.lst (us.map V.ref)):=fun o=>kp hl hd;refine⟨_,rfl,l,rfl,⟨_,az.of (key _)⟩,?_⟩;refine bP (xs:=us.map V.ref) (fun i σ H'=>∃x,σ=[some (.ref l),some (.ref d),x]/\H'=upd H d (.dT (jd (bE (L.take i))))) ⟨_,rfl,rfl⟩ (fun i σ H' _ ⟨_,_,e⟩=>by rw[e];exact az.of (key _)) ?_ ?_
 ·rintro i x σ H' hi ⟨y,rfl,rfl⟩;obtain⟨u,hu',rfl⟩:=cj hi;obtain⟨r,hr,hat⟩:=Paired.getL hu hu';have hlen:(jd (bE (L.take i))).length<ai:=by
   unfold jd;rw[aj];exact uj (bC (rT _) (by rw[aG];omega))
  refine⟨_,rfl,_,rfl,d,u,_,eP r,rfl,rfl,aa,(hat.kt (ab.kt (ab.new hd))).tk,i7 _,hlen,_,rfl,?_⟩;rw[mM,yi hr,yy]
 ·rintro σ H' ⟨x,rfl,rfl⟩;rw[aj,Paired.length hu,aR];exact⟨_,rfl,k d hd⟩
def ui(K:Za):Sp:=fun vs H Q E=>sp_as_keys K vs H Q E∨lY K vs H Q E∨jm K vs H Q E
theorem Ic{K:Za}(vs:List V)(H:Hp)(Q:VK)(E:XK)(h:uh K vs H Q E):ui K vs H Q E:=h.imp id (.imp (fun⟨l,us,L,e,h1,h2,h3,k⟩=>⟨l,us,L,e,h1,Paired.mapP h2 fun _ _ r=>r.c,h3,k⟩) id)
inductive ic(K:Za)(C:Addr)(vs:List V)(H:Hp)(Q:VK)(E:XK):Prop
 |mk (x y l:Addr) (us:Ze) (L:List bO) (J0 J1 J2 rooms':Zb) (ds ds':List am):(vs=[.ref x,.ref y,.ref l])->(bv C H x J0 J1 J2 ds)->(bv C H y J0 J1 rooms' ds')->(∀r∈rooms',∀a∈J0,gS ds' r a)->(H l=some (.lst (us.map V.ref)))->(Paired (zb K H) us L)->(L.length<=90000)->(∀r∈L,r.2.length<=1000)->(∀(b:Bool) (H':Hp),(b=true↔dI J2 rooms' ds ds' L)->ab H H'->Q (.bl b) H')->ic K C vs H Q E
theorem Aa{K:Za}(h:ic K C vs H Q E):xU K (cA C) C (gl C) (j1 K C) (ia K C) (sK K C) (ui K) (eL C) (bJ Q) (start y8 vs) H:=by
 obtain⟨x,y,l,us,L,J0,J1,J2,rooms',ds,ds',rfl,M,N,tk,hl,hu,zL,zf,k⟩:=h;have z4:=N.ok.few;refine⟨_,rfl,_,rfl,x,y,J0,J1,J2,rooms',ds,ds',rfl,M,N,tk,fun H1 S1=>?_⟩;refine⟨_,rfl,.inr (.inl ⟨l,us,L,rfl,S1 _ _ hl,Paired.mapP hu fun _ _ r=>r.kt (ab.kt S1),by omega,fun rd hrd=>?_⟩)⟩;have S2:ab H1 (upd H1 rd (.dT (jd (bE L)))):=ab.new hrd;have rd2:upd H1 rd (.dT (jd (bE L))) rd=some (.dT (jd (bE L))):=aa;generalize upd H1 rd (.dT (jd (bE L)))=H2 at S2 rd2 ⊢;have N2:=N.same (S1.trans S2);obtain⟨dy,gs,p1,p2,p3,p4,lv,qu,sgA,sl,ts,lps,gps,sps,g2,b1,b2,b3,b4,_⟩:=id N2.at_;refine⟨_,rfl,y,dy,gs,rfl,g2,b4,y,J0,J1,rooms',ds',rfl,N2,fun rl hrl=>?_⟩;have S3:ab H2 (upd H2 rl (.lst (rooms'.map V.str))):=ab.new hrl;have rl3:upd H2 rl (.lst (rooms'.map V.str)) rl=some (.lst (rooms'.map V.str)):=aa;generalize upd H2 rl (.lst (rooms'.map V.str))=H3 at S3 rl3 ⊢;refine .inl ⟨rl,rooms',rfl,az.of rl3,bC N.ok.rooms26 (by decide),fun md hmd=>?_⟩;have S4:ab H3 (upd H3 md (.dK (aJ rooms'))):=ab.new hmd;have md4:upd H3 md (.dK (aJ rooms')) md=some (.dK (aJ rooms')):=aa;generalize upd H3 md (.dK (aJ rooms'))=H4 at S4 md4 ⊢;refine fun sd hsd=>?_;have S5:ab H4 (upd H4 sd (.dT [])):=ab.new hsd;have sd5:upd H4 sd (.dT []) sd=some (.dT []):=aa;generalize upd H4 sd (.dT [])=H5 at S5 sd5 ⊢;have S15:ab H1 H5:=((S2.trans S3).trans S4).trans S5;have rd5:H5 rd=some (.dT (jd (bE L))):=S5 _ _ (S4 _ _ (S3 _ _ rd2));refine⟨_,rfl,rd,jd (bE L),rfl,.inl ⟨rd5,fun o=>?_⟩⟩;have S6:ab H (upd H5 rd (.frz o (.dT (jd (bE L))))):=fun b q e=>by rw[ag (ae (S1 _ _ e) hrd)];exact S15 _ _ (S1 _ _ e)
 have rd6:upd H5 rd (.frz o (.dT (jd (bE L)))) rd=some (.frz o (.dT (jd (bE L)))):=aa;have sd6:upd H5 rd (.frz o (.dT (jd (bE L)))) sd=some (.dT []):=by rw[ag (ae (S4 _ _ (S3 _ _ rd2)) hsd).symm];exact sd5
 have md6:upd H5 rd (.frz o (.dT (jd (bE L)))) md=some (.dK (aJ rooms')):=by rw[ag (ae (S3 _ _ rd2) hmd).symm];exact S5 _ _ md4
 have sn:H sd=none:=(((S1.trans S2).trans S3).trans S4).free hsd;generalize upd H5 rd (.frz o (.dT (jd (bE L))))=H6 at S6 rd6 sd6 md6 ⊢;have el:(jd (bE L)).length=(bE L).length:=by unfold jd;rw[aj]
 have zk:=rT L;have bad:∀{r:bO}{H':Hp},r∈L->¬nh J2 rooms' ds ds' L r->ab H H'->Q (.bl false) H':=fun hr hg S=>k false _ ⟨fun z=>(by cases z),fun z=>absurd (z.1 _ hr) hg⟩ S;refine EK (KpI x y l rd md sd o L J0 J1 J2 rooms' ds ds' H)
  ⟨[],_,_,rfl,rd6,md6,⟨sd6,fun _=>.inl rfl⟩,aA _,S6,fun r hr=>by simp at hr⟩ (fun i σ H' _ ⟨_,_,_,_,q,_,_,_,_,_⟩=>q) ?_ ?_
 ·rintro i σ H7 a b hi ⟨kvS,x6,x7,rfl,rd7,md7,st7,zS,S7,good⟩ ⟨key,ek,tkc⟩;unfold jd at ek;rw[bQ]at ek;obtain⟨r,hr,er⟩:=sV.1 ek;cases er;obtain⟨rb,ft,rfl,hrb,hft⟩:=Fq tkc;have hrL:r∈L:=jp.1 (aZ hr);have zft:=zf r hrL;have il:i<(bE L).length:=by rw[<-el];exact hi
  refine⟨rb,_,rfl,aS.sq hrb,rfl,_,_,rfl,_,_,rfl,rfl,?_⟩;have rest:∀(kv:List (TK×V)) (d:Addr) (kvs:List (TK×V)) (H8:Hp),H8 rd=some (.frz o (.dT (jd (bE L))))->H8 md=some (.dK (aJ rooms'))->r9 H8 sd kv J0 J1 J2 ds->kv.length<=i+1->ab H H8->aS K H8 ft (r.2.map V.str)->bq kv (fB r.2)=some (.ref d)->H8 d=some (.dT kvs)->lG H8 kvs (stepsF J0 J1 J2 ds r.2)->i5 J2 r.2=true ->
    (bS (Ea (tB (dk K V6 V4)) (tZ (tB (dB (HL K) (au (c6 1 [3] (bT K (aM (j1 K C) (au V1 (dW V6 V7 (gR K V5 V7))))) U0 (kG) (sw K V0 V1)) bh))))) (bc (tC (.bl false))) (bg)) { nx:=KpI x y l rd md sd o L J0 J1 J2 rooms' ds ds' H (i+1),rt:=Q } [some (.ref x),some (.ref y),some (.ref l),some (.ref rd),some (.ref md),some (.ref sd),some (.str r.1),some (.ref ft)] H8:=by
   intro kv d kvs H8 rd8 md8 st8 z8 S8 ft8 v8 d8 is8 fu;refine⟨_,rfl,_,rfl,md,_,rfl,.inl ⟨_,.inr r.1,.inl md8,rfl,rfl⟩,_,rfl,?_⟩;rw[dQ];refine nK (P:=r.1∉rooms') (by simp) (fun c=>cR (bad hrL (fun z=>c z.1) S8)) (fun c=>?_);have c:=kr.1 c;have gd:ir K H8 sd (.ref ft) (some (.ref d)):=by rw[<-v8];exact .inr ⟨_,fB r.2,ft,.inl st8.at_,rfl,mN ft8,cO _,rfl⟩
   refine⟨_,rfl,_,rfl,_,rfl,_,rfl,_,rfl,sd,_,rfl,gd,y,d,r.1,.ref ft,fun sg=>bq kvs (fB sg),J0,J1,rooms',ds',rfl,N.same S8,c,fun H' s sg S hs=>⟨.inr ⟨_,.inl (S _ _ d8)⟩,.inr ⟨_,fB sg,s,.inl (S _ _ d8),rfl,mN hs,cO _,rfl⟩⟩,fun nl nu H9 hnl hR _ S9=>⟨nl,rfl,⟨_,az.of hnl⟩,fun cl hcl=>?_⟩⟩;have rows:=Hr (r:=r.1) (lo:=fun sg=>bq kvs (fB sg)) (fun _=>rfl) N.ok (is8.kt (ab.kt S9)) (aS.kt (ab.kt S9) ft8);have rd9:=S9 _ _ rd8;have zr:=Ee J2 rooms' ds ds' r.1 r.2;refine bZ (xs:=nu.map V.ref) (fun j vs H'=>vs=(((rowsS J2 rooms' ds ds' r.1 r.2).take j).map (Bz L)).map V.bl/\ab H9 H'/\H' cl=some (.lst vs)) ⟨by simp,ab.new hcl,aa⟩ (fun j vs H' _ ⟨_,S,h'⟩=>⟨h',az.of (S _ _ hnl)⟩) ?_ ?_
   ·rintro vs H' ⟨rfl,S,h'⟩;rw[aj,Paired.length hR,Paired.length rows,aR]at h';refine⟨cl,_,rfl,az.of h',_,rfl,?_⟩;have S10:=(S8.trans S9).trans S;have key:=BB (J2:=J2) (f:=r.2) (ds:=ds) (ds':=ds') (L:=L) c;by_cases w:((rowsS J2 rooms' ds ds' r.1 r.2).map (Bz L)).all id=true
    ·rw[w];refine bR ⟨kv,_,_,rfl,(S9.trans S) _ _ rd8,(S9.trans S) _ _ md8,st8.same (S9.trans S),z8,S10,fun q hq=>?_⟩;rw[take_snoc hr]at hq;rcases a_.1 hq with z|z
     ·exact good q z
     ·rw[aU.1 z];exact⟨c,fu,key.1 w⟩
    ·rw[Bool.not_eq_true]at w;rw[w];exact cR (bad hrL (fun z=>by have:=key.2 z.2.2;rw[w]at this;cases this) S10)
   ·rintro j vs H' v hv hj ⟨rfl,S,h'⟩;obtain⟨u,hu',rfl⟩:=cj hv;obtain⟨row,hrow,hut⟩:=Paired.getL hR hu';obtain⟨s,hs,is⟩:=Paired.getL rows hrow;have jl:j<(rowsS J2 rooms' ds ds' r.1 r.2).length:=(cu.mp hs).1;have zl:(((((rowsS J2 rooms' ds ds' r.1 r.2).take j).map (Bz L)).map V.bl).length)<ai:=by
     rw[aj,aj,aG,jh];omega
    have nx:∀b:Bool,b=Bz L s->H' cl=some (.lst ((((rowsS J2 rooms' ds ds' r.1 r.2).take j).map (Bz L)).map V.bl))/\((((rowsS J2 rooms' ds ds' r.1 r.2).take j).map (Bz L)).map V.bl).length<ai/\∃m',m'<(nu.map V.ref).length-j/\Wc (nu.map V.ref).length (fun j vs H'=>vs=(((rowsS J2 rooms' ds ds' r.1 r.2).take j).map (Bz L)).map V.bl/\ab H9 H'/\H' cl=some (.lst vs)) (j+1) m' ((((rowsS J2 rooms' ds ds' r.1 r.2).take j).map (Bz L)).map V.bl++[.bl b]) (upd H' cl (.lst ((((rowsS J2 rooms' ds ds' r.1 r.2).take j).map (Bz L)).map V.bl++[.bl b]))):=by
     intro b eb;refine⟨h',zl,nA hj ⟨?_,?_,aa⟩⟩
     ·rw[take_snoc hs,ax,ax,eb];rfl
     ·intro p q e;rw[ag (ae e hcl)];exact S _ _ e
    refine gN (se ?_);refine⟨_,rfl,_,rfl,rd,?_⟩;have hut':=S _ _ hut;obtain⟨e1,⟨e2,e3⟩|⟨g,fu',e2,e3,e4⟩⟩:=is
    ·refine⟨none,rfl,ir.non (.inr ⟨o,S _ _ rd9⟩) (br.of (by rw[hut',e3])) (Dt _ _),nx false ?_⟩;unfold Bz;rw[e2]
    ·rw[e3]at hut';refine⟨_,rfl,uV (L:=bE L) (.inr ⟨o,S _ _ rd9⟩) (br.of hut') (aS.kt (ab.kt S) e4),nx _ ?_⟩;rw[kU];unfold Bz;rw[e2,<-e1];exact decide_eq_decide.2 jp
  have gd:ir K H7 sd (.ref ft) (bq kvS (fB r.2)):=.inr ⟨_,fB r.2,ft,.inl st7.at_,rfl,mN hft,cO _,rfl⟩;refine⟨_,rfl,_,rfl,sd,_,rfl,gd,_,rfl,?_⟩;rcases st7.ok r.2 with no|⟨d,kvs,h1,h2,h3,h4,h5⟩
  ·rw[no];refine cR ?_;refine⟨_,rfl,_,rfl,x,ft,r.2,J0,J1,J2,ds,rfl,M.same S7,hft,zft,fun H8 S8=>⟨_,rfl,?_⟩⟩;cases fu:i5 J2 r.2 with
   |false=>exact cR (bad hrL (fun z=>by have:=z.2.1;rw[fu]at this;cases this) (S7.trans S8))
   |true =>
    refine bR ?_;refine⟨_,rfl,_,rfl,x,ft,r.2,J0,J1,J2,ds,rfl,M.same (S7.trans S8),aS.kt (ab.kt S8) hft,GC fu,zft,fun d kvs H9 hd is dn S9=>?_⟩;have S79:=S8.trans S9;have st9:=st7.same S79;have nd:d≠sd:=(ae (st7.same S8).at_ dn).symm;refine⟨_,rfl,_,rfl,sd,ft,kvS,fB r.2,rfl,rfl,st9.at_,pe (aS.kt (ab.kt S79) hft),cO _,uj (by omega),?_⟩;rw[dq _ no];have st10:=st9.put nd hd is fu no;have kt10:gM H9 (upd H9 sd (.dT (kvS++[(fB r.2,.ref d)]))):=A6 st9.at_;refine rest (kvS++[(fB r.2,.ref d)]) d kvs _ ?_ ?_ st10 (by rw[aK];show _+1<=_;omega) ?_ (aS.kt ((ab.kt S79).trans kt10) hft) ?_ (by rw[ag nd];exact hd) (is.kt kt10) fu
    ·have:=S79 _ _ rd7;rw[ag (fun z=>by rw[z,st9.at_]at this;cases this)];exact this
    ·have:=S79 _ _ md7;rw[ag (fun z=>by rw[z,st9.at_]at this;cases this)];exact this
    ·intro p q e;rw[ag (ae e sn)];exact S79 _ _ (S7 _ _ e)
    ·rw[<-dq (.ref d) no,lR,if_pos rfl]
  ·rw[h1];refine bR ?_;exact rest kvS d kvs H7 rd7 md7 st7 (by omega) S7 hft h1 h3 h4 h5
 ·rintro σ H7 ⟨kvS,x6,x7,rfl,rd7,md7,st7,zS,S7,good⟩;rw[el,aR]at good;have N7:=N.same S7;obtain⟨dy,gs,p1,p2,p3,p4,lv,qu,sgA,sl,ts,lps,gps,sps,g7,b1,b2,b3,b4,_⟩:=id N7.at_;refine⟨_,rfl,y,dy,gs,rfl,g7,b4,y,J0,J1,rooms',ds',rfl,N7,fun rl' hrl'=>?_⟩;have S8:ab H7 (upd H7 rl' (.lst (rooms'.map V.str))):=ab.new hrl';have rl8:upd H7 rl' (.lst (rooms'.map V.str)) rl'=some (.lst (rooms'.map V.str)):=aa;generalize upd H7 rl' (.lst (rooms'.map V.str))=H8 at S8 rl8 ⊢;obtain⟨r0,hr0⟩:∃r0,rooms'[0]?=some r0:=by
   cases e:rooms' with
   |nil=>exact absurd e N.ok.rooms0
   |cons a _=>exact⟨a,rfl⟩
  refine⟨rl',_,0,.str r0,rfl,rfl,az.of rl8,bH (j:=0) (by rw[bQ,hr0];rfl),?_⟩;refine⟨_,rfl,x,J0,J1,J2,ds,rfl,M.same (S7.trans S8),fun t' F H9 ht' hF S9=>?_⟩;rw[qa hF]at ht';refine⟨(by show 2<=ai;decide),fun p hp=>⟨_,rfl,rd,_,rfl,uV (L:=bE L) (.inr ⟨o,kp (S9 _ _ (S8 _ _ rd7)) hp⟩) (br.of aa) (.inl (kp ht' hp)),?_⟩⟩;rw[kU];refine k _ _ ?_ ((S7.trans (S8.trans S9)).trans (ab.new hp));rw[decide_eq_true_iff,jp];constructor
  ·intro z;exact⟨fun q hq=>good q (jp.2 hq),r0,hr0,z⟩
  ·rintro⟨_,r1,h1,z⟩;rw[hr0]at h1;cases h1;exact z
inductive pF(K:Za)(vs:List V)(H:Hp)(Q:VK)(E:XK):Prop
 |mk (l:Addr) (J2:Zb):(vs=[.ref l])->(H l=some (.lst (J2.map V.str)))->(J2.length<=4)->(∀(l':Addr) (us:Ze) (H':Hp),H' l'=some (.lst (us.map V.ref))->Paired (SignAt H') us ((kj J2).drop 1)->ab H H'->Q (.ref l') H')->pF K vs H Q E
theorem FL{K:Za}(h:pF K vs H Q E):zH K (bJ Q) (start AY vs) H:=by
 obtain⟨l,J2,rfl,hl,z4,k⟩:=h;refine⟨(by show 0<=ai;decide),fun e he=>?_⟩;have S1:ab H (upd H e (.tup [])):=ab.new he;have e1:SignAt (upd H e (.tup [])) e []:=aa;generalize upd H e (.tup [])=H1 at S1 e1 ⊢;refine⟨(by show 1<=ai;decide),fun fl hfl=>?_⟩;have S2:ab H1 (upd H1 fl (.lst [.ref e])):=ab.new hfl;have f2:upd H1 fl (.lst [.ref e]) fl=some (.lst ([e].map V.ref)):=aa;generalize upd H1 fl (.lst [.ref e])=H2 at S2 f2 ⊢;refine⟨_,rfl,l,rfl,⟨_,az.of (S2 _ _ (S1 _ _ hl))⟩,?_⟩;refine bP (xs:=J2.map V.str) (fun i σ H'=>Jz fun(fl:Addr) (us:Ze) (x2:Option V)=>NA4 (σ=[some (.ref l),some (.ref fl),x2]) (H' fl=some (.lst (us.map V.ref))) (Paired (SignAt H') us (kj (J2.take i))) (ab H H')) ⟨fl,[e],_,rfl,f2,.cons (S2 _ _ e1) .nil,S1.trans S2⟩ (fun i σ H' _ ⟨_,_,_,_,_,_,S⟩=>az.of (S _ _ hl)) ?_ ?_
 ·rintro i y σ H3 hi ⟨fl,us,x2,rfl,f3,hus,S3⟩;obtain⟨r,hr,rfl⟩:=bm hi;have il:i<J2.length:=(cu.mp hr).1;have zF:(kj (J2.take i)).length<=16:=by
   rw[AT,aG];exact bC (w_ (by decide) (show min i J2.length<=4 by omega)) (by decide)
  refine⟨_,rfl,_,rfl,fl,rfl,⟨_,az.of f3⟩,fun cl hcl=>?_⟩;refine bZ (xs:=us.map V.ref) (fun j vs H'=>∃ws:List Addr,vs=ws.map V.ref/\Paired (SignAt H') ws (((kj (J2.take i)).take j).map fun f=>f++[r])/\ab H3 H'/\H' cl=some (.lst vs)) ⟨[],rfl,.nil,ab.new hcl,aa⟩ (fun j vs H' _ ⟨_,_,_,S,h'⟩=>⟨h',az.of (S _ _ f3)⟩) ?_ ?_
  ·rintro vs H4 ⟨ws,rfl,hws,S4,c4⟩;rw[aj,Paired.length hus,aR]at hws;have zw:=Paired.length hws;rw[aj]at zw;refine⟨fl,cl,_,_,rfl,rfl,S4 _ _ f3,c4,by rw[aj,aj,zw,Paired.length hus,jh];omega,fun p hp=>?_⟩;have S5:ab H4 (upd H4 p (.lst (us.map V.ref++ws.map V.ref))):=ab.new hp;refine⟨p,us++ws,_,rfl,by rw[aa,ax],?_,(S3.trans S4).trans S5⟩;rw[take_snoc hr,show kj (J2.take i++[r])=ug (kj (J2.take i)) r by unfold kj;rw[ky];rfl];exact Paired.app (Paired.mapP hus fun _ _ q=>S5 _ _ (S4 _ _ q)) (Paired.mapP hws fun _ _ q=>S5 _ _ q)
  ·rintro j vs H' v hv hj ⟨ws,rfl,hws,S,h'⟩;obtain⟨u,hu',rfl⟩:=cj hv;obtain⟨f,hf,hat⟩:=Paired.getL hus hu';have jl:j<(kj (J2.take i)).length:=(cu.mp hf).1;have zl:(ws.map V.ref).length<ai:=by
    rw[aj,Paired.length hws,aj,aG];exact ar (by omega)
   have fin:∀(H5:Hp) (q:Addr),ab H' H5->SignAt H5 q (f++[r])->H5 cl=some (.lst (ws.map V.ref))/\(ws.map V.ref).length<ai/\∃m',m'<(us.map V.ref).length-j/\Wc (us.map V.ref).length (fun j vs H'=>∃ws:List Addr,vs=ws.map V.ref/\Paired (SignAt H') ws (((kj (J2.take i)).take j).map fun f=>f++[r])/\ab H3 H'/\H' cl=some (.lst vs)) (j+1) m' (ws.map V.ref++[.ref q]) (upd H5 cl (.lst (ws.map V.ref++[.ref q]))):=fun H5 q S5 hq=>by
    have kt:gM H5 (upd H5 cl (.lst (ws.map V.ref++[.ref q]))):=cL (S5 _ _ h');refine⟨S5 _ _ h',zl,nA hj ⟨ws++[q],by rw[ax];rfl,?_,fun b o e=>by rw[ag (ae e hcl)];exact S5 _ _ (S _ _ e),aa⟩⟩;rw[take_snoc hf,ax];exact c_ (Paired.mapP hws fun _ _ w=>((ab.kt S5).trans kt) _ _ w) (kt _ _ hq)
   refine gN (se ?_);have hat':SignAt H' u f:=S _ _ hat;refine⟨_,rfl,_,rfl,(by show 1<=ai;decide),fun p hp=>?_⟩;have S5:ab H' (upd H' p (.tup [.str r])):=ab.new hp;have p5:upd H' p (.tup [.str r]) p=some (.tup [.str r]):=aa;generalize upd H' p (.tup [.str r])=H5 at S5 p5 ⊢;by_cases c:f=[]
   ·subst c;exact .inr ⟨u,p,_,rfl,rfl,br.of (S5 _ _ hat'),br.of p5,fin H5 p S5 p5⟩
   ·refine .inl ⟨u,p,_,_,rfl,rfl,br.of (S5 _ _ hat'),br.of p5,by simpa using c,?_,fun z=>(by cases z),fun _ q hq=>fin _ q (S5.trans (ab.new hq)) ?_⟩
    ·have:f.length<=4:=bC (uJ.1 (aZ hf)).length_le (by rw[aG];omega);rw[aj,jh];show _+1<=_;omega
    ·unfold SignAt;rw[aa,ax];rfl
 ·rintro σ H3 ⟨fl,us,x2,rfl,f3,hus,S3⟩;rw[aj,aR]at hus;refine⟨_,rfl,1,rfl,fl,_,rfl,az.of f3,fun p hp=>k p (us.drop 1) _ ?_ (Paired.mapP (Paired.dropP 1 hus) fun _ _ q=>kp q hp) (S3.trans (ab.new hp))⟩;rw[aa,show(some (1:Int))=some ((1:Nat):Int)from rfl,Ci,tj]
theorem FU{L:List bO}{r:bO}(h:r∉L):lE L r=L++[r]:=if_neg h
theorem FV(L:List bO)(r:bO):(lE L r).length<=L.length+1:=by
 unfold lE;split
 ·omega
 ·rw[aK];exact aA _
theorem HM{L:List bO}(h:L.Nodup):(lE L r).Nodup:=by
 unfold lE;split
 ·exact h
 ·rename_i c;rw[cJ];exact⟨h,by simp,fun a ha b hb e=>c (by rw[<-aU.1 hb,<-e];exact ha)⟩
theorem pV(L:List bO):(jd L).length=L.length:=by unfold jd;rw[aj]
inductive sI(K:Za)(vs:List V)(H:Hp)(Q:VK)(E:XK):Prop
 |mk (t t' l1 l2 l3 l4 l3' l4':Addr) (ts ts':Ze) (J0 J1 J2 rooms':Zb) (ds ds':List am):(vs=[.ref t,.ref t'])->(iE H t l1 l2 l3 l4 ts J0 J1 J2 ds)->(aL J0 J1 J2 ds)->(iE H t' l1 l2 l3' l4' ts' J0 J1 rooms' ds')->(aL J0 J1 rooms' ds')->(J2.length<=4)->(rooms'.length<=4)->(∀(l:Addr) (us:Ze) (L:List bO) (H':Hp),H' l=some (.lst (us.map V.ref))->Paired (zb K H') us L->(∀x∈L,nh J2 rooms' ds ds' L x)->(∀M:List bO,(∀x∈M,nh J2 rooms' ds ds' M x)->∀x∈M,x∈L)->L.length<=1000->ab H H'->Q (.ref l) H')->sI K vs H Q E
theorem Hy{K:Za}(h:sI K vs H Q E):Bn K (pC K) (pF K) (bJ Q) (start CC vs) H:=by
 obtain⟨t,t',l1,l2,l3,l4,l3',l4',ts,ts',J0,J1,J2,rooms',ds,ds',rfl,T,m,T',m',z4,z4',k⟩:=h;have nd:J2.Nodup:=m.okR.1;have zF:((kj J2).drop 1).length<=16:=by
  rw[fj,AT];have:=w_ (n:=2) (by decide) z4;omega
 refine fun rd hrd=>?_;have S1:ab H (upd H rd (.dT [])):=ab.new hrd;have r1:upd H rd (.dT []) rd=some (.dT (jd [])):=aa;generalize upd H rd (.dT [])=H1 at S1 r1 ⊢;have T1':=T'.same S1;refine⟨_,rfl,.inr (.inl ⟨t',_,2,_,rfl,rfl,br.of T1'.t,rfl,l3',rfl,⟨_,az.of T1'.a3⟩,?_⟩)⟩;refine bP (xs:=rooms'.map V.str) (fun i σ H'=>Ky fun(L:List bO) (x3 x4 x5 x6:Option V)=>JH (σ=[some (.ref t),some (.ref t'),some (.ref rd),x3,x4,x5,x6]) (H' rd=some (.dT (jd L))) (L.Nodup) (L.length<=16 * i) (ab H H') (∀x:bO,x∈L↔x.1∈rooms'.take i/\i5 J2 x.2=true)) ⟨[],_,_,_,_,rfl,r1,nU,cX _,S1,fun x=>by simp⟩ (fun i σ H' _ ⟨_,_,_,_,_,_,_,_,_,S,_⟩=>az.of (S _ _ T'.a3)) ?_ ?_
 ·rintro i y σ H2 hi ⟨L,x3,x4,x5,x6,rfl,r2,nL,zL,S2,mL⟩;obtain⟨r,hr,rfl⟩:=bm hi;have il:i<rooms'.length:=(cu.mp hr).1;have T2:=T.same S2;refine⟨_,rfl,.inr (.inl ⟨t,_,2,_,rfl,rfl,br.of T2.t,rfl,l3,J2,rfl,T2.a3,z4,fun fl us H3 hfl hus S3=>⟨fl,rfl,⟨_,az.of hfl⟩,?_⟩⟩)⟩;refine bP (xs:=us.map V.ref) (fun j σ H'=>∃(L':List bO) (x4 x5 x6:Option V),σ=[some (.ref t),some (.ref t'),some (.ref rd),some (.str r),x4,x5,x6]/\H' rd=some (.dT (jd L'))/\L'.Nodup/\L'.length<=L.length+j/\ab H H'/\H' fl=some (.lst (us.map V.ref))/\Paired (SignAt H') us ((kj J2).drop 1)/\∀x:bO,x∈L'↔x∈L∨x.1=r/\x.2∈((kj J2).drop 1).take j) ⟨L,_,_,_,rfl,S3 _ _ r2,nL,aA _,S2.trans S3,hfl,hus,fun x=>by simp⟩ (fun j σ H' _ ⟨_,_,_,_,_,_,_,_,_,q,_⟩=>az.of q) ?_ ?_
  ·rintro j y σ H4 hj ⟨L',x4,x5,x6,rfl,r4,n4,zL4,S4,f4,h4,m4⟩;obtain⟨u,hu,rfl⟩:=cj hj;obtain⟨f,hf,hat⟩:=Paired.getL h4 hu;have jl:j<((kj J2).drop 1).length:=(cu.mp hf).1;refine⟨_,rfl,_,rfl,_,rfl,(by show 2<=ai;decide),fun p hp=>?_⟩;have S5:ab H4 (upd H4 p (.tup [.str r,.ref u])):=ab.new hp;have a5:rE (upd H4 p (.tup [.str r,.ref u])) p (r,f):=⟨u,aa,kp hat hp⟩;generalize upd H4 p (.tup [.str r,.ref u])=H5 at S5 a5 ⊢;have r5:=S5 _ _ r4;refine⟨rd,p,_,eP (r,f),rfl,rfl,r5,cW.c 8 (i7 _) a5.tk,i7 _,by rw[pV];exact uj (by omega),?_⟩;rw[yy];have kt:gM H4 (upd H5 rd (.dT (jd (lE L' (r,f))))):=(ab.kt S5).trans (A6 r5);refine⟨lE L' (r,f),_,_,_,rfl,aa,HM n4,?_,fun b o e=>by rw[ag (ae e hrd)];exact S5 _ _ (S4 _ _ e),?_,Paired.mapP h4 fun _ _ q=>kt _ _ q,fun x=>?_⟩
   ·have:=FV L' (r,f);omega
   ·rw[ag (fun z=>by have:=S5 _ _ f4;rw[z,r5]at this;cases this)];exact S5 _ _ f4
   ·rw[Av,m4,take_snoc hf,a_,aU,or_assoc];refine or_congr Iff.rfl ⟨fun h=>?_,fun h=>?_⟩
    ·rcases h with⟨h1,h2⟩|rfl
     ·exact⟨h1,.inl h2⟩
     ·exact⟨rfl,.inr rfl⟩
    ·obtain⟨h1,h2|h2⟩:=h
     ·exact .inl ⟨h1,h2⟩
     ·exact .inr (Prod.ext h1 h2)
  ·rintro σ H4 ⟨L',x4,x5,x6,rfl,r4,n4,zL4,S4,_,_,m4⟩;rw[aj,Paired.length hus]at zL4 m4;rw[aR]at m4;refine⟨L',_,_,_,_,rfl,r4,n4,by omega,S4,fun x=>?_⟩;rw[m4,mL,Ez nd,take_snoc hr,a_,aU];constructor
   ·rintro(⟨h1,h2⟩|⟨h1,h2⟩)
    ·exact⟨.inl h1,h2⟩
    ·exact⟨.inr h1,h2⟩
   ·rintro⟨h1|h1,h2⟩
    ·exact .inl ⟨h1,h2⟩
    ·exact .inr ⟨h1,h2⟩
 rintro σ H2 ⟨L0,x3,x4,x5,x6,rfl,r2,n0,zL0,S2,m0⟩;rw[aj]at zL0 m0;rw[aR]at m0;have z0:L0.length<=64:=by omega
 have great:∀n,∀M:List bO,(∀x∈M,nh J2 rooms' ds ds' M x)->∀x∈M,x∈outN J2 ds ds' L0 n:=fun n M hM=>qX (fun x hx=>(hM x hx).2.2) (fun x hx=>(m0 x).2 ⟨(hM x hx).1,(hM x hx).2.1⟩) n;have outN_nd:∀n,(outN J2 ds ds' L0 n).Nodup:=fun n=>by
  induction n with
  |zero=>exact n0
  |succ n ih=>exact ih.sublist List.filter_sublist
 refine⟨_,rfl,rd,_,rfl,r2,?_⟩;rw[pV];refine⟨_,rfl,by omega,by omega,?_⟩;refine kh (lo:=0) (n:=L0.length) (fun i σ H'=>Ky fun(rd:Addr) (x3 x4 x5 x6:Option V)=>NA4 (σ=[some (.ref t),some (.ref t'),some (.ref rd),x3,x4,x5,x6]) (H' rd=some (.dT (jd (outN J2 ds ds' L0 i)))) ((outN J2 ds ds' L0 i).length+i<=L0.length) (ab H H')) ⟨rd,_,_,_,_,rfl,r2,aA _,S2⟩ ?_ ?_;rotate_left
 ·rintro σ H3 ⟨rd3,x3,x4,x5,x6,rfl,r3,zi,S3⟩;refine⟨(by show 0<=ai;decide),fun p hp=>k p [] [] _ aa .nil (fun x hx=>(by cases hx)) (fun M hM x hx=>?_) (by show 0<=1000;decide) (S3.trans (ab.new hp))⟩;have:=great L0.length M hM x hx;rw[List.eq_nil_of_length_eq_zero (show(outN J2 ds ds' L0 L0.length).length=0 by omega)]at this;exact this
 rintro i σ H3 il ⟨rd3,x3,x4,x5,x6,rfl,r3,zi,S3⟩;have Lnd:=outN_nd i;have Lsub:∀x∈outN J2 ds ds' L0 i,x.1∈rooms'/\i5 J2 x.2=true:=fun x hx=>(m0 x).1 (An i x hx);have gi:=great i;have gi1:=great (i+1);have eS:outN J2 ds ds' L0 (i+1)=outS J2 ds ds' (outN J2 ds ds' L0 i):=rfl;generalize outN J2 ds ds' L0 (i+1)=Ln at gi1 eS ⊢;generalize outN J2 ds ds' L0 i=Li at r3 zi Lnd Lsub gi eS;refine fun ld hld=>?_;have S4:ab H3 (upd H3 ld (.dT [])):=ab.new hld;have d4:upd H3 ld (.dT []) ld=some (.dT (jd [])):=aa;have ld0:H ld=none:=S3.free hld;have nrl:rd3≠ld:=ae r3 hld;generalize upd H3 ld (.dT [])=H4 at S4 d4 ⊢;refine⟨_,rfl,rd3,_,rfl,S4 _ _ r3,fun kl us hkl hus=>?_⟩;have S5:ab H4 (upd H4 kl (.lst (us.map V.ref))):=ab.new hkl;have k5:upd H4 kl (.lst (us.map V.ref)) kl=some (.lst (us.map V.ref)):=aa;have nkl:kl≠ld:=(ae d4 hkl).symm;generalize upd H4 kl (.lst (us.map V.ref))=H5 at S5 k5 ⊢;have rows:Paired (zb K H4) us Li:=Paired.mapP (kP (R:=fun u (kv:TK×V)=>jR K H4 kv.1 (.ref u)) (g:=fun r:bO=>(eP r,V.bl true)) hus) fun _ _ q=>zb.of q;refine⟨kl,rfl,⟨_,az.of k5⟩,?_⟩
 classical
 refine bP (xs:=us.map V.ref) (fun j σ H'=>Jz fun(x3 x4 x5:Option V)=>JH (σ=[some (.ref t),some (.ref t'),some (.ref rd3),x3,x4,x5,some (.ref ld)]) (H' ld=some (.dT (jd ((Li.take j).filter fun x=>decide (d9 J2 ds ds' Li x.1 x.2))))) (H' rd3=some (.dT (jd Li))) (H' kl=some (.lst (us.map V.ref))) (gM H4 H') (ab H H')) ⟨_,_,_,rfl,S5 _ _ d4,S5 _ _ (S4 _ _ r3),k5,ab.kt S5,(S3.trans S4).trans S5⟩ (fun j σ H' _ ⟨_,_,_,_,_,_,q,_,_⟩=>az.of q) ?_ ?_
 ·rintro j y σ H6 hj ⟨x3,x4,x5,rfl,d6,r6,k6,kt6,S6⟩;obtain⟨u,hu,rfl⟩:=cj hj;obtain⟨r,hr,hat⟩:=Paired.getL rows hu;obtain⟨ft,h1,h2⟩:=hat.kt kt6;have jl:j<Li.length:=(cu.mp hr).1;have hrL:=Lsub r (aZ hr);have zf:r.2.length<=1000:=bC (AG hrL.2) (by omega);have zlen:((Li.take j).filter fun x=>decide (d9 J2 ds ds' Li x.1 x.2)).length<=64:=bC (c8 _ _) (by rw[aG];omega);refine⟨u,_,rfl,aS.sq h1,rfl,_,_,rfl,_,_,rfl,rfl,?_⟩;refine⟨_,rfl,_,rfl,_,rfl,_,rfl,_,rfl,t,t',rd3,ft,l1,l2,l3,l4,l3',l4',ts,ts',J0,J1,J2,rooms',r.2,ds,ds',Li,r.1,rfl,T.same S6,m,T'.same S6,m',r6,h2,zf,fun b H7 hb S7=>⟨_,rfl,?_⟩⟩;have d7:=S7 _ _ d6;refine nK (P:=d9 J2 ds ds' Li r.1 r.2) hb (fun c=>?_) (fun c=>⟨_,_,_,rfl,?_,S7 _ _ r6,S7 _ _ k6,kt6.trans (ab.kt S7),S6.trans S7⟩);rotate_left
  ·rw[take_snoc hr,nQ,show([r].filter fun x=>decide (d9 J2 ds ds' Li x.1 x.2))=[] by simp[c],dj];exact d7
  refine⟨_,rfl,_,rfl,_,rfl,(by show 2<=ai;decide),fun p hp=>?_⟩;have S8:ab H7 (upd H7 p (.tup [.str r.1,.ref ft])):=ab.new hp;have a8:zb K (upd H7 p (.tup [.str r.1,.ref ft])) p r:=⟨ft,.inl aa,aS.kt (ab.kt (S7.trans S8)) h2⟩;generalize upd H7 p (.tup [.str r.1,.ref ft])=H8 at S8 a8 ⊢;have d8:=S8 _ _ d7;refine⟨ld,p,_,eP r,rfl,rfl,d8,a8.tk,i7 _,by rw[pV];exact uj (by omega),?_⟩;have nin:r∉(Li.take j).filter fun x=>decide (d9 J2 ds ds' Li x.1 x.2):=fun z=>kS Lnd hr (bD.1 z).1;rw[yy,FU nin];have S78:=S7.trans S8;refine⟨_,_,_,rfl,?_,?_,?_,(kt6.trans (ab.kt S78)).trans (A6 d8),fun b o e=>by rw[ag (ae e ld0)];exact S78 _ _ (S6 _ _ e)⟩
  ·rw[aa,take_snoc hr,nQ,show([r].filter fun x=>decide (d9 J2 ds ds' Li x.1 x.2))=[r] by simp[c]]
  ·rw[ag nrl];exact S78 _ _ r6
  ·rw[ag nkl];exact S78 _ _ k6
 ·rintro σ H6 ⟨x3,x4,x5,rfl,d6,r6,k6,kt6,S6⟩;rw[aj,Paired.length rows,aR]at d6;have eS':Li.filter (fun x=>decide (d9 J2 ds ds' Li x.1 x.2))=Ln:=by
   rw[eS];unfold outS;refine qp fun x _=>?_;exact decide_eq_decide.2 Iff.rfl
  rw[eS']at d6;refine⟨_,rfl,ld,_,rfl,d6,_,rfl,rd3,_,rfl,r6,rfl,_,rfl,?_⟩;rw[pV,pV];refine nK (P:=Ln.length=Li.length) (by simp;omega) (fun c=>?_) (fun c=>?_)
  ·refine⟨_,rfl,ld,_,rfl,d6,fun l us' hl' hus'=>?_⟩;have S7:ab H6 (upd H6 l (.lst (us'.map V.ref))):=ab.new hl';have rows':Paired (zb K H6) us' Ln:=Paired.mapP (kP (R:=fun u (kv:TK×V)=>jR K H6 kv.1 (.ref u)) (g:=fun r:bO=>(eP r,V.bl true)) hus') fun _ _ q=>zb.of q;rw[eS]at c;obtain⟨e1,e2⟩:=Et c;rw[e1]at eS;subst eS;exact k l us' Ln _ aa (Paired.mapP rows' fun _ _ q=>q.kt (ab.kt S7)) (fun x hx=>⟨(Lsub x hx).1,(Lsub x hx).2,e2 x hx⟩) gi (by omega) (S6.trans S7)
  ·refine⟨_,rfl,ld,_,_,_,_,rfl,d6,?_,S6⟩;have:=FZ (J2:=J2) (ds:=ds) (ds':=ds') (L:=Li);rw[<-eS]at this;omega
inductive lV(K:Za)(vs:List V)(H:Hp)(Q:VK)(E:XK):Prop
 |mk (x:V):(vs=[x,x])->((∃b,x=.bl b)∨∃s,x=.str s)->(Q (.bl true) H)->lV K vs H Q E
theorem FB{K:Za}(h:lV K vs H Q E):Bk K sp (bJ Q) (start Cz vs) H:=by
 obtain⟨x,rfl,⟨b,rfl⟩|⟨s,rfl⟩,k⟩:=h
 ·refine⟨_,rfl,_,rfl,?_⟩;rw[zzr0 nofun];refine bR ⟨_,rfl,_,rfl,_,rfl,?_⟩;cases b with
  |true =>
   rw[zzr1 rfl];refine cR ⟨_,rfl,_,rfl,?_⟩;rw[zzr1 rfl];exact k
  |false =>
   rw[zzr0 nofun];refine bR ⟨_,rfl,_,rfl,_,rfl,?_⟩;rw[zzr1 rfl];refine cR ⟨_,rfl,_,rfl,?_⟩;rw[zzr1 rfl];exact k
 ·refine⟨_,rfl,_,rfl,?_⟩;rw[zzr0 nofun];refine bR ⟨_,rfl,_,rfl,_,rfl,?_⟩;rw[zzr0 nofun];refine bR ⟨_,rfl,_,rfl,_,rfl,?_⟩;rw[zzr0 nofun];refine bR ⟨_,rfl,.str s,"int",_,false,rfl,.inl (lF.str s),rfl,_,rfl,bR ?_⟩;refine⟨_,rfl,.str s,"str",_,true,rfl,.inl (lF.str s),rfl,_,rfl,cR ?_⟩;refine⟨_,rfl,.str s,"str",_,true,rfl,.inl (lF.str s),rfl,_,rfl,cR ?_⟩;refine⟨_,rfl,_,rfl,gW s,gW s,js s,js s,(by show 0<=8;decide),(by show 0<=8;decide),?_⟩;rw[zzr1 rfl];exact k
theorem GF(h:kg a=kg b):a=b:=by
 unfold kg at h;injection h with h;injection h with h1 h2;injection h2 with h2 _;have e1:a.1=b.1:=of_decide_eq_true ((yM a.1 b.1).symm.trans (zzr1 h1));have e2:a.2=b.2:=of_decide_eq_true ((eF a.2 b.2).symm.trans (zzr1 h2));exact Prod.ext e1 e2
theorem mq{L:List bO}:kg x∈L.map kg↔x∈L:=by
 rw[aw];exact⟨fun⟨y,h,e⟩=>by rw[<-GF e];exact h,fun h=>⟨x,h,rfl⟩⟩
theorem AJ(x:bO):(kg x).depth<=8:=by
 show max 0 (max (jr x.2).depth 0)+1<=8;rw[bA]
 decide
theorem zb.dIn{K:Za}(h:zb K H u r):mJ K H (kg r) (.ref u):=by
 obtain⟨ft,h1,h2⟩:=h;unfold kg mJ;refine⟨_,_,rfl,aS.sq h1,?_⟩;unfold DIns;refine⟨_,_,rfl,js _,?_⟩;unfold DIns;refine⟨_,_,rfl,aW (aS.sq h2),?_⟩;unfold DIns
 rfl
theorem uU{K:Za}:∀{us:Ze}{L:List bO},Paired (zb K H) us L->DIns K H (L.map kg) (us.map V.ref)
 |_,_,.nil=>by show DIns K H [] [];unfold DIns;rfl
 |_,_,.cons r t=>by
  rw[bI,bI];unfold DIns;exact⟨_,_,rfl,r.dIn,uU t⟩
abbrev IH(K:Za):TS:=(bc (aI (j5 K) (c6 1 [6] (bT K (aI (lD K) V8 (tC (.int 1)))) U0 (aQ (aI (kM K true) V0 V1)) V0) (dA (bh))))
abbrev JL(K:Za)(sp_is_keeping sp_law_same:Sp):TS :=
 (ap (bS (tZ (tB (aM sp_law_same (aO (aM sp_is_keeping (dW V4 V5 (dB (da K) (ay V6)))) (aI (kM K false) V7 V6))))) (bc (tC (.bl false))) (bg))
 (ap (bS (aQ (aI (kM K true) V7 V6)) (bc (aI BJ (aM sp_is_keeping (dW V4 V5 (aI sA (dA (ay V7)) V6))) (tC (.bl false)))) (bg))
 (IH K)))
inductive sp_law28(K:Za)(vs:List V)(H:Hp)(Q:VK)(E:XK):Prop
 |mk (a:Addr) (ns:List Int):(vs=[.ref a])->(az K H a (ns.map V.int))->(ns.length<=63)->(∀H',Q (.bl true) H')->sp_law28 K vs H Q E
theorem FK{K:Za}(h:sp_law28 K vs H Q E):Hh K (ic K C) (lV K) (j4 K C) zY (sI K) (kL C) sH pD (sG K) (bJ Q) (start DM vs) H:=by
 obtain⟨a,ns,rfl,hs,hn,k⟩:=h;refine⟨_,rfl,a,ns,rfl,hs,hn,fun p c H1 _ hp1 S1=>?_⟩;refine⟨_,rfl,p,c,3,0,rfl,hp1,by decide,by decide,by decide,by decide,fun t l1 l2 l3 l4 ts J0 J1 J2 ds H2 T m zr zd hp2 ex2=>?_⟩;have zr:J2.length<=3:=zr;refine⟨_,rfl,_,rfl,p,c,t,l1,l2,l3,l4,ts,J0,J1,J2,ds,3,rfl,hp2,T,m,by omega,by omega,by omega,fun t' l3' l4' ts' rooms' ds' H3 T' m' tk len _ hp3 ex3=>?_⟩;have T3:=T.ex hp2 ex3;refine⟨_,rfl,t,l1,l2,l3,l4,ts,J0,J1,J2,ds,rfl,T3,m,fun x H4 M4 S4=>?_⟩;refine⟨_,rfl,t',l1,l2,l3',l4',ts',J0,J1,rooms',ds',rfl,T'.same S4,m',fun y H5 N5 S5=>?_⟩;have S35:=S4.trans S5;have T5:=T3.same S35;have T5':=T'.same S35;refine⟨_,rfl,_,rfl,t,t',l1,l2,l3,l4,l3',l4',ts,ts',J0,J1,J2,rooms',ds,ds',rfl,T5,m,T5',m',by omega,by omega,fun l us L H6 hl hus good great zL S6=>?_⟩;have T6:=T5.same S6;have T6':=T5'.same S6;obtain⟨r0,hr0⟩:∃r0,rooms'[0]?=some r0:=by
  cases e:rooms' with
  |nil=>exact absurd e m'.rooms0
  |cons a _=>exact⟨a,rfl⟩
 have zf:∀r∈L,r.2.length<=1000:=fun r hr=>bC (AG (good r hr).2.1) (by omega);refine⟨_,rfl,t',_,2,_,rfl,rfl,br.of T6'.t,rfl,l3',_,0,.str r0,rfl,rfl,az.of T6'.a3,bH (j:=0) (by rw[bQ,hr0];rfl),_,rfl,_,rfl,t,_,2,_,rfl,rfl,br.of T6.t,rfl,_,rfl,l3,_,rfl,az.of T6.a3,fun g hg=>?_⟩;have S7:ab H6 (upd H6 g (.lst (fV (J2.map V.str) none (some 1)))):=ab.new hg;have g7:upd H6 g (.lst (fV (J2.map V.str) none (some 1))) g=some (.lst ((J2.take 1).map V.str)):=by rw[aa,show(some (1:Int))=some ((1:Nat):Int)from rfl,p9]
 generalize upd H6 g (.lst (fV (J2.map V.str) none (some 1)))=H7 at S7 g7 ⊢;refine⟨t,g,l1,l2,l3,l4,ts,J0,J1,J2,J2.take 1,ds,rfl,T6.same S7,m,g7,by rw[aG];omega,fun t1 H8 ht1 S8=>?_⟩;refine⟨(by show 2<=ai;decide),fun fp hfp=>?_⟩;have S9:ab H6 (upd H8 fp (.tup [.str r0,.ref t1])):=(S7.trans S8).trans (ab.new hfp);have f9:rE (upd H8 fp (.tup [.str r0,.ref t1])) fp (r0,closF J2 ds (J2.take 1)):=⟨t1,aa,kp ht1 hfp⟩;generalize upd H8 fp (.tup [.str r0,.ref t1])=H9 at S9 f9 ⊢;have zf0:((r0,closF J2 ds (J2.take 1)):bO).2.length<=1000:=bC (c8 _ _) (by omega);have okL:dI J2 rooms' ds ds' L↔(r0,closF J2 ds (J2.take 1))∈L:=⟨fun⟨_,r1,h1,h2⟩=>by rw[hr0]at h1;cases h1;exact h2,fun h=>⟨good,r0,hr0,h⟩⟩;have okF:dI J2 rooms' ds ds' ((r0,closF J2 ds (J2.take 1))::L)->(r0,closF J2 ds (J2.take 1))∈L:=fun h=>great _ h.1 _ dU;have okM:∀M,dI J2 rooms' ds ds' M->(r0,closF J2 ds (J2.take 1))∈L:=fun M h=>by
  obtain⟨h0,r1,h1,h2⟩:=h;rw[hr0]at h1;cases h1;exact great M h0 _ h2
 generalize(r0,closF J2 ds (J2.take 1))=fx at f9 zf0 okL okF okM;have S59:=S6.trans S9;have inl:∀{H':Hp}(neg:Bool) {Qq:VK},ab H9 H'->Qq (.bl (if neg then !decide (kg fx∈L.map kg)else decide (kg fx∈L.map kg))) H'->kM K neg (.ref fp) (.ref l) H' Qq:=fun neg Qq S q =>
  ⟨kg fx,L.map kg,l,_,(f9.kt (ab.kt S)).c.dIn,rfl,.inl (az.of ((S9.trans S) _ _ hl)),uU (Paired.mapP hus fun _ _ r=>r.kt (ab.kt (S9.trans S))),AJ _,bC (wO L) (by decide),q⟩
 have seven:∀(H10:Hp) (fo:Addr),ab H9 H10->(fx∈L->∀H',ab H10 H'->IH K (bJ Q) [some (.ref a),some (.ref p),some (.ref t),some (.ref t'),some (.ref x),some (.ref y),some (.ref l),some (.ref fp),some (.ref fo)] H')->JL K (ic K C) (lV K) (bJ Q) [some (.ref a),some (.ref p),some (.ref t),some (.ref t'),some (.ref x),some (.ref y),some (.ref l),some (.ref fp),some (.ref fo)] H10:=by
  intro H10 fo S10 kA;have l10:=(S9.trans S10) _ _ hl;refine⟨_,rfl,_,rfl,_,rfl,.inl ⟨l,_,rfl,.inl (az.of l10),fun cl hcl=>?_⟩⟩;have S11:ab H10 (upd H10 cl (.lst (us.map V.ref))):=ab.new hcl;have c11:upd H10 cl (.lst (us.map V.ref)) cl=some (.lst (us.map V.ref)):=aa;generalize upd H10 cl (.lst (us.map V.ref))=H11 at S11 c11 ⊢;have SA:=S10.trans S11;refine⟨x,y,cl,us,L,J0,J1,J2,rooms',ds,ds',rfl,(M4.same S5).same (S59.trans SA),N5.same (S59.trans SA),tk,c11,Paired.mapP hus fun _ _ r=>r.kt (ab.kt (S9.trans SA)),by omega,zf,fun b H12 hb S12=>?_⟩;have SB:=SA.trans S12;have eb:b=decide (kg fx∈L.map kg):=rK.2 (by rw[hb,okL,decide_eq_true_iff,mq]);refine⟨_,rfl,_,rfl,inl false SB ⟨.bl b,by rw[if_neg fO,<-eb];rfl,.inl ⟨b,rfl⟩,_,rfl,?_⟩⟩;refine bR ?_;refine⟨_,rfl,_,rfl,inl true SB ⟨_,rfl,?_⟩⟩;rw[if_pos rfl];refine nK (P:=fx∉L) (by rw[Bool.not_eq_true',decide_eq_false_iff_not,mq]) (fun c=>?_) (fun c=>kA (kr.1 c) H12 (S11.trans S12));refine⟨_,rfl,_,rfl,_,rfl,(by show 1<=ai;decide),fun q1 hq1=>?_⟩;have S13:ab H12 (upd H12 q1 (.lst [.ref fp])):=ab.new hq1;have c13:upd H12 q1 (.lst [.ref fp]) q1=some (.lst [.ref fp]):=aa;generalize upd H12 q1 (.lst [.ref fp])=H13 at S13 c13 ⊢;have SC:=SB.trans S13;refine⟨_,rfl,q1,l,_,_,rfl,rfl,c13,(S9.trans SC) _ _ hl,by rw[aj,Paired.length hus];show 1+_<=_;exact fb (uj (by omega)),fun q2 hq2=>?_⟩;have S14:ab H13 (upd H13 q2 (.lst ([.ref fp]++us.map V.ref))):=ab.new hq2;have c14:upd H13 q2 (.lst ([.ref fp]++us.map V.ref)) q2=some (.lst ((fp::us).map V.ref)):=aa;generalize upd H13 q2 (.lst ([.ref fp]++us.map V.ref))=H14 at S14 c14 ⊢;have SD:=SC.trans S14;refine⟨x,y,q2,fp::us,fx::L,J0,J1,J2,rooms',ds,ds',rfl,(M4.same S5).same (S59.trans SD),N5.same (S59.trans SD),tk,c14,.cons (f9.kt (ab.kt SD)).c (Paired.mapP hus fun _ _ r=>r.kt (ab.kt (S9.trans SD))),by rw[dS];omega,fun r hr=>(cH.1 hr).elim (fun e=>by rw[e];exact zf0) (zf r),fun b2 H15 hb2 S15=>⟨false,rfl,?_⟩⟩;have e2:b2=false:=Bool.eq_false_iff.2 fun z=>c (okF (hb2.1 z));rw[e2,zzr1 rfl];exact k _
 refine⟨_,rfl,_,rfl,ED ((M4.same S5).same S59) (N5.same S59) tk (by omega) (by omega) (fun u l' ps Lp H10 hu hl' hps okP zLp zfp l0 S10=>?_) (fun s g no u l' b gs H10 hu hl' hg hb l0 S10=>?_)⟩
 ·have fin:fx∈L:=okM Lp okP;refine⟨_,rfl,.ref u,"tuple",_,true,rfl,.inl (lF.tup hu),rfl,_,rfl,bR ?_⟩;refine⟨_,rfl,u,_,0,_,rfl,rfl,br.of hu,bH (j:=0) rfl,(by show 2<=ai;decide),fun q hq=>?_⟩;have S11:ab H10 (upd H10 q (.lst [.str "fault",.str "keeps"])):=ab.new hq;have q11:upd H10 q (.lst [.str "fault",.str "keeps"]) q=some (.lst [.str "fault",.str "keeps"]):=aa;generalize upd H10 q (.lst [.str "fault",.str "keeps"])=H11 at S11 q11 ⊢;refine⟨_,rfl,_,rfl,inl false (S10.trans S11) (.inr ⟨_,rfl,?_⟩)⟩;rw[if_neg fO,zzr1 (mq.2 fin)];refine⟨q,_,1,_,rfl,rfl,az.of q11,bH (j:=1) rfl,⟨_,rfl,.inr ⟨_,rfl⟩,_,rfl,?_⟩⟩;have S12:ab H11 H11:=ab.refl _;refine bR (seven H11 u ((S10.trans S11).trans S12) fun _ H13 S13=>?_);have SE:=(S11.trans S12).trans S13;have hu13:=SE _ _ hu;have l13:=SE _ _ hl';refine⟨_,rfl,u,_,1,_,rfl,rfl,br.of hu13,bH (j:=1) rfl,l',rfl,⟨_,az.of l13⟩,fun cl hcl=>?_⟩;refine bZ (xs:=ps.map V.ref) (fun j vs H'=>vs=[]/\ab H13 H'/\H' cl=some (.lst vs)) ⟨rfl,ab.new hcl,aa⟩ (fun j vs H' _ ⟨_,S,h'⟩=>⟨h',az.of (S _ _ l13)⟩) ?_ ?_
  ·rintro vs H14 ⟨rfl,S14,c14⟩;refine⟨(by show 0<=ai;decide),fun e he=>⟨.s [],.s [],?_,?_,(by show 1<=8;decide),(by show 1<=8;decide),?_⟩⟩
   ·unfold mJ;exact⟨cl,_,rfl,az.of (kp c14 he),by unfold DIns;rfl⟩
   ·unfold mJ;exact⟨e,_,rfl,az.of aa,by unfold DIns;rfl⟩
   ·rw[zzr1 rfl];exact k _
  ·rintro j vs H' v hv hj ⟨rfl,S,h'⟩;obtain⟨w,hw,rfl⟩:=cj hv;obtain⟨r,hr,hat⟩:=Paired.getL hps hw;have SF:=SE.trans S;have SG:=S10.trans SF;refine gN ?_;refine⟨_,rfl,_,rfl,kg r,L.map kg,l,_,(hat.kt (ab.kt SF)).c.dIn,rfl,.inl (az.of ((S9.trans SG) _ _ hl)),uU (Paired.mapP hus fun _ _ r=>r.kt (ab.kt (S9.trans SG))),AJ _,bC (wO L) (by decide),_,rfl,?_⟩;rw[if_pos rfl,zzr1 (mq.2 (great Lp okP.1 r (aZ hr)))];exact bR (nA hj ⟨rfl,S,h'⟩)
 ·have nin:fx∉L:=fun h=>no L (okL.2 h);refine⟨_,rfl,.ref u,"tuple",_,true,rfl,.inl (lF.tup hu),rfl,_,rfl,bR ?_⟩;refine⟨_,rfl,u,_,0,_,rfl,rfl,br.of hu,bH (j:=0) rfl,(by show 2<=ai;decide),fun q hq=>?_⟩;have S11:ab H10 (upd H10 q (.lst [.str "fault",.str "keeps"])):=ab.new hq;have q11:upd H10 q (.lst [.str "fault",.str "keeps"]) q=some (.lst [.str "fault",.str "keeps"]):=aa;generalize upd H10 q (.lst [.str "fault",.str "keeps"])=H11 at S11 q11 ⊢;refine⟨_,rfl,_,rfl,inl false (S10.trans S11) (.inr ⟨_,rfl,?_⟩)⟩;rw[if_neg fO,zzr0 (fun z=>nin (mq.1 z))];refine⟨q,_,0,_,rfl,rfl,az.of q11,bH (j:=0) rfl,⟨_,rfl,.inr ⟨_,rfl⟩,_,rfl,?_⟩⟩;have S12:ab H11 H11:=ab.refl _;exact bR (seven H11 u ((S10.trans S11).trans S12) fun h=>absurd h nin)
def fT(i:Nat):Stmt:=PySem.Challenge.pw_mumtrial_k28_whole_never_both.main.body.getD i (.Pass ⟨0,0,0,0⟩)
local macro_rules | `(tactic| walk_at "s")=>`(tactic| exact⟨rfl,rfl,rfl,by decide +kernel,rfl,by decide +kernel,by decide +kernel⟩)
local macro_rules | `(tactic| walk_at "l")=>`(tactic| (intro _ _ _ _ h;first|exact len_h h|exact len_g h|(cases h;subst_vars;rfl)|(obtain⟨_,_,h,_⟩:=h;subst h;rfl)|((repeat obtain⟨_,h⟩:=h);subst_vars;rfl)))
theorem zzlS{us:List Value}{n:Nat}(h:us.length=n+1):∃ a t,us=a::t∧t.length=n:=by
  cases us with
  |nil=>cases h
  |cons a t=>exact⟨a,t,rfl,Nat.succ.inj h⟩
local macro_rules | `(tactic| walk_at "b")=>`(tactic| (intro _ _ _ _ _ _ us hl;(repeat (have h:=zzlS hl;clear hl;obtain⟨_,_,e,hl⟩:=h;subst e));cases List.eq_nil_of_length_eq_zero hl;rfl))
def Kg(K:Za)(x qual:Str)(st:Stmt)(f:Addr):Prop:=∃(oc:Value) (od an:Option Addr) (sl:Array (Option Value)) (kV dc pm cd ct:Value),
 K.lookup f=some ⟨oc,od,.func (iW x qual (iD st) (gE st) (cp st) .none kV dc pm an cd ct),sl⟩/\n5 K cd qual=true/\iP K (.ref f)=true
theorem GH{K:Za}{x qual:Str}{st:Stmt}{f:Addr}{oc:Value}{od an:Option Addr}{sl:Array (Option Value)}{kV dc pm cd ct:Value}(l:K.lookup f=some ⟨oc,od,.func (iW x qual (iD st) (gE st) (cp st) .none kV dc pm an cd ct),sl⟩)
  (c:n5 K cd qual=true) (k:iP K (.ref f)=true):Kg K x qual st f:=⟨oc,od,an,sl,kV,dc,pm,cd,ct,l,c,k⟩
def ik(K:Za)(x:Str)(st:Stmt):Prop:=∃f,cD K b_ x=some (some (.ref f))/\Kg K x x st f
theorem fnG_mk{K:Za}{x:Str}{st:Stmt}{f:Addr}{oc:Value}{od an:Option Addr}{sl:Array (Option Value)}{kV dc pm cd ct:Value}(a:cD K b_ x=some (some (.ref f)))(l:K.lookup f=some ⟨oc,od,.func (iW x x (iD st) (gE st) (cp st) .none kV dc pm an cd ct),sl⟩)
  (c:n5 K cd x=true) (k:iP K (.ref f)=true):ik K x st:=⟨f,a,GH l c k⟩
def DO(K:Za)(C:Addr)(m qual:Str)(st:Stmt):Prop:=∃f,dL K (.ref C) m=some (some (.ref f))/\zh K (.ref f)=true/\Kg K m qual st f
theorem fnM_mk{K:Za}{C:Addr}{m qual:Str}{st:Stmt}{f:Addr}{oc:Value}{od an:Option Addr}{sl:Array (Option Value)}{kV dc pm cd ct:Value}(a:dL K (.ref C) m=some (some (.ref f)))(i:zh K (.ref f)=true)
  (l:K.lookup f=some ⟨oc,od,.func (iW m qual (iD st) (gE st) (cp st) .none kV dc pm an cd ct),sl⟩) (c:n5 K cd qual=true) (k:iP K (.ref f)=true):DO K C m qual st:=⟨f,a,i,GH l c k⟩
theorem Kg.fun_{K:Za}{x qual:Str}{st:Stmt}{f:Addr}(T:Kg K x qual st f):∃fd,JJ K x qual st f fd:=by
 obtain⟨oc,od,an,sl,kV,dc,pm,cd,ct,l,c,k⟩:=T;exact⟨_,GB (st:=st) l c k⟩
def JN:Sp:=fun _ _ _ _=>False
theorem JU{P:cg}{w:World}{K:Za}{mg:Str->Option Value}{base:Heap}{k:Nat}{f:Addr}{fd:lh}{ps:Zb}:mG P w K mg base CX0 k f fd ps JN:=⟨fun _ _ _ _ h=>h.elim,fun _ _ _ _ _ _ _ _ _ _ _ _ _ h=>h.elim⟩
def Jx(K:Za)(a:Addr)(ws:Zb):Prop:=∀H,br K H a (ws.map V.str)
theorem C1{K:Za}{a:Addr}{ws:Zb}{o:Obj}{its:Array Value}{n:Nat}(l:K.lookup a=some o)(c:o.cls=.type "tuple")(d:o.data=.seq its n)(z:its.size<=ai)(v:bf (ws.map V.str) its.toList):Jx K a ws :=
 fun _=>.inr ⟨o,its,n,l,c,d,z,v⟩
section
variable{P:cg}{w:World}{K:Za}{mg:Str->Option Value}{base h:Heap}{C:Addr}{x qual:Str}{st:Stmt}{N ps:Zb}{k:Nat}{sp:Sp}
abbrev G1(ps:Zb)(sp:Sp):Prop:=∀vs H Q E,sp vs H Q E->vs.length=ps.length
abbrev BodyOk(CX:Fh)(P:cg)(w:World)(K:Za)(mg:Str->Option Value)(base:Heap)(qual:Str)(st:Stmt)(N:Zb)(k:Nat)(sp:Sp)(nox:Cx->Cx):Prop:=N.Nodup->∀(f:Addr) (cdv:Value) (A:Around) (outer:List Env) (s:Shared) (H:Hp) (vs:List V) (Q:VK) (E:XK),eZ k (A.deeper (envOfC qual (cp st) s.heap.objs.size f cdv))->(A.deeper (envOfC qual (cp st) s.heap.objs.size f cdv)).units+16<cLine->sp vs H Q E ->
 ∃t,A_ (nox (Ch CX P w K mg base N qual (cp st) f cdv A outer s H E)) (gE st) t/\t (bJ Q) (start N vs) H
abbrev CJ(x qual:Str)(st:Stmt)(ps:Zb):Prop:=∀(kV doc pm:Value) (an:Option Addr) (cdv ct:Value) (us:Zf),us.length=ps.length->bindArgs (iW x qual (iD st) (gE st) (cp st) .none kV doc pm an cdv ct) ⟨us,[]⟩=pure (ps.zip us)
theorem dG(X:K.In h)(G:h.Ns b_ mg)(T:ik K x st)(b:BodyOk CX0 P w K mg base x st N k sp Cx.nox)(bi:CJ x x st ps)(S:k4 N ps (cp st):=by walk_at "s")(l:G1 ps sp:=by walk_at "l"):Def P w K mg base x ps (k+1) sp:=by
 obtain⟨f,a,t⟩:=T;obtain⟨fd,F⟩:=t.fun_;exact⟨f,fd,F.ok S l fun cdv A outer s H vs Q E hr h=>b S.nd f cdv A outer s H vs Q E hr (Dv hr) h,gU X G a,F.kp,F.binds bi⟩
theorem dM(cl:DP K C)(T:DO K C x qual st)(b:BodyOk CX0 P w K mg base qual st N k sp Cx.nox)(bi:CJ x qual st ps)(S:k4 N ps (cp st):=by walk_at "s")(l:G1 ps sp:=by walk_at "l"):DN P w K mg base C x ps (k+1) sp:=by
 obtain⟨f,a,i,t⟩:=T;obtain⟨fd,F⟩:=t.fun_;exact⟨f,fd,F.ok S l fun cdv A outer s H vs Q E hr h=>b S.nd f cdv A outer s H vs Q E hr (Dv hr) h,cl,⟨a,i,F.kp⟩,F.binds bi⟩
theorem dN{y:Str}(cm:mg y=some (.ref C))(mk:sT K C=true)(kc:iP K (.ref C)=true)(T:DO K C "__init__" qual st)(b:BodyOk CX0 P w K mg base qual st N k sp Cx.nox)(bi:CJ "__init__" qual st ps)(S:k4 N ps (cp st):=by walk_at "s")(l:G1 ps sp:=by walk_at "l"):Kx P w K mg base y C ps (k+1) sp:=by
 obtain⟨f,a,i,t⟩:=T;obtain⟨fd,F⟩:=t.fun_;exact⟨f,fd,F.ok S l fun cdv A outer s H vs Q E hr h=>b S.nd f cdv A outer s H vs Q E hr (Dv hr) h,cm,⟨mk,a,i,kc⟩,F.binds bi⟩
end
structure Zs(mg:Str->Option Value):Prop where
 all:mg "all"=none
 any:mg "any"=none
 bool:mg "bool"=none
 dict:mg "dict"=none
 enumerate:mg "enumerate"=none
 int:mg "int"=none
 isinstance:mg "isinstance"=none
 len:mg "len"=none
 list:mg "list"=none
 max:mg "max"=none
 range:mg "range"=none
 str:mg "str"=none
 tuple:mg "tuple"=none
 zip:mg "zip"=none
structure Cs(K:Za)(mg:Str->Option Value)(C Cf a_STILL a_HUSH:Addr):Prop where
 LETTERS:Gc mg "LETTERS" (.str "abcdefghijklmnopqrstuvwxyz")
 LONGEST_NAME:Gc mg "LONGEST_NAME" (.int 8)
 MOST_WORDS:Gc mg "MOST_WORDS" (.int 4)
 MOST_ROOMS:Gc mg "MOST_ROOMS" (.int 150)
 MOST_DOORS:Gc mg "MOST_DOORS" (.int 2000)
 MOST_FACES:Gc mg "MOST_FACES" (.int 400)
 STILL:Gc mg "STILL" (.ref a_STILL)
 HUSH:Gc mg "HUSH" (.ref a_HUSH)
 still:Jx K a_STILL ao
 hush:Jx K a_HUSH aV
 mc:MC K C
 cm:mg "Machine"=some (.ref C)
 makes:sT K C=true
 kc:iP K (.ref C)=true
 fc:FC K Cf
 cmf:mg "FaceMap"=some (.ref Cf)
 makesf:sT K Cf=true
 kcf:iP K (.ref Cf)=true
structure Ts(K:Za)(C Cf:Addr):Prop where
 f_law_spread:ik K "_law_spread" (fT 49)
 f_law_open:ik K "_law_open" (fT 50)
 f_law_anew:ik K "_law_anew" (fT 51)
 f_law_take:ik K "_law_take" (fT 52)
 f_law_names:ik K "_law_names" (fT 53)
 f_law_put:ik K "_law_put" (fT 54)
 f_law_draw_doors:ik K "_law_draw_doors" (fT 55)
 f_law_model:ik K "_law_model" (fT 56)
 f_is_name:ik K "is_name" (fT 23)
 f_as_keys:ik K "as_keys" (fT 24)
 f_first_wrong_name:ik K "first_wrong_name" (fT 25)
 f_door_signs:ik K "door_signs" (fT 26)
 f_first_wrong_door:ik K "first_wrong_door" (fT 27)
 f_goals_by_start_and_sign:ik K "goals_by_start_and_sign" (fT 28)
 f_led_by_still:ik K "led_by_still" (fT 29)
 f_first_led_round:ik K "first_led_round" (fT 30)
 f_need_none:ik K "need_none" (fT 31)
 f_need_parts:ik K "need_parts" (fT 32)
 f_doors_by_start:ik K "doors_by_start" (fT 33)
 f_has_asks_alone:ik K "has_asks_alone" (fT 34)
 f_Machine___init__:DO K C "__init__" "Machine.__init__" (gC (fT 35) 0)
 f_law_machine:ik K "_law_machine" (fT 62)
 f_Machine_rooms:DO K C "rooms" "Machine.rooms" (gC (fT 35) 3)
 f_Machine_led_from:DO K C "led_from" "Machine.led_from" (gC (fT 35) 8)
 f_with_still:ik K "with_still" (fT 9)
 f_Machine_goals:DO K C "goals" "Machine.goals" (gC (fT 35) 7)
 f_Machine_is_quiet:DO K C "is_quiet" "Machine.is_quiet" (gC (fT 35) 5)
 f_law_still_on:ik K "_law_still_on" (fT 57)
 f_law_on:ik K "_law_on" (fT 64)
 f_law_is_quiet:ik K "_law_is_quiet" (fT 65)
 f_law_behind:ik K "_law_behind" (fT 66)
 f_law_same:ik K "_law_same" (fT 63)
 f_Machine_asks:DO K C "asks" "Machine.asks" (gC (fT 35) 1)
 f_Machine_says:DO K C "says" "Machine.says" (gC (fT 35) 2)
 f_first_face:ik K "first_face" (fT 10)
 f_face_behind:ik K "face_behind" (fT 11)
 f_signs_in_order:ik K "signs_in_order" (fT 8)
 f_steps_at:ik K "steps_at" (fT 12)
 f_FaceMap_number_at:DO K Cf "number_at" "FaceMap.number_at" (gC (fT 15) 1)
 f_FaceMap_numbered_steps:DO K Cf "numbered_steps" "FaceMap.numbered_steps" (gC (fT 15) 2)
 f_FaceMap___init__:DO K Cf "__init__" "FaceMap.__init__" (gC (fT 15) 0)
 f_takes:ik K "takes" (fT 38)
 f_need_match:ik K "need_match" (fT 37)
 f_need_all_asks_taken:ik K "need_all_asks_taken" (fT 39)
 f_need_taker:ik K "need_taker" (fT 40)
 f_Machine_doors_from:DO K C "doors_from" "Machine.doors_from" (gC (fT 35) 6)
 f_story_to:ik K "story_to" (fT 41)
 f_least_fault:ik K "least_fault" (fT 42)
 f_rows_needed:ik K "rows_needed" (fT 43)
 f_paper_of:ik K "paper_of" (fT 44)
 f_keeps:ik K "keeps" (fT 45)
 f_law_willing:ik K "_law_willing" (fT 58)
 f_law_turned:ik K "_law_turned" (fT 59)
 f_law_renamed:ik K "_law_renamed" (fT 60)
 f_law_near:ik K "_law_near" (fT 61)
 f_is_full_face:ik K "is_full_face" (fT 46)
 f_is_keeping:ik K "is_keeping" (fT 47)
 f_law_row_stands:ik K "_law_row_stands" (fT 67)
 f_law_faces:ik K "_law_faces" (fT 68)
 f_law_left:ik K "_law_left" (fT 69)
 f_law28:ik K "law" (fT 70)
section
variable{P:cg}{w:World}{K:Za}{mg:Str->Option Value}{base h:Heap}{C Cf a_STILL a_HUSH:Addr}
section
variable(P:cg)(w:World)(K:Za)(mg:Str->Option Value)(C Cf a_STILL a_HUSH:Addr)
abbrev lb:Prop:=∀base,Def P w K mg base "_law_spread" ["cell","at"] 1 mP
abbrev vj:Prop:=∀base,Def P w K mg base "_law_open" ["script"] 1 (sG K)
abbrev lf:Prop:=∀base,Def P w K mg base "_law_anew" ["pen"] 1 sM
abbrev eg:Prop:=∀base,Def P w K mg base "_law_take" ["pen","many"] 2 fK
abbrev jy:Prop:=∀base,Def P w K mg base "_law_names" ["pen","many"] 3 lX
abbrev ko:Prop:=∀base,Def P w K mg base "_law_put" ["doors","door"] 1 kK
abbrev hE:Prop:=∀base,Def P w K mg base "_law_draw_doors" ["pen","asks","says","rooms","full"] 3 hW
abbrev r_:Prop:=∀base,Def P w K mg base "_law_model" ["pen","most","full"] 4 pD
abbrev rF:Prop:=∀base,Def P w K mg base "is_name" ["text"] 1 sp_is_name
abbrev i_:Prop:=∀base,Def P w K mg base "as_keys" ["things"] 1 (ui K)
abbrev o6:Prop:=∀base,Def P w K mg base "as_keys" ["things"] 1 (uh K)
abbrev kq:Prop:=∀base,Def P w K mg base "as_keys" ["things"] 1 (sp_as_keys K)
abbrev fW:Prop:=∀base,Def P w K mg base "first_wrong_name" ["names","most","taken"] 2 (sp_first_wrong_name K)
abbrev lg:Prop:=∀base,Def P w K mg base "door_signs" ["asks","says"] 1 (sp_door_signs K)
abbrev fX:Prop:=∀base,Def P w K mg base "first_wrong_door" ["doors","rooms","signs"] 2 (sp_first_wrong_door K)
abbrev dg:Prop:=∀base,Def P w K mg base "goals_by_start_and_sign" ["doors"] 1 pE
abbrev i8:Prop:=∀base,Def P w K mg base "led_by_still" ["goals","room"] 1 yg
abbrev gK:Prop:=∀base,Def P w K mg base "first_led_round" ["rooms","led"] 1 sp_first_led_round
abbrev jx:Prop:=∀base,Def P w K mg base "need_none" ["part","number"] 1 sp_need_none
abbrev k7:Prop:=∀base,Def P w K mg base "need_parts" ["asks","says","rooms","doors"] 3 sp_need_parts
abbrev hU:Prop:=∀base,Def P w K mg base "doors_by_start" ["rooms","doors"] 1 sp_doors_by_start
abbrev hJ:Prop:=∀base,Def P w K mg base "has_asks_alone" ["doors"] 1 sp_has_asks_alone
abbrev rG:Prop:=∀base,Kx P w K mg base "Machine" C ["self","asks","says","rooms","doors"] 4 (sJ C)
abbrev nN:Prop:=∀base,Def P w K mg base "_law_machine" ["told"] 6 (kL C)
abbrev cx:Prop:=∀base,DN P w K mg base C "rooms" ["self"] 1 (gl C)
abbrev em:Prop:=∀base,DN P w K mg base C "led_from" ["self","room"] 1 (ib C)
abbrev iG:Prop:=∀base,Def P w K mg base "with_still" ["M","rooms"] 2 (sp_with_still C)
abbrev fN:Prop:=∀base,DN P w K mg base C "goals" ["self","room","sign"] 1 (iK C)
abbrev eo:Prop:=∀base,DN P w K mg base C "is_quiet" ["self","room"] 1 (ie C)
abbrev eQ:Prop:=∀base,Def P w K mg base "_law_still_on" ["doors","rooms"] 1 (eK K)
abbrev vk:Prop:=∀base,Def P w K mg base "_law_on" ["told","some"] 2 zY
abbrev gJ:Prop:=∀base,Def P w K mg base "_law_is_quiet" ["told","room"] 1 j3
abbrev lc:Prop:=∀base,Def P w K mg base "_law_behind" ["told","face","sign"] 3 (sL K)
abbrev vi:Prop:=∀base,Def P w K mg base "_law_same" ["found","due"] 1 (lV K)
abbrev eT:Prop:=∀base,DN P w K mg base C "asks" ["self"] 1 (mS C)
abbrev gL:Prop:=∀base,DN P w K mg base C "says" ["self"] 1 (pA C)
abbrev iI:Prop:=∀base,Def P w K mg base "first_face" ["M"] 3 (cA C)
abbrev jQ:Prop:=∀base,Def P w K mg base "face_behind" ["M","face","sign"] 3 (pG K C)
abbrev g_:Prop:=∀base,Def P w K mg base "signs_in_order" ["M"] 2 (yf C a_HUSH)
abbrev jw:Prop:=∀base,Def P w K mg base "steps_at" ["M","face"] 4 (ia K C)
abbrev o0:Prop:=∀base,Def P w K mg base "steps_at" ["M","face"] 4 (kJ C)
abbrev dJ:Prop:=∀base,DN P w K mg base Cf "number_at" ["self","face","story"] 1 (lW K Cf)
abbrev dD:Prop:=∀base,DN P w K mg base Cf "numbered_steps" ["self","number"] 5 (jk K Cf C)
abbrev rH:Prop:=∀base,Kx P w K mg base "FaceMap" Cf ["self","M"] 6 (mR K Cf C)
abbrev ze:Prop:=∀base,Def P w K mg base "takes" ["I","room","ask"] 2 (jZ C)
abbrev k9:Prop:=∀base,Def P w K mg base "need_match" ["M","I"] 2 (gm C)
abbrev eC:Prop:=∀base,Def P w K mg base "need_all_asks_taken" ["I"] 4 (iy C)
abbrev iH:Prop:=∀base,Def P w K mg base "need_taker" ["M","I"] 5 (eL C)
abbrev eR:Prop:=∀base,DN P w K mg base C "doors_from" ["self","room"] 1 (hZ C)
abbrev oZ:Prop:=∀base,Def P w K mg base "story_to" ["came","place"] 1 (fU K)
abbrev jN:Prop:=∀base,Def P w K mg base "least_fault" ["model_steps","machine_steps"] 2 (hV K)
abbrev gH:Prop:=∀base,Def P w K mg base "rows_needed" ["I","room","face","steps"] 2 (j1 K C)
abbrev jM:Prop:=∀base,Def P w K mg base "rows_needed" ["I","room","face","steps"] 2 (pB K C)
abbrev o5:Prop:=∀base,Def P w K mg base "paper_of" ["model","I"] 3 (mQ K Cf C)
abbrev DQ:Prop:=∀base,Def P w K mg base "keeps" ["M","I"] 8 (j4 K C)
abbrev jO:Prop:=∀base,Def P w K mg base "_law_willing" ["pen","told"] 3 kI
abbrev k_:Prop:=∀base,Def P w K mg base "_law_turned" ["pen","told"] 3 mO
abbrev jP:Prop:=∀base,Def P w K mg base "_law_renamed" ["pen","told"] 4 jj
abbrev vm:Prop:=∀base,Def P w K mg base "_law_near" ["pen","told","most"] 5 sH
abbrev i9:Prop:=∀base,Def P w K mg base "is_full_face" ["M","face"] 2 (sK K C)
abbrev qj:Prop:=∀base,Def P w K mg base "is_keeping" ["M","I","paper"] 6 (ic K C)
abbrev hC:Prop:=∀base,Def P w K mg base "_law_row_stands" ["told","some","rows","room","face"] 4 (pC K)
abbrev mK:Prop:=∀base,Def P w K mg base "_law_faces" ["rooms"] 1 (pF K)
abbrev vo:Prop:=∀base,Def P w K mg base "_law_left" ["told","some"] 5 (sI K)
end
section
variable(X:K.In h)(G:h.Ns b_ mg)(z:Zs mg)(c:Cs K mg C Cf a_STILL a_HUSH)(T:Ts K C Cf)
include X G z c T
theorem vG:lb P w K mg:=fun base=>dG X G T.f_law_spread (fun S _ _ _ _ _ _ _ _ _ hr hu h=>bK (Eh (K:=K) h) (ac (bo (ip JT (pv 0) (bb F_ ah ah)) (af (av (pv 0))) aH) (ac (qs 2 S (bb gZ (bb dC (bb dC (bb i0 (bb gZ (pv 0) ah) ah) (bb i0 (pv 1) ah)) ah) ah)) (ac (qs 3 S (bb gZ (bb dC (bb dC (bb i0 (pv 2) (pv 2)) (bb i0 (pv 1) ah)) (bb gZ (pv 0) ah)) ah)) (ac (qs 4 S (bb gZ (bb dC (bb dC (bb i0 (pv 3) (pv 3)) (bb i0 (pv 2) ah)) ah) ah)) (af (av (bb dC (bb i0 (bb dC (bb i0 (pv 2) ah) (pv 3)) ah) (pv 4))))))))) (by walk_at "b")
theorem zP:vj P w K mg:=fun base=>dG X G T.f_law_open (fun S _ _ _ _ _ _ _ _ _ hr hu h=>bK (Hw h) (ac (qs 1 S (qL rfl z.list (a1 (cQ fL (pv 0) fM (cU ah))))) (ac (bF be rfl (pO rfl z.enumerate (a1 (cQ fL (pv 0) (cU ah) (cU ah)))) (cP rfl (aq (gn 2 S) (aq (gn 3 S) ck))) (af (iZ (bb dC (xl (pv 1) (bb gZ (pv 2) ah)) (pv 3)) (ux (pv 1) (bb gZ (pv 2) ah) lZ)))) (af (av (bG (a3 (pv 1) ah ah))))))) (by walk_at "b")
theorem zT:lf P w K mg:=fun base=>dG X G T.f_law_anew (fun S _ _ _ _ _ _ _ _ _ hr hu h=>bK (HD (K:=K) h) (ac (iZ ah (ux (pv 0) ah lZ)) (af (av (pv 0))))) (by walk_at "b")
theorem zN(D_law_spread:lb P w K mg):eg P w K mg:=fun base=>dG X G T.f_law_take (fun S _ _ _ _ _ _ _ _ _ hr hu h=>bK (Hu h) (ac (bo (ip wx (xl (pv 0) ah) (pv 1)) (ac (qs 2 S (xl (pv 0) ah)) (ac (qs 3 S ah) (ac (bo (ip wx (pv 2) (ql z.len (a1 (xl (pv 0) ah)))) (af (qs 3 S (xl (xl (pv 0) ah) (pv 2)))) (af (bo (ip wz (ql z.len (a1 (xl (pv 0) ah))) ah) (af (qs 3 S (bb gZ (xl (xl (pv 0) ah) (bb gZ (bb dC (bb i0 (pv 2) ah) ah) (ql z.len (a1 (xl (pv 0) ah))))) (bb dC (bb F_ ah ah) (pv 2))))) aH))) (ac (iZ (bb dC (pv 2) ah) (ux (pv 0) ah lZ)) (af (iZ (qf hr (D_law_spread base) (a2 (pv 3) (pv 2))) (ux (pv 0) ah lZ))))))) aH) (ac (qs 4 S (bb gZ (xl (pv 0) ah) (pv 1))) (ac (iZ (bb Dl (xl (pv 0) ah) (pv 1)) (ux (pv 0) ah lZ)) (af (av (pv 4))))))) (by walk_at "b")
theorem x9(D_law_take:eg P w K mg):jy P w K mg:=fun base=>dG X G T.f_law_names (fun S _ _ _ _ _ _ _ _ _ hr hu h=>bK (FI h) (ac (qs 2 S bM) (ac (qs 3 S (gA PySem.F.plainAttrs_str PySem.F.slot_str_join PySem.F.type_str_join Ia bM (a1 (qc (iL rfl z.range (a1 ah)) (bu (by decide)) fun _ _ _ _ _ _=>⟨gc 0,dv,xs' (pv 1) (qf hr (D_law_take base) (a2 (pv 2) ah))⟩)))) (ac (qs 4 S (qf hr (D_law_take base) (a2 (pv 0) ah))) (ac (qs 5 S (qf hr (D_law_take base) (a2 (pv 0) ah))) (ac (qs 6 S (qf hr (D_law_take base) (a2 (pv 0) ah))) (ac (qs 7 S (bG cn)) (ac (bF be rfl (iL rfl z.range (a1 (pv 1))) (gn 8 S) (ac (qs 9 S (xs' (pv 2) (bb gZ (bb dC (pv 5) (bb i0 ah (pv 8))) ah))) (ac (qs 10 S (cQ Bx (pv 3) fM (cU (bb gZ (bb dC (pv 6) (bb i0 (pv 8) (bb gZ (pv 4) ah))) ah)))) (ac (qs 11 S (xl (bG (a3 ah (ql z.len (a1 (pv 10))) (bb Dl (ql z.len (a1 (pv 10))) ah))) (pv 4))) (af (aX (gA dO fQ fP cq (pv 7) (a1 (bb uF (bb uF (cQ Bx (pv 10) fM (cU (pv 11))) (pv 9)) (cQ Bx (pv 10) (cU (pv 11)) fM)))))))))) (af (av (pv 7))))))))))) (by walk_at "b")
theorem Br:ko P w K mg:=fun base=>dG X G T.f_law_put (fun S _ _ _ _ _ _ _ _ _ hr hu h=>bK (Jf h) (af (bo (Hf (iM hu) (pv 1) (pv 0)) (af (aX (gA dO fQ fP cq (pv 0) (a1 (pv 1))))) aH))) (by walk_at "b")
theorem pj(D_law_take:eg P w K mg)(D_law_put:ko P w K mg):hE P w K mg:=fun base=>dG X G T.f_law_draw_doors (fun S _ _ _ _ _ _ _ _ _ hr hu h=>bK (vS h) (ac (qs 5 S (bG cn)) (ac (qs 6 S (qf hr (D_law_take base) (a2 (pv 0) ah))) (ac (bF be rfl (pO rfl z.enumerate (a1 (pv 3))) (cP rfl (aq (gn 7 S) (aq (gn 8 S) ck))) (ac (bF be rfl (iL rfl z.range (a1 (xl (bG (b0 ah (a3 ah ah ah))) (qf hr (D_law_take base) (a2 (pv 0) ah))))) (gn 9 S) (ac (qs 10 S (aE (a2 bM (xl (pv 2) (qf hr (D_law_take base) (a2 (pv 0) (ql z.len (a1 (pv 2))))))))) (af (aX (qf hr (D_law_put base) (a2 (pv 5) (aE (a3 (pv 8) (pv 10) (xl (pv 3) (qf hr (D_law_take base) (a2 (pv 0) (ql z.len (a1 (pv 3)))))))))))))) (ac (bF be rfl (aT (pv 1)) (gn 11 S) (af (bF be rfl (iL rfl z.range (a1 (xl (bG (b0 (pv 4) (a3 ah ah ah))) (qf hr (D_law_take base) (a2 (pv 0) ah))))) (gn 9 S) (af (aX (qf hr (D_law_put base) (a2 (pv 5) (aE (a3 (pv 8) (aE (a2 bM (pv 11))) (xl (pv 3) (qf hr (D_law_take base) (a2 (pv 0) (ql z.len (a1 (pv 3))))))))))))))) (ac (qs 12 S (xl (bG (a2 (cQ fL (pv 3) (cU (bb dC (pv 7) ah)) fM) (cQ fL (pv 3) fM (cU (pv 7))))) (pv 6))) (af (bo (PW.pt (gu (ip (oC hu) (pv 12) (bG cn)) (gp (ip iw (qf hr (D_law_take base) (a2 (pv 0) ah)) ah)))) (af (aX (qf hr (D_law_put base) (a2 (pv 5) (aE (a3 (pv 8) (aE (a1 bM)) (xq (pv 12) (qf hr (D_law_take base) (a2 (pv 0) (ql z.len (a1 (pv 12)))))))))))) aH)))))) (af (av (pv 5))))))) (by walk_at "b")
theorem x_(D_law_anew:lf P w K mg)(D_law_take:eg P w K mg)(D_law_names:jy P w K mg)(D_law_draw_doors:hE P w K mg):r_ P w K mg:=fun base=>dG X G T.f_law_model (fun S _ _ _ _ _ _ _ _ _ hr hu h=>bK (FJ h) (ac (aX (qf hr (D_law_anew base) (a1 (pv 0)))) (ac (qs 3 S (qf hr (D_law_names base) (a2 (pv 0) ah))) (ac (qs 4 S (cQ fL (pv 3) fM (cU (bb dC ah (xl (bG (b0 ah (b0 ah (b0 ah (a3 ah ah ah))))) (qf hr (D_law_take base) (a2 (pv 0) ah))))))) (ac (qs 5 S (cQ fL (pv 3) (cU ah) (cU (bb dC ah (xl (bG (b0 ah (b0 ah (b0 ah (a3 ah ah ah))))) (qf hr (D_law_take base) (a2 (pv 0) ah))))))) (ac (qs 6 S (qf hr (D_law_names base) (a2 (pv 0) (bb dC ah (qf hr (D_law_take base) (a2 (pv 0) (pv 1))))))) (ac (qs 7 S (qf hr (D_law_draw_doors base) (b0 (pv 0) (b0 (pv 4) (a3 (pv 5) (pv 6) (pv 2)))))) (af (av (aE (b0 (pv 4) (a3 (pv 5) (pv 6) (pv 7))))))))))))) (by walk_at "b")
theorem Bs:rF P w K mg:=fun base=>dG X G T.f_is_name (fun S _ _ _ _ _ _ _ _ _ hr hu h=>bK (BG h) (af (av (oB (Dx uC (pv 0) bM) (oB (Dx JS (ql z.len (a1 (pv 0))) (j7 rfl c.LONGEST_NAME)) (uz (qB (mB rfl) z.all boot_all (a1 (qc (Jj (pv 0)) (bu (by decide)) fun _ _ _ _ _ _=>⟨gc 0,dv,eci BP (pv 0) (j7 rfl c.LETTERS)⟩))))))))) (by walk_at "b")
theorem zV:i_ P w K mg:=fun base=>dG X G T.f_as_keys (N:=wX) (fun S _ _ _ _ _ _ _ _ _ hr hu h=>by rcases h with h|h|h;(exact bK (BH h) (ac (qs 1 S j8) (ac (bF be rfl (aT (pv 0)) (gn 2 S) (af (h9 hu (pv 1) (pv 2) dF rfl))) (af (av (pv 1))))));(exact bK (Ad h) (ac (qs 1 S gy) (ac (bF be rfl (aT (pv 0)) (gn 2 S) (af (ig hu (pv 1) (pv 2) dF rfl))) (af (av (pv 1))))));(exact bK (Ac h) (ac (qs 1 S j8) (ac (bF be rfl (yn (pv 0)) (gn 2 S) (af (h9 hu (pv 1) (pv 2) dF rfl))) (af (av (pv 1))))))) (by walk_at "b") (l:=fun vs H Q E h=>by rcases h with h|h|h<;>(cases h;subst_vars;rfl))
theorem zU(D_as_keysC:i_ P w K mg):o6 P w K mg:=fun base=>Def.weak (D_as_keysC base) Ic
theorem Bt(D_as_keysC:i_ P w K mg):kq P w K mg:=fun base=>Def.weak (D_as_keysC base) (fun _ _ _ _ h=>.inl h)
theorem nq(D_is_name:rF P w K mg)(D_as_keys:kq P w K mg):fW P w K mg:=fun base=>dG X G T.f_first_wrong_name (fun S _ _ _ _ _ _ _ _ _ hr hu h=>bK (ny h) (ac (bo (ip iw (ql z.len (a1 (pv 0))) ah) (af (av ah)) aH) (ac (qs 3 S (qf hr (D_as_keys base) (a1 (pv 2)))) (ac (bF be rfl (pO rfl z.enumerate (a1 (pv 0))) (cP rfl (aq (gn 4 S) (aq (gn 5 S) ck))) (ac (bo (PW.pt (mf (ip iw (pv 4) (pv 1)) (mf (de (jG hu (pv 5) (pv 3))) (kO (mi (fy (qf hr (D_is_name base) (a1 (pv 5))))))))) (af (av (pv 4))) aH) (af (h9 hu (pv 3) (pv 5) dF rfl)))) (af (av uA)))))) (by walk_at "b")
theorem vK:lg P w K mg:=fun base=>dG X G T.f_door_signs (fun S _ _ _ _ _ _ _ _ _ hr hu h=>bK (vU c.still h) (af (av (bb jH (bb jH (qc (aT (pv 0)) (bu (by decide)) fun _ _ _ _ _ _=>⟨gc 0,dv,aE (a2 bM (pv 0))⟩) (qc (aT (pv 1)) (bu (by decide)) fun _ _ _ _ _ _=>⟨gc 0,dv,aE (a2 bM (pv 0))⟩)) (bG (a1 (j7 rfl c.STILL))))))) (by walk_at "b")
theorem nv(D_as_keys:kq P w K mg):fX P w K mg:=fun base=>dG X G T.f_first_wrong_door (fun S _ _ _ _ _ _ _ _ _ hr hu h=>bK (nz h) (ac (qs 3 S (qf hr (D_as_keys base) (a1 (pv 1)))) (ac (qs 4 S gy) (ac (bF be rfl (pO rfl z.enumerate (a1 (pv 0))) (cP rfl (aq (gn 5 S) (aq (gn 6 S) ck))) (ac (bo (PW.pt (mf (ip iw (pv 5) (j7 rfl c.MOST_DOORS)) (kO (de (jG hu (pv 6) (pv 4)))))) (af (av (pv 5))) aH) (ac (bo (PW.pt (mf (de (dh hu (xq (pv 6) ah) (pv 3))) (mf (Hf (iM hu) (xq (pv 6) ah) (pv 2)) (kO (de (dh hu (xq (pv 6) ah) (pv 3))))))) (af (av (pv 5))) aH) (af (h9 hu (pv 4) (pv 6) dF rfl))))) (af (av uA)))))) (by walk_at "b")
theorem iX:dg P w K mg:=fun base=>dG X G T.f_goals_by_start_and_sign (fun S _ _ _ _ _ _ _ _ _ hr hu h=>bK (iY h) (ac (qs 1 S gy) (ac (bF be rfl (aT (pv 0)) (cP rfl (aq (gn 2 S) (aq (gn 3 S) (aq (gn 4 S) ck)))) (af (aX (gA dO fQ fP cq (gA PySem.F.plainAttrs_dict PySem.F.slot_dict_setdefault PySem.F.type_dict_setdefault (Ew hu) (pv 1) (a2 (aE (a2 (pv 2) (pv 3))) (bG cn))) (a1 (pv 4)))))) (af (av (pv 1)))))) (by walk_at "b")
theorem so:i8 P w K mg:=fun base=>dG X G T.f_led_by_still (fun S _ _ _ _ _ _ _ _ _ hr hu h=>bK (sy c.still h) (ac (qs 2 S j8) (ac (qs 3 S (bG (a1 (pv 1)))) (ac (j6 be (ip wz (ql z.len (a1 (pv 3))) ah) (ac (qs 4 S (BN dO PySem.F.slot_list_pop PySem.F.type_list_pop Gk (pv 3))) (af (bF be rfl (Jk (pP hu (pv 0) (aE (a2 (pv 4) (j7 rfl c.STILL))) (aE cn) ⟨rfl,rfl,rfl,rfl⟩)) (gn 5 S) (af (bo (de (dh hu (pv 5) (pv 2))) (ac (h9 hu (pv 2) (pv 5) dF rfl) (af (aX (gA dO fQ fP cq (pv 3) (a1 (pv 5)))))) aH)))))) (af (av (pv 2))))))) (by walk_at "b")
theorem oq:gK P w K mg:=fun base=>dG X G T.f_first_led_round (fun S _ _ _ _ _ _ _ _ _ hr hu h=>bK (oz h) (ac (bF be rfl (pO rfl z.enumerate (a1 (pv 0))) (cP rfl (aq (gn 2 S) (aq (gn 3 S) ck))) (af (bo (de (jG hu (pv 3) (eV hu (pv 1) (pv 3) (fun _ _=>rfl)))) (af (av (pv 2))) aH))) (af (av uA)))) (by walk_at "b")
theorem xZ:jx P w K mg:=fun base=>dG X G T.f_need_none (fun S _ _ _ _ _ _ _ _ _ hr hu h=>bK (yj (K:=K) h) (af (bo (de (Dh (pv 1))) (af (pN)) aH))) (by walk_at "b")
theorem vD(D_first_wrong_name:fW P w K mg)(D_door_signs:lg P w K mg)(D_first_wrong_door:fX P w K mg)(D_need_none:jx P w K mg):k7 P w K mg:=fun base=>dG X G T.f_need_parts (fun S _ _ _ _ _ _ _ _ _ hr hu h=>bK (vO (K:=K) h) (ac (aX (qf hr (D_need_none base) (a2 bM (qf hr (D_first_wrong_name base) (a3 (pv 0) (j7 rfl c.MOST_WORDS) (bG cn)))))) (ac (aX (qf hr (D_need_none base) (a2 bM (qf hr (D_first_wrong_name base) (a3 (pv 1) (j7 rfl c.MOST_WORDS) (pv 0)))))) (ac (aX (qf hr (D_need_none base) (a2 bM (qf hr (D_first_wrong_name base) (a3 (pv 2) (j7 rfl c.MOST_ROOMS) (bG cn)))))) (af (aX (qf hr (D_need_none base) (a2 bM (qf hr (D_first_wrong_door base) (a3 (pv 3) (pv 2) (qf hr (D_door_signs base) (a2 (pv 0) (pv 1))))))))))))) (by walk_at "b")
theorem pq:hU P w K mg:=fun base=>dG X G T.f_doors_by_start (fun S _ _ _ _ _ _ _ _ _ hr hu h=>bK (pM h) (ac (qs 2 S j8) (ac (bF be rfl (aT (pv 0)) (gn 3 S) (af (h9 hu (pv 2) (pv 3) (bG cn) rfl))) (ac (bF be rfl (aT (pv 1)) (gn 4 S) (af (aX (gA dO fQ fP cq (eV hu (pv 2) (xq (pv 4) ah) (fun _ _=>rfl)) (a1 (pv 4)))))) (af (av (pv 2))))))) (by walk_at "b")
theorem pk:hJ P w K mg:=fun base=>dG X G T.f_has_asks_alone (fun S _ _ _ _ _ _ _ _ _ hr hu h=>bK (pL h) (af (av (qB (mB rfl) z.all boot_all (a1 (qc (aT (pv 0)) (bu (by decide)) fun _ _ _ _ _ _=>⟨gc 0,dv,Dx iw (xq (xq (pv 0) ah) ah) bM⟩)))))) (by walk_at "b")
theorem Bu(D_as_keys:kq P w K mg)(D_goals_by_start_and_sign:dg P w K mg)(D_led_by_still:i8 P w K mg)(D_first_led_round:gK P w K mg)(D_need_none:jx P w K mg)(D_need_parts:k7 P w K mg)(D_doors_by_start:hU P w K mg)(D_has_asks_alone:hJ P w K mg):rG P w K mg C:=fun base=>dN c.cm c.makes c.kc T.f_Machine___init__ (fun S _ _ _ _ _ _ _ _ _ hr hu h=>bK (Hz c.mc h) (ac (aX (qf hr (D_need_parts base) (b0 (pv 1) (a3 (pv 2) (pv 3) (pv 4))))) (ac (gX (pv 0) (qL rfl z.list (a1 (pv 1))) rfl) (ac (gX (pv 0) (qL rfl z.list (a1 (pv 2))) rfl) (ac (gX (pv 0) (qL rfl z.list (a1 (pv 3))) rfl) (ac (gX (pv 0) (qL rfl z.list (a1 (pv 4))) rfl) (ac (gX (pv 0) (qf hr (D_doors_by_start base) (a2 (pv 3) (pv 4))) rfl) (ac (gX (pv 0) (qf hr (D_as_keys base) (a1 (qc (aT (pv 3)) (bu (by decide)) fun _ _ _ _ _ _=>⟨gc 0,h_ (fy (qf hr (D_has_asks_alone base) (a1 (eV hu (cy (pv 1) rfl) (pv 0) (fun _ _=>rfl))))),pv 0⟩))) rfl) (ac (gX (pv 0) (qf hr (D_goals_by_start_and_sign base) (a1 (pv 4))) rfl) (ac (gX (pv 0) (eW (yS rfl) rfl z.dict Cp (a1 (qc (aT (pv 3)) (bu (by decide)) fun _ _ _ _ _ _=>⟨gc 0,dv,aE (a2 (pv 0) (qf hr (D_led_by_still base) (a2 (cy (pv 1) rfl) (pv 0))))⟩))) rfl) (af (aX (qf hr (D_need_none base) (a2 bM (qf hr (D_first_led_round base) (a2 (pv 3) (cy (pv 0) rfl))))))))))))))))) (by walk_at "b")
theorem t_(D_Machine:rG P w K mg C):nN P w K mg C:=fun base=>dG X G T.f_law_machine (fun S _ _ _ _ _ _ _ _ _ hr hu h=>bK (BF h) (af (av (BM (D_Machine base) (hr.mono (by decide)) rfl (b0 (qL rfl z.list (a1 (xq (pv 0) ah))) (a3 (qL rfl z.list (a1 (xq (pv 0) ah))) (qL rfl z.list (a1 (xq (pv 0) ah))) (qL rfl z.list (a1 (xq (pv 0) ah))))))))) (by walk_at "b")
theorem qQ:cx P w K mg C:=fun base=>dM c.mc.cls T.f_Machine_rooms (fun S _ _ _ _ _ _ _ _ _ hr hu h=>bK (FG c.mc h) (af (av (qL rfl z.list (a1 (cy (pv 0) rfl)))))) (by walk_at "b")
theorem nj:em P w K mg C:=fun base=>dM c.mc.cls T.f_Machine_led_from (fun S _ _ _ _ _ _ _ _ _ hr hu h=>bK (z_ c.mc h) (af (av (qL rfl z.list (a1 (pP hu (cy (pv 0) rfl) (pv 1) (aE cn) ⟨rfl,rfl,rfl,rfl⟩)))))) (by walk_at "b")
theorem vB(M_Machine_rooms:cx P w K mg C)(M_Machine_led_from:em P w K mg C):iG P w K mg C:=fun base=>dG X G T.f_with_still (fun S _ _ _ _ _ _ _ _ _ hr hu h=>bK (vN h) (ac (qs 2 S j8) (ac (bF be rfl (aT (pv 1)) (gn 3 S) (af (bo (de (dh hu (pv 3) (pv 2))) (ac (h9 hu (pv 2) (pv 3) dF rfl) (af (bF be rfl (aT (qm hr (M_Machine_led_from base) (pv 0) (a1 (pv 3)))) (gn 4 S) (af (h9 hu (pv 2) (pv 4) dF rfl))))) aH))) (af (av (eW fG rfl z.tuple gf (a1 (qc (aT (Db hr (M_Machine_rooms base) (pv 0))) (bu (by decide)) fun _ _ _ _ _ _=>⟨gc 0,h_ (de (jG hu (pv 0) (pv 1))),pv 0⟩)))))))) (by walk_at "b")
theorem qR:fN P w K mg C:=fun base=>dM c.mc.cls T.f_Machine_goals (fun S _ _ _ _ _ _ _ _ _ hr hu h=>bK (Ej c.mc h) (af (av (qL rfl z.list (a1 (pP hu (cy (pv 0) rfl) (aE (a2 (pv 1) (pv 2))) (aE cn) ⟨rfl,rfl,rfl,rfl⟩)))))) (by walk_at "b")
theorem nk:eo P w K mg C:=fun base=>dM c.mc.cls T.f_Machine_is_quiet (fun S _ _ _ _ _ _ _ _ _ hr hu h=>bK (Ab c.mc h) (af (av (uB (jG hu (pv 1) (cy (pv 0) rfl)))))) (by walk_at "b")
theorem sr:eQ P w K mg:=fun base=>dG X G T.f_law_still_on (fun S _ _ _ _ _ _ _ _ _ hr hu h=>bK (z5 h) (ac (qs 2 S (qL rfl z.list (a1 (pv 1)))) (ac (qs 3 S ah) (ac (j6 be (ip wx (pv 3) (ql z.len (a1 (pv 2)))) (ac (bF be rfl (aT (pv 0)) (cP rfl (aq (gn 4 S) (aq (gn 5 S) (aq (gn 6 S) ck)))) (af (bo (PW.pt (gu (ip (fz hu) (pv 4) (xq (pv 2) (pv 3))) (gu (ip (fz hu) (pv 5) (aE (a1 bM))) (gp (Hf (iM hu) (pv 6) (pv 2)))))) (af (aX (gA dO fQ fP cq (pv 2) (a1 (pv 6))))) aH))) (af (qs 3 S (bb dC (pv 3) ah))))) (af (av (pv 2))))))) (by walk_at "b")
theorem Eb(D_law_still_on:eQ P w K mg):vk P w K mg:=fun base=>dG X G T.f_law_on (fun S _ _ _ _ _ _ _ _ _ hr hu h=>bK (JP h) (ac (qs 2 S (qf hr (D_law_still_on base) (a2 (xq (pv 0) ah) (pv 1)))) (af (av (eW fG rfl z.tuple gf (a1 (qc (aT (xq (pv 0) ah)) (bu (by decide)) fun _ _ _ _ _ _=>⟨gc 0,h_ (Hf (uE hu) (pv 0) (pv 1)),pv 0⟩))))))) (by walk_at "b")
theorem su:gJ P w K mg:=fun base=>dG X G T.f_law_is_quiet (fun S _ _ _ _ _ _ _ _ _ hr hu h=>bK (Ek h) (af (av (Dx (fz hu) (qc (aT (xq (pv 0) ah)) (bu (by decide)) fun _ _ _ _ _ _=>⟨gc 0,h_ (PW.pt (gu (ip (fz hu) (xq (pv 0) ah) (pv 1)) (gp (ip uC (xq (xq (pv 0) ah) ah) bM)))),pv 0⟩) (bG cn))))) (by walk_at "b")
theorem vH(D_law_on:vk P w K mg)(D_law_is_quiet:gJ P w K mg):lc P w K mg:=fun base=>dG X G T.f_law_behind (fun S _ _ _ _ _ _ _ _ _ hr hu h=>bK (HB h) (ac (bo (ip (fz hu) (pv 2) (aE (a1 bM))) (af (av (eW fG rfl z.tuple gf (a1 (qc (yn (pv 1)) (bu (by decide)) fun _ _ _ _ _ _=>⟨gc 0,h_ (fy (qf hr (D_law_is_quiet base) (a2 (pv 1) (pv 0)))),pv 0⟩))))) aH) (af (av (qf hr (D_law_on base) (a2 (pv 0) (qc (aT (xq (pv 0) ah)) (bu (by decide)) fun _ _ _ _ _ _=>⟨gc 0,h_ (PW.pt (gu (Hf (uE hu) (xq (pv 0) ah) (pv 1)) (gp (ip (fz hu) (xq (pv 0) ah) (pv 2))))),xq (pv 0) ah⟩))))))) (by walk_at "b")
theorem zO:vi P w K mg:=fun base=>by
  have E0:Def P w K mg base "_law_same" ["found","due"] 0 JN:=by
   obtain⟨f,a,t⟩:=T.f_law_same;obtain⟨fd,F⟩:=t.fun_;exact⟨f,fd,JU,gU X G a,F.kp,F.binds (ps:=["found","due"]) (by walk_at "b")⟩
  exact dG X G T.f_law_same (fun S _ _ _ _ _ _ _ _ _ hr hu h=>bK (FB h) (ac (bo (de (BO (pv 1))) (af (av (uB (BO (pv 0))))) aH) (ac (bo (ip uD (pv 1) dF) (af (av (Dx uD (pv 0) dF))) aH) (ac (bo (ip uD (pv 1) dF) (af (av (Dx uD (pv 0) dF))) aH) (ac (bo (fy (qB fH z.isinstance fI (a2 (pv 1) (wt rfl z.int)))) (af (av (oB (qB fH z.isinstance fI (a2 (pv 0) (wt rfl z.int))) (oB (Jm (qB fH z.isinstance fI (a2 (pv 0) (BL rfl z.bool)))) (uz (Dx (fz hu) (pv 0) (pv 1))))))) aH) (ac (bo (fy (qB fH z.isinstance fI (a2 (pv 1) (wr rfl z.str)))) (af (av (oB (qB fH z.isinstance fI (a2 (pv 0) (wr rfl z.str))) (uz (Dx (fz hu) (pv 0) (pv 1)))))) aH) (ac (bo (PW.pt (mf (ip uC (qB fH z.isinstance fI (a2 (pv 1) (mj rfl z.tuple))) (qB fH z.isinstance fI (a2 (pv 0) (mj rfl z.tuple)))) (kO (ip uC (qB fH z.isinstance fI (a2 (pv 1) (uy rfl z.list))) (qB fH z.isinstance fI (a2 (pv 0) (uy rfl z.list))))))) (af (av dF)) aH) (ac (bo (ip uC (ql z.len (a1 (pv 0))) (ql z.len (a1 (pv 1)))) (af (av dF)) aH) (ac (bF be rfl (Dd rfl z.zip (a2 (pv 0) (pv 1))) (cP rfl (aq (gn 2 S) (aq (gn 3 S) ck))) (af (bo (mi (fy (IR E0 hr rfl (a2 (pv 2) (pv 3))))) (af (av dF)) aH))) (af (av dF))))))))))) (by walk_at "b")
theorem sk:eT P w K mg C:=fun base=>dM c.mc.cls T.f_Machine_asks (fun S _ _ _ _ _ _ _ _ _ hr hu h=>bK (HC c.mc h) (af (av (qL rfl z.list (a1 (cy (pv 0) rfl)))))) (by walk_at "b")
theorem sj:gL P w K mg C:=fun base=>dM c.mc.cls T.f_Machine_says (fun S _ _ _ _ _ _ _ _ _ hr hu h=>bK (Hv c.mc h) (af (av (qL rfl z.list (a1 (cy (pv 0) rfl)))))) (by walk_at "b")
theorem vJ(M_Machine_rooms:cx P w K mg C)(D_with_still:iG P w K mg C):iI P w K mg C:=fun base=>dG X G T.f_first_face (fun S _ _ _ _ _ _ _ _ _ hr hu h=>bK (vQ h) (af (av (qf hr (D_with_still base) (a2 (pv 0) (cQ fL (Db hr (M_Machine_rooms base) (pv 0)) fM (cU ah))))))) (by walk_at "b")
theorem ub(D_with_still:iG P w K mg C)(M_Machine_goals:fN P w K mg C)(M_Machine_is_quiet:eo P w K mg C):jQ P w K mg C:=fun base=>dG X G T.f_face_behind (fun S _ _ _ _ _ _ _ _ _ hr hu h=>bK (FM c.hush h) (ac (bo (ip (fz hu) (pv 2) (j7 rfl c.HUSH)) (af (av (eW fG rfl z.tuple gf (a1 (qc (yn (pv 1)) (bu (by decide)) fun _ _ _ _ _ _=>⟨gc 0,h_ (fy (qm hr (M_Machine_is_quiet base) (pv 1) (a1 (pv 0)))),pv 0⟩))))) aH) (ac (qs 3 S (bG cn)) (ac (bF be rfl (yn (pv 1)) (gn 4 S) (af (aX (gA dO PySem.F.slot_list_extend PySem.F.type_list_extend Ex (pv 3) (a1 (qm hr (M_Machine_goals base) (pv 0) (a2 (pv 4) (pv 2)))))))) (af (av (qf hr (D_with_still base) (a2 (pv 0) (pv 3))))))))) (by walk_at "b")
theorem ph(M_Machine_asks:eT P w K mg C)(M_Machine_says:gL P w K mg C):g_ P w K mg C a_HUSH:=fun base=>dG X G T.f_signs_in_order (fun S _ _ _ _ _ _ _ _ _ hr hu h=>bK (Je h) (af (av (bb jH (bb jH (qc (aT (Db hr (M_Machine_asks base) (pv 0))) (bu (by decide)) fun _ _ _ _ _ _=>⟨gc 0,dv,aE (a2 bM (pv 0))⟩) (qc (aT (Db hr (M_Machine_says base) (pv 0))) (bu (by decide)) fun _ _ _ _ _ _=>⟨gc 0,dv,aE (a2 bM (pv 0))⟩)) (bG (a1 (j7 rfl c.HUSH))))))) (by walk_at "b")
theorem xY(D_face_behind:jQ P w K mg C)(D_signs_in_order:g_ P w K mg C a_HUSH):jw P w K mg C:=fun base=>dG X G T.f_steps_at (fun S _ _ _ _ _ _ _ _ _ hr hu h=>bK (z6 c.hush h) (ac (qs 2 S gy) (ac (bF be rfl (aT (qf hr (D_signs_in_order base) (a1 (pv 0)))) (gn 3 S) (ac (qs 4 S (qf hr (D_face_behind base) (a3 (pv 0) (pv 1) (pv 3)))) (af (bo (ip wz (ql z.len (a1 (pv 4))) ah) (af (ig hu (pv 2) (pv 3) (pv 4) rfl)) aH)))) (af (av (pv 2)))))) (by walk_at "b")
theorem zK(D_steps_atQ:jw P w K mg C):o0 P w K mg C:=fun base=>Def.weak (D_steps_atQ base) Ec
theorem lU:dJ P w K mg Cf:=fun base=>dM c.fc.cls T.f_FaceMap_number_at (fun S _ _ _ _ _ _ _ _ _ hr hu h=>bK (FH c.fc h) (ac (bo (de (dh hu (pv 1) (cy (pv 0) rfl))) (ac (bo (ip iw (ql z.len (a1 (cy (pv 0) rfl))) (j7 rfl c.MOST_FACES)) (af (pN)) aH) (ac (h9 hu (cy (pv 0) rfl) (pv 1) (ql z.len (a1 (cy (pv 0) rfl))) rfl) (ac (aX (gA dO fQ fP cq (cy (pv 0) rfl) (a1 (pv 1)))) (af (aX (gA dO fQ fP cq (cy (pv 0) rfl) (a1 (pv 2)))))))) aH) (af (av (eV hu (cy (pv 0) rfl) (pv 1) (fun _ _=>rfl)))))) (by walk_at "b")
theorem jc(D_steps_at:o0 P w K mg C)(M_FaceMap_number_at:dJ P w K mg Cf):dD P w K mg C Cf:=fun base=>dM c.fc.cls T.f_FaceMap_numbered_steps (fun S _ _ _ _ _ _ _ _ _ hr hu h=>bK (z9 c.fc h) (ac (qs 2 S gy) (ac (bF be rfl (wq (qf hr (D_steps_at base) (a2 (cy (pv 0) rfl) (xl (cy (pv 0) rfl) (pv 1))))) (cP rfl (aq (gn 3 S) (aq (gn 4 S) ck))) (af (ig hu (pv 2) (pv 3) (qm hr (M_FaceMap_number_at base) (pv 0) (a2 (pv 4) (bb jH (xl (cy (pv 0) rfl) (pv 1)) (bG (a1 (pv 3)))))) rfl))) (af (av (pv 2)))))) (by walk_at "b")
theorem Bv(D_first_face:iI P w K mg C)(M_FaceMap_number_at:dJ P w K mg Cf)(M_FaceMap_numbered_steps:dD P w K mg C Cf):rH P w K mg C Cf:=fun base=>dN c.cmf c.makesf c.kcf T.f_FaceMap___init__ (fun S _ _ _ _ _ _ _ _ _ hr hu h=>bK (Em c.fc h) (ac (gX (pv 0) (pv 1) rfl) (ac (gX (pv 0) (bG cn) rfl) (ac (gX (pv 0) (bG cn) rfl) (ac (gX (pv 0) gy rfl) (ac (gX (pv 0) (bG cn) rfl) (ac (aX (qm hr (M_FaceMap_number_at base) (pv 0) (a2 (qf hr (D_first_face base) (a1 (pv 1))) (bG cn)))) (af (j6 be (ip wx (ql z.len (a1 (cy (pv 0) rfl))) (ql z.len (a1 (cy (pv 0) rfl)))) (af (aX (gA dO fQ fP cq (cy (pv 0) rfl) (a1 (qm hr (M_FaceMap_numbered_steps base) (pv 0) (a1 (ql z.len (a1 (cy (pv 0) rfl)))))))))))))))))) (by walk_at "b")
theorem Fv(M_Machine_led_from:em P w K mg C)(M_Machine_goals:fN P w K mg C):ze P w K mg C:=fun base=>dG X G T.f_takes (fun S _ _ _ _ _ _ _ _ _ hr hu h=>bK (FA h) (af (av (qB (AQ rfl) z.any boot_any (a1 (qc (aT (bb jH (bG (a1 (pv 1))) (qm hr (M_Machine_led_from base) (pv 0) (a1 (pv 1))))) (bu (by decide)) fun _ _ _ _ _ _=>⟨gc 0,dv,Dx wz (ql z.len (a1 (qm hr (M_Machine_goals base) (pv 1) (a2 (pv 0) (aE (a2 bM (pv 2))))))) ah⟩)))))) (by walk_at "b")
theorem vE(M_Machine_asks:eT P w K mg C)(M_Machine_says:gL P w K mg C):k9 P w K mg C:=fun base=>dG X G T.f_need_match (fun S _ _ _ _ _ _ _ _ _ hr hu h=>bK (ur h) (af (bo (PW.pt (mf (ip (oC hu) (Db hr (M_Machine_asks base) (pv 0)) (Db hr (M_Machine_asks base) (pv 1))) (kO (ip (oC hu) (Db hr (M_Machine_says base) (pv 0)) (Db hr (M_Machine_says base) (pv 1)))))) (af (pN)) aH))) (by walk_at "b")
theorem kH(M_Machine_rooms:cx P w K mg C)(M_Machine_asks:eT P w K mg C)(D_takes:ze P w K mg C):eC P w K mg C:=fun base=>dG X G T.f_need_all_asks_taken (fun S _ _ _ _ _ _ _ _ _ hr hu h=>bK (yk h) (af (bF be rfl (aT (Db hr (M_Machine_rooms base) (pv 0))) (gn 1 S) (af (bF be rfl (aT (Db hr (M_Machine_asks base) (pv 0))) (gn 2 S) (af (bo (mi (fy (qf hr (D_takes base) (a3 (pv 0) (pv 1) (pv 2))))) (af (pN)) aH))))))) (by walk_at "b")
theorem vC(D_need_match:k9 P w K mg C)(D_need_all_asks_taken:eC P w K mg C):iH P w K mg C:=fun base=>dG X G T.f_need_taker (fun S _ _ _ _ _ _ _ _ _ hr hu h=>bK (uq (K:=K) h) (ac (aX (qf hr (D_need_match base) (a2 (pv 0) (pv 1)))) (af (aX (qf hr (D_need_all_asks_taken base) (a1 (pv 1))))))) (by walk_at "b")
theorem lB:eR P w K mg C:=fun base=>dM c.mc.cls T.f_Machine_doors_from (fun S _ _ _ _ _ _ _ _ _ hr hu h=>bK (vT c.mc h) (af (av (qL rfl z.list (a1 (pP hu (cy (pv 0) rfl) (pv 1) (aE cn) ⟨rfl,rfl,rfl,rfl⟩)))))) (by walk_at "b")
theorem zJ:oZ P w K mg:=fun base=>dG X G T.f_story_to (fun S _ _ _ _ _ _ _ _ _ hr hu h=>bK (BE h) (ac (qs 2 S (bG cn)) (ac (j6 be (de (Dh (eV hu (pv 0) (pv 1) (fun _ _=>rfl)))) (ac (iZ (eV hu (pv 0) (pv 1) (fun _ _=>rfl)) (cP rfl (aq (gn 1 S) (aq (gn 3 S) ck)))) (af (aX (gA dO fQ fP cq (pv 2) (a1 (pv 3))))))) (ac (aX (BN dO PySem.F.slot_list_reverse PySem.F.type_list_reverse BQ (pv 2))) (af (av (pv 2))))))) (by walk_at "b")
theorem t6(D_story_to:oZ P w K mg):jN P w K mg:=fun base=>dG X G T.f_least_fault (fun S _ _ _ _ _ _ _ _ _ hr hu h=>bK (vP h) (ac (qs 2 S (wu hu (aE (a2 ah ah)) uA)) (ac (qs 3 S (bG (a1 (aE (a2 ah ah))))) (ac (qs 4 S ah) (ac (j6 be (ip wx (pv 4) (ql z.len (a1 (pv 3)))) (ac (qs 5 S (xl (pv 3) (pv 4))) (ac (Ji (i:=4) S rfl (Or.inl rfl) ah Js) (ac (qs 6 S (xl (pv 0) (xt (pv 5) ah))) (af (bF be rfl (wq (xl (pv 1) (xt (pv 5) ah))) (cP rfl (aq (gn 7 S) (aq (gn 8 S) ck))) (af (bo (de (dh hu (pv 7) (pv 6))) (af (bo (ip uC (xt (pv 7) ah) bM) (af (av (aE (a2 (qf hr (D_story_to base) (a2 (pv 2) (pv 5))) (pv 7))))) aH)) (af (bo (de (dh hu (aE (a2 (eV hu (pv 6) (pv 7) (fun _ _=>rfl)) (pv 8))) (pv 2))) (ac (ig hu (pv 2) (aE (a2 (eV hu (pv 6) (pv 7) (fun _ _=>rfl)) (pv 8))) (aE (a2 (pv 5) (pv 7))) rfl) (af (aX (gA dO fQ fP cq (pv 3) (a1 (aE (a2 (eV hu (pv 6) (pv 7) (fun _ _=>rfl)) (pv 8)))))))) aH)))))))))) (af (av uA))))))) (by walk_at "b")
theorem sm(M_Machine_is_quiet:eo P w K mg C)(M_Machine_doors_from:eR P w K mg C):gH P w K mg C:=fun base=>dG X G T.f_rows_needed (fun S _ _ _ _ _ _ _ _ _ hr hu h=>bK (FD c.hush c.still h) (ac (qs 4 S (bG cn)) (ac (bF be rfl (aT (qm hr (M_Machine_doors_from base) (pv 0) (a1 (pv 1)))) (cP rfl (aq (gn 5 S) (aq (gn 6 S) (aq (gn 7 S) ck)))) (af (bo (ip (fz hu) (pv 6) (j7 rfl c.STILL)) (af (aX (gA dO fQ fP cq (pv 4) (a1 (aE (a2 (pv 7) (pv 2))))))) (af (bo (PW.pt (mf (de (jG hu (pv 6) (pv 3))) (kO (ip iw (xt (pv 6) ah) bM)))) (af (aX (gA dO fQ fP cq (pv 4) (a1 (aE (a2 (pv 7) (Aj hu (pv 3) (pv 6) ⟨rfl,rfl,rfl,rfl⟩))))))) aH))))) (ac (bo (fy (qm hr (M_Machine_is_quiet base) (pv 0) (a1 (pv 1)))) (af (aX (gA dO fQ fP cq (pv 4) (a1 (aE (a2 (pv 1) (Aj hu (pv 3) (j7 rfl c.HUSH) ⟨rfl,rfl,rfl,rfl⟩))))))) aH) (af (av (pv 4))))))) (by walk_at "b")
theorem t5(D_rows_neededV:gH P w K mg C):jM P w K mg C:=fun base=>Def.weak (D_rows_neededV base) Ht
theorem zM(M_Machine_rooms:cx P w K mg C)(D_rows_needed:jM P w K mg C):o5 P w K mg C Cf:=fun base=>dG X G T.f_paper_of (fun S _ _ _ _ _ _ _ _ _ hr hu h=>bK (Ei c.fc h) (ac (qs 2 S (aE (a2 (xl (Db hr (M_Machine_rooms base) (pv 1)) ah) ah))) (ac (qs 3 S (wu hu (pv 2) dF)) (ac (qs 4 S (bG (a1 (pv 2)))) (ac (j6 be (ip wz (ql z.len (a1 (pv 4))) ah) (ac (iZ (BN dO PySem.F.slot_list_pop PySem.F.type_list_pop Gk (pv 4)) (cP rfl (aq (gn 5 S) (aq (gn 6 S) ck)))) (af (bF be rfl (aT (qf hr (D_rows_needed base) (b0 (pv 1) (a3 (pv 5) (pv 6) (xl (cy (pv 0) rfl) (pv 6)))))) (gn 7 S) (af (bo (de (dh hu (pv 7) (pv 3))) (ac (ig hu (pv 3) (pv 7) dF rfl) (af (aX (gA dO fQ fP cq (pv 4) (a1 (pv 7)))))) aH)))))) (af (av (qc (Ai (pv 3)) (Dk (j9 (bu (by decide)) eX (j9 (bu (by decide)) eX (Am) (kb)) (kR eX (kb)))) fun _ _ _ _ _ _=>⟨cP rfl (aq (gc 0) (aq (gc 1) ck)),dv,aE (a2 (pv 0) (xl (cy (pv 2) rfl) (pv 1)))⟩)))))))) (by walk_at "b")
theorem Fw(D_FaceMap:rH P w K mg C Cf)(D_need_taker:iH P w K mg C)(D_least_fault:jN P w K mg)(D_paper_of:o5 P w K mg C Cf):DQ P w K mg C:=fun base=>dG X G T.f_keeps (fun S _ _ _ _ _ _ _ _ _ hr hu h=>bK (El c.fc h) (ac (aX (qf hr (D_need_taker base) (a2 (pv 0) (pv 1)))) (ac (qs 2 S (BM (D_FaceMap base) (hr.mono (by decide)) rfl (a1 (pv 0)))) (ac (qs 3 S (qf hr (D_least_fault base) (a2 (cy (pv 2) rfl) (cy (BM (D_FaceMap base) (hr.mono (by decide)) rfl (a1 (pv 1))) rfl)))) (ac (bo (de (BO (pv 3))) (af (av (aE (a2 bM (qf hr (D_paper_of base) (a2 (pv 2) (pv 1))))))) aH) (ac (iZ (pv 3) (cP rfl (aq (gn 4 S) (aq (gn 5 S) ck)))) (af (av (aE (a3 bM (pv 4) (pv 5))))))))))) (by walk_at "b")
theorem t8(D_law_take:eg P w K mg)(D_law_put:ko P w K mg)(D_law_still_on:eQ P w K mg):jO P w K mg:=fun base=>dG X G T.f_law_willing (fun S _ _ _ _ _ _ _ _ _ hr hu h=>bK (BD h) (ac (iZ (pv 1) (cP rfl (aq (gn 2 S) (aq (gn 3 S) (aq (gn 4 S) (aq (gn 5 S) ck)))))) (ac (qs 5 S (qL rfl z.list (a1 (pv 5)))) (ac (bF be rfl (aT (pv 4)) (gn 6 S) (af (bF be rfl (aT (pv 2)) (gn 7 S) (ac (qs 8 S (qf hr (D_law_still_on base) (a2 (pv 5) (bG (a1 (pv 6)))))) (af (bo (ip (fz hu) (qc (aT (pv 5)) (bu (by decide)) fun _ _ _ _ _ _=>⟨gc 0,h_ (PW.pt (gu (Hf (uE hu) (xq (pv 0) ah) (pv 1)) (gp (ip (fz hu) (xq (pv 0) ah) (aE (a2 bM (pv 2))))))),pv 0⟩) (bG cn)) (ac (qs 9 S (xl (bG (a2 (pv 6) (xl (pv 4) (qf hr (D_law_take base) (a2 (pv 0) (ql z.len (a1 (pv 4)))))))) (qf hr (D_law_take base) (a2 (pv 0) ah)))) (af (aX (qf hr (D_law_put base) (a2 (pv 5) (aE (a3 (pv 6) (aE (a2 bM (pv 7))) (pv 9)))))))) aH)))))) (af (av (aE (b0 (pv 2) (a3 (pv 3) (pv 4) (pv 5)))))))))) (by walk_at "b")
theorem vF(D_law_take:eg P w K mg)(D_law_put:ko P w K mg)(D_law_still_on:eQ P w K mg):k_ P w K mg:=fun base=>dG X G T.f_law_turned (fun S _ _ _ _ _ _ _ _ _ hr hu h=>bK (Eg h) (ac (iZ (pv 1) (cP rfl (aq (gn 2 S) (aq (gn 3 S) (aq (gn 4 S) (aq (gn 5 S) ck)))))) (ac (qs 5 S (qL rfl z.list (a1 (pv 5)))) (ac (qs 6 S (qf hr (D_law_take base) (a2 (pv 0) ah))) (ac (qs 7 S (qf hr (D_law_take base) (a2 (pv 0) (qB (EW rfl) z.max PyProof.Rows.boot_max (a2 ah (ql z.len (a1 (pv 5)))))))) (ac (qs 8 S (xl (pv 4) (qf hr (D_law_take base) (a2 (pv 0) (ql z.len (a1 (pv 4))))))) (ac (qs 9 S (xl (pv 4) (qf hr (D_law_take base) (a2 (pv 0) (ql z.len (a1 (pv 4))))))) (ac (bo (ip iw (pv 6) ah) (af (aX (qf hr (D_law_put base) (a2 (pv 5) (aE (a3 (pv 8) (aE (a2 bM (xl (pv 3) (qf hr (D_law_take base) (a2 (pv 0) (ql z.len (a1 (pv 3)))))))) (pv 9))))))) (af (bo (ip iw (pv 6) ah) (af (aX (qf hr (D_law_put base) (a2 (pv 5) (aE (a3 (pv 8) (aE (a2 bM (xl (pv 2) (qf hr (D_law_take base) (a2 (pv 0) (ql z.len (a1 (pv 2)))))))) (pv 9))))))) (af (bo (PW.pt (gu (ip wx (pv 6) ah) (gu (ip (oC hu) (pv 5) (bG cn)) (gp (ip uC (xt (xt (xl (pv 5) (pv 7)) ah) ah) bM))))) (ac (qs 10 S (gA dO PySem.F.slot_list_pop PySem.F.type_list_pop Gj (pv 5) (a1 (pv 7)))) (af (bo (ip iw (pv 6) ah) (af (aX (qf hr (D_law_put base) (a2 (pv 5) (aE (a3 (xt (pv 10) ah) (xt (pv 10) ah) (pv 9))))))) aH))) (af (bo (PW.pt (gu (ip iw (pv 6) ah) (gp (Hf (iM hu) (pv 8) (qf hr (D_law_still_on base) (a2 (pv 5) (bG (a1 (pv 9))))))))) (af (aX (qf hr (D_law_put base) (a2 (pv 5) (aE (a3 (pv 8) (aE (a1 bM)) (pv 9))))))) aH))))))) (af (av (aE (b0 (pv 2) (a3 (pv 3) (pv 4) (pv 5)))))))))))))) (by walk_at "b")
theorem t9(D_law_take:eg P w K mg)(D_law_names:jy P w K mg):jP P w K mg:=fun base=>dG X G T.f_law_renamed (fun S _ _ _ _ _ _ _ _ _ hr hu h=>bK (z7 h) (ac (iZ (pv 1) (cP rfl (aq (gn 2 S) (aq (gn 3 S) (aq (gn 4 S) (aq (gn 5 S) ck)))))) (ac (qs 6 S j8) (ac (bF be rfl (Dd rfl z.zip (a2 (pv 4) (qf hr (D_law_names base) (a2 (pv 0) (ql z.len (a1 (pv 4))))))) (cP rfl (aq (gn 7 S) (aq (gn 8 S) ck))) (af (h9 hu (pv 6) (pv 7) (pv 8) rfl))) (ac (qsc 9 S (aT (pv 4)) (bu (by decide)) fun _ _ _ _ _ _=>⟨gc 0,dv,eV hu (pv 1) (pv 0) (fun _ _=>rfl)⟩) (ac (qs 10 S (bb dC ah (qf hr (D_law_take base) (a2 (pv 0) (ql z.len (a1 (pv 4))))))) (ac (qs 9 S (bb jH (bb jH (cQ fL (pv 9) fM (cU ah)) (cQ fL (pv 9) (cU (pv 10)) fM)) (cQ fL (pv 9) (cU ah) (cU (pv 10))))) (ac (qsc 5 S (aT (pv 5)) (Dk (j9 (bu (by decide)) eX (j9 (bu (by decide)) eX (j9 (bu (by decide)) eX (Am) (kb)) (kR eX (kb))) (kR eX (kR eX (kb))))) fun _ _ _ _ _ _=>⟨cP rfl (aq (gc 0) (aq (gc 1) (aq (gc 2) ck))),dv,aE (a3 (eV hu (pv 3) (pv 0) (fun _ _=>rfl)) (pv 1) (eV hu (pv 3) (pv 2) (fun _ _=>rfl)))⟩) (af (av (aE (b0 (pv 2) (a3 (pv 3) (pv 9) (pv 5)))))))))))))) (by walk_at "b")
theorem zQ(D_law_anew:lf P w K mg)(D_law_take:eg P w K mg)(D_law_willing:jO P w K mg)(D_law_turned:k_ P w K mg)(D_law_renamed:jP P w K mg):vm P w K mg:=fun base=>dG X G T.f_law_near (fun S _ _ _ _ _ _ _ _ _ hr hu h=>bK (Hx (K:=K) h) (ac (aX (qf hr (D_law_anew base) (a1 (pv 0)))) (ac (bF be rfl (iL rfl z.range (a1 (qf hr (D_law_take base) (a2 (pv 0) (bb dC (pv 2) ah))))) (gn 3 S) (af (qs 1 S (qf hr (D_law_turned base) (a2 (pv 0) (pv 1)))))) (ac (qs 1 S (qf hr (D_law_willing base) (a2 (pv 0) (pv 1)))) (ac (bo (ip iw (qf hr (D_law_take base) (a2 (pv 0) ah)) ah) (af (qs 1 S (qf hr (D_law_renamed base) (a2 (pv 0) (pv 1))))) aH) (af (av (pv 1)))))))) (by walk_at "b")
theorem sv(D_as_keysX:o6 P w K mg)(M_Machine_rooms:cx P w K mg C):i9 P w K mg C:=fun base=>dG X G T.f_is_full_face (fun S _ _ _ _ _ _ _ _ _ hr hu h=>bK (HA h) (ac (qs 2 S (qf hr (D_as_keysX base) (a1 (pv 1)))) (af (av (oB (Dx wz (ql z.len (a1 (pv 1))) ah) (uz (Dx (fz hu) (pv 1) (eW fG rfl z.tuple gf (a1 (qc (aT (Db hr (M_Machine_rooms base) (pv 0))) (bu (by decide)) fun _ _ _ _ _ _=>⟨gc 0,h_ (de (jG hu (pv 0) (pv 1))),pv 0⟩)))))))))) (by walk_at "b")
theorem vI(D_as_keysC:i_ P w K mg)(M_Machine_rooms:cx P w K mg C)(D_first_face:iI P w K mg C)(D_steps_atQ:jw P w K mg C)(D_need_taker:iH P w K mg C)(D_rows_neededV:gH P w K mg C)(D_is_full_face:i9 P w K mg C):qj P w K mg C:=fun base=>dG X G T.f_is_keeping (fun S _ _ _ _ _ _ _ _ _ hr hu h=>bK (Aa h) (ac (aX (qf hr (D_need_taker base) (a2 (pv 0) (pv 1)))) (ac (qs 3 S (qf hr (D_as_keysC base) (a1 (pv 2)))) (ac (qs 4 S (qf hr (D_as_keysC base) (a1 (Db hr (M_Machine_rooms base) (pv 1))))) (ac (qs 5 S gy) (ac (bF be rfl (Ai (pv 3)) (cP rfl (aq (gn 6 S) (aq (gn 7 S) ck))) (ac (bo (de (dh hu (pv 7) (pv 5))) (ac (bo (mi (fy (qf hr (D_is_full_face base) (a2 (pv 0) (pv 7))))) (af (av dF)) aH) (af (ig hu (pv 5) (pv 7) (qf hr (D_steps_atQ base) (a2 (pv 0) (pv 7))) rfl))) aH) (af (bo (PW.pt (mf (de (dh hu (pv 6) (pv 4))) (kO (mi (fy (qB (mB rfl) z.all boot_all (a1 (qc (aT (qf hr (D_rows_neededV base) (b0 (pv 1) (a3 (pv 6) (pv 7) (eV hu (pv 5) (pv 7) (fun _ _=>rfl)))))) (bu (by decide)) fun _ _ _ _ _ _=>⟨gc 0,dv,uB (jG hu (pv 0) (pv 1))⟩)))))))) (af (av dF)) aH)))) (af (av (uB (jG hu (aE (a2 (xl (Db hr (M_Machine_rooms base) (pv 1)) ah) (qf hr (D_first_face base) (a1 (pv 0))))) (pv 3))))))))))) (by walk_at "b")
theorem pi(D_law_is_quiet:gJ P w K mg)(D_law_behind:lc P w K mg):hC P w K mg:=fun base=>dG X G T.f_law_row_stands (fun S _ _ _ _ _ _ _ _ _ hr hu h=>bK (FE h) (ac (bF be rfl (aT (xq (pv 1) ah)) (cP rfl (aq (gn 5 S) (aq (gn 6 S) (aq (gn 7 S) ck)))) (ac (bo (PW.pt (gu (ip iw (pv 5) (pv 3)) (gu (ip (fz hu) (pv 6) (aE (a1 bM))) (gp (de (dh hu (aE (a2 (pv 7) (pv 4))) (pv 2))))))) (af (av dF)) aH) (af (bo (PW.pt (gu (ip iw (pv 5) (pv 3)) (gp (ip (oC hu) (pv 6) (aE (a1 bM)))))) (ac (qs 8 S (qf hr (D_law_behind base) (a3 (pv 0) (pv 4) (pv 6)))) (af (bo (PW.pt (mf (PW.pt (gu (ip (fz hu) (pv 8) (aE cn)) (gp (ip iw (xt (pv 6) ah) bM)))) (kO (PW.pt (gu (ip (oC hu) (pv 8) (aE cn)) (gp (de (dh hu (aE (a2 (pv 7) (pv 8))) (pv 2))))))))) (af (av dF)) aH))) aH)))) (ac (bo (fy (qf hr (D_law_is_quiet base) (a2 (pv 1) (pv 3)))) (ac (qs 8 S (qf hr (D_law_behind base) (a3 (pv 0) (pv 4) (aE (a1 bM))))) (af (av (oB (Dx (oC hu) (pv 8) (aE cn)) (uz (uB (jG hu (aE (a2 (pv 3) (pv 8))) (pv 2)))))))) aH) (af (av dF))))) (by walk_at "b")
theorem ya:mK P w K mg:=fun base=>dG X G T.f_law_faces (fun S _ _ _ _ _ _ _ _ _ hr hu h=>bK (FL h) (ac (qs 1 S (bG (a1 (aE cn)))) (ac (bF be rfl (aT (pv 0)) (gn 2 S) (af (qs 1 S (bb jH (pv 1) (qc (aT (pv 1)) (bu (by decide)) fun _ _ _ _ _ _=>⟨gc 0,dv,bb HV (pv 0) (aE (a1 (pv 1)))⟩))))) (af (av (cQ fL (pv 1) (cU ah) fM)))))) (by walk_at "b")
theorem zR(D_law_row_stands:hC P w K mg)(D_law_faces:mK P w K mg):vo P w K mg:=fun base=>dG X G T.f_law_left (fun S _ _ _ _ _ _ _ _ _ hr hu h=>bK (Hy h) (ac (qs 2 S gy) (ac (bF be rfl (aT (xq (pv 1) ah)) (gn 3 S) (af (bF be rfl (aT (qf hr (D_law_faces base) (a1 (xq (pv 0) ah)))) (gn 4 S) (af (ig hu (pv 2) (aE (a2 (pv 3) (pv 4))) dF rfl))))) (ac (bF be rfl (iL rfl z.range (a1 (qB rh z.len xn (a1 (pv 2))))) (gn 5 S) (ac (qs 6 S gy) (ac (bF be rfl (aT (qLT rfl z.list (a1 (pv 2)))) (cP rfl (aq (gn 3 S) (aq (gn 4 S) ck))) (af (bo (fy (qf hr (D_law_row_stands base) (b0 (pv 0) (b0 (pv 1) (a3 (pv 2) (pv 3) (pv 4)))))) (af (ig hu (pv 6) (aE (a2 (pv 3) (pv 4))) dF rfl)) aH))) (ac (bo (ip iw (qB rh z.len xn (a1 (pv 6))) (qB rh z.len xn (a1 (pv 2)))) (af (av (qLT rfl z.list (a1 (pv 6))))) aH) (af (qs 2 S (pv 6))))))) (af (av (bG cn))))))) (by walk_at "b")
end
theorem Jq(X:K.In h)(G:h.Ns b_ mg)(z:Zs mg)(c:Cs K mg C Cf a_STILL a_HUSH)(T:Ts K C Cf):∃f fd,mg "law"=some (.ref f)/\(∀(s:Shared) (v:Value),sR s fd ⟨[v],[]⟩ [("script",v)])/\∀base:Heap,mG P w K mg base CX0 9 f fd ["script"] (sp_law28 K):=by
 have D_law_spread:lb P w K mg:=vG X G z c T;have D_law_open:vj P w K mg:=zP X G z c T;have D_law_anew:lf P w K mg:=zT X G z c T;have D_law_take:eg P w K mg:=zN X G z c T D_law_spread;have D_law_names:jy P w K mg:=x9 X G z c T D_law_take;have D_law_put:ko P w K mg:=Br X G z c T;have D_law_draw_doors:hE P w K mg:=pj X G z c T D_law_take D_law_put;have D_law_model:r_ P w K mg:=x_ X G z c T D_law_anew D_law_take D_law_names D_law_draw_doors;have D_is_name:rF P w K mg:=Bs X G z c T;have D_as_keysC:i_ P w K mg:=zV X G z c T;have D_as_keysX:o6 P w K mg:=zU X G z c T D_as_keysC;have D_as_keys:kq P w K mg:=Bt X G z c T D_as_keysC;have D_first_wrong_name:fW P w K mg:=nq X G z c T D_is_name D_as_keys;have D_door_signs:lg P w K mg:=vK X G z c T;have D_first_wrong_door:fX P w K mg:=nv X G z c T D_as_keys;have D_goals_by_start_and_sign:dg P w K mg:=iX X G z c T;have D_led_by_still:i8 P w K mg:=so X G z c T;have D_first_led_round:gK P w K mg:=oq X G z c T;have D_need_none:jx P w K mg:=xZ X G z c T;have D_need_parts:k7 P w K mg:=vD X G z c T D_first_wrong_name D_door_signs D_first_wrong_door D_need_none;have D_doors_by_start:hU P w K mg:=pq X G z c T;have D_has_asks_alone:hJ P w K mg:=pk X G z c T;have D_Machine:rG P w K mg C:=Bu X G z c T D_as_keys D_goals_by_start_and_sign D_led_by_still D_first_led_round D_need_none D_need_parts D_doors_by_start D_has_asks_alone;have D_law_machine:nN P w K mg C:=t_ X G z c T D_Machine;have M_Machine_rooms:cx P w K mg C:=qQ X G z c T;have M_Machine_led_from:em P w K mg C:=nj X G z c T;have D_with_still:iG P w K mg C:=vB X G z c T M_Machine_rooms M_Machine_led_from
 have M_Machine_goals:fN P w K mg C:=qR X G z c T;have M_Machine_is_quiet:eo P w K mg C:=nk X G z c T;have D_law_still_on:eQ P w K mg:=sr X G z c T;have D_law_on:vk P w K mg:=Eb X G z c T D_law_still_on;have D_law_is_quiet:gJ P w K mg:=su X G z c T;have D_law_behind:lc P w K mg:=vH X G z c T D_law_on D_law_is_quiet;have D_law_same:vi P w K mg:=zO X G z c T;have M_Machine_asks:eT P w K mg C:=sk X G z c T;have M_Machine_says:gL P w K mg C:=sj X G z c T;have D_first_face:iI P w K mg C:=vJ X G z c T M_Machine_rooms D_with_still;have D_face_behind:jQ P w K mg C:=ub X G z c T D_with_still M_Machine_goals M_Machine_is_quiet;have D_signs_in_order:g_ P w K mg C a_HUSH:=ph X G z c T M_Machine_asks M_Machine_says;have D_steps_atQ:jw P w K mg C:=xY X G z c T D_face_behind D_signs_in_order;have D_steps_at:o0 P w K mg C:=zK X G z c T D_steps_atQ;have M_FaceMap_number_at:dJ P w K mg Cf:=lU X G z c T;have M_FaceMap_numbered_steps:dD P w K mg C Cf:=jc X G z c T D_steps_at M_FaceMap_number_at;have D_FaceMap:rH P w K mg C Cf:=Bv X G z c T D_first_face M_FaceMap_number_at M_FaceMap_numbered_steps;have D_takes:ze P w K mg C:=Fv X G z c T M_Machine_led_from M_Machine_goals;have D_need_match:k9 P w K mg C:=vE X G z c T M_Machine_asks M_Machine_says;have D_need_all_asks_taken:eC P w K mg C:=kH X G z c T M_Machine_rooms M_Machine_asks D_takes;have D_need_taker:iH P w K mg C:=vC X G z c T D_need_match D_need_all_asks_taken;have M_Machine_doors_from:eR P w K mg C:=lB X G z c T;have D_story_to:oZ P w K mg:=zJ X G z c T;have D_least_fault:jN P w K mg:=t6 X G z c T D_story_to;have D_rows_neededV:gH P w K mg C:=sm X G z c T M_Machine_is_quiet M_Machine_doors_from
 have D_rows_needed:jM P w K mg C:=t5 X G z c T D_rows_neededV;have D_paper_of:o5 P w K mg C Cf:=zM X G z c T M_Machine_rooms D_rows_needed;have D_keeps:DQ P w K mg C:=Fw X G z c T D_FaceMap D_need_taker D_least_fault D_paper_of;have D_law_willing:jO P w K mg:=t8 X G z c T D_law_take D_law_put D_law_still_on;have D_law_turned:k_ P w K mg:=vF X G z c T D_law_take D_law_put D_law_still_on;have D_law_renamed:jP P w K mg:=t9 X G z c T D_law_take D_law_names;have D_law_near:vm P w K mg:=zQ X G z c T D_law_anew D_law_take D_law_willing D_law_turned D_law_renamed;have D_is_full_face:i9 P w K mg C:=sv X G z c T D_as_keysX M_Machine_rooms;have D_is_keeping:qj P w K mg C:=vI X G z c T D_as_keysC M_Machine_rooms D_first_face D_steps_atQ D_need_taker D_rows_neededV D_is_full_face;have D_law_row_stands:hC P w K mg:=pi X G z c T D_law_is_quiet D_law_behind;have D_law_faces:mK P w K mg:=ya X G z c T;have D_law_left:vo P w K mg:=zR X G z c T D_law_row_stands D_law_faces;obtain⟨f,a,t⟩:=T.f_law28;obtain⟨oc,od,an,sl,kV,dc,pm,cd,ct,l,c1,k1⟩:=t;have F:=GB (st:=(fT 70)) l c1 k1;have sc:k4 DM FW (cp (fT 70)):=by walk_at "s"
 have S:=sc.nd;exact⟨f,_,gU X G a,fun s v=>.of_eq rfl,fun base=>F.ok (k:=8) sc (by walk_at "l") (fun _ _ _ _ _ _ _ _ hr h=>by have hu:=Dv hr;exact bK (FK (C:=C) h) (ac (qs 1 S (qf hr (D_law_open base) (a1 (pv 0)))) (ac (qs 2 S (qf hr (D_law_model base) (a3 (pv 1) ah ah))) (ac (qs 3 S (qf hr (D_law_near base) (a3 (pv 1) (pv 2) ah))) (ac (qs 4 S (qf hr (D_law_machine base) (a1 (pv 2)))) (ac (qs 5 S (qf hr (D_law_machine base) (a1 (pv 3)))) (ac (qs 6 S (qf hr (D_law_left base) (a2 (pv 2) (pv 3)))) (ac (qs 7 S (aE (a2 (xl (xt (pv 3) ah) ah) (qf hr (D_law_on base) (a2 (pv 2) (cQ fL (xt (pv 2) ah) fM (cU ah))))))) (ac (qs 8 S (qf hr (D_keeps base) (a2 (pv 4) (pv 5)))) (ac (bo (PW.pt (mf (mi (fy (qB fH z.isinstance fI (a2 (pv 8) (mj rfl z.tuple))))) (kO (mi (fy (qf hr (D_law_same base) (a2 (xt (pv 8) ah) (xl (bG (a2 bM bM)) (eW EY rfl z.int wR (a1 (eci (uE hu) (pv 7) (pv 6)))))))))))) (af (av dF)) aH) (ac (bo (mi (fy (qf hr (D_law_same base) (a2 (qf hr (D_is_keeping base) (a3 (pv 4) (pv 5) (qL rfl z.list (a1 (pv 6))))) (eci (uE hu) (pv 7) (pv 6)))))) (af (av dF)) aH) (ac (bo (Hf (iM hu) (pv 7) (pv 6)) (af (av (Dx uD (qf hr (D_is_keeping base) (a3 (pv 4) (pv 5) (bb jH (bG (a1 (pv 7))) (pv 6)))) dF))) aH) (af (av (Dx (fz hu) (qc (aT (xt (pv 8) ah)) (bu (by decide)) fun _ _ _ _ _ _=>⟨gc 0,h_ (Hf (iM hu) (pv 0) (pv 1)),pv 0⟩) (bG cn))))))))))))))))⟩
theorem all_mk{l:PySem.W.OpenLaw}{fa:Addr}{u_LETTERS:Value}{u_LONGEST_NAME:Value}{u_MOST_WORDS:Value}{u_MOST_ROOMS:Value}{u_MOST_DOORS:Value}{u_MOST_FACES:Value}{o_STILL:Obj}{i_STILL:Array Value}{n_STILL:Nat}{o_HUSH:Obj}{i_HUSH:Array Value}{n_HUSH:Nat}(X:K.In h)(G:h.Ns b_ mg)(hfa:mg "law"=some (.ref fa))
  (aC:cD K b_ "Machine"=some (some (.ref C)))
  (pg:wa K C Str.empty=true)
  (hd:zj K C=true)
  (po:CO K C=true)
  (sa:dL K (.ref C) "__setattr__"=some (some (.builtin "object.__setattr__")))
  (mk:sT K C=true)
  (kc:iP K (.ref C)=true)
  (na1:dL K (.ref C) "own_asks"=some none)
  (na2:dL K (.ref C) "own_says"=some none)
  (na3:dL K (.ref C) "own_rooms"=some none)
  (na4:dL K (.ref C) "own_doors"=some none)
  (na5:dL K (.ref C) "leaving"=some none)
  (na6:dL K (.ref C) "quiet"=some none)
  (na7:dL K (.ref C) "sign_goals"=some none)
  (na8:dL K (.ref C) "still_led"=some none)
  (aF:cD K b_ "FaceMap"=some (some (.ref Cf)))
  (pgF:wa K Cf Str.empty=true)
  (hdF:zj K Cf=true)
  (poF:CO K Cf=true)
  (saF:dL K (.ref Cf) "__setattr__"=some (some (.builtin "object.__setattr__")))
  (mkF:sT K Cf=true)
  (kcF:iP K (.ref Cf)=true)
  (nf1:dL K (.ref Cf) "machine"=some none)
  (nf2:dL K (.ref Cf) "faces"=some none)
  (nf3:dL K (.ref Cf) "first_stories"=some none)
  (nf4:dL K (.ref Cf) "numbers"=some none)
  (nf5:dL K (.ref Cf) "steps"=some none)
  (z_all:cD K b_ "all"=some none)
  (z_any:cD K b_ "any"=some none)
  (z_bool:cD K b_ "bool"=some none)
  (z_dict:cD K b_ "dict"=some none)
  (z_enumerate:cD K b_ "enumerate"=some none)
  (z_int:cD K b_ "int"=some none)
  (z_isinstance:cD K b_ "isinstance"=some none)
  (z_len:cD K b_ "len"=some none)
  (z_list:cD K b_ "list"=some none)
  (z_max:cD K b_ "max"=some none)
  (z_range:cD K b_ "range"=some none)
  (z_str:cD K b_ "str"=some none)
  (z_tuple:cD K b_ "tuple"=some none)
  (z_zip:cD K b_ "zip"=some none)
  (g_LETTERS:cD K b_ "LETTERS"=some (some u_LETTERS))
  (r_LETTERS:RelV (.str "abcdefghijklmnopqrstuvwxyz") u_LETTERS)
  (g_LONGEST_NAME:cD K b_ "LONGEST_NAME"=some (some u_LONGEST_NAME))
  (r_LONGEST_NAME:RelV (.int 8) u_LONGEST_NAME)
  (g_MOST_WORDS:cD K b_ "MOST_WORDS"=some (some u_MOST_WORDS))
  (r_MOST_WORDS:RelV (.int 4) u_MOST_WORDS)
  (g_MOST_ROOMS:cD K b_ "MOST_ROOMS"=some (some u_MOST_ROOMS))
  (r_MOST_ROOMS:RelV (.int 150) u_MOST_ROOMS)
  (g_MOST_DOORS:cD K b_ "MOST_DOORS"=some (some u_MOST_DOORS))
  (r_MOST_DOORS:RelV (.int 2000) u_MOST_DOORS)
  (g_MOST_FACES:cD K b_ "MOST_FACES"=some (some u_MOST_FACES))
  (r_MOST_FACES:RelV (.int 400) u_MOST_FACES)
  (g_STILL:cD K b_ "STILL"=some (some (.ref a_STILL)))
  (l_STILL:K.lookup a_STILL=some o_STILL)
  (c_STILL:o_STILL.cls=.type "tuple")
  (d_STILL:o_STILL.data=.seq i_STILL n_STILL)
  (s_STILL:i_STILL.size<=ai)
  (v_STILL:bf (ao.map V.str) i_STILL.toList)
  (g_HUSH:cD K b_ "HUSH"=some (some (.ref a_HUSH)))
  (l_HUSH:K.lookup a_HUSH=some o_HUSH)
  (c_HUSH:o_HUSH.cls=.type "tuple")
  (d_HUSH:o_HUSH.data=.seq i_HUSH n_HUSH)
  (s_HUSH:i_HUSH.size<=ai)
  (v_HUSH:bf (aV.map V.str) i_HUSH.toList)
  (T:Ts K C Cf)
 :∃fd:lh,(∀(s:Shared) (v:Value),sR s fd ⟨[v],[]⟩ [("script",v)])/\∀base:Heap,K.In base->base.Ns b_ mg->mG l.prog w K mg base CX0 9 fa fd ["script"] (sp_law28 K):=by
 have z:Zs mg:=⟨gh X G z_all,gh X G z_any,gh X G z_bool,gh X G z_dict,gh X G z_enumerate,gh X G z_int,gh X G z_isinstance,gh X G z_len,gh X G z_list,gh X G z_max,gh X G z_range,gh X G z_str,gh X G z_tuple,gh X G z_zip⟩;have c:Cs K mg C Cf a_STILL a_HUSH:=⟨⟨_,gU X G g_LETTERS,r_LETTERS⟩,⟨_,gU X G g_LONGEST_NAME,r_LONGEST_NAME⟩,⟨_,gU X G g_MOST_WORDS,r_MOST_WORDS⟩,⟨_,gU X G g_MOST_ROOMS,r_MOST_ROOMS⟩,⟨_,gU X G g_MOST_DOORS,r_MOST_DOORS⟩,⟨_,gU X G g_MOST_FACES,r_MOST_FACES⟩,⟨_,gU X G g_STILL,rfl⟩,⟨_,gU X G g_HUSH,rfl⟩,C1 l_STILL c_STILL d_STILL s_STILL v_STILL,C1 l_HUSH c_HUSH d_HUSH s_HUSH v_HUSH,⟨⟨pg,hd,po,sa⟩,na1,na2,na3,na4,na5,na6,na7,na8⟩,gU X G aC,mk,kc,⟨⟨pgF,hdF,poF,saF⟩,nf1,nf2,nf3,nf4,nf5⟩,gU X G aF,mkF,kcF⟩;obtain⟨f,fd,e,b,k⟩:=Jq (P:=l.prog) (w:=w) X G z c T;have e0:=hfa.symm.trans e;cases e0;exact⟨fd,b,fun base _ _=>k base⟩
end
end Mum
namespace PySem.W.Fast
def tw5618928444570376376:=0
def tw250358905642327165:=0
def tw6151027071736037513:=0
def tw15082312632272862695:=0
def tw1269964101429796824:=0
def tw14790465988267102293:=0
def tw16762791358759900227:=0
def tw10860843694480558032:=0
def tw6313189967564694534:=0
def tw942353200831548927:=0
def tw3111930422069453444:=0
def tw6991216371795931361:=0
def tw13928564653436391649:=0
def tw14857989128840062731:=0
def tw3319401679429367423:=0
def tw5111600443465459290:=0
def tw775891645383041695:=0
def tw17988991857432348081:=0
def tw577536750548606203:=0
def tw2689860985588168477:=0
def tw3157236214190155810:=0
def tw17683687665554995306:=0
def tw14766194914263572382:=0
def tw329602095474567965:=0
def tw12074917823030890881:=0
def tw7443168411420906303:=0
def tw7627887433242328701:=0
def tw6037313279670379255:=0
def tw9043305526810321729:=0
def tw15258250902484521332:=0
def tw6557402208036222511:=0
def tw2893036270816996128:=0
def tw5068743082408951122:=0
def tw15323238488446004989:=0
def tw4991062996153206003:=0
def tw7462813301699964893:=0
def tw15865430741091534015:=0
def tw1241620325832199435:=0
def tw12846666612848181901:=0
def tw10214481969510759013:=0
def tw15185943267377969636:=0
def tw3577408278826281178:=0
def tw17142778622324045049:=0
def tw12408821522879757936:=0
def tw4120834661991953192:=0
def tw12657297227785034256:=0
def tw10329005109529218247:=0
def tw5799914025495679120:=0
def tw3047165095551895071:=0
def tw16718271275485321925:=0
def tw9888007700996605051:=0
def tw3350829262467653823:=0
def tw3126963842450620200:=0
def tw6791596244173117632:=0
def tw9287082769218750480:=0
def tw7488425346605721611:=0
def tw8166433694928487110:=0
def tw17029074051404071921:=0
def tw5047885388017734389:=0
def tw15545447979282395948:=0
def tw3764312255810305859:=0
def tw7327168222695157266:=0
def tw101517900138163721:=0
def tw13631865237064424824:=0
def tw5215812401919746656:=0
def tw969299795876417896:=0
def tw8945057133037898976:=0
def tw9700220003176173259:=0
def tw13700111766413986467:=0
def tw15841084480574281491:=0
def tw8741147174377507456:=0
def tw5542376431643162313:=0
def tw12426964393754634061:=0
def tw9088515715146657445:=0
def tw737203070958890236:=0
def tw16977580076788568477:=0
def tw17043248506833319931:=0
def tw4269706425756613454:=0
def tw13246578676327635321:=0
def tw10131149287230910312:=0
def tw16227975019977866492:=0
def tw6371593203061930051:=0
def tw11673370070417986780:=0
def tw16962941018995746690:=0
def tw9798517291146193232:=0
def tw685044139310927025:=0
def tw11678488886402803317:=0
def tw13826712107265164789:=0
def tw16390526447855077713:=0
def tw1521759300538608372:=0
def tw12109790960322002051:=0
def tw16869711854133956478:=0
def tw9303680732106643360:=0
def tw4112689479027571430:=0
def tw8008282216584965954:=0
def tw8070521120684281833:=0
def tw18323826894909127764:=0
def tw11678419438439627272:=0
def tw41617323484556891:=0
def tw16081853975257238686:=0
def tw3141711902309978022:=0
def tw4103492561471887767:=0
def tw14292162013641901881:=0
def tw1097643910529838101:=0
def tw9545045546814338266:=0
def tw10018481544002987371:=0
def tw14740116623704117346:=0
def tw12017822048285961798:=0
def tw15000724956302704574:=0
def tw17214359628533437969:=0
def tw7914332859608208566:=0
def tw1475436203569144921:=0
def tw3473620884593279401:=0
def tw16935009594790256269:=0
def tw17482347323049823978:=0
def tw17445820992816995830:=0
def tw2243086132744904225:=0
def tw13656221797758559442:=0
def tw16886044971261202298:=0
def tw1093422084199855203:=0
def tw4621077425006292599:=0
def tw11025700969901796769:=0
def tw2608785000410354556:=0
def tw5655515579603086614:=0
def tw16115387298789122527:=0
def tw10040598086976135280:=0
def tw12066825957861301874:=0
def tw16837984857415004265:=0
def tw10604079395402494793:=0
def tw196517874666380001:=0
def tw17566880804918446400:=0
def tw13668003101755720473:=0
def tw17350815132171193839:=0
def tw11905667802443754166:=0
def tw4619274751532899501:=0
def tw6036736677043586144:=0
def tw7401608913302434012:=0
def tw17104888223467389181:=0
def tw3562936005861103157:=0
def tw10114037233845901057:=0
def tw16042101802277872156:=0
def tw9386420656802690806:=0
def tw11029849946061968514:=0
def tw14655780068681241341:=0
def tw10749659353110566995:=0
def tw12638496764017420051:=0
def tw17990678631507639065:=0
def tw2175413730804000107:=0
def tw11281450403353560038:=0
def tw470677092270596932:=0
def tw5255657418068308859:=0
def tw16640432646064374267:=0
def tw14665080083624307538:=0
def tw8237422731823401967:=0
def tw18371562201719473061:=0
def tw3861596568945026446:=0
def tw12441086962375221489:=0
def tw14224000696676654950:=0
def tw12440761489179316541:=0
def tw6142890696746280035:=0
def tw11380345573357280617:=0
def tw17910294423866857911:=0
def tw11411815081643441277:=0
def tw2902368127707569624:=0
def tw9173618613969009770:=0
def tw7959089687710889349:=0
def tw15530247211138634880:=0
def tw9897760544868921790:=0
def tw16374542245565088896:=0
def tw13454372444437609522:=0
def tw6410055113021943195:=0
def tw2489421078326608674:=0
def tw10613944586479495795:=0
def tw18206821416500426321:=0
def tw12373108632415203537:=0
def tw15210409106812774239:=0
def tw10834152121066068998:=0
def tw7315202602450317295:=0
def tw8988918500421141981:=0
def tw6993123461892688520:=0
def tw4046052700980949277:=0
def tw8642615188657420211:=0
def tw16518678305942670272:=0
def tw14545964785862990849:=0
def tw2985941590678726624:=0
def tw8225062763615409076:=0
def tw6262672431989182789:=0
def tw2247797608466987833:=0
def tw9104162451919948843:=0
def tw13708445977329717928:=0
def tw13268335591558511672:=0
def tw14485222573200087350:=0
def tw10459128542968604521:=0
end PySem.W.Fast
open PySem PySem.W PyProof.Rows
set_option maxRecDepth 100000 in
set_option maxHeartbeats 0 in
theorem PySem.Challenge.cw_mumtrial_k28_whole_never_both_holds : PySem.Challenge.rw_mumtrial_k28_whole_never_both.Holds := by
 w_on;o_law;k_head;(case hw=>w_witness2)
 k_fill
 refine L2.walk_ofK (l:=PySem.Challenge.rw_mumtrial_k28_whole_never_both) (n:=63) (k:=9) (x:="script") (CX:=L2.CX0) (sp:=Mum.sp_law28) rfl (by decide) rfl ⟨rfl,by decide,by decide⟩ (fun w h Y=>PySem.W.kIn_of Y) ?F (fun _ _ a ns hl _ hS=>⟨a,ns,rfl,hS,hl,fun _=>rfl⟩) (fun _ _ _ _ z=>z)
 case F =>
  intro w mg fa h KX G hmg;refine' Mum.all_mk KX G hmg ?aC ?pg ?hd ?po ?sa ?mk ?kc ?na1 ?na2 ?na3 ?na4 ?na5 ?na6 ?na7 ?na8 ?aF ?pgF ?hdF ?poF ?saF ?mkF ?kcF ?nf1 ?nf2 ?nf3 ?nf4 ?nf5 ?z_all ?z_any ?z_bool ?z_dict ?z_enumerate ?z_int ?z_isinstance ?z_len ?z_list ?z_max ?z_range ?z_str ?z_tuple ?z_zip ?g_LETTERS ?r_LETTERS ?g_LONGEST_NAME ?r_LONGEST_NAME ?g_MOST_WORDS ?r_MOST_WORDS ?g_MOST_ROOMS ?r_MOST_ROOMS ?g_MOST_DOORS ?r_MOST_DOORS ?g_MOST_FACES ?r_MOST_FACES ?g_STILL ?l_STILL ?c_STILL ?d_STILL ?s_STILL ?v_STILL ?g_HUSH ?l_HUSH ?c_HUSH ?d_HUSH ?s_HUSH ?v_HUSH ?T
  (case aC|pg|hd|po|sa|mk|kc|na1|na2|na3|na4|na5|na6|na7|na8|aF|pgF|hdF|poF|saF|mkF|kcF|nf1|nf2|nf3|nf4|nf5|z_all|z_any|z_bool|z_dict|z_enumerate|z_int|z_isinstance|z_len|z_list|z_max|z_range|z_str|z_tuple|z_zip|g_LETTERS=>k_is)
  (case r_LETTERS=>exact⟨_,rfl⟩)
  (case g_LONGEST_NAME=>k_is)
  (case r_LONGEST_NAME=>exact⟨_,rfl⟩)
  (case g_MOST_WORDS=>k_is)
  (case r_MOST_WORDS=>exact⟨_,rfl⟩)
  (case g_MOST_ROOMS=>k_is)
  (case r_MOST_ROOMS=>exact⟨_,rfl⟩)
  (case g_MOST_DOORS=>k_is)
  (case r_MOST_DOORS=>exact⟨_,rfl⟩)
  (case g_MOST_FACES=>k_is)
  (case r_MOST_FACES=>exact⟨_,rfl⟩)
  (case g_STILL|l_STILL=>k_is)
  (case c_STILL|d_STILL=>rfl)
  (case s_STILL=>decide)
  (case v_STILL=>exact .cons ⟨_,rfl⟩ .nil)
  (case g_HUSH|l_HUSH=>k_is)
  (case c_HUSH|d_HUSH=>rfl)
  (case s_HUSH=>decide)
  (case v_HUSH=>exact .cons ⟨_,rfl⟩ .nil)
  (case T=>constructor<;>first|(refine' Mum.fnG_mk ?a ?l ?c ?k;(case a=>k_is);(case l=>k_is);(case c=>k_is);(case k=>k_is))|(refine' Mum.fnM_mk ?a ?i ?l ?c ?k;(case a=>k_is);(case i=>k_is);(case l=>k_is);(case c=>k_is);(case k=>k_is)))
