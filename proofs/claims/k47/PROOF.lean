
import PyProof.Rows.All
import Wide.All
import OpenK.AllK
import Wide.FinOn
import Lean
import PyProof.EqAt
import PyProof.EqKinds
import PyProof.TupleCall
import PyProof.NeKinds
import PyProof.DictIter
import PyProof.DictWalks
import PyProof.RaisesMany
import PyProof.RulesAs
import PyProof.NsDelKeeps
import PyProof.InstStoreFacts
import PyProof.ExcClass3
import PyProof.ExcInit
import KE.KTryMore
import PyProof.AutoSeq1
import PyProof.WalkInts
import PyProof.DictItems
import PyProof.DictItemsLoops
import KE.KPairComp
import PyProof.DictValues
import PyProof.SumAny
import PyProof.Rows.SumAny
import PyProof.Rows.RuleDivmod
import KE.KRevIter
import PyProof.TupleOfGen
import KE.KMinKey
import PyProof.Rows.CallKwBuiltin
import KE.IntBitsLaws
import PySem.Challenge.RW_mumtrial_k47_the_first_blamer
noncomputable section
open PySem renaming Program->cn,reduceHash->GW,wpAny_mono->pK,wpAny_bind->ak,wpAny_specialOf->Fo,wpAny_call_entry->ug,wpAny_pure->aP,wpAny_rule->oj,Builtin->bQ,wpAny_isInstance->AL,wpAny_holding->jm,wpAny_truthy_bool->sE,wpAny_seqItems->iY,sizeLine->aj,sysModules->iX,mainGlobals->bW,bootBuiltins->jf,starEach->aM,compareOp->fT,behindInMarks->ml,standAt->sy,holding->mj,wpAny_execs_nil->En,swapsWith->sw,assignEach->wZ,wpAny_passesOwn->uh,letOwnedTupleGo->Em,wpAny_pyIter_list->AK,wpAny_pyIter_tuple->Ej,foldedSetIterable->AJ,binaryOp->mB,sizeLine_eq->sv,getMethod->so,codeAny->zzl80,attributeBase->wW,FuncData->mh,BindsTo->ue,codeAny_mono->Eg,wpAny_Call_Name_kw->AF,callWith->wU,backToKw->pG,keywordEach->lg,NameKind->h9,mem_of_lookup->uH,typeLookup->uF,getItem->oO,seqIndex?->yQ,subscripted->yP,sliceBounds->oN,slicePick->yO,Keyword->rg,call_meets->rf,valueAt->oM,call_meetsIn->uA,callerA->mL,DictEntry->q_,wpAny_newObj_type->lc,ZipApart->h7,wpAny_pyIter_zip->ux,wpAny_callSpecial?_slot->mJ,wpAny_field->eJ,seqItems?->uw,wpAny_setField->yE,firstArgMember->yC,wpAny_of_eq->yB,wpAny_setField_rec->oI,wpAny_onRaise->yy,wpAny_letGo->mH,wpAny_attempt->qY,sliceRange->uu,wpAny_dictEntries->ym,codeAny_builtin->jk,wpAny_tryCatch->qW,wpAny_typeOf->yk,plainId_quiet->ji,wpAny_typeNameOfWhole_keyiter->yj,wpAny_typeNameOf_keyiter->yi,intItems->dB,updateSeq->oH,wpAny_updateSeq->mF,argBest->jh
open PySem.Builtin.Tuple renaming tupleHashOf->Cv
open Bool renaming false_ne_true->iB,not_true->Eo,false_eq_true->kB,false_and->El,eq_iff_iff->wY,and_false->yL,and_eq_true->yG,true_and->qO
open Array renaming forIn_toList->I_,length_toList->mC,getElem?_eq_getElem->lb,getElem?_eq_none->uo
open Nat renaming add_assoc->Ep,le_refl->aD,lt_of_lt_of_le->da,lt_irrefl->kA,ne_of_lt->bX,le_trans->aB,le_of_lt->cV,ne_of_gt->eM,zero_le->dL,le_succ->rh,succ_le_succ->uE,lt_of_le_of_lt->qZ,le_add_right->ka,min_eq_left->qQ,mod_lt->uk,succ_mul->gJ,mul_le_mul_right->db
open List renaming append_nil->dO,range->mm,mem_filter->fU,filterMap_cons->w6,mem_cons_self->cW,mem_cons_of_mem->c_,mem_cons->cu,mem_append->bM,mem_append_left->em,getElem?_eq_some_iff->bN,mem_append_right->eU,length_cons->fS,lookup->fL,map_cons->bG,length_map->ah,nodup_cons->gp,length_take->aJ,getElem?_append_left->uG,getElem?_map->cH,mem_of_getElem?->bU,length_append->ba,length_drop->dS,size_toArray->bH,reverse_cons->yM,length_reverse->eK,find?_cons->mM,any_cons->re,nodup_nil->uC,map_nil->yI,lookup_cons->jn,forIn_cons->oK,mem_map->aS,not_mem_nil->uy,forIn_nil->yz,getElem?_eq_none->yr,any_toArray->yq,drop_zero->ur,take_length->bf,getElem?_eq_getElem->de,mem_singleton->dR,map_append->av,nodup_append->dw,drop_of_length_le->qX,drop_eq_getElem_cons->j_,getElem?_reverse->qV,take_of_length_le->um,getElem?_of_mem->gK,map_eq_nil_iff->qS,map_take->ul,map_drop->yg,foldl_cons->qR,drop_length->mE,mem_of_mem_take->hZ,append_assoc->eV,nodup_iff_pairwise_ne->yf,map_map->jg,sum_cons->qP,mem_map_of_mem->oC,take_append_drop->ye,foldl_append->yd,take_zero->yb,length_filter_le->cQ,filter_append->iP,filter_cons_of_neg->ya,filter_cons_of_pos->x_,zipWith->mD
open Option.some renaming inj->fM
open PySem.W renaming instObj->sD,lookIn->Ei,plainGet->sr,hasDictIn->uf,findIn->cO,isFn->AI,plainOver->wX,makesIn->mz,emptyDict->pH,keepIn->gG,kitOne->Eh,kia_one->kq,fnOf->jp,codeIn->oP,nsIn->ck,mg_of->eI,mg_none_of->fN
open PySem.Heap renaming lt_size->aI,SameBut->iW,get?_push_of_some->a_,get?_push_size->cG,size_push->mi,get?_update_self->jo,get?_update_other->iR
open PyProof.Rows renaming AllBare->pJ,callWith_type1->pI,Subscript_->yS,subscriptTail->yR,IntsAre->uz,zipApart_new->yt
open Ne renaming symm->gx
open False renaming elim->kz
open Int renaming mul_one->Ek,toNat_natCast->lf,emod_nonneg->oF,emod_lt_of_pos->oE,le_refl->yh,eq_ofNat_of_zero_le->j9,mul_pos->xZ,le_of_lt->qN,mul_assoc->uj,mul_comm->ui,one_mul->xY
open PySem.Str renaming empty->AH,ofString->gL
open True renaming intro->ky
open PySem.Calls renaming spliced_nil->AG,spliced_cons->wV,callWith_builtin->yN
open Option renaming isSome_iff_exists->yT,map_some->uD,map_eq_some_iff->k_
open PySem.Obj renaming mapSeq->fO,data_mapFields->yD
open PySem.Paired renaming snoc->gl
open PySem.F renaming slot_dict_get->rc,entry_dict_get->yJ,slot_tuple_iterator_next->yF,slot_zip_next->mG,entry_zip_next->yv,args_zip_next_1->yu,slot_dict_keyiterator_next->uq,plain_extend_loop->qU,plain_min_loop->oG,plainAttrs_list->gH,slot_list_append->j8,type_list_append->j7
open ForInStep renaming yield->yH
open PySem.NameKind renaming free->mK
open PySem.Builtin.SmallTypes renaming nextOf->iQ,ownedTupleIsFree->mI
open PySem.Heap.SameBut renaming update->oJ
open PySem.Shared renaming heap->uv
open PySem.SeqAt renaming EqAt->bx
open PySem.Builtin.Str renaming strSliceIndices->ut
open PySem.Txt renaming join->yo
open PySem.Walks renaming list->yn
open PySem.Around renaming under_plainId->jj
open PySem.IntMulOk renaming of_le->oB
open PySem.PassesOwn renaming never->bp
theorem Q0:0<=PySem.sizeLine:=by decide
theorem Q1:1<=PySem.sizeLine:=by decide
theorem Q2:2<=PySem.sizeLine:=by decide
theorem Q3:3<=PySem.sizeLine:=by decide
theorem Q4:4<=PySem.sizeLine:=by decide
theorem Q6:6<=PySem.sizeLine:=by decide
theorem zzr0{p:Prop}[Decidable p](h:¬p):decide p=false:=decide_eq_false h
theorem zzr1{p:Prop}[Decidable p](h:p):decide p=true:=decide_eq_true h
abbrev Za:=PySem.W.Frag
abbrev Zb:=List PySem.Str
abbrev Zc:=PySem.Value->PySem.Shared->Prop
abbrev Zd:=List (PySem.Addr×PySem.Obj)
abbrev Ze:=List PySem.Addr
abbrev Zf:=List PySem.Value
section
set_option Elab.async false
set_option linter.all false
set_option maxRecDepth 100000
set_option maxHeartbeats 4000000
namespace L2
open PySem PySem.Spec PyProof.Rows
open Sem (wp)
abbrev fR:=Sum Int Str
def dA:fR->Value->Bool
 |.inl k,v=>Value.isInt k v
 |.inr x,v=>Value.isStrOf x v
def LP(w:World):fR->Int
 |.inl k=>hashInt k
 |.inr x=>hashStr w x
theorem aE:∀{k:fR}{v:Value},dA k v=true->(∃i t,k=Sum.inl i/\v=Value.int i t)∨(∃x t,k=Sum.inr x/\v=Value.str x t)
 |.inl i,v,h=>by
  obtain⟨t,e⟩:=Value.isInt_shape (k:=i) (v:=v) h;exact .inl ⟨i,t,rfl,e⟩
 |.inr x,v,h=>by
  obtain⟨t,e⟩:=Value.isStrOf_shape (x:=x) (v:=v) h;exact .inr ⟨x,t,rfl,e⟩
theorem nP(i:Int)(t:Tok):dA (.inl i) (.int i t)=true:=by simp[dA,Value.isInt]
theorem nO(x:Str)(t:Tok):dA (.inr x) (.str x t)=true:=by simp[dA,Value.isStrOf]
theorem Aa(a b:Int):decide ((Sum.inl a:fR)=Sum.inl b)=(a==b):=by
 by_cases e:a=b
 ·subst e;simp
 ·have h:¬(Sum.inl a:fR)=Sum.inl b:=fun q=>e (Sum.inl.inj q);rw[zzr0 h];exact(beq_eq_false_iff_ne.mpr e).symm
theorem z6(a b:Str):decide ((Sum.inr a:fR)=Sum.inr b)=decide (a=b):=by
 by_cases e:a=b
 ·subst e;simp
 ·have h:¬(Sum.inr a:fR)=Sum.inr b:=fun q=>e (Sum.inr.inj q);rw[zzr0 h,zzr0 e]
theorem z_(a:Int)(b:Str):decide ((Sum.inl a:fR)=Sum.inr b)=false:=zzr0 (fun q=>nomatch q)
theorem z7(a:Str)(b:Int):decide ((Sum.inr a:fR)=Sum.inl b)=false:=zzr0 (fun q=>nomatch q)
def cE(prog:cn)(w:World):PySem.KeyKind prog w fR where
 is:=dA
 hash:=LP w
 inj:=fun v a b ha hb=>by
  rcases aE ha with⟨i,t,rfl,rfl⟩|⟨x,t,rfl,rfl⟩
  ·rcases aE hb with⟨j,u,rfl,e⟩|⟨y,u,rfl,e⟩
   ·injection e with e1 _;rw[e1]
   ·exact nomatch e
  ·rcases aE hb with⟨j,u,rfl,e⟩|⟨y,u,rfl,e⟩
   ·exact nomatch e
   ·injection e with e1 _;rw[e1]
 byValue:=fun k v h=>by
  rcases aE h with⟨i,t,rfl,rfl⟩|⟨x,t,rfl,rfl⟩<;>rfl
 pyHash:=fun hv h=>by
  rcases aE hv with⟨i,t,rfl,rfl⟩|⟨x,t,rfl,rfl⟩
  ·exact wpAny_pyHash_int h
  ·exact wpAny_pyHash_str h
 eqBool:=fun hu hv h=>by
  rcases aE hu with⟨i,t,rfl,rfl⟩|⟨x,t,rfl,rfl⟩
  ·rcases aE hv with⟨j,u,rfl,rfl⟩|⟨y,u,rfl,rfl⟩
   ·rw[Aa]at h;exact wpAny_eqBool_int h
   ·rw[z_]at h;exact bx.int_str i t y u _ _ _ _ h
  ·rcases aE hv with⟨j,u,rfl,rfl⟩|⟨y,u,rfl,rfl⟩
   ·rw[z7]at h;exact bx.str_int x t j u _ _ _ _ h
   ·rw[z6]at h;exact wpAny_eqBool_str h
 «strs»:=fun k x t v h=>by
  rcases aE h with⟨i,u,rfl,e⟩|⟨y,u,rfl,e⟩
  ·exact nomatch e
  ·injection e with e1 _;subst e1;cases v<;>rfl
theorem Bz(a:cn)(w:World)(i:Int)(t:Tok):(cE a w).is (.inl i) (.int i t)=true:=nP i t
theorem By(a:cn)(w:World)(x:Str)(t:Tok):(cE a w).is (.inr x) (.str x t)=true:=nO x t
end L2
namespace L2
open PySem PySem.Spec PyProof.Rows
open Sem (wp)
abbrev pC:=Option fR
def jF:pC->Value->Bool
 |none,v=>match v with
  |.none=>true
  |_=>false
 |some k,v=>dA k v
def KB(w:World):pC->Int
 |none=>GW 4238894112
 |some k=>LP w k
theorem b_:∀{k:pC}{v:Value},jF k v=true->(∃i t,k=some (Sum.inl i)/\v=Value.int i t)∨(∃x t,k=some (Sum.inr x)/\v=Value.str x t)∨(k=none/\v=Value.none)
 |none,v,h=>by
  refine .inr (.inr ⟨rfl,?_⟩);cases v<;>first|rfl|cases h
 |some k,v,h=>by
  rcases aE (show dA k v=true from h)with⟨i,t,rfl,rfl⟩|⟨i,t,rfl,rfl⟩
  ·exact .inl ⟨i,t,rfl,rfl⟩
  ·exact .inr (.inl ⟨i,t,rfl,rfl⟩)
theorem vv{a b:pC}{v:Value}(f:jF a v=true)(g:jF b v=true):a=b:=by
 rcases b_ f with⟨i,t,rfl,rfl⟩|⟨i,t,rfl,rfl⟩|⟨rfl,rfl⟩<;>rcases b_ g with⟨j,u,rfl,e⟩|⟨j,u,rfl,e⟩|⟨rfl,e⟩<;>first|rfl|(cases e;rfl)|cases e
def Bx(prog:cn)(w:World):PySem.KeyKind prog w pC where
 is:=jF
 hash:=KB w
 inj:=fun v a b ha hb=>vv ha hb
 byValue:=fun k v h=>by
  rcases b_ h with⟨i,t,rfl,rfl⟩|⟨x,t,rfl,rfl⟩|⟨rfl,rfl⟩<;>rfl
 pyHash:=fun{A E s k v Q} hv h=>by
  rcases b_ hv with⟨i,t,rfl,rfl⟩|⟨x,t,rfl,rfl⟩|⟨rfl,rfl⟩
  ·exact wpAny_pyHash_int h
  ·exact wpAny_pyHash_str h
  ·refine PySem.W.pyHash_slot (T:="NoneType") rfl F.slot_NoneType_hash F.entry_NoneType_hash (F.args_NoneType_hash_1 _) (by rw[beq_builtin_none]) (.inl rfl) ?_;show wpAny _ _ (retInt 4238894112) _ _ _;refine pK (wpAny_ret_mkInt (Q:=fun v s'=>∃n t,v=Value.int n t/\Q (GW n) s') ⟨_,_,rfl,h⟩) (fun fin s' ⟨v,e,n,t,e2,q⟩=>⟨n,t,by rw[e,e2],q⟩) (fun _ _ z=>z)
 eqBool:=fun{A E s a b u v Q} hu hv h=>by
  rcases b_ hu with⟨i,t,rfl,rfl⟩|⟨x,t,rfl,rfl⟩|⟨rfl,rfl⟩
  ·rcases b_ hv with⟨j,u,rfl,rfl⟩|⟨y,u,rfl,rfl⟩|⟨rfl,rfl⟩
   ·exact(cE prog w).eqBool (a:=.inl i) (b:=.inl j) (nP i t) (nP j u) (by rw[show decide ((Sum.inl i:fR)=Sum.inl j)=decide ((some (Sum.inl i):pC)=some (Sum.inl j))from decide_eq_decide.mpr ⟨fun z=>by rw[z],fun z=>by injection z⟩];exact h)
   ·rw[zzr0 (by intro z;injection z with z;cases z)]at h;exact bx.int_str i t y u _ _ _ _ h
   ·rw[zzr0 (by intro z;cases z)]at h;exact bx.int_none i t _ _ _ _ h
  ·rcases b_ hv with⟨j,u,rfl,rfl⟩|⟨y,u,rfl,rfl⟩|⟨rfl,rfl⟩
   ·rw[zzr0 (by intro z;injection z with z;cases z)]at h;exact bx.str_int x t j u _ _ _ _ h
   ·exact(cE prog w).eqBool (a:=.inr x) (b:=.inr y) (nO x t) (nO y u) (by rw[show decide ((Sum.inr x:fR)=Sum.inr y)=decide ((some (Sum.inr x):pC)=some (Sum.inr y))from decide_eq_decide.mpr ⟨fun z=>by rw[z],fun z=>by injection z⟩];exact h)
   ·rw[zzr0 (by intro z;cases z)]at h;exact bx.str_none x t _ _ _ _ h
  ·rcases b_ hv with⟨j,u,rfl,rfl⟩|⟨y,u,rfl,rfl⟩|⟨rfl,rfl⟩
   ·rw[zzr0 (by intro z;cases z)]at h;exact bx.none_int j u _ _ _ _ h
   ·rw[zzr0 (by intro z;cases z)]at h;exact bx.none_str y u _ _ _ _ h
   ·rw[zzr1 rfl]at h;exact bx.same _ _ _ _ _ h
 «strs»:=fun k x t v h=>by
  rcases b_ h with⟨i,u,rfl,e⟩|⟨y,u,rfl,e⟩|⟨rfl,e⟩
  ·exact nomatch e
  ·injection e with e1 _;subst e1;cases v<;>rfl
  ·exact nomatch e
inductive TK where
 |k (a:pC)
 |t (l:List TK)
mutual
def KI:(x y:TK)->Decidable (x=y)
 |.k a,.k b=>if h:a=b then Decidable.isTrue (by rw[h])else Decidable.isFalse fun e=>h (by injection e)
 |.t l,.t m=>match decTKs l m with
  |Decidable.isTrue h=>Decidable.isTrue (by rw[h])
  |Decidable.isFalse h=>Decidable.isFalse fun e=>h (by injection e)
 |.k _,.t _=>Decidable.isFalse nofun
 |.t _,.k _=>Decidable.isFalse nofun
def decTKs:(x y:List TK)->Decidable (x=y)
 |[],[]=>Decidable.isTrue rfl
 |[],_::_=>Decidable.isFalse nofun
 |_::_,[]=>Decidable.isFalse nofun
 |a::l,b::m=>match KI a b with
  |Decidable.isTrue h=>match decTKs l m with
   |Decidable.isTrue h'=>Decidable.isTrue (by rw[h,h'])
   |Decidable.isFalse h'=>Decidable.isFalse fun e=>h' (by injection e)
  |Decidable.isFalse h=>Decidable.isFalse fun e=>h (by injection e)
end
instance:DecidableEq TK:=KI
mutual
def TK.depth:TK->Nat
 |.k _=>0
 |.t l=>TK.depths l+1
def TK.depths:List TK->Nat
 |[]=>0
 |a::r=>max (TK.depth a) (TK.depths r)
end
mutual
def TK.hash(w:World):TK->Int
 |.k a=>KB w a
 |.t l=>GW (Cv (TK.hashs w l))
def TK.hashs(w:World):List TK->List Int
 |[]=>[]
 |a::r=>TK.hash w a::TK.hashs w r
end
mutual
def TK.draws:TK->Nat
 |.k _=>1
 |.t l=>TK.drawss l+1
def TK.drawss:List TK->Nat
 |[]=>0
 |a::r=>TK.draws a+TK.drawss r
end
mutual
def n_(h:Heap):TK->Value->Prop
 |.k a,v=>jF a v=true
 |.t l,v=>∃a o items n,v=.ref a/\h.get? a=some o/\o.cls=.type "tuple"/\o.data=.seq items n/\TAts h l items.toList
def TAts(h:Heap):List TK->List Value->Prop
 |[],vs=>vs=[]
 |k::r,vs=>∃v us,vs=v::us/\n_ h k v/\TAts h r us
end
theorem n_.inj{h:Heap}:∀(d:Nat) {x y:TK}{v:Value},x.depth<=d->n_ h x v->n_ h y v->x=y:=by
 have A:∀(d:Nat) (w:∀{x y:TK}{v:Value},x.depth<=d->n_ h x v->n_ h y v->x=y) (p j:List TK) (q:Zf),TK.depths p<=d->TAts h p q->TAts h j q->p=j:=by
  intro d w p
  induction p with
  |nil =>
   intro j q _ g f;have B:q=[]:=g;subst B;cases j with
   |nil=>rfl
   |cons y j=>obtain⟨_,_,e,_⟩:=f;cases e
  |cons x p C =>
   intro j q r g f;obtain⟨v,N,rfl,D,E⟩:=g;cases j with
   |nil=>have G:v::N=[]:=f;cases G
   |cons y j =>
    obtain⟨v',Q,e,H,I⟩:=f;cases e;have T:max x.depth (TK.depths p)<=d:=r;rw[w (by omega) D H,C j N (by omega) E I]
 have i:∀(a:pC) (l:List TK) (v:Value),n_ h (.k a) v->n_ h (.t l) v->False:=by
  intro a l v s J;obtain⟨b,o,items,n,rfl,_⟩:=J;rcases b_ (show jF a (.ref b)=true from s)with⟨_,_,_,e⟩|⟨_,_,_,e⟩|⟨_,e⟩<;>cases e
 have O:∀(a b:pC) (v:Value),jF a v=true->jF b v=true->a=b:=fun a b v s J=>vv s J;intro d
 induction d with
 |zero =>
  intro x y v r g f;cases x with
  |t l=>exact absurd r (by show ¬(TK.depths l+1<=0);omega)
  |k a =>
   cases y with
   |k b=>rw[O a b v g f]
   |t l=>exact(i a l v g f).elim
 |succ d w =>
  intro x y v r g f;cases x with
  |k a =>
   cases y with
   |k b=>rw[O a b v g f]
   |t l=>exact(i a l v g f).elim
  |t l =>
   cases y with
   |k b=>exact(i b l v f g).elim
   |t U =>
    obtain⟨a,o,items,n,rfl,Y,hc,L,hi⟩:=g;obtain⟨a',o',z,n',e,u,al,m,M⟩:=f;cases e;rw[Y]at u;cases u;rw[L]at m;injection m with e1 _;subst e1;rw[A d (fun s=>w s) l U items.toList (by have:TK.depths l+1<=d+1:=r;omega) hi M]
theorem n_.mono{h j:Heap}(k:∀a o items n,h.get? a=some o->o.cls=.type "tuple"->o.data=.seq items n->j.get? a=some o):∀(d:Nat) {x:TK}{v:Value},x.depth<=d->n_ h x v->n_ j x v:=by
 have q:∀(d:Nat) (m:∀{x:TK}{v:Value},x.depth<=d->n_ h x v->n_ j x v) (f:List TK) (p:Zf),TK.depths f<=d->TAts h f p->TAts j f p:=by
  intro d m f
  induction f with
  |nil=>intro p _ e;exact e
  |cons x f r =>
   intro p g e;obtain⟨v,w,rfl,s,u⟩:=e;have z:max x.depth (TK.depths f)<=d:=g;exact⟨v,w,rfl,m (by omega) s,r w (by omega) u⟩
 intro d
 induction d with
 |zero =>
  intro x v g e;cases x with
  |t l=>exact absurd g (by show ¬(TK.depths l+1<=0);omega)
  |k a=>exact e
 |succ d m =>
  intro x v g e;cases x with
  |k a=>exact e
  |t l =>
   obtain⟨a,o,items,n,rfl,A,y,i,B⟩:=e;exact⟨a,o,items,n,rfl,k a o items n A y i,y,i,q d (fun C=>m C) l _ (by have:TK.depths l+1<=d+1:=g;omega) B⟩
section
variable{prog:cn}{w:World}
theorem Jf:∀(d:Nat) {A:Around}{E:Zc}{s:Shared}{k:TK}{v:Value}{Q:Int->Shared->Prop},k.depth<=d->A.units+d<cLine->n_ s.heap k v->Q (k.hash w) { s with toks:=s.toks+k.draws } ->
  wpAny (model prog w) A (pyHash v) Q E s:=by
 intro d
 induction d with
 |zero =>
  intro A E s k v Q C hu u h;cases k with
  |t l=>exact absurd C (by show ¬(TK.depths l+1<=0);omega)
  |k a=>exact(Bx prog w).pyHash (k:=a) u h
 |succ d ih =>
  intro A E s k v Q C hu u h;cases k with
  |k a=>exact(Bx prog w).pyHash (k:=a) u h
  |t l =>
   obtain⟨a,o,items,n,rfl,U,hc,D,hi⟩:=u;have y:s.TypeIs (.ref a) "tuple":=⟨o,U,hc⟩;have G:TK.depths l<=d:=by have:TK.depths l+1<=d+1:=C;omega
   unfold pyHash
   first|unfold pyHashByItsType|skip
   first|refine ak (wpAny_cRoomFor_or (.inr (by omega)) ?_)|skip
   refine ak (Fo y F.slot_tuple_hash.lookup ?_);show wpAny _ _ (if(some (Value.builtin "tuple.__hash__")==some Value.none)=true then _ else _) Q E s
   rw[if_neg (by rw[beq_builtin_none];exact iB)];refine ak (Fo y F.slot_tuple_hash.lookup ?_);show wpAny _ _ (callSpecialIfBoundUnlessNone? (.ref a) "__hash__" _ >>= _) Q E s;refine ak (wpAny_callSpecialIfBoundUnlessNone?_slot y F.slot_tuple_hash (ug F.slot_tuple_hash y F.entry_tuple_hash ?_ (F.args_tuple_hash_1 _)));show wpAny _ _ (bQ.Tuple.tupleItemsOf (.ref a) >>= _) _ _ s;refine ak (wpAny_tupleItemsOf U D ?_);refine ak ?_;rw[<-I_];refine wpAny_forIn_list _
    (fun g (b:Array Int) H=>∃done left,l=done++left/\TAts s.heap left g/\b.toList=TK.hashs w done/\H={ s with toks:=s.toks+TK.drawss done })
    _ ?_ ?_ _ _ ⟨[],l,rfl,hi,rfl,rfl⟩
   ·rintro x g b H ⟨done,left,e,z,j,rfl⟩;cases left with
    |nil=>have I:x::g=[]:=z;cases I
    |cons f left =>
     obtain⟨x',J,L,h1,Y⟩:=z;cases L;have M:f.depth<=d:=by
      have gen:∀(p:List TK),TK.depths (p++f::left)<=d->f.depth<=d:=by
       intro p
       induction p with
       |nil=>intro N;have O:max f.depth (TK.depths left)<=d:=N;omega
       |cons q p i=>intro N;have O:max q.depth (TK.depths (p++f::left))<=d:=N;exact i (by omega)
      exact gen done (by rw[<-e];exact G)
     have T:TK.hashs w (done++[f])=TK.hashs w done++[f.hash w]:=by
      clear e j
      induction done with
      |nil=>rfl
      |cons q p i=>show _::TK.hashs w (p++[f])=_;rw[i];rfl
     have m:TK.drawss (done++[f])=TK.drawss done+f.draws:=by
      clear e j T
      induction done with
      |nil=>show f.draws+0=0+f.draws;omega
      |cons q p i=>show q.draws+TK.drawss (p++[f])=q.draws+TK.drawss p+f.draws;rw[i];omega
     refine ak (ih (k:=f) M (by show A.units+1+d<cLine;omega) h1 ?_)
     first
      |exact aP ⟨done++[f],left,by rw[e];simp,Y,by rw[T];simp[j],by rw[m];simp[Ep]⟩
      |exact ak (aP (aP ⟨done++[f],left,by rw[e];simp,Y,by rw[T];simp[j],by rw[m];simp[Ep]⟩))
   ·rintro b H ⟨done,left,e,z,j,rfl⟩;cases left with
    |cons f left=>obtain⟨_,_,L,_⟩:=z;cases L
    |nil =>
     rw[dO]at e;subst e;show wpAny _ _ (retInt (Cv b.toList)) _ _ _;rw[j];refine wpAny_ret_mkInt ?_;have r:Q (GW (Cv (TK.hashs w l))) { s with toks:=s.toks+(TK.drawss l+1) }:=h;show wpAny _ _ (if(decide (-(2:Int) ^ 63<=Cv (TK.hashs w l)) && decide (Cv (TK.hashs w l)<2 ^ 63))=true then _ else _) Q E _
     unfold GW at r;by_cases B:(decide (-(2:Int) ^ 63<=Cv (TK.hashs w l)) && decide (Cv (TK.hashs w l)<2 ^ 63))=true
     ·rw[if_pos B];rw[if_pos B]at r;exact aP (by simpa[Ep]using r)
     ·rw[if_neg B];rw[if_neg B]at r;exact ak (oj (aP (by simpa[Ep]using r)))
theorem Fv(d:Nat)(ih:∀{A:Around}{E:Zc}{s:Shared}{x y:TK}{u v:Value}{Q:Bool->Shared->Prop},x.depth<=d->y.depth<=d->A.units+d<cLine->n_ s.heap x u->n_ s.heap y v->Q (decide (x=y)) s->wpAny (model prog w) A (eqBool u v) Q E s)
  {A:Around}{E:Zc}{s:Shared}{x y:List TK}{a b:Addr}{P:Fin->Shared->Prop}{oa L:Obj}{q t:Array Value}{na nb:Nat}(hx:TK.depths x<=d) (hy:TK.depths y<=d) (hu:A.units+d<cLine)
  (N:s.heap.get? a=some oa) (O:oa.data=.seq q na) (T:TAts s.heap x q.toList) (B:s.heap.get? b=some L) (U:L.cls=.type "tuple") (Y:L.data=.seq t nb) (al:TAts s.heap y t.toList)
  (h:P (.done (.ret (.bool (decide (x=y))))) s):wpAny (model prog w) A (bQ.«tuple.__eq__» ⟨[.ref a,.ref b],[]⟩) P E s:=by
 have an:s.TypeIs (.ref b) "tuple":=⟨L,B,U⟩;show wpAny _ _ (isInstance (.ref b) (.type "tuple") >>= _) _ _ s;refine ak (AL an isSubtype_tuple_tuple ?_);simp only[Eo,kB,if_false];refine ak (wpAny_tupleItemsOf N O ?_);refine ak (wpAny_tupleItemsOf B Y ?_);refine ak ?_;refine wpAny_forIn_list _
  (fun l r M=>r.1=none/\M=s/\∃n m xs' f,l=List.zip xs' f/\TAts s.heap n xs'/\TAts s.heap m f/\TK.depths n<=d/\TK.depths m<=d/\decide (n=m)=decide (x=y)/\(xs'.length==f.length)=(q.size==t.size))
  _ ?_ ?_ _ _ ⟨rfl,rfl,x,y,q.toList,t.toList,rfl,T,al,hx,hy,rfl,by simp⟩
 ·rintro⟨u,v⟩ l r M ⟨hr,rfl,n,m,xs',f,z,j,g,dx,dy,i,k⟩;cases n with
  |nil =>
   have e:xs'=[]:=j;subst e;simp at z
  |cons k1 o =>
   obtain⟨u',C,rfl,h1,D⟩:=j;cases m with
   |nil =>
    have e:f=[]:=g;subst e;simp at z
   |cons k2 p =>
    obtain⟨v',G,rfl,h2,H⟩:=g;simp only[List.zip_cons_cons,List.cons.injEq,Prod.mk.injEq]at z;obtain⟨⟨rfl,rfl⟩,rfl⟩:=z;have ap:max k1.depth (TK.depths o)<=d:=dx;have as:max k2.depth (TK.depths p)<=d:=dy;refine ak (ih (x:=k1) (y:=k2) (by omega) (by omega) hu h1 h2 ?_);by_cases hk:k1=k2
    ·subst hk;rw[zzr1 rfl];simp only[Eo,kB,if_false];refine aP ⟨rfl,rfl,o,p,C,G,rfl,D,H,by omega,by omega,?_,by simpa using k⟩;rw[<-i];by_cases I:o=p
     ·simp[I]
     ·simp[I]
    ·rw[zzr0 hk];simp only[Bool.not_false,if_true];have hf:decide (x=y)=false:=by rw[<-i];simp[hk]
     rw[hf]at h;exact ak (aP (aP (aP h)))
 ·rintro⟨r1,r2⟩ M ⟨hr,rfl,n,m,xs',f,z,j,g,dx,dy,i,k⟩;simp only at hr;subst hr;refine aP ?_;have J:(q.size==t.size)=decide (x=y):=by
   rw[<-i,<-k];cases n with
   |nil =>
    have e:xs'=[]:=j;subst e;cases m with
    |nil=>have e:f=[]:=g;subst e;simp
    |cons _ _=>obtain⟨_,_,rfl,_⟩:=g;simp
   |cons _ _ =>
    obtain⟨_,_,rfl,_⟩:=j;cases m with
    |nil=>have e:f=[]:=g;subst e;simp
    |cons _ _=>obtain⟨_,_,rfl,_⟩:=g;simp at z
  show P (.done (.ret (.bool (q.size==t.size)))) M;rw[J];exact h
theorem LA:∀(d:Nat) {A:Around}{E:Zc}{s:Shared}{x y:TK}{u v:Value}{Q:Bool->Shared->Prop},x.depth<=d->y.depth<=d->A.units+d<cLine->n_ s.heap x u->n_ s.heap y v->Q (decide (x=y)) s ->
  wpAny (model prog w) A (eqBool u v) Q E s:=by
 have j:∀{A:Around}{E:Zc}{s:Shared}{a:pC}{l:List TK}{u v:Value}{Q:Bool->Shared->Prop},A.units<cLine->n_ s.heap (.k a) u->n_ s.heap (.t l) v->Q false s->wpAny (model prog w) A (eqBool u v) Q E s:=by
  intro A E s a l u v Q p f g h;obtain⟨b,o,items,n,rfl,M,N,r,hi⟩:=g;have B:s.heap.IsTuple b items:=⟨o,M,N,n,r⟩;rcases b_ (show jF a u=true from f)with⟨i,t,rfl,rfl⟩|⟨i,t,rfl,rfl⟩|⟨rfl,rfl⟩
  ·exact bx.int_tuple i t B p prog w E Q h
  ·exact bx.str_tuple i t B p prog w E Q h
  ·exact bx.none_tuple B p prog w E Q h
 have q:∀{A:Around}{E:Zc}{s:Shared}{a:pC}{l:List TK}{u v:Value}{Q:Bool->Shared->Prop},A.units<cLine->n_ s.heap (.t l) u->n_ s.heap (.k a) v->Q false s->wpAny (model prog w) A (eqBool u v) Q E s:=by
  intro A E s a l u v Q p f g h;obtain⟨b,o,items,n,rfl,M,N,r,hi⟩:=f;have B:s.heap.IsTuple b items:=⟨o,M,N,n,r⟩;rcases b_ (show jF a v=true from g)with⟨i,t,rfl,rfl⟩|⟨i,t,rfl,rfl⟩|⟨rfl,rfl⟩
  ·exact bx.tuple_int i t B p prog w E Q h
  ·exact bx.tuple_str i t B p prog w E Q h
  ·exact bx.tuple_none B p prog w E Q h
 have leaves:∀{A:Around}{E:Zc}{s:Shared}{a b:pC}{u v:Value}{Q:Bool->Shared->Prop},n_ s.heap (.k a) u->n_ s.heap (.k b) v->Q (decide (TK.k a=TK.k b)) s->wpAny (model prog w) A (eqBool u v) Q E s:=by
  intro A E s a b u v Q f g h;refine(Bx prog w).eqBool (a:=a) (b:=b) f g ?_;by_cases e:a=b
  ·subst e;simpa using h
  ·have:¬(TK.k a=TK.k b):=fun z=>e (by injection z);rw[zzr0 this]at h;rw[zzr0 e];exact h
 intro d
 induction d with
 |zero =>
  intro A E s x y u v Q C D p f g h;cases x with
  |t l=>exact absurd C (by show ¬(TK.depths l+1<=0);omega)
  |k a =>
   cases y with
   |t l=>exact absurd D (by show ¬(TK.depths l+1<=0);omega)
   |k b=>exact leaves f g h
 |succ d ih =>
  intro A E s x y u v Q C D p f g h;cases x with
  |k a =>
   cases y with
   |k b=>exact leaves f g h
   |t l =>
    rw[zzr0 (by intro z;cases z)]at h;exact j (by omega) f g h
  |t l =>
   cases y with
   |k b =>
    rw[zzr0 (by intro z;cases z)]at h;exact q (by omega) f g h
   |t m =>
    have hl:TK.depths l<=d:=by have:TK.depths l+1<=d+1:=C;omega
    have hm:TK.depths m<=d:=by have:TK.depths m+1<=d+1:=D;omega
    have O:=f;have T:=g;obtain⟨a,oa,xs,na,rfl,H,U,Y,al⟩:=f;obtain⟨b,ob,ys,nb,rfl,I,J,an,ap⟩:=g;have L:s.TypeIs (.ref a) "tuple":=⟨oa,H,U⟩;have as:s.TypeIs (.ref b) "tuple":=⟨ob,I,J⟩;have aC:decide (TK.t l=TK.t m)=decide (l=m):=by
     by_cases e:l=m
     ·subst e;simp
     ·have:¬(TK.t l=TK.t m):=fun z=>e (by injection z);rw[zzr0 this,zzr0 e]
    unfold eqBool
    try with_reducible refine jm ?_
    show wpAny _ _ (if(Value.ref a==Value.ref b)=true then _ else _) Q E s
    by_cases G:(Value.ref a==Value.ref b)=true
    ·rw[if_pos G];have e:a=b:=by have:=eq_of_beq G;injection this
     subst e;have e2:TK.t l=TK.t m:=n_.inj _ (aD _) O T;rw[zzr1 e2]at h;exact ak (oj (aP h))
    ·rw[if_neg G];rw[aC]at h;exact ak (wpAny_richCompare_same_room (op:=.Eq) L as F.slot_tuple_eq
      (ug F.slot_tuple_eq L F.entry_tuple_eq (Fv d (fun h1 h2 h3 h4 h5 h6=>ih h1 h2 h3 h4 h5 h6) hl hm (by show A.units+1+d<cLine;omega) H Y al I J an ap ⟨_,rfl,(fun e=>nomatch e),sE h⟩) (F.args_tuple_eq_2 _ _)) (by omega))
theorem G7:∀(d:Nat) {A:Around}{E:Zc}{s:Shared}{k:TK}{v:Value}{Q:Bool->Shared->Prop},k.depth<=d->n_ s.heap k v->Q true s->wpAny (model prog w) A (eqIsQuiet d v) Q E s:=by
 intro d
 induction d with
 |zero =>
  intro A E s k v Q j i h;cases k with
  |t l=>exact absurd j (by show ¬(TK.depths l+1<=0);omega)
  |k a=>rw[eqIsQuiet_byValue _ ((Bx prog w).byValue a v i)];exact aP h
 |succ d D =>
  intro A E s k v Q j i h;cases k with
  |k a=>rw[eqIsQuiet_byValue _ ((Bx prog w).byValue a v i)];exact aP h
  |t l =>
   have G:TK.depths l<=d:=by have:TK.depths l+1<=d+1:=j;omega
   obtain⟨a,o,items,n,rfl,y,H,m,I⟩:=i;have z:s.TypeIs (.ref a) "tuple":=⟨o,y,H⟩;unfold eqIsQuiet;refine ak (Fo z F.slot_tuple_eq.lookup ?_);show wpAny _ _ (isInstance (.ref a) (.type "tuple") >>= _) _ _ s;refine ak (AL z isSubtype_tuple_tuple ?_);simp only[Eo,kB,if_false];refine ak (iY y m ?_);refine ak ?_;show wpAny _ _ (forIn items _ _) _ _ s;rw[<-I_];refine wpAny_forIn_list _ (fun f r p=>r.1=none/\p=s/\∃left,TAts s.heap left f/\TK.depths left<=d) _ ?_ ?_ _ _ ⟨rfl,rfl,l,I,G⟩
   ·rintro v f r p ⟨q,rfl,left,g,u⟩;cases left with
    |nil=>have e:v::f=[]:=g;cases e
    |cons B left =>
     obtain⟨M,x,e,J,L⟩:=g;cases e;have C:max B.depth (TK.depths left)<=d:=u;refine ak (D (k:=B) (by omega) J ?_);simp only[Eo,kB,if_false];exact aP ⟨rfl,rfl,left,L,by omega⟩
   ·rintro⟨N,O⟩ p ⟨q,rfl,_⟩;simp only at q;subst q;exact aP h
def eW(prog:cn)(w:World):HeapKind prog w TK where
 is:=fun h k a=>n_ h k (.ref a)/\k.depth<=8
 hash:=TK.hash w
 draws:=TK.draws
 room:=fun A=>A.units+8<cLine
 inj:=fun hx hy=>n_.inj 8 hx.2 hx.1 hy.1
 keeps:=fun{h h' k a d o es ep} x ho hd hs=>⟨n_.mono (fun b ob items n hb _ hdb=>(hs.2 b fun e=>by
  subst e;rw[ho]at hb;cases hb;rw[hd]at hdb;cases hdb).trans hb) 8 x.2 x.1,x.2⟩
 pyHash:=fun hu hk h=>Jf 8 hk.2 hu hk.1 h
 eqBool:=fun hu hx hy h=>LA 8 hx.2 hy.2 hu hx.1 hy.1 h
 quiet:=fun hk h=>G7 8 hk.2 hk.1 h
end
end L2
namespace L2
open PySem PySem.Spec PyProof.Rows
inductive V where
 |non|bl (b:Bool)|int (i:Int)|str (x:Str)|byt (b:Array UInt8)|flt (b:UInt64)|ref (a:Addr)|ty (n:String)
 deriving DecidableEq
def RelV:V->Value->Prop
 |.non,u=>u=Value.none
 |.bl b,u=>u=Value.bool b
 |.int i,u=>∃t,u=Value.int i t
 |.str x,u=>∃t,u=Value.str x t
 |.byt b,u=>∃t,u=Value.bytes b t
 |.flt b,u=>∃t,u=Value.float b t
 |.ref a,u=>u=Value.ref a
 |.ty n,u=>u=Value.type n
abbrev bb:List V->List Value->Prop:=Paired RelV
theorem bb.length{a:List V}{e:Zf}(r:bb a e):a.length=e.length:=Paired.length r
theorem bb.get:∀{a:List V}{f:Zf}{i:Nat}{x:V},bb a f->a[i]?=some x->∃u,f[i]?=some u/\RelV x u
 |_,_,_,_,.nil,e=>by simp at e
 |_,_,0,_,.cons r _,e=>by simp at e;subst e;exact⟨_,rfl,r⟩
 |_,_,i+1,x,.cons _ t,e=>by
  obtain⟨u,g,h⟩:=bb.get (i:=i) (x:=x) t (by simpa using e);exact⟨u,by simpa using g,h⟩
theorem bb.set{x:V}{u:Value}(r:RelV x u):∀{a:List V}{e:Zf}(i:Nat),bb a e->bb (a.set i x) (e.set i u)
 |_,_,_,.nil=>.nil
 |_,_,0,.cons _ t=>.cons r t
 |_,_,i+1,.cons q t=>.cons q (bb.set r i t)
theorem bb.append:∀{a e:List V}{f g:Zf},bb a f->bb e g->bb (a++e) (f++g)
 |_,_,_,_,.nil,s=>s
 |_,_,_,_,.cons r t,s=>.cons r (bb.append t s)
theorem bb.take:∀{a:List V}{e:Zf}(n:Nat),bb a e->bb (a.take n) (e.take n)
 |_,_,0,_=>.nil
 |_,_,_+1,.nil=>.nil
 |_,_,n+1,.cons r t=>.cons r (bb.take n t)
theorem bb.drop:∀{a:List V}{e:Zf}(n:Nat),bb a e->bb (a.drop n) (e.drop n)
 |_,_,0,r=>r
 |_,_,_+1,.nil=>.nil
 |_,_,n+1,.cons _ t=>bb.drop n t
def mw:Option V->Option Value->Prop
 |some v,some u=>RelV v u
 |none,none=>True
 |_,_=>False
def KV{κ:Type}:List (κ×V)->List (κ×Value)->Prop:=Paired fun(p:κ×V) (q:κ×Value)=>p.1=q.1/\RelV p.2 q.2
def kV:fR->V
 |.inl i=>.int i
 |.inr x=>.str x
def KD:pC->V
 |none=>.non
 |some k=>kV k
inductive HO where
 |lst (xs:List V)
 |tup (xs:List V)
 |dK (kvs:List (fR×V))|dT (kvs:List (TK×V))
 |set (S:Int->Bool) (n:Nat)
 |ins (C dx:Addr) (fs:List (Str×V))
 |own (x:Addr)
 |xd (fs:List (Str×V))
 |met (f x:Addr)
 |rng (lo hi:Int)
 |frz (o:Obj) (u:HO)
 |tbl (ps:Array Value)
 |ext (φ:Heap->Prop)
abbrev Hp:=Addr->Option HO
mutual
def cU(H:Hp):TK->V->Prop
 |.k a,v=>v=KD a
 |.t l,v=>∃b xs,v=.ref b/\H b=some (.tup xs)/\TKAts H l xs
def TKAts(H:Hp):List TK->List V->Prop
 |[],vs=>vs=[]
 |k::r,vs=>∃v us,vs=v::us/\cU H k v/\TKAts H r us
end
def cF(K:Za)(H:Hp)(a:Addr)(xs:List V):Prop :=
 H a=some (.tup xs)∨∃(o:Obj) (its:Array Value) (n:Nat),K.lookup a=some o/\o.cls=.type "tuple"/\o.data=.seq its n/\its.size<=aj/\bb xs its.toList
theorem cF.keeps{K:Za}{H e:Hp}{a:Addr}{xs:List V}(h:cF K H a xs)(f:∀b xs,H b=some (.tup xs)->e b=some (.tup xs)):cF K e a xs:=h.imp (f a xs) id
mutual
def sU(K:Za)(H:Hp):TK->V->Prop
 |.k a,v=>v=KD a
 |.t l,v=>∃b xs,v=.ref b/\cF K H b xs/\TKCs K H l xs
def TKCs(K:Za)(H:Hp):List TK->List V->Prop
 |[],vs=>vs=[]
 |k::r,vs=>∃v us,vs=v::us/\sU K H k v/\TKCs K H r us
end
theorem sU.keeps{K:Za}{H g:Hp}(q:∀b xs,H b=some (.tup xs)->g b=some (.tup xs)):∀(d:Nat) {k:TK}{v:V},k.depth<=d->sU K H k v->sU K g k v:=by
 have j:∀(d:Nat) (h:∀{k:TK}{v:V},k.depth<=d->sU K H k v->sU K g k v) (xs:List TK) (i:List V),TK.depths xs<=d->TKCs K H xs i->TKCs K g xs i:=by
  intro d h xs
  induction xs with
  |nil=>intro i _ e;exact e
  |cons x xs m =>
   intro i f e;obtain⟨v,p,rfl,n,o⟩:=e;have r:max x.depth (TK.depths xs)<=d:=f;exact⟨v,p,rfl,h (by omega) n,m p (by omega) o⟩
 intro d
 induction d with
 |zero =>
  intro k v f e;cases k with
  |t l=>exact absurd f (by show ¬(TK.depths l+1<=0);omega)
  |k a=>exact e
 |succ d h =>
  intro k v f e;cases k with
  |k a=>exact e
  |t l =>
   obtain⟨b,xs,rfl,s,u⟩:=e;exact⟨b,xs,rfl,s.keeps q,j d (fun w=>h w) l xs (by have:TK.depths l+1<=d+1:=f;omega) u⟩
theorem cU.c{K:Za}{H:Hp}:∀(d:Nat) {k:TK}{v:V},k.depth<=d->cU H k v->sU K H k v:=by
 have j:∀(d:Nat) (h:∀{k:TK}{v:V},k.depth<=d->cU H k v->sU K H k v) (e:List TK) (i:List V),TK.depths e<=d->TKAts H e i->TKCs K H e i:=by
  intro d h e
  induction e with
  |nil=>intro i _ f;exact f
  |cons x e m =>
   intro i g f;obtain⟨v,p,rfl,n,o⟩:=f;have q:max x.depth (TK.depths e)<=d:=g;exact⟨v,p,rfl,h (by omega) n,m p (by omega) o⟩
 intro d
 induction d with
 |zero =>
  intro k v g f;cases k with
  |t l=>exact absurd g (by show ¬(TK.depths l+1<=0);omega)
  |k a=>exact f
 |succ d h =>
  intro k v g f;cases k with
  |k a=>exact f
  |t l =>
   obtain⟨b,e,rfl,r,s⟩:=f;exact⟨b,e,rfl,.inl r,j d (fun u=>h u) l e (by have:TK.depths l+1<=d+1:=g;omega) s⟩
def upd(H:Hp)(a:Addr)(o:HO):Hp:=fun b=>if b=a then some o else H b
theorem aa{H:Hp}{a:Addr}{o:HO}:upd H a o a=some o:=by unfold upd;rw[if_pos rfl]
theorem ai{H:Hp}{a b:Addr}{o:HO}(h:b≠a):upd H a o b=H b:=by unfold upd;rw[if_neg h]
theorem tS{H:Hp}{a:Addr}{o u:HO}:upd (upd H a o) a u=upd H a u:=by
 funext b;unfold upd;split<;>rfl
theorem HY{H:Hp}{a b:Addr}{o u:HO}(h:H a=some o)(f:H b=some u)(d:o≠u):a≠b:=by
 intro e;subst e;rw[h]at f;exact d (fM f)
theorem ae{H:Hp}{a b:Addr}{o:HO}(h:H a=some o)(f:H b=none):a≠b:=by
 intro e;subst e;rw[h]at f;cases f
section
variable(P:cn)(w:World)(K:Za)
def cy(H:Hp)(h:Heap)(a:Addr):HO->Prop
 |.lst xs=>xs.length<=aj/\∃(its:Zf) (n:Nat),bb xs its/\h.get? a=some { cls:=.type "list",data:=.seq its.toArray n }
 |.tup xs=>xs.length<=aj/\∃its:List Value,bb xs its/\IsTup h a its.toArray
 |.dK kvs=>kvs.length<=aj/\(a==iX)=false/\∃vs,KV kvs vs/\h.DictOf (cE P w) a vs
 |.dT kvs=>kvs.length<=aj/\(a==iX)=false/\∃xs:List (TK×Addr×Value),
   Paired (fun(p:TK×V) (q:TK×Addr×Value)=>p.1=q.1/\sU K H p.1 (.ref q.2.1)/\p.1.depth<=8/\RelV p.2 q.2.2) kvs xs /\
   ∃o es ep,h.get? a=some o/\o.ExactDict/\o.data=.dict es ep/\es.toList=xs.map (entryOfKey (eW P w))/\(xs.map (·.1)).Nodup
 |.set S n=>h.SetOf (intKind P w) a S n
 |.ins C dx fs=>H dx=some (.own a)/\fs.length<=1000/\dx≠a/\h.get? a=some (sD C dx) /\
   ∃mA,h.Ns1 dx mA/\(∀f,mw (fs.lookup f) (mA f))/\PySem.Within mA (fs.map (·.1))
 |.own _=>∃o,h.get? a=some o
 |.xd fs=>∃mA,h.Ns1 a mA/\∀f,mw (fs.lookup f) (mA f)
 |.rng lo hi=>∃t u v,h.get? a=some { cls:=.type "range",data:=.fields #[.int lo t,.int hi u,.int 1 v] }
 |.frz o u=>h.get? a=some o/\cy H h a u
 |.tbl ps=>h.get? a=some { cls:=.none,data:=.fields ps }
 |.met f x=>h.get? a=some (PySem.W.methodObj (.ref f) (.ref x))
 |.ext φ=>φ h/\(∃o,h.get? a=some o)/\∀h1 h2:Heap,φ h1->(∀o,h1.get? a=some o->h2.get? a=some o)->φ h2
def nS(H:Hp)(h:Heap):Prop:=∀a o,H a=some o->cy P w K H h a o
end
section
variable{P:cn}{w:World}{K:Za}{H H':Hp}{h h':Heap}{a:Addr}{o:HO}
theorem cy.lt(x:cy P w K H h a o):a<h.objs.size:=by
 cases o with
 |lst i=>obtain⟨_,_,_,_,e⟩:=x;exact aI e
 |tup i=>obtain⟨_,_,_,p⟩:=x;exact p.lt
 |dK g=>obtain⟨_,_,_,_,o,_,_,e,_⟩:=x;exact aI e
 |dT g=>obtain⟨_,_,_,_,o,_,_,e,_⟩:=x;exact aI e
 |set S n=>obtain⟨o,_,_,_,e,_⟩:=x;exact aI e
 |ins C j fs=>obtain⟨_,_,_,e,_⟩:=x;exact aI e
 |own y=>obtain⟨_,e⟩:=x;exact aI e
 |xd fs=>obtain⟨_,⟨_,_,_,e,_⟩,_⟩:=x;exact aI e
 |rng lo k=>obtain⟨_,_,_,e⟩:=x;exact aI e
 |frz l u=>obtain⟨e,_⟩:=x;exact aI e
 |tbl m=>exact aI (show h.get? a=some _ from x)
 |met f y=>exact aI (show h.get? a=some _ from x)
 |ext φ=>obtain⟨_,⟨_,e⟩,_⟩:=x;exact aI e
theorem Paired.mapP{α β:Type}{F G:α->β->Prop}:∀{e:List α}{g:List β},Paired F e g->(∀a b,F a b->G a b)->Paired G e g
 |_,_,.nil,_=>.nil
 |_,_,.cons r t,f=>.cons (f _ _ r) (Paired.mapP t f)
theorem cy.stay(x:cy P w K H h a o)(k:∀b u,(b=a∨H b=some (.own a))->h.get? b=some u->h'.get? b=some u)
  (E:∀b,H b=some (.own a)->H' b=some (.own a)) (G:∀b m,H b=some (.tup m)->H' b=some (.tup m)):cy P w K H' h' a o:=by
 induction o with
 |lst m=>obtain⟨z,l,n,r,e⟩:=x;exact⟨z,l,n,r,k _ _ (.inl rfl) e⟩
 |tup m=>obtain⟨z,l,r,g,e,c⟩:=x;exact⟨z,l,r,g,k _ _ (.inl rfl) e,c⟩
 |dK s=>obtain⟨z,y,I,r,g,i,j,e,c⟩:=x;exact⟨z,y,I,r,g,i,j,k _ _ (.inl rfl) e,c⟩
 |dT s =>
  obtain⟨z,y,m,r,g,i,j,e,c⟩:=x;exact⟨z,y,m,Paired.mapP r fun p q z=>⟨z.1,sU.keeps G 8 z.2.2.1 z.2.1,z.2.2⟩,g,i,j,k _ _ (.inl rfl) e,c⟩
 |set S n=>obtain⟨g,i,j,t,e,c⟩:=x;exact⟨g,i,j,t,k _ _ (.inl rfl) e,c⟩
 |ins C M fs =>
  obtain⟨d,z,ne,e,A,⟨B,i,j,J,c⟩,r⟩:=x;exact⟨E _ d,z,ne,k _ _ (.inl rfl) e,A,⟨B,i,j,k _ _ (.inr d) J,c⟩,r⟩
 |own y=>obtain⟨g,e⟩:=x;exact⟨g,k _ _ (.inl rfl) e⟩
 |xd fs=>obtain⟨A,⟨B,i,j,e,c⟩,r⟩:=x;exact⟨A,⟨B,i,j,k _ _ (.inl rfl) e,c⟩,r⟩
 |rng lo N=>obtain⟨t,u,v,e⟩:=x;exact⟨t,u,v,k _ _ (.inl rfl) e⟩
 |frz g u L=>obtain⟨e,q⟩:=x;exact⟨k _ _ (.inl rfl) e,L q⟩
 |tbl D =>
  have e:h.get? a=some { cls:=.none,data:=.fields D }:=x;show h'.get? a=some { cls:=.none,data:=.fields D };exact k a _ (.inl rfl) e
 |met f y =>
  have e:h.get? a=some (PySem.W.methodObj (.ref f) (.ref y)):=x;show h'.get? a=some (PySem.W.methodObj (.ref f) (.ref y));exact k a _ (.inl rfl) e
 |ext φ=>obtain⟨p,⟨o,e⟩,st⟩:=x;exact⟨st _ _ p fun o q=>k _ _ (.inl rfl) q,⟨o,k _ _ (.inl rfl) e⟩,st⟩
theorem nS.lt(x:nS P w K H h)(e:H a=some o):a<h.objs.size:=(x a o e).lt
theorem nS.fresh(x:nS P w K H h)(e:h.objs.size<=a):H a=none:=by
 cases q:H a with
 |none=>rfl
 |some u=>exact absurd (da (x.lt q) e) (kA _)
theorem nS.kept(x:nS P w K H h)(k:∀b u,h.get? b=some u->h'.get? b=some u):nS P w K H h':=fun a o e =>
 (x a o e).stay (fun b u _ q=>k b u q) (fun _ q=>q) fun _ _ q=>q
theorem nS.laid(x:nS P w K H h)(k:∀b u,h.get? b=some u->h'.get? b=some u)(i:h.objs.size<=a)(new:cy P w K (upd H a o) h' a o):nS P w K (upd H a o) h':=fun b u e=>by
 have f:=x.fresh i;by_cases g:b=a
 ·subst g;rw[aa]at e;cases e;exact new
 ·rw[ai g]at e;exact(x b u e).stay (fun c v _ q=>k c v q) (fun c q=>by rw[ai (ae q f)];exact q) fun c j q=>by rw[ai (ae q f)];exact q
end
def Rd(H:Hp)(a:Addr)(u:HO):Prop:=H a=some u∨∃o,H a=some (.frz o u)
theorem Rd.ok{P:cn}{w:World}{K:Za}{H:Hp}{h:Heap}{a:Addr}{u:HO}(r:Rd H a u)(x:nS P w K H h):cy P w K H h a u:=by
 rcases r with r|⟨o,r⟩
 ·exact x a u r
 ·obtain⟨_,q⟩:=x a _ r;exact q
def Md:Option HO->Prop
 |some (.lst _)=>True
 |some (.dK _)=>True
 |some (.dT _)=>True
 |some (.set _ _)=>True
 |some (.ins _ _ _)=>True
 |some (.ext _)=>True
 |_=>False
section
variable{P:cn}{w:World}{K:Za}{H:Hp}{h h':Heap}{x e:Addr}{o':HO}
theorem nS.write(ok:nS P w K H h)(i:Md (H x))(n:e=x∨H e=some (.own x))(k:∀b u,b≠e->h.get? b=some u->h'.get? b=some u)(m:∃u,h'.get? e=some u)
  (new:cy P w K (upd H x o') h' x o'):nS P w K (upd H x o') h':=fun b u q=>by
 have f:∀c y,H c=some (.own y)->c≠x:=fun c y r z=>by subst z;rw[r]at i;exact i
 have g:∀c j,H c=some (.tup j)->c≠x:=fun c j r z=>by subst z;rw[r]at i;exact i
 by_cases l:b=x
 ·subst l;rw[aa]at q;cases q;exact new
 ·rw[ai l]at q;by_cases a:b=e
  ·have o:H b=some (.own x):=by
    rcases n with z|z
    ·exact absurd (a.trans z) l
    ·rw[a];exact z
   rw[q]at o;cases o;obtain⟨v,p⟩:=m;exact⟨v,by rw[a];exact p⟩
  ·refine(ok b u q).stay (fun c v hc r=>k c v ?_ r) (fun c r=>by rw[ai (f c b r)];exact r) fun c j r=>by rw[ai (g c j r)];exact r
   rcases hc with rfl|hc
   ·exact a
   ·rintro rfl;rcases n with z|z
    ·exact f c b hc z
    ·rw[hc]at z;cases z;exact l rfl
end
structure Un(fs ex:Ze)(H H':Hp)(h h':Heap):Prop where
 keep:∀b o,h.get? b=some o->H b=none->b∉fs->b∉ex->h'.get? b=some o
 slot:∀b o,h.get? b=some o->H b=none->b∈fs->b∉ex->∃sl,h'.get? b=some { o with slots:=sl }
 free:∀b o,h.get? b=some o->H b=none->b∉ex->H' b=none
 there:∀b o,h.get? b=some o->b∉ex->∃o',h'.get? b=some o'
 tups:∀b xs,H b=some (.tup xs)->H' b=some (.tup xs)
 frzs:∀b o u,H b=some (.frz o u)->H' b=some (.frz o u)
 tbls:∀b ps,H b=some (.tbl ps)->∃more,H' b=some (.tbl (ps++more))
section
variable{fs fs' ex ex':Ze}{H H1 H2:Hp}{h h1 h2 h':Heap}{a x e:Addr}{o:HO}
theorem Un.any(u:Un fs ex H H1 h h1){b:Addr}{ob:Obj}(q:h.get? b=some ob)(n:H b=none)(f:b∉ex):∃i,h1.get? b=some { ob with slots:=i }:=by
 by_cases g:b∈fs
 ·exact u.slot b ob q n g f
 ·exact⟨ob.slots,u.keep b ob q n g f⟩
theorem Un.kept(k:∀b u,h.get? b=some u->h'.get? b=some u):Un fs ex H H h h' :=
 ⟨fun b f q _ _ _=>k b f q,fun b f q _ _ _=>⟨f.slots,k b f q⟩,fun _ _ _ n _=>n,fun b f q _=>⟨f,k b f q⟩,fun _ _ q=>q,fun _ _ _ q=>q,fun _ g q=>⟨#[],by rw[q];simp⟩⟩
theorem Un.refl:Un fs ex H H h h:=Un.kept fun _ _ q=>q
theorem Un.laid(k:∀b u,h.get? b=some u->h'.get? b=some u)(g:h.objs.size<=a)(f:H a=none):Un fs ex H (upd H a o) h h' where
 keep:=fun b u q _ _ _=>k b u q
 slot:=fun b u q _ _ _=>⟨u.slots,k b u q⟩
 free:=fun b u q n _=>by rw[ai (bX (da (aI q) g))];exact n
 there:=fun b u q _=>⟨u,k b u q⟩
 tups:=fun b i q=>by rw[ai (ae q f)];exact q
 frzs:=fun b u i q=>by rw[ai (ae q f)];exact q
 tbls:=fun b j q=>⟨#[],by rw[ai (ae q f),q];simp⟩
theorem Un.write(g:Md (H x))(p:e=x∨H e=some (.own x))(k:∀b u,b≠e->h.get? b=some u->h'.get? b=some u)(i:∃u,h'.get? e=some u):Un fs ex H (upd H x o) h h':=by
 have l:∀b,H b=none->b≠x:=fun b n z=>by subst z;rw[n]at g;exact g
 have m:∀b,H b=none->b≠e:=fun b n z=>by
  subst z;rcases p with r|r
  ·exact l b n r
  ·rw[n]at r;cases r
 have j:∀b u,H b=some u->¬Md (some u)->b≠x:=fun b u q s z=>by subst z;rw[q]at g;exact s g
 refine⟨fun b u q n _ _=>k b u (m b n) q,fun b u q n _ _=>⟨u.slots,k b u (m b n) q⟩,fun b u q n _=>by rw[ai (l b n)];exact n,fun b u q _=>?_,
  fun b t q=>by rw[ai (j b _ q fun z=>z)];exact q,fun b u t q=>by rw[ai (j b _ q fun z=>z)];exact q,fun b v q=>⟨#[],by rw[ai (j b _ q fun z=>z),q];simp⟩⟩
 by_cases f:b=e
 ·subst f;exact i
 ·exact⟨u,k b u f q⟩
end
def Ms(h:Heap)(H:Hp):List Addr:=(mm h.objs.size).filter fun a=>(H a).isSome
def Ad(h:Heap)(H:Hp):Heap:=PySem.W.hideAll h (Ms h H)
theorem Gm(h:Heap)(H:Hp):(Ad h H).objs.size=h.objs.size:=PySem.W.hideAll_size _ _
theorem Iq{h:Heap}{H:Hp}{b:Addr}{o:Obj}(e:h.get? b=some o)(n:H b=none):(Ad h H).get? b=some o :=
 PySem.W.hideAll_get _ e fun a=>by
  have q:(H b).isSome=true:=(fU.mp a).2;rw[n]at q;simp at q
theorem JP{h:Heap}{H:Hp}{b:Addr}{o:Obj}(e:(Ad h H).get? b=some o):h.get? b=some o/\H b=none:=by
 have a:h.get? b=some o:=PySem.W.of_hideAll (Ms h H) e;refine⟨a,?_⟩;cases q:H b with
 |none=>rfl
 |some x =>
  have f:b∈Ms h H:=fU.mpr ⟨List.mem_range.mpr (aI a),by simp[q]⟩;have z:(Ad h H).get? b=none:=PySem.W.hideAll_none (Ms h H) f;rw[z]at e;cases e
end L2
namespace L2
open PySem PySem.Spec PyProof.Rows
structure Mod(K:Za)(mg:Str->Option Value)(base:Heap):Prop where
 kin:K.In base
 glob:base.Ns bW mg
 blt:∃mb,base.Ns builtinsNs mb/\∀x:Str,x≠"__name__"->mb x=jf x
 nolimit:base.NoLimit
structure Cx where
 prog:cn
 w:World
 K:Za
 mg:Str->Option Value
 base:Heap
 A:Around
 N:List Str
 s₀:Shared
 H₀:Hp
 env:Env
 outer:List Env
 stack:List Env
 ex:List Addr
 fn:Str->Bool
 calm:Bool
 pn:List (Addr×Obj)
 xe:Value->Shared->Prop
def GU(l:List Env):List Addr:=l.filterMap (·.frame)
abbrev Cx.fs(X:Cx):List Addr:=GU X.outer
def Mv(sc:Scope)(x:Str):Prop:=sc.names.lookup x=some .local∨sc.names.lookup x=some .cell∨sc.names.lookup x=some .free
def Loc(sc:Scope)(x:Str):Prop:=sc.names.lookup x=some .local∨sc.names.lookup x=some .cell
def Look(env:Env)(h:Heap)(m:Str->Option Value)(x:Str)(u:Value):Prop :=
 (env.kindOf x=some .local/\m x=some u)∨((env.kindOf x=some .cell∨env.kindOf x=some .free)/\∃c,env.cells.lookup x=some c/\h.IsCell c (some u))
structure Cx.Ok(X:Cx):Prop where
 mod:Mod X.K X.mg X.base
 kind:X.env.scope.kind=.function
 glob:X.env.globals=bW
 blt:X.env.builtins=builtinsNs
 above:X.s₀.heap.objs.size<=X.env.locals
 inj:∀x y c,X.env.cells.lookup x=some c->X.env.cells.lookup y=some c->x=y
 has:∀x,(X.env.kindOf x=some .cell∨X.env.kindOf x=some .free)->∃c,X.env.cells.lookup x=some c
 cab:∀x c,X.fn x=true->X.env.cells.lookup x=some c->X.s₀.heap.objs.size<=c
 hd:X.calm=true->X.A.handled=none
 frames:X.A.frames=some X.stack
 stk:X.stack=X.outer∨(X.stack=X.env::X.outer/\X.env.frame=some X.env.locals)
 exf:∀b∈X.ex,b≠X.env.locals/\∀x c,X.env.cells.lookup x=some c->c≠b
 bs:∀b o,X.base.get? b=some o->X.s₀.heap.get? b=some o/\X.H₀ b=none
 bsz:X.base.objs.size<=X.s₀.heap.objs.size
 noex:∀b o,X.base.get? b=some o->b∉X.ex
 exfs:∀b∈X.ex,b∉X.fs
 funs:X.s₀.heap.FunFrames X.base X.outer
 frf:∀b∈X.fs,X.H₀ b=none
structure Inv(X:Cx)(J3:Zd)(σ:List (Option V))(H:Hp)(s:Shared):Prop where
 ok:X.Ok
 os:s.os=X.s₀.os
 bare:pJ s.gens
 base:Un X.fs X.ex X.H₀ H X.s₀.heap s.heap
 loc:∃m,s.heap.Ns X.env.locals m/\∀(i:Nat) (x:Str) (v:V),X.N[i]?=some x->σ[i]?=some (some v)->Mv X.env.scope x->∃u,RelV v u/\Look X.env s.heap m x u
 cell:∀x c,X.env.cells.lookup x=some c->∃v,s.heap.IsCell c v
 free:H X.env.locals=none
 freeC:∀x c,X.env.cells.lookup x=some c->H c=none
 pin:∀p∈X.pn++J3,s.heap.get? p.1=some p.2/\H p.1=none/\p.1≠X.env.locals/\p.1∉X.fs/\∀v,p.2.data≠.cell v
 hok:nS X.prog X.w X.K H s.heap
 len:σ.length=X.N.length
section
variable{X:Cx}{J3:Zd}{σ:List (Option V)}{H H':Hp}{s:Shared}{h':Heap}
theorem Cx.Ok.nofr(ok:X.Ok){b:Addr}{o:Obj}(e:X.base.get? b=some o):b∉X.fs:=fun a=>by
 have:=(ok.funs.mem a).1;rw[e]at this;cases this
theorem Inv.bs(I:Inv X J3 σ H s):∀b o,X.base.get? b=some o->s.heap.get? b=some o/\H b=none:=fun b o e =>
 ⟨I.base.keep b o (I.ok.bs b o e).1 (I.ok.bs b o e).2 (I.ok.nofr e) (I.ok.noex b o e),I.base.free b o (I.ok.bs b o e).1 (I.ok.bs b o e).2 (I.ok.noex b o e)⟩
theorem Inv.bk(I:Inv X J3 σ H s):∀b o,X.base.get? b=some o->s.heap.get? b=some o:=fun b o e=>(I.bs b o e).1
theorem Inv.mod(I:Inv X J3 σ H s):Mod X.K X.mg X.base:=I.ok.mod
theorem Inv.kIn(I:Inv X J3 σ H s):X.K.In s.heap:=I.ok.mod.kin.keeps I.bk
theorem Inv.lt(I:Inv X J3 σ H s):X.env.locals<s.heap.objs.size:=let⟨_,a,_⟩:=I.loc;a.lt
theorem Inv.sz(I:Inv X J3 σ H s):X.s₀.heap.objs.size<=s.heap.objs.size:=aB I.ok.above (cV I.lt)
theorem Inv.nofs(I:Inv X J3 σ H s){a:Addr}(h:s.heap.objs.size<=a):a∉X.fs:=fun e=>by
 obtain⟨_,o,f,_⟩:=I.ok.funs.mem e;exact absurd (da (aI f) (aB I.sz h)) (kA _)
theorem Inv.cne(I:Inv X J3 σ H s):∀x c,X.env.cells.lookup x=some c->c≠X.env.locals:=fun x c e z=>by
 obtain⟨v,o,g,h⟩:=I.cell x c e;obtain⟨m,⟨i,j,k,a,f,_⟩,_⟩:=I.loc;rw[z,a]at g;cases g;rw[f]at h;cases h
theorem Inv.funs(I:Inv X J3 σ H s):s.heap.FunFrames X.base X.outer:=by
 have all:∀(l:List Env),(∀b∈GU l,b∈X.fs)->X.s₀.heap.FunFrames X.base l->s.heap.FunFrames X.base l:=by
  intro l
  induction l with
  |nil=>intro _ _;trivial
  |cons i r j =>
   intro h k;obtain⟨m,⟨L,o,a,n,p,q⟩,t⟩:=k;have f:L∈X.fs:=h L (by unfold GU;rw[w6,a];exact cW);obtain⟨u,e⟩:=I.base.slot L o p (I.ok.frf L f) f fun z=>I.ok.exfs L z f;exact⟨m,⟨L,_,a,n,e,q⟩,j (fun b g=>h b (by unfold GU;rw[w6,a];exact c_ _ g)) t⟩
 exact all X.outer (fun _ g=>g) I.ok.funs
theorem Inv.stack(I:Inv X J3 σ H s):s.heap.FunFrames X.base X.stack:=by
 rcases I.ok.stk with e|⟨e,a⟩
 ·rw[e];exact I.funs
 ·rw[e];obtain⟨m,f,_⟩:=I.loc;refine .cons (by rw[I.ok.kind];decide) a f ?_ I.funs;exact Heap.get?_none_of_le (aB I.ok.bsz I.ok.above)
theorem Inv.stkSub(I:Inv X J3 σ H s):∀b∈GU X.stack,b∈X.env.locals::X.fs:=fun b a=>by
 rcases I.ok.stk with e|⟨e,f⟩
 ·rw[e]at a;exact c_ _ a
 ·rw[e]at a;unfold GU at a;rw[w6,f]at a;exact a
theorem Inv.stkFree(I:Inv X J3 σ H s):∀b∈GU X.stack,H b=none:=fun b hb=>by
 rcases cu.mp (I.stkSub b hb)with e|hb
 ·rw[e];exact I.free
 ·obtain⟨_,o,a,_⟩:=I.ok.funs.mem hb;exact I.base.free b o a (I.ok.frf b hb) fun z=>I.ok.exfs b z hb
theorem Inv.step{g':Array GenState}{t':Nat}{d':Drawn}{ch:Ze}(I:Inv X J3 σ H s)
  (f:∀b∈ch,(b∈X.ex∨X.s₀.heap.objs.size<=b)/\b≠X.env.locals/\(∀x c,X.env.cells.lookup x=some c->c≠b)/\∀p∈X.pn++J3,p.1≠b)
  (keep:∀b o,b≠X.env.locals->b∉X.fs->b∉ch->s.heap.get? b=some o->H b=none->h'.get? b=some o)
  (t:∀b o,b≠X.env.locals->b∈X.fs->b∉ch->s.heap.get? b=some o->H b=none->∃N,h'.get? b=some { o with slots:=N }) (free:∀b o,b∉ch->s.heap.get? b=some o->H b=none->H' b=none)
  (there:∀b o,b∉ch->s.heap.get? b=some o->∃C,h'.get? b=some C)
  (D:∀b y,H b=some (.tup y)->H' b=some (.tup y)) (E:∀b o u,H b=some (.frz o u)->H' b=some (.frz o u)) (G:∀b M,H b=some (.tbl M)->∃more,H' b=some (.tbl (M++more)))
  (ns:∀m,s.heap.Ns X.env.locals m->h'.Ns X.env.locals m) (O:nS X.prog X.w X.K H' h') (hg:pJ g') :
  Inv X J3 σ H' { s with heap:=h',gens:=g',drawn:=d',toks:=t' }:=by
 have J:∀b o,X.s₀.heap.get? b=some o->b≠X.env.locals:=fun b o e=>bX (da (aI e) I.ok.above);have h:∀b o,X.s₀.heap.get? b=some o->b∉X.ex->b∉ch:=fun b o e a A=>by
  rcases(f b A).1 with z|z
  ·exact a z
  ·exact absurd (da (aI e) z) (kA _)
 have cellK:∀x c,X.env.cells.lookup x=some c->∀v,s.heap.IsCell c v->h'.IsCell c v:=fun x c e v ⟨o,B,Q⟩=>by
  have g:c∉ch:=fun z=>(f c z).2.2.1 x c e rfl;by_cases U:c∈X.fs
  ·obtain⟨N,q⟩:=t c o (I.cne x c e) U g B (I.freeC x c e);exact⟨_,q,Q⟩
  ·exact⟨o,keep c o (I.cne x c e) U g B (I.freeC x c e),Q⟩
 refine⟨I.ok,I.os,hg,⟨fun b o e n A a=>?_,fun b o e n A a=>?_,fun b o e n a=>?_,fun b o e a=>?_,fun b y e=>D b y (I.base.tups b y e),fun b o y e=>E b o y (I.base.frzs b o y e),fun b M e=>?_⟩,?_,fun x c e=>?_,?_,fun x c e=>?_,fun p Y=>?_,O,I.len⟩
 ·exact keep b o (J b o e) A (h b o e a) (I.base.keep b o e n A a) (I.base.free b o e n a)
 ·obtain⟨N,j⟩:=I.base.slot b o e n A a;obtain⟨T,L⟩:=t b _ (J b o e) A (h b o e a) j (I.base.free b o e n a);exact⟨T,L⟩
 ·obtain⟨C,j⟩:=I.base.there b o e a;exact free b C (h b o e a) j (I.base.free b o e n a)
 ·obtain⟨C,j⟩:=I.base.there b o e a;exact there b C (h b o e a) j
 ·obtain⟨m1,j⟩:=I.base.tbls b M e;obtain⟨m2,L⟩:=G b _ j;exact⟨m1++m2,by rw[L,Array.append_assoc]⟩
 ·obtain⟨m,hn,hl⟩:=I.loc;refine⟨m,ns m hn,fun i x v j L e3=>?_⟩;obtain⟨u,r,l⟩:=hl i x v j L e3;refine⟨u,r,?_⟩;rcases l with l|⟨k,c,e,z⟩
  ·exact .inl l
  ·exact .inr ⟨k,c,e,cellK x c e _ z⟩
 ·obtain⟨v,z⟩:=I.cell x c e;exact⟨v,cellK x c e v z⟩
 ·obtain⟨m,⟨o,_,_,B,_⟩,_⟩:=I.loc;exact free _ o (fun z=>(f _ z).2.1 rfl) B I.free
 ·obtain⟨v,o,B,Q⟩:=I.cell x c e;exact free c o (fun z=>(f c z).2.2.1 x c e rfl) B (I.freeC x c e)
 ·obtain⟨e,n,ne,nf,d⟩:=I.pin p Y;have g:p.1∉ch:=fun z=>(f p.1 z).2.2.2 p Y rfl;exact⟨keep p.1 p.2 ne nf g e n,free p.1 p.2 g e n,ne,nf,d⟩
theorem Inv.un{t':Nat}(I:Inv X J3 σ H s)(u:Un X.fs [] H H' s.heap h')(f:nS X.prog X.w X.K H' h'):Inv X J3 σ H' { s with heap:=h',toks:=t' }:=by
 obtain⟨m,⟨o,q,t,j,r⟩,_⟩:=id I.loc;obtain⟨v,k⟩:=u.any j I.free (by simp);exact I.step (g':=s.gens) (d':=s.drawn) (ch:=[]) (fun _ z=>nomatch z) (fun b o _ g _ e n=>u.keep b o e n g (by simp)) (fun b o _ g _ e n=>u.slot b o e n g (by simp)) (fun b o _ e n=>u.free b o e n (by simp)) (fun b o _ e=>u.there b o e (by simp)) u.tups u.frzs u.tbls (fun x l=>by
  obtain⟨y,h,i,a,p⟩:=l;rw[j]at a;cases a;exact⟨_,h,i,k,p⟩) f I.bare
theorem Inv.call{g':Array GenState}{t':Nat}{d':Drawn}{ch:Ze}(I:Inv X J3 σ H s)(u:Un (GU X.stack) ch H H' s.heap h')(h:nS X.prog X.w X.K H' h')(q:pJ g')
  (f:∀b∈ch,(b∈X.ex∨X.s₀.heap.objs.size<=b)/\b≠X.env.locals/\(∀x c,X.env.cells.lookup x=some c->c≠b)/\∀p∈X.pn++J3,p.1≠b) :
  Inv X J3 σ H' { s with heap:=h',gens:=g',drawn:=d',toks:=t' }:=by
 obtain⟨m,⟨o,A,B,l,r⟩,_⟩:=id I.loc;obtain⟨C,i⟩:=u.any l I.free fun z=>(f _ z).2.1 rfl;exact I.step (ch:=ch) f (fun b o i t a e n=>u.keep b o e n (fun z=>(cu.mp (I.stkSub b z)).elim i t) a) (fun b o _ _ a e n=>u.any e n a) (fun b o a e n=>u.free b o e n a) (fun b o a e=>u.there b o e a) u.tups u.frzs u.tbls (fun D v=>by
  obtain⟨E,j,k,g,y⟩:=v;rw[l]at g;cases g;exact⟨_,j,k,i,y⟩) h q
theorem Inv.turned{t':Nat}{it:Addr}(I:Inv X J3 σ H s)(k:∀b o,b≠it->s.heap.get? b=some o->h'.get? b=some o)(h:H it=none)(g:it≠X.env.locals)
  (i:it∈X.ex∨X.s₀.heap.objs.size<=it) (j:∀x c,X.env.cells.lookup x=some c->c≠it) (l:∀p∈X.pn++J3,p.1≠it):Inv X J3 σ H { s with heap:=h',toks:=t' }:=by
 have f:∀b u,H b=some u->b≠it:=fun b u e z=>by rw[z,h]at e;cases e
 refine I.step (g':=s.gens) (d':=s.drawn) (ch:=[it]) (fun b t=>?_) (fun b o _ _ a e _=>k b o (fun z=>a (by simp[z])) e) (fun b o _ _ a e _=>⟨o.slots,k b o (fun z=>a (by simp[z])) e⟩) (fun _ _ _ _ n=>n)
  (fun b o a e=>⟨o,k b o (fun z=>a (by simp[z])) e⟩) (fun _ _ e=>e) (fun _ _ _ e=>e) (fun b C e=>⟨#[],by rw[e];simp⟩) (fun m w=>?_) (fun b u e=>?_) I.bare
 ·have e:b=it:=by simpa using t
  subst e;exact⟨i,g,j,l⟩
 ·obtain⟨o,y,A,B,r⟩:=w;exact⟨o,y,A,k _ o (gx g) B,r⟩
 ·refine(I.hok b u e).stay (fun c v a q=>k c v ?_ q) (fun _ q=>q) fun _ _ q=>q;rcases a with z|z
  ·rw[z];exact f b u e
  ·exact f c _ z
theorem Inv.tok(I:Inv X J3 σ H s)(t:Nat):Inv X J3 σ H { s with toks:=t }:=I.un (h':=s.heap) (t':=t) Un.refl I.hok
theorem Inv.kept{t':Nat}(I:Inv X J3 σ H s)(k:∀b u,s.heap.get? b=some u->h'.get? b=some u):Inv X J3 σ H { s with heap:=h',toks:=t' }:=I.un (Un.kept k) (I.hok.kept k)
theorem Inv.laid{a:Addr}{o:HO}{t':Nat}(I:Inv X J3 σ H s)(k:∀b u,s.heap.get? b=some u->h'.get? b=some u)(e:s.heap.objs.size<=a)(new:cy X.prog X.w X.K (upd H a o) h' a o):
  Inv X J3 σ (upd H a o) { s with heap:=h',toks:=t' }:=I.un (Un.laid k e (I.hok.fresh e)) (I.hok.laid k e new)
theorem Inv.write{x e:Addr}{o:HO}{t':Nat}(I:Inv X J3 σ H s)(f:Md (H x))(g:e=x∨H e=some (.own x))(k:∀b u,b≠e->s.heap.get? b=some u->h'.get? b=some u)(a:∃u,h'.get? e=some u)
  (new:cy X.prog X.w X.K (upd H x o) h' x o):Inv X J3 σ (upd H x o) { s with heap:=h',toks:=t' }:=I.un (Un.write f g k a) (I.hok.write f g k a new)
theorem Inv.weak{σ':List (Option V)}(I:Inv X J3 σ H s)(e:σ'.length=σ.length)(w:∀(i:Nat) v,σ'[i]?=some (some v)->σ[i]?=some (some v)):Inv X J3 σ' H s :=
 ⟨I.ok,I.os,I.bare,I.base,let⟨m,f,a⟩:=I.loc;⟨m,f,fun i x v g h j=>a i x v g (w i v h) j⟩,I.cell,I.free,I.freeC,I.pin,I.hok,e.trans I.len⟩
theorem Inv.pins_of{a:Zd}(I:Inv X J3 σ H s)(h:∀p∈a,s.heap.get? p.1=some p.2/\H p.1=none/\p.1≠X.env.locals/\p.1∉X.fs/\∀v,p.2.data≠.cell v):Inv X a σ H s :=
 ⟨I.ok,I.os,I.bare,I.base,I.loc,I.cell,I.free,I.freeC,fun p e=>(bM.mp e).elim (fun z=>I.pin p (em _ z)) (h p),I.hok,I.len⟩
theorem Bu{N:Zb}(e:N.Nodup){i j:Nat}{x:Str}(a:N[i]?=some x)(b:N[j]?=some x):i=j:=by
 obtain⟨h,f⟩:=bN.mp a;obtain⟨k,g⟩:=bN.mp b;exact(List.getElem_inj e).mp (f.trans g.symm)
theorem xi{M:Model}{A:Around}{E:Zc}{i:Nat}{x:Str}{v:V}{u:Value}{Q:Unit->Shared->Prop}(I:Inv X J3 σ H s)(hN:X.N.Nodup)(C:X.N[i]?=some x)(l:Loc X.env.scope x)(r:RelV v u)
  (h:∀s',Inv X J3 (σ.set i (some v)) H s'->(∃a,iW a s.heap s'.heap/\(a=X.env.locals∨X.env.cells.lookup x=some a))->Q () s') (hf:X.fn x=true∨X.env.scope.names.lookup x=some .local:=by first|exact .inl rfl|exact .inr rfl|assumption):wpAny M A (storeName X.env x u) Q E s:=by
 obtain⟨m,hn,hl⟩:=id I.loc;have L:(X.env.scope.kind==.class || (X.env.scope.kind==.module && X.env.locals != X.env.globals))=false:=by rw[I.ok.kind];rfl
 have Cσ:i<σ.length:=by rw[I.len];exact(bN.mp C).1
 have cne:=I.cne;have tracked:∀{a:Addr}{h':Heap},(∃o,s.heap.get? a=some o/\H a=none)->iW a s.heap h'->nS X.prog X.w X.K H h':=fun{a h'} ha f b ob e=>by
  obtain⟨_,_,t⟩:=ha;refine(I.hok b ob e).stay (fun c w' hc q=>(f.2 c ?_).trans q) (fun _ q=>q) fun _ _ q=>q;rintro rfl;rcases hc with rfl|hc
  ·rw[t]at e;cases e
  ·rw[t]at hc;cases hc
 rcases l with hk|hk
 ·refine wpAny_storeName_local hk hn (fun h' al f=>?_) L;obtain⟨oL,_,_,an,_⟩:=id hn;refine h _ ⟨I.ok,I.os,I.bare,⟨fun b o e n D l=>?_,fun b o e n D l=>?_,I.base.free,fun b o e l=>?_,I.base.tups,I.base.frzs,I.base.tbls⟩,⟨_,al,fun j y v' g B e3=>?_⟩,fun y c e=>?_,I.free,I.freeC,fun p hp=>?_,tracked ⟨oL,an,I.free⟩ f,by simpa using I.len⟩ ⟨_,f,.inl rfl⟩
  ·exact(f.2 b (bX (da (aI e) I.ok.above))).trans (I.base.keep b o e n D l)
  ·obtain⟨sl,g⟩:=I.base.slot b o e n D l;exact⟨sl,(f.2 b (bX (da (aI e) I.ok.above))).trans g⟩
  ·obtain⟨o',g⟩:=I.base.there b o e l;exact⟨o',(f.2 b (bX (da (aI e) I.ok.above))).trans g⟩
  ·by_cases G:j=i
   ·subst G;rw[C]at g;cases g;rw[List.getElem?_set_self Cσ]at B;cases B;exact⟨u,r,.inl ⟨hk,by simp⟩⟩
   ·rw[List.getElem?_set_ne (gx G)]at B;obtain⟨u',r',q⟩:=hl j y v' g B e3;refine⟨u',r',?_⟩;rcases q with⟨k,e⟩|⟨k,c,e,z⟩
    ·refine .inl ⟨k,?_⟩;have:y≠x:=fun e=>G (Bu hN g (e▸C));simp[this,e]
    ·exact .inr ⟨k,c,e,z.sameBut f (cne y c e)⟩
  ·obtain⟨w',z⟩:=I.cell y c e;exact⟨w',z.sameBut f (cne y c e)⟩
  ·obtain⟨e,n,ne,nf,d⟩:=I.pin p hp;exact⟨(f.2 p.1 ne).trans e,n,ne,nf,d⟩
 ·have J:X.fn x=true:=by
   rcases hf with z|z
   ·exact z
   ·rw[z]at hk;cases hk
  obtain⟨c,hc⟩:=I.ok.has x (.inl hk);obtain⟨w',z⟩:=I.cell x c hc;refine wpAny_storeName_cell I.ok.kind hk hc z (fun h' O f=>?_);obtain⟨oc,T,U⟩:=id z;refine h { s with heap:=h' } ⟨I.ok,I.os,I.bare,⟨fun b o e n D l=>?_,fun b o e n D l=>?_,I.base.free,fun b o e l=>?_,I.base.tups,I.base.frzs,I.base.tbls⟩,⟨m,hn.sameBut f (gx (cne x c hc)),fun j y v' g B e3=>?_⟩,fun y c' e=>?_,I.free,I.freeC,fun p hp=>?_,tracked ⟨oc,T,I.freeC x c hc⟩ f,by simpa using I.len⟩ ⟨c,f,.inr hc⟩
  ·exact(f.2 b (bX (da (aI e) (I.ok.cab x c J hc)))).trans (I.base.keep b o e n D l)
  ·obtain⟨sl,g⟩:=I.base.slot b o e n D l;exact⟨sl,(f.2 b (bX (da (aI e) (I.ok.cab x c J hc)))).trans g⟩
  ·obtain⟨o',g⟩:=I.base.there b o e l;exact⟨o',(f.2 b (bX (da (aI e) (I.ok.cab x c J hc)))).trans g⟩
  ·by_cases G:j=i
   ·subst G;rw[C]at g;cases g;rw[List.getElem?_set_self Cσ]at B;cases B;exact⟨u,r,.inr ⟨.inl hk,c,hc,O⟩⟩
   ·rw[List.getElem?_set_ne (gx G)]at B;obtain⟨u',r',q⟩:=hl j y v' g B e3;refine⟨u',r',?_⟩;rcases q with q|⟨k,c',e,z'⟩
    ·exact .inl q
    ·refine .inr ⟨k,c',e,z'.sameBut f ?_⟩;rintro rfl;exact G (Bu hN g (I.ok.inj _ _ _ e hc▸C))
  ·by_cases Y:c'=c
   ·subst Y;exact⟨_,O⟩
   ·obtain⟨w2,z2⟩:=I.cell y c' e;exact⟨w2,z2.sameBut f Y⟩
  ·obtain⟨e,n,ne,nf,d⟩:=I.pin p hp;refine⟨(f.2 p.1 ?_).trans e,n,ne,nf,d⟩;intro q;rw[q,T]at e;have q':oc=p.2:=fM e;exact d w' (by rw[<-q'];exact U)
theorem uV{M:Model}{A:Around}{E:Zc}{i:Nat}{x:Str}{v:V}{u:Value}{Q:Unit->Shared->Prop}(I:Inv X J3 σ H s)(e:X.N.Nodup)(f:X.N[i]?=some x)(g:Loc X.env.scope x)(r:RelV v u)
  (h:∀a,Inv X J3 (σ.set i (some v)) H a->Q () a) (j:X.fn x=true∨X.env.scope.names.lookup x=some .local:=by first|exact .inl rfl|exact .inr rfl|assumption):wpAny M A (storeName X.env x u) Q E s :=
 xi I e f g r (fun a k _=>h a k) j
theorem Inv.call'{a:Shared}{h:Ze}(I:Inv X J3 σ H s)(i:a.os=s.os)(u:Un (GU X.stack) h H H' s.heap a.heap)(f:nS X.prog X.w X.K H' a.heap)(j:pJ a.gens)
  (g:∀b∈h,(b∈X.ex∨X.s₀.heap.objs.size<=b)/\b≠X.env.locals/\(∀x c,X.env.cells.lookup x=some c->c≠b)/\∀p∈X.pn++J3,p.1≠b):Inv X J3 σ H' a:=by
 obtain⟨h',k,l,m,n⟩:=a;have e:n=s.os:=i;subst e;exact I.call (g':=k) (t':=m) (d':=l) u f j g
end
abbrev XK:=Value->Option Addr->Hp->Prop
abbrev St:=List (Option V)
abbrev VK:=V->Hp->Prop
abbrev TE:=St->Hp->VK->Prop
abbrev TT:=St->Hp->(Bool->Hp->Prop)->Prop
abbrev TA:=St->Hp->(List V->Hp->Prop)->Prop
structure si where
 nx:St->Hp->Prop
 rt:VK
 bk:St->Hp->Prop:=fun _ _=>False
 ct:St->Hp->Prop:=fun _ _=>False
abbrev bo(Q:VK):si:={ nx:=fun _ H=>Q .non H,rt:=Q }
abbrev TS:=si->St->Hp->Prop
def EP(X:Cx)(J3:Zd)(σ:St)(Q:VK)(u:Value)(s':Shared):Prop:=∃v H',Inv X J3 σ H' s'/\RelV v u/\Q v H'
def TP(X:Cx)(J3:Zd)(σ:St)(Q:Bool->Hp->Prop)(b:Bool)(s':Shared):Prop:=∃H',Inv X J3 σ H' s'/\Q b H'
def AP(X:Cx)(J3:Zd)(σ:St)(Q:List V->Hp->Prop)(us:Zf)(s':Shared):Prop:=∃vs H',Inv X J3 σ H' s'/\bb vs us/\Q vs H'
def SP(X:Cx)(J3:Zd)(D:si)(f:Flow)(s':Shared):Prop :=
 match f with
 |.next=>∃σ' H',Inv X J3 σ' H' s'/\D.nx σ' H'
 |.brk=>∃σ' H',Inv X J3 σ' H' s'/\D.bk σ' H'
 |.cont=>∃σ' H',Inv X J3 σ' H' s'/\D.ct σ' H'
 |.ret u=>∃v σ' H',Inv X J3 σ' H' s'/\RelV v u/\D.rt v H'
def PE(X:Cx)(e:Expr)(t:TE):Prop :=
 ∀(J3:Zd) (s:Shared) (σ:St) (H:Hp) (Q:VK),Inv X J3 σ H s->t σ H Q->wpAny (model X.prog X.w) X.A (eval e X.env) (EP X J3 σ Q) X.xe s
def PT(X:Cx)(e:Expr)(t:TT):Prop :=
 ∀(J3:Zd) (s:Shared) (σ:St) (H:Hp) (Q:Bool->Hp->Prop),Inv X J3 σ H s->t σ H Q->wpAny (model X.prog X.w) X.A (isTrue e X.env (eval e X.env)) (TP X J3 σ Q) X.xe s
def PW(X:Cx)(e:Expr)(t:TT):Prop :=
 ∀(whole:Sem Value) (J3:Zd) (s:Shared) (σ:St) (H:Hp) (Q:Bool->Hp->Prop),Inv X J3 σ H s->t σ H Q->wpAny (model X.prog X.w) X.A (isTrue e X.env whole) (TP X J3 σ Q) X.xe s
theorem PW.pt{X:Cx}{e:Expr}{t:TT}(h:PW X e t):PT X e t:=h _
def PA(X:Cx)(es:List Expr)(t:TA):Prop :=
 ∀(pos:Pos) (J3:Zd) (s:Shared) (σ:St) (H:Hp) (Q:List V->Hp->Prop),Inv X J3 σ H s->t σ H Q->wpAny (model X.prog X.w) X.A (spliced (backTo pos (aM es X.env))) (AP X J3 σ Q) X.xe s
def PS(X:Cx)(st:Stmt)(t:TS):Prop :=
 ∀(J3:Zd) (s:Shared) (σ:St) (H:Hp) (D:si),Inv X J3 σ H s->t D σ H->wpAny (model X.prog X.w) X.A (exec st X.env) (SP X J3 D) X.xe s
def Ct(X:Cx)(st:List Stmt)(t:TS):Prop :=
 ∀(J3:Zd) (s:Shared) (σ:St) (H:Hp) (D:si),Inv X J3 σ H s->t D σ H->wpAny (model X.prog X.w) X.A (execs st X.env) (SP X J3 D) X.xe s
theorem cJ{α:Type}{t:Sem α}{Q e:α->Shared->Prop}{M:Model}{A:Around}{E:Zc}{s:Shared}(h:wpAny M A t Q E s)(f:∀a s,Q a s->e a s):wpAny M A t e E s:=pK h f fun _ _ x=>x
end L2
namespace L2
open PySem PySem.Spec PyProof.Rows
section
variable{X:Cx}
def oY(i:Nat):TE:=fun σ H Q=>∃v,σ[i]?=some (some v)/\Q v H
abbrev V0:TE:=oY 0
abbrev V1:TE:=oY 1
abbrev V2:TE:=oY 2
abbrev V3:TE:=oY 3
abbrev V4:TE:=oY 4
abbrev V5:TE:=oY 5
abbrev V6:TE:=oY 6
abbrev V7:TE:=oY 7
abbrev V8:TE:=oY 8
abbrev V9:TE:=oY 9
abbrev GJ:TE:=oY 10
abbrev Li:TE:=oY 11
abbrev Lu:TE:=oY 12
def tC(v:V):TE:=fun _ H Q=>Q v H
theorem K7{i:Nat}{x:Str}{g:Pos}(o:X.N[i]?=some x)(p:Mv X.env.scope x)(j:(x==("__debug__":Str))=false:=by decide)(k:(x==("__classdict__":Str))=false:=by decide):PE X (.Name x g) (oY i):=by
 intro J3 s σ H Q I h;obtain⟨v,e,h⟩:=h;obtain⟨m,q,t⟩:=I.loc;obtain⟨u,r,l⟩:=t i x v o e p;have f:EP X J3 σ Q u s:=⟨v,H,I,r,h⟩;rcases l with⟨hk,w⟩|⟨hk,c,n,a⟩
 ·exact wpAny_Name (wpAny_loadName_local I.ok.kind hk q w f) j
 ·rcases hk with hk|hk
  ·exact wpAny_Name (wpAny_loadName_cell I.ok.kind hk n a f) j
  ·exact wpAny_Name (wpAny_loadName_free I.ok.kind hk n a f k) j
theorem ag{i j a}:PE X (.Constant (.int i) j a) (tC (.int i)):=fun _ _ _ H _ I h=>wpAny_Constant_int ⟨.int i,H,I.tok _,⟨_,rfl⟩,h⟩
theorem kM{b j a}:PE X (.Constant (.bool b) j a) (tC (.bl b)):=fun _ _ _ H _ I h=>Constant_bool ⟨.bl b,H,I,rfl,h⟩
theorem gX{j a}:PE X (.Constant .none j a) (tC .non):=fun _ _ _ H _ I h=>Constant_none ⟨.non,H,I,rfl,h⟩
theorem bj{x j a}:PE X (.Constant (.str x) j a) (tC (.str x)):=fun _ _ _ H _ I h=>Calls.Constant_str ⟨.str x,H,I.tok _,⟨_,rfl⟩,h⟩
def Gl(X:Cx)(x:Str):Prop:=X.env.kindOf x=some .globalImplicit
theorem z5{E:Zc}{e:Zd}{s:Shared}{σ:St}{H:Hp}{x:Str}{u:Value}{a:Pos}{Q:Zc}(I:Inv X e σ H s)(f:Gl X x)(g:X.mg x=some u)(h:Q u s)
  (i:(x==("__debug__":Str))=false:=by decide):wpAny (model X.prog X.w) X.A (eval (.Name x a) X.env) Q E s :=
 Calls.Name_function_global I.ok.kind f (Calls.loadGlobal_global (by rw[I.ok.glob];exact I.mod.glob.keeps I.bk) g h) i
theorem iT{E:Zc}{e:Zd}{s:Shared}{σ:St}{H:Hp}{x:Str}{u:Value}{a:Pos}{Q:Zc}(I:Inv X e σ H s)(f:Gl X x)(g:X.mg x=none)(i:jf x=some u)(h:Q u s)
  (j:x≠"__name__":=by decide) (k:(x==("__debug__":Str))=false:=by decide):wpAny (model X.prog X.w) X.A (eval (.Name x a) X.env) Q E s:=by
 obtain⟨n,l,m⟩:=I.mod.blt;exact Calls.Name_function_global I.ok.kind f (Calls.loadGlobal_builtin (by rw[I.ok.glob];exact I.mod.glob.keeps I.bk) g (by rw[I.ok.blt];exact l.keeps I.bk) ((m x j).trans i) h) k
theorem JK{x:Str}{v:V}{u:Value}{a:Pos}(e:Gl X x)(f:X.mg x=some u)(r:RelV v u)(g:(x==("__debug__":Str))=false:=by decide):PE X (.Name x a) (tC v) :=
 fun _ _ _ H _ I h=>z5 I e f ⟨v,H,I,r,h⟩ g
theorem JN{x:Str}{v:V}{u:Value}{a:Pos}(e:Gl X x)(f:X.mg x=none)(g:jf x=some u)(r:RelV v u)(i:x≠"__name__":=by decide)(j:(x==("__debug__":Str))=false:=by decide):PE X (.Name x a) (tC v) :=
 fun _ _ _ H _ I h=>iT I e f g ⟨v,H,I,r,h⟩ i j
variable{a b:Expr}{ta tb:TE}{pos:Pos}
def PC(X:Cx)(op:CmpOp)(a b:Expr)(t:TE):Prop :=
 ∀(J3:Zd) (s:Shared) (σ:St) (H:Hp) (Q:VK),Inv X J3 σ H s->t σ H Q ->
  wpAny (model X.prog X.w) X.A (eval a X.env) (fun v s₁=>wpAny (model X.prog X.w) X.A (eval b X.env) (fun u s₂=>wpAny (model X.prog X.w) X.A (fT op v u) (EP X J3 σ Q) X.xe s₂) X.xe s₁) X.xe s
theorem Bv(b:Expr){e:CmpOp}(h:e≠.In)(f:e≠.NotIn):ml e b=false:=by
 have g:(e==CmpOp.In)=false:=by cases e<;>first|rfl|exact absurd rfl h
 have i:(e==CmpOp.NotIn)=false:=by cases e<;>first|rfl|exact absurd rfl f
 cases b<;>simp[ml,g,i]
def CL(ta:TE):TE:=fun σ H Q=>ta σ H fun x H1=>Q (.bl (decide (x=.non))) H1
def xh(ta:TE):TE:=fun σ H Q=>ta σ H fun x H1=>Q (.bl (!decide (x=.non))) H1
theorem RelV.none_iff{x:V}{v:Value}(r:RelV x v):(v==Value.none)=decide (x=.non):=by
 cases x with
 |non=>cases r;rfl
 |bl _=>cases r;rfl
 |int _=>obtain⟨t,rfl⟩:=r;rfl
 |str _=>obtain⟨t,rfl⟩:=r;rfl
 |byt _=>obtain⟨t,rfl⟩:=r;rfl
 |flt _=>obtain⟨t,rfl⟩:=r;rfl
 |ref _=>cases r;rfl
 |ty _=>cases r;rfl
theorem rL{j e}(f:PE X a ta):PC X .Is a (.Constant .none j e) (CL ta):=by
 intro g s σ H Q I h;refine cJ (f g s σ H _ I h) fun v n ⟨x,i,k,l,m⟩=>?_;exact Constant_none (is_none_gen ⟨.bl _,i,k,by rw[l.none_iff];rfl,m⟩)
theorem qh{j e}(f:PE X a ta):PC X .IsNot a (.Constant .none j e) (xh ta):=by
 intro g s σ H Q I h;refine cJ (f g s σ H _ I h) fun v n ⟨x,i,k,l,m⟩=>?_;exact Constant_none (isnot_none_gen ⟨.bl _,i,k,by rw[l.none_iff];rfl,m⟩)
def tB(t:TE):TT:=fun σ H Q=>t σ H fun x H1=>∃c,x=.bl c/\Q c H1
theorem K9{e:CmpOp}{t:TE}(h:PC X e a b t)(f:ml e b=false:=by first|exact Bv _ (by decide) (by decide)|rfl):PE X (.Compare a [e] [b] pos) t:=fun g s σ H Q I i=>wpAny_Compare1 (h g s σ H Q I i) f
theorem cN{e:CmpOp}{t:TE}(h:PC X e a b t)(f:ml e b=false:=by first|exact Bv _ (by decide) (by decide)|rfl):PT X (.Compare a [e] [b] pos) (tB t):=by
 intro g s σ H Q I i;refine wpAny_isTrue_Compare1 (cJ (h g s σ H _ I i) fun v o f=>cJ f fun u p j=>cJ j fun c r ⟨x,k,l,m,n⟩=>?_) f;obtain⟨d,rfl,q⟩:=n;cases m;exact sE ⟨k,l,q⟩
theorem o9{e:Expr}{t:TE}(h:PE X e t)(f:∀whole,isTrue e X.env whole=(do let v <- whole;sy e.pos;mj [v] (truthy v)):=by intro _;rfl):PT X e (tB t):=by
 intro g s σ H Q I i;refine isTrue_plain (cJ (h g s σ H _ I i) fun v n ⟨x,j,k,l,m⟩=>?_) (f _);obtain⟨d,rfl,q⟩:=m;cases l;exact sE ⟨j,k,q⟩
variable{tA tB':TT}{rest:List Expr}
def tF(t u:TT):TT:=fun σ H Q=>t σ H fun c H1=>if c=true then u σ H1 Q else Q false H1
def CK(t u:TT):TT:=fun σ H Q=>t σ H fun c H1=>if c=true then Q true H1 else u σ H1 Q
def Jk(t:TT):TT:=fun σ H Q=>t σ H fun c H1=>Q (!c) H1
theorem lG(f:PT X a tA):PW X (.BoolOp .And [a] pos) tA:=by
 intro i g s σ H Q I h;refine isTrue_and (cJ (f g s σ H Q I h) fun c j e=>?_);cases c with
 |true=>exact isTrue_and_nil e
 |false=>exact e
theorem jz(f:PT X a tA):PW X (.BoolOp .Or [a] pos) tA:=by
 intro i g s σ H Q I h;refine isTrue_or (cJ (f g s σ H Q I h) fun c j e=>?_);cases c with
 |false=>exact isTrue_or_nil e
 |true=>exact e
theorem lH(j:PT X a tA)(k:PW X (.BoolOp .And (b::rest) pos) tB'):PW X (.BoolOp .And (a::b::rest) pos) (tF tA tB'):=by
 intro l e s σ H Q I h;refine isTrue_and (cJ (j e s σ H _ I h) fun c m ⟨f,g,i⟩=>?_);cases c with
 |true=>exact k l e m σ f Q g i
 |false=>exact⟨f,g,i⟩
theorem jS(j:PT X a tA)(k:PW X (.BoolOp .Or (b::rest) pos) tB'):PW X (.BoolOp .Or (a::b::rest) pos) (CK tA tB'):=by
 intro l e s σ H Q I h;refine isTrue_or (cJ (j e s σ H _ I h) fun c m ⟨f,g,i⟩=>?_);cases c with
 |true=>exact⟨f,g,i⟩
 |false=>exact k l e m σ f Q g i
theorem Di(e:PT X a tA):PT X (.UnaryOp .Not a pos) (Jk tA):=by
 intro f s σ H Q I h;exact isTrue_not (e f s σ H (fun c g=>Q (!c) g) I h)
def A_(ta tb:TE):TE:=fun σ H Q=>ta σ H fun x H1=>∃c,x=.bl c/\if c=true then tb σ H1 Q else Q (.bl false) H1
theorem HL{e}{t:TE}(h:PE X a t):PE X (.BoolOp e [a] pos) t:=fun f s σ H Q I g=>BoolOp_one (h f s σ H Q I g)
theorem Do(j:PE X a ta)(k:PE X (.BoolOp .And (b::rest) pos) tb):PE X (.BoolOp .And (a::b::rest) pos) (A_ ta tb):=by
 intro f s σ H Q I h;refine BoolOp_and (cJ (j f s σ H _ I h) fun v l ⟨x,g,i,m,e⟩=>?_);obtain⟨c,rfl,e⟩:=e;cases m;refine sE ?_;cases c with
 |true=>exact k f l σ g Q i e
 |false=>exact⟨.bl false,g,i,rfl,e⟩
end
end L2
namespace L2
open PySem PySem.Spec PyProof.Rows
def aw(K:Za)(H:Hp)(a:Addr)(xs:List V):Prop :=
 Rd H a (.lst xs) ∨
  ∃(o:Obj) (its:Array Value) (n:Nat),K.lookup a=some o/\o.cls=.type "list"/\o.dict=none/\o.data=.seq its n/\its.size<=aj/\bb xs its.toList
def bP(K:Za)(H:Hp)(a:Addr)(xs:List V):Prop :=
 Rd H a (.tup xs) ∨
  ∃(o:Obj) (its:Array Value) (n:Nat),K.lookup a=some o/\o.cls=.type "tuple"/\o.data=.seq its n/\its.size<=aj/\bb xs its.toList
def absV:Value->Option V
 |.none=>some .non
 |.bool b=>some (.bl b)
 |.int i _=>some (.int i)
 |.str x _=>some (.str x)
 |.bytes b _=>some (.byt b)
 |.float b _=>some (.flt b)
 |.ref a=>some (.ref a)
 |.type n=>some (.ty n)
 |_=>none
theorem RelV.abs{x:V}{u:Value}(r:RelV x u):absV u=some x:=by
 cases x with
 |non=>cases r;rfl
 |bl _=>cases r;rfl
 |int _=>obtain⟨t,rfl⟩:=r;rfl
 |str _=>obtain⟨t,rfl⟩:=r;rfl
 |byt _=>obtain⟨t,rfl⟩:=r;rfl
 |flt _=>obtain⟨t,rfl⟩:=r;rfl
 |ref _=>cases r;rfl
 |ty _=>cases r;rfl
theorem RelV.inj{x y:V}{u:Value}(r:RelV x u)(q:RelV y u):x=y:=fM (r.abs.symm.trans q.abs)
theorem bb.inj:∀{a e:List V}{f:Zf},bb a f->bb e f->a=e
 |_,_,_,.nil,.nil=>rfl
 |_,_,_,.cons r t,.cons g h=>by rw[r.inj g,bb.inj t h]
section
variable{X:Cx}{J3:Zd}{σ:St}{H:Hp}{s:Shared}{a:Addr}{xs ys:List V}
theorem aw.of{K:Za}(h:H a=some (.lst xs)):aw K H a xs:=.inl (.inl h)
theorem bP.of{K:Za}(h:H a=some (.tup xs)):bP K H a xs:=.inl (.inl h)
theorem Inv.list(I:Inv X J3 σ H s)(h:aw X.K H a xs):∃f:List Value,bb xs f/\PlainL s.heap a f.toArray/\xs.length<=aj:=by
 rcases h with h|⟨o,f,n,g,i,j,k,l,r⟩
 ·obtain⟨z,f,n,r,e⟩:=h.ok I.hok;exact⟨f,r,⟨_,n,e,rfl,rfl,rfl⟩,z⟩
 ·refine⟨f.toList,r,⟨o,n,I.kIn a o g,i,j,by simpa using k⟩,?_⟩;have e:=r.length;simp only[mC]at e;omega
theorem Inv.tuple(I:Inv X J3 σ H s)(h:bP X.K H a xs):∃f:List Value,bb xs f/\IsTup s.heap a f.toArray/\xs.length<=aj:=by
 rcases h with h|⟨o,f,n,g,i,j,k,r⟩
 ·obtain⟨z,f,r,p⟩:=h.ok I.hok;exact⟨f,r,p,z⟩
 ·refine⟨f.toList,r,⟨o,I.kIn a o g,i,n,by simpa using j⟩,?_⟩;have e:=r.length;simp only[mC]at e;omega
theorem Inv.list_inj(I:Inv X J3 σ H s)(h:aw X.K H a xs)(k:aw X.K H a ys):xs=ys:=by
 obtain⟨g,r,⟨o,n,e,_,_,d⟩,_⟩:=I.list h;obtain⟨f,l,⟨p,q,i,_,_,j⟩,_⟩:=I.list k;rw[e]at i;cases i;rw[d]at j;injection j with m _;have:g=f:=by simpa using congrArg Array.toList m
 subst this;exact r.inj l
theorem Inv.tuple_inj(I:Inv X J3 σ H s)(h:bP X.K H a xs)(k:bP X.K H a ys):xs=ys:=by
 obtain⟨g,r,⟨o,e,_,n,d⟩,_⟩:=I.tuple h;obtain⟨f,l,⟨p,i,_,q,j⟩,_⟩:=I.tuple k;rw[e]at i;cases i;rw[d]at j;injection j with m _;have:g=f:=by simpa using congrArg Array.toList m
 subst this;exact r.inj l
end
abbrev Cx.wish(X:Cx)(E:Zc):Cx:={ X with xe:=E }
abbrev Cx.nox(X:Cx):Cx:=X.wish fun _ _=>False
theorem Cx.Ok.wish{X:Cx}(ok:X.Ok)(E:Zc):(X.wish E).Ok :=
 ⟨ok.mod,ok.kind,ok.glob,ok.blt,ok.above,ok.inj,ok.has,ok.cab,ok.hd,ok.frames,ok.stk,ok.exf,ok.bs,ok.bsz,ok.noex,ok.exfs,ok.funs,ok.frf⟩
theorem Cx.Ok.unwish{X:Cx}{E:Zc}(ok:(X.wish E).Ok):X.Ok :=
 ⟨ok.mod,ok.kind,ok.glob,ok.blt,ok.above,ok.inj,ok.has,ok.cab,ok.hd,ok.frames,ok.stk,ok.exf,ok.bs,ok.bsz,ok.noex,ok.exfs,ok.funs,ok.frf⟩
section
variable{X:Cx}{J3:Zd}{σ:St}{H:Hp}{s:Shared}{E:Zc}
theorem Inv.wish(I:Inv X J3 σ H s)(E:Zc):Inv (X.wish E) J3 σ H s:=⟨I.ok.wish E,I.os,I.bare,I.base,I.loc,I.cell,I.free,I.freeC,I.pin,I.hok,I.len⟩
theorem Inv.unwish(I:Inv (X.wish E) J3 σ H s):Inv X J3 σ H s:=⟨I.ok.unwish,I.os,I.bare,I.base,I.loc,I.cell,I.free,I.freeC,I.pin,I.hok,I.len⟩
theorem SP.unwish{D:si}{f:Flow}{e:Shared}(h:SP (X.wish E) J3 D f e):SP X J3 D f e:=by
 cases f with
 |next=>obtain⟨σ',a,I,q⟩:=h;exact⟨σ',a,I.unwish,q⟩
 |brk=>obtain⟨σ',a,I,q⟩:=h;exact⟨σ',a,I.unwish,q⟩
 |cont=>obtain⟨σ',a,I,q⟩:=h;exact⟨σ',a,I.unwish,q⟩
 |ret u=>obtain⟨v,σ',a,I,r,q⟩:=h;exact⟨v,σ',a,I.unwish,r,q⟩
theorem Ct.nox{st:List Stmt}{t:TS}(h:Ct X.nox st t):Ct X st t:=fun J3 s σ H D I a =>
 pK (h J3 s σ H D (I.wish _) a) (fun _ _ q=>q.unwish) fun _ _ z=>kz z
end
section
variable{X:Cx}{st:Stmt}{rest:List Stmt}{t u:TS}{e:Expr}{te:TE}{pos:Pos}
def bC:TS:=fun D σ H=>D.nx σ H
def ar(t u:TS):TS:=fun D σ H=>t { D with nx:=u D } σ H
theorem aK:Ct X [] bC:=fun _ _ σ H _ I h=>En ⟨σ,H,I,h⟩
theorem ac(g:PS X st t)(i:Ct X rest u):Ct X (st::rest) (ar t u):=by
 intro a s σ H D I h;refine wpAny_execs_cons (cJ (g a s σ H { D with nx:=u D } I h) fun f j q=>?_);cases f with
 |next =>
  obtain⟨σ',k,l,q⟩:=q;exact i a j σ' k D l q
 |ret v=>exact q
 |brk=>exact q
 |cont=>exact q
theorem af(a:PS X st t):Ct X [st] t:=by
 intro g s σ H D I h;refine wpAny_execs_cons (cJ (a g s σ H D I h) fun f i q=>?_);cases f with
 |next=>exact En q
 |ret v=>exact q
 |brk=>exact q
 |cont=>exact q
theorem Inv.quiet{a:Zd}{σ:St}{H:Hp}{s:Shared}(I:Inv X a σ H s):interactive X.env=false:=by simp[interactive,I.ok.kind]
def cP(te:TE):TS:=fun D σ H=>te σ H fun _ H1=>D.nx σ H1
theorem bt(a:PE X e te)(f:sw e none pos.line X.env=pure false:=by rfl):PS X (.Expr e pos) (cP te):=by
 intro g s σ H D I h;exact wpAny_Expr_any (cJ (a g s σ H _ I h) fun v l ⟨x,i,j,m,k⟩=>⟨σ,i,j,k⟩) I.quiet f
def aW(te:TE):TS:=fun D σ H=>te σ H D.rt
theorem au(a:PE X e te):PS X (.Return (some e) pos) (aW te):=by
 intro f s σ H D I h;exact wpAny_Return_some (cJ (a f s σ H _ I h) fun v l ⟨x,g,i,j,k⟩=>⟨x,σ,g,i,j,k⟩)
def cx(c:TT)(t u:TS):TS:=fun D σ H=>c σ H fun b H1=>if b=true then t D σ H1 else u D σ H1
theorem bq{c:Expr}{a b:List Stmt}{g:TT}(m:PT X c g)(n:Ct X a t)(o:Ct X b u):PS X (.If c a b pos) (cx g t u):=by
 intro f s σ H D I h;refine wpAny_If (cJ (m f s σ H _ I h) fun d i ⟨j,k,l⟩=>?_);cases d with
 |true=>exact n f i σ j D k l
 |false=>exact o f i σ j D k l
def uP:TS:=fun _ _ _=>False
theorem qb:PS X st uP:=fun _ _ _ _ _ _ h=>h.elim
end
abbrev TG:=V->St->Hp->(St->Hp->Prop)->Prop
abbrev Kh:=List V->St->Hp->(St->Hp->Prop)->Prop
def PG(X:Cx)(target:Expr)(t:TG):Prop :=
 ∀(J3:Zd) (s:Shared) (σ:St) (H:Hp) (v:V) (u:Value) (Q:St->Hp->Prop),Inv X J3 σ H s->RelV v u->t v σ H Q ->
  wpAny (model X.prog X.w) X.A (assign target X.env u) (fun _ s'=>∃σ' H',Inv X J3 σ' H' s'/\Q σ' H') X.xe s
def My(X:Cx)(ts:List Expr)(t:Kh):Prop :=
 ∀(J3:Zd) (s:Shared) (σ:St) (H:Hp) (vs:List V) (us:Zf) (Q:St->Hp->Prop),Inv X J3 σ H s->bb vs us->t vs σ H Q ->
  wpAny (model X.prog X.w) X.A (assignInOrder ((wZ ts X.env).map (·.2)) us) (fun _ s'=>∃σ' H',Inv X J3 σ' H' s'/\Q σ' H') X.xe s
abbrev Lk:=V->V->V->Hp->(Hp->Prop)->Prop
def Ma(X:Cx)(t:Lk):Prop :=
 ∀(J3:Zd) (s:Shared) (σ:St) (H:Hp) (o i v:V) (ov iv u:Value) (Q:Hp->Prop),Inv X J3 σ H s->RelV o ov->RelV i iv->RelV v u->t o i v H Q ->
  wpAny (model X.prog X.w) X.A (setItem ov iv u) (fun _ s'=>∃H',Inv X J3 σ H' s'/\Q H') X.xe s
abbrev Mx:=V->V->Hp->VK->Prop
def PIp(X:Cx)(op:Operator)(t:Mx):Prop :=
 ∀(J3:Zd) (s:Shared) (σ:St) (H:Hp) (x y:V) (v u:Value) (Q:VK),Inv X J3 σ H s->RelV x v->RelV y u->t x y H Q ->
  wpAny (model X.prog X.w) X.A (inplaceOp op v u) (EP X J3 σ Q) X.xe s
section
variable{X:Cx}{pos:Pos}
def eQ(i:Nat):TG:=fun v σ H Q=>Q (σ.set i (some v)) H
abbrev U0:TG:=eQ 0
abbrev U1:TG:=eQ 1
abbrev U2:TG:=eQ 2
abbrev U3:TG:=eQ 3
abbrev U4:TG:=eQ 4
abbrev U5:TG:=eQ 5
abbrev U6:TG:=eQ 6
abbrev U7:TG:=eQ 7
abbrev U8:TG:=eQ 8
abbrev U9:TG:=eQ 9
abbrev Lv:TG:=eQ 10
abbrev Mw:TG:=eQ 11
abbrev U12:TG:=eQ 12
theorem EF{i:Nat}{x:Str}(a:X.N.Nodup)(e:X.N[i]?=some x)(f:Loc X.env.scope x)(g:X.fn x=true∨X.env.scope.names.lookup x=some .local:=by first|exact .inl rfl|exact .inr rfl|assumption):PG X (.Name x pos) (eQ i):=by
 intro k s σ H v u Q I r h;exact wpAny_assign_Name (uV I a e f r (fun l j=>⟨_,H,j,h⟩) g)
def jH:Kh:=fun vs σ H Q=>vs=[]/\Q σ H
def bv(t:TG)(u:Kh):Kh:=fun vs σ H Q=>∃v r,vs=v::r/\t v σ H fun σ' H'=>u r σ' H' Q
theorem cS:My X [] jH:=by
 intro a s σ H f g Q I r h;obtain⟨e,h⟩:=h;subst e;cases r;exact assignInOrder_nil ⟨σ,H,I,h⟩
theorem ax{e:Expr}{a:List Expr}{t:TG}{u:Kh}(g:PG X e t)(i:My X a u)
  (j:(wZ (e::a) X.env).map (·.2)=assign e X.env::(wZ a X.env).map (·.2):=by rfl):My X (e::a) (bv t u):=by
 intro f s σ H q w Q I r h;obtain⟨v,x,k,h⟩:=h;subst k;cases r with
 |cons r l =>
  rw[j];refine assignInOrder_cons (cJ (g f s σ H _ _ _ I r h) fun _ m ⟨σ1,n,o,p⟩=>?_);exact i f m σ1 n _ _ Q o l p
def jM(K:Za)(n:Nat)(t:Kh):TG:=fun v σ H Q=>∃a xs,v=.ref a/\bP K H a xs/\xs.length=n/\t xs σ H Q
theorem dZ{f:List Expr}{k:Nat}{t:Kh}{n:Nat}(m:X.calm=true)(h:My X f t)
  (p:(wZ f X.env).length=n:=by rfl) (g:(wZ f X.env).findIdx? (·.1)=none:=by rfl):PG X (.Tuple f k pos) (jM X.K n t):=by
 intro j s σ H v u Q I r i;obtain⟨a,q,w,x,y,i⟩:=i;subst w;cases r;obtain⟨z,l,A,E⟩:=I.tuple x;refine assign_Tuple_tuple (I.ok.hd m) A (by simp[p,<-y,l.length]) g fun B C=>?_;have D:Inv X j σ H { s with heap:=B }:=I.kept (t':=s.toks) fun b o e=>C b o (bX (aI e)) e;exact h j _ σ H q _ Q D (by simpa using l) i
def DG(to ti:TE)(t:Lk):TG:=fun v σ H Q=>to σ H fun o H1=>ti σ H1 fun i H2=>t o i v H2 fun H3=>Q σ H3
theorem vb{o i:Expr}{to g:TE}{t:Lk}(j:PE X o to)(k:PE X i g)(l:Ma X t)
  (m:∀v,assign (.Subscript o i pos) X.env v=(do
   let a <- mj [v] (eval o X.env)
   let e <- mj [v,a] (eval i X.env)
   sy pos
   mj [v,a,e] (setItem a e v)
   release [v,a,e] []):=by intro _;rfl):PG X (.Subscript o i pos) (DG to g t):=by
 intro f s σ H v u Q I r h;rw[m];refine ak (jm (cJ (j f s σ H _ I h) fun a n ⟨x,p,q,w,z⟩=>?_));refine ak (jm (cJ (k f n σ p _ q z) fun e A ⟨y,B,C,D,E⟩=>?_));refine ak (wpAny_standAt (ak (jm (cJ (l f A σ B x y v a e u _ C w D r E) fun _ M ⟨G,J,L⟩=>?_))));exact wpAny_release ⟨σ,G,J,L⟩
def aN(te:TE)(g:TG):TS:=fun D σ H=>te σ H fun x H1=>g x σ H1 D.nx
theorem kg{tg e:Expr}{a:TE}{g:TG}(i:PE X e a)(j:PG X tg g)(k:swapsWithSole [tg] e pos.line X.env=pure false:=by rfl)(l:swappedStores [tg] e X.env=pure none:=by rfl)
  (m:(wZ [tg] X.env).map (·.2)=[assign tg X.env]:=by rfl):PS X (.Assign [tg] e pos) (aN a g):=by
 intro f s σ H D I h;refine wpAny_Assign_stores (cJ (i f s σ H _ I h) fun v n ⟨x,o,p,r,t⟩=>?_) k l;rw[m];exact cJ (j f n σ o x v _ p r t) fun _ u q=>q
theorem K2{i:Nat}{x:Str}{e:Expr}{f:TE}{a:Pos}(g:X.N.Nodup)(j:X.N[i]?=some x)(k:Loc X.env.scope x)(l:PE X e f)(m:sw e (some (.Name x a)) pos.line X.env=pure false:=by rfl)(n:X.fn x=true∨X.env.scope.names.lookup x=some .local:=by first|exact .inl rfl|exact .inr rfl|assumption):
  PS X (.Assign [.Name x a] e pos) (aN f (eQ i)):=by
 intro o s σ H D I h;refine wpAny_Assign_Name (cJ (l o s σ H _ I h) fun v w ⟨y,p,q,r,t⟩=>?_) m;exact uV q g j k r (fun z u=>⟨_,p,u,t⟩) n
def LB(i:Nat)(te:TE)(ti:Mx):TS:=fun D σ H=>∃x,σ[i]?=some (some x)/\te σ H fun y H1=>ti x y H1 fun z H2=>D.nx (σ.set i (some z)) H2
theorem K3{i:Nat}{x:Str}{e:Expr}{q:TE}{n:Operator}{t:Mx}{f:Pos}(E:X.N.Nodup)(B:X.N[i]?=some x)(o:Loc X.env.scope x)(G:PE X e q)(J:PIp X n t)(L:X.fn x=true∨X.env.scope.names.lookup x=some .local:=by first|exact .inl rfl|exact .inr rfl|assumption):
  PS X (.AugAssign (.Name x f) n e pos) (LB i q t):=by
 intro J3 s σ H D I h;obtain⟨v,M,h⟩:=h;obtain⟨m,O,Q⟩:=I.loc;have p:Mv X.env.scope x:=by rcases o with k|k;exact .inl k;exact .inr (.inl k)
 obtain⟨u,r,l⟩:=Q i x v B M p;refine wpAny_AugAssign_Name ?_;have C:wpAny (model X.prog X.w) X.A (eval e X.env) (fun w g=>wpAny (model X.prog X.w) X.A (inplaceOp n u w) (fun r j=>wpAny (model X.prog X.w) X.A (storeName X.env x r) (fun _=>SP X J3 D .next) X.xe j) X.xe g) X.xe s:=by
  refine cJ (G J3 s σ H _ I h) fun w T ⟨y,U,Y,r1,q1⟩=>?_;refine cJ (J J3 T σ U v y u w _ Y r r1 q1) fun z s2 ⟨zv,H2,I2,r2,q2⟩=>?_;exact uV I2 E B o r2 (fun s3 I3=>⟨_,H2,I3,q2⟩) L
 rcases l with⟨hk,hm⟩|⟨hk,c,hc,a⟩
 ·exact wpAny_loadName_local I.ok.kind hk O hm C
 ·rcases hk with hk|hk
  ·exact wpAny_loadName_cell I.ok.kind hk hc a C
  ·rcases o with k|k
   ·have:X.env.scope.names.lookup x=some .free:=hk;rw[k]at this;cases this
   ·have:X.env.scope.names.lookup x=some .free:=hk;rw[k]at this;cases this
def ipI(f:Int->Int->Int):Mx:=fun x y H Q=>∃i j,x=.int i/\y=.int j/\Q (.int (f i j)) H
theorem Ld:PIp X .Add (ipI fun i j=>i+j):=by
 intro k s σ H x y v u Q I a e h;obtain⟨i,j,f,g,q⟩:=h;subst f;subst g;obtain⟨t,rfl⟩:=a;obtain⟨l,rfl⟩:=e;exact iadd_int ⟨.int _,H,I.tok _,⟨_,rfl⟩,q⟩
end
section
variable{X:Cx}{pos:Pos}
def CJ(c:TT)(tb:TS):TS:=fun D σ H=>∃W:Nat->St->Hp->Prop,(∃m,W m σ H)/\∀m σ H,W m σ H ->
 c σ H fun b H1=>if b=true then ∃N:St->Hp->Prop,(∀σ' H',N σ' H'->∃m',m'<m/\W m' σ' H')/\tb { D with nx:=N,ct:=N,bk:=D.nx } σ H1 else D.nx σ H1
theorem Bo{c:Expr}{a:List Stmt}{p:TT}{q:TS}(r:PassesOwn (model X.prog X.w) X.A X.env X.xe)(B:PT X c p)(C:Ct X a q):PS X (.While c a [] pos) (CJ p q):=by
 intro J3 s σ H D I h;obtain⟨W,⟨E,G⟩,turn⟩:=h;refine wpAny_While (codeAny_whileLoop (fun n J=>∃σ' t,Inv X J3 σ' t J/\W n σ' t) ?_ E ⟨σ,H,I,G⟩);rintro n L ⟨σ1,u,M,O⟩;refine uh r (cJ (B J3 L σ1 u _ M (turn n σ1 u O)) fun b Q ⟨x,y,g⟩=>?_);cases b with
 |true =>
  obtain⟨N,z,g⟩:=g;rw[if_pos rfl];refine uh r (cJ (C J3 Q σ1 x _ y g) fun f T i=>?_);cases f with
  |next =>
   obtain⟨σ3,e,j,k⟩:=i;obtain⟨l,m,o⟩:=z σ3 e k;exact⟨l,m,σ3,e,j,o⟩
  |cont =>
   obtain⟨σ3,e,j,k⟩:=i;obtain⟨l,m,o⟩:=z σ3 e k;exact⟨l,m,σ3,e,j,o⟩
  |brk=>exact i
  |ret v=>exact i
 |false =>
  rw[if_neg iB];exact En ⟨σ1,x,y,g⟩
end
structure It where
 go:Nat->Hp->Prop
 yld:Nat->Hp->V->Hp->Prop
 stop:Nat->Hp->Prop
def og(X:Cx)(J3:Zd)(H:Hp)(b:Addr):Prop :=
 H b=none/\b≠X.env.locals/\b∉X.fs/\(b∈X.ex∨X.s₀.heap.objs.size<=b)/\(∀x c,X.env.cells.lookup x=some c->c≠b)/\∀p∈X.pn++J3,p.1≠b
theorem Inv.fpOk{X:Cx}{f:Zd}{σ:St}{H g:Hp}{s:Shared}{b:Addr}(I:Inv X f σ H s)(a:s.heap.objs.size<=b)(h:g b=none):og X f g b:=by
 refine⟨h,eM (da I.lt a),I.nofs a,.inr (aB I.sz a),fun x c e z=>?_,fun p i z=>?_⟩
 ·obtain⟨v,q⟩:=I.cell x c e;exact absurd (da q.lt (by rw[z];exact a)) (kA _)
 ·exact absurd (da (aI (I.pin p i).1) (by rw[z];exact a)) (kA _)
structure tJ(P:cn)(w:World)(K:Za)(tg:Expr)(J:It)(fp:Ze)(it:Addr)(tn:Nat->Heap->Prop):Prop where
 mem:it∈fp
 obj:∀i h,tn i h->∀b∈fp,∃o,h.get? b=some o/\∀v,o.data≠.cell v
 keep:∀i h h',tn i h->(∀b∈fp,∀o,h.get? b=some o->h'.get? b=some o)->tn i h'
 item:∀(X:Cx),X.prog=P->X.w=w->X.K=K->X.calm=true->∀(i:Nat) (J3:Zd) (s:Shared) (σ:St) (H:Hp) (E:Zc),Inv X J3 σ H s->(∀b∈fp,og X J3 H b)->tn i s.heap->J.go i H ->
  wpAny (model P w) X.A (pyNext (.ref it)) (fun r s1=>∃u,r=some u /\
   wpAny (model P w) X.A (Em tg (.ref it) u) (fun _ s2=>∃x H',Inv X J3 σ H' s2/\RelV x u/\J.yld i H x H'/\tn (i+1) s2.heap/\∀b∈fp,H' b=none) E s1) E s
 done:∀(X:Cx),X.prog=P->X.w=w->X.K=K->X.calm=true->∀(i:Nat) (J3:Zd) (s:Shared) (σ:St) (H:Hp) (E:Zc),Inv X J3 σ H s->(∀b∈fp,og X J3 H b)->tn i s.heap->J.stop i H ->
  wpAny (model P w) X.A (pyNext (.ref it)) (fun r s1=>r=none/\Inv X J3 σ H s1) E s
 self:∀(A:Around) (i:Nat) (s:Shared) (Q:Zc) (E:Zc),tn i s.heap->Q (.ref it) s->wpAny (model P w) A (pyIter (.ref it)) Q E s
abbrev TI:=St->Hp->(It->Hp->Prop)->Prop
def PIE(X:Cx)(J3:Zd)(σ:St)(tg:Expr)(R:It->Hp->Prop)(itv:Value)(s2:Shared):Prop :=
 ∃(it:Addr) (fp:Ze) (tn:Nat->Heap->Prop) (J:It) (H':Hp),itv=.ref it/\Inv X J3 σ H' s2/\tJ X.prog X.w X.K tg J fp it tn/\tn 0 s2.heap/\(∀b∈fp,og X J3 H' b)/\R J H'
def PI(X:Cx)(tg iter:Expr)(wi:TI):Prop :=
 ∀(J3:Zd) (s:Shared) (σ:St) (H:Hp) (R:It->Hp->Prop),Inv X J3 σ H s->wi σ H R ->
  wpAny (model X.prog X.w) X.A (eval iter X.env) (fun v s1=>wpAny (model X.prog X.w) X.A (pyIter v) (PIE X J3 σ tg R) X.xe s1) X.xe s
theorem vz{M:Model}{A:Around}{E:Zc}{s:Shared}{e:Expr}{it:Addr}{u:Value}{o:Obj}{n:String}{f:Array Value}{Q:Unit->Shared->Prop}(g:s.heap.get? it=some o)(i:o.cls=.type n)(j:o.data=.fields f)
    (k:["enumerate","zip","dict_itemiterator","dict_reverseitemiterator","odict_iterator","itertools.zip_longest","itertools.pairwise"].contains n=false) (a:Q () s):wpAny M A (Em e (.ref it) u) Q E s:=by
  unfold Em;cases e<;>first
    |exact aP a
    | (cases u <;> first
        |exact aP a
        | (refine ak (wpAny_load g ?_)
           rw[i,j];show wpAny M A (if(["enumerate","zip","dict_itemiterator","dict_reverseitemiterator","odict_iterator","itertools.zip_longest","itertools.pairwise"].contains n && f[0]?==some (rawInt _))=true then _ else _) Q E s
           rw[if_neg (by intro h;rw[k,El]at h;cases h)];exact aP a))
def IW(K:Za)(a:Addr):It :=
 ⟨fun i H=>∃xs x,aw K H a xs/\xs[i]?=some x,fun i H x H'=>H'=H/\∀xs,aw K H a xs->xs[i]?=some x,fun i H=>∃xs,aw K H a xs/\xs.length<=i⟩
def KO(K:Za)(a:Addr):It :=
 ⟨fun i H=>∃xs x,bP K H a xs/\xs[i]?=some x,fun i H x H'=>H'=H/\∀xs,bP K H a xs->xs[i]?=some x,fun i H=>∃xs,bP K H a xs/\xs.length<=i⟩
def Lm(lo:Int)(n:Nat):It:=⟨fun i _=>i<n,fun i H x H'=>H'=H/\x=.int (lo+i),fun i _=>n<=i⟩
theorem xb{P:cn}{w:World}{K:Za}{O:Expr}(a it:Addr):tJ P w K O (IW K a) [it] it (fun i h=>h.IsListIter it a i) where
 mem:=by simp
 obj:=fun i h st b f=>by
  have e:b=it:=by simpa using f
  subst e;obtain⟨o,e,c,d⟩:=st;exact⟨o,e,fun v z=>by rw[d]at z;cases z⟩
 keep:=fun i h j st k=>st.at fun o e=>k it (by simp) o e
 item:=by
  intro X n q r M i N s σ H E I l st t;subst n q r;obtain⟨Q,x,m,y⟩:=t;obtain⟨A,B,p,T⟩:=I.list m;obtain⟨u,U,Y⟩:=B.get y;obtain⟨C,D,f2,G,J,L⟩:=l it (by simp);refine wpAny_pyNext_list_item st p.isList (x:=u) (by simpa using U) fun j g sb=>?_;have I1:Inv X N σ H { s with heap:=j }:=I.turned (t':=s.toks) (fun b o f e=>(sb.2 b f).trans e) C D G J L;obtain⟨o,e,c,d⟩:=id g;exact⟨u,rfl,vz (s:={ s with heap:=j }) e c d (by decide) ⟨x,H,I1,Y,⟨rfl,fun ys hy=>by rw[I.list_inj hy m];exact y⟩,g,fun b f=>(l b f).1⟩⟩
 done:=by
  intro X n q r M i N s σ H E I l st t;subst n q r;obtain⟨Q,m,y⟩:=t;obtain⟨A,B,p,T⟩:=I.list m;obtain⟨C,D,f2,G,J,L⟩:=l it (by simp);have hl:=B.length;exact wpAny_pyNext_list_end (I.ok.hd M) st p.isList (by simp;omega) fun j eb=>⟨rfl,I.turned (t':=s.toks) (fun b o f e=>eb b o f e) C D G J L⟩
 self:=fun _ _ _ _ _ st h=>wpAny_pyIter_listiter st h
theorem uJ{P:cn}{w:World}{K:Za}{O:Expr}(a it:Addr):tJ P w K O (KO K a) [it] it (fun i h=>h.IsTupleIter it a i) where
 mem:=by simp
 obj:=fun i h st b f=>by
  have e:b=it:=by simpa using f
  subst e;obtain⟨o,e,c,d⟩:=st;exact⟨o,e,fun v z=>by rw[d]at z;cases z⟩
 keep:=fun i h l st k=>st.at fun o e=>k it (by simp) o e
 item:=by
  intro X q r t M i N s σ H E I m st y;subst q r t;obtain⟨Q,x,n,A⟩:=y;obtain⟨g,B,p,T⟩:=I.tuple n;obtain⟨u,U,Y⟩:=B.get A;obtain⟨C,D,f2,G,J,L⟩:=m it (by simp);refine wpAny_pyNext_tuple_item st (show s.heap.IsTuple a g.toArray from p) (x:=u) (by simpa using U) fun l j sb=>?_;have I1:Inv X N σ H { s with heap:=l }:=I.turned (t':=s.toks) (fun b o f e=>(sb.2 b f).trans e) C D G J L;obtain⟨o,e,c,d⟩:=id j;exact⟨u,rfl,vz (s:={ s with heap:=l }) e c d (by decide) ⟨x,H,I1,Y,⟨rfl,fun ys hy=>by rw[I.tuple_inj hy n];exact A⟩,j,fun b f=>(m b f).1⟩⟩
 done:=by
  intro X q r t M i N s σ H E I m st y;subst q r t;obtain⟨Q,n,A⟩:=y;obtain⟨g,B,p,T⟩:=I.tuple n;obtain⟨C,D,f2,G,J,L⟩:=m it (by simp);have hl:=B.length;exact wpAny_pyNext_tuple_end (I.ok.hd M) st (show s.heap.IsTuple a g.toArray from p) (by simp;omega) fun l eb=>⟨rfl,I.turned (t':=s.toks) (fun b o f e=>eb b o f e) C D G J L⟩
 self:=fun _ _ _ _ _ st h=>wpAny_pyIter_tupleiter st h
theorem Cz{P:cn}{w:World}{K:Za}{D:Expr}(it:Addr)(lo:Int)(n:Nat):tJ P w K D (Lm lo n) [it] it (fun i h=>IsRangeIter h it (lo+(i:Nat) * 1) ((n:Int)-(i:Nat)) 1) where
 mem:=by simp
 obj:=fun i h st b a=>by
  have e:b=it:=by simpa using a
  subst e;exact⟨_,st,fun v z=>by
   have G:Data.fields _=Data.cell v:=z;cases G⟩
 keep:=fun i h g st k=>k it (by simp) _ st
 item:=by
  intro X l m p q i C s σ H E I j st r;subst l m p;obtain⟨u,x,J,y,A,B⟩:=j it (by simp);have W:=Walks.range (prog:=X.prog) (w:=X.w) (I.ok.hd q) it lo 1 n;refine W.item i s _ _ r st fun v g tk L f M=>?_;obtain⟨t,rfl⟩:=L;have N:Inv X C σ H { s with heap:=g,toks:=tk }:=I.turned (fun b o a e=>M b o (by simpa using a) e) u x y A B;refine⟨_,rfl,vz (s:={ s with heap:=g,toks:=tk }) (n:="range_iterator") f rfl rfl (by decide) ⟨.int (lo+i),H,N,⟨t,?_⟩,⟨rfl,rfl⟩,f,fun b a=>(j b a).1⟩⟩;rw[Ek]
 done:=by
  intro X l m p q i C s σ H E I j st r;subst l m p;obtain⟨u,x,J,y,A,B⟩:=j it (by simp);exact wpAny_pyNext_range_end (I.ok.hd q) st (by have:n<=i:=r;omega) fun g O=>⟨rfl,I.turned (t':=s.toks) (fun b o a e=>O b o a e) u x y A B⟩
 self:=fun _ _ _ _ _ st h=>wpAny_pyIter_rangeiter st h
end L2
namespace L2
open PySem PySem.Spec PyProof.Rows
section
variable{X:Cx}{tg:Expr}
def bO(K:Za)(tl:TE):TI:=fun σ H R=>tl σ H fun x H1=>∃a,x=.ref a/\(∃xs,aw K H1 a xs)/\R (IW K a) H1
def Gk(K:Za)(tl:TE):TI:=fun σ H R=>tl σ H fun x H1=>∃a,x=.ref a/\(∃xs,bP K H1 a xs)/\R (KO K a) H1
theorem aO{l:Expr}{i:TE}(j:PE X l i):PI X tg l (bO X.K i):=by
 intro k s σ H R I h;refine cJ (j k s σ H _ I h) fun v f ⟨x,m,g,n,r⟩=>?_;obtain⟨a,e,⟨y,t⟩,q⟩:=r;subst e;cases n;obtain⟨u,z,p,A⟩:=g.list t;refine AK p.isList ?_;refine⟨f.heap.objs.size,[f.heap.objs.size],_,_,m,rfl,g.kept (t':=f.toks) fun b o e=>a_ _ e,xb a _,⟨_,cG _ rfl,rfl,rfl⟩,fun b w=>?_,q⟩;have e:b=f.heap.objs.size:=by simpa using w
 subst e;exact g.fpOk (aD _) (g.hok.fresh (aD _))
theorem va{l:Expr}{j:TE}(k:PE X l j):PI X tg l (Gk X.K j):=by
 intro m s σ H R I h;refine cJ (k m s σ H _ I h) fun v f ⟨x,n,g,r,t⟩=>?_;obtain⟨a,e,⟨y,u⟩,q⟩:=t;subst e;cases r;obtain⟨i,z,p,A⟩:=g.tuple u;refine Ej (show f.heap.IsTuple a i.toArray from p) ?_;refine⟨f.heap.objs.size,[f.heap.objs.size],_,_,n,rfl,g.kept (t':=f.toks) fun b o e=>a_ _ e,uJ a _,⟨_,cG _ rfl,rfl,rfl⟩,fun b w=>?_,q⟩;have e:b=f.heap.objs.size:=by simpa using w
 subst e;exact g.fpOk (aD _) (g.hok.fresh (aD _))
theorem HB{f:Zd}{σ:St}{H:Hp}{s:Shared}{R:It->Hp->Prop}{E:Zc}{lo a:Int}{t u v:Tok}{tk:Nat}(I:Inv X f σ H s)(h:-(2 ^ 62)<=lo)(i:lo<2 ^ 62)(j:-(2 ^ 62)<=a)(k:a<2 ^ 62)
  (q:R (Lm lo (a-lo).toNat) H):wpAny (model X.prog X.w) X.A (pyIter (.ref s.heap.objs.size)) (PIE X f σ tg R) E { s with heap:=s.heap.push { cls:=.type "range",data:=.fields #[.int lo t,.int a u,.int 1 v] },toks:=tk }:=by
 refine wpAny_pyIter_range (IsRange.new ..) (small_one h i j k) ?_;have g:Inv X f σ H { s with heap:=s.heap.push { cls:=.type "range",data:=.fields #[.int lo t,.int a u,.int 1 v] },toks:=tk }:=I.kept fun b o e=>a_ _ e;refine⟨(s.heap.push { cls:=.type "range",data:=.fields #[.int lo t,.int a u,.int 1 v] }).objs.size,[(s.heap.push { cls:=.type "range",data:=.fields #[.int lo t,.int a u,.int 1 v] }).objs.size],_,_,H,rfl,
  g.kept (t':=tk) fun b o e=>a_ _ e,Cz _ lo (a-lo).toNat,?_,fun b l=>?_,q⟩
 ·have m:lo+((0:Nat):Int) * 1=lo:=by simp
  have n:(((a-lo).toNat:Nat):Int)-((0:Nat):Int)=bQ.Range.rangeSize lo a 1:=by rw[rangeSize_one];split<;>omega
  show IsRangeIter _ _ (lo+((0:Nat):Int) * 1) ((((a-lo).toNat:Nat):Int)-((0:Nat):Int)) 1;rw[m,n];exact cG _ rfl
 ·have e:b=(s.heap.push { cls:=.type "range",data:=.fields #[.int lo t,.int a u,.int 1 v] }).objs.size:=by simpa using l
  subst e;exact g.fpOk (aD _) (g.hok.fresh (aD _))
def vw(ta:TA):TI:=fun σ H R=>ta σ H fun vs H1=>∃j:Int,vs=[.int j]/\-(2 ^ 62)<=j/\j<2 ^ 62/\R (Lm 0 j.toNat) H1
theorem jd{a:Expr}{i:TA}{p f:Pos}(k:Gl X "range")(l:X.mg "range"=none)(m:PA X [a] i)(n:aM [a] X.env=[(false,eval a X.env)]:=by rfl):PI X tg (.Call (.Name "range" p) [a] [] f) (vw i):=by
 intro o s σ H R I h;refine Call_ (iT I k l boot_range (pI (cJ (m f o s σ H _ I h) fun y z ⟨A,B,u,v,g⟩=>?_) n rfl));obtain⟨j,e,g,w,q⟩:=g;subst e;cases v with
 |cons r x =>
  cases x;obtain⟨t,rfl⟩:=r;exact call_range_1 (HB u (by omega) (by omega) g w (by simpa using q))
def dW(wi:TI)(g:TG)(tb:TS):TS:=fun D σ H=>wi σ H fun J H1=>∃W:Nat->Nat->St->Hp->Prop,(∃m,W 0 m σ H1)/\∀i m σ H,W i m σ H ->
 (J.stop i H/\D.nx σ H)∨(J.go i H/\∃N:St->Hp->Prop,(∀σ' H',N σ' H'->∃m',m'<m/\W (i+1) m' σ' H')/\∀x H',J.yld i H x H'->g x σ H' fun σ2 H2=>tb { D with nx:=N,ct:=N,bk:=D.nx } σ2 H2)
def u_(fp:Ze)(h:Heap):List (Addr×Obj):=fp.filterMap fun b=>(h.get? b).map fun o=>(b,o)
theorem lM{fp:Ze}{h:Heap}{b:Addr}{o:Obj}(a:b∈fp)(e:h.get? b=some o):(b,o)∈u_ fp h:=List.mem_filterMap.mpr ⟨b,a,by rw[e];rfl⟩
theorem FV{a:Ze}{h:Heap}{p:Addr×Obj}(f:p∈u_ a h):p.1∈a/\h.get? p.1=some p.2:=by
 obtain⟨b,g,e⟩:=List.mem_filterMap.mp f;cases q:h.get? b with
 |none=>rw[q]at e;cases e
 |some o =>
  rw[q]at e;have i:(b,o)=p:=fM e;subst i;exact⟨g,q⟩
theorem Inv.pinned{a:Zd}{σ:St}{H:Hp}{s:Shared}{f:Ze}(I:Inv X a σ H s)(i:∀b∈f,og X a H b)(j:∀b∈f,∃o,s.heap.get? b=some o/\∀v,o.data≠.cell v):Inv X (a++u_ f s.heap) σ H s :=
 I.pins_of fun p k=>(bM.mp k).elim (fun z=>I.pin p (eU _ z)) fun z=>by
  obtain⟨g,e⟩:=FV z;obtain⟨l,m,n,_⟩:=i p.1 g;obtain⟨o,h,d⟩:=j p.1 g;rw[e]at h;cases h;exact⟨e,l,m,n,d⟩
theorem Inv.unpinned{a e:Zd}{σ:St}{H:Hp}{s:Shared}(I:Inv X (a++e) σ H s):Inv X a σ H s:=I.pins_of fun p f=>I.pin p (eU _ (em _ f))
theorem bE{a:Expr}{t:List Stmt}{wi:TI}{g:TG}{tb:TS}{Q:Pos}(C:PassesOwn (model X.prog X.w) X.A X.env X.xe)(hc:X.calm=true)(hi:PI X tg a wi)(hg:PG X tg g)(j:Ct X t tb)
  (hs:∀x,AJ a X.env x=pure x:=by intro _;rfl):PS X (.For tg a t [] Q) (dW wi g tb):=by
 intro z s σ H D I h;refine wpAny_For (cJ (hi z s σ H _ I h) fun v s1 h1=>cJ h1 fun ap s2 h2=>?_) hs;obtain⟨it,E,tn,J,H2,e,I2,T,U,f2,W,⟨m0,w0⟩,turn⟩:=h2;subst e;have k:∀{q:Hp},(∀b∈E,q b=none)->∀b∈E,og X z q b:=fun hn b j=>⟨hn b j,(f2 b j).2⟩;refine codeAny_forLoop_any (fun n s'=>∃i σ' q,Inv X z σ' q s'/\tn i s'.heap/\(∀b∈E,q b=none)/\W i n σ' q) ?_ m0 ⟨0,σ,H2,I2,U,fun b j=>(f2 b j).1,w0⟩;rintro n s3 ⟨i,σ3,O,I3,G,L,w3⟩;rcases turn i n σ3 O w3 with⟨stop,qn⟩|⟨go,N,hN,step⟩
 ·refine uh C (cJ (T.done X rfl rfl rfl hc i z s3 σ3 O X.xe I3 (k L) G stop) fun r s4 ⟨Y,I4⟩=>?_);subst Y;exact En ⟨σ3,O,I4,qn⟩
 ·refine uh C (cJ (T.item X rfl rfl rfl hc i z s3 σ3 O X.xe I3 (k L) G go) fun r s4 ⟨u,Y,h4⟩=>?_);subst Y;refine uh C (cJ h4 fun _ s5 ⟨x,H5,I5,r5,y5,B,al⟩=>?_);have an:=I5.pinned (k al) (T.obj _ _ B);refine uh C (cJ (hg _ s5 σ3 H5 x u _ an r5 (step x H5 y5)) fun _ s6 ⟨σ6,H6,I6,q6⟩=>?_);refine uh C (cJ (j _ s6 σ6 H6 _ I6 q6) fun f s7 y=>?_);have again:∀{σ7:St}{l:Hp},Inv X (z++u_ E s5.heap) σ7 l s7->N σ7 l->∃m,m<n/\∃i σ' q,Inv X z σ' q s7/\tn i s7.heap/\(∀b∈E,q b=none)/\W i m σ' q:=fun{σ7 l} p M=>by
   obtain⟨m',hm,w7⟩:=hN σ7 l M;refine⟨m',hm,i+1,σ7,l,p.unpinned,T.keep _ _ _ B fun b j o e=>(p.pin (b,o) (eU _ (eU _ (lM j e)))).1,fun b j=>?_,w7⟩;obtain⟨o,e,d⟩:=T.obj _ _ B b j;exact(p.pin (b,o) (eU _ (eU _ (lM j e)))).2.1
  cases f with
  |next=>obtain⟨σ7,l,p,M⟩:=y;exact again p M
  |cont=>obtain⟨σ7,l,p,M⟩:=y;exact again p M
  |brk=>obtain⟨σ7,l,p,y⟩:=y;exact⟨σ7,l,p.unpinned,y⟩
  |ret v=>obtain⟨x7,σ7,l,p,r7,y⟩:=y;exact⟨x7,σ7,l,p.unpinned,r7,y⟩
end
theorem bR{K:Za}{a:Addr}{xs:List V}{g:TG}{k:TS}{D:si}{σ:St}{H:Hp}(Pv:Nat->St->Hp->Prop)(n:Pv 0 σ H)(o:∀i σ H,i<=xs.length->Pv i σ H->aw K H a xs)
  (r:∀i x σ H,xs[i]?=some x->Pv i σ H->g x σ H fun σ2 j=>k { D with nx:=Pv (i+1),ct:=Pv (i+1),bk:=D.nx } σ2 j) (s:∀σ H,Pv xs.length σ H->D.nx σ H) :
  ∃W:Nat->Nat->St->Hp->Prop,(∃m,W 0 m σ H)/\∀i m σ H,W i m σ H ->
   ((IW K a).stop i H/\D.nx σ H)∨((IW K a).go i H/\∃N:St->Hp->Prop,(∀σ' f,N σ' f->∃l,l<m/\W (i+1) l σ' f)/\∀x f,(IW K a).yld i H x f->g x σ f fun σ2 j=>k { D with nx:=N,ct:=N,bk:=D.nx } σ2 j):=by
 refine⟨fun i m σ H=>m=xs.length-i/\i<=xs.length/\Pv i σ H,⟨xs.length,by simp,dL _,n⟩,?_⟩;rintro i m σ H ⟨rfl,t,p⟩;have q:=o i σ H t p;by_cases h:i<xs.length
 ·refine .inr ⟨⟨xs,xs[i],q,by simp[h]⟩,Pv (i+1),fun σ' f u=>⟨xs.length-(i+1),by omega,rfl,h,u⟩,fun x f y=>?_⟩;obtain⟨e,y⟩:=y;subst e;exact r i x σ _ (y xs q) p
 ·have e:i=xs.length:=by omega
  subst e;exact .inl ⟨⟨xs,q,aD _⟩,s σ H p⟩
theorem EZ{K:Za}{a:Addr}{xs:List V}{g:TG}{k:TS}{D:si}{σ:St}{H:Hp}(Pv:Nat->St->Hp->Prop)(n:Pv 0 σ H)(o:∀i σ H,i<=xs.length->Pv i σ H->bP K H a xs)
  (r:∀i x σ H,xs[i]?=some x->Pv i σ H->g x σ H fun σ2 j=>k { D with nx:=Pv (i+1),ct:=Pv (i+1),bk:=D.nx } σ2 j) (s:∀σ H,Pv xs.length σ H->D.nx σ H) :
  ∃W:Nat->Nat->St->Hp->Prop,(∃m,W 0 m σ H)/\∀i m σ H,W i m σ H ->
   ((KO K a).stop i H/\D.nx σ H)∨((KO K a).go i H/\∃N:St->Hp->Prop,(∀σ' f,N σ' f->∃l,l<m/\W (i+1) l σ' f)/\∀x f,(KO K a).yld i H x f->g x σ f fun σ2 j=>k { D with nx:=N,ct:=N,bk:=D.nx } σ2 j):=by
 refine⟨fun i m σ H=>m=xs.length-i/\i<=xs.length/\Pv i σ H,⟨xs.length,by simp,dL _,n⟩,?_⟩;rintro i m σ H ⟨rfl,t,p⟩;have q:=o i σ H t p;by_cases h:i<xs.length
 ·refine .inr ⟨⟨xs,xs[i],q,by simp[h]⟩,Pv (i+1),fun σ' f u=>⟨xs.length-(i+1),by omega,rfl,h,u⟩,fun x f y=>?_⟩;obtain⟨e,y⟩:=y;subst e;exact r i x σ _ (y xs q) p
 ·have e:i=xs.length:=by omega
  subst e;exact .inl ⟨⟨xs,q,aD _⟩,s σ H p⟩
theorem kQ{lo:Int}{n:Nat}{g:TG}{j:TS}{D:si}{σ:St}{H:Hp}(Pv:Nat->St->Hp->Prop)(l:Pv 0 σ H)
  (o:∀i σ H,i<n->Pv i σ H->g (.int (lo+i)) σ H fun σ2 h=>j { D with nx:=Pv (i+1),ct:=Pv (i+1),bk:=D.nx } σ2 h) (q:∀σ H,Pv n σ H->D.nx σ H) :
  ∃W:Nat->Nat->St->Hp->Prop,(∃m,W 0 m σ H)/\∀i m σ H,W i m σ H ->
   ((Lm lo n).stop i H/\D.nx σ H)∨((Lm lo n).go i H/\∃N:St->Hp->Prop,(∀σ' a,N σ' a->∃k,k<m/\W (i+1) k σ' a)/\∀x a,(Lm lo n).yld i H x a->g x σ a fun σ2 h=>j { D with nx:=N,ct:=N,bk:=D.nx } σ2 h):=by
 refine⟨fun i m σ H=>m=n-i/\i<=n/\Pv i σ H,⟨n,by simp,dL _,l⟩,?_⟩;rintro i m σ H ⟨rfl,s,p⟩;by_cases f:i<n
 ·refine .inr ⟨f,Pv (i+1),fun σ' a r=>⟨n-(i+1),by omega,rfl,f,r⟩,fun x a y=>?_⟩;obtain⟨e,y⟩:=y;subst e y;exact o i σ _ f p
 ·have e:i=n:=by omega
  subst e;exact .inl ⟨aD _,q σ H p⟩
end L2
namespace L2
open PySem PySem.Spec PyProof.Rows
abbrev R2:=V->V->Hp->VK->Prop
def oy(X:Cx)(f:Value->Value->Sem Value)(r:R2):Prop :=
 ∀(J3:Zd) (s:Shared) (σ:St) (H:Hp) (x y:V) (v u:Value) (Q:VK),Inv X J3 σ H s->RelV x v->RelV y u->r x y H Q ->
  wpAny (model X.prog X.w) X.A (f v u) (EP X J3 σ Q) X.xe s
def UnR(X:Cx)(f:Value->Sem Value)(r:V->Hp->VK->Prop):Prop :=
 ∀(J3:Zd) (s:Shared) (σ:St) (H:Hp) (x:V) (v:Value) (Q:VK),Inv X J3 σ H s->RelV x v->r x H Q ->
  wpAny (model X.prog X.w) X.A (f v) (EP X J3 σ Q) X.xe s
def f_(X:Cx)(f:Value)(r:List V->Hp->VK->Prop):Prop :=
 ∀(J3:Zd) (s:Shared) (σ:St) (H:Hp) (xs:List V) (us:Zf) (Q:VK),Inv X J3 σ H s->bb xs us->r xs H Q ->
  wpAny (model X.prog X.w) X.A (call f us) (EP X J3 σ Q) X.xe s
def aH(r:R2)(ta tb:TE):TE:=fun σ H Q=>ta σ H fun x H1=>tb σ H1 fun y H2=>r x y H2 Q
def Mt(r:V->Hp->VK->Prop)(ta:TE):TE:=fun σ H Q=>ta σ H fun x H1=>r x H1 Q
def rI(C:Int->Int->Prop)(g:Int->Int->V):R2:=fun x y H Q=>∃i j,x=.int i/\y=.int j/\C i j/\Q (g i j) H
def EA(g:Int->Int->V):R2:=fun x y H Q=>∃i j,x=.int i/\y=.int j/\Q (g i j) H
def rU(g:Int->V):V->Hp->VK->Prop:=fun x H Q=>∃i,x=.int i/\Q (g i) H
section
variable{X:Cx}{a b c:Expr}{ta tb tc:TE}{pos:Pos}
theorem Lh(m:PE X a ta)(n:PE X b tb){j:Zd}{s:Shared}{σ:St}{H:Hp}{R:V->V->Hp->Prop}(I:Inv X j σ H s)
  (h:ta σ H fun x l=>tb σ l fun y e=>R x y e) {Q:Zc}{f:Value->Value->Sem Value}
  (o:∀v u k x y e,Inv X j σ e k->RelV x v->RelV y u->R x y e->wpAny (model X.prog X.w) X.A (f v u) Q X.xe k) :
  wpAny (model X.prog X.w) X.A (eval a X.env) (fun v g=>wpAny (model X.prog X.w) X.A (eval b X.env) (fun u i=>wpAny (model X.prog X.w) X.A (f v u) Q X.xe i) X.xe g) X.xe s:=by
 refine cJ (m j s σ H _ I h) fun v p ⟨x,l,q,r,t⟩=>?_;refine cJ (n j p σ l _ q t) fun u k ⟨y,e,z,B,C⟩=>?_;exact o v u k x y e z r B C
theorem az{e:Operator}{r:R2}(f:oy X (mB e) r)(g:PE X a ta)(i:PE X b tb):PE X (.BinOp a e b pos) (aH r ta tb):=by
 intro j s σ H Q I h;exact wpAny_BinOp (Lh g i I h fun v u k x y l m n o q=>f j k σ l x y v u Q m n o q)
theorem EG{e:UnaryOp}{r:V->Hp->VK->Prop}(g:UnR X (unaryOp e) r)(i:PE X a ta):PE X (.UnaryOp e a pos) (Mt r ta):=by
 intro f s σ H Q I h;exact UnaryOp_ (cJ (i f s σ H _ I h) fun v j ⟨x,k,l,m,n⟩=>g f j σ k x v Q l m n)
theorem Lp{f:Value->Value->Sem Value}{C:Int->Int->Prop}{g:Int->Int->Int}
  (rule:∀(i j:Int) (t u:Tok) (s:Shared) (Q:Zc) (E:Zc),C i j->Q (.int (g i j) s.toks) { s with toks:=s.toks+1 }->wpAny (model X.prog X.w) X.A (f (.int i t) (.int j u)) Q E s) :
  oy X f (rI C fun i j=>.int (g i j)):=by
 intro n s σ H x y v u Q I e k h;obtain⟨i,j,rfl,rfl,l,q⟩:=h;obtain⟨t,rfl⟩:=e;obtain⟨m,rfl⟩:=k;exact rule i j t m s _ _ l ⟨.int (g i j),H,I.tok _,⟨_,rfl⟩,q⟩
theorem LN{f:Value->Value->Sem Value}{g:Int->Int->Int}
  (rule:∀(i j:Int) (t u:Tok) (s:Shared) (Q:Zc) (E:Zc),Q (.int (g i j) s.toks) { s with toks:=s.toks+1 }->wpAny (model X.prog X.w) X.A (f (.int i t) (.int j u)) Q E s) :
  oy X f (EA fun i j=>.int (g i j)):=by
 intro m s σ H x y v u Q I e k h;obtain⟨i,j,rfl,rfl,q⟩:=h;obtain⟨t,rfl⟩:=e;obtain⟨l,rfl⟩:=k;exact rule i j t l s _ _ ⟨.int (g i j),H,I.tok _,⟨_,rfl⟩,q⟩
theorem JO{f:Value->Value->Sem Value}{g:Int->Int->Bool}
  (rule:∀(i j:Int) (t u:Tok) (s:Shared) (Q:Zc) (E:Zc),Q (.bool (g i j)) s->wpAny (model X.prog X.w) X.A (f (.int i t) (.int j u)) Q E s) :
  oy X f (EA fun i j=>.bl (g i j)):=by
 intro m s σ H x y v u Q I e k h;obtain⟨i,j,rfl,rfl,q⟩:=h;obtain⟨t,rfl⟩:=e;obtain⟨l,rfl⟩:=k;exact rule i j t l s _ _ ⟨.bl (g i j),H,I,rfl,q⟩
def Mm(i j:Int):Prop:=0<j/\j<1073741824
def Ml(i j:Int):Prop:=0<=j/\j<=1000000/\i.natAbs<2 ^ 64
def IY(i j:Int):Prop:=(-(2 ^ 64)<i/\i<2 ^ 64)∨(-(2 ^ 64)<j/\j<2 ^ 64)
theorem IY.ok{i j:Int}(h:IY i j):IntMulOk i j:=by
 rcases h with⟨e,f⟩|⟨e,f⟩
 ·exact .of_left (intBits_le_64 e f)
 ·exact .of_right (intBits_le_64 e f)
theorem cB:oy X (mB .Add) (EA fun i j=>.int (i+j)):=LN fun _ _ _ _ _ _ _ q=>add_int q
theorem jA:oy X (mB .Sub) (EA fun i j=>.int (i-j)):=LN fun _ _ _ _ _ _ _ q=>sub_int q
theorem jC:oy X (mB .Mult) (rI IY fun i j=>.int (i * j)):=Lp fun _ _ _ _ _ _ _ e q=>mul_int q e.ok
theorem EM:oy X (mB .FloorDiv) (rI Mm fun i j=>.int (i / j)):=Lp fun i j _ _ _ _ _ e q=>by
 have f:(0:Int)<j:=e.1;have g:j<1073741824:=e.2;exact floordiv_int (by omega) (by rw[Int.fdiv_eq_ediv_of_nonneg i (by omega)];exact q) (.inl (PyProof.noPylong_small (by omega)))
theorem gZ:oy X (mB .Mod) (rI (fun _ j=>0<j) fun i j=>.int (i % j)):=Lp fun i j _ _ _ _ _ e q=>by
 have f:(0:Int)<j:=e;exact mod_int' (by omega) (by rw[Int.fmod_eq_emod_of_nonneg i (by omega)];exact q)
theorem HQ:oy X (mB .Pow) (rI Ml fun i j=>.int (i ^ j.toNat)):=Lp fun _ _ _ _ _ _ _ e q=>pow_int_small e.1 e.2.1 e.2.2 q
theorem unI{f:Value->Sem Value}{g:Int->Int}
  (rule:∀(i:Int) (t:Tok) (s:Shared) (Q:Zc) (E:Zc),Q (.int (g i) s.toks) { s with toks:=s.toks+1 }->wpAny (model X.prog X.w) X.A (f (.int i t)) Q E s) :
  UnR X f (rU fun i=>.int (g i)):=by
 intro j s σ H x v Q I e h;obtain⟨i,rfl,q⟩:=h;obtain⟨t,rfl⟩:=e;exact rule i t s _ _ ⟨.int (g i),H,I.tok _,⟨_,rfl⟩,q⟩
theorem yW:UnR X (unaryOp .USub) (rU fun i=>.int (-i)):=unI fun _ _ _ _ _ q=>neg_int q
end
def LC:V->V->Bool
 |.non,.non=>true | .non,.int _=>true | .int _,.non=>true | .non,.bl _=>true | .bl _,.non=>true | .non,.str _=>true | .str _,.non=>true
 |.int _,.int _=>true | .bl _,.bl _=>true | .str _,.str _=>true | .byt _,.byt _=>true
 |.int _,.str _=>true | .str _,.int _=>true | .bl _,.str _=>true | .str _,.bl _=>true
 |_,_=>false
def v5:R2:=fun x y H Q=>LC x y=true/\Q (.bl (decide (x=y))) H
def LG:R2:=fun x y H Q=>LC x y=true/\Q (.bl (!decide (x=y))) H
theorem Fb{i j:Int}:decide (V.int i=V.int j)=(i==j):=by
 rw[wY];simp
theorem IE{i j:Bool}:decide (V.bl i=V.bl j)=(i==j):=by
 rw[wY];simp
theorem E_{i j:Str}:decide (V.str i=V.str j)=(i==j):=by
 rw[wY];simp
theorem Fc{i j:Array UInt8}:decide (V.byt i=V.byt j)=(i.toList==j.toList):=by
 rw[wY];cases i;cases j;simp
section
variable{X:Cx}{a b c:Expr}{ta tb tc:TE}{pos:Pos}
theorem cb{f:Zd}{σ:St}{H:Hp}{s:Shared}{Q:VK}{k g:Bool}(I:Inv X f σ H s)(q:Q (.bl k) H)(e:k=g):EP X f σ Q (.bool g) s:=by
 subst e;exact⟨.bl k,H,I,rfl,q⟩
theorem g6:oy X (fT .Eq) v5:=by
 intro l s σ H x y v u Q I k e h;obtain⟨g,q⟩:=h;cases x with
 |non =>
  cases k;cases y with
  |non=>cases e;exact PySem.EqNone.eq_none_none (cb I q (by simp))
  |bl j=>cases e;exact PySem.EqNone.eq_none_bool (cb I q (by simp))
  |int j=>obtain⟨f,rfl⟩:=e;exact PySem.EqNone.eq_none_int (cb I q (by simp))
  |str j=>obtain⟨f,rfl⟩:=e;exact PySem.EqNone.eq_none_str (cb I q (by simp))
  |_=>exact absurd (show false=true from g) iB
 |bl i =>
  cases k;cases y with
  |non=>cases e;exact PySem.EqNone.eq_bool_none (cb I q (by simp))
  |bl j=>cases e;exact eq_bool (cb I q IE)
  |str j=>obtain⟨f,rfl⟩:=e;exact PySem.EqMixed.eq_bool_str (cb I q (by simp))
  |_=>exact absurd (show false=true from g) iB
 |int i =>
  obtain⟨t,rfl⟩:=k;cases y with
  |non=>cases e;exact PySem.EqNone.eq_int_none (cb I q (by simp))
  |int j=>obtain⟨f,rfl⟩:=e;exact eq_int (cb I q Fb)
  |str j=>obtain⟨f,rfl⟩:=e;exact PySem.EqMixed.eq_int_str (cb I q (by simp))
  |_=>exact absurd (show false=true from g) iB
 |str i =>
  obtain⟨t,rfl⟩:=k;cases y with
  |non=>cases e;exact PySem.EqNone.eq_str_none (cb I q (by simp))
  |bl j=>cases e;exact PySem.EqMixed.eq_str_bool (cb I q (by simp))
  |int j=>obtain⟨f,rfl⟩:=e;exact PySem.EqMixed.eq_str_int (cb I q (by simp))
  |str j=>obtain⟨f,rfl⟩:=e;exact eq_str (cb I q E_)
  |_=>exact absurd (show false=true from g) iB
 |byt i =>
  obtain⟨t,rfl⟩:=k;cases y with
  |byt j=>obtain⟨f,rfl⟩:=e;exact PySem.W.eq_bytes (cb I q Fc)
  |_=>exact absurd (show false=true from g) iB
 |_=>cases y<;>exact absurd (show false=true from g) iB
theorem EL:oy X (fT .NotEq) LG:=by
 intro l s σ H x y v u Q I k e h;obtain⟨g,q⟩:=h;cases x with
 |non =>
  cases k;cases y with
  |non=>cases e;exact PySem.EqNone.ne_none_none (cb I q (by simp))
  |bl j=>cases e;exact PySem.EqNone.ne_none_bool (cb I q (by simp))
  |int j=>obtain⟨f,rfl⟩:=e;exact PySem.EqNone.ne_none_int (cb I q (by simp))
  |str j=>obtain⟨f,rfl⟩:=e;exact PySem.EqNone.ne_none_str (cb I q (by simp))
  |_=>exact absurd (show false=true from g) iB
 |bl i =>
  cases k;cases y with
  |non=>cases e;exact PySem.EqNone.ne_bool_none (cb I q (by simp))
  |bl j=>cases e;exact ne_bool (cb I q (congrArg not IE))
  |str j=>obtain⟨f,rfl⟩:=e;exact PySem.EqMixed.ne_bool_str (cb I q (by simp))
  |_=>exact absurd (show false=true from g) iB
 |int i =>
  obtain⟨t,rfl⟩:=k;cases y with
  |non=>cases e;exact PySem.EqNone.ne_int_none (cb I q (by simp))
  |int j=>obtain⟨f,rfl⟩:=e;exact ne_int (cb I q (congrArg not Fb))
  |str j=>obtain⟨f,rfl⟩:=e;exact PySem.EqMixed.ne_int_str (cb I q (by simp))
  |_=>exact absurd (show false=true from g) iB
 |str i =>
  obtain⟨t,rfl⟩:=k;cases y with
  |non=>cases e;exact PySem.EqNone.ne_str_none (cb I q (by simp))
  |bl j=>cases e;exact PySem.EqMixed.ne_str_bool (cb I q (by simp))
  |int j=>obtain⟨f,rfl⟩:=e;exact PySem.EqMixed.ne_str_int (cb I q (by simp))
  |str j=>obtain⟨f,rfl⟩:=e;exact ne_str (cb I q (congrArg not E_))
  |_=>exact absurd (show false=true from g) iB
 |byt i =>
  obtain⟨t,rfl⟩:=k;cases y with
  |byt j=>obtain⟨f,rfl⟩:=e;exact PySem.W.ne_bytes (cb I q (congrArg not Fc))
  |_=>exact absurd (show false=true from g) iB
 |_=>cases y<;>exact absurd (show false=true from g) iB
theorem vf:oy X (fT .Lt) (EA fun i j=>.bl (decide (i<j))):=JO fun _ _ _ _ _ _ _ q=>lt_int q
theorem LK:oy X (fT .LtE) (EA fun i j=>.bl (decide (i<=j))):=JO fun _ _ _ _ _ _ _ q=>le_int q
theorem Br:oy X (fT .Gt) (EA fun i j=>.bl (decide (j<i))):=JO fun _ _ _ _ _ _ _ q=>gt_int q
theorem LM:oy X (fT .GtE) (EA fun i j=>.bl (decide (j<=i))):=JO fun _ _ _ _ _ _ _ q=>ge_int q
theorem FU:oy X (fT .In) (fun x y H Q=>∃i j,x=.str i/\y=.str j/\Q (.bl (!(bQ.Str.occurrences j i 0 j.length 1).isEmpty)) H):=by
 intro g s σ H x y v u Q I e f h;obtain⟨i,j,rfl,rfl,q⟩:=h;obtain⟨t,rfl⟩:=e;obtain⟨k,rfl⟩:=f;exact in_str (cb I q rfl)
theorem HW(b:Expr){e:CmpOp}(h:e≠.In:=by decide)(f:e≠.NotIn:=by decide):ml e b=false:=by
 have g:(e==CmpOp.In)=false:=by cases e<;>first|rfl|exact absurd rfl h
 have i:(e==CmpOp.NotIn)=false:=by cases e<;>first|rfl|exact absurd rfl f
 cases b<;>simp[ml,g,i]
theorem EJ{e:CmpOp}{r:R2}(f:oy X (fT e) r)(g:PE X a ta)(i:PE X b tb)(j:ml e b=false):PE X (.Compare a [e] [b] pos) (aH r ta tb):=by
 intro k s σ H Q I h;exact wpAny_Compare1 (Lh g i I h fun v u l x y m n o p q=>f k l σ m x y v u Q n o p q) j
def aU(t:TE):TT:=fun σ H Q=>t σ H fun x H'=>∃k,x=.bl k/\Q k H'
theorem EC{f:CmpOp}{r:R2}(i:oy X (fT f) r)(j:PE X a ta)(l:PE X b tb)(m:ml f b=false):PT X (.Compare a [f] [b] pos) (aU (aH r ta tb)):=by
 intro g s σ H Q I h;refine wpAny_isTrue_Compare1 (cJ (j g s σ H _ I h) fun v n ⟨x,o,p,q,t⟩=>cJ (l g n σ o _ p t) fun u w ⟨y,A,B,C,D⟩ =>
  cJ (i g w σ A x y v u _ B q C D) fun c M ⟨z,E,G,J,k,e,L⟩=>?_) m
 subst e;cases J;exact sE ⟨E,G,L⟩
theorem rP:(aj:Nat)<2 ^ 63:=by rw[sv];decide
theorem vg:oy X (mB .Add) (fun x y H Q=>∃i j,x=.str i/\y=.str j/\i.length+j.length<=aj/\Q (.str (i++j)) H):=by
 intro l s σ H x y v u Q I e f h;obtain⟨i,j,rfl,rfl,g,q⟩:=h;obtain⟨t,rfl⟩:=e;obtain⟨k,rfl⟩:=f;exact add_str (fun k tk=>⟨.str (i++j),H,I.tok _,⟨_,rfl⟩,q⟩) g
theorem vals1{x:V}{e:Zf}(r:bb [x] e):∃u,e=[u]/\RelV x u:=by
 cases r with
 |cons f g=>cases g;exact⟨_,rfl,f⟩
theorem vals2{x y:V}{e:Zf}(r:bb [x,y] e):∃u f,e=[u,f]/\RelV x u/\RelV y f:=by
 cases r with
 |cons g h =>
  cases h with
  |cons i j=>cases j;exact⟨_,_,rfl,g,i⟩
theorem GB(g:X.calm=true):f_ X (.builtin "max") (fun f H Q=>∃i j,f=[.int i,.int j]/\Q (.int (if j > i then j else i)) H):=by
 intro l s σ H f m Q I r h;obtain⟨i,j,rfl,q⟩:=h;obtain⟨u,n,rfl,⟨t,rfl⟩,⟨o,rfl⟩⟩:=vals2 r;refine max_two_ints (I.ok.hd g) fun p tk k=>⟨_,H,I.kept k,?_,q⟩;by_cases e:j > i
 ·rw[if_pos e,if_pos e];exact⟨_,rfl⟩
 ·rw[if_neg e,if_neg e];exact⟨_,rfl⟩
theorem GD:f_ X (.type "int") (fun e H Q=>(∃i,e=[.int i]/\Q (.int i) H)∨∃k,e=[.bl k]/\Q (.int (if k then 1 else 0)) H):=by
 intro g s σ H e j Q I r h;rcases h with⟨i,rfl,q⟩|⟨k,rfl,q⟩
 ·obtain⟨u,rfl,t,rfl⟩:=vals1 r;exact call_int_int ⟨.int i,H,I,⟨_,rfl⟩,q⟩
 ·obtain⟨u,rfl,f⟩:=vals1 r;cases f;exact call_int_bool ⟨.int (if k then 1 else 0),H,I.tok _,⟨_,rfl⟩,q⟩
end
end L2
namespace L2
open PySem PySem.Spec PyProof.Rows
structure DY(h:Heap)(x dx C:Addr)(mA:Str->Option Value):Prop where
 obj:h.get? x=some (sD C dx)
 ns:h.Ns1 dx mA
 ne:dx≠x
theorem Ga{h:Heap}{g:Addr}{i:Str->Option Value}(n:h.Ns1 g i):∃j,h.get? g=some j/\∀name,Ei name j=some (i name):=by
 obtain⟨o,k,v,l,m,p,_,r⟩:=n;refine⟨o,l,fun name=>?_⟩;have e:=r name;unfold nsFind findBy at e;rw[<-Array.find?_toList]at e;unfold Ei;rw[m];dsimp only;split
 ·rename_i y q;rw[q]at e;exact congrArg some e
 ·rename_i q;rw[q]at e;have a:k.toList.any (·.refKey)=false:=by
   rw[List.any_eq_false];intro y s;obtain⟨z,t,f⟩:=p y (Array.mem_toList_iff.mp s);simp[q_.refKey,f]
  have u:¬k.toList.any (·.refKey)=true:=by rw[a];exact iB
  rw[if_neg u];exact congrArg some e
theorem DY.look{h:Heap}{x e C:Addr}{f:Str->Option Value}(I:DY h x e C f):∃a,PySem.W.InstAt h x (sD C e) C (some a)/\∀name,Ei name a=some (f name) :=
 let⟨a,g,i⟩:=Ga I.ns
 ⟨a,⟨I.obj,rfl,rfl,g⟩,i⟩
section
variable{prog:cn}{w:World}{A:Around}{E:Zc}{s:Shared}{K:Za}{x dx C f:Addr}{mA:Str->Option Value}{name:Str}{v:Value}
theorem JW{a:Bool}{Q:Zc}(X:K.In s.heap)(I:DY s.heap x dx C mA)(g:sr K C name=true)(i:uf K C=true)
  (j:cO K (.ref C) name=some none) (k:mA name=some v) (e:PySem.W.handedIn v=true) (h:Q v { s with toks:=s.toks+1 }) :
  wpAny (model prog w) A (getAttr (.ref x) name a) Q E s:=by
 obtain⟨m,J,l⟩:=I.look;exact PySem.W.get_value X J (PySem.W.plainGet_of g).1 (PySem.W.findObj_own i j rfl (by rw[l,k])) e h
theorem Ir{e:Sem Bool}{Q:Value×List Value->Shared->Prop}(X:K.In s.heap)(I:DY s.heap x dx C mA)(a:sr K C name=true)
  (g:cO K (.ref C) name=some (some (.ref f))) (i:AI K (.ref f)=true) (j:mA name=none) (h:Q (.ref f,[.ref x]) s) :
  wpAny (model prog w) A (so (.ref x) name e) Q E s:=by
 obtain⟨k,J,l⟩:=I.look;exact PySem.W.method_fn X J (PySem.W.plainGet_of a).1 (PySem.W.plainGet_of a).2 g (beq_iff_eq.mp i) (by show(Ei name k).map (·.isSome)=some false;rw[l,j];rfl) h
theorem Js{n:Zb}{Q:Unit->Shared->Prop}(X:K.In s.heap)(I:DY s.heap x dx C mA)
  (o:cO K (.ref C) "__setattr__"=some (some (.builtin "object.__setattr__"))) (p:wX K C=true) (q:PySem.W.takerIn K C name=some none) (t:uf K C=true)
  (u:PySem.Within mA n) (z:n.length<=aj)
  (h:∀i,DY i x dx C (fun y=>if y=name then some v else mA y)->iW dx s.heap i->Q () { s with heap:=i,toks:=s.toks+2 }) :
  wpAny (model prog w) A (setAttr (.ref x) name v) Q E s:=by
 obtain⟨L,J,M⟩:=I.look;refine PySem.W.set_plain X J o (PySem.W.osa_open (s:={ s with toks:=s.toks+1 }) (r:=none) X J p q fun b=>?_);obtain⟨N,B,j⟩:=PySem.W.any_some t;have D:s.heap.get? x=some ⟨.ref C,some dx,.plain,#[]⟩:=I.obj;refine ak (aP (ak (ak (wpAny_loadPart D (ak (PySem.W.Looks.here (s:={ s with toks:=s.toks+1 }) (PySem.W.looks_clsIn X B) ?_))))));rw[j];refine aP (a:=some dx) (ak (aP (ak ?_)));refine wpAny_nsSet1 (s:={ s with toks:=s.toks+1 }) I.ns fun i e g=>?_;obtain⟨O,G,H,k,l,m⟩:=e.count (PySem.Within.cons name v u);refine ak (wpAny_lookBehind k (by rw[l];exact pastItsLine_dict (aB m (by rw[fS];omega))) ?_);exact aP (h _ ⟨(g.2 _ (gx I.ne)).trans I.obj,e,I.ne⟩ g)
theorem Ig{R:Result->Shared->Prop}{a:Zf}{e:List (Str×Value)}(X:K.In s.heap)(i:mz K C=true)
  (j:cO K (.ref C) "__init__"=some (some (.ref f))) (k:PySem.W.typeIn K (.ref f)=some (.type "function"))
  (h:zzl80 (model prog w) (A.under (.builtin "type.__call__" ⟨.ref C::a,e⟩)) (.call (.ref f) ⟨.ref (s.heap.objs.size+1)::a,e⟩) (PySem.W.InitBack (s.heap.objs.size+1) R)
   { s with heap:=(s.heap.push pH).push (sD C s.heap.objs.size) }) :
  zzl80 (model prog w) A (.call (.ref C) ⟨a,e⟩) R s:=by
 obtain⟨l,g,d,t,os⟩:=s;exact PySem.W.make_core (PySem.W.makes_of X i) (PySem.W.looks_findIn X j) (fun self=>PySem.W.bind_fn X self k) (.inl rfl) h
end
def cR(f:Str)(v:V):List (Str×V)->List (Str×V)
 |[]=>[(f,v)]
 | (g,x)::r=>if g=f then(g,v)::r else(g,x)::cR f v r
theorem aV(f g:Str)(v:V):∀fs:List (Str×V),(cR f v fs).lookup g=if g=f then some v else fs.lookup g
 |[]=>by
  show fL g [(f,v)]=_;by_cases h:g=f
  ·have a:(g==f)=true:=beq_iff_eq.mpr h;simp only[fL,a,if_pos h]
  ·have a:(g==f)=false:=beq_eq_false_iff_ne.mpr h;simp only[fL,a,if_neg h]
 | (k,x)::r=>by
  have j:=aV f g v r;rw[show cR f v ((k,x)::r)=(if k=f then(k,v)::r else(k,x)::cR f v r)from rfl]
  by_cases i:k=f
  ·rw[if_pos i];by_cases h:g=k
   ·have a:(g==k)=true:=beq_iff_eq.mpr h;simp only[fL,a,if_pos (h.trans i)]
   ·have a:(g==k)=false:=beq_eq_false_iff_ne.mpr h;simp only[fL,a,if_neg (fun e:g=f=>h (e.trans i.symm))]
  ·rw[if_neg i];by_cases h:g=k
   ·have a:(g==k)=true:=beq_iff_eq.mpr h;simp only[fL,a,if_neg (fun e:g=f=>i (h.symm.trans e))]
   ·have a:(g==k)=false:=beq_eq_false_iff_ne.mpr h;simp only[fL,a];exact j
theorem rR(f:Str)(v:V):∀fs:List (Str×V),f∈(cR f v fs).map (·.1)/\∀g,g∈fs.map (·.1)->g∈(cR f v fs).map (·.1)
 |[]=>⟨by simp[cR],fun g h=>by simp at h⟩
 | (k,x)::r=>by
  obtain⟨i,j⟩:=rR f v r;rw[show cR f v ((k,x)::r)=(if k=f then(k,v)::r else(k,x)::cR f v r)from rfl]
  by_cases a:k=f
  ·rw[if_pos a];subst a;exact⟨by simp,fun g h=>by simpa using h⟩
  ·rw[if_neg a];refine⟨?_,fun g h=>?_⟩
   ·rw[bG];exact c_ _ i
   ·rw[bG]at h ⊢;rcases cu.mp h with e|e
    ·exact cu.mpr (.inl e)
    ·exact c_ _ (j g e)
theorem sN(f:Str)(v:V):∀fs:List (Str×V),(cR f v fs).length<=fs.length+1
 |[]=>by simp[cR]
 | (k,x)::r=>by
  have e:=sN f v r;rw[show cR f v ((k,x)::r)=(if k=f then(k,v)::r else(k,x)::cR f v r)from rfl]
  by_cases a:k=f
  ·rw[if_pos a,fS,fS];omega
  ·rw[if_neg a,fS,fS];omega
theorem mw.some_of{v:V}{o:Option Value}(r:mw (some v) o):∃u,o=some u/\RelV v u:=by
 cases o with
 |none=>exact(show False from r).elim
 |some u=>exact⟨u,rfl,r⟩
theorem mw.none_of{o:Option Value}(r:mw none o):o=none:=by
 cases o with
 |none=>rfl
 |some u=>exact(show False from r).elim
theorem Gn{v:V}{u:Value}(r:RelV v u):PySem.W.handedIn u=true:=by
 cases v with
 |non=>cases(show u=Value.none from r);rfl
 |bl b=>cases(show u=Value.bool b from r);rfl
 |int i=>obtain⟨t,e⟩:=(show ∃t,u=Value.int i t from r);cases e;rfl
 |str x=>obtain⟨t,e⟩:=(show ∃t,u=Value.str x t from r);cases e;rfl
 |byt b=>obtain⟨t,e⟩:=(show ∃t,u=Value.bytes b t from r);cases e;rfl
 |flt b=>obtain⟨t,e⟩:=(show ∃t,u=Value.float b t from r);cases e;rfl
 |ref a=>cases(show u=Value.ref a from r);rfl
 |ty n=>cases(show u=Value.type n from r);rfl
section
variable{P:cn}{w:World}{H H':Hp}{h h':Heap}{a C dx:Addr}{fs fs':List (Str×V)}
theorem t4{K:Za}(i:nS P w K H h)(e:H a=some (.ins C dx fs)):∃g,DY h a dx C g/\(∀f,mw (fs.lookup f) (g f))/\PySem.Within g (fs.map (·.1))/\fs.length<=1000/\H dx=some (.own a):=by
 obtain⟨d,z,ne,j,g,n,r,q⟩:=(show cy P w K H h a (.ins C dx fs)from i a _ e);exact⟨g,⟨j,n,ne⟩,r,q,z,d⟩
end
structure Cu(K:Za)(C:Addr):Prop where
 pg:sr K C AH=true
 hd:uf K C=true
 po:wX K C=true
 sa:cO K (.ref C) "__setattr__"=some (some (.builtin "object.__setattr__"))
theorem Cu.get{K:Za}{C:Addr}(c:Cu K C)(f:Str):sr K C f=true:=c.pg
def cZ(K:Za)(C:Addr)(f:Str):Prop:=cO K (.ref C) f=some none
theorem cZ.taker{K:Za}{C:Addr}{f:Str}(n:cZ K C f):PySem.W.takerIn K C f=some none:=by
 unfold PySem.W.takerIn;rw[show cO K (.ref C) f=some none from n]
 rfl
structure Km(K:Za)(C:Addr)(m:Str)(f:Addr):Prop where
 at_:cO K (.ref C) m=some (some (.ref f))
 fn:AI K (.ref f)=true
 kp:gG K (.ref f)=true
section
variable{X:Cx}{J3:Zd}{σ:St}{H:Hp}{s:Shared}{a C dx:Addr}{fs:List (Str×V)}{f:Str}{v:V}{A:Around}{E:Zc}
theorem DF{b:Bool}{Q:Zc}(I:Inv X J3 σ H s)(e:H a=some (.ins C dx fs))(c:Cu X.K C)(n:cZ X.K C f)(l:fs.lookup f=some v)
  (h:∀u g,Inv X J3 σ H g->RelV v u->Q u g):wpAny (model X.prog X.w) A (getAttr (.ref a) f b) Q E s:=by
 obtain⟨j,O,r,_,_,_⟩:=t4 I.hok e;obtain⟨u,k,i⟩:=mw.some_of (v:=v) (o:=j f) (by rw[<-l];exact r f);exact JW I.kIn O (c.get f) c.hd n k (Gn i) (h u _ (I.tok _) i)
theorem vA{m:Str}{g:Addr}{i:Sem Bool}{Q:Value×List Value->Shared->Prop}(I:Inv X J3 σ H s)(e:H a=some (.ins C dx fs))(c:Cu X.K C)(k:Km X.K C m g)(l:fs.lookup m=none)
  (h:Q (.ref g,[.ref a]) s):wpAny (model X.prog X.w) A (so (.ref a) m i) Q E s:=by
 obtain⟨j,O,r,_,_,_⟩:=t4 I.hok e;have n:j m=none:=mw.none_of (by rw[<-l];exact r m);exact Ir I.kIn O (c.get m) k.at_ k.fn n h
theorem C4{y:V}{u:Value}{Q:Unit->Shared->Prop}(I:Inv X J3 σ H s)(e:H a=some (.ins C dx fs))(c:Cu X.K C)(n:cZ X.K C f)(N:fs.length<1000)(p:RelV y u)
  (h:∀j,Inv X J3 σ (upd H a (.ins C dx (cR f y fs))) j->Q () j):wpAny (model X.prog X.w) A (setAttr (.ref a) f u) Q E s:=by
 obtain⟨k,O,r,l,_,m⟩:=t4 I.hok e;have t:(fs.map (·.1)).length<=aj:=by rw[ah,sv];omega
 refine Js I.kIn O c.sa c.po n.taker c.hd l t fun B i D=>h _ ?_;have G:∃o,B.get? dx=some o:=let⟨o,_,_,J,_⟩:=i.ns;⟨o,J⟩;refine I.write (x:=a) (e:=dx) (by rw[e];exact ky) (.inr m) (fun b q L z=>(D.2 b L).trans z) G ?_;refine⟨by rw[ai O.ne];exact m,?_,O.ne,i.obj,_,i.ns,fun g=>?_,fun g M=>?_⟩
 ·have:=sN f y fs;omega
 ·show mw ((cR f y fs).lookup g) (if g=f then some u else k g)
  rw[aV];by_cases q:g=f
  ·rw[if_pos q,if_pos q];exact p
  ·rw[if_neg q,if_neg q];exact r g
 ·by_cases q:g=f
  ·rw[q];exact(rR f y fs).1
  ·refine(rR f y fs).2 g (l g fun z=>M ?_);show(if g=f then some u else k g)=none
   rw[if_neg q];exact z
theorem Inv.made(I:Inv X J3 σ H s):Inv X J3 σ (upd (upd H s.heap.objs.size (.own (s.heap.objs.size+1))) (s.heap.objs.size+1) (.ins C s.heap.objs.size []))
  { s with heap:=(s.heap.push pH).push (sD C s.heap.objs.size) }:=by
 have g:(s.heap.push pH).get? s.heap.objs.size=some pH:=cG s.heap rfl;have h:((s.heap.push pH).push (sD C s.heap.objs.size)).get? (s.heap.objs.size+1)=some (sD C s.heap.objs.size):=by
  have:=cG (s.heap.push pH) (o:=sD C s.heap.objs.size) rfl;rwa[mi]at this
 have i:(s.heap.push pH).Ns s.heap.objs.size (fun _=>none):=⟨pH,#[],_,g,rfl,(fun e j=>absurd j (by simp)),fun _=>rfl⟩;have k:=I.laid (a:=s.heap.objs.size) (o:=.own (s.heap.objs.size+1)) (h':=s.heap.push pH) (t':=s.toks) (fun b u q=>a_ _ q) (aD _) ⟨_,g⟩;refine k.laid (a:=s.heap.objs.size+1) (o:=.ins C s.heap.objs.size []) (t':=s.toks) (fun b u q=>a_ _ q) (Nat.le_of_eq (mi _ _)) ?_;have ne:s.heap.objs.size≠s.heap.objs.size+1:=bX (Nat.lt_succ_self _);refine⟨by rw[ai ne,aa],dL _,ne,h,fun _=>none,(Heap.Ns1.of_empty i).at fun o q=>a_ _ q,fun _=>ky,fun y l=>absurd rfl l⟩
theorem Kd{g:cn}{w:World}{i:Env}{e:Expr}{f:Str}{k:Pos}{s:Shared}{Q:Zc}(l:wW e f i (eval e i)=eval e i)
  (h:wpAny (model g w) A (eval e i) (fun o j=>wpAny (model g w) A (getAttr o f true) Q E j) E s):wpAny (model g w) A (eval (.Attribute e f k) i) Q E s :=
 Attribute_any_ h (by rw[arm_eval_Attribute,l])
end
def fQ(K:Za)(ta:TE)(f:Str):TE:=fun σ H Q=>ta σ H fun x H1=>∃a C dx fs v,x=.ref a/\H1 a=some (.ins C dx fs)/\Cu K C/\cZ K C f/\fs.lookup f=some v/\Q v H1
def mv(K:Za)(ta tv:TE)(f:Str):TS:=fun D σ H=>tv σ H fun y H1=>ta σ H1 fun x H2=>∃a C dx fs,x=.ref a/\H2 a=some (.ins C dx fs)/\Cu K C/\cZ K C f/\fs.length<1000 /\
 D.nx σ (upd H2 a (.ins C dx (cR f y fs)))
section
variable{X:Cx}{o e value:Expr}{f:Str}{pos pos' J7:Pos}{ta tv:TE}
theorem cz(g:PE X e ta)(i:wW e f X.env (eval e X.env)=eval e X.env):PE X (.Attribute e f pos) (fQ X.K ta f):=by
 intro j s σ H Q I h;refine Kd i (cJ (g j s σ H _ I h) fun u y ⟨x,k,m,p,a,C,z,fs,v,ex,r,c,n,l,q⟩=>?_);subst ex;obtain rfl:u=Value.ref a:=p;exact DF m r c n l fun A B t w=>⟨v,k,t,w,q⟩
theorem eX(i:PE X o ta)(j:PE X value tv)(k:sw value (some (.Attribute o f pos')) pos.line X.env=pure false):PS X (.Assign [.Attribute o f pos'] value pos) (mv X.K ta tv f):=by
 intro g s σ H D I h;refine plainObj_wpAny_Assign_Attribute (cJ (j g s σ H _ I h) fun u m ⟨y,p,r,t,q⟩=>cJ (i g m σ p _ r q) fun v G ⟨x,J,w,z,a,C,L,fs,ex,A,c,n,l,B⟩=>?_) k;subst ex;obtain rfl:v=Value.ref a:=z;exact C4 w A c n l t fun M E=>⟨σ,_,E,B⟩
end
section
variable{X:Cx}{J3:Zd}{σ:St}{H:Hp}{s:Shared}{A:Around}{E:Zc}{Q:Zc}{c:Value}{b:Bool}
inductive pd(K:Za)(H:Hp):V->Value->Prop where
 |non:pd K H .non (.type "NoneType")
 |bl (x:Bool):pd K H (.bl x) (.type "bool")
 |int (i:Int):pd K H (.int i) (.type "int")
 |str (x:Str):pd K H (.str x) (.type "str")
 |flt (x:UInt64):pd K H (.flt x) (.type "float")
 |lst {a:Addr}{xs:List V}(e:H a=some (.lst xs)):pd K H (.ref a) (.type "list")
 |frz {a:Addr}{o:Obj}{xs:List V}(e:H a=some (.frz o (.lst xs))):pd K H (.ref a) (.type "list")
 |tup {a:Addr}{xs:List V}(e:H a=some (.tup xs)):pd K H (.ref a) (.type "tuple")
 |dK {a:Addr}{kvs:List (fR×V)}(e:H a=some (.dK kvs)):pd K H (.ref a) (.type "dict")
 |dT {a:Addr}{kvs:List (TK×V)}(e:H a=some (.dT kvs)):pd K H (.ref a) (.type "dict")
 |ins {a C dx:Addr}{fs:List (Str×V)}(e:H a=some (.ins C dx fs)) (cl:Cu K C) (ha:cO K (.ref C) "__class__"=some (some (.builtin "object.__class__")))
   (hn:PySem.W.specialIn K (.builtin "object.__class__") "__get__"=some (some (.builtin "getset_descriptor.__get__"))) (htk:PySem.W.takesIn K (.builtin "object.__class__")=some true)
   (hm:PySem.W.mroIn K C (.type "object")=some true):pd K H (.ref a) (.ref C)
theorem Gh{x:V}{u t:Value}(I:Inv X J3 σ H s)(f:RelV x u)(ty:pd X.K H x t)(e:Eh X.K t c=some b)(h:∀tk,Q (.bool b) { s with toks:=tk }):
  wpAny (model X.prog X.w) A (call (.builtin "isinstance") [u,c]) Q E s:=by
 cases ty with
 |non=>cases(show u=Value.none from f);exact kq PySem.W.kitx_none I.kIn ky e (fun z=>nomatch z) h
 |bl y=>cases(show u=Value.bool y from f);exact kq PySem.W.kitx_bool I.kIn ky e (fun z=>nomatch z) h
 |int i=>obtain⟨t,q⟩:=(show ∃t,u=Value.int i t from f);cases q;exact kq PySem.W.kitx_int I.kIn ky e (fun z=>nomatch z) h
 |str y=>obtain⟨t,q⟩:=(show ∃t,u=Value.str y t from f);cases q;exact kq PySem.W.kitx_str I.kIn ky e (fun z=>nomatch z) h
 |flt y=>obtain⟨t,q⟩:=(show ∃t,u=Value.float y t from f);cases q;exact kq PySem.W.kitx_float I.kIn ky e (fun z=>nomatch z) h
 |@lst a l g =>
  cases(show u=Value.ref a from f);obtain⟨_,_,n,_,j⟩:=(show cy X.prog X.w X.K H s.heap a (.lst l)from I.hok a _ g);exact kq PySem.W.kitx_list I.kIn ⟨_,j,rfl⟩ e (fun z=>nomatch z) h
 |@frz a B l g =>
  cases(show u=Value.ref a from f);obtain⟨_,_,_,n,_,j⟩:=(show cy X.prog X.w X.K H s.heap a (.frz B (.lst l))from I.hok a _ g);exact kq PySem.W.kitx_list I.kIn ⟨_,j,rfl⟩ e (fun z=>nomatch z) h
 |@tup a l g =>
  cases(show u=Value.ref a from f);obtain⟨_,_,_,p⟩:=(show cy X.prog X.w X.K H s.heap a (.tup l)from I.hok a _ g);obtain⟨o,j,m,_⟩:=p;exact kq PySem.W.kitx_tuple I.kIn ⟨o,j,m⟩ e (fun z=>nomatch z) h
 |@dK a k g =>
  cases(show u=Value.ref a from f);obtain⟨_,_,T,_,p⟩:=(show cy X.prog X.w X.K H s.heap a (.dK k)from I.hok a _ g);obtain⟨o,D,G,j,m,_⟩:=p;exact kq PySem.W.kitx_dict I.kIn ⟨o,j,m.1⟩ e (fun z=>nomatch z) h
 |@dT a k g =>
  cases(show u=Value.ref a from f);obtain⟨_,_,l,_,o,D,G,j,m,_⟩:=(show cy X.prog X.w X.K H s.heap a (.dT k)from I.hok a _ g);exact kq PySem.W.kitx_dict I.kIn ⟨o,j,m.1⟩ e (fun z=>nomatch z) h
 |@ins a C U fs g v L M r N =>
  cases(show u=Value.ref a from f);obtain⟨Y,O,_⟩:=t4 I.hok g;obtain⟨od,J,_⟩:=O.look;exact kq (PySem.W.kitx_own (v.get _) v.hd L M r N) I.kIn J e (fun z=>nomatch z) h
end
end L2
namespace L2
open PySem PySem.Spec PyProof.Rows
structure fJ(k:Nat)(A:Around):Prop where
 hd:A.handled=none
 dp:A.depth+3 * k+5<recursionLimit
 un:A.units+16 * k+200<cLine
theorem fJ.mono{j k:Nat}{A:Around}(r:fJ k A)(h:j<=k):fJ j A:=⟨r.hd,by have:=r.dp;omega,by have:=r.un;omega⟩
theorem fJ.deeper{k:Nat}{A:Around}(r:fJ (k+1) A)(a:Env):fJ k (A.deeper a) :=
 ⟨r.hd,by have:=r.dp;show A.depth+1+3 * k+5<_;omega,by have:=r.un;show A.units+3+16 * k+200<_;omega⟩
theorem Dv{A:Around}{C:Addr}{a:Zf}{e:List (Str×Value)}:(A.under (.builtin "type.__call__" ⟨.ref C::a,e⟩)).depth=A.depth+1:=by
 first|rfl|simp[Around.under,Code.weight,Code.isCreation,Code.isGuard,Code.isCaller,Code.frames,Code.isFrame,guardIds]
theorem Du{A:Around}{C:Addr}{a:Zf}{e:List (Str×Value)}:(A.under (.builtin "type.__call__" ⟨.ref C::a,e⟩)).units=A.units+1:=by
 first|rfl|simp[Around.under,Code.cUnits,Code.frames,Code.isFrame]
theorem fJ.make{k:Nat}{A:Around}(r:fJ (k+1) A)(C:Addr)(a:Zf)(e:List (Str×Value)):fJ k (A.under (.builtin "type.__call__" ⟨.ref C::a,e⟩)) :=
 ⟨r.hd,by have:=r.dp;rw[Dv];omega,by have:=r.un;rw[Du];omega⟩
theorem fJ.depth{k:Nat}{A:Around}(r:fJ k A):A.depth<recursionLimit:=by have:=r.dp;omega
theorem fJ.units{k:Nat}{A:Around}(r:fJ k A):A.units+64<cLine:=by have:=r.un;omega
def bh:TA:=fun _ H Q=>Q [] H
def am(ta:TE)(tr:TA):TA:=fun σ H Q=>ta σ H fun x H1=>tr σ H1 fun xs H2=>Q (x::xs) H2
abbrev ay(a:TE):TA:=am a bh
abbrev aX(a b:TE):TA:=am a (am b bh)
abbrev cg(a b c:TE):TA:=am a (am b (am c bh))
section
variable{X:Cx}{e:Expr}{es:List Expr}{te:TE}{t:TA}{pos:Pos}
theorem cA:PA X [] bh:=fun _ _ _ _ H Q I h=>AG ⟨[],H,I,.nil,h⟩
theorem aG(f:PE X e te)(g:PA X es t)(i:aM (e::es) X.env=(false,eval e X.env)::aM es X.env:=by rfl):PA X (e::es) (am te t):=by
 intro pos a s σ H Q I h;rw[i];show wpAny _ _ (spliced ((false,eval e X.env)::backTo pos (aM es X.env))) _ _ s;refine wV (cJ (f a s σ H _ I h) fun u j ⟨x,k,l,m,n⟩=>?_);exact cJ (g pos a j σ k _ l n) fun w y ⟨o,p,q,r,v⟩=>⟨x::o,p,q,.cons m r,v⟩
def bg(t:TA):TE:=fun σ H Q=>t σ H fun xs H1=>xs.length<=aj/\∀p,H1 p=none->Q (.ref p) (upd H1 p (.tup xs))
def c9(t:TA):TE:=fun σ H Q=>t σ H fun xs H1=>xs.length<=aj/\∀p,H1 p=none->Q (.ref p) (upd H1 p (.lst xs))
theorem aA{i}(h:PA X es t):PE X (.Tuple es i pos) (bg t):=by
 intro j s σ H Q I k;refine wpAny_Tuple_spliced (cJ (h pos j s σ H _ I k) fun l a ⟨m,f,g,r,z,q⟩=>⟨by rw[<-r.length];exact z,?_⟩);have n:f a.heap.objs.size=none:=g.hok.fresh (aD _);refine⟨.ref a.heap.objs.size,upd f a.heap.objs.size (.tup m),g.laid (t':=a.toks) (fun b u e=>a_ _ e) (aD _) ?_,rfl,q _ n⟩;exact⟨z,l,r,⟨_,cG _ rfl,rfl,_,rfl⟩⟩
theorem br(h:PA X es t):PE X (.List es pos) (c9 t):=by
 intro i s σ H Q I j;refine wpAny_List_spliced (cJ (h pos i s σ H _ I j) fun k a ⟨l,f,g,r,z,q⟩=>⟨by rw[<-r.length];exact z,?_⟩);have m:f a.heap.objs.size=none:=g.hok.fresh (aD _);refine⟨.ref a.heap.objs.size,upd f a.heap.objs.size (.lst l),g.laid (t':=a.toks) (fun b u e=>a_ _ e) (aD _) ?_,rfl,q _ m⟩;exact⟨z,k,0,r,cG _ rfl⟩
end
abbrev Sp:=List V->Hp->VK->XK->Prop
abbrev GV:=List Env->Hp->Shared->XK->Value->Shared->Prop
structure Ed(P:cn)(w:World)(K:Za)(mg:Str->Option Value)(base:Heap)(A:Around)(outer:List Env)(s:Shared)(H:Hp):Prop where
 frames:A.frames=some outer
 mod:Mod K mg base
 bs:∀b o,base.get? b=some o->s.heap.get? b=some o/\H b=none
 bsz:base.objs.size<=s.heap.objs.size
 funs:s.heap.FunFrames base outer
 frf:∀b∈GU outer,H b=none
 hok:nS P w K H s.heap
 bare:pJ s.gens
def CE(outer:List Env)(P:cn)(w:World)(K:Za)(H:Hp)(s:Shared)(Q:VK)(u:Value)(s':Shared):Prop :=
 ∃v H',s'.os=s.os/\pJ s'.gens/\Un (GU outer) [] H H' s.heap s'.heap/\nS P w K H' s'.heap/\RelV v u/\Q v H'
def CR(CX:GV)(outer:List Env)(P:cn)(w:World)(K:Za)(H:Hp)(s:Shared)(Q:VK)(E:XK)(r:Result)(s':Shared):Prop :=
 match r with
 |.ok (.ret u)=>CE outer P w K H s Q u s'
 |.ok _=>False
 |.error e=>CX outer H s E e s'
structure nu(P:cn)(w:World)(K:Za)(mg:Str->Option Value)(base:Heap)(CX:GV)(k:Nat)(f:Addr)(fd:mh)(ps:Zb)(sp:Sp):Prop where
 len:∀vs H Q E,sp vs H Q E->vs.length=ps.length
 run:∀(A:Around) (outer:List Env) (s:Shared) (H:Hp) (args:Args) (us:Zf) (vs:List V) (Q:VK) (E:XK),fJ k A->Ed P w K mg base A outer s H->ue s fd args (ps.zip us)->bb vs us->sp vs H Q E ->
  zzl80 (model P w) A (.call (.ref f) args) (CR CX outer P w K H s Q E) s
theorem Ed.make{P:cn}{w:World}{K:Za}{a:Str->Option Value}{base:Heap}{A:Around}{outer:List Env}{s:Shared}{H:Hp}(e:Ed P w K a base A outer s H)(C:Addr)(f:Zf)(g:List (Str×Value)):
  Ed P w K a base (A.under (.builtin "type.__call__" ⟨.ref C::f,g⟩)) outer s H:=⟨by first|exact e.frames|(simpa[Around.under,Code.envs,Code.isFrame,pushEnvs]using e.frames),e.mod,e.bs,e.bsz,e.funs,e.frf,e.hok,e.bare⟩
section
variable{X:Cx}{J3:Zd}{σ:St}{H:Hp}{s s':Shared}
theorem Inv.env0(I:Inv X J3 σ H s):Ed X.prog X.w X.K X.mg X.base X.A X.stack s H :=
 ⟨I.ok.frames,I.ok.mod,I.bs,aB I.ok.bsz I.sz,I.stack,I.stkFree,I.hok,I.bare⟩
theorem Inv.after{Q:VK}{u:Value}(I:Inv X J3 σ H s)(h:CE X.stack X.prog X.w X.K H s Q u s'):EP X J3 σ Q u s':=by
 obtain⟨v,i,os,a,un,e,r,q⟩:=h;obtain⟨j,g,d,t,f⟩:=s';obtain rfl:f=s.os:=os;exact⟨v,i,I.call (h':=j) (g':=g) (d':=d) (t':=t) (ch:=[]) un e a (fun b z=>absurd z (by simp)),r,q⟩
end
def Kr(sp:Sp)(dvs:List V)(E:XK)(t:TA):TE:=fun σ H Q=>t σ H fun vs H1=>sp (vs++dvs) H1 Q E
def cq(C:Addr)(m:Str)(sp:Sp)(dvs:List V)(E:XK)(ta:TE)(t:TA):TE:=fun σ H Q=>ta σ H fun x H1=>∃a dx fs,x=.ref a/\H1 a=some (.ins C dx fs)/\fs.lookup m=none /\
 t σ H1 fun vs H2=>sp (x::(vs++dvs)) H2 Q E
def uQ(C:Addr)(sp:Sp)(dvs:List V)(E:XK)(t:TA):TE:=fun σ H Q=>t σ H fun vs H1=>∀x dx,H1 x=none->H1 dx=none->dx≠x ->
 sp (.ref x::(vs++dvs)) (upd (upd H1 dx (.own x)) x (.ins C dx [])) (fun v H2=>v=.non/\Q (.ref x) H2) E
def Binds(K:Za)(fd:mh)(ps:Zb)(ds:Zf):Prop :=
 ∀(s:Shared) (us:Zf),K.In s.heap->(us++ds).length=ps.length->ue s fd ⟨us,[]⟩ (ps.zip (us++ds))
theorem Binds.all{K:Za}{f:mh}{e:Zb}(h:∀a:List Value,a.length=e.length->bindArgs f ⟨a,[]⟩=pure (e.zip a)):Binds K f e []:=fun s a _ g=>by
 rw[dO]at g ⊢;exact .of_eq (h a g)
def pf(CX:GV)(X:Cx)(E:XK):Prop:=∀(J3:Zd) (σ:St) (H:Hp) (s:Shared) (e:Value) (s':Shared),Inv X J3 σ H s->CX X.stack H s E e s'->X.xe e s'
section
variable{X:Cx}{CX:GV}{k:Nat}{f C:Addr}{fd:mh}{ps:Zb}{sp:Sp}{dvs:List V}{ds:Zf}{E:XK}{x m:Str}{p pos J5:Pos}{e o:Expr}{es:List Expr}{ta:TE}{t:TA}
theorem C5{g:Zd}{σ:St}{H:Hp}{s:Shared}{Q:VK}{us:Zf}{vs:List V}(F:nu X.prog X.w X.K X.mg X.base CX k f fd ps sp)(j:fJ k X.A)(l:Binds X.K fd ps ds)(n:bb dvs ds)(q:pf CX X E)
  (I:Inv X g σ H s) (r:bb vs us) (h:sp (vs++dvs) H Q E):wpAny (model X.prog X.w) X.A (call (.ref f) us) (EP X g σ Q) X.xe s:=by
 have i:bb (vs++dvs) (us++ds):=r.append n;have v:(us++ds).length=ps.length:=by rw[<-i.length];exact F.len _ _ _ _ h
 refine wpAny_call (Eg (F.run X.A X.stack s H ⟨us,[]⟩ (us++ds) (vs++dvs) Q E j I.env0 (l s us I.kIn v) i h) fun r y a=>?_);cases r with
 |error e=>exact q g σ H s e y I a
 |ok z =>
  cases z with
  |ret u=>exact I.after a
  |next=>exact kz a
  |brk=>exact kz a
  |cont=>exact kz a
theorem JM(F:nu X.prog X.w X.K X.mg X.base CX k f fd ps sp)(j:fJ k X.A)(l:Gl X x)(n:X.mg x=some (.ref f))(u:gG X.K (.ref f)=true)(v:Binds X.K fd ps ds)(y:bb dvs ds)(z:pf CX X E)
  (B:PA X (e::es) t) (a:(x==("__debug__":Str))=false:=by decide) (D:aM (e::es) X.env=(false,eval e X.env)::aM es X.env:=by rfl) (g:(backTo pos (aM es X.env)).any (·.1)=false:=by rfl) :
  PE X (.Call (.Name x p) (e::es) [] pos) (Kr sp dvs E t):=by
 intro G s σ H Q I h;refine AF (z5 I l n ?_ a);refine PySem.W.callWith_K (h₀:=X.base) I.ok.mod.kin u (cJ (B pos G s σ H _ I h) fun J L ⟨M,N,i,r,q⟩=>⟨i.kIn,?_⟩) D g;exact C5 F j v y z i r q
theorem JI{pl:Sem Bool}(B:PE X o ta)(c:Cu X.K C)(j:Km X.K C m f)(F:nu X.prog X.w X.K X.mg X.base CX k f fd ps sp)(D:fJ k X.A)(G:Binds X.K fd ps ds)(J:bb dvs ds)(L:pf CX X E)(M:PA X (e::es) t)
  (g:aM (e::es) X.env=(false,eval e X.env)::aM es X.env:=by rfl) (i:(backTo pos (aM es X.env)).any (·.1)=false:=by rfl)
  (N:eval (.Call (.Attribute o m J5) (e::es) [] pos) X.env=(do
   let n <- eval o X.env
   sy J5.atName
   let(f,first) <- mj [n] (so n m pl)
   wU pos f first (backTo pos (aM (e::es) X.env)) (pG pos (lg [] X.env))):=by rfl) :
  PE X (.Call (.Attribute o m J5) (e::es) [] pos) (cq C m sp dvs E ta t):=by
 intro v s σ H Q I h;refine PySem.W.methodCall_KW (pl:=pl) (cJ (B v s σ H _ I h) fun u O ⟨x,T,y,U,a,dx,fs,ex,Y,l,q⟩=>?_) N;subst ex;obtain rfl:u=Value.ref a:=U;refine vA y Y c j l ?_;refine PySem.W.callWith_K (first:=[.ref a]) (h₀:=X.base) I.ok.mod.kin j.kp (cJ (M pos v O σ T _ y q) fun us s2 ⟨vs,H2,z,r,q2⟩=>⟨z.kIn,?_⟩) g i
 exact C5 (us:=.ref a::us) (vs:=.ref a::vs) F D G J L z (.cons rfl r) q2
theorem HM{pl:Sem Bool}(n:PE X o ta)(c:Cu X.K C)(i:Km X.K C m f)(F:nu X.prog X.w X.K X.mg X.base CX k f fd ps sp)(r:fJ k X.A)(v:Binds X.K fd ps ds)(y:bb dvs ds)(z:pf CX X E)
  (B:eval (.Call (.Attribute o m J5) [] [] pos) X.env=(do
   let j <- eval o X.env
   sy J5.atName
   let(f,first) <- mj [j] (so j m pl)
   wU pos f first (backTo pos (aM [] X.env)) (pG pos (lg [] X.env))):=by rfl) :
  PE X (.Call (.Attribute o m J5) [] [] pos) (cq C m sp dvs E ta bh):=by
 intro D s σ H Q I h;refine PySem.W.methodCall_KW (pl:=pl) (cJ (n D s σ H _ I h) fun u L ⟨x,M,g,G,a,N,fs,ex,J,l,q⟩=>?_) B;subst ex;obtain rfl:u=Value.ref a:=G;refine vA g J c i l ?_;exact PySem.W.callWith_K0 (first:=[.ref a]) g.kIn i.kp (C5 (us:=[.ref a]) (vs:=[.ref a]) F r v y z g (.cons rfl .nil) q)
structure Mk(K:Za)(C f:Addr):Prop where
 makes:mz K C=true
 init:cO K (.ref C) "__init__"=some (some (.ref f))
 fn:AI K (.ref f)=true
 kp:gG K (.ref C)=true
theorem Hi{l:Zd}{σ:St}{H:Hp}{s:Shared}{Q:VK}{g:Zf}{n:List V}(M:Mk X.K C f)(F:nu X.prog X.w X.K X.mg X.base CX k f fd ps sp)(z:fJ (k+1) X.A)(B:Binds X.K fd ps ds)(D:bb dvs ds)
  (G:pf CX X E) (I:Inv X l σ H s) (r:bb n g)
  (h:∀x i,H x=none->H i=none->i≠x->sp (.ref x::(n++dvs)) (upd (upd H i (.own x)) x (.ins C i [])) (fun v J=>v=.non/\Q (.ref x) J) E) :
  wpAny (model X.prog X.w) X.A (call (.ref C) g) (EP X l σ Q) X.xe s:=by
 have q:=h (s.heap.objs.size+1) s.heap.objs.size (I.hok.fresh (rh _)) (I.hok.fresh (aD _)) (bX (Nat.lt_succ_self _));have j:=Inv.made (C:=C) I;have y:bb (V.ref (s.heap.objs.size+1)::(n++dvs)) (Value.ref (s.heap.objs.size+1)::(g++ds)):=.cons rfl (r.append D);have L:(Value.ref (s.heap.objs.size+1)::g++ds).length=ps.length:=by
  have e:=y.length;rw[F.len _ _ _ _ q]at e;exact e.symm
 refine wpAny_call (Ig (f:=f) I.kIn M.makes M.init (beq_iff_eq.mp M.fn) (Eg (F.run _ X.stack _ _ ⟨Value.ref (s.heap.objs.size+1)::g,[]⟩ (Value.ref (s.heap.objs.size+1)::(g++ds)) _ _ E (z.make C g [])
  (j.env0.make C g []) (B _ (Value.ref (s.heap.objs.size+1)::g) j.kIn L) y q) fun r N a=>?_))
 cases r with
 |error e=>exact G l σ _ _ e N j a
 |ok O =>
  cases O with
  |ret u =>
   obtain⟨v,T,U,Y,ev,q3⟩:=j.after a;subst ev;exact⟨Y,⟨V.ref (s.heap.objs.size+1),T,U,rfl,q3⟩⟩
  |next=>exact kz a
  |brk=>exact kz a
  |cont=>exact kz a
theorem JJ(M:Mk X.K C f)(F:nu X.prog X.w X.K X.mg X.base CX k f fd ps sp)(j:fJ (k+1) X.A)(l:Gl X x)(n:X.mg x=some (.ref C))(u:Binds X.K fd ps ds)(v:bb dvs ds)(y:pf CX X E)
  (z:PA X (e::es) t) (a:(x==("__debug__":Str))=false:=by decide) (B:aM (e::es) X.env=(false,eval e X.env)::aM es X.env:=by rfl) (g:(backTo pos (aM es X.env)).any (·.1)=false:=by rfl) :
  PE X (.Call (.Name x p) (e::es) [] pos) (uQ C sp dvs E t):=by
 intro D s σ H Q I h;refine AF (z5 I l n ?_ a);refine PySem.W.callWith_K (h₀:=X.base) I.ok.mod.kin M.kp (cJ (z pos D s σ H _ I h) fun G J ⟨L,N,i,r,q⟩=>⟨i.kIn,?_⟩) B g;exact Hi M F j u v y i r q
end
structure lV(N P:Zb)(sc:Scope):Prop where
 kind:sc.kind=.function
 co:sc.isCoroutine=false
 gen:sc.isGenerator=false
 nd:N.Nodup
 pre:N.take P.length=P
 par:∀x∈P,sc.names.lookup x=some .local∨sc.names.lookup x=some .cell
 nofree:∀y∈sc.names,y.2≠.free
theorem xP{kindOf:Str->Option h9}{x:Str}:∀{binds:List (Str×Value)}{m:Str->Option Value},(∀v,(x,v)∉binds)->bindL kindOf binds m x=m x
 |[],_,_=>rfl
 | (n,v)::r,m,h=>by
  unfold bindL;rw[xP fun w a=>h w (c_ _ a)];split
  ·have:x≠n:=by rintro rfl;exact h v cW
   simp[this]
  ·rfl
theorem xR{kindOf:Str->Option h9}{x:Str}:∀{binds:List (Str×Value)}{m:Str->Option Value},(∀v,(x,v)∉binds)->bindC kindOf binds m x=m x
 |[],_,_=>rfl
 | (n,v)::r,m,h=>by
  unfold bindC;rw[xR fun w a=>h w (c_ _ a)];split
  ·rfl
  ·have:x≠n:=by rintro rfl;exact h v cW
   simp[this]
theorem xQ{kindOf:Str->Option h9}{x:Str}{v:Value}:∀{P:Zb}{a:Zf}{i:Nat}{m:Str->Option Value},P.Nodup->P[i]?=some x->a[i]?=some v->kindOf x=some .local ->
  bindL kindOf (P.zip a) m x=some v
 |[],_,_,_,_,h,_,_=>by simp at h
 |_::_,[],_,_,_,_,h,_=>by simp at h
 |p::P,w::a,0,m,g,e,f,j=>by
  simp at e f;subst e;subst f;show bindL kindOf ((p,w)::P.zip a) m p=_;unfold bindL;rw[xP fun v k=>(gp.mp g).1 (List.of_mem_zip k).1,if_pos j];simp
 |p::P,w::a,i+1,m,g,e,f,j=>by
  show bindL kindOf ((p,w)::P.zip a) m x=_;unfold bindL;exact xQ (i:=i) (gp.mp g).2 (by simpa using e) (by simpa using f) j
theorem xS{kindOf:Str->Option h9}{x:Str}{v:Value}:∀{P:Zb}{a:Zf}{i:Nat}{m:Str->Option Value},P.Nodup->P[i]?=some x->a[i]?=some v->kindOf x≠some .local ->
  bindC kindOf (P.zip a) m x=some v
 |[],_,_,_,_,h,_,_=>by simp at h
 |_::_,[],_,_,_,_,h,_=>by simp at h
 |p::P,w::a,0,m,g,e,f,j=>by
  simp at e f;subst e;subst f;show bindC kindOf ((p,w)::P.zip a) m p=_;unfold bindC;rw[xR fun v k=>(gp.mp g).1 (List.of_mem_zip k).1,if_neg j];simp
 |p::P,w::a,i+1,m,g,e,f,j=>by
  show bindC kindOf ((p,w)::P.zip a) m x=_;unfold bindC;exact xS (i:=i) (gp.mp g).2 (by simpa using e) (by simpa using f) j
def start(N:Zb)(vs:List V):St:=vs.map some++List.replicate (N.length-vs.length) none
def DN(CX:GV)(P:cn)(w:World)(K:Za)(mg:Str->Option Value)(base:Heap)(N:Zb)(qual:Str)(scope:Scope)(f:Addr)(cd:Value)(A:Around)(outer:List Env)(s:Shared)(H:Hp)(E:XK):Cx where
 prog:=P
 w:=w
 K:=K
 mg:=mg
 base:=base
 A:=A.deeper (envOfC qual scope s.heap.objs.size f cd)
 N:=N
 s₀:=s
 H₀:=H
 env:=envOfC qual scope s.heap.objs.size f cd
 outer:=outer
 stack:=envOfC qual scope s.heap.objs.size f cd::outer
 ex:=[]
 calm:=true
 fn:=fun _=>true
 pn:=[]
 xe:=fun e s'=>wpAny (model P w) (A.deeper (envOfC qual scope s.heap.objs.size f cd)) (leaving (envOfC qual scope s.heap.objs.size f cd) e) (fun _ s''=>CX outer H s E e s'') (fun e' s''=>CX outer H s E e' s'') s'
theorem BV{a:Scope}{n:Nat}{x:Str}(h:a.names.lookup x=some .cell):∃c,(cellsFrom n a.names []).lookup x=some c:=by
 have q:=PySem.W.cellsFrom_some a.names n [] (.inl h);exact yT.mp q
theorem Gj{M:GV}{P:cn}{w:World}{K:Za}{J:Str->Option Value}{base:Heap}{N m:Zb}{g:Str}{scope:Scope}{f:Addr}{D:Value}{A:Around}{outer:List Env}{s O:Shared}{H:Hp}{E:XK}{L:Zf}{o:List V}
  (S:lV N m scope) (U:A.handled=none) (l:Ed P w K J base A outer s H) (hl:o.length=m.length) (r:bb o L)
  (x:InCallC s s.heap.objs.size (bindL (envOfC g scope s.heap.objs.size f D).kindOf (m.zip L) fun _=>none) (cellsFrom (s.heap.objs.size+1) scope.names []) (bindC (envOfC g scope s.heap.objs.size f D).kindOf (m.zip L) fun _=>none) O) :
  Inv (DN M P w K J base N g scope f D A outer s H E) [] (start N o) H O:=by
 have Y:m.length<=N.length:=by have:=congrArg List.length S.pre;rw[aJ]at this;omega
 obtain⟨G,tk,rfl,Q⟩:=x.done;have t:∀b:Addr,b∉(DN M P w K J base N g scope f D A outer s H E).ex:=fun b z=>absurd (show b∈([]:Ze)from z) (by simp);refine⟨⟨l.mod,S.kind,rfl,rfl,aD _,fun y z c G j=>?_,fun y hy=>?_,fun y c _ h=>?_,fun _=>U,Around.frames_deeper l.frames,.inr ⟨rfl,rfl⟩,fun b z=>absurd z (t b),l.bs,l.bsz,fun b _ _=>t b,fun b z=>absurd z (t b),l.funs,l.frf⟩,
  rfl,l.bare,Un.kept Q,⟨_,x.toInCall.ns,fun i y v G j h3=>?_⟩,fun y c h=>⟨_,x.cell y c h⟩,l.hok.fresh (aD _),fun y c h=>?_,fun p B=>absurd (show p∈([]:Zd)from B) (by simp),l.hok.kept Q,?_⟩
 ·exact name_of_addr x.apart (uH G) (uH j)
 ·have hy:scope.names.lookup y=some .cell∨scope.names.lookup y=some .free:=hy;rcases hy with hy|hy
  ·exact BV hy
  ·exact absurd rfl (S.nofree _ (uH hy))
 ·exact cV (x.above y c (uH h))
 ·have I:i<o.length:=by
   unfold start at j;by_cases I:i<o.length
   ·exact I
   ·rw[List.getElem?_append_right (by simpa using I)]at j;rw[List.getElem?_replicate]at j;split at j<;>cases j
  have ha:o[i]?=some v:=by
   unfold start at j;rw[uG (by simpa using I),cH]at j;cases e:o[i]? with
   |none=>rw[e]at j;cases j
   |some a=>rw[e]at j;cases j;rfl
  obtain⟨u,T,rv⟩:=r.get ha;have B:m[i]?=some y:=by
   rw[<-S.pre,List.getElem?_take_of_lt (by omega)];exact G
  have C:m.Nodup:=by rw[<-S.pre];exact S.nd.sublist (List.take_sublist _ _)
  refine⟨u,rv,?_⟩;rcases S.par y (bU B)with k|k
  ·exact .inl ⟨k,xQ C B T k⟩
  ·obtain⟨c,e⟩:=BV (n:=s.heap.objs.size+1) k;refine .inr ⟨.inl k,c,e,?_⟩;have q:=x.cell y c e;rw[xS C B T (by show scope.names.lookup y≠_;rw[k];decide)]at q;exact q
 ·exact l.hok.fresh (cV (x.above y c (uH h)))
 ·unfold start;show _=N.length;rw[ba,ah,List.length_replicate];omega
theorem LV{G:GV}{P:cn}{w:World}{K:Za}{L:Str->Option Value}{base:Heap}{k:Nat}{f:Addr}{name a:Str}{params:Arguments}{h:List Stmt}{scope:Scope}{dV kV doc pm g ct oc:Value}{an od:Option Addr}
  {M:Array (Option Value)}{N ps:Zb}{O:Sp}(lk:K.lookup f=some ⟨oc,od,.func (jp name a params h scope dV kV doc pm an g ct),M⟩) (T:oP K g a=true) (S:lV N ps scope)
  (z:∀i H Q E,O i H Q E->i.length=ps.length)
  (j:∀(A:Around) (outer:List Env) (s:Shared) (H:Hp) (i:List V) (Q:VK) (E:XK),fJ k (A.deeper (envOfC a scope s.heap.objs.size f g))->O i H Q E ->
   ∃t,Ct (DN G P w K L base N a scope f g A outer s H E) h t/\t (bo Q) (start N i) H) :
  nu P w K L base G (k+1) f (jp name a params h scope dV kV doc pm an g ct) ps O:=by
 refine⟨z,fun A outer s H args us i Q E U B hb r C=>?_⟩;have hl:=z _ _ _ _ C;have KX:K.In s.heap:=B.mod.kin.keeps fun b o e=>(B.bs b o e).1;have Y:s.heap.NoLimit:=B.mod.nolimit.keeps fun b o e=>(B.bs b o e).1;have l:∀y∈ps.zip us,scope.names.lookup y.1=some .local∨(scope.names.lookup y.1=some .cell/\((cellsFrom (s.heap.objs.size+1) scope.names []).lookup y.1).isSome=true):=fun⟨n,v⟩ hy=>by
  rcases S.par n (List.of_mem_zip hy).1 with q|q
  ·exact .inl q
  ·exact .inr ⟨q,PySem.W.cellsFrom_some _ _ _ (.inl q)⟩
 refine codeAny_call_function U.depth (KX _ _ lk) rfl S.co S.gen rfl (PySem.W.codeRec_of KX T) (hb _ _ _ _ ?_);refine wpAny_newFunctionEnv_cells S.kind l fun al he s1 x=>?_;subst he;refine⟨Y.keeps x.toInCall.keep,codeAny_func ?_⟩;obtain⟨t,ht,hq⟩:=j A outer s H i Q E (U.deeper _) C;have I:Inv (DN G P w K L base N a scope f g A outer s H E) [] (start N i) H s1:=Gj S U.hd B hl r x;refine pK (ht [] s1 (start N i) H _ I hq) (fun fl s' m=>?_) fun e s' m=>m;have D:∀{σ':St}{p:Hp}{v:V}{u:Value},Inv (DN G P w K L base N a scope f g A outer s H E) [] σ' p s'->RelV v u->Q v p->CE outer P w K H s Q u s' :=
  fun{σ' p v u} J rv q=>⟨v,p,J.os,J.bare,J.base,J.hok,rv,q⟩
 cases fl with
 |ret u =>
  obtain⟨v,σ',p,J,rv,q⟩:=m;exact D J rv q
 |next =>
  obtain⟨σ',p,J,q⟩:=m;exact D (v:=V.non) (u:=Value.none) J rfl q
 |brk =>
  obtain⟨_,_,_,q⟩:=m;exact kz q
 |cont =>
  obtain⟨_,_,_,q⟩:=m;exact kz q
end L2
namespace L2
open PySem PySem.Spec PyProof.Rows
section
variable{X:Cx}{x:Str}{p pos:Pos}{e:Expr}{es:List Expr}{t:TA}{id T:String}{r:List V->Hp->VK->Prop}
def gP(r:List V->Hp->VK->Prop)(t:TA):TE:=fun σ H Q=>t σ H fun vs H1=>r vs H1 Q
theorem Bq(i:f_ X (.builtin id) r)(j:Gl X x)(k:X.mg x=none)(l:jf x=some (.builtin id))(m:PA X (e::es) t)(n:x≠"__name__":=by decide)(a:(x==("__debug__":Str))=false:=by decide)
  (o:aM (e::es) X.env=(false,eval e X.env)::aM es X.env:=by rfl) (f:(backTo pos (aM es X.env)).any (·.1)=false:=by rfl):PE X (.Call (.Name x p) (e::es) [] pos) (gP r t):=by
 intro g s σ H Q I h;refine AF (iT I j k l ?_ n a);exact PyProof.Rows.callWith_builtin1 (cJ (m pos g s σ H _ I h) fun q u ⟨v,w,y,z,A⟩=>i g u σ w v q Q y z A) o f
theorem gC(i:f_ X (.type T) r)(j:Gl X x)(k:X.mg x=none)(l:jf x=some (.type T))(m:PA X (e::es) t)(n:x≠"__name__":=by decide)(a:(x==("__debug__":Str))=false:=by decide)
  (o:aM (e::es) X.env=(false,eval e X.env)::aM es X.env:=by rfl) (f:(backTo pos (aM es X.env)).any (·.1)=false:=by rfl):PE X (.Call (.Name x p) (e::es) [] pos) (gP r t):=by
 intro g s σ H Q I h;refine AF (iT I j k l ?_ n a);exact pI (cJ (m pos g s σ H _ I h) fun q u ⟨v,w,y,z,A⟩=>i g u σ w v q Q y z A) o f
end
end L2
namespace HT
open PySem PyProof.Rows
section
variable{prog:cn}{w:World}{A:Around}{E:Zc}{s:Shared}
def sIx(n d:Nat):Option Int->Nat
 |none=>d
 |some v=>if v<0 then(v+(n:Int)).toNat else min v.toNat n
theorem sIx_none(n d:Nat):sIx n d none=d:=rfl
theorem sIx_nat(n d k:Nat):sIx n d (some (k:Int))=min k n:=by
 show(if(k:Int)<0 then((k:Int)+(n:Int)).toNat else min (k:Int).toNat n)=min k n
 rw[if_neg (by omega),lf]
theorem sIx_le(n d:Nat)(e:d<=n)(o:Option Int):sIx n d o<=n:=by
 cases o with
 |none=>exact e
 |some v =>
  show(if v<0 then(v+(n:Int)).toNat else min v.toNat n)<=n
  by_cases a:v<0
  ·rw[if_pos a];omega
  ·rw[if_neg a];exact Nat.min_le_right _ _
theorem clip_eq(v:Int)(n d:Nat):(if v<0 then max (v+(n:Int)) 0 else min v (n:Int))=((sIx n d (some v):Nat):Int):=by
 show(if v<0 then max (v+(n:Int)) 0 else min v (n:Int))=(((if v<0 then(v+(n:Int)).toNat else min v.toNat n):Nat):Int)
 by_cases a:v<0
 ·simp only[if_pos a];omega
 ·simp only[if_neg a];omega
end
end HT
namespace L2
open PySem PySem.Spec PyProof.Rows
abbrev TO:=St->Hp->(Option Int->Hp->Prop)->Prop
def PO(X:Cx)(e:Option Expr)(t:TO):Prop :=
 ∀(J3:Zd) (s:Shared) (σ:St) (H:Hp) (Q:Option Int->Hp->Prop),Inv X J3 σ H s->t σ H Q ->
  wpAny (model X.prog X.w) X.A (evalPart e X.env) (fun u s'=>∃o H',Inv X J3 σ H' s'/\IsPart u o/\Q o H') X.xe s
def fC:TO:=fun _ H Q=>Q none H
def gM(t:TE):TO:=fun σ H Q=>t σ H fun x H1=>∃i,x=.int i/\Q (some i) H1
section
variable{X:Cx}{e:Expr}{te:TE}{lo hi:Option Expr}{tl th:TO}{pos p2:Pos}
theorem gf:PO X none fC:=by
 intro a s σ H Q I h;rw[evalPart_none];exact aP ⟨none,H,I,.none,h⟩
theorem c7(h:PE X e te):PO X (some e) (gM te):=by
 intro a s σ H Q I f;rw[evalPart_some];refine cJ (h a s σ H _ I f) fun u m ⟨x,g,j,k,l⟩=>?_;obtain⟨i,rfl,q⟩:=l;obtain⟨t,rfl⟩:=k;exact⟨some i,g,j,.int i t,q⟩
def SlR(X:Cx)(r:V->Option Int->Option Int->Hp->VK->Prop):Prop :=
 ∀(J3:Zd) (s:Shared) (σ:St) (H:Hp) (x:V) (v vl vu:Value) (lo hi:Option Int) (sl:Addr) (Q:VK),Inv X J3 σ H s->RelV x v->s.heap.IsSliceOf sl vl vu .none->IsPart vl lo->IsPart vu hi->r x lo hi H Q ->
  ∃T id,uF (.type T) "__getitem__"=pure (some (.builtin id))/\s.TypeIs v T/\wpAny (model X.prog X.w) X.A (oO v (.ref sl)) (EP X J3 σ Q) X.xe s
def Cr(r:V->Option Int->Option Int->Hp->VK->Prop)(te:TE)(tl th:TO):TE:=fun σ H Q=>te σ H fun x H1=>tl σ H1 fun l H2=>th σ H2 fun u H3=>r x l u H3 Q
theorem cX{r:V->Option Int->Option Int->Hp->VK->Prop}(k:SlR X r)(m:PE X e te)(n:PO X lo tl)(o:PO X hi th):PE X (.Subscript e (.Slice lo hi none p2) pos) (Cr r te tl th):=by
 intro f s σ H Q I h;refine yS (cJ (m f s σ H _ I h) fun v p ⟨x,t,y,z,B⟩=>?_);refine wpAny_Slice (cJ (n f p σ t _ y B) fun g C ⟨l,D,E,G,J⟩=>cJ (o f C σ D _ E J) fun i a ⟨u,j,L,M,N⟩=>?_);rw[evalPart_none];refine aP ?_;have O:Inv X f σ j { a with heap:=a.heap.push { cls:=.type "slice",data:=.fields #[g,i,.none] } }:=L.kept (t':=a.toks) fun b ob q=>a_ _ q;obtain⟨T,id,U,Y,hg⟩:=k f { a with heap:=a.heap.push { cls:=.type "slice",data:=.fields #[g,i,.none] } } σ j x v g i l u a.heap.objs.size Q O z (Heap.IsSliceOf.new ..) G M N;show wpAny (model X.prog X.w) X.A (yR e (.Slice lo hi none p2) v (.ref a.heap.objs.size)) (EP X f σ Q) X.xe { a with heap:=a.heap.push { cls:=.type "slice",data:=.fields #[g,i,.none] } };exact tail_any (ops:=[.ref a.heap.objs.size,v]) Y U hg (by with_unfolding_all rfl)
def fX(xs:List V)(lo hi:Option Int):List V:=(xs.drop (HT.sIx xs.length 0 lo)).take (HT.sIx xs.length xs.length hi-HT.sIx xs.length 0 lo)
theorem BO(a:List V)(lo hi:Option Int):(fX a lo hi).length<=a.length:=by
 unfold fX;rw[aJ,dS];omega
end
end L2
namespace L2
open PySem PySem.Spec PyProof.Rows
def GS(n:Nat)(i:Int):Option Nat:=if 0<=i then(if i<n then some i.toNat else none)else if -(n:Int)<=i then some (i+n).toNat else none
def xU{α:Type}(xs:List α)(i:Int):Option α:=(GS xs.length i).bind fun j=>xs[j]?
theorem Ac{n:Nat}{i:Int}{j:Nat}(h:GS n i=some j):yQ i n=some j/\j<n/\-(n:Int)<=i/\i<n:=by
 unfold GS at h;by_cases f:0<=i
 ·rw[if_pos f]at h;by_cases a:i<n
  ·rw[if_pos a]at h;have e:i.toNat=j:=fM h;exact⟨by rw[seqIndex_of f a,e],by omega,by omega,a⟩
  ·rw[if_neg a]at h;cases h
 ·rw[if_neg f]at h;by_cases a:-(n:Int)<=i
  ·rw[if_pos a]at h;have e:(i+n).toNat=j:=fM h;exact⟨by rw[seqIndex_neg (by omega) a,e],by omega,a,by omega⟩
  ·rw[if_neg a]at h;cases h
theorem An{α:Type}{a:List α}{i:Int}{v:α}(h:xU a i=some v):∃j,yQ i a.length=some j/\a[j]?=some v/\j<a.length/\-(a.length:Int)<=i/\i<a.length:=by
 unfold xU at h;cases e:GS a.length i with
 |none=>rw[e]at h;cases h
 |some j =>
  rw[e]at h;obtain⟨f,g,k,l⟩:=Ac e;exact⟨j,f,h,g,k,l⟩
theorem ca{α:Type}{a:List α}{j:Nat}{v:α}(h:a[j]?=some v):xU a (j:Int)=some v:=by
 have f:j<a.length:=(bN.mp h).1;have e:GS a.length (j:Int)=some j:=by
  unfold GS;rw[if_pos (by omega),if_pos (by omega)];simp
 unfold xU;rw[e];exact h
theorem IN{α:Type}(a:List α)(v:α):xU (a++[v]) (-1)=some v:=by
 have f:(a++[v]).length=a.length+1:=by simp
 have e:GS (a++[v]).length (-1)=some a.length:=by
  unfold GS;rw[f,if_neg (by decide),if_pos (by omega)];congr 1;omega
 unfold xU;rw[e];show(a++[v])[a.length]?=some v;simp
def Kj(b:Expr):Prop:=∀o i,yP b false o i=operate [o,i] (oO o i)
def Kn(X:Cx)(r:R2):Prop :=
 ∀(value slice:Expr) (J3:Zd) (s:Shared) (σ:St) (H:Hp) (x y:V) (v u:Value) (Q:VK),Inv X J3 σ H s->RelV x v->RelV y u->r x y H Q ->
  yP slice false v u=operate [v,u] (oO v u)->wpAny (model X.prog X.w) X.A (yR value slice v u) (EP X J3 σ Q) X.xe s
def MtR(X:Cx)(id:String)(r:V->List V->Hp->VK->Prop):Prop :=
 ∀(J3:Zd) (s:Shared) (σ:St) (H:Hp) (x:V) (xs:List V) (v:Value) (us:Zf) (Q:VK),Inv X J3 σ H s->RelV x v->bb xs us->r x xs H Q ->
  wpAny (model X.prog X.w) X.A (call (.builtin id) (v::us)) (EP X J3 σ Q) X.xe s
section
variable{X:Cx}{a b:Expr}{ta tb:TE}{pos:Pos}
theorem Kn.or{r e:R2}(h:Kn X r)(k:Kn X e):Kn X (fun x y H Q=>r x y H Q∨e x y H Q):=by
 intro value slice f s σ H x y v u Q I g i q j;rcases q with q|q
 ·exact h value slice f s σ H x y v u Q I g i q j
 ·exact k value slice f s σ H x y v u Q I g i q j
theorem EI{r:R2}(e:Kn X r)(f:PE X a ta)(g:PE X b tb)(i:Kj b):PE X (.Subscript a b pos) (aH r ta tb):=by
 intro j s σ H Q I h;exact yS (Lh f g I h fun v u k x y l m n o q=>e a b j k σ l x y v u Q m n o q (i _ _))
def dY(K:Za):R2:=fun x y H Q=>∃p xs i v,x=.ref p/\y=.int i/\aw K H p xs/\xU xs i=some v/\Q v H
def jy(K:Za):R2:=fun x y H Q=>∃p xs i v,x=.ref p/\y=.int i/\bP K H p xs/\xU xs i=some v/\Q v H
def HD:R2:=fun x y H Q=>∃z i c,x=.str z/\y=.int i/\z.length<=aj/\xU z.cps.toList i=some c/\Q (.str ⟨#[c]⟩) H
theorem EV:Kn X (dY X.K):=by
 intro value slice n s σ H x y v u Q I C D h o;obtain⟨p,T,i,z,rfl,rfl,E,G,q⟩:=h;cases C;obtain⟨t,rfl⟩:=D;obtain⟨g,r,k,U⟩:=I.list E;obtain⟨j,f,J,Y,L,M⟩:=An G;obtain⟨w,A,l⟩:=r.get J;have N:=r.length;have hn:=rP;have e:EP X n σ Q w s:=⟨z,H,I,l,q⟩;by_cases B:0<=i
 ·have m:i.toNat=j:=by
   rw[seqIndex_of B M]at f;exact fM f
  exact item_listR k.isList B (by omega) (by rw[m];simpa using A) e o
 ·have m:(i+(g.toArray.size:Int)).toNat=j:=by
   rw[seqIndex_neg (by omega) L]at f;rw[bH,<-N];exact fM f
  exact subscriptTail_builtinR (x:=w) k.isList.typeIs slot_list_getitem.lookup
   (wpAny_getItem_list_neg (Q:=fun r O=>r=w/\EP X n σ Q r O) k.isList (by omega) (by rw[bH]<;>omega) (by omega) (by rw[m];simpa using A) ⟨rfl,e⟩) o
theorem Ik:Kn X (jy X.K):=by
 intro value slice g s σ H x y v u Q I l m h n;obtain⟨p,L,i,z,rfl,rfl,o,A,q⟩:=h;cases l;obtain⟨t,rfl⟩:=m;obtain⟨B,r,k,M⟩:=I.tuple o;obtain⟨j,C,D,N,O,T⟩:=An A;obtain⟨w,E,e⟩:=r.get D;have G:=r.length;have U:=rP;have f:EP X g σ Q w s:=⟨z,H,I,e,q⟩;exact subscriptTail_builtinR (x:=w) k.typeIs slot_tuple_getitem.lookup
  (getItem_tuple (j:=j) (Q:=fun r J=>r=w/\EP X g σ Q r J) k (by omega) (by omega) (by rw[bH,<-G];exact C) (by simpa using E) ⟨rfl,f⟩) n
theorem Il:Kn X HD:=by
 intro value slice A s σ H x y v u Q I f g h k;obtain⟨z,i,c,rfl,rfl,B,l,q⟩:=h;obtain⟨t,rfl⟩:=f;obtain⟨C,rfl⟩:=g;obtain⟨j,e,m,D,n,o⟩:=An l;have p:z.cps.toList.length=z.length:=by simp[Str.length]
 rw[p]at e n o;have E:=rP;exact tail_any (typeIs_str s z t) slot_str_getitem.lookup (getItem_str (c:=c) (by
  have r:decide (i < -(2 ^ 63:Int))=false:=zzr0 (by omega);have w:decide (i ≥ 2 ^ 63)=false:=zzr0 (by omega);rw[r,w,Bool.or_false]) (by rw[e];simpa using m) ⟨.str ⟨#[c]⟩,H,I.tok _,⟨_,rfl⟩,q⟩) k
def sH(K:Za):R2:=fun x y H Q=>dY K x y H Q∨jy K x y H Q∨HD x y H Q
theorem Lc:Kn X (sH X.K):=EV.or (Ik.or Il)
theorem Ds(e:Zf)(n j:Nat)(u:Value):fO (·.setIfInBounds j u) { cls:=.type "list",data:=.seq e.toArray n }={ cls:=.type "list",data:=.seq (e.set j u).toArray n }:=by
 simp[fO]
theorem Inv.lst{i:Zd}{σ:St}{H:Hp}{s:Shared}{p:Addr}{g:List V}(I:Inv X i σ H s)(h:H p=some (.lst g)):
  ∃(f:Zf) (n:Nat),bb g f/\s.heap.get? p=some { cls:=.type "list",data:=.seq f.toArray n }/\g.length<=aj:=by
 obtain⟨z,f,n,r,e⟩:=I.hok p _ h;exact⟨f,n,r,e,z⟩
theorem Inv.lstUpd{l:Zd}{σ:St}{H:Hp}{s:Shared}{p:Addr}{o j:List V}{i g:Zf}{n k:Nat}{f:Obj->Obj}(I:Inv X l σ H s)(h:H p=some (.lst o))
  (v:s.heap.get? p=some { cls:=.type "list",data:=.seq i.toArray n }) (m:f { cls:=.type "list",data:=.seq i.toArray n }={ cls:=.type "list",data:=.seq g.toArray k }) (r:bb j g) (w:j.length<=aj) (t:Nat) :
  Inv X l σ (upd H p (.lst j)) { s with heap:=s.heap.update p f,toks:=t }:=by
 have e:(s.heap.update p f).get? p=some { cls:=.type "list",data:=.seq g.toArray k }:=by
  rw[jo f v (by rw[m]<;>rfl),m]
 refine I.write (x:=p) (e:=p) (by rw[h];trivial) (.inl rfl) (fun b u y q=>(iR _ _ (gx y)).trans q) ⟨_,e⟩ ?_;exact⟨w,g,k,r,e⟩
def u6:V->V->V->Hp->(Hp->Prop)->Prop:=fun o i v H Q=>∃p xs k j,o=.ref p/\i=.int k/\H p=some (.lst xs)/\GS xs.length k=some j/\Q (upd H p (.lst (xs.set j v)))
theorem mR:Ma X u6:=by
 intro B s σ H o i v M N u Q I C D E h;obtain⟨p,G,k,j,rfl,rfl,w,J,q⟩:=h;cases C;obtain⟨t,rfl⟩:=D;obtain⟨e,n,r,g,L⟩:=I.lst w;obtain⟨f,O,x,y⟩:=Ac J;have l:=r.length;have T:=rP;have z:Inv X B σ (upd H p (.lst (G.set j v))) { s with heap:=s.heap.update p (fO (·.setIfInBounds j u)) } :=
  I.lstUpd w g (Ds e n j u) (r.set E j) (by rw[List.length_set];exact L) s.toks
 by_cases A:0<=k
 ·have m:k.toNat=j:=by
   rw[seqIndex_of A y]at f;exact fM f
  exact PySem.W.ki_setAt g A (by omega) (by rw[bH,<-l];exact y) (by rw[m];exact⟨_,z,q⟩)
 ·have m:(k+(e.toArray.size:Int)).toNat=j:=by
   rw[seqIndex_neg (by omega) x]at f;rw[bH,<-l];exact fM f
  exact PySem.W.ki_setBack g (by omega) (by rw[bH,<-l];exact x) (by omega) (by rw[m];exact⟨_,z,q⟩)
theorem zP(lo e:Option Int)(n:Nat):(oN lo e none n).1=((HT.sIx n 0 lo:Nat):Int)/\(oN lo e none n).2.1=((HT.sIx n n e:Nat):Int)/\(oN lo e none n).2.2=1:=by
 refine⟨?_,?_,rfl⟩
 ·cases lo with
  |none=>simp[oN,HT.sIx]
  |some i =>
   simp only[oN,HT.sIx,Option.getD_none,show(1:Int) > 0 by decide,if_true];by_cases h:i<0
   ·simp only[h,if_true]<;>omega
   ·simp only[h,if_false]<;>omega
 ·cases e with
  |none=>simp[oN,HT.sIx]
  |some i =>
   simp only[oN,HT.sIx,Option.getD_none,show(1:Int) > 0 by decide,if_true];by_cases h:i<0
   ·simp only[h,if_true]<;>omega
   ·simp only[h,if_false]<;>omega
theorem wC(e:Zf)(lo f:Option Int):yO e.toArray lo f none=((e.drop (HT.sIx e.length 0 lo)).take (HT.sIx e.length e.length f-HT.sIx e.length 0 lo)).toArray:=by
 obtain⟨g,h,i⟩:=zP lo f e.toArray.size;unfold yO;rw[g,h,i];simp only[sliceRange_one,pick_run,bH]<;>rfl
def rK(K:Za):V->Option Int->Option Int->Hp->VK->Prop:=fun x lo hi H Q=>∃a xs,x=.ref a/\aw K H a xs/\∀p,H p=none->Q (.ref p) (upd H p (.lst (fX xs lo hi)))
theorem gb:SlR X (rK X.K):=by
 intro u s σ H x v w y lo g z Q I j k l m h;obtain⟨a,e,rfl,n,q⟩:=h;cases j;obtain⟨p,r,i,t⟩:=I.list n;have f:=r.length;refine⟨"list",_,slot_list_getitem.lookup,i.isList.typeIs,?_⟩;refine wpAny_getItem_list_slice i.isList k l m .none (by simp) ?_ (by rw[bH]<;>omega);rw[wC,<-f];refine⟨.ref s.heap.objs.size,_,I.laid (t':=s.toks) (o:=.lst (fX e lo g)) (fun b A q=>a_ _ q) (aD _) ?_,rfl,q _ (I.hok.fresh (aD _))⟩;exact⟨aB (BO e lo g) t,_,0,(r.drop (HT.sIx e.length 0 lo)).take (HT.sIx e.length e.length g-HT.sIx e.length 0 lo),cG _ rfl⟩
theorem Al:f_ X (.builtin "len") (fun k H Q=>∃p f,k=[.ref p]/\(aw X.K H p f∨bP X.K H p f)/\Q (.int f.length) H):=by
 intro n s σ H k o Q I r h;obtain⟨p,f,rfl,hq,q⟩:=h;obtain⟨u,rfl,l⟩:=vals1 r;cases l;have t:=rP;rcases hq with hq|hq
 ·obtain⟨g,i,j,m⟩:=I.list hq;have e:=i.length;exact Calls.call_len_list j.isList (by simp only[bH]<;>omega) ⟨.int f.length,H,I.tok _,⟨s.toks+1,by rw[bH,e]⟩,q⟩
 ·obtain⟨g,i,j,m⟩:=I.tuple hq;have e:=i.length;exact len_tuple j (by simp only[bH]<;>omega) ⟨.int f.length,H,I.tok _,⟨s.toks+1,by rw[bH,e]⟩,q⟩
theorem Ak:f_ X (.builtin "len") (fun e H Q=>∃z,e=[.str z]/\z.length<=aj/\Q (.int z.length) H):=by
 intro f s σ H e g Q I r h;obtain⟨z,rfl,i,q⟩:=h;obtain⟨u,rfl,t,rfl⟩:=vals1 r;have j:=rP;exact len_str (by omega) ⟨.int z.length,H,I.tok _,⟨_,rfl⟩,q⟩
theorem f_.or{f:Value}{r g:List V->Hp->VK->Prop}(h:f_ X f r)(l:f_ X f g):f_ X f (fun e H Q=>r e H Q∨g e H Q):=by
 intro i s σ H e j Q I k q;rcases q with q|q
 ·exact h i s σ H e j Q I k q
 ·exact l i s σ H e j Q I k q
theorem Aj:f_ X (.type "list") (fun B H Q=>∃p i,B=[.ref p]/\(aw X.K H p i∨bP X.K H p i)/\∀l,H l=none->Q (.ref l) (upd H l (.lst i))):=by
 intro D s σ H B G Q I r h;obtain⟨p,i,rfl,hq,q⟩:=h;obtain⟨u,rfl,E⟩:=vals1 r;cases E;have m:∀(f:Zf),bb i f->i.length<=aj->∀(g:Heap) (j:Nat),(∀b C,s.heap.get? b=some C->g.get? b=some C) ->
   g.get? s.heap.objs.size=some { cls:=.type "list",dict:=none,data:=.seq f.toArray j,slots:=#[] }->EP X D σ Q (.ref s.heap.objs.size) { s with heap:=g }:=fun f k t g j kp e =>
  ⟨.ref s.heap.objs.size,_,I.laid (t':=s.toks) kp (aD _) (show cy X.prog X.w X.K _ g _ (.lst i)from⟨t,f,j,k,e⟩),rfl,q _ (I.hok.fresh (aD _))⟩
 rcases hq with hq|hq
 ·obtain⟨f,k,x,t⟩:=I.list hq;have v:=k.length;obtain⟨o,y,z,n,A⟩:=x.isList;exact call_list_seq p (.inl rfl) y z A (fun g j kp e=>m f k t g j kp e) (by simp only[bH]<;>omega)
 ·obtain⟨f,k,x,t⟩:=I.tuple hq;have v:=k.length;obtain⟨o,y,z,n,A⟩:=x;exact call_list_seq p (.inr rfl) y z A (fun g j kp e=>m f k t g j kp e) (by simp only[bH]<;>omega)
theorem fZ:f_ X (.type "tuple") (fun n H Q=>∃p g,n=[.ref p]/\((aw X.K H p g/\∀l,H l=none->Q (.ref l) (upd H l (.tup g)))∨(bP X.K H p g/\Q (.ref p) H))):=by
 intro t s σ H n B Q I r h;obtain⟨p,g,rfl,h⟩:=h;obtain⟨u,rfl,z⟩:=vals1 r;cases z;rcases h with⟨j,q⟩|⟨j,q⟩
 ·obtain⟨f,k,m,v⟩:=I.list j;have x:=k.length;refine call_tuple_list m.isList (fun i kp=>?_) (by simp only[bH]<;>omega);have y:Inv X t σ H { s with heap:=i }:=I.kept (t':=s.toks) kp;have A:Inv X t σ (upd H i.objs.size (.tup g)) { s with heap:=i.push { cls:=.type "tuple",data:=.seq f.toArray } } :=
   y.laid (t':=s.toks) (fun b o e=>a_ _ e) (aD _) (show cy X.prog X.w X.K _ _ _ (.tup g)from⟨v,f,k,IsTup.new _ _⟩)
  exact⟨.ref i.objs.size,_,A,rfl,q _ (y.hok.fresh (aD _))⟩
 ·obtain⟨f,k,m,v⟩:=I.tuple j;exact call_tuple_same m ⟨.ref p,H,I,rfl,q⟩
def tyV(K:Za)(T:String)(x:V)(H:Hp):Prop:=match x with
 |.str _=>T="str"
 |.int _=>T="int"
 |.ref p=>(T="list"/\∃xs,aw K H p xs)∨(T="tuple"/\∃o,K.lookup p=some o/\o.cls=.type "tuple"/\o.dict=none) ∨
   (T="dict"/\((∃kvs,H p=some (.dK kvs))∨∃kvs,H p=some (.dT kvs)))∨(T="set"/\∃S n,H p=some (.set S n))
 |_=>False
theorem G1{m:Zd}{σ:St}{H:Hp}{s:Shared}{T:String}{x:V}{v:Value}(I:Inv X m σ H s)(r:RelV x v)(ty:tyV X.K T x H):
  s.TypeIs v T/\∀a,v=.ref a->∃k,s.heap.get? a=some k/\k.dict=none:=by
 cases x with
 |str z =>
  obtain⟨t,rfl⟩:=r;cases(show T="str" from ty);exact⟨typeIs_str s z t,fun _ e=>nomatch e⟩
 |int i =>
  obtain⟨t,rfl⟩:=r;cases(show T="int" from ty);exact⟨typeIs_int s i t,fun _ e=>nomatch e⟩
 |ref p =>
  cases r;rcases ty with⟨rfl,y,q⟩|⟨rfl,o,f,u,g⟩|⟨rfl,f⟩|⟨rfl,S,n,f⟩
  ·obtain⟨w,_,l,_⟩:=I.list q;refine⟨l.isList.typeIs,fun a e=>?_⟩;cases e;obtain⟨o,n,e,c,g,_⟩:=l;exact⟨o,e,g⟩
  ·refine⟨⟨o,I.kIn p o f,u⟩,fun a e=>?_⟩;cases e;exact⟨o,I.kIn _ o f,g⟩
  ·have z:∃o,s.heap.get? p=some o/\o.ExactDict:=by
    rcases f with⟨h,f⟩|⟨h,f⟩
    ·obtain⟨_,_,_,_,o,_,_,e,ex,_⟩:=I.hok p _ f;exact⟨o,e,ex⟩
    ·obtain⟨_,_,_,_,o,_,_,e,ex,_⟩:=I.hok p _ f;exact⟨o,e,ex⟩
   obtain⟨o,e,ex⟩:=z;refine⟨⟨o,e,ex.1⟩,fun a j=>?_⟩;cases j;exact⟨o,e,ex.2.1⟩
  ·obtain⟨o,_,_,_,e,ex,_⟩:=I.hok p _ f;refine⟨⟨o,e,ex.1⟩,fun a j=>?_⟩;cases j;exact⟨o,e,ex.2.1⟩
 |_=>exact kz ty
def KU(K:Za)(T:String)(r:V->List V->Hp->VK->Prop)(to:TE):TE:=fun σ H Q=>to σ H fun x H1=>tyV K T x H1/\r x [] H1 Q
def Ex(K:Za)(T:String)(r:V->List V->Hp->VK->Prop)(to:TE)(t:TA):TE:=fun σ H Q=>to σ H fun x H1=>tyV K T x H1/\t σ H1 fun xs H2=>r x xs H2 Q
variable{o e:Expr}{es:List Expr}{to:TE}{t:TA}{name:Str}{J5 J4:Pos}{T id:String}{r:V->List V->Hp->VK->Prop}
theorem HP(n:PlainAttrs T)(i:Slot T name id)(j:typeOf (.builtin id)=pure (.type "method_descriptor"))(p:MtR X id r)(q:PE X o to)
  (f:wW o name X.env (eval o X.env)=eval o X.env:=by rfl) (g:(J5.endLine==J4.line)=true:=by rfl):PE X (.Call (.Attribute o name J5) [] [] J4) (KU X.K T r to):=by
 intro k s σ H Q I h;refine wpAny_Call_method0_late f g (cJ (q k s σ H _ I h) fun v u ⟨x,w,l,m,ty,y⟩=>?_);obtain⟨z,A⟩:=G1 l m ty;exact⟨T,id,n,i,j,z,A,yN rfl (PySem.evalArgs_none (p k u σ w x [] v [] Q l m .nil y))⟩
theorem jU(u:PlainAttrs T)(j:Slot T name id)(l:typeOf (.builtin id)=pure (.type "method_descriptor"))(w:MtR X id r)(y:PE X o to)(z:PA X (e::es) t)
  (g:wW o name X.env (eval o X.env)=eval o X.env:=by rfl)
  (k:((backTo J4 (aM (e::es) X.env)).all (fun x=>!x.1) && (pG J4 (lg [] X.env)).all (fun x=>x.1.isSome)
   && decide ((e::es).length+([]:List rg).length+(if([]:List rg).isEmpty then 0 else 1)<30))=true:=by rfl)
  (i:(J5.endLine==J4.line)=true:=by rfl) (A:aM (e::es) X.env=(false,eval e X.env)::aM es X.env:=by rfl) (f:(backTo J4 (aM es X.env)).any (·.1)=false:=by rfl) :
  PE X (.Call (.Attribute o name J5) (e::es) [] J4) (Ex X.K T r to t):=by
 intro m s σ H Q I h;refine wpAny_Call_method_late g k i rfl (cJ (y m s σ H _ I h) fun v B ⟨x,C,n,p,ty,D⟩=>?_);obtain⟨E,G⟩:=G1 n p ty;refine⟨T,id,u,j,l,E,G,?_⟩;have q:=z J4 m B σ C _ n D;rw[A]at q ⊢;refine yN (by show(false || (backTo J4 (aM es X.env)).any (·.1))=false;rw[f]<;>rfl) (Calls.evalArgs_plain ?_);exact cJ q fun J L ⟨M,N,O,U,Y⟩=>w m L σ N x M v J Q O p U Y
end
end L2
namespace L2
open PySem PySem.Spec PyProof.Rows
def Ll(X:Cx)(id:String)(r:V->List V->Hp->VK->Prop):Prop :=
 ∀(J3:Zd) (s:Shared) (σ:St) (H:Hp) (x:V) (xs:List V) (v:Value) (us:Zf) (Q:VK),Inv X J3 σ H s->RelV x v->bb xs us->r x xs H Q ->
  wpAny (model X.prog X.w) X.A (call (.builtin id) (v::us)) (EP X J3 σ Q) X.xe s
theorem bb.one:∀{x:V}{a:Zf},bb [x] a->∃u,a=[u]/\RelV x u
 |_,_,.cons r .nil=>⟨_,rfl,r⟩
theorem bb.two:∀{x y:V}{a:Zf},bb [x,y] a->∃u v,a=[u,v]/\RelV x u/\RelV y v
 |_,_,_,.cons r (.cons q .nil)=>⟨_,_,rfl,r,q⟩
theorem bb.zero:∀{a:Zf},bb [] a->a=[]
 |_,.nil=>rfl
theorem bb.dropLast{a:List V}{e:Zf}(h:bb a e):bb a.dropLast e.dropLast:=by
 induction h with
 |nil=>exact .nil
 |cons r t f =>
  cases t with
  |nil=>exact .nil
  |cons q g=>exact .cons r f
theorem bb.eraseIdx:∀{a:List V}{e:Zf}(i:Nat),bb a e->bb (a.eraseIdx i) (e.eraseIdx i)
 |_,_,_,.nil=>.nil
 |_,_,0,.cons _ t=>t
 |_,_,i+1,.cons r t=>.cons r (bb.eraseIdx i t)
theorem bb.reverse{a:List V}{e:Zf}(h:bb a e):bb a.reverse e.reverse:=by
 induction h with
 |nil=>exact .nil
 |cons r t f=>rw[yM,yM];exact bb.append f (.cons r .nil)
theorem DJ{α:Type}(l:List α):l.eraseIdx (l.length-1)=l.dropLast:=by
 induction l with
 |nil=>rfl
 |cons a r f =>
  cases r with
  |nil=>rfl
  |cons b r =>
   have e:(a::b::r).length-1=((b::r).length-1)+1:=by
    have g:(a::b::r).length=r.length+2:=rfl;have h:(b::r).length=r.length+1:=rfl;omega
   rw[e,List.eraseIdx_cons_succ,f]
   all_goals rfl
theorem xv{α:Type}:∀(l:List α) (i:Nat),(l.eraseIdx i).length<=l.length
 |[],_=>aD _
 |_::_,0=>rh _
 |_::r,i+1=>uE (xv r i)
section
variable{X:Cx}{J3:Zd}{σ:St}{H:Hp}{s:Shared}{l b:Addr}{xs ys zs:List V}
theorem Inv.lset{a its':Zf}{n:Nat}{f:Array Value->Array Value}{g:Nat}(I:Inv X J3 σ H s)(h:H l=some (.lst xs))
  (e:s.heap.get? l=some { cls:=.type "list",data:=.seq a.toArray n }) (i:f a.toArray=its'.toArray) (j:bb ys its') (k:ys.length<=aj) :
  Inv X J3 σ (upd H l (.lst ys)) { s with heap:=s.heap.update l (fO f),toks:=g }:=by
 have q:=PySem.IsL.update e f;rw[i]at q;refine I.write (x:=l) (e:=l) (by rw[h];exact trivial) (.inl rfl) (fun p u m o=>(iR s.heap (fO f) (gx m)).trans o) ⟨_,q⟩ ?_;exact⟨k,its',_,j,q⟩
theorem Inv.lnew{a:Zf}{t':Nat}(I:Inv X J3 σ H s)(e:bb ys a)(f:ys.length<=aj):
  Inv X J3 σ (upd H s.heap.objs.size (.lst ys)) { s with heap:=s.heap.push { cls:=.type "list",data:=.seq a.toArray },toks:=t' } :=
 I.laid (fun _ _ q=>a_ _ q) (aD _) ⟨f,a,0,e,cG _ rfl⟩
theorem Inv.fresh(I:Inv X J3 σ H s):H s.heap.objs.size=none:=I.hok.fresh (aD _)
theorem Inv.lstM(I:Inv X J3 σ H s)(f:H l=some (.lst xs)):xs.length<=aj/\∃(a:Zf) (n:Nat),bb xs a/\xs.length=a.length/\s.heap.get? l=some { cls:=.type "list",data:=.seq a.toArray n }:=by
 obtain⟨z,a,n,r,e⟩:=I.hok l _ f;exact⟨z,a,n,r,r.length,e⟩
theorem HV{n:Nat}(h:n<=aj):bQ.List.listTooLong n=false:=by
 unfold bQ.List.listTooLong;exact zzr0 (by omega)
end
section
variable{X:Cx}
def iz:V->List V->Hp->VK->Prop:=fun x vs H Q=>∃l xs y,x=.ref l/\vs=[y]/\H l=some (.lst xs)/\xs.length<aj/\Q .non (upd H l (.lst (xs++[y])))
theorem dE:Ll X "list.append" iz:=by
 intro k s σ H x m v o Q I g i h;obtain⟨l,p,y,rfl,rfl,f,t,q⟩:=h;cases g;obtain⟨u,rfl,j⟩:=i.one;obtain⟨z,a,n,r,w,e⟩:=I.lstM f;refine rf F.slot_list_append ⟨_,e,rfl⟩ F.entry_list_append (F.args_list_append_2 _ _) (PySem.list_append l a.toArray n u (by rw[bH];omega)) ⟨e,?_⟩;refine⟨.non,_,I.lset (its':=a++[u]) f e (by simp) (r.append (.cons j .nil)) ?_,rfl,q⟩;rw[ba,List.length_singleton];omega
def EB:V->List V->Hp->VK->Prop:=fun x vs H Q=>∃l b xs zs,x=.ref l/\vs=[.ref b]/\H l=some (.lst xs)/\H b=some (.lst zs)/\xs.length+zs.length<=aj/\Q .non (upd H l (.lst (xs++zs)))
theorem FZ:Ll X "list.extend" EB:=by
 intro A s σ H x B v C Q I k m h;obtain⟨l,b,D,E,rfl,rfl,j,hB,G,q⟩:=h;cases k;obtain⟨u,rfl,o⟩:=m.one;cases o;obtain⟨z,f,n,r,J,e⟩:=I.lstM j;obtain⟨L,a,p,t,w,y⟩:=I.lstM hB;have i:f.toArray.size+a.toArray.size<=aj:=by rw[bH,bH];omega
 have g:¬(!f.toArray.isEmpty && bQ.List.listTooLong (f.toArray.size+a.toArray.size))=true:=by
  rw[HV i,yL];exact iB
 refine rf F.slot_list_extend ⟨_,e,rfl⟩ F.entry_list_extend (F.args_list_extend_2 _ _)
  (AutoSeq1.list_extend_list_list_0 l f.toArray n b a.toArray p g (by rw[bH];omega) (by omega)) ⟨e,y,?_⟩
 refine⟨.non,_,I.lset (its':=f++a) j e (by simp) (r.append t) ?_,rfl,q⟩;rw[ba];omega
def LF:V->List V->Hp->VK->Prop:=fun x vs H Q=>∃l xs y,x=.ref l/\vs=[]/\H l=some (.lst xs)/\xs[xs.length-1]?=some y/\Q y (upd H l (.lst xs.dropLast))
theorem La:Ll X "list.pop" LF:=by
 intro w s σ H x A v B Q I j k h;obtain⟨l,C,y,rfl,rfl,i,m,q⟩:=h;cases j;have f:=k.zero;subst f;obtain⟨z,a,n,r,o,e⟩:=I.lstM i;obtain⟨u,p,t⟩:=r.get m;have g:a.toArray[a.toArray.size-1]?=some u:=by
  show a.toArray[a.length-1]?=some u;rw[<-Array.getElem?_toList,<-o];exact p
 refine rf F.slot_list_pop ⟨_,e,rfl⟩ F.entry_list_pop (F.args_list_pop_1 _) (MeetsSeq.list_pop_last l a.toArray n u g (by rw[bH];omega)) ⟨e,?_⟩;refine⟨y,_,I.lset (its':=a.dropLast) i e ?_ r.dropLast ?_,t,q⟩
 ·show a.toArray.eraseIdxIfInBounds (a.toArray.size-1)=a.dropLast.toArray;rw[bH,List.eraseIdxIfInBounds_toArray,DJ]
 ·rw[List.length_dropLast];omega
def HC:V->List V->Hp->VK->Prop:=fun x vs H Q=>∃l xs i k y,x=.ref l/\vs=[.int i]/\H l=some (.lst xs)/\-(2 ^ 63)<=i/\i<2 ^ 63/\yQ i xs.length=some k/\xs[k]?=some y/\Q y (upd H l (.lst (xs.eraseIdx k)))
theorem Ib:Ll X "list.pop" HC:=by
 intro J s σ H x L v M Q I j m h;obtain⟨l,o,i,k,y,rfl,rfl,g,p,A,B,C,q⟩:=h;cases j;obtain⟨u,rfl,D⟩:=m.one;obtain⟨t,rfl⟩:=D;obtain⟨z,a,n,r,E,e⟩:=I.lstM g;obtain⟨w,G,f⟩:=r.get C;refine rf F.slot_list_pop ⟨_,e,rfl⟩ F.entry_list_pop (F.args_list_pop_2 _ _)
  (MeetsSeq.list_pop_at l a.toArray n i t k w (fitsIndex_both p A) (by rw[bH,<-E];exact B) (by rw[<-Array.getElem?_toList];exact G) (by rw[bH];omega)) ⟨e,?_⟩
 refine⟨y,_,I.lset (its':=a.eraseIdx k) g e ?_ (r.eraseIdx k) ?_,f,q⟩
 ·show a.toArray.eraseIdxIfInBounds k=(a.eraseIdx k).toArray;rw[List.eraseIdxIfInBounds_toArray]
 ·have:=xv o k;omega
def Bm:V->List V->Hp->VK->Prop:=fun x vs H Q=>∃l xs,x=.ref l/\vs=[]/\H l=some (.lst xs)/\Q .non (upd H l (.lst xs.reverse))
theorem Dq:Ll X "list.reverse" Bm:=by
 intro k s σ H x m v o Q I i j h;obtain⟨l,p,rfl,rfl,g,q⟩:=h;cases i;have f:=j.zero;subst f;obtain⟨z,a,n,r,t,e⟩:=I.lstM g;refine rf F.slot_list_reverse ⟨_,e,rfl⟩ F.entry_list_reverse (F.args_list_reverse_1 _) (AutoSeq1.list_reverse_list_0 l a.toArray n (by rw[bH];omega)) ⟨e,?_⟩;refine⟨.non,_,I.lset (its':=a.reverse) g e (by simp) r.reverse ?_,rfl,q⟩;rw[eK];omega
def kf:R2:=fun x y H Q=>∃l b xs zs,x=.ref l/\y=.ref b/\H l=some (.lst xs)/\H b=some (.lst zs)/\xs.length+zs.length<=aj/\∀p,H p=none->Q (.ref p) (upd H p (.lst (xs++zs)))
theorem eZ:oy X (mB .Add) kf:=by
 intro t s σ H x y v u Q I g i h;obtain⟨l,b,w,A,rfl,rfl,j,hB,B,q⟩:=h;cases g;cases i;obtain⟨z,f,n,r,C,e⟩:=I.lstM j;obtain⟨D,a,E,k,m,o⟩:=I.lstM hB;refine PySem.P.add_list e o ?_ (by rw[bH,bH];omega);have p:f.toArray++a.toArray=(f++a).toArray:=by simp
 rw[p];exact⟨.ref _,_,I.lnew (t':=s.toks) (r.append k) (by rw[ba];omega),rfl,q _ I.fresh⟩
end
end L2
namespace L2
open PySem PySem.Spec PyProof.Rows
section
variable{κ:Type}[DecidableEq κ]
def be(kvs:List (κ×V))(k:κ):Option V:=(kvs.find? fun kv=>decide (kv.1=k)).map (·.2)
def dq(kvs:List (κ×V))(k:κ)(v:V):List (κ×V) :=
 if(kvs.any fun kv=>decide (kv.1=k))=true then kvs.map (fun kv=>if kv.1=k then(kv.1,v)else kv)else kvs++[(k,v)]
theorem dC{p:κ×V}{r:List (κ×V)}{k:κ}(e:p.1=k):be (p::r) k=some p.2:=by simp[be,mM,e]
theorem dk{p:κ×V}{r:List (κ×V)}{k:κ}(e:¬p.1=k):be (p::r) k=be r k:=by simp[be,mM,e]
theorem kC(k:κ):∀a:List (κ×V),(a.any fun f=>decide (f.1=k))=(be a k).isSome
 |[]=>rfl
 |p::r=>by
  rw[re];by_cases e:p.1=k
  ·simp only[dC e,zzr1 e,Bool.true_or,Option.isSome_some]
  ·rw[dk e,zzr0 e,Bool.false_or];exact kC k r
theorem AO(k j:κ)(y:V):∀a:List (κ×V),be (a.map fun f=>if f.1=k then(f.1,y)else f) j=(be a j).map fun x=>if j=k then y else x
 |[]=>rfl
 |p::r=>by
  have g:=AO k j y r;rw[bG];by_cases h:p.1=k
  ·rw[if_pos h];by_cases e:p.1=j
   ·rw[dC (p:=(p.1,y)) e,dC e,uD,if_pos (e.symm.trans h)]
   ·rw[dk (p:=(p.1,y)) e,dk e,g]
  ·rw[if_neg h];by_cases e:p.1=j
   ·rw[dC (p:=p) e,dC e,uD,if_neg (fun z=>h (e.trans z))]
   ·rw[dk (p:=p) e,dk e,g]
theorem xa(k j:κ)(y:V):∀a:List (κ×V),be a k=none->be (a++[(k,y)]) j=if j=k then some y else be a j
 |[],_=>by
  by_cases e:k=j
  ·rw[if_pos e.symm];exact dC (p:=(k,y)) e
  ·rw[if_neg (fun z=>e z.symm)];exact dk (p:=(k,y)) e
 |p::r,f=>by
  rw[List.cons_append];have g:¬p.1=k:=fun z=>by rw[dC z]at f;cases f
  rw[dk g]at f;have h:=xa k j y r f;by_cases e:p.1=j
  ·rw[dC e,dC e,if_neg (fun z=>g (e.trans z))]
  ·rw[dk e,dk e,h]
theorem iC(f:List (κ×V))(k j:κ)(y:V):be (dq f k y) j=if j=k then some y else be f j:=by
 unfold dq;by_cases a:(f.any fun g=>decide (g.1=k))=true
 ·rw[if_pos a,AO];rw[kC]at a;by_cases e:j=k
  ·obtain⟨x,h⟩:=yT.mp a;rw[if_pos e,e,h,uD,if_pos rfl]
  ·rw[if_neg e];cases be f j with
   |none=>rfl
   |some x=>rw[uD,if_neg e]
 ·rw[if_neg a];refine xa k j y f ?_;rw[kC]at a;cases q:be f k with
  |none=>rfl
  |some x=>rw[q]at a;exact(a rfl).elim
theorem ff(a:List (κ×V))(k:κ)(v:V):(dq a k v).length<=a.length+1:=by
 unfold dq;split
 ·rw[ah];omega
 ·rw[ba,fS,List.length_nil];omega
theorem iI{a:List (κ×V)}{k:κ}(v:V)(h:be a k=none):dq a k v=a++[(k,v)]:=by
 unfold dq;rw[kC,h];exact if_neg (by decide)
theorem mw.isSome_eq{o:Option V}{u:Option Value}(r:mw o u):o.isSome=u.isSome:=by
 cases o with
 |none=>cases u with
  |none=>rfl
  |some _=>exact(show False from r).elim
 |some _=>cases u with
  |none=>exact(show False from r).elim
  |some _=>rfl
theorem mw.getD{o:Option V}{u:Option Value}{d:V}{a:Value}(r:mw o u)(e:RelV d a):RelV (o.getD d) (u.getD a):=by
 cases o with
 |none=>cases u with
  |none=>exact e
  |some _=>exact(show False from r).elim
 |some _=>cases u with
  |none=>exact(show False from r).elim
  |some _=>exact r
theorem KV.val{a:List (κ×V)}{g:List (κ×Value)}(r:KV a g)(k:κ):mw (be a k) (oM g k):=by
 unfold KV at r
 induction r with
 |nil=>exact ky
 |@cons p q m qs h t j =>
  obtain⟨i,l⟩:=h;by_cases e:p.1=k
  ·have f:q.1=k:=i.symm.trans e;have b:oM (q::qs) k=some q.2:=by simp[oM,mM,f]
   rw[dC e,b];exact l
  ·have f:¬q.1=k:=fun z=>e (i.trans z);have b:oM (q::qs) k=oM qs k:=by simp[oM,mM,f]
   rw[dk e,b];exact j
theorem KV.any{a:List (κ×V)}{f:List (κ×Value)}(r:KV a f)(k:κ):(a.any fun e=>decide (e.1=k))=f.any fun e=>decide (e.1=k):=by
 unfold KV at r
 induction r with
 |nil=>rfl
 |cons h t g=>rw[re,re,g,h.1]
theorem KV.repl{f:List (κ×V)}{i:List (κ×Value)}(r:KV f i)(k:κ){y:V}{u:Value}(j:RelV y u):
  KV (f.map fun a=>if a.1=k then(a.1,y)else a) (i.map fun a=>if a.1=k then(a.1,u)else a):=by
 unfold KV at r ⊢
 induction r with
 |nil=>exact .nil
 |@cons p q n qs h t l =>
  rw[bG,bG];refine .cons ?_ l;obtain⟨g,m⟩:=h;by_cases e:p.1=k
  ·rw[if_pos e,if_pos (g.symm.trans e)];exact⟨g,j⟩
  ·rw[if_neg e,if_neg (fun z=>e (g.trans z))];exact⟨g,m⟩
theorem KV.put{a:List (κ×V)}{f:List (κ×Value)}(r:KV a f)(k:κ){y:V}{u:Value}(g:RelV y u):KV (dq a k y) (stored f k u):=by
 unfold dq stored;rw[r.any k];by_cases e:(f.any fun h=>decide (h.1=k))=true
 ·rw[if_pos e,if_pos e];exact r.repl k g
 ·rw[if_neg e,if_neg e];exact gl r ⟨rfl,g⟩
theorem KV.length{a:List (κ×V)}{e:List (κ×Value)}(r:KV a e):a.length=e.length:=Paired.length r
end
theorem qr{P:cn}{w:World}{k:fR}{u:Value}(r:RelV (kV k) u):(cE P w).is k u=true:=by
 cases k with
 |inl i=>obtain⟨t,e⟩:=(show ∃t,u=Value.int i t from r);subst e;exact Bz P w i t
 |inr x=>obtain⟨t,e⟩:=(show ∃t,u=Value.str x t from r);subst e;exact By P w x t
theorem Ab:∀{k:pC}{u:Value},RelV (KD k) u->jF k u=true
 |none,u,r=>by cases(show u=Value.none from r);rfl
 |some (.inl i),u,r=>by obtain⟨t,rfl⟩:=r;exact nP i t
 |some (.inr x),u,r=>by obtain⟨t,rfl⟩:=r;exact nO x t
abbrev KT(K:Za)(H:Hp):List (TK×V)->List (TK×Addr×Value)->Prop:=Paired fun p q=>p.1=q.1/\sU K H p.1 (.ref q.2.1)/\p.1.depth<=8/\RelV p.2 q.2.2
theorem KT.val{K:Za}{H:Hp}{a:List (TK×V)}{g:List (TK×Addr×Value)}(r:KT K H a g)(k:TK):mw (be a k) ((atKey g k).map (·.2)):=by
 induction r with
 |nil=>exact ky
 |@cons p q m qs h t j =>
  obtain⟨i,_,_,l⟩:=h;by_cases e:p.1=k
  ·have f:q.1=k:=i.symm.trans e;have b:atKey (q::qs) k=some q.2:=by simp[atKey,mM,f]
   rw[dC e,b];exact l
  ·have f:¬q.1=k:=fun z=>e (i.trans z);have b:atKey (q::qs) k=atKey qs k:=by simp[atKey,mM,f]
   rw[dk e,b];exact j
theorem KT.repl{K:Za}{H:Hp}{a:List (TK×V)}{i:List (TK×Addr×Value)}(r:KT K H a i)(k:TK){y:V}{u:Value}(m:RelV y u):
  KT K H (a.map fun g=>if g.1=k then(g.1,y)else g) (i.map (putAt k u)):=by
 induction r with
 |nil=>exact .nil
 |@cons p q o qs h t n =>
  rw[bG,bG];refine .cons ?_ n;obtain⟨f,j,l⟩:=h;unfold putAt;by_cases e:p.1=k
  ·rw[if_pos e,if_pos (f.symm.trans e)];exact⟨f,j,l.1,m⟩
  ·rw[if_neg e,if_neg (fun z=>e (f.trans z))];exact⟨f,j,l⟩
theorem KT.put{K:Za}{H:Hp}{a:List (TK×V)}{f:List (TK×Addr×Value)}(r:KT K H a f)(k:TK){b:Addr}{y:V}{u:Value}(h:sU K H k (.ref b))(i:k.depth<=8)(g:RelV y u):
  KT K H (dq a k y) (storedH f k b u):=by
 have e:(a.any fun j=>decide (j.1=k))=(atKey f k).isSome:=by
  rw[kC,(r.val k).isSome_eq,Option.isSome_map]
 unfold dq storedH;rw[e];by_cases q:(atKey f k).isSome=true
 ·rw[if_pos q,if_pos q];exact r.repl k g
 ·rw[if_neg q,if_neg q];exact gl r ⟨rfl,h,i,g⟩
theorem KT.keeps{K:Za}{H a:Hp}{kvs:List (TK×V)}{xs:List (TK×Addr×Value)}(r:KT K H kvs xs)(f:∀b e,H b=some (.tup e)->a b=some (.tup e)):KT K a kvs xs :=
 Paired.mapP r fun _ _ z=>⟨z.1,sU.keeps f 8 z.2.2.1 z.2.1,z.2.2⟩
section
variable{P:cn}{w:World}{K:Za}{H:Hp}{h:Heap}{a:Addr}
theorem Ks{u:HO}(ok:nS P w K H h)(e:Rd H a u):cy P w K H h a u:=e.ok ok
theorem qC{f:List (fR×V)}(ok:nS P w K H h)(e:Rd H a (.dK f)):f.length<=aj/\(a==iX)=false/\∃g,KV f g/\h.DictOf (cE P w) a g :=
 show cy P w K H h a (.dK f)from Ks ok e
theorem LZ{f:List (fR×V)}(ok:nS P w K H h)(e:H a=some (.dK f)):f.length<=aj/\(a==iX)=false/\∃g,KV f g/\h.DictOf (cE P w) a g:=qC ok (.inl e)
theorem KS(ok:nS P w K H h)(y:K.In h):∀(d:Nat) {k:TK}{v:V}{u:Value},k.depth<=d->sU K H k v->RelV v u->n_ h k u:=by
 have z:∀(d:Nat) (s:∀{k:TK}{v:V}{u:Value},k.depth<=d->sU K H k v->RelV v u->n_ h k u) (ks:List TK) (i:List V) (x:Zf),TK.depths ks<=d->TKCs K H ks i->bb i x->TAts h ks x:=by
  intro d s ks
  induction ks with
  |nil =>
   intro i x _ g r;have e:i=[]:=g;subst e;cases r
   rfl
  |cons k ks A =>
   intro i x j g r;obtain⟨v,B,rfl,m,C⟩:=g;cases r with
   |@cons _ u _ q I J =>
    have L:max k.depth (TK.depths ks)<=d:=j;exact⟨u,q,rfl,s (by omega) m I,A B q (by omega) C J⟩
 intro d
 induction d with
 |zero =>
  intro k v u j g r;cases k with
  |t l=>exact absurd j (by show ¬(TK.depths l+1<=0);omega)
  |k b =>
   have e:v=KD b:=g;subst e;exact Ab r
 |succ d s =>
  intro k v u j g r;cases k with
  |k b =>
   have e:v=KD b:=g;subst e;exact Ab r
  |t l =>
   obtain⟨b,D,rfl,E,M⟩:=g;cases(show u=Value.ref b from r);obtain⟨f,G,N,m,C,n,O⟩:∃f:List Value,bb D f/\IsTup h b f.toArray:=by
    rcases E with E|⟨o,f,n,Q,T,U,Y,r⟩
    ·obtain⟨_,f,G,p⟩:=(show cy P w K H h b (.tup D)from ok b _ E);exact⟨f,G,p⟩
    ·exact⟨f.toList,r,o,y b o Q,T,n,by simpa using U⟩
   exact⟨b,N,f.toArray,n,rfl,m,C,O,by simpa using z d (fun m=>s m) l D f (by have:TK.depths l+1<=d+1:=j;omega) M G⟩
theorem z9{k:TK}(ok:nS P w K H h)(f:K.In h)(e:sU K H k (.ref a))(g:k.depth<=8):(eW P w).is h k a:=⟨KS ok f 8 g e rfl,g⟩
theorem sS{f:List (TK×V)}(ok:nS P w K H h)(j:K.In h)(e:Rd H a (.dT f)):f.length<=aj/\(a==iX)=false /\
  ∃g,KT K H f g/\h.DictOfH (eW P w) a g:=by
 obtain⟨z,y,g,r,o,k,n,s,u,v,A,B⟩:=(show cy P w K H h a (.dT f)from Ks ok e);refine⟨z,y,g,r,o,k,n,s,u,v,A,fun x hx=>?_,B⟩;have all:∀{l:List (TK×V)}{m:List (TK×Addr×Value)},KT K H l m->∀x∈m,(eW P w).is h x.1 x.2.1:=by
  intro l m q
  induction q with
  |nil=>intro x hx;exact nomatch hx
  |@cons p q D qs i t C =>
   intro x hx;rcases cu.mp hx with e|hx
   ·subst e;exact z9 ok j (by rw[<-i.1];exact i.2.1) (by rw[<-i.1];exact i.2.2.1)
   ·exact C x hx
 exact all r x hx
theorem Iy{f:List (TK×V)}(ok:nS P w K H h)(g:K.In h)(e:H a=some (.dT f)):f.length<=aj/\(a==iX)=false /\
  ∃i,KT K H f i/\h.DictOfH (eW P w) a i:=sS ok g (.inl e)
end
mutual
def n6(K:Za)(H:Hp):TK->V->Prop
 |.k a,v=>v=KD a
 |.t l,v=>∃b xs,v=.ref b/\bP K H b xs/\TKIns K H l xs
def TKIns(K:Za)(H:Hp):List TK->List V->Prop
 |[],vs=>vs=[]
 |k::r,vs=>∃v us,vs=v::us/\n6 K H k v/\TKIns K H r us
end
theorem cU.isIn{K:Za}{H:Hp}:∀(d:Nat) {k:TK}{v:V},k.depth<=d->cU H k v->n6 K H k v:=by
 have j:∀(d:Nat) (h:∀{k:TK}{v:V},k.depth<=d->cU H k v->n6 K H k v) (e:List TK) (i:List V),TK.depths e<=d->TKAts H e i->TKIns K H e i:=by
  intro d h e
  induction e with
  |nil=>intro i _ f;exact f
  |cons x e m =>
   intro i g f;obtain⟨v,p,rfl,n,o⟩:=f;have q:max x.depth (TK.depths e)<=d:=g;exact⟨v,p,rfl,h (by omega) n,m p (by omega) o⟩
 intro d
 induction d with
 |zero =>
  intro k v g f;cases k with
  |t l=>exact absurd g (by show ¬(TK.depths l+1<=0);omega)
  |k a=>exact f
 |succ d h =>
  intro k v g f;cases k with
  |k a=>exact f
  |t l =>
   obtain⟨b,e,rfl,r,s⟩:=f;exact⟨b,e,rfl,bP.of r,j d (fun u=>h u) l e (by have:TK.depths l+1<=d+1:=g;omega) s⟩
theorem Jg{X:Cx}{y:Zd}{σ:St}{H:Hp}{s:Shared}(I:Inv X y σ H s):∀(d:Nat) {k:TK}{v:V}{u:Value},k.depth<=d->n6 X.K H k v->RelV v u->n_ s.heap k u:=by
 have p:∀(d:Nat) (m:∀{k:TK}{v:V}{u:Value},k.depth<=d->n6 X.K H k v->RelV v u->n_ s.heap k u) (ks:List TK) (f:List V) (o:Zf),TK.depths ks<=d->TKIns X.K H ks f->bb f o->TAts s.heap ks o:=by
  intro d m ks
  induction ks with
  |nil =>
   intro f o _ a r;have e:f=[]:=a;subst e;cases r
   rfl
  |cons k ks q =>
   intro f o g a r;obtain⟨v,w,rfl,h,x⟩:=a;cases r with
   |@cons _ u _ i z A =>
    have B:max k.depth (TK.depths ks)<=d:=g;exact⟨u,i,rfl,m (by omega) h z,q w i (by omega) x A⟩
 intro d
 induction d with
 |zero =>
  intro k v u g a r;cases k with
  |t l=>exact absurd g (by show ¬(TK.depths l+1<=0);omega)
  |k b =>
   have e:v=KD b:=a;subst e;exact Ab r
 |succ d m =>
  intro k v u g a r;cases k with
  |k b =>
   have e:v=KD b:=a;subst e;exact Ab r
  |t l =>
   obtain⟨b,C,rfl,D,E⟩:=a;cases(show u=Value.ref b from r);obtain⟨j,G,⟨J,h,x,n,L⟩,_⟩:=I.tuple D;exact⟨b,J,j.toArray,n,rfl,h,x,L,by simpa using p d (fun h=>m h) l C j (by have:TK.depths l+1<=d+1:=g;omega) E G⟩
theorem vt{X:Cx}{f:Zd}{σ:St}{H:Hp}{s:Shared}{k:TK}{b:Addr}(I:Inv X f σ H s)(e:n6 X.K H k (.ref b))(a:k.depth<=8):(eW X.prog X.w).is s.heap k b:=⟨Jg I 8 a e rfl,a⟩
theorem gA{P:cn}{w:World}{A:Around}(a:A.units+16<cLine):(eW P w).room A.in1:=by
 show A.units+1+8<cLine;omega
def oh(K:Za)(H:Hp)(a:Addr)(y:V)(r:Option V):Prop :=
 (∃kvs k,Rd H a (.dK kvs)/\y=kV k/\r=be kvs k)∨∃kvs k b,Rd H a (.dT kvs)/\y=.ref b/\n6 K H k (.ref b)/\k.depth<=8/\r=be kvs k
def Mj(H:Hp)(a:Addr)(y v:V)(H':Hp):Prop :=
 (∃kvs k,H a=some (.dK kvs)/\y=kV k/\kvs.length<aj/\H'=upd H a (.dK (dq kvs k v))) ∨
 ∃kvs k b,H a=some (.dT kvs)/\y=.ref b/\cU H k (.ref b)/\k.depth<=8/\kvs.length<aj/\H'=upd H a (.dT (dq kvs k v))
section
variable{X:Cx}{J3:Zd}{σ:St}{H:Hp}{s:Shared}{a:Addr}{y v:V}{u r:Value}{o:Option V}{A:Around}{E:Zc}
theorem Inv.big(I:Inv X J3 σ H s):iX<s.heap.objs.size:=by
 have h:bW<s.heap.objs.size:=(I.mod.glob.keeps I.bk).lt;exact Nat.lt_trans (by decide) h
theorem Gu{Q:Zc}(D:A.units+16<cLine)(I:Inv X J3 σ H s)(g:oh X.K H a y (some v))(B:RelV y u)(h:∀j C,Inv X J3 σ H C->RelV v j->Q j C):
  wpAny (model X.prog X.w) A (oO (.ref a) u) Q E s:=by
 rcases g with⟨m,k,e,n,l⟩|⟨m,k,b,e,n,G,J,l⟩
 ·subst n;obtain⟨z,L,M,f,q⟩:=qC I.hok e;obtain⟨j,t,i⟩:=mw.some_of (v:=v) (o:=oM M k) (by rw[l];exact f.val k);exact wpAny_getItem_of (qr B) q.mapOf t (h j _ (I.tok _) i)
 ·subst n;cases(show u=Value.ref b from B);obtain⟨z,L,N,f,q⟩:=sS I.hok I.kIn e;obtain⟨j,t,i⟩:=mw.some_of (v:=v) (o:=(atKey N k).map (·.2)) (by rw[l];exact f.val k);obtain⟨p,O,x⟩:=k_.mp t;refine wpAny_getItem_heap (gA D) (vt I G J) q O ?_;rw[x];exact h j _ (I.tok _) i
theorem d_in{Q:Zc}(t:A.units+16<cLine)(I:Inv X J3 σ H s)(g:oh X.K H a y o)(n:RelV y u)(h:∀p,Inv X J3 σ H p->Q (.bool o.isSome) p):
  wpAny (model X.prog X.w) A (fT .In u (.ref a)) Q E s:=by
 rcases g with⟨i,k,e,j,l⟩|⟨i,k,b,e,j,x,B,l⟩
 ·subst j;obtain⟨z,hd,C,f,m⟩:=qC I.hok e;refine wpAny_in_of (qr n) hd m.mapOf ?_;rw[<-(f.val k).isSome_eq,<-l];exact h _ (I.tok _)
 ·subst j;cases(show u=Value.ref b from n);obtain⟨z,hd,D,f,m⟩:=sS I.hok I.kIn e;refine wpAny_in_heap (gA t) (vt I x B) hd m ?_;have q:=(f.val k).isSome_eq;rw[Option.isSome_map]at q;rw[<-q,<-l];exact h _ (I.tok _)
theorem J9{Q:Zc}(t:A.units+16<cLine)(I:Inv X J3 σ H s)(g:oh X.K H a y o)(n:RelV y u)(h:∀p,Inv X J3 σ H p->Q (.bool (!o.isSome)) p):
  wpAny (model X.prog X.w) A (fT .NotIn u (.ref a)) Q E s:=by
 rcases g with⟨i,k,e,j,l⟩|⟨i,k,b,e,j,x,B,l⟩
 ·subst j;obtain⟨z,hd,C,f,m⟩:=qC I.hok e;refine wpAny_notIn_of (qr n) hd m.mapOf ?_;rw[<-(f.val k).isSome_eq,<-l];exact h _ (I.tok _)
 ·subst j;cases(show u=Value.ref b from n);obtain⟨z,hd,D,f,m⟩:=sS I.hok I.kIn e;refine wpAny_notIn_heap (gA t) (vt I x B) hd m ?_;have q:=(f.val k).isSome_eq;rw[Option.isSome_map]at q;rw[<-q,<-l];exact h _ (I.tok _)
theorem t9{f:Heap}{g:Nat}{ob:HO}(I:Inv X J3 σ H s)(h:Md (H a))(i:iW a s.heap f)(j:∃q,f.get? a=some q)(new:cy X.prog X.w X.K (upd H a ob) f a ob):
  Inv X J3 σ (upd H a ob) { s with heap:=f,toks:=g } :=
 I.write (x:=a) (e:=a) h (.inl rfl) (fun b q k z=>(i.2 b k).trans z) j new
theorem IB{P:cn}{w:World}{K:Za}{i:Hp}{h:Heap}{e:List (fR×V)}{f:List (fR×Value)}(z:e.length<=aj)(j:(a==iX)=false)(g:KV e f)(k:h.DictOf (cE P w) a f):
  cy P w K i h a (.dK e):=⟨z,j,f,g,k⟩
theorem Gs{J:Hp}{Q:Unit->Shared->Prop}(Y:A.units+16<cLine)(I:Inv X J3 σ H s)(g:Mj H a y v J)(L:RelV y u)(M:RelV v r)(h:∀N,Inv X J3 σ J N->Q () N):
  wpAny (model X.prog X.w) A (setItem (.ref a) u r) Q E s:=by
 rcases g with⟨f,k,e,p,l,t⟩|⟨f,k,b,e,p,O,m,l,t⟩
 ·subst p t;obtain⟨z,x,vs,i,B⟩:=LZ I.hok e;have C:vs.length<=aj:=by rw[<-i.length];exact z
  have D:(dq f k v).length<=aj:=by have:=ff f k v;omega
  refine wpAny_setItem_pairs (hsz:=C) (qr L) B fun T j G=>h _ ?_;have he:∃q,T.get? a=some q:=let⟨q,_,_,n,_⟩:=j;⟨q,n⟩;exact t9 I (by rw[e];exact ky) G he (IB D x (i.put k M) j)
 ·subst p t;cases(show u=Value.ref b from L);obtain⟨z,x,xs,i,B⟩:=Iy I.hok I.kIn e;have C:xs.length<=aj:=by rw[<-Paired.length i];exact z
  have D:(dq f k v).length<=aj:=by have:=ff f k v;omega
  refine wpAny_setItem_heap (hsz:=C) (gA Y) (z9 I.hok I.kIn (cU.c 8 m O) m) B fun T j G=>h _ ?_;obtain⟨q,es,ep,n,h2,h3,h4,_,h5⟩:=j;refine t9 I (by rw[e];exact ky) G ⟨q,n⟩ ⟨D,x,_,(i.put k (cU.c 8 m O) m M).keeps fun c ys U=>?_,q,es,ep,n,h2,h3,h4,h5⟩;rw[ai (HY U e (fun z=>nomatch z))];exact U
theorem DM{b:Addr}{f:List (TK×V)}{k:TK}{Q:Unit->Shared->Prop}(x:A.units+16<cLine)(I:Inv X J3 σ H s)(e:H a=some (.dT f))(j:sU X.K H k (.ref b))(m:k.depth<=8)(l:f.length<aj)(B:RelV (.ref b) u)(C:RelV v r)(h:∀n,Inv X J3 σ (upd H a (.dT (dq f k v))) n->Q () n):
  wpAny (model X.prog X.w) A (setItem (.ref a) u r) Q E s:=by
 cases(show u=Value.ref b from B);obtain⟨z,D,G,g,J⟩:=Iy I.hok I.kIn e;have L:G.length<=aj:=by rw[<-Paired.length g];exact z
 have M:(dq f k v).length<=aj:=by have:=ff f k v;omega
 refine wpAny_setItem_heap (hsz:=L) (gA x) (z9 I.hok I.kIn (j) m) J fun h' i N=>h _ ?_;obtain⟨q,O,T,p,U,Y,h4,_,h5⟩:=i;refine t9 I (by rw[e];exact ky) N ⟨q,p⟩ ⟨M,D,_,(g.put k (j) m C).keeps fun c ys t=>?_,q,O,T,p,U,Y,h4,h5⟩;rw[ai (HY t e (fun z=>nomatch z))];exact t
end
def GK(i:Expr):Prop:=∀ov iv,yP i false ov iv=operate [ov,iv] (oO ov iv)
theorem Jm{a:cn}{w:World}{A:Around}{E:Zc}{s:Shared}{k:Env}{value slice:Expr}{p:Pos}{T id:String}{Q:Zc}
  (t:uF (.type T) "__getitem__"=pure (some (.builtin id))) (u:GK slice)
  (h:wpAny (model a w) A (eval value k) (fun o g=>wpAny (model a w) A (eval slice k) (fun i e=>e.TypeIs o T/\wpAny (model a w) A (oO o i) Q E e) E g) E s) :
  wpAny (model a w) A (eval (.Subscript value slice p) k) Q E s:=by
 refine yS (pK h (fun o g m=>pK m (fun i e f=>?_) fun _ _ x=>x) fun _ _ x=>x);obtain⟨q,f⟩:=f;unfold yR;refine ak ?_;rw[getitemInPython_of_ne q.not_modules];refine ak (Fo q t ?_);have l:wpAny (model a w) A (yP slice false o i) (fun r j=>wpAny (model a w) A (letTemporaryGo value o r >>= fun _=>pure r) Q E j) E e:=by
  rw[u o i];exact wpAny_operating (pK f (fun r j n=>ak (wpAny_letTemporaryGo (aP n))) fun _ _ x=>x)
 first
  |exact aP (ak l)
  |exact ak (aP (ak l))
  |exact ak l
theorem BN{X:Cx}{i:Zd}{σ:St}{H:Hp}{s:Shared}{a:Addr}{y:V}{o:Option V}(I:Inv X i σ H s)(g:oh X.K H a y o):s.TypeIs (.ref a) "dict":=by
 rcases g with⟨f,k,e,_,_⟩|⟨f,k,b,e,_,_,_⟩
 ·obtain⟨_,_,j,_,h⟩:=qC I.hok e;exact h.typeIs
 ·obtain⟨_,_,l,_,h⟩:=sS I.hok I.kIn e;exact h.typeIs
def iD(K:Za)(td ty:TE):TE:=fun σ H Q=>td σ H fun x H1=>ty σ H1 fun y H2=>∃a v,x=.ref a/\oh K H2 a y (some v)/\Q v H2
def CV(K:Za)(ty td:TE):TE:=fun σ H Q=>ty σ H fun y H1=>td σ H1 fun x H2=>∃a o,x=.ref a/\oh K H2 a y o/\Q (.bl o.isSome) H2
def ir(K:Za)(ty td:TE):TE:=fun σ H Q=>ty σ H fun y H1=>td σ H1 fun x H2=>∃a o,x=.ref a/\oh K H2 a y o/\Q (.bl (!o.isSome)) H2
def jv(td ty tv:TE):TS:=fun D σ H=>tv σ H fun v H1=>td σ H1 fun x H2=>ty σ H2 fun y H3=>∃a H4,x=.ref a/\Mj H3 a y v H4/\D.nx σ H4
section
variable{X:Cx}{o i e value:Expr}{pos pos' J7:Pos}{td ty tv:TE}
theorem gg(l:X.A.units+16<cLine)(m:PE X o td)(n:PE X i ty)(p:GK i):PE X (.Subscript o i pos) (iD X.K td ty):=by
 intro j s σ H Q I h;refine Jm PySem.F.slot_dict_getitem.lookup p (cJ (m j s σ H _ I h) fun u q ⟨x,r,t,w,z⟩=>cJ (n j q σ r _ t z) fun G J ⟨y,B,k,C,a,v,ex,g,D⟩=>?_);subst ex;obtain rfl:u=Value.ref a:=w;exact⟨BN k g,Gu l k g C fun L M E f=>⟨v,B,E,f,D⟩⟩
theorem rM(j:X.A.units+16<cLine)(k:PE X i ty)(l:PE X o td):PC X .In i o (CV X.K ty td):=by
 intro f s σ H Q I h;refine cJ (k f s σ H _ I h) fun D m ⟨y,n,p,q,r⟩=>cJ (l f m σ n _ p r) fun u E ⟨x,t,v,w,a,z,ex,g,B⟩=>?_;subst ex;obtain rfl:u=Value.ref a:=w;exact d_in j v g q fun G C=>⟨.bl z.isSome,t,C,rfl,B⟩
theorem fE(j:X.A.units+16<cLine)(k:PE X i ty)(l:PE X o td):PC X .NotIn i o (ir X.K ty td):=by
 intro f s σ H Q I h;refine cJ (k f s σ H _ I h) fun D m ⟨y,n,p,q,r⟩=>cJ (l f m σ n _ p r) fun u E ⟨x,t,v,w,a,z,ex,g,B⟩=>?_;subst ex;obtain rfl:u=Value.ref a:=w;exact J9 j v g q fun G C=>⟨.bl (!z.isSome),t,C,rfl,B⟩
theorem eO(j:X.A.units+16<cLine)(k:PE X o td)(l:PE X i ty)(m:PE X value tv)(n:sw value (some (.Subscript o i pos')) pos.line X.env=pure false):
  PS X (.Assign [.Subscript o i pos'] value pos) (jv td ty tv):=by
 intro f s σ H D I h;refine wpAny_Assign_Subscript (cJ (m f s σ H _ I h) fun r p ⟨v,q,t,w,z⟩=>cJ (k f p σ q _ t z) fun u B ⟨x,C,E,G,J⟩=>cJ (l f B σ C _ E J) fun T U ⟨y,Y,L,M,a,N,ex,g,O⟩=>?_) n;subst ex;obtain rfl:u=Value.ref a:=G;exact Gs j L g M w fun s4 Q=>⟨σ,N,Q,O⟩
end
theorem IC{P:cn}{w:World}{K:Za}{H:Hp}(h:Heap)(a:iX<h.objs.size):cy P w K H (h.push { cls:=.type "dict",data:=.dict #[] }) h.objs.size (.dK []) :=
 ⟨dL _,beq_eq_false_iff_ne.mpr (gx (bX a)),[],.nil,Heap.DictOf.new h⟩
theorem Iz{P:cn}{w:World}{K:Za}{H:Hp}(h:Heap)(a:iX<h.objs.size):cy P w K H (h.push { cls:=.type "dict",data:=.dict #[] }) h.objs.size (.dT []) :=
 ⟨dL _,beq_eq_false_iff_ne.mpr (gx (bX a)),[],.nil,_,#[],0,cG _ rfl,⟨rfl,rfl,rfl⟩,rfl,rfl,uC⟩
def rH:TE:=fun _ H Q=>∀p,H p=none->Q (.ref p) (upd H p (.dK []))
def lq:TE:=fun _ H Q=>∀p,H p=none->Q (.ref p) (upd H p (.dT []))
section
variable{X:Cx}{pos:Pos}
theorem mW:PE X (.Dict [] [] pos) rH:=fun e s σ H Q I h =>
 wpAny_Dict_empty ⟨.ref s.heap.objs.size,_,I.laid (a:=s.heap.objs.size) (o:=.dK []) (t':=s.toks) (fun _ _ q=>a_ _ q) (aD _) (IC s.heap I.big),rfl,h _ (I.hok.fresh (aD _))⟩
theorem iJ:PE X (.Dict [] [] pos) lq:=fun e s σ H Q I h =>
 wpAny_Dict_empty ⟨.ref s.heap.objs.size,_,I.laid (a:=s.heap.objs.size) (o:=.dT []) (t':=s.toks) (fun _ _ q=>a_ _ q) (aD _) (Iz s.heap I.big),rfl,h _ (I.hok.fresh (aD _))⟩
end
def kh(kvs more:List (fR×V)):List (fR×V):=more.foldl (fun acc kv=>dq acc kv.1 kv.2) kvs
theorem KV.merge:∀{more:List (fR×V)}{g:List (fR×Value)}{a:List (fR×V)}{f:List (fR×Value)},KV more g->KV a f->KV (kh a more) (merged f g):=by
 intro more g a f r;unfold KV at r
 induction r generalizing a f with
 |nil=>intro q;exact q
 |@cons p q k qs h t i =>
  intro j;have e:KV (dq a p.1 p.2) (stored f q.1 q.2):=by
   have:=j.put p.1 h.2;rw[<-h.1];exact this
  exact i e
theorem oq:∀(more a:List (fR×V)),(kh a more).length<=a.length+more.length
 |[],a=>by show a.length<=a.length+0;omega
 |p::r,a=>by
  have e:=oq r (dq a p.1 p.2);have f:=ff a p.1 p.2;show(kh (dq a p.1 p.2) r).length<=_;rw[fS];omega
structure M1(X:Cx)(o:Expr)(m:Str)(J5:Pos)(e:Expr)(J4:Pos):Prop where
 base:wW o m X.env (eval o X.env)=eval o X.env
 few:((backTo J4 (aM [e] X.env)).all (fun x=>!x.1) && (pG J4 (lg [] X.env)).all (fun x=>x.1.isSome)
  && decide (([e]:List Expr).length+([]:List rg).length+(if([]:List rg).isEmpty then 0 else 1)<30))=true
 line:(J5.endLine==J4.line)=true
 trees:backTo J4 (aM [e] X.env)=[(false,eval e X.env)]
structure M2(X:Cx)(o:Expr)(m:Str)(J5:Pos)(e f:Expr)(J4:Pos):Prop where
 base:wW o m X.env (eval o X.env)=eval o X.env
 few:((backTo J4 (aM [e,f] X.env)).all (fun x=>!x.1) && (pG J4 (lg [] X.env)).all (fun x=>x.1.isSome)
  && decide (([e,f]:List Expr).length+([]:List rg).length+(if([]:List rg).isEmpty then 0 else 1)<30))=true
 line:(J5.endLine==J4.line)=true
 trees:backTo J4 (aM [e,f] X.env)=[(false,eval e X.env),(false,eval f X.env)]
def IsD(H:Hp)(a:Addr):Prop:=(∃kvs,Rd H a (.dK kvs))∨∃kvs,Rd H a (.dT kvs)
theorem Im{X:Cx}{l:Zd}{σ:St}{H:Hp}{s:Shared}{a:Addr}(I:Inv X l σ H s)(d:IsD H a):
  s.TypeIs (.ref a) "dict"/\(∀b,Value.ref a=.ref b->∃f,s.heap.get? b=some f/\f.dict=none)/\(a==iX)=false:=by
 rcases d with⟨h,e⟩|⟨h,e⟩
 ·obtain⟨_,i,m,_,g⟩:=qC I.hok e;refine⟨g.typeIs,fun b q=>?_,i⟩;cases q;obtain⟨f,_,_,j,k,_⟩:=g;exact⟨f,j,k.2.1⟩
 ·obtain⟨_,i,n,_,g⟩:=sS I.hok I.kIn e;refine⟨g.typeIs,fun b q=>?_,i⟩;cases q;obtain⟨f,_,_,j,k,_⟩:=g;exact⟨f,j,k.2.1⟩
section
variable{X:Cx}{J3:Zd}{σ:St}{H:Hp}{s:Shared}{a:Addr}{y d:V}{u r:Value}{o:Option V}{A:Around}{E:Zc}
theorem Lg{Q:Zc}(v:A.units+16<cLine)(I:Inv X J3 σ H s)(g:oh X.K H a y o)(p:RelV y u)(h:∀q t,Inv X J3 σ H t->RelV (o.getD .non) q->Q q t):
  wpAny (model X.prog X.w) A (call (.builtin "dict.get") [.ref a,u]) Q E s:=by
 rcases g with⟨j,k,e,m,l⟩|⟨j,k,b,e,m,x,B,l⟩
 ·subst m;obtain⟨z,n,D,f,i⟩:=qC I.hok e;refine uA rc i.typeIs yJ (PySem.F.args_dict_get_2 _ _) (meets_dict_get (cE X.prog X.w) a (qr p) n) ⟨_,i.mapOf,h _ _ (I.tok _) ?_⟩;rw[l];exact(f.val k).getD rfl
 ·subst m;cases(show u=Value.ref b from p);obtain⟨z,n,C,f,i⟩:=sS I.hok I.kIn e;refine uA rc i.typeIs yJ (PySem.F.args_dict_get_2 _ _) (meetsH_dict_get (eW X.prog X.w) a b n) ⟨gA v,k,C,vt I x B,i,h _ _ (I.tok _) ?_⟩;rw[l];exact(f.val k).getD rfl
theorem Lf{Q:Zc}(x:A.units+16<cLine)(I:Inv X J3 σ H s)(g:oh X.K H a y o)(p:RelV y u)(q:RelV d r)(h:∀t v,Inv X J3 σ H v->RelV (o.getD d) t->Q t v):
  wpAny (model X.prog X.w) A (call (.builtin "dict.get") [.ref a,u,r]) Q E s:=by
 rcases g with⟨j,k,e,m,l⟩|⟨j,k,b,e,m,B,C,l⟩
 ·subst m;obtain⟨z,n,G,f,i⟩:=qC I.hok e;refine uA rc i.typeIs yJ (PySem.F.args_dict_get_3 _ _ _) (meets_dict_get_default (cE X.prog X.w) a (qr p) n r) ⟨_,i.mapOf,h _ _ (I.tok _) ?_⟩;rw[l];exact(f.val k).getD q
 ·subst m;cases(show u=Value.ref b from p);obtain⟨z,n,D,f,i⟩:=sS I.hok I.kIn e;refine uA rc i.typeIs yJ (PySem.F.args_dict_get_3 _ _ _) (meetsH_dict_get_default (eW X.prog X.w) a b n r) ⟨gA x,k,D,vt I B C,i,h _ _ (I.tok _) ?_⟩;rw[l];exact(f.val k).getD q
end
def zM(K:Za)(td ty:TE):TE:=fun σ H Q=>td σ H fun x H1=>∃a,x=.ref a/\IsD H1 a/\ty σ H1 fun y H2=>∃o,oh K H2 a y o/\Q (o.getD .non) H2
def zK(K:Za)(td ty tx:TE):TE:=fun σ H Q=>td σ H fun x H1=>∃a,x=.ref a/\IsD H1 a/\ty σ H1 fun y H2=>tx σ H2 fun z H3=>∃o,oh K H3 a y o/\Q (o.getD z) H3
section
variable{X:Cx}{o e f:Expr}{J5 J4:Pos}{td ty tx:TE}
theorem qg(l:X.A.units+16<cLine)(n:PE X o td)(p:PE X e ty)(m:M1 X o "get" J5 e J4):PE X (.Call (.Attribute o "get" J5) [e] [] J4) (zM X.K td ty):=by
 intro j s σ H Q I h;refine wpAny_Call_method m.base m.few m.line PySem.F.plainAttrs_dict rc PySem.F.type_dict_get (cJ (n j s σ H _ I h) fun u q ⟨x,r,k,t,a,ex,d,v⟩=>?_);subst ex;obtain rfl:u=Value.ref a:=t;obtain⟨w,z,_⟩:=Im k d;refine⟨w,z,?_⟩;rw[m.trees];refine yN rfl (Calls.evalArgs_plain (wV (cJ (p j q σ r _ k v) fun J L ⟨y,B,C,D,M,g,E⟩=>AG ?_)));exact Lg l C g D fun N O G i=>⟨_,B,G,i,E⟩
theorem vd(l:X.A.units+16<cLine)(n:PE X o td)(p:PE X e ty)(q:PE X f tx)(m:M2 X o "get" J5 e f J4):PE X (.Call (.Attribute o "get" J5) [e,f] [] J4) (zK X.K td ty tx):=by
 intro i s σ H Q I h;refine wpAny_Call_method m.base m.few m.line PySem.F.plainAttrs_dict rc PySem.F.type_dict_get (cJ (n i s σ H _ I h) fun u r ⟨x,t,k,v,a,ex,d,w⟩=>?_);subst ex;obtain rfl:u=Value.ref a:=v;obtain⟨B,C,_⟩:=Im k d;refine⟨B,C,?_⟩;rw[m.trees];refine yN rfl (Calls.evalArgs_plain (wV (cJ (p i r σ t _ k w) fun Y D ⟨y,E,G,J,L⟩ =>
  wV (cJ (q i D σ E _ G L) fun fv s3 ⟨z,M,N,O,ov,g,T⟩=>AG ?_))))
 exact Lf l N g J O fun w' s4 U j=>⟨_,M,U,j,T⟩
end
end L2
namespace Att
open PySem PySem.W PySem.Calls PyProof.Rows
theorem ints_of_wellAll{P:Params}{h:Heap}:∀(e:List Int) (vs:Zf),WellAll P h vs (e.map WData.int)->uz vs e:=by
 intro e
 induction e with
 |nil =>
  intro vs w;rw[yI]at w;cases w;exact .nil
 |cons n e f =>
  intro vs w;rw[bG]at w;cases w with
  |cons a b =>
   cases a;exact .cons _ _ (f _ b)
theorem script_of{l:OpenLaw}{n:Nat}(u:l.most=some n){P:Params}{h:Heap}{args:List WData}{f:Zf}
  (g:l.row.toRowW.claim.pre args=true) (o:WellAll P h f args) :
  ∃a s e,f=[Value.ref a]/\args=[WData.list (e.map WData.int)]/\h.get? a=some { cls:=.type "list",data:=.seq s.toArray }/\uz s e/\e.length<=n:=by
 have p:WShape.hasAll [] args [.list .int]=true:=(pre_splitW g).1;have t:l.pre.holds [] { args:=args }=true:=(pre_splitW g).2;obtain⟨d,r,rfl,v,w⟩:=hasAllW_cons p;obtain rfl:=hasAllW_nil w;obtain⟨C,rfl,x⟩:=hasW_list v;obtain⟨e,rfl⟩:=items_int x;have i:e.length<=n:=by
  unfold OpenLaw.pre at t;have k:(WTm.not (.lt (.lit (.int (n:Int))) (.len (.arg 0)))).holds [] { args:=[.list (e.map .int)] }=true:=by
   have k:=(holds_andW t).1;rw[u]at k;exact k
  have m:=condW_of k (w_not (w_lt w_lit (w_len_list (w_arg rfl))));rw[ah]at m;refine Nat.le_of_not_lt fun q=>?_;have y:(n:Int)<((e.length:Nat):Int):=by omega
  first
   | (rw[zzr1 y]at m;exact absurd m (by decide))
   | (simp at m;omega)
 cases o with
 |cons z A =>
  cases A;cases z with
  |list B j=>exact⟨_,_,e,rfl,rfl,B,ints_of_wellAll e _ j,i⟩
theorem post_true(l:OpenLaw)(args:List WData):l.row.toRowW.claim.post args (.bool true) args=true :=
 postW_of (r:=l.row.toRowW) (X:=(true==true))
  (show WShape.has [] (.bool true) .bool=true by first|rfl|decide|simp[WShape.has,WShape.arms,WShape.armsAll])
  (show(WTm.eq .res (.lit (.bool true))).value [] { args:=args,res:=some (.bool true),after:=args }=some (.bool (true==true))from w_eq_bool (w_res rfl) w_lit) rfl
theorem attach_call{l:OpenLaw}{n:Nat}{q:cn}{loose:Zb}{C:(Str->Option Value)->Heap->Prop}{D:World->Heap->Prop}{d:DefRec}
  (J:l.most=some n) (v:d.params.defaults=[])
  (call:∀(w:World) (g e:Shared) (p x:Str->Option Value) (i:Addr) (o:Obj) (y s doc:Value) (a:Addr) (h:Zf) (t:List Int),
   Ground q loose [] C w g p x e.heap->D w e.heap ->
   e.heap.get? i=some o->o.data=.func (docDef d.name d.params d.body d.scope y s doc)->e.heap.CodeRec s d.name->p d.name=some (.ref i) ->
   e.heap.get? a=some { cls:=.type "list",data:=.seq h.toArray }->uz h t->t.length<=n->e.gens=#[] ->
   zzl80 (model l.prog w) mL (.call (.ref i) ⟨[.ref a],[]⟩) (fun r u=>r=.ok (.ret (.bool true))/\OldK e.heap u.heap/\u.os=e.os/\pJ u.gens) e) :
  WalkO q loose C D l.row.toRowW d [] (fun f h=>PySem.call f h):=by
 intro w g e p x G Y i o y s doc L kV M N z E A O args H as j I Q B T;obtain rfl:L=.none:=Dflts.none E v;obtain rfl:kV=.none:=Dflts.noKw E;obtain⟨a,h,t,rfl,rfl,k,hints,m⟩:=script_of J j B;refine enter_call (Eg (call w g e p x i o y s doc a h t G Y M (fd_plain N) z A k hints m O) fun r u U=>?_);obtain⟨rfl,h2,h3,h4⟩:=U;exact⟨.inl ⟨.bool true,.bool true,[],rfl,fun _=>rfl,.bool true,post_true l _,fun _=>⟨List.Pairwise.nil,fun _ hm=>(nomatch hm)⟩⟩,h2,h3,h4⟩
end Att
namespace L2
open PySem PySem.Spec PyProof.Rows
theorem w_:∀{a:Zf}{e:List Int},uz a e->bb (e.map V.int) a
 |_,_,.nil=>.nil
 |_,_,.cons n t h=>.cons ⟨t,rfl⟩ (w_ h)
def Kk(H:Hp):Prop:=∀b,H b=none∨∃o xs,H b=some (.frz o (.lst xs))
theorem Ii{P:cn}{w:World}{K:Za}{A Q:Str->Option Value}{CX:GV}{k:Nat}{T a:Addr}{fd:mh}{x:Str}{sp:Sp}{f:Shared}{t:Zf}{B:List Int}
  (KX:K.In f.heap) (C:f.heap.Ns bW A) (i:f.heap.Ns builtinsNs Q) (U:∀x:Str,x≠"__name__"->Q x=jf x) (D:f.heap.NoLimit) (hg:f.gens=#[])
  (O:f.heap.get? a=some { cls:=.type "list",data:=.seq t.toArray }) (hi:uz t B) (hl:B.length<=aj) (hr:fJ k mL)
  (F:∀base:Heap,K.In base->base.Ns bW A->nu P w K A base CX k T fd [x] sp) (y:∀(s:Shared) (u:Value),ue s fd ⟨[u],[]⟩ [(x,u)])
  (Y:∀H:Hp,Kk H->aw K H a (B.map V.int)->sp [.ref a] H (fun v _=>v=.bl true) fun _ _ _=>False)
  (al:∀H e j,CX [] H f (fun _ _ _=>False) e j->False) :
  zzl80 (model P w) mL (.call (.ref T) ⟨[.ref a],[]⟩) (fun r j=>r=.ok (.ret (.bool true))/\OldK f.heap j.heap/\j.os=f.os/\pJ j.gens) f:=by
 have rv:=w_ hi;have E:=hi.length;have p:∀H:Hp,Kk H->aw K H a (B.map V.int)->nS P w K H f.heap->(∀b,H b≠none->b=a)->(H a≠none->K.lookup a=none) ->
   zzl80 (model P w) mL (.call (.ref T) ⟨[.ref a],[]⟩) (fun r j=>r=.ok (.ret (.bool true))/\OldK f.heap j.heap/\j.os=f.os/\pJ j.gens) f:=by
  intro H hO hS G hA hK;have g:∀{b:Addr}{o:Obj},f.heap.get? b=some o->H b=none->(Ad f.heap H).get? b=some o:=fun e n=>Iq e n;have an:∀{b:Addr}{o:Obj}{es:Array q_}{I:Nat},f.heap.get? b=some o->o.data=.dict es I->H b=none:=fun{b o es I} e d=>by
   cases q:H b with
   |none=>rfl
   |some u =>
    have e':b=a:=hA b (by rw[q];simp);subst e';rw[O]at e;cases e;have d':Data.seq t.toArray _=Data.dict es I:=d;cases d'
  have l:∀{b:Addr}{m:Str->Option Value},f.heap.Ns b m->(Ad f.heap H).Ns b m:=fun{b m} ⟨o,es,I,e,d,r⟩=>⟨o,es,I,g e (an e d),d,r⟩;have J:K.In (Ad f.heap H):=fun b o e=>g (KX b o e) (by
   cases q:H b with
   |none=>rfl
   |some u =>
    have e':b=a:=hA b (by rw[q];simp);subst e';rw[hK (by rw[q];simp)]at e;cases e)
  have hM:Mod K A (Ad f.heap H):=⟨J,l C,⟨Q,l i,U⟩,let⟨mc,h1,h2⟩:=D;⟨mc,l h1,h2⟩⟩;have e0:Ed P w K A (Ad f.heap H) mL [] f H:=⟨rfl,hM,fun b o e=>JP e,Nat.le_of_eq (Gm _ _),trivial,fun b i=>absurd (show b∈([]:Ze)from i) (by simp),G,.of_eq hg⟩;refine Eg ((F _ J (l C)).run mL [] f H ⟨[.ref a],[]⟩ [.ref a] [.ref a] _ _ hr e0 (y f (.ref a)) (.cons rfl .nil) (Y H hO hS)) fun r j h=>?_;cases r with
  |error e=>exact(al H e j h).elim
  |ok fl =>
   cases fl with
   |next=>exact kz h
   |brk=>exact kz h
   |cont=>exact kz h
   |ret u =>
    obtain⟨v,H',os,L,un,M,r',q⟩:=h;have q':v=.bl true:=q;subst q';obtain rfl:u=Value.bool true:=r';refine⟨rfl,OldK.of_keep fun b o e=>?_,os,L⟩;cases q:H b with
    |none=>exact un.keep b o e q (by intro z;exact absurd (show b∈([]:Ze)from z) (by simp)) (by simp)
    |some u =>
     rcases hO b with z|⟨ob,xs,z⟩
     ·rw[q]at z;cases z
     ·have z2:=un.frzs b ob _ z;obtain⟨e1,_⟩:=G b _ z;obtain⟨e2,_⟩:=M b _ z2;rw[e]at e1;cases e1;exact e2
 cases hk:K.lookup a with
 |some o =>
  have e:=KX a o hk;rw[O]at e;cases e;refine p (fun _=>none) (fun _=>.inl rfl) (.inr ⟨_,t.toArray,_,hk,rfl,rfl,rfl,by rw[bH,E];exact hl,by simpa using rv⟩) (fun b u z=>by have N:(none:Option HO)=some u:=z;cases N) (fun b z=>absurd rfl z) fun z=>absurd rfl z
 |none =>
  refine p (fun b=>if b=a then some (.frz { cls:=.type "list",data:=.seq t.toArray } (.lst (B.map V.int)))else none) (fun b=>?_) (.inl (.inr ⟨{ cls:=.type "list",data:=.seq t.toArray },if_pos rfl⟩)) (fun b u z=>?_) (fun b z=>?_) fun _=>hk
  ·by_cases i:b=a
   ·exact .inr ⟨_,_,if_pos i⟩
   ·exact .inl (if_neg i)
  ·by_cases i:b=a
   ·have N:=(if_pos i).symm.trans z;cases N;subst i;exact⟨O,by rw[ah];exact hl,t,_,rv,O⟩
   ·have N:=(if_neg i).symm.trans z;cases N
  ·by_cases i:b=a
   ·exact i
   ·exact absurd (if_neg i) z
end L2
namespace L2
open PySem PySem.Spec PyProof.Rows
theorem Jd{l:PySem.W.OpenLaw}{n k:Nat}{q:cn}{loose:Zb}{N:(Str->Option Value)->Heap->Prop}{I:World->Heap->Prop}{d:DefRec}{K:Params->Za}{CX:World->GV}{sp:World->Sp}{x:Str}
  (O:l.most=some n) (y:n<=aj) (z:d.params.defaults=[]) (Q:fJ k mL)
  (U:∀(w:World) (h:Heap),I w h->(K w.params).In h)
  (F:∀(w:World) (j:Str->Option Value) (r:Addr) (h:Heap),(K w.params).In h->h.Ns bW j->j d.name=some (.ref r) ->
   ∃A:mh,(∀(s:Shared) (u:Value),ue s A ⟨[u],[]⟩ [(x,u)]) /\
    ∀base:Heap,(K w.params).In base->base.Ns bW j->nu l.prog w (K w.params) j base (CX w) k r A [x] (sp w))
  (B:∀(w:World) (H:Hp) (a:Addr) (t:List Int),t.length<=n->Kk H->aw (K w.params) H a (t.map V.int)->sp w [.ref a] H (fun v _=>v=.bl true) fun _ _ _=>False)
  (C:∀(w:World) (H:Hp) (s:Shared) (e:Value) (D:Shared),CX w [] H s (fun _ _ _=>False) e D->False) :
  PySem.W.WalkO q loose N I l.row.toRowW d [] (fun f J=>PySem.call f J):=by
 refine Att.attach_call O z fun w L m j mb r o pm cd doc a J t G Y ho hd al E p hints i hg=>?_;have M:=U w _ Y;obtain⟨A,hb,hF⟩:=F w j r _ M G.T.g E;exact Ii M G.T.g G.T.b G.T.builtins G.T.nolimit hg p hints (aB i y) Q hF hb (fun H hO hS=>B w H a t i hO hS) fun H e D=>C w H m e D
theorem walk_ofK{l:PySem.W.OpenLaw}{n k:Nat}{q:cn}{loose:Zb}{A:(Str->Option Value)->Heap->Prop}{t:World->Heap->Prop}{d:DefRec}{K:Params->Za}{CX:GV}{sp:Za->Sp}{x:Str}
  (B:l.most=some n) (j:n<=aj) (m:d.params.defaults=[]) (C:fJ k mL)
  (D:∀(w:World) (h:Heap),t w h->(K w.params).In h)
  (F:∀(w:World) (g:Str->Option Value) (y:Addr) (h:Heap),(K w.params).In h->h.Ns bW g->g d.name=some (.ref y) ->
   ∃z:mh,(∀(s:Shared) (u:Value),ue s z ⟨[u],[]⟩ [(x,u)]) /\
    ∀base:Heap,(K w.params).In base->base.Ns bW g->nu l.prog w (K w.params) g base CX k y z [x] (sp (K w.params)))
  (o:∀(K:Za) (H:Hp) (a:Addr) (i:List Int),i.length<=n->Kk H->aw K H a (i.map V.int)->sp K [.ref a] H (fun v _=>v=.bl true) fun _ _ _=>False)
  (p:∀(H:Hp) (s:Shared) (e:Value) (r:Shared),CX [] H s (fun _ _ _=>False) e r->False) :
  PySem.W.WalkO q loose A t l.row.toRowW d [] (fun f E=>PySem.call f E) :=
 Jd (K:=K) (CX:=fun _=>CX) (sp:=fun w=>sp (K w.params)) B j m C D F (fun w H a i G I J=>o (K w.params) H a i G I J) fun _ H s e r=>p H s e r
end L2
namespace L2
open PySem PySem.Spec PyProof.Rows
def cT(s:Stmt)(j:Nat):Stmt:=match s with
 |.ClassDef _ _ _ body _ _ _ _ _ _ _=>body.getD j (.Pass ⟨0,0,0,0⟩)
 |_=>.Pass ⟨0,0,0,0⟩
def i8(s:Stmt):Arguments:=match s with
 |.FunctionDef _ a _ _ _ _ _ _ _ _=>a
 |_=>{ posonlyargs:=[],args:=[],vararg:=none,kwonlyargs:=[],kw_defaults:=[],kwarg:=none,defaults:=[] }
def g9(s:Stmt):List Stmt:=match s with
 |.FunctionDef _ _ b _ _ _ _ _ _ _=>b
 |_=>[]
def cr(s:Stmt):Scope:=match s with
 |.FunctionDef _ _ _ _ _ _ sc _ _ _=>sc
 |_=>{ kind:=.function,names:=[],isGenerator:=false,isCoroutine:=false }
abbrev CX0:GV:=fun _ _ _ _ _ _=>False
abbrev E0:XK:=fun _ _ _=>False
abbrev aL(sp:Sp)(a:TA):TE:=Kr sp [] E0 a
theorem EK{X:Cx}:pf CX0 X E0:=fun _ _ _ _ _ _ _ h=>h.elim
structure Lz(K:Za)(x qual:Str)(st:Stmt)(f:Addr)(fd:mh):Prop where
 ex:∃(oc:Value) (od:Option Addr) (kV doc pm:Value) (an:Option Addr) (cdv ct:Value) (osl:Array (Option Value)),
  fd=jp x qual (i8 st) (g9 st) (cr st) .none kV doc pm an cdv ct/\K.lookup f=some ⟨oc,od,.func fd,osl⟩/\oP K cdv qual=true
 kp:gG K (.ref f)=true
section
variable{P:cn}{w:World}{K:Za}{mg:Str->Option Value}{base:Heap}
theorem Lz.ok{x a:Str}{st:Stmt}{f:Addr}{p:mh}{N j:Zb}{k:Nat}{l:Sp}(F:Lz K x a st f p)(S:lV N j (cr st))(m:∀g H Q E,l g H Q E->g.length=j.length)
  (i:∀(e:Value) (A:Around) (outer:List Env) (s:Shared) (H:Hp) (g:List V) (Q:VK) (E:XK),fJ k (A.deeper (envOfC a (cr st) s.heap.objs.size f e))->l g H Q E ->
   ∃t,Ct (DN CX0 P w K mg base N a (cr st) f e A outer s H E).nox (g9 st) t/\t (bo Q) (start N g) H):nu P w K mg base CX0 (k+1) f p j l:=by
 obtain⟨v,y,kV,doc,z,B,e,C,r,rfl,lk,n⟩:=F.ex;refine LV lk n S m fun A outer s H g Q E u o=>?_;obtain⟨t,h,q⟩:=i e A outer s H g Q E u o;exact⟨t,h.nox,q⟩
theorem Lz.binds{x a:Str}{st:Stmt}{f:Addr}{l:mh}{ps:Zb}(F:Lz K x a st f l)
  (h:∀(kV doc g:Value) (i:Option Addr) (e j:Value) (k:Zf),k.length=ps.length->bindArgs (jp x a (i8 st) (g9 st) (cr st) .none kV doc g i e j) ⟨k,[]⟩=pure (ps.zip k)):Binds K l ps []:=by
 obtain⟨o,p,kV,doc,g,i,e,j,m,rfl,lk,n⟩:=F.ex;exact .all (h kV doc g i e j)
theorem Iv{x a:Str}{st:Stmt}{f:Addr}{m:Value}{n h:Option Addr}{g:Array (Option Value)}{kV doc i e j:Value}(l:K.lookup f=some ⟨m,n,.func (jp x a (i8 st) (g9 st) (cr st) .none kV doc i h e j),g⟩)
  (c:oP K e a=true) (k:gG K (.ref f)=true):Lz K x a st f (jp x a (i8 st) (g9 st) (cr st) .none kV doc i h e j):=⟨⟨m,n,kV,doc,i,h,e,j,g,rfl,l,c⟩,k⟩
end
theorem EW{A:Around}{k:Nat}(a:fJ k A):A.units+16<cLine:=qZ (Nat.add_le_add_left (by decide:16<=64) _) a.units
theorem aq{n:Nat}(h:n<=1000):n<aj:=qZ h (by decide)
section
variable{X:Cx}
theorem pv(i:Nat){x:Str}{a:Pos}(f:X.N[i]?=some x:=by rfl)(g:Mv X.env.scope x:=by first|exact Or.inl rfl|exact Or.inr (Or.inl rfl)|exact Or.inr (Or.inr rfl))(h:(x==("__debug__":Str))=false:=by decide)
  (e:(x==("__classdict__":Str))=false:=by decide):PE X (.Name x a) (oY i):=K7 f g h e
end
theorem bD{A B:Prop}(h:B):if false=true then A else B:=by
 rw[if_neg iB];exact h
theorem bT{A B:Prop}(h:A):if true=true then A else B:=by
 rw[if_pos rfl];exact h
theorem i7{c A B:Prop}[Decidable c](a:c->A)(e:¬c->B):if c then A else B:=by
 by_cases h:c
 ·rw[if_pos h];exact a h
 ·rw[if_neg h];exact e h
def ab(H H':Hp):Prop:=∀b o,H b=some o->H' b=some o
theorem ab.refl(H:Hp):ab H H:=fun _ _ h=>h
theorem ab.trans{H e f:Hp}(a:ab H e)(b:ab e f):ab H f:=fun c o h=>b c o (a c o h)
theorem ab.free{H a:Hp}(e:ab H a){l:Addr}(h:a l=Option.none):H l=Option.none:=by
 cases q:H l with
 |none=>rfl
 |some o =>
  rw[e l o q]at h;cases h
theorem ab.seq{K:Za}{H f:Hp}{a:Addr}{g:List V}(e:ab H f)(h:aw K H a g):aw K f a g:=by
 rcases h with(h|⟨o,h⟩)|h
 ·exact .inl (.inl (e _ _ h))
 ·exact .inl (.inr ⟨o,e _ _ h⟩)
 ·exact .inr h
section
variable{prog:cn}{w:World}{A:Around}{R:Result->Shared->Prop}{s:Shared}
abbrev XF:Value->Shared->Prop:=fun _ _=>False
abbrev DD(ifs:List Expr)(env:Env):Sem Bool:=forIn ifs true fun c r=>if r=true then do let ok <- isTrue c env (eval c env);pure (yH ok)else pure (yH r)
theorem Ah{j:Expr}{scope:Scope}{y:Pos}{t:Value}(I:Nat->Shared->Prop)
  (turn:∀n s,I n s->wpAny (model prog w) A (pyNext it) (fun r a=>match r with
   |none=>R (.ok .next) a
   |some v=>wpAny (model prog w) A (Em target it v) (fun _ e=>wpAny (model prog w) A (assign target f v) (fun _ k =>
     wpAny (model prog w) A (DD z f) (fun ok g =>
      if ok=true then wpAny (model prog w) A (eval B f) (fun x l =>
       wpAny (model prog w) A (call (.builtin "list.append") [t,x]) (fun _ o=>∃m,m<n/\I m o) XF l) XF g
      else ∃m,m<n/\I m g) XF k) XF e) XF a) XF s)
  (n:Nat) (h:I n s):zzl80 (model prog w) A (.compLoop (.ListComp B [⟨target,j,z,0⟩] scope y) 0 it t f) R s:=by
 refine codeAny_loop rfl I (fun n s G=>?_) n h;show wpAny _ A ((compTurn (.ListComp B [⟨target,j,z,0⟩] scope y) 0 it t f).onRaise (fun x=>do noteFrame x f;theTreesLotGoes x)) _ _ s
 refine wpAny_noted ?_;rw[compTurn_list];refine ak (wpAny_standAt (ak (pK (turn n s G) (fun r a p=>?_) fun _ _ i=>i.elim)));cases r with
 |none=>exact aP p
 |some v =>
  refine ak (pK p (fun _ e u=>?_) fun _ _ i=>i.elim);refine ak (pK u (fun _ k C=>ak (pK C (fun ok g q=>?_) fun _ _ i=>i.elim)) fun _ _ i=>i.elim);cases ok with
  |false=>exact aP ⟨rfl,q⟩
  |true =>
   exact ak (ak (pK q (fun x l D=>ak (pK D (fun _ o E=>aP (aP ⟨rfl,E⟩)) fun _ _ i=>i.elim)) fun _ _ i=>i.elim))
end
theorem pc{env:Env}:∀(names:List (Str×h9)) (a:List (Str×Addr)),(∀y∈names,y.2=.free->∃c,env.cells.lookup y.1=some c)->(∀x c,a.lookup x=some c->env.cells.lookup x=some c) ->
  ∃f:List (Str×Addr),(forIn names a fun(x:Str×h9) (r:List (Str×Addr))=>if(x.2==mK)=true then(cellOf env x.1 >>= fun c=>(pure (yH ((x.1,c)::r)):Sem (ForInStep (List (Str×Addr)))))else pure (yH r))=pure f /\
   (∀x c,f.lookup x=some c->env.cells.lookup x=some c)/\(∀x,(a.lookup x).isSome=true->(f.lookup x).isSome=true)/\∀y∈names,y.2=.free->(f.lookup y.1).isSome=true
 |[],a,_,p=>⟨a,rfl,p,fun _ h=>h,fun _ h=>nomatch h⟩
 | (n,k)::r,a,m,p=>by
  have w:∀y∈r,y.2=.free->∃c,env.cells.lookup y.1=some c:=fun y hy=>m y (c_ _ hy);by_cases t:k=.free
  ·subst t;obtain⟨c,z⟩:=m (n,.free) cW rfl;obtain⟨f,e,u,q,v⟩:=pc r ((n,c)::a) w (fun x d o=>by
    rw[jn]at o;cases g:x==n with
    |true =>
     rw[g]at o;have:x=n:=by simpa using g
     subst this;cases o;exact z
    |false=>rw[g]at o;exact p x d o)
   have i:(((n,c)::a).lookup n).isSome=true:=by rw[jn,beq_self_eq_true];rfl
   have j:∀x,(a.lookup x).isSome=true->(((n,c)::a).lookup x).isSome=true:=fun x g=>by
    rw[jn];cases x==n with
    |true=>rfl
    |false=>exact g
   refine⟨f,?_,u,fun x g=>q x (j x g),fun y hy s=>?_⟩
   ·rw[oK];have l:cellOf env n=pure c:=by unfold cellOf;rw[z]
    simp only[beq_self_eq_true,if_true,l];exact e
   ·rcases cu.mp hy with rfl|hy
    ·exact q _ i
    ·exact v y hy s
  ·obtain⟨f,e,u,q,v⟩:=pc r a w p;refine⟨f,?_,u,q,fun y hy s=>?_⟩
   ·rw[oK];have A:(k==mK)=false:=by simpa using t
    simp only[A,kB,if_false];exact e
   ·rcases cu.mp hy with rfl|hy
    ·exact absurd s t
    ·exact v y hy s
theorem vN{env:Env}{scope:Scope}(f:∀y∈scope.names,y.2=.free->∃c,env.cells.lookup y.1=some c):
  ∃a:List (Str×Addr),closureFor scope env=pure a/\(∀x c,a.lookup x=some c->env.cells.lookup x=some c)/\∀y∈scope.names,y.2=.free->(a.lookup y.1).isSome=true:=by
 obtain⟨a,e,g,_,i⟩:=pc (env:=env) scope.names [] f (fun _ _ h=>nomatch h);refine⟨a,?_,g,i⟩;unfold closureFor
 first
  |exact e
  | (simp only[bind_pure];exact e)
  | (rw[show(forIn scope.names [] _:Sem (List (Str×Addr)))=pure a from e];rfl)
def d6(X:Cx)(N:Zb)(scope:Scope)(C:Addr)(cl:List (Str×Addr))(s₀:Shared)(H₀:Hp)(ex:Ze)(pn:Zd):Cx where
 prog:=X.prog
 w:=X.w
 K:=X.K
 mg:=X.mg
 base:=X.base
 A:=X.A
 N:=N
 s₀:=s₀
 H₀:=H₀
 env:=compEnvC scope cl C X.env
 outer:=X.stack
 stack:=X.stack
 ex:=ex
 fn:=fun _=>false
 calm:=X.calm
 pn:=pn
 xe:=XF
def nR(sc scope:Scope)(k:Nat)(N XN:Zb)(fi:List Nat):Bool :=
 decide (scope.kind=.function) &&
 (scope.names.all fun y=>decide (y.2≠.cell) && (decide (y.2≠.local) || decide (scope.names.lookup y.1=some .local)) && (decide (y.2≠.free) || decide (sc.names.lookup y.1=some .cell) || decide (sc.names.lookup y.1=some .free))) &&
 decide (N.length=k+fi.length) &&
 ((mm fi.length).all fun j=>match fi[j]? with
  |some i=>match N[k+j]?,XN[i]? with
   |some x,some y=>decide (x=y) && decide (scope.names.lookup x=some .free)
   |_,_=>false
  |none=>false)
structure pD(sc scope:Scope)(k:Nat)(N XN:Zb)(fi:List Nat):Prop where
 kind:scope.kind=.function
 cell:∀y∈scope.names,y.2≠.cell
 nm:∀y∈scope.names,y.2=.local->scope.names.lookup y.1=some .local
 fr:∀y∈scope.names,y.2=.free->sc.names.lookup y.1=some .cell∨sc.names.lookup y.1=some .free
 len:N.length=k+fi.length
 sl:∀j i,fi[j]?=some i->∃x,N[k+j]?=some x/\XN[i]?=some x/\scope.names.lookup x=some .free
theorem pD.of(h:nR n scope k N l m=true):pD n scope k N l m:=by
 unfold nR at h;simp only[yG,List.all_eq_true,Bool.or_eq_true,decide_eq_true_eq]at h;obtain⟨⟨⟨o,g⟩,p⟩,r⟩:=h;refine⟨o,fun y f=>(g y f).1.1,fun y f e=>((g y f).1.2).resolve_left fun z=>z e,fun y f e=>?_,p,fun j i e=>?_⟩
 ·rcases(g y f).2 with(z|z)|z
  ·exact absurd e z
  ·exact .inl z
  ·exact .inr z
 ·have s:j<m.length:=(bN.mp e).1;have q:=r j (List.mem_range.mpr s);rw[e]at q;dsimp only at q;cases a:N[k+j]? with
  |none=>rw[a]at q;cases q
  |some x =>
   cases b:l[i]? with
   |none=>rw[a,b]at q;cases q
   |some y =>
    rw[a,b]at q;simp only[yG,decide_eq_true_eq]at q;exact⟨x,rfl,by rw[q.1],q.2⟩
theorem i3{a:Env}:∀{names:List (Str×h9)}{x:Str},names.lookup x=some .free ->
  (names.map fun(n,k)=>if(k==mK && a.scope.kind==.function && a.kindOf n==some .cell)then(n,h9.cell)else(n,k)).lookup x=some .cell ∨
  (names.map fun(n,k)=>if(k==mK && a.scope.kind==.function && a.kindOf n==some .cell)then(n,h9.cell)else(n,k)).lookup x=some .free
 |[],_,h=>by simp at h
 | (n,k)::r,x,h=>by
  have g:=@i3 a r x;simp only[bG];cases e:x==n with
  |true =>
   simp only[jn,e]at h;cases h;by_cases f:(mK==mK && a.scope.kind==.function && a.kindOf n==some .cell)=true
   ·left;rw[if_pos f];simp[jn,e]
   ·right;rw[if_neg f];simp[jn,e]
  |false =>
   simp only[jn,e]at h;by_cases f:(k==mK && a.scope.kind==.function && a.kindOf n==some .cell)=true
   ·rw[if_pos f];simp only[jn,e];exact g h
   ·rw[if_neg f];simp only[jn,e];exact g h
def dH(k:Nat)(fi:List Nat)(σ:St):St:=List.replicate k none++fi.map fun i=>(σ[i]?).join
theorem DQ(k:Nat)(a:List Nat)(σ:St):(dH k a σ).length=k+a.length:=by simp[dH]
theorem vM{i:Nat}{v:V}(h:(dH k f σ)[i]?=some (some v)):∃j t,i=k+j/\f[j]?=some t/\σ[t]?=some (some v):=by
 unfold dH at h;by_cases g:i<k
 ·rw[uG (by simpa using g),List.getElem?_replicate_of_lt g]at h;cases h
 ·rw[List.getElem?_append_right (by simp;omega),List.length_replicate,cH]at h;refine⟨i-k,?_⟩;cases e:f[i-k]? with
  |none=>rw[e]at h;cases h
  |some t =>
   rw[e]at h;simp only[uD]at h;refine⟨t,by omega,rfl,?_⟩;have a:=fM h;cases l:σ[t]? with
   |none=>rw[l]at a;cases a
   |some o=>rw[l]at a;simp only[Option.join]at a;first|(rw[a])|(subst a;rfl)|(simpa using a)
def Ca(k:Nat)(g:TG):Prop:=∀x σ H Q,g x σ H Q->g x σ H fun σ2 H2=>Q σ2 H2/\σ2.length=σ.length/\∀i,k<=i->σ2[i]?=σ[i]?
def Fl(k:Nat)(g:Kh):Prop:=∀x σ H Q,g x σ H Q->g x σ H fun σ2 H2=>Q σ2 H2/\σ2.length=σ.length/\∀i,k<=i->σ2[i]?=σ[i]?
theorem aT{k i:Nat}(h:i<k):Ca k (eQ i):=fun x σ H Q q=>⟨q,by simp,fun j a=>by rw[List.getElem?_set_ne (by omega)]⟩
theorem ve:Fl k jH:=fun x σ H Q ⟨e,q⟩=>⟨e,q,rfl,fun _ _=>rfl⟩
def IT(g:TG):Prop:=∀x σ H Q Q',(∀σ2 H2,Q σ2 H2->Q' σ2 H2)->g x σ H Q->g x σ H Q'
def AB(g:Kh):Prop:=∀x σ H Q Q',(∀σ2 H2,Q σ2 H2->Q' σ2 H2)->g x σ H Q->g x σ H Q'
theorem dj:IT (eQ i):=fun _ _ _ _ _ f q=>f _ _ q
theorem ig:AB jH:=fun _ _ _ _ _ f ⟨e,q⟩=>⟨e,f _ _ q⟩
theorem jD(a:IT g)(h:AB u):AB (bv g u):=fun _ _ _ _ _ f ⟨v,r,e,q⟩=>⟨v,r,e,a _ _ _ _ _ (fun _ _ q=>h _ _ _ _ _ f q) q⟩
theorem ic(f:Ca k g)(h:IT g)(j:Fl k u)(m:AB u):Fl k (bv g u):=fun x σ H Q ⟨v,r,e,q⟩ =>
 ⟨v,r,e,h _ _ _ _ _ (fun σ2 t ⟨q,l,s⟩=>m _ _ _ _ _ (fun σ3 w ⟨n,o,p⟩=>⟨n,o.trans l,fun i a=>(p i a).trans (s i a)⟩) (j _ _ _ _ q)) (f _ _ _ _ q)⟩
theorem zT{K:Za}(h:Fl k t):Ca k (jM K n t):=fun x σ H Q ⟨a,f,e,g,i,q⟩=>⟨a,f,e,g,i,h _ _ _ _ q⟩
def KN(X:Cx)(ifs:List Expr)(t:TT):Prop :=
 ∀(J3:Zd) (s:Shared) (σ:St) (H:Hp) (Q:Bool->Hp->Prop),Inv X J3 σ H s->t σ H Q->wpAny (model X.prog X.w) X.A (DD ifs X.env) (TP X J3 σ Q) X.xe s
def iS:TT:=fun _ H Q=>Q true H
theorem cj:KN X [] iS:=fun a s σ H Q I h=>aP ⟨H,I,h⟩
theorem gW(h:PT X c t):KN X [c] t:=by
 intro a s σ H Q I e;unfold DD;rw[oK];simp only[if_true];refine ak (ak (cJ (h a s σ H Q I e) fun b f q=>aP ?_));exact aP q
def cI(k:Nat)(fi:List Nat)(wi:TI)(g:TG)(tc:TT)(te:TE):TE:=fun σ H Q=>wi σ H fun J H1=>∀l,H1 l=none->∃W:Nat->Nat->List V->Hp->Prop,(∃m,W 0 m [] (upd H1 l (.lst [])))/\∀i m vs H2,W i m vs H2->H2 l=some (.lst vs) /\
 ((J.stop i H2/\Q (.ref l) H2)∨(J.go i H2/\∀x H3,J.yld i H2 x H3->g x (dH k fi σ) H3 fun σ2 H4=>tc σ2 H4 fun b H5 =>
  if b=true then te σ2 H5 fun v H6=>H6 l=some (.lst vs)/\vs.length<aj/\∃m',m'<m/\W (i+1) m' (vs++[v]) (upd H6 l (.lst (vs++[v])))else ∃m',m'<m/\W (i+1) m' vs H5))
section
variable{X:Cx}{J3:Zd}{σ:St}
theorem Kc{u:List (Str×Addr)}{v:Ze}(S:pD X.env.scope scope k N X.N Y)(I:Inv X J3 σ H s)
  (i:∀x c,u.lookup x=some c->X.env.cells.lookup x=some c) (w:∀y∈scope.names,y.2=.free->(u.lookup y.1).isSome=true) (A:∀b∈v,og X J3 H b) (B:∀b∈v,b<s.heap.objs.size) :
  (d6 X N scope s.heap.objs.size u s H v (X.pn++J3)).Ok where
 mod:=I.ok.mod
 kind:=S.kind
 glob:=I.ok.glob
 blt:=I.ok.blt
 above:=aD _
 inj:=fun x y c L M=>I.ok.inj x y c (i x c L) (i y c M)
 has:=fun x h=>by
  have C:∃y∈scope.names,y.1=x/\y.2=.free:=by
   have h':(relabel scope X.env).names.lookup x=some .cell∨(relabel scope X.env).names.lookup x=some .free:=h;have m:∀(l:List (Str×h9)) (f:h9),l.lookup x=some f->(x,f)∈l:=by
    intro l
    induction l with
    |nil=>intro f e;cases e
    |cons a r O =>
     intro f e;obtain⟨n,D⟩:=a;rw[jn]at e;cases E:x==n with
     |true =>
      rw[E]at e;have:x=n:=by simpa using E
      subst this;cases e;exact cW
     |false=>rw[E]at e;exact c_ _ (O f e)
   have g:∀f,(x,f)∈(relabel scope X.env).names->f=.cell∨f=.free->∃y∈scope.names,y.1=x/\y.2=.free:=by
    intro f Q G;obtain⟨⟨n,D⟩,p,e⟩:=aS.mp Q;dsimp only at e;by_cases t:(D==mK && X.env.scope.kind==.function && X.env.kindOf n==some .cell)=true
    ·have J:D=.free:=by
      simp only[yG]at t;simpa using t.1.1
     rw[if_pos t]at e;cases e;exact⟨_,p,rfl,J⟩
    ·rw[if_neg t]at e;cases e;rcases G with rfl|rfl
     ·exact absurd rfl (S.cell _ p)
     ·exact⟨_,p,rfl,rfl⟩
   rcases h' with h'|h'
   ·exact g _ (m _ _ h') (.inl rfl)
   ·exact g _ (m _ _ h') (.inr rfl)
  obtain⟨y,p,rfl,G⟩:=C;exact yT.mp (w y p G)
 cab:=fun x c h=>by cases h
 hd:=I.ok.hd
 frames:=I.ok.frames
 stk:=.inl rfl
 exf:=fun b j=>⟨bX (B b j),fun x c e=>(A b j).2.2.2.2.1 x c (i x c e)⟩
 bs:=I.bs
 bsz:=aB I.ok.bsz I.sz
 noex:=fun b o e j=>by
  rcases(A b j).2.2.2.1 with z|z
  ·exact I.ok.noex b o e z
  ·exact absurd (da (aI (I.ok.bs b o e).1) z) (kA _)
 exfs:=fun b j z=>by
  obtain⟨_,T,U,_⟩:=A b j;rcases cu.mp (I.stkSub b z)with q|q
  ·exact T q
  ·exact U q
 funs:=I.stack
 frf:=I.stkFree
theorem IJ{E:List (Str×Addr)}{G:Ze}{f:Heap}{t':Nat}(S:pD X.env.scope scope k N X.N fi)(I:Inv X J3 σ H s)
  (g:∀x c,E.lookup x=some c->X.env.cells.lookup x=some c) (A:∀y∈scope.names,y.2=.free->(E.lookup y.1).isSome=true) (hf:∀b∈G,og X J3 H b) (J:∀b∈G,b<s.heap.objs.size)
  (hn:f.Ns s.heap.objs.size m) (old:∀b o,s.heap.get? b=some o->f.get? b=some o) :
  Inv (d6 X N scope s.heap.objs.size E s H G (X.pn++J3)) [] (dH k fi σ) H { s with heap:=f,toks:=t' }:=by
 have w:∀(l:List (Str×h9)) (x:Str) (B:h9),l.lookup x=some B->(x,B)∈l:=by
  intro l
  induction l with
  |nil=>intro x B e;cases e
  |cons a r ih =>
   intro x B e;obtain⟨n,k'⟩:=a;rw[jn]at e;cases L:x==n with
   |true =>
    rw[L]at e;have:x=n:=by simpa using L
    subst this;cases e;exact cW
   |false=>rw[L]at e;exact c_ _ (ih x B e)
 refine⟨Kc S I g A hf J,rfl,I.bare,Un.kept old,⟨m,hn,fun i x v e1 e2 e3=>?_⟩,fun x c e=>?_,I.hok.fresh (aD _),fun x c e=>I.freeC x c (g x c e),fun p U=>?_,I.hok.kept old,?_⟩
 ·obtain⟨j,t,rfl,ht,hv⟩:=vM e2;obtain⟨y,hy,M,C⟩:=S.sl j t ht;have D:N[k+j]?=some x:=e1;rw[hy]at D;cases D;have h:=w _ _ _ C;obtain⟨c,Y⟩:=yT.mp (A _ h rfl);have hX:=g _ _ Y;obtain⟨mX,al,O⟩:=I.loc;have kX:=S.fr _ h rfl;obtain⟨u,ru,lk⟩:=O t x v M hv (by rcases kX with z|z;exact .inr (.inl z);exact .inr (.inr z));refine⟨u,ru,.inr ⟨?_,c,Y,?_⟩⟩
  ·exact i3 C
  ·rcases lk with⟨z,_⟩|⟨_,c',e',q⟩
   ·have z':X.env.scope.names.lookup x=some .local:=z;rcases kX with kX|kX<;>rw[z']at kX<;>cases kX
   ·rw[hX]at e';cases e';obtain⟨o,Q,T⟩:=q;exact⟨o,old _ o Q,T⟩
 ·obtain⟨v,o,Q,T⟩:=I.cell x c (g x c e);exact⟨v,o,old _ o Q,T⟩
 ·rw[dO]at U;obtain⟨e,n,ne,nf,d⟩:=I.pin p U;refine⟨old _ _ e,n,bX (aI e),fun z=>?_,d⟩;rcases cu.mp (I.stkSub _ z)with q|q
  ·exact ne q
  ·exact nf q
 ·rw[DQ];exact S.len.symm
structure AD(X:Cx)(J3:Zd)(H:Hp)(C:Addr):Prop where
 free:H C=none
 loc:C≠X.env.locals
 young:X.s₀.heap.objs.size<=C
 cells:∀x c,X.env.cells.lookup x=some c->c≠C
 pin:∀p∈X.pn++J3,p.1≠C
theorem vL{iter:Expr}{pos:Pos}{cl:List (Str×Addr)}{Q:VK}
     {RR:Value->Addr->Result->Shared->Prop}
    (S:pD X.env.scope scope k N X.N fi) (hc:X.calm=true) (bd:∀x c,cl.lookup x=some c->X.env.cells.lookup x=some c) (b7:∀y∈scope.names,y.2=.free->(cl.lookup y.1).isSome=true)
    (hg:∀C cl s B ex pn,PG (d6 X N scope C cl s B ex pn) tg g) (ho:Ca k g) (ht:∀C cl s B ex pn,KN (d6 X N scope C cl s B ex pn) ifs tc) (he:∀C cl s B ex pn,PE (d6 X N scope C cl s B ex pn) elt te)
    (I2:Inv X J3 σ G s2) (T:tJ X.prog X.w X.K tg J fp it tn) (bi:tn 0 s2.heap) (f2:∀b∈fp,og X J3 G b)
    (hw:∀l,G l=none->∃W:Nat->Nat->List V->Hp->Prop,(∃m,W 0 m [] (upd G l (.lst [])))/\∀i m M G,W i m M G->G l=some (.lst M) /\
      ((J.stop i G/\Q (.ref l) G)∨(J.go i G/\∀x H3,J.yld i G x H3->g x (dH k fi σ) H3 fun σ2 H4=>tc σ2 H4 fun b H5 =>
        if b=true then te σ2 H5 fun v H6=>H6 l=some (.lst M)/\M.length<aj/\∃O,O<m/\W (i+1) O (M++[v]) (upd H6 l (.lst (M++[v])))else ∃O,O<m/\W (i+1) O M H5)))
    (hR:∀D C I s' O,Inv X J3 σ I s'->s'.heap.Ns C O->AD X J3 I C->Q (.ref D) I->RR (.ref D) C (.ok .next) s') :
    wpAny (model X.prog X.w) X.A (newList []) (fun acc s₃=>wpAny (model X.prog X.w) X.A (newFunctionEnv scope X.env.globals cl [] X.env.qual none .none (some X.env)) (fun as s₄ =>
      zzl80 (model X.prog X.w) X.A (.compStart (.ListComp elt [⟨tg,iter,ifs,0⟩] scope pos) 0 (.ref it) acc { as with scope:=relabel scope X.env }) (RR acc as.locals) s₄) E s₃) E s2:=by
  have an:G s2.heap.objs.size=none:=I2.fresh;obtain⟨W,⟨m0,w0⟩,turn⟩:=hw _ an;refine lc (wpAny_newFunctionEnv S.cell (by intro y hy;simp at hy) (fun H U al=>?_) S.kind);dsimp only at U al ⊢;have I3:Inv X J3 σ (upd G s2.heap.objs.size (.lst [])) { s2 with heap:=s2.heap.push { cls:=.type "list",data:=.seq ([]:Zf).toArray },toks:=s2.toks }:=I2.lnew (ys:=[]) .nil (dL _);generalize bl:({ s2 with heap:=s2.heap.push { cls:=.type "list",data:=.seq ([]:Zf).toArray },toks:=s2.toks }:Shared)=h at I3;have ap:h.heap=s2.heap.push { cls:=.type "list",data:=.seq ([]:Zf).toArray }:=by rw[<-bl]
  have b8:h.heap.objs.size=s2.heap.objs.size+1:=by rw[ap,mi]
  have bm:∀b∈fp,b<s2.heap.objs.size:=fun b a=>by
    obtain⟨o,e,_⟩:=T.obj 0 _ bi b a;exact aI e
  have f3:∀b∈fp,og X J3 (upd G s2.heap.objs.size (.lst [])) b:=fun b a=>⟨by rw[ai (bX (bm b a))];exact(f2 b a).1,(f2 b a).2⟩;have aC:∀b∈fp,b<h.heap.objs.size:=fun b a=>by rw[b8];exact Nat.lt_succ_of_lt (bm b a)
  have old:∀b o,h.heap.get? b=some o->H.get? b=some o:=fun b o e=>by
    have a:b≠h.heap.objs.size:=bX (aI e);rw[ap]at e a;exact al.extBut b o a (a_ _ e)
  have cc:H.Ns h.heap.objs.size (fun x=>([]:List (Str×Value)).reverse.lookup x):=by rw[ap];exact U
  have I4:Inv (d6 X N scope h.heap.objs.size cl h (upd G s2.heap.objs.size (.lst [])) fp (X.pn++J3)) [] (dH k fi σ) (upd G s2.heap.objs.size (.lst [])) { h with heap:=H,toks:=s2.toks+([]:List (Str×Value)).length } :=
    IJ S I3 bd b7 f3 aC cc old
  have bn:tn 0 H:=T.keep _ _ _ bi fun b a o e=>old b o (by rw[ap];exact a_ _ e);generalize L:d6 X N scope h.heap.objs.size cl h (upd G s2.heap.objs.size (.lst [])) fp (X.pn++J3)=Y at I4;have yp:Y.prog=X.prog:=by rw[<-L];rfl
  have yw:Y.w=X.w:=by rw[<-L];rfl
  have yK:Y.K=X.K:=by rw[<-L];rfl
  have yA:Y.A=X.A:=by rw[<-L];rfl
  have yx:Y.xe=XF:=by rw[<-L];rfl
  have yc:Y.calm=true:=by rw[<-L];exact hc
  have gY:PG Y tg g:=by rw[<-L];exact hg _ _ _ _ _ _
  have tY:KN Y ifs tc:=by rw[<-L];exact ht _ _ _ _ _ _
  have eY:PE Y elt te:=by rw[<-L];exact he _ _ _ _ _ _
  have bu:Y.env=compEnvC scope cl h.heap.objs.size X.env:=by rw[<-L];rfl
  have fY:∀{I:Hp},(∀b∈fp,I b=none)->∀b∈fp,og Y [] I b:=fun hn b a=>by
    obtain⟨f0,f1,bw,bz,f4,f5⟩:=f3 b a;rw[<-L];refine⟨hn b a,bX (aC b a),fun z=>?_,.inl a,fun x c e=>f4 x c (bd x c e),fun p hp=>?_⟩
    · rcases cu.mp (I3.stkSub _ z)with q|q
      · exact f1 q
      · exact bw q
    · rw[dO]at hp
      exact f5 p hp
  have a0:∀s4:Shared,s4={ h with heap:=H,toks:=s2.toks+([]:List (Str×Value)).length } ->
      zzl80 (model X.prog X.w) X.A (.compLoop (.ListComp elt [⟨tg,iter,ifs,0⟩] scope pos) 0 (.ref it) (.ref s2.heap.objs.size) Y.env) (RR (.ref s2.heap.objs.size) h.heap.objs.size) s4:=by
    rintro s4 rfl;refine Ah (fun n s'=>∃i M I,Inv Y [] (dH k fi σ) I s'/\tn i s'.heap/\(∀b∈fp,I b=none)/\W i n M I) ?_ m0 ⟨0,[],_,I4,bn,fun b a=>(f3 b a).1,w0⟩;rintro n s5 ⟨i,M,H5,I5,bI,bS,w5⟩;obtain⟨cv,a4⟩:=turn i n M H5 w5;rcases a4 with⟨stop,q⟩|⟨go,step⟩
    · have d:=T.done Y yp yw yK yc i [] s5 _ H5 XF I5 (fY bS) bI stop
      rw[yA]at d;refine cJ d fun r s6 ⟨hr,I6⟩=>?_;subst hr;have hu:Un (GU X.stack) fp (upd G s2.heap.objs.size (.lst [])) H5 h.heap s6.heap:=by have:=I6.base;rw[<-L]at this;exact this
      have cd:s6.os=h.os:=by have:=I6.os;rw[<-L]at this;exact this
      have b1:nS X.prog X.w X.K H5 s6.heap:=by have:=I6.hok;rw[<-L]at this;exact this
      have ce:H5 h.heap.objs.size=none:=by have:=I6.free;rw[<-L]at this;exact this
      obtain⟨m6,b2,_⟩:=I6.loc;have b3:s6.heap.Ns h.heap.objs.size m6:=by rw[<-L]at b2;exact b2
      have IX:Inv X J3 σ H5 s6:=I3.call' cd hu b1 I6.bare fun b a=>by
        obtain⟨f0,f1,bw,bz,f4,f5⟩:=f3 b a;exact⟨bz,f1,f4,f5⟩
      refine hR _ _ H5 s6 m6 IX b3 ⟨ce,eM I3.lt,I3.sz,fun x c e z=>?_,fun p hp z=>?_⟩ q
      · obtain⟨v,o,ho,_⟩:=I3.cell x c e
        exact absurd (aI ho) (by rw[z];exact kA _)
      · exact absurd (aI (I3.pin p hp).1) (by rw[z];exact kA _)
    · have d:=T.item Y yp yw yK yc i [] s5 _ H5 XF I5 (fY bS) bI go
      rw[yA]at d;refine cJ d fun r s6 ⟨u,hr,h6⟩=>?_;subst hr;refine cJ h6 fun _ s7 ⟨x,H7,I7,r7,y7,a5,cf⟩=>?_;have ch:=I7.pinned (fY cf) (T.obj _ _ a5);have a7:=gY _ s7 _ H7 x u _ ch r7 (ho _ _ _ _ (step x H7 y7));rw[yp,yw,yA,yx]at a7;refine cJ a7 fun _ s8 ⟨σ8,H8,I8,q8,l8,k8⟩=>?_;have a8:=tY _ s8 σ8 H8 _ I8 q8;rw[yp,yw,yA,yx]at a8;have again:∀{H9:Hp}{s9:Shared}{a6:List V}{O:Nat},Inv Y ([]++u_ fp s7.heap) σ8 H9 s9->O<n->W (i+1) O a6 H9->∃m,m<n/\∃i M I,Inv Y [] (dH k fi σ) I s9/\tn i s9.heap/\(∀b∈fp,I b=none)/\W i m M I:=fun{H9 s9 a6 O} I9 hm w9=>by
        refine⟨O,hm,i+1,a6,H9,(I9.unpinned).weak l8.symm (fun j v e=>?_),T.keep _ _ _ a5 fun b a o e=>(I9.pin (b,o) (eU _ (eU _ (lM a e)))).1,fun b a=>?_,w9⟩
        · obtain⟨j',t,rfl,_,_⟩:=vM e
          rw[k8 _ (ka _ _)];exact e
        · obtain⟨o,e,_⟩:=T.obj _ _ a5 b a
          exact(I9.pin (b,o) (eU _ (eU _ (lM a e)))).2.1
      refine cJ a8 fun b s9 ⟨H9,I9,q9⟩=>?_;cases b with
      |false =>
        rw[if_neg iB]at q9 ⊢;obtain⟨O,hm,w9⟩:=q9;exact again I9 hm w9
      |true =>
        rw[if_pos rfl]at q9 ⊢;have a9:=eY _ s9 σ8 H9 _ I9 q9;rw[yp,yw,yA,yx]at a9;refine cJ a9 fun y ci ⟨v,b4,cm,co,b5,bc,O,hm,cp⟩=>?_;have b6:=dE (X:=Y) _ ci σ8 b4 (.ref s2.heap.objs.size) [v] (.ref s2.heap.objs.size) [y] (fun z I=>z=.non/\I=upd b4 s2.heap.objs.size (.lst (M++[v]))) cm rfl (.cons co .nil) ⟨_,M,v,rfl,rfl,b5,bc,rfl,rfl⟩;rw[yp,yw,yA,yx]at b6;refine cJ b6 fun _ c0 ⟨_,c1,cs,_,_,ct⟩=>?_;subst ct;exact again cs hm cp
  have f:=codeAny_compStart_list (prog:=X.prog) (w:=X.w) (A:=X.A) (elt:=elt) (target:=tg) (iter:=iter) (ifs:=ifs) (rest:=[]) (scope:=scope) (pos:=pos) (it:=.ref it) (acc:=.ref s2.heap.objs.size) (env:=Y.env) (a0 _ rfl) (T.self _ 0 _ _ _ bn (a0 _ rfl));rw[bu]at f;rw[<-bl]at f;exact f
end
section
variable{X:Cx}
theorem AD.turned{a:Heap}(c:AD X f H C)(I:Inv X f σ H s)(g:iW C s.heap a):Inv X f σ H { s with heap:=a } :=
 I.turned (t':=s.toks) (fun b o h e=>g.extBut b o h e) c.free c.loc (.inr c.young) c.cells c.pin
theorem JL{n:Pos}(L:nR X.env.scope scope k N X.N M=true)(O:X.calm=true)(U:PI X E i Y)
  (hg:∀C l a f ex m,PG (d6 X N scope C l a f ex m) E g) (ho:Ca k g) (ht:∀C l a f ex m,KN (d6 X N scope C l a f ex m) o tc) (he:∀C l a f ex m,PE (d6 X N scope C l a f ex m) p te)
  (hs:∀x,AJ i X.env x=pure x:=by intro _;rfl):PE X (.ListComp p [⟨E,i,o,0⟩] scope n) (cI k M Y g tc te):=by
 intro G s σ H Q I h;have S:=pD.of L;obtain⟨l,j,r,t⟩:=vN (env:=X.env) (scope:=scope) fun y hy e=>I.ok.has y.1 (S.fr y hy e);rw[eval_ListComp];refine wpAny_comprehension_free (use:=none) rfl hs j S.kind S.nm (cJ (U G s σ H _ I h) fun v s1 h1=>cJ h1 fun al s2 h2=>?_);obtain⟨it,fp,tn,J,H2,e,I2,T,u,f2,hw⟩:=h2;subst e;refine vL (RR:=fun z C=>compPost (model X.prog X.w) X.A X.xe none (EP X G σ Q) z C) S O r t hg ho ht he I2 T u f2 hw ?_;intro D C H' s' m' I' hn ce q;exact⟨m',hn,fun h' B=>⟨.ref D,H',ce.turned I' B,rfl,q⟩⟩
theorem Dj{n m t:Pos}{j:Nat}{y:Str}(hN:X.N.Nodup)(hj:X.N[j]?=some y)(L:Loc X.env.scope y)(hS:nR X.env.scope scope k N X.N fi=true)(hc:X.calm=true)(hi:PI X G f wi)
  (hg:∀C u i l ex B,PG (d6 X N scope C u i l ex B) G g) (ho:Ca k g) (ht:∀C u i l ex B,KN (d6 X N scope C u i l ex B) o tc) (he:∀C u i l ex B,PE (d6 X N scope C u i l ex B) p te)
  (M:sw (.ListComp p [⟨G,f,o,0⟩] scope n) (some (.Name y t)) m.line X.env=pure true:=by rfl)
  (hs:∀x,AJ f X.env x=pure x:=by intro _;rfl) (hf:X.fn y=true∨X.env.scope.names.lookup y=some .local:=by first|exact .inl rfl|exact .inr rfl|assumption) :
  PS X (.Assign [.Name y t] (.ListComp p [⟨G,f,o,0⟩] scope n) m) (aN (cI k fi wi g tc te) (eQ j)):=by
 intro O s σ H D I h;have S:=pD.of hS;obtain⟨u,r,U,Y⟩:=vN (env:=X.env) (scope:=scope) fun y L e=>I.ok.has y.1 (S.fr y L e);rw[exec_Assign_Name_used _ _ _ _ M];refine ak (wpAny_standAt (ak ?_));show wpAny _ X.A (do let _ <- comprehension (.ListComp p [⟨G,f,o,0⟩] scope n) scope X.env _ (newList []) false (eval f X.env) (some (assign (.Name y t) X.env))) _ _ s
 refine ak (pK (wpAny_comprehension_free (use:=some (assign (.Name y t) X.env)) (Q:=fun _ E=>SP X O D .next E) rfl hs r S.kind S.nm
  (cJ (hi O s σ H _ I h) fun v s1 h1=>cJ h1 fun a5 s2 h2=>?_)) (fun _ E hq=>aP (aP hq)) fun _ _ e=>e)
 obtain⟨it,fp,tn,J,H2,e,I2,T,al,f2,hw⟩:=h2;subst e;refine vL (RR:=fun an C=>compPost (model X.prog X.w) X.A X.xe (some (assign (.Name y t) X.env)) (fun _ E=>SP X O D .next E) an C) (Q:=fun x H1=>eQ j x σ H1 D.nx) S hc U Y hg ho ht he I2 T al f2 hw ?_;intro A C H' E m' I' hn ce q;show wpAny _ X.A (assign (.Name y t) X.env (.ref A)) _ _ _;refine wpAny_assign_Name (xi I' hN hj L (v:=.ref A) rfl (fun a6 ap as=>?_) hf);obtain⟨a,aC,ha⟩:=as;have a0:C≠a:=by
  rcases ha with z|z
  ·rw[z];exact ce.loc
  ·exact gx (ce.cells y a z)
 refine⟨m',hn.sameBut aC a0,fun h' a4=>?_⟩;exact⟨_,H',ce.turned ap a4,q⟩
end
theorem Inv.turnedNew{g:Heap}{t:Nat}{ch:Ze}{o:HO}(I:Inv X l σ H s)(i:∀b∈ch,og X l H b)
  (k:∀b q,b∉ch->s.heap.get? b=some q->g.get? b=some q) (N:∃q,g.get? s.heap.objs.size=some q) (x:∀y,o≠.own y) (new:cy X.prog X.w X.K (upd H s.heap.objs.size o) g s.heap.objs.size o) :
  Inv X l σ (upd H s.heap.objs.size o) { s with heap:=g,toks:=t }:=by
 have a:H s.heap.objs.size=none:=I.fresh;have j:∀b q,s.heap.get? b=some q->b≠s.heap.objs.size:=fun b q e=>bX (aI e);have p:∀b u,H b=some u->b∉ch:=fun b u e z=>by rw[(i b z).1]at e;cases e
 refine I.step (g':=s.gens) (d':=s.drawn) (ch:=ch) (fun b h=>?_) (fun b q _ _ f e _=>k b q f e) (fun b q _ _ f e _=>⟨q.slots,k b q f e⟩) (fun b q _ e n=>by rw[ai (j b q e)];exact n) (fun b q f e=>⟨q,k b q f e⟩)
  (fun b A e=>by rw[ai (ae e a)];exact e) (fun b q u e=>by rw[ai (ae e a)];exact e) (fun b O e=>⟨#[],by rw[ai (ae e a),e];simp⟩) (fun m B=>?_) (fun b u e=>?_) I.bare
 ·obtain⟨Q,C,T,D,E,G⟩:=i b h;exact⟨D,C,E,G⟩
 ·obtain⟨q,J,L,M,r⟩:=B;exact⟨q,J,L,k _ q (fun z=>(i _ z).2.1 rfl) M,r⟩
 ·by_cases h:b=s.heap.objs.size
  ·subst h;rw[aa]at e;cases e;exact new
  ·rw[ai h]at e;refine(I.hok b u e).stay (fun c v f q=>k c v ?_ q) (fun c q=>by rw[ai (ae q a)];exact q) fun c A q=>by rw[ai (ae q a)];exact q
   rcases f with z|z
   ·subst z;exact p _ _ e
   ·exact p _ _ z
def Mg(K:Za)(a:Addr):It :=
 ⟨fun i H=>∃xs x,aw K H a xs/\xs[i]?=some x,fun i H x H'=>∃p v,x=.ref p/\H p=none/\(∀xs,aw K H a xs->xs[i]?=some v)/\H'=upd H p (.tup [.int i,v]),fun i H=>∃xs,aw K H a xs/\xs.length<=i⟩
theorem Fu{K:Za}{es:List Expr}{kx:Nat}{J7:Pos}(a e it:Addr)(m:e≠it):
  tJ P w K (.Tuple es kx J7) (Mg K a) [e,it] e (fun i h=>(∃old,IsEnum h e it i old)/\h.IsListIter it a i) where
 mem:=by simp
 obj:=fun i h st b l=>by
  obtain⟨⟨old,g⟩,o,G,J,hd⟩:=st;rcases cu.mp l with z|z
  ·subst z;exact⟨_,g,fun v z=>by cases z⟩
  ·have L:b=it:=by simpa using z
   subst L;exact⟨o,G,fun v z=>by rw[hd]at z;cases z⟩
 keep:=fun i h C st k=>⟨let⟨old,g⟩:=st.1;⟨old,k e (by simp) _ g⟩,st.2.at fun o e=>k it (by simp) o e⟩
 item:=by
  intro X M N O J i J3 s σ H E I n st Q;subst M N O;obtain⟨⟨old,g⟩,j⟩:=st;obtain⟨xs,x,D,T⟩:=Q;obtain⟨U,Y,p,hz⟩:=I.list D;obtain⟨u,hu,ru⟩:=Y.get T;obtain⟨e0,e1,e2,e3,e4,e5⟩:=n e (by simp);obtain⟨f0,f1,f2,f3,f4,f5⟩:=n it (by simp);refine wpAny_pyNext_enum_item g j p.isList (x:=u) (by simpa using hu) m fun C al r an a8 ap=>?_;refine⟨_,rfl,wpAny_letOwnedTupleGo_enum (s:={ s with heap:=C,toks:=s.toks+1 }) al fun h2 as aC=>?_⟩;have f:iW e C h2:=aC;have t:s.heap.objs.size≠e:=eM (aI g);have A:h2.get? s.heap.objs.size=some { cls:=.type "tuple",data:=.seq #[.int i s.toks,u] }:=f.extBut _ _ t an;have a0:H s.heap.objs.size=none:=I.fresh;have a4:upd H s.heap.objs.size (.tup [.int i,x]) e=none:=by rw[ai (gx t)];exact e0
  have a5:s.heap.objs.size≠it:=by
   obtain⟨o,G,_⟩:=j;exact eM (aI G)
  have a6:upd H s.heap.objs.size (.tup [.int i,x]) it=none:=by rw[ai (gx a5)];exact f0
  have I2:Inv X J3 σ (upd H s.heap.objs.size (.tup [.int i,x])) { s with heap:=h2,toks:=s.toks+1 }:=by
   refine I.turnedNew (ch:=[e,it]) n (fun b o l q=>?_) ⟨_,A⟩ (fun _ z=>nomatch z) ⟨by show 2<=aj;decide,[.int i s.toks,u],.cons ⟨_,rfl⟩ (.cons ru .nil),⟨_,A,rfl,_,rfl⟩⟩;have B:b≠e:=fun z=>l (by simp[z]);have a7:b≠it:=fun z=>l (by simp[z]);exact f.extBut _ _ B (ap b o B a7 q)
  refine⟨.ref s.heap.objs.size,_,I2,rfl,⟨_,x,rfl,a0,fun ys hy=>by rw[I.list_inj hy D];exact T,rfl⟩,⟨⟨u,by simpa using as⟩,r.at fun o y=>(f.2 it (gx m)).trans y⟩,fun b l=>?_⟩;rcases cu.mp l with z|z
  ·subst z;exact a4
  ·have L:b=it:=by simpa using z
   subst L;exact a6
 done:=by
  intro X M N O J i J3 s σ H E I n st Q;subst M N O;obtain⟨⟨old,g⟩,j⟩:=st;obtain⟨xs,D,T⟩:=Q;obtain⟨U,Y,p,hz⟩:=I.list D;obtain⟨f0,f1,f2,f3,f4,f5⟩:=n it (by simp);have hl:=Y.length;exact wpAny_pyNext_enum_end (I.ok.hd J) g j p.isList (by simp;omega) fun C eb=>⟨rfl,I.turned (t':=s.toks) (fun b o l e=>eb b o l e) f0 f1 f3 f4 f5⟩
 self:=fun _ _ _ _ _ st h=>let⟨_,g⟩:=st.1;wpAny_pyIter_enum g h
section
variable{X:Cx}{p pos:Pos}{es:List Expr}{kx:Nat}{J7:Pos}
def xB(K:Za)(ta:TA):TI:=fun σ H R=>ta σ H fun vs H1=>∃a,vs=[.ref a]/\(∃xs,aw K H1 a xs)/\R (Mg K a) H1
theorem qe{a:Expr}(t:Gl X "enumerate")(v:X.mg "enumerate"=none)(w:PA X [a] x)(y:aM [a] X.env=[(false,eval a X.env)]:=by rfl):PI X (.Tuple es kx J7) (.Call (.Name "enumerate" p) [a] [] pos) (xB X.K x):=by
 intro m s σ H R I h;refine Call_ (iT I t v boot_enumerate (pI (cJ (w pos m s σ H _ I h) fun Q s1 ⟨T,n,g,A,B⟩=>?_) y rfl));obtain⟨l,e,⟨U,C⟩,q⟩:=B;subst e;obtain⟨u,rfl,D⟩:=vals1 A;cases D;obtain⟨E,Y,G,hz⟩:=g.list C;refine call_enumerate_list G.isList fun i r j J L=>?_;refine wpAny_pyIter_enum (s:={ s1 with heap:=i }) r ?_;have k:∀b o,s1.heap.get? b=some o->i.get? b=some o:=L;have M:Inv X m σ n { s1 with heap:=i }:=g.kept (t':=s1.toks) k;refine⟨_,[s1.heap.objs.size+1,s1.heap.objs.size],_,_,n,rfl,M,Fu l _ _ (Nat.succ_ne_self _),⟨⟨_,r⟩,j⟩,fun b N=>?_,q⟩;have f:s1.heap.objs.size<=b:=by
  rcases cu.mp N with z|z
  ·rw[z];exact rh _
  ·have O:b=s1.heap.objs.size:=by simpa using z
   rw[O];exact aD _
 exact g.fpOk f (g.hok.fresh f)
end
def MD(x:Str):It:=⟨fun i _=>i<x.cps.size,fun i H y H'=>H'=H/\∃c,x.cps[i]?=some c/\y=.str ⟨#[c]⟩,fun i _=>x.cps.size<=i⟩
theorem CA{K:Za}(x:Str)(t:Tok)(it:Addr):tJ P w K Q (MD x) [it] it (fun i h=>h.IsStrIter it "str_ascii_iterator" x t i) where
 mem:=by simp
 obj:=fun i h st b a=>by
  have e:b=it:=by simpa using a
  subst e;obtain⟨o,e,c,d⟩:=st;exact⟨o,e,fun v z=>by rw[d]at z;cases z⟩
 keep:=fun i h g st k=>by
  obtain⟨o,e,c,d⟩:=st;exact⟨o,k it (by simp) o e,c,d⟩
 item:=by
  intro X l m n C i D s σ H E I j st p;subst l m n;have q:i<x.cps.size:=p;obtain⟨r,u,J,y,A,B⟩:=j it (by simp);have G:x.cps[i]?=some x.cps[i]:=by simp[q]
  refine wpAny_pyNext_ascii_item st G fun g f L=>?_;have M:Inv X D σ H { s with heap:=g,toks:=s.toks+1 }:=I.turned (t':=s.toks+1) (fun b o a e=>(L.2 b a).trans e) r u y A B;obtain⟨o,e,c,d⟩:=id f;exact⟨_,rfl,vz (s:={ s with heap:=g,toks:=s.toks+1 }) e c d (by decide) ⟨.str ⟨#[x.cps[i]]⟩,H,M,⟨_,rfl⟩,⟨rfl,_,G,rfl⟩,f,fun b a=>(j b a).1⟩⟩
 done:=by
  intro X l m n C i D s σ H E I j st p;subst l m n;have N:x.cps.size<=i:=p;obtain⟨r,u,J,y,A,B⟩:=j it (by simp);exact wpAny_pyNext_ascii_end (I.ok.hd C) st (by simp;omega) fun g O=>⟨rfl,I.turned (t':=s.toks) (fun b o a e=>O b o a e) r u y A B⟩
 self:=fun _ _ _ _ _ st h=>wpAny_pyIter_striter_ascii st h
theorem Fs{K:Za}(x:Str)(t:Tok)(it:Addr):tJ P w K Q (MD x) [it] it (fun i h=>h.IsStrIter it "str_iterator" x t i) where
 mem:=by simp
 obj:=fun i h st b a=>by
  have e:b=it:=by simpa using a
  subst e;obtain⟨o,e,c,d⟩:=st;exact⟨o,e,fun v z=>by rw[d]at z;cases z⟩
 keep:=fun i h g st k=>by
  obtain⟨o,e,c,d⟩:=st;exact⟨o,k it (by simp) o e,c,d⟩
 item:=by
  intro X l m n C i D s σ H E I j st p;subst l m n;have q:i<x.cps.size:=p;obtain⟨r,u,J,y,A,B⟩:=j it (by simp);have G:x.cps[i]?=some x.cps[i]:=by simp[q]
  refine wpAny_pyNext_wide_item st G fun g f L=>?_;have M:Inv X D σ H { s with heap:=g,toks:=s.toks+1 }:=I.turned (t':=s.toks+1) (fun b o a e=>(L.2 b a).trans e) r u y A B;obtain⟨o,e,c,d⟩:=id f;exact⟨_,rfl,vz (s:={ s with heap:=g,toks:=s.toks+1 }) e c d (by decide) ⟨.str ⟨#[x.cps[i]]⟩,H,M,⟨_,rfl⟩,⟨rfl,_,G,rfl⟩,f,fun b a=>(j b a).1⟩⟩
 done:=by
  intro X l m n C i D s σ H E I j st p;subst l m n;have N:x.cps.size<=i:=p;obtain⟨r,u,J,y,A,B⟩:=j it (by simp);exact wpAny_pyNext_wide_end (I.ok.hd C) st (by simp;omega) fun g O=>⟨rfl,I.turned (t':=s.toks) (fun b o a e=>O b o a e) r u y A B⟩
 self:=fun _ _ _ _ _ st h=>wpAny_pyIter_striter_wide st h
section
variable{X:Cx}{p pos:Pos}{tg:Expr}
def LR(tl:TE):TI:=fun σ H R=>tl σ H fun v H1=>∃x,v=.str x/\R (MD x) H1
theorem K4(m:PE X l n):PI X tg l (LR n):=by
 intro j s σ H R I h;refine cJ (m j s σ H _ I h) fun v a ⟨y,i,g,r,u⟩=>?_;obtain⟨x,e,q⟩:=u;subst e;obtain⟨t,rfl⟩:=r;have f:∀b∈[a.heap.objs.size],og X j i b:=fun b w=>by
  have e:b=a.heap.objs.size:=by simpa using w
  subst e;exact g.fpOk (aD _) (g.hok.fresh (aD _))
 cases k:x.cps.all (·<128)
 ·refine wpAny_pyIter_wide k ?_;exact⟨a.heap.objs.size,[a.heap.objs.size],_,_,i,rfl,g.kept (t':=a.toks) fun b o e=>a_ _ e,Fs x t _,⟨_,cG _ rfl,rfl,rfl⟩,f,q⟩
 ·refine wpAny_pyIter_ascii k ?_;exact⟨a.heap.objs.size,[a.heap.objs.size],_,_,i,rfl,g.kept (t':=a.toks) fun b o e=>a_ _ e,CA x t _,⟨_,cG _ rfl,rfl,rfl⟩,f,q⟩
end
def Mf(K:Za)(a b:Addr):It :=
  ⟨fun i H=>∃xs ys x y,aw K H a xs/\aw K H b ys/\xs[i]?=some x/\ys[i]?=some y,
   fun i H x H'=>∃p u v,x=.ref p/\H p=none/\(∀xs,aw K H a xs->xs[i]?=some u)/\(∀ys,aw K H b ys->ys[i]?=some v)/\H'=upd H p (.tup [u,v]),
   fun i H=>∃xs ys,aw K H a xs/\aw K H b ys/\(xs.length<=i∨ys.length<=i)⟩
theorem G3{K:Za}{es:List Expr}{kx:Nat}{J7:Pos}(a b z TI TO t A:Addr)(D:h7 z TI TO t A a b):
  tJ P w K (.Tuple es kx J7) (Mf K a b) [z,TI,TO,t,A] z (fun i h=>IsZip h z TI TO .none/\IsPair h TI (.ref t) (.ref A)/\(∃a b,IsPair h TO a b)/\h.IsListIter t a i/\h.IsListIter A b i) where
 mem:=by simp
 obj:=fun i h st c f=>by
  obtain⟨p,j,⟨u,v,l⟩,G,J⟩:=st;simp only[cu,uy,or_false]at f;rcases f with rfl|rfl|rfl|rfl|rfl
  ·exact⟨_,p,fun v z=>by cases z⟩
  ·exact⟨_,j,fun v z=>by cases z⟩
  ·exact⟨_,l,fun v z=>by cases z⟩
  ·obtain⟨o,e,c,d⟩:=G;exact⟨o,e,fun v z=>by rw[d]at z;cases z⟩
  ·obtain⟨o,e,c,d⟩:=J;exact⟨o,e,fun v z=>by rw[d]at z;cases z⟩
 keep:=fun i h N st k=>by
  obtain⟨p,j,⟨u,v,l⟩,G,J⟩:=st;exact⟨k z (by simp) _ p,k TI (by simp) _ j,⟨u,v,k TO (by simp) _ l⟩,G.at fun o e=>k t (by simp) o e,J.at fun o e=>k A (by simp) o e⟩
 item:=by
  intro X hP hw hK f i J3 s σ H E I M st hg;subst hP hw hK;obtain⟨p,j,⟨u0,v0,l⟩,G,J⟩:=st;obtain⟨xs,ys,x,y,B,C,hx,hy⟩:=hg;obtain⟨as,rx,px,zx⟩:=I.list B;obtain⟨aC,ry,py,zy⟩:=I.list C;obtain⟨u,hu,ru⟩:=rx.get hx;obtain⟨v,hv,rv⟩:=ry.get hy;refine wpAny_pyNext_zip_item D p j l G J px.isList py.isList (x:=u) (y:=v) (by simpa using hu) (by simpa using hv) fun N a1 a2 a3 a4 a5 a6 hk=>?_;refine⟨_,rfl,wpAny_letOwnedTupleGo_zip (s:={ s with heap:=N }) a1 fun L a0 a7=>?_⟩;have g:iW z N L:=a7;have O:s.heap.objs.size≠z:=eM (aI p);have Q:s.heap.objs.size≠TO:=eM (aI l);have T:s.heap.objs.size≠TI:=eM (aI j);have U:s.heap.objs.size≠t:=by obtain⟨o,Y,_⟩:=G;exact eM (aI Y)
  have al:s.heap.objs.size≠A:=by obtain⟨o,Y,_⟩:=J;exact eM (aI Y)
  have an:IsPair L s.heap.objs.size u v:=g.extBut _ _ O a5;have I2:Inv X J3 σ (upd H s.heap.objs.size (.tup [x,y])) { s with heap:=L,toks:=s.toks }:=by
   refine I.turnedNew (ch:=[z,TI,TO,t,A]) M (fun c o f q=>?_) ⟨_,an⟩ (fun _ z=>nomatch z) ⟨by show 2<=aj;decide,[u,v],.cons ru (.cons rv .nil),⟨_,an,rfl,_,rfl⟩⟩;have n1:c≠z:=fun q=>f (by simp[q]);exact g.extBut _ _ n1 (hk c o n1 (fun q=>f (by simp[q])) (fun q=>f (by simp[q])) (fun q=>f (by simp[q])) q)
  refine⟨.ref s.heap.objs.size,_,I2,rfl,⟨_,x,y,rfl,I.fresh,fun zs p=>by rw[I.list_inj p B];exact hx,fun zs p=>by rw[I.list_inj p C];exact hy,rfl⟩,⟨a0,g.extBut _ _ D.TIz (hk _ _ D.TIz D.TITO D.TIi1 D.TIi2 j),⟨_,_,g.extBut _ _ D.TOz a2⟩,a3.at fun o e=>g.extBut _ _ D.i1z e,a4.at fun o e=>g.extBut _ _ D.i2z e⟩,fun c f=>?_⟩;have a8:=(M c f).1;simp only[cu,uy,or_false]at f;have ne:c≠s.heap.objs.size:=by
   rcases f with rfl|rfl|rfl|rfl|rfl
   ·exact O.symm
   ·exact T.symm
   ·exact Q.symm
   ·exact U.symm
   ·exact al.symm
  rw[ai ne];exact a8
 done:=by
  intro X hP hw hK f i J3 s σ H E I M st hg;subst hP hw hK;obtain⟨p,j,⟨u0,v0,l⟩,G,J⟩:=st;obtain⟨xs,ys,B,C,ap⟩:=hg;obtain⟨as,rx,px,zx⟩:=I.list B;obtain⟨aC,ry,py,zy⟩:=I.list C;have lx:=rx.length;have ly:=ry.length;refine wpAny_pyNext_zip_end (I.ok.hd f) D p j l G J px.isList py.isList (by rcases ap with q|q;exact .inl (by simp;omega);exact .inr (by simp;omega)) fun N hk=>⟨rfl,?_⟩;have tr:∀c q,H c=some q->c∉[z,TI,TO,t,A]:=fun c q e m=>by rw[(M c m).1]at e;cases e
  have kk:∀c o,c∉[z,TI,TO,t,A]->s.heap.get? c=some o->N.get? c=some o:=fun c o f q=>hk c o (fun q=>f (by simp[q])) (fun q=>f (by simp[q])) (fun q=>f (by simp[q])) (fun q=>f (by simp[q])) q;refine I.step (g':=s.gens) (d':=s.drawn) (t':=s.toks) (ch:=[z,TI,TO,t,A]) (fun c f=>?_) (fun c o _ _ f e _=>kk c o f e) (fun c o _ _ f e _=>⟨o.slots,kk c o f e⟩) (fun _ _ _ _ n=>n) (fun c o f e=>⟨o,kk c o f e⟩) (fun _ _ e=>e) (fun _ _ _ e=>e) (fun c ps e=>⟨#[],by rw[e];simp⟩) (fun m hm=>?_) (fun c q e=>?_) I.bare
  ·obtain⟨f0,f1,f2,f3,f4,f5⟩:=M c f;exact⟨f3,f1,f4,f5⟩
  ·obtain⟨q,a9,ep,Y,r⟩:=hm;exact⟨q,a9,ep,kk _ q (fun z=>(M _ z).2.1 rfl) Y,r⟩
  ·refine(I.hok c q e).stay (fun d v hd q'=>kk d v ?_ q') (fun _ q=>q) fun _ _ q=>q;rcases hd with z|z
   ·subst z;exact tr _ _ e
   ·exact tr _ _ z
 self:=fun _ _ _ _ _ st h=>ux st.1 h
section
variable{prog:cn}{w:World}{A:Around}{E:Zc}{s:Shared}
theorem lL{it t:Addr}{i:Nat}{items:Array Value}{x:Value}{Q:Zc}(st:s.heap.IsTupleIter it t i)(g:s.heap.IsTuple t items)(h:items[i]?=some x)
  (k:∀f,f.IsTupleIter it t (i+1)->iW it s.heap f->Q x { s with heap:=f }):wpAny (model prog w) A (iQ (.ref it)) Q E s:=by
 obtain⟨m,e,j,a⟩:=id st;obtain⟨n,l,_,o,dt⟩:=g;unfold iQ;refine ak (mJ (name:=gL "__next__") st.typeIs yF
  (ug yF st.typeIs F.entry_tuple_iterator_next ?_ (F.args_tuple_iterator_next_1 _)))
 show wpAny _ _ (field (.ref it) 0 >>= _) _ _ s;refine ak (eJ e a (x:=.ref t) rfl ?_);show wpAny _ _ (if(Value.ref t==Value.none)=true then _ else _) _ _ s
 rw[if_neg (show ¬((Value.ref t==Value.none)=true)from iB)];show wpAny _ _ (field (.ref it) 1 >>= _) _ _ s;refine ak (eJ e a (x:=.int i 0) rfl ?_);show wpAny _ _ (uw (.ref t) >>= _) _ _ s;refine ak (iY l dt ?_);simp only[lf,h];refine ak (yE e a (by simp) (aP ⟨x,rfl,aP (k _ ?_ (oJ ..))⟩));exact⟨_,jo _ e (Obj.isFreed_of_fields (yD a _)),(Obj.cls_mapFields ..).trans j,by
  rw[yD a];simp[rawInt]⟩
theorem sL{it t:Addr}{i:Nat}{items:Array Value}(j:A.handled=none)(st:s.heap.IsTupleIter it t i)(l:s.heap.IsTuple t items)(n:items[i]?=none)
  (k:∀f e,Heap.ExtBut it s.heap f->(∃o,f.get? e=some o/\o.cls=.type "StopIteration")->E (.ref e) { s with heap:=f }):wpAny (model prog w) A (iQ (.ref it)) Q E s:=by
 obtain⟨q,g,r,h⟩:=id st;obtain⟨u,p,_,v,dt⟩:=l;unfold iQ;refine ak (mJ (name:=gL "__next__") st.typeIs yF
  (ug yF st.typeIs F.entry_tuple_iterator_next ?_ (F.args_tuple_iterator_next_1 _)))
 show wpAny _ _ (field (.ref it) 0 >>= _) _ _ s;refine ak (eJ g h (x:=.ref t) rfl ?_);show wpAny _ _ (if(Value.ref t==Value.none)=true then _ else _) _ _ s
 rw[if_neg (show ¬((Value.ref t==Value.none)=true)from iB)];show wpAny _ _ (field (.ref it) 1 >>= _) _ _ s;refine ak (eJ g h (x:=.int i 0) rfl ?_);show wpAny _ _ (uw (.ref t) >>= _) _ _ s;refine ak (iY p dt ?_);simp only[lf,n];refine ak (oj (ak (yE g h (by simp) ?_)));show wpAny _ _ (newExc (.type "StopIteration") [] >>= _) _ _ _;refine ak ?_;simp only[newExc,newTuple];refine ak (lc ?_ (by size_fits));refine ak (m:=yC _ _) (yB (a:=Value.none) (by first|rfl|(simp only[yC];rfl)) ?_)
 refine lc ?_ (by size_fits);simp only[raiseNew];refine ak (wpAny_handled ?_)
 first|rw[show A.in1.handled=none from j] | rw[j]
 refine ak (aP (wpAny_throw ?_));exact k _ _ (((oJ ..).extBut.push _).push _) ⟨_,cG _ rfl,rfl⟩
theorem Fp{TI TO:Addr}{k1 k2:Nat}{xs ys:Array Value}{x y:Value}{Q:Zc}(D:h7 z TI TO M N l1 l2)
  (gz:IsZip s.heap z TI TO .none) (gI:IsPair s.heap TI (.ref M) (.ref N)) (gO:IsPair s.heap TO a b)
  (g1:s.heap.IsTupleIter M l1 k1) (g2:s.heap.IsTupleIter N l2 k2) (t1:s.heap.IsTuple l1 xs) (t2:s.heap.IsTuple l2 ys) (hx:xs[k1]?=some x) (hy:ys[k2]?=some y)
  (k:∀L,IsZip L z TI TO (rawInt s.heap.objs.size)->IsPair L TO x y->L.IsTupleIter M l1 (k1+1)->L.IsTupleIter N l2 (k2+1)->IsPair L s.heap.objs.size x y->L.objs.size=s.heap.objs.size+1 ->
   (∀c o,c≠z->c≠TO->c≠M->c≠N->s.heap.get? c=some o->L.get? c=some o)->Q (.ref s.heap.objs.size) { s with heap:=L }) :
  wpAny (model prog w) A (bQ.«zip.__next__» ⟨[.ref z],[]⟩) (fun a4 s'=>∃v,a4=.done (.ret v)/\Q v s') E s:=by
 show wpAny _ _ (field (.ref z) 2 >>= _) _ _ _;refine ak (eJ gz rfl (x:=.bool false) rfl ?_);show wpAny _ _ (field (.ref z) 3 >>= _) _ _ _;refine ak (eJ gz rfl (x:=.ref TI) rfl ?_);refine ak (iY gI rfl ?_);show wpAny _ _ (mI (.ref z) >>= _) _ _ _;refine ak ?_;unfold mI;refine ak (eJ gz rfl (x:=.none) rfl (aP ?_));simp only[if_true];refine ak (oj ?_);refine ak (eJ gz rfl (x:=.ref TO) rfl ?_);refine ak (oI gz (by simp) fun m₁ q g=>?_)
 replace q:IsZip m₁ z TI TO .ellipsis:=q
 refine ak ?_;simp only[List.zipIdx_cons,List.zipIdx_nil,oK,yz];refine ak (ak (yy ?_));show wpAny _ _ (iQ (.ref M) >>= _) _ _ _;refine ak (lL (g1.extBut g.extBut D.i1z) (t1.extBut g.extBut D.l1z) hx fun m₂ O h=>aP ?_);have B:IsPair m₂ TO a b:=h.extBut _ _ D.TOi1 (g.extBut _ _ D.TOz gO);refine ak (iY B rfl ?_);refine ak (wpAny_updateSeq_pair B fun m₃ t i=>?_)
 replace t:IsPair m₃ TO x b:=t
 refine ak (mH (aP ?_));refine ak (ak (yy ?_));show wpAny _ _ (iQ (.ref N) >>= _) _ _ _;refine ak (lL (((g2.extBut g.extBut D.i2z).extBut h.extBut D.i12.symm).extBut i.extBut D.TOi2.symm)
  (((t2.extBut g.extBut D.l2z).extBut h.extBut D.l2i1).extBut i.extBut D.l2TO) hy fun m₄ T m=>aP ?_)
 have C:IsPair m₄ TO x b:=m.extBut _ _ D.TOi2 t;refine ak (iY C rfl ?_);refine ak (wpAny_updateSeq_pair C fun f j n=>?_)
 replace j:IsPair f TO x y:=j
 refine ak (mH (aP (aP ?_)));refine ak (iY j rfl ?_);refine ak (wpAny_newTuple ?_);have as:f.objs.size=s.heap.objs.size:=by rw[n.1,m.1,i.1,h.1,g.1]
 have G:IsZip f z TI TO .ellipsis:=n.extBut _ _ D.TOz.symm (m.extBut _ _ D.i2z.symm (i.extBut _ _ D.TOz.symm (h.extBut _ _ D.i1z.symm q)));have U:∀c o,c≠z->c≠TO->c≠M->c≠N->s.heap.get? c=some o->f.get? c=some o:=fun c o Y c2 c3 c4 e =>
  n.extBut _ _ c2 (m.extBut _ _ c4 (i.extBut _ _ c2 (h.extBut _ _ c3 (g.extBut _ _ Y e))))
 have al:f.IsTupleIter M l1 (k1+1):=((O.extBut i.extBut D.TOi1.symm).extBut m.extBut D.i12).extBut n.extBut D.TOi1.symm;have an:f.IsTupleIter N l2 (k2+1):=T.extBut n.extBut D.TOi2.symm;have aC:z<f.objs.size:=aI G;show wpAny _ _ (bQ.SmallTypes.ownedTupleHandOut (.ref z) (.ref f.objs.size) >>= _) _ _ _;refine ak ?_;unfold bQ.SmallTypes.ownedTupleHandOut;have ap:IsZip (f.push { cls:=.type "tuple",data:=.seq #[x,y] }) z TI TO .ellipsis:=a_ _ G;refine ak (oI ap (by simp) fun m₇ u H=>?_)
 replace u:IsZip m₇ z TI TO (rawInt f.objs.size):=u
 refine oI u (by simp) fun p l I=>?_
 replace l:IsZip p z TI TO (rawInt f.objs.size):=l
 have up:∀c o,c≠z->f.get? c=some o->p.get? c=some o:=fun c o Y e=>I.extBut _ _ Y (H.extBut _ _ Y (a_ _ e));have J:IsPair p f.objs.size x y:=I.extBut _ _ (eM aC) (H.extBut _ _ (eM aC) (cG _ rfl));have a0:p.objs.size=f.objs.size+1:=by rw[I.1,H.1,mi]
 rw[as]at l J a0;refine aP ⟨_,rfl,?_⟩;show Q (.ref f.objs.size) _;rw[as];refine k p l (up _ _ D.TOz j) ?_ ?_ J a0 fun c o Y c2 c3 c4 e=>up c o Y (U c o Y c2 c3 c4 e)
 ·obtain⟨o,e,r⟩:=al;exact⟨o,up _ o D.i1z e,r⟩
 ·obtain⟨o,e,r⟩:=an;exact⟨o,up _ o D.i2z e,r⟩
theorem GX{TI TO:Addr}{J L:Nat}{M N:Array Value}(hh:A.handled=none)(D:h7 z TI TO H I l1 l2)
  (v:IsZip s.heap z TI TO .none) (gI:IsPair s.heap TI (.ref H) (.ref I)) (gO:IsPair s.heap TO a b)
  (g1:s.heap.IsTupleIter H l1 J) (g2:s.heap.IsTupleIter I l2 L) (t1:s.heap.IsTuple l1 M) (t2:s.heap.IsTuple l2 N) (O:M[J]?=none∨N[L]?=none)
  (k:∀T e,(∀c o,c≠z->c≠TO->c≠H->c≠I->s.heap.get? c=some o->T.get? c=some o)->(∃o,T.get? e=some o/\o.cls=.type "StopIteration")->E (.ref e) { s with heap:=T }) :
  wpAny (model prog w) A (bQ.«zip.__next__» ⟨[.ref z],[]⟩) Q E s:=by
 show wpAny _ _ (field (.ref z) 2 >>= _) _ _ _;refine ak (eJ v rfl (x:=.bool false) rfl ?_);show wpAny _ _ (field (.ref z) 3 >>= _) _ _ _;refine ak (eJ v rfl (x:=.ref TI) rfl ?_);refine ak (iY gI rfl ?_);show wpAny _ _ (mI (.ref z) >>= _) _ _ _;refine ak ?_;unfold mI;refine ak (eJ v rfl (x:=.none) rfl (aP ?_));simp only[if_true];refine ak (oj ?_);refine ak (eJ v rfl (x:=.ref TO) rfl ?_);refine ak (oI v (by simp) fun m₁ i f=>?_)
 replace i:IsZip m₁ z TI TO .ellipsis:=i
 refine ak ?_;simp only[List.zipIdx_cons,List.zipIdx_nil,oK,yz];refine ak (ak (yy ?_));show wpAny _ _ (iQ (.ref H) >>= _) _ _ _;cases U:M[J]? with
 |none =>
  refine ak (sL hh (g1.extBut f.extBut D.i1z) (t1.extBut f.extBut D.l1z) U fun m₂ e g Y=>?_);obtain⟨oe,t,y⟩:=Y;have j:IsZip m₂ z TI TO .ellipsis:=g _ _ D.i1z.symm i;have u:e≠z:=fun q=>by subst q;rw[j]at t;cases t;simp at y
  refine oI j (by simp) fun n _ h=>k n e (fun c o B _ c3 _ q=>h.extBut _ _ B (g _ _ c3 (f.extBut _ _ B q))) ⟨oe,h.extBut _ _ u t,y⟩
 |some x =>
  have hy:N[L]?=none:=by rcases O with q|q;rw[U]at q;cases q;exact q
  refine ak (lL (g1.extBut f.extBut D.i1z) (t1.extBut f.extBut D.l1z) U fun m₂ al g=>aP ?_);have l:IsPair m₂ TO a b:=g.extBut _ _ D.TOi1 (f.extBut _ _ D.TOz gO);refine ak (iY l rfl ?_);refine ak (wpAny_updateSeq_pair l fun n an h=>?_);refine ak (mH (aP ?_));refine ak (ak (yy ?_));show wpAny _ _ (iQ (.ref I) >>= _) _ _ _;refine ak (sL hh (((g2.extBut f.extBut D.i2z).extBut g.extBut D.i12.symm).extBut h.extBut D.TOi2.symm)
   (((t2.extBut f.extBut D.l2z).extBut g.extBut D.l2i1).extBut h.extBut D.l2TO) hy fun C e p Y=>?_)
  obtain⟨oe,t,y⟩:=Y;have m:IsZip C z TI TO .ellipsis:=p _ _ D.i2z.symm (h.extBut _ _ D.TOz.symm (g.extBut _ _ D.i1z.symm i));have u:e≠z:=fun q=>by subst q;rw[m]at t;cases t;simp at y
  refine oI m (by simp) fun G _ r=>k G e (fun c o B c2 c3 c4 q=>r.extBut _ _ B (p _ _ c4 (h.extBut _ _ c2 (g.extBut _ _ c3 (f.extBut _ _ B q))))) ⟨oe,r.extBut _ _ u t,y⟩
theorem wL{TI TO:Addr}{h i:Nat}{xs ys:Array Value}{x y:Value}{Q:Option Value->Shared->Prop}(D:h7 z TI TO f g j l)
  (m:IsZip s.heap z TI TO .none) (p:IsPair s.heap TI (.ref f) (.ref g)) (q:IsPair s.heap TO a b)
  (r:s.heap.IsTupleIter f j h) (t:s.heap.IsTupleIter g l i) (u:s.heap.IsTuple j xs) (v:s.heap.IsTuple l ys) (B:xs[h]?=some x) (C:ys[i]?=some y)
  (k:∀e,IsZip e z TI TO (rawInt s.heap.objs.size)->IsPair e TO x y->e.IsTupleIter f j (h+1)->e.IsTupleIter g l (i+1)->IsPair e s.heap.objs.size x y->e.objs.size=s.heap.objs.size+1 ->
   (∀c o,c≠z->c≠TO->c≠f->c≠g->s.heap.get? c=some o->e.get? c=some o)->Q (some (.ref s.heap.objs.size)) { s with heap:=e }) :
  wpAny (model prog w) A (pyNext (.ref z)) Q E s:=by
 have n:s.TypeIs (.ref z) "zip":=⟨_,m,rfl⟩;unfold pyNext;exact ak (qY (mJ (name:=gL "__next__") n mG
  (ug mG n yv
   (Fp D m p q r t u v B C fun e a1 a2 a3 G H I J=>aP (k e a1 a2 a3 G H I J)) (yu _))))
theorem zX{TI TO:Addr}{j l:Nat}{xs ys:Array Value}{Q:Option Value->Shared->Prop}(r:A.handled=none)(D:h7 z TI TO f g m n)
  (p:IsZip s.heap z TI TO .none) (t:IsPair s.heap TI (.ref f) (.ref g)) (u:IsPair s.heap TO a b)
  (v:s.heap.IsTupleIter f m j) (x:s.heap.IsTupleIter g n l) (y:s.heap.IsTuple m xs) (B:s.heap.IsTuple n ys) (h:xs[j]?=none∨ys[l]?=none)
  (k:∀i,(∀c o,c≠z->c≠TO->c≠f->c≠g->s.heap.get? c=some o->i.get? c=some o)->Q none { s with heap:=i }):wpAny (model prog w) A (pyNext (.ref z)) Q E s:=by
 have q:s.TypeIs (.ref z) "zip":=⟨_,p,rfl⟩;unfold pyNext;refine ak (qY (mJ (name:=gL "__next__") q mG
  (ug mG q yv (GX r D p t u v x y B h fun i e kp C=>?_) (yu _))))
 obtain⟨o,G,H⟩:=C;refine ak (AL (T:="StopIteration") (b:=true) ⟨o,G,H⟩ isSubtype_stop ?_);exact aP (k _ kp)
end
abbrev Mq(h:Heap)(l1:Addr):Heap:=h.push { cls:=.type "tuple_iterator",data:=.fields #[.ref l1,.int 0 0] }
abbrev Mp(h:Heap)(l1 l2:Addr):Heap:=(Mq h l1).push { cls:=.type "tuple_iterator",data:=.fields #[.ref l2,.int 0 0] }
abbrev Mo(h:Heap)(l1 l2:Addr):Heap:=(Mp h l1 l2).push { cls:=.type "tuple",data:=.seq #[.ref h.objs.size,.ref (Mq h l1).objs.size] }
abbrev Mn(h:Heap)(l1 l2:Addr):Heap:=(Mo h l1 l2).push { cls:=.type "tuple",data:=.seq #[.none,.none] }
abbrev Lo(h:Heap)(l1 l2:Addr):Heap:=(Mn h l1 l2).push { cls:=.type "zip",data:=.fields #[.none,.bool false,.bool false,.ref (Mp h l1 l2).objs.size,.ref (Mo h l1 l2).objs.size] }
theorem Dr(l1 l2:Addr)(a e:Array Value):
  Meets (bQ.«zip.__new__» ⟨[.type "zip",.ref l1,.ref l2],[]⟩) (fun _ R s=>s.heap.IsTuple l1 a/\s.heap.IsTuple l2 e /\
   R (.ok (.ret (.ref (Mn s.heap l1 l2).objs.size))) { s with heap:=Lo s.heap l1 l2 }) :=
 .of_wp fun f w A R s h=>by
  obtain⟨i,g,d,tk,os⟩:=s;obtain⟨k,l,h⟩:=h;have j:=sub_zip;have m:Heap.IsTuple (uv ⟨i,g,d,tk,os⟩) l1 a:=k;have n:Heap.IsTuple (uv ⟨i.push { cls:=.type "tuple_iterator",data:=.fields #[.ref l1,.int 0 0] },g,d,tk,os⟩) l2 e:=Heap.IsTuple.push l _
  wp_walk using Ej m,Ej n
  exact⟨_,rfl,h⟩
section
variable{prog:cn}{w:World}{A:Around}{E:Zc}{s:Shared}
theorem Gy{a e:Addr}{xs ys:Array Value}{Q:Zc}(r:s.heap.IsTuple a xs)(t:s.heap.IsTuple e ys)
  (k:∀f,IsZip f (s.heap.objs.size+4) (s.heap.objs.size+2) (s.heap.objs.size+3) .none->IsPair f (s.heap.objs.size+2) (.ref s.heap.objs.size) (.ref (s.heap.objs.size+1)) ->
   IsPair f (s.heap.objs.size+3) .none .none->f.IsTupleIter s.heap.objs.size a 0->f.IsTupleIter (s.heap.objs.size+1) e 0->(∀c o,s.heap.get? c=some o->f.get? c=some o)->Q (.ref (s.heap.objs.size+4)) { s with heap:=f }) :
  wpAny (model prog w) A (call (.type "zip") [.ref a,.ref e]) Q E s:=by
 refine callType_new F.called_zip (by decide) (F.typeCall_zip_2 _ _) (F.newCall_zip_2 _ _) (fun g=>F.args_object_init_3 g _ _) F.entry_zip_new
  (Dr a e xs ys) ⟨r,t,?_⟩
 have h:(Mq s.heap a).objs.size=s.heap.objs.size+1:=mi ..;have i:(Mp s.heap a e).objs.size=s.heap.objs.size+2:=by rw[mi,h]
 have j:(Mo s.heap a e).objs.size=s.heap.objs.size+3:=by rw[mi,i]
 have m:(Mn s.heap a e).objs.size=s.heap.objs.size+4:=by rw[mi,j]
 have l:(Lo s.heap a e).get? (Mn s.heap a e).objs.size=some _:=cG _ rfl;have n:(Lo s.heap a e).get? (Mo s.heap a e).objs.size=some _:=a_ _ (cG _ rfl);have p:(Lo s.heap a e).get? (Mp s.heap a e).objs.size=some _:=a_ _ (a_ _ (cG _ rfl));have q:(Lo s.heap a e).get? (Mq s.heap a).objs.size=some _:=a_ _ (a_ _ (a_ _ (cG _ rfl)));have u:(Lo s.heap a e).get? s.heap.objs.size=some _:=a_ _ (a_ _ (a_ _ (a_ _ (cG _ rfl))));show _/\_;rw[i,j,m]at l;rw[h,i]at p;rw[j]at n;rw[h]at q;rw[m];exact⟨⟨_,l,rfl⟩,k _ l p n ⟨_,u,rfl,rfl⟩ ⟨_,q,rfl,rfl⟩ fun c o x =>
  a_ _ (a_ _ (a_ _ (a_ _ (a_ _ x))))⟩
end
def Me(K:Za)(a b:Addr):It :=
  ⟨fun i H=>∃xs ys x y,bP K H a xs/\bP K H b ys/\xs[i]?=some x/\ys[i]?=some y,
   fun i H x H'=>∃p u v,x=.ref p/\H p=none/\(∀xs,bP K H a xs->xs[i]?=some u)/\(∀ys,bP K H b ys->ys[i]?=some v)/\H'=upd H p (.tup [u,v]),
   fun i H=>∃xs ys,bP K H a xs/\bP K H b ys/\(xs.length<=i∨ys.length<=i)⟩
theorem Fq{K:Za}{es:List Expr}{kx:Nat}{J7:Pos}(a b z TI TO t A:Addr)(D:h7 z TI TO t A a b):
  tJ P w K (.Tuple es kx J7) (Me K a b) [z,TI,TO,t,A] z (fun i h=>IsZip h z TI TO .none/\IsPair h TI (.ref t) (.ref A)/\(∃a b,IsPair h TO a b)/\h.IsTupleIter t a i/\h.IsTupleIter A b i) where
 mem:=by simp
 obj:=fun i h st c f=>by
  obtain⟨p,j,⟨u,v,l⟩,M,N⟩:=st;simp only[cu,uy,or_false]at f;rcases f with rfl|rfl|rfl|rfl|rfl
  ·exact⟨_,p,fun v z=>by cases z⟩
  ·exact⟨_,j,fun v z=>by cases z⟩
  ·exact⟨_,l,fun v z=>by cases z⟩
  ·obtain⟨o,e,c,d⟩:=M;exact⟨o,e,fun v z=>by rw[d]at z;cases z⟩
  ·obtain⟨o,e,c,d⟩:=N;exact⟨o,e,fun v z=>by rw[d]at z;cases z⟩
 keep:=fun i h Q st k=>by
  obtain⟨p,j,⟨u,v,l⟩,⟨o1,e1,r1⟩,⟨o2,e2,r2⟩⟩:=st;exact⟨k z (by simp) _ p,k TI (by simp) _ j,⟨u,v,k TO (by simp) _ l⟩,⟨o1,k t (by simp) o1 e1,r1⟩,⟨o2,k A (by simp) o2 e2,r2⟩⟩
 item:=by
  intro X hP hw hK f i J3 s σ H E I O st hg;subst hP hw hK;obtain⟨p,j,⟨u0,v0,l⟩,M,N⟩:=st;obtain⟨xs,ys,x,y,C,G,hx,hy⟩:=hg;obtain⟨J,rx,px,zx⟩:=I.tuple C;obtain⟨L,ry,py,zy⟩:=I.tuple G;obtain⟨u,hu,ru⟩:=rx.get hx;obtain⟨v,hv,rv⟩:=ry.get hy;refine wL D p j l M N (xs:=J.toArray) (ys:=L.toArray) px py (x:=u) (y:=v) (by simpa using hu) (by simpa using hv) fun Q a1 a2 a3 a4 a5 a6 hk=>?_;refine⟨_,rfl,wpAny_letOwnedTupleGo_zip (s:={ s with heap:=Q }) a1 fun B aC a0=>?_⟩;have g:iW z Q B:=a0;have T:s.heap.objs.size≠z:=eM (aI p);have U:s.heap.objs.size≠TO:=eM (aI l);have Y:s.heap.objs.size≠TI:=eM (aI j);have al:s.heap.objs.size≠t:=by obtain⟨o,ho,_⟩:=M;exact eM (aI ho)
  have an:s.heap.objs.size≠A:=by obtain⟨o,ho,_⟩:=N;exact eM (aI ho)
  have ap:IsPair B s.heap.objs.size u v:=g.extBut _ _ T a5;have I2:Inv X J3 σ (upd H s.heap.objs.size (.tup [x,y])) { s with heap:=B,toks:=s.toks }:=by
   refine I.turnedNew (ch:=[z,TI,TO,t,A]) O (fun c o f q=>?_) ⟨_,ap⟩ (fun _ z=>nomatch z) ⟨by show 2<=aj;decide,[u,v],.cons ru (.cons rv .nil),⟨_,ap,rfl,_,rfl⟩⟩;have n1:c≠z:=fun q=>f (by simp[q]);exact g.extBut _ _ n1 (hk c o n1 (fun q=>f (by simp[q])) (fun q=>f (by simp[q])) (fun q=>f (by simp[q])) q)
  have a7:B.IsTupleIter t a (i+1):=by obtain⟨o,e,r⟩:=a3;exact⟨o,g.extBut _ _ D.i1z e,r⟩
  have a8:B.IsTupleIter A b (i+1):=by obtain⟨o,e,r⟩:=a4;exact⟨o,g.extBut _ _ D.i2z e,r⟩
  refine⟨.ref s.heap.objs.size,_,I2,rfl,⟨_,x,y,rfl,I.fresh,fun zs p=>by rw[I.tuple_inj p C];exact hx,fun zs p=>by rw[I.tuple_inj p G];exact hy,rfl⟩,⟨aC,g.extBut _ _ D.TIz (hk _ _ D.TIz D.TITO D.TIi1 D.TIi2 j),⟨_,_,g.extBut _ _ D.TOz a2⟩,a7,a8⟩,fun c f=>?_⟩;have a9:=(O c f).1;simp only[cu,uy,or_false]at f;have ne:c≠s.heap.objs.size:=by
   rcases f with rfl|rfl|rfl|rfl|rfl
   ·exact T.symm
   ·exact Y.symm
   ·exact U.symm
   ·exact al.symm
   ·exact an.symm
  rw[ai ne];exact a9
 done:=by
  intro X hP hw hK f i J3 s σ H E I O st hg;subst hP hw hK;obtain⟨p,j,⟨u0,v0,l⟩,M,N⟩:=st;obtain⟨xs,ys,C,G,as⟩:=hg;obtain⟨J,rx,px,zx⟩:=I.tuple C;obtain⟨L,ry,py,zy⟩:=I.tuple G;have lx:=rx.length;have ly:=ry.length;refine zX (I.ok.hd f) D p j l M N (xs:=J.toArray) (ys:=L.toArray) px py (by rcases as with q|q;exact .inl (by simp;omega);exact .inr (by simp;omega)) fun Q hk=>⟨rfl,?_⟩;have tr:∀c q,H c=some q->c∉[z,TI,TO,t,A]:=fun c q e m=>by rw[(O c m).1]at e;cases e
  have kk:∀c o,c∉[z,TI,TO,t,A]->s.heap.get? c=some o->Q.get? c=some o:=fun c o f q=>hk c o (fun q=>f (by simp[q])) (fun q=>f (by simp[q])) (fun q=>f (by simp[q])) (fun q=>f (by simp[q])) q;refine I.step (g':=s.gens) (d':=s.drawn) (t':=s.toks) (ch:=[z,TI,TO,t,A]) (fun c f=>?_) (fun c o _ _ f e _=>kk c o f e) (fun c o _ _ f e _=>⟨o.slots,kk c o f e⟩) (fun _ _ _ _ n=>n) (fun c o f e=>⟨o,kk c o f e⟩) (fun _ _ e=>e) (fun _ _ _ e=>e) (fun c ps e=>⟨#[],by rw[e];simp⟩) (fun m hm=>?_) (fun c q e=>?_) I.bare
  ·obtain⟨f0,f1,f2,f3,f4,f5⟩:=O c f;exact⟨f3,f1,f4,f5⟩
  ·obtain⟨q,bc,ep,ho,r⟩:=hm;exact⟨q,bc,ep,kk _ q (fun z=>(O _ z).2.1 rfl) ho,r⟩
  ·refine(I.hok c q e).stay (fun d v hd q'=>kk d v ?_ q') (fun _ q=>q) fun _ _ q=>q;rcases hd with z|z
   ·subst z;exact tr _ _ e
   ·exact tr _ _ z
 self:=fun _ _ _ _ _ st h=>ux st.1 h
section
variable{X:Cx}{p pos:Pos}{es:List Expr}{kx:Nat}{J7:Pos}
def Io(K:Za)(ta:TA):TI:=fun σ H R=>ta σ H fun vs H1=>∃a b,vs=[.ref a,.ref b]/\(((∃xs,aw K H1 a xs)/\(∃ys,aw K H1 b ys)/\R (Mf K a b) H1)∨((∃xs,bP K H1 a xs)/\(∃ys,bP K H1 b ys)/\R (Me K a b) H1))
theorem EE{a b:Expr}(N:Gl X "zip")(O:X.mg "zip"=none)(Q:PA X [a,b] T)(U:aM [a,b] X.env=[(false,eval a X.env),(false,eval b X.env)]:=by rfl)(j:aM [b] X.env=[(false,eval b X.env)]:=by rfl):
  PI X (.Tuple es kx J7) (.Call (.Name "zip" p) [a,b] [] pos) (Io X.K T):=by
 intro x s σ H R I h;refine Call_ (iT I N O boot_zip (pI (cJ (Q pos x s σ H _ I h) fun us s1 ⟨vs,k,f,Y,q1⟩=>?_) (by rw[U,j]) (by rw[j];rfl)));obtain⟨J,L,e,q⟩:=q1;subst e;obtain⟨u,v,rfl,ru,rv⟩:=vals2 Y;cases ru;cases rv;have l:∀b∈[s1.heap.objs.size+4,s1.heap.objs.size+2,s1.heap.objs.size+3,s1.heap.objs.size,s1.heap.objs.size+1],og X x k b:=fun b M=>by
  have m:s1.heap.objs.size<=b:=by
   simp only[cu,uy,or_false]at M;rcases M with rfl|rfl|rfl|rfl|rfl<;>omega
  exact f.fpOk m (f.hok.fresh m)
 rcases q with⟨⟨xs,y⟩,⟨ys,z⟩,q⟩|⟨⟨xs,y⟩,⟨ys,z⟩,q⟩
 ·obtain⟨n,rx,r,zx⟩:=f.list y;obtain⟨t,ry,w,zy⟩:=f.list z;obtain⟨o1,n1,A,_⟩:=id r;obtain⟨o2,n2,B,_⟩:=id w;refine call_zip_2 r.isList w.isList fun g a1 a2 a3 C D a6 E=>?_;refine ux (s:={ s1 with heap:=g }) a1 ?_;have i:∀b o,s1.heap.get? b=some o->g.get? b=some o:=E;have G:Inv X x σ k { s1 with heap:=g }:=f.kept (t':=s1.toks) i;exact⟨_,_,_,_,k,rfl,G,G3 J L _ _ _ _ _ (yt (aI A) (aI B)),⟨a1,a2,⟨_,_,a3⟩,C,D⟩,l,q⟩
 ·obtain⟨n,rx,r,zx⟩:=f.tuple y;obtain⟨t,ry,w,zy⟩:=f.tuple z;obtain⟨o1,A,_⟩:=id r;obtain⟨o2,B,_⟩:=id w;refine Gy (xs:=n.toArray) (ys:=t.toArray) r w fun g a1 a2 a3 C D E=>?_;refine ux (s:={ s1 with heap:=g }) a1 ?_;have i:∀b o,s1.heap.get? b=some o->g.get? b=some o:=E;have G:Inv X x σ k { s1 with heap:=g }:=f.kept (t':=s1.toks) i;exact⟨_,_,_,_,k,rfl,G,Fq J L _ _ _ _ _ (yt (aI A) (aI B)),⟨a1,a2,⟨_,_,a3⟩,C,D⟩,l,q⟩
end
inductive DT where
 |k (a:fR)
 |t (l:List DT)
 |s (l:List DT)
mutual
def KJ:(x y:DT)->Decidable (x=y)
 |.k a,.k b=>if h:a=b then Decidable.isTrue (by rw[h])else Decidable.isFalse fun e=>h (by injection e)
 |.t l,.t m=>match decDTs l m with
  |Decidable.isTrue h=>Decidable.isTrue (by rw[h])
  |Decidable.isFalse h=>Decidable.isFalse fun e=>h (by injection e)
 |.s l,.s m=>match decDTs l m with
  |Decidable.isTrue h=>Decidable.isTrue (by rw[h])
  |Decidable.isFalse h=>Decidable.isFalse fun e=>h (by injection e)
 |.k _,.t _=>Decidable.isFalse nofun
 |.k _,.s _=>Decidable.isFalse nofun
 |.t _,.k _=>Decidable.isFalse nofun
 |.t _,.s _=>Decidable.isFalse nofun
 |.s _,.k _=>Decidable.isFalse nofun
 |.s _,.t _=>Decidable.isFalse nofun
def decDTs:(x y:List DT)->Decidable (x=y)
 |[],[]=>Decidable.isTrue rfl
 |[],_::_=>Decidable.isFalse nofun
 |_::_,[]=>Decidable.isFalse nofun
 |a::l,b::m=>match KJ a b with
  |Decidable.isTrue h=>match decDTs l m with
   |Decidable.isTrue h'=>Decidable.isTrue (by rw[h,h'])
   |Decidable.isFalse h'=>Decidable.isFalse fun e=>h' (by injection e)
  |Decidable.isFalse h=>Decidable.isFalse fun e=>h (by injection e)
end
instance:DecidableEq DT:=KJ
mutual
def DT.depth:DT->Nat
 |.k _=>0
 |.t l=>DT.depths l+1
 |.s l=>DT.depths l+1
def DT.depths:List DT->Nat
 |[]=>0
 |a::r=>max (DT.depth a) (DT.depths r)
end
mutual
def uc(h:Heap):DT->Value->Prop
 |.k a,v=>dA a v=true
 |.t l,v=>∃a items,v=.ref a/\h.IsTuple a items/\DAts h l items.toList
 |.s l,v=>∃a items,v=.ref a/\h.IsList a items/\DAts h l items.toList
def DAts(h:Heap):List DT->List Value->Prop
 |[],vs=>vs=[]
 |k::r,vs=>∃v us,vs=v::us/\uc h k v/\DAts h r us
end
theorem DAts.length:∀{f:List DT}{a:Zf},DAts h f a->f.length=a.length
 |[],a,e=>by have g:a=[]:=e;rw[g];rfl
 |x::f,a,e=>by
  obtain⟨v,j,rfl,_,i⟩:=e;simp[DAts.length i]
theorem DAts.get:∀{f:List DT}{a:Zf}{i:Nat}{v:Value},DAts h f a->a[i]?=some v->∃x,f[i]?=some x/\uc h x v
 |[],a,i,v,e,q=>by have g:a=[]:=e;subst g;simp at q
 |x::f,a,i,v,e,q=>by
  obtain⟨u,n,rfl,j,k⟩:=e;cases i with
  |zero =>
   simp at q;subst q;exact⟨x,rfl,j⟩
  |succ i =>
   obtain⟨y,l,m⟩:=DAts.get k (i:=i) (v:=v) (by simpa using q);exact⟨y,by simpa using l,m⟩
theorem DT.depths_get{l:List DT}{x:DT}{i d:Nat}(h:DT.depths l<=d)(e:l[i]?=some x):x.depth<=d:=by
 induction l generalizing i with
 |nil=>simp at e
 |cons a r f =>
  have g:max a.depth (DT.depths r)<=d:=h;cases i with
  |zero=>simp at e;subst e;omega
  |succ i=>exact f (by omega) (by simpa using e)
theorem DB{h:Heap}{a:Addr}{i j:Array Value}(x:h.IsList a i)(y:h.IsList a j):i=j:=by
 obtain⟨o,g,_,n,k⟩:=x;obtain⟨l,e,_,m,f⟩:=y;rw[g]at e;cases e;rw[k]at f;injection f
theorem BE{h:Heap}{a:Addr}{i j:Array Value}(x:h.IsTuple a i)(y:h.IsTuple a j):i=j:=by
 obtain⟨o,g,_,n,k⟩:=x;obtain⟨l,e,_,m,f⟩:=y;rw[g]at e;cases e;rw[k]at f;injection f
theorem kO{h:Heap}{a:Addr}{i j:Array Value}(x:h.IsList a i)(y:h.IsTuple a j):False:=by
 obtain⟨o,g,k,_⟩:=x;obtain⟨l,e,f,_⟩:=y;rw[g]at e;cases e;rw[k]at f;simp at f
theorem xA(g:dA a v=true)(f:dA b v=true):a=b:=by
 rcases aE g with⟨i,t,rfl,rfl⟩|⟨i,t,rfl,rfl⟩
 ·rcases aE f with⟨j,u,rfl,e⟩|⟨j,u,rfl,e⟩
  ·cases e;rfl
  ·cases e
 ·rcases aE f with⟨j,u,rfl,e⟩|⟨j,u,rfl,e⟩
  ·cases e
  ·cases e;rfl
theorem je{b:Addr}(h:dA a (.ref b)=true):False:=by
 rcases aE h with⟨_,_,_,e⟩|⟨_,_,_,e⟩<;>cases e
theorem uc.inj:∀(d:Nat) {x y:DT}{v:Value},x.depth<=d->uc h x v->uc h y v->x=y:=by
 have r:∀(d:Nat) (u:∀{x y:DT}{v:Value},x.depth<=d->uc h x v->uc h y v->x=y) (o n:List DT) (w:Zf),DT.depths o<=d->DAts h o w->DAts h n w->o=n:=by
  intro d u o
  induction o with
  |nil =>
   intro n w _ g f;have A:w=[]:=g;subst A;cases n with
   |nil=>rfl
   |cons y n=>obtain⟨_,_,e,_⟩:=f;cases e
  |cons x o B =>
   intro n w p g f;obtain⟨v,L,rfl,C,D⟩:=g;cases n with
   |nil=>have E:v::L=[]:=f;cases E
   |cons y n =>
    obtain⟨O,M,e,G,H⟩:=f;cases e;have N:max x.depth (DT.depths o)<=d:=p;rw[u (by omega) C G,B n L (by omega) D H]
 intro d
 induction d with
 |zero =>
  intro x y v p g f;cases x with
  |t l=>exact absurd p (by show ¬(DT.depths l+1<=0);omega)
  |s l=>exact absurd p (by show ¬(DT.depths l+1<=0);omega)
  |k a =>
   cases y with
   |k b=>rw[xA g f]
   |t l=>obtain⟨b,_,rfl,_⟩:=f;exact(je g).elim
   |s l=>obtain⟨b,_,rfl,_⟩:=f;exact(je g).elim
 |succ d u =>
  intro x y v p g f;cases x with
  |k a =>
   cases y with
   |k b=>rw[xA g f]
   |t l=>obtain⟨b,_,rfl,_⟩:=f;exact(je g).elim
   |s l=>obtain⟨b,_,rfl,_⟩:=f;exact(je g).elim
  |t l =>
   obtain⟨a,i,rfl,z,g⟩:=g;cases y with
   |k b=>exact(je f).elim
   |t m =>
    obtain⟨I,j,e,q,f⟩:=f;cases e;rw[BE q z]at f;rw[r d (fun J=>u J) l m i.toList (by have:DT.depths l+1<=d+1:=p;omega) g f]
   |s m =>
    obtain⟨I,j,e,q,f⟩:=f;cases e;exact(kO q z).elim
  |s l =>
   obtain⟨a,i,rfl,z,g⟩:=g;cases y with
   |k b=>exact(je f).elim
   |s m =>
    obtain⟨I,j,e,q,f⟩:=f;cases e;rw[DB q z]at f;rw[r d (fun J=>u J) l m i.toList (by have:DT.depths l+1<=d+1:=p;omega) g f]
   |t m =>
    obtain⟨I,j,e,q,f⟩:=f;cases e;exact(kO z q).elim
theorem g_{l m:List DT}(g:l.length=m.length):((mm l.length).all fun j=>decide (l[j]?=m[j]?))=decide (l=m):=by
 by_cases e:l=m
 ·subst e;simp
 ·rw[zzr0 e];rw[List.all_eq_false];apply Classical.byContradiction;intro h;apply e;apply List.ext_getElem?;intro i;by_cases f:i<l.length
  ·apply Classical.byContradiction;intro a;exact h ⟨i,List.mem_range.mpr f,by simpa using a⟩
  ·rw[yr (by omega),yr (by omega)]
section
variable{s:Shared}
theorem KF:∀(d:Nat) {A:Around}{x y:DT}{u v:Value},x.depth<=d->y.depth<=d->A.units+d<cLine->uc s.heap x u->uc s.heap y v->bx A s u v (decide (x=y)):=by
 have leaves:∀{A:Around}{a b:fR}{u v:Value},dA a u=true->dA b v=true->bx A s u v (decide (DT.k a=DT.k b)):=by
  intro A a b u v E J;have O:decide (DT.k a=DT.k b)=decide (a=b):=by
   by_cases e:a=b
   ·subst e;simp
   ·have:¬(DT.k a=DT.k b):=fun z=>e (by injection z);rw[zzr0 this,zzr0 e]
  rw[O];rcases aE E with⟨i,t,rfl,rfl⟩|⟨i,t,rfl,rfl⟩
  ·rcases aE J with⟨j,u,rfl,rfl⟩|⟨j,u,rfl,rfl⟩
   ·rw[Aa];exact bx.int_int i t j u
   ·rw[z_];exact bx.int_str i t j u
  ·rcases aE J with⟨j,u,rfl,rfl⟩|⟨j,u,rfl,rfl⟩
   ·rw[z7];exact bx.str_int i t j u
   ·rw[z6];have:=bx.str_str (A:=A) (s:=s) i t j u;rwa[show(i==j)=decide (i=j)from by by_cases e:i=j<;>simp[e]]at this
 have kt:∀{A:Around}{a:fR}{u:Value}{b:Addr}{items:Array Value},A.units<cLine->dA a u=true->s.heap.IsTuple b items->bx A s u (.ref b) false/\bx A s (.ref b) u false:=by
  intro A a u b items p E D;rcases aE E with⟨i,t,rfl,rfl⟩|⟨i,t,rfl,rfl⟩
  ·exact⟨bx.int_tuple i t D p,bx.tuple_int i t D p⟩
  ·exact⟨bx.str_tuple i t D p,bx.tuple_str i t D p⟩
 have U:∀{A:Around}{a:fR}{u:Value}{b:Addr}{items:Array Value},A.units<cLine->dA a u=true->s.heap.IsList b items->bx A s u (.ref b) false/\bx A s (.ref b) u false:=by
  intro A a u b items p E D;rcases aE E with⟨i,t,rfl,rfl⟩|⟨i,t,rfl,rfl⟩
  ·exact⟨bx.int_list i t D p,bx.list_int i t D p⟩
  ·exact⟨bx.str_list i t D p,bx.list_str i t D p⟩
 intro d
 induction d with
 |zero =>
  intro A x y u v w B p g f;cases x with
  |t l=>exact absurd w (by show ¬(DT.depths l+1<=0);omega)
  |s l=>exact absurd w (by show ¬(DT.depths l+1<=0);omega)
  |k a =>
   cases y with
   |t l=>exact absurd B (by show ¬(DT.depths l+1<=0);omega)
   |s l=>exact absurd B (by show ¬(DT.depths l+1<=0);omega)
   |k b=>exact leaves g f
 |succ d ih =>
  intro A x y u v w B p g f;have items:∀{l m:List DT}{i j:Array Value},DT.depths l<=d->DT.depths m<=d->DAts s.heap l i.toList->DAts s.heap m j.toList->∀n (E:n<i.size) (J:n<j.size),bx A.in1 s i[n] j[n] (decide (l[n]?=m[n]?)):=by
   intro l m i j L M h C n E J;obtain⟨x,ex,g⟩:=h.get (i:=n) (v:=i[n]) (by simp[E]);obtain⟨y,Y,f⟩:=C.get (i:=n) (v:=j[n]) (by simp[J]);rw[ex,Y];have O:decide ((some x:Option DT)=some y)=decide (x=y):=by
    by_cases e:x=y
    ·subst e;simp
    ·rw[zzr0 e,zzr0 fun z=>e (fM z)]
   rw[O];exact ih (DT.depths_get L ex) (DT.depths_get M Y) (by show A.units+1+d<cLine;omega) g f
  cases x with
  |k a =>
   cases y with
   |k b=>exact leaves g f
   |t l =>
    obtain⟨b,i,rfl,h,_⟩:=f;rw[zzr0 (by intro z;cases z)];exact(kt (by omega) g h).1
   |s l =>
    obtain⟨b,i,rfl,h,_⟩:=f;rw[zzr0 (by intro z;cases z)];exact(U (by omega) g h).1
  |t l =>
   have L:DT.depths l<=d:=by have:DT.depths l+1<=d+1:=w;omega
   have G:=g;obtain⟨a,i,rfl,h,g⟩:=g;cases y with
   |k b =>
    rw[zzr0 (by intro z;cases z)];exact(kt (by omega) f h).2
   |s m =>
    obtain⟨b,j,rfl,C,_⟩:=f;rw[zzr0 (by intro z;cases z)];exact bx.tuple_list h C (by omega)
   |t m =>
    have M:DT.depths m<=d:=by have:DT.depths m+1<=d+1:=B;omega
    have H:=f;obtain⟨b,j,rfl,C,f⟩:=f;by_cases o:a=b
    ·subst o;have e:DT.t l=DT.t m:=uc.inj _ (aD _) G H;rw[zzr1 e];exact bx.same _
    ·have r:=SeqAt.RcAt.tuples (A:=A) h C (by omega) (items L M g f);have N:=g.length;have Q:=f.length;simp only[mC]at N Q;have q:((mm (min i.size j.size)).all (fun n=>decide (l[n]?=m[n]?)) && i.size==j.size)=decide (DT.t l=DT.t m):=by
      by_cases e:l.length=m.length
      ·have T:i.size=j.size:=by omega
       rw[<-T,Nat.min_self,<-N,g_ e];by_cases I:l=m
       ·subst I;simp
       ·have:¬(DT.t l=DT.t m):=fun z=>I (by injection z);rw[zzr0 this,zzr0 I];rfl
      ·have T:(i.size==j.size)=false:=by simp;omega
       have:¬(DT.t l=DT.t m):=fun z=>e (by injection z with z;rw[z]);rw[T,zzr0 this,yL]
     rw[q]at r;exact .of_refs o r
  |s l =>
   have L:DT.depths l<=d:=by have:DT.depths l+1<=d+1:=w;omega
   have G:=g;obtain⟨a,i,rfl,h,g⟩:=g;cases y with
   |k b =>
    rw[zzr0 (by intro z;cases z)];exact(U (by omega) f h).2
   |t m =>
    obtain⟨b,j,rfl,C,_⟩:=f;rw[zzr0 (by intro z;cases z)];exact bx.list_tuple h C (by omega)
   |s m =>
    have M:DT.depths m<=d:=by have:DT.depths m+1<=d+1:=B;omega
    have H:=f;obtain⟨b,j,rfl,C,f⟩:=f;by_cases o:a=b
    ·subst o;have e:DT.s l=DT.s m:=uc.inj _ (aD _) G H;rw[zzr1 e];exact bx.same _
    ·have N:=g.length;have Q:=f.length;simp only[mC]at N Q;by_cases e:l.length=m.length
     ·have r:=SeqAt.RcAt.lists (A:=A) h C (by omega) (by omega) (items L M g f);rw[<-N,g_ e]at r;have q:decide (l=m)=decide (DT.s l=DT.s m):=by
       by_cases I:l=m
       ·subst I;simp
       ·have:¬(DT.s l=DT.s m):=fun z=>I (by injection z);rw[zzr0 this,zzr0 I]
      rw[q]at r;exact .of_refs o r
     ·have:¬(DT.s l=DT.s m):=fun z=>e (by injection z with z;rw[z]);rw[zzr0 this];exact .of_refs o (SeqAt.RcAt.lists_lengths h C (by simp;omega) (by omega))
end
theorem Fa(a b:fR):decide (DT.k a=DT.k b)=decide (a=b):=by
 by_cases e:a=b
 ·subst e;simp
 ·rw[zzr0 e,zzr0 fun z=>e (by injection z)]
theorem KG(l m:List DT):decide (DT.t l=DT.t m)=decide (l=m):=by
 by_cases e:l=m
 ·subst e;simp
 ·rw[zzr0 e,zzr0 fun z=>e (by injection z)]
theorem KH(l m:List DT):decide (DT.s l=DT.s m)=decide (l=m):=by
 by_cases e:l=m
 ·subst e;simp
 ·rw[zzr0 e,zzr0 fun z=>e (by injection z)]
theorem ID(x y:DT):decide ((some x:Option DT)=some y)=decide (x=y):=by
 by_cases e:x=y
 ·subst e;simp
 ·rw[zzr0 e,zzr0 fun z=>e (fM z)]
section
variable{A:Around}{s:Shared}
theorem qA{d:Nat}(g:A.units+1+d<cLine){l m:List DT}{i j:Array Value}(h:DT.depths l<=d)(k:DT.depths m<=d)(o:DAts s.heap l i.toList)(p:DAts s.heap m j.toList):
  ∀n (a:n<i.size) (e:n<j.size),bx A.in1 s i[n] j[n] (decide (l[n]?=m[n]?)):=by
 intro n a e;obtain⟨x,ex,q⟩:=o.get (i:=n) (v:=i[n]) (by simp[a]);obtain⟨y,f,r⟩:=p.get (i:=n) (v:=j[n]) (by simp[e]);rw[ex,f,ID];exact KF d (DT.depths_get h ex) (DT.depths_get k f) g q r
theorem Es{i j:Array Value}(g:DAts s.heap l i.toList)(h:DAts s.heap m j.toList):((mm (min i.size j.size)).all (fun n=>decide (l[n]?=m[n]?)) && i.size==j.size)=decide (l=m):=by
 have f:=g.length;have k:=h.length;simp only[mC]at f k;by_cases e:l.length=m.length
 ·have a:i.size=j.size:=by omega
  rw[<-a,Nat.min_self,<-f,g_ e];simp
 ·have a:(i.size==j.size)=false:=by simp;omega
  rw[a,zzr0 fun z=>e (by rw[z]),yL]
theorem LX{x y:DT}(q:x.depth<=14)(w:y.depth<=14)(D:A.units+16<cLine)(o:uc s.heap x u)(f:uc s.heap y v):SeqAt.RcAt A s u v (decide (x=y)):=by
 cases x with
 |k a =>
  rcases aE (show dA a u=true from o)with⟨i,t,rfl,rfl⟩|⟨i,t,rfl,rfl⟩
  ·cases y with
   |k b =>
    rw[Fa];rcases aE (show dA b v=true from f)with⟨j,h,rfl,rfl⟩|⟨j,h,rfl,rfl⟩
    ·rw[Aa];exact SeqAt.RcAt.int_int i t j h
    ·rw[z_];exact SeqAt.RcAt.int_str i t j h
   |t m=>obtain⟨b,j,rfl,g,_⟩:=f;rw[zzr0 (by intro z;cases z)];exact SeqAt.RcAt.int_tuple i t g (by omega)
   |s m=>obtain⟨b,j,rfl,g,_⟩:=f;rw[zzr0 (by intro z;cases z)];exact SeqAt.RcAt.int_list i t g (by omega)
  ·cases y with
   |k b =>
    rw[Fa];rcases aE (show dA b v=true from f)with⟨j,h,rfl,rfl⟩|⟨j,h,rfl,rfl⟩
    ·rw[z7];exact SeqAt.RcAt.str_int i t j h
    ·rw[z6];have:=SeqAt.RcAt.str_str (A:=A) (s:=s) i t j h;rwa[show(i==j)=decide (i=j)from by by_cases e:i=j<;>simp[e]]at this
   |t m=>obtain⟨b,j,rfl,g,_⟩:=f;rw[zzr0 (by intro z;cases z)];exact SeqAt.RcAt.str_tuple i t g (by omega)
   |s m=>obtain⟨b,j,rfl,g,_⟩:=f;rw[zzr0 (by intro z;cases z)];exact SeqAt.RcAt.str_list i t g (by omega)
 |t l =>
  obtain⟨a,i,rfl,n,o⟩:=o;have dl:DT.depths l<=13:=by have:DT.depths l+1<=14:=q;omega
  cases y with
  |k b =>
   rw[zzr0 (by intro z;cases z)];rcases aE (show dA b v=true from f)with⟨j,h,rfl,rfl⟩|⟨j,h,rfl,rfl⟩
   ·exact SeqAt.RcAt.tuple_int j h n (by omega)
   ·exact SeqAt.RcAt.tuple_str j h n (by omega)
  |t m =>
   obtain⟨b,j,rfl,g,f⟩:=f;have p:DT.depths m<=13:=by have:DT.depths m+1<=14:=w;omega
   have r:=SeqAt.RcAt.tuples (A:=A) n g (by omega) (qA (by omega) dl p o f);rw[Es o f]at r;rw[KG];exact r
  |s m=>obtain⟨b,j,rfl,g,_⟩:=f;rw[zzr0 (by intro z;cases z)];exact SeqAt.RcAt.tuple_list n g (by omega)
 |s l =>
  obtain⟨a,i,rfl,n,o⟩:=o;have dl:DT.depths l<=13:=by have:DT.depths l+1<=14:=q;omega
  cases y with
  |k b =>
   rw[zzr0 (by intro z;cases z)];rcases aE (show dA b v=true from f)with⟨j,h,rfl,rfl⟩|⟨j,h,rfl,rfl⟩
   ·exact SeqAt.RcAt.list_int j h n (by omega)
   ·exact SeqAt.RcAt.list_str j h n (by omega)
  |t m=>obtain⟨b,j,rfl,g,_⟩:=f;rw[zzr0 (by intro z;cases z)];exact SeqAt.RcAt.list_tuple n g (by omega)
  |s m =>
   obtain⟨b,j,rfl,g,f⟩:=f;have p:DT.depths m<=13:=by have:DT.depths m+1<=14:=w;omega
   have B:=o.length;have C:=f.length;simp only[mC]at B C;rw[KH];by_cases e:l.length=m.length
   ·have r:=SeqAt.RcAt.lists (A:=A) n g (by omega) (by omega) (qA (by omega) dl p o f);rw[<-B,g_ e]at r;exact r
   ·rw[zzr0 fun z=>e (by rw[z])];exact SeqAt.RcAt.lists_lengths n g (by simp;omega) (by omega)
theorem LY{x y:DT}(q:x.depth<=14)(w:y.depth<=14)(D:A.units+16<cLine)(o:uc s.heap x u)(f:uc s.heap y v):SeqAt.RcNeAt A s u v (!decide (x=y)):=by
 cases x with
 |k a =>
  rcases aE (show dA a u=true from o)with⟨i,t,rfl,rfl⟩|⟨i,t,rfl,rfl⟩
  ·cases y with
   |k b =>
    rw[Fa];rcases aE (show dA b v=true from f)with⟨j,h,rfl,rfl⟩|⟨j,h,rfl,rfl⟩
    ·rw[Aa];exact SeqAt.RcNeAt.int_int i t j h
    ·rw[z_];exact SeqAt.RcNeAt.int_str i t j h
   |t m=>obtain⟨b,j,rfl,g,_⟩:=f;rw[zzr0 (by intro z;cases z)];exact SeqAt.RcNeAt.int_tuple i t g (by omega)
   |s m=>obtain⟨b,j,rfl,g,_⟩:=f;rw[zzr0 (by intro z;cases z)];exact SeqAt.RcNeAt.int_list i t g (by omega)
  ·cases y with
   |k b =>
    rw[Fa];rcases aE (show dA b v=true from f)with⟨j,h,rfl,rfl⟩|⟨j,h,rfl,rfl⟩
    ·rw[z7];exact SeqAt.RcNeAt.str_int i t j h
    ·rw[z6];have:=SeqAt.RcNeAt.str_str (A:=A) (s:=s) i t j h;rwa[show(i==j)=decide (i=j)from by by_cases e:i=j<;>simp[e]]at this
   |t m=>obtain⟨b,j,rfl,g,_⟩:=f;rw[zzr0 (by intro z;cases z)];exact SeqAt.RcNeAt.str_tuple i t g (by omega)
   |s m=>obtain⟨b,j,rfl,g,_⟩:=f;rw[zzr0 (by intro z;cases z)];exact SeqAt.RcNeAt.str_list i t g (by omega)
 |t l =>
  obtain⟨a,i,rfl,n,o⟩:=o;have dl:DT.depths l<=13:=by have:DT.depths l+1<=14:=q;omega
  cases y with
  |k b =>
   rw[zzr0 (by intro z;cases z)];rcases aE (show dA b v=true from f)with⟨j,h,rfl,rfl⟩|⟨j,h,rfl,rfl⟩
   ·exact SeqAt.RcNeAt.tuple_int j h n (by omega)
   ·exact SeqAt.RcNeAt.tuple_str j h n (by omega)
  |t m =>
   obtain⟨b,j,rfl,g,f⟩:=f;have p:DT.depths m<=13:=by have:DT.depths m+1<=14:=w;omega
   have r:=SeqAt.RcNeAt.tuples (A:=A) n g (by omega) (qA (by omega) dl p o f);rw[Es o f]at r;rw[KG];exact r
  |s m=>obtain⟨b,j,rfl,g,_⟩:=f;rw[zzr0 (by intro z;cases z)];exact SeqAt.RcNeAt.tuple_list n g (by omega)
 |s l =>
  obtain⟨a,i,rfl,n,o⟩:=o;have dl:DT.depths l<=13:=by have:DT.depths l+1<=14:=q;omega
  cases y with
  |k b =>
   rw[zzr0 (by intro z;cases z)];rcases aE (show dA b v=true from f)with⟨j,h,rfl,rfl⟩|⟨j,h,rfl,rfl⟩
   ·exact SeqAt.RcNeAt.list_int j h n (by omega)
   ·exact SeqAt.RcNeAt.list_str j h n (by omega)
  |t m=>obtain⟨b,j,rfl,g,_⟩:=f;rw[zzr0 (by intro z;cases z)];exact SeqAt.RcNeAt.list_tuple n g (by omega)
  |s m =>
   obtain⟨b,j,rfl,g,f⟩:=f;have p:DT.depths m<=13:=by have:DT.depths m+1<=14:=w;omega
   have B:=o.length;have C:=f.length;simp only[mC]at B C;rw[KH];by_cases e:l.length=m.length
   ·have r:=SeqAt.RcNeAt.lists (A:=A) n g (by omega) (by omega) (qA (by omega) dl p o f);rw[<-B,g_ e]at r;exact r
   ·rw[zzr0 fun z=>e (by rw[z])];exact SeqAt.RcNeAt.lists_lengths n g (by simp;omega) (by omega)
end
mutual
def vY(K:Za)(H:Hp):DT->V->Prop
 |.k a,v=>v=kV a
 |.t l,v=>∃b xs,v=.ref b/\bP K H b xs/\DIns K H l xs
 |.s l,v=>∃b xs,v=.ref b/\aw K H b xs/\DIns K H l xs
def DIns(K:Za)(H:Hp):List DT->List V->Prop
 |[],vs=>vs=[]
 |k::r,vs=>∃v us,vs=v::us/\vY K H k v/\DIns K H r us
end
section
variable{X:Cx}{J3:Zd}{σ:St}{H:Hp}{s:Shared}
theorem pb(I:Inv X J3 σ H s):∀(d:Nat) {k:DT}{v:V}{u:Value},k.depth<=d->vY X.K H k v->RelV v u->uc s.heap k u:=by
 have h:∀(d:Nat) (i:∀{k:DT}{v:V}{u:Value},k.depth<=d->vY X.K H k v->RelV v u->uc s.heap k u) (ks:List DT) (j:List V) (o:Zf),DT.depths ks<=d->DIns X.K H ks j->bb j o->DAts s.heap ks o:=by
  intro d i ks
  induction ks with
  |nil =>
   intro j o _ f r;have e:j=[]:=f;subst e;cases r
   rfl
  |cons k ks p =>
   intro j o g f r;obtain⟨v,q,rfl,m,C⟩:=f;cases r with
   |@cons _ u _ n D E =>
    have G:max k.depth (DT.depths ks)<=d:=g;exact⟨u,n,rfl,i (by omega) m D,p q n (by omega) C E⟩
 intro d
 induction d with
 |zero =>
  intro k v u g f r;cases k with
  |t l=>exact absurd g (by show ¬(DT.depths l+1<=0);omega)
  |s l=>exact absurd g (by show ¬(DT.depths l+1<=0);omega)
  |k b =>
   have e:v=kV b:=f;subst e;exact qr (P:=X.prog) (w:=X.w) r
 |succ d i =>
  intro k v u g f r;cases k with
  |k b =>
   have e:v=kV b:=f;subst e;exact qr (P:=X.prog) (w:=X.w) r
  |t l =>
   obtain⟨b,x,rfl,y,z⟩:=f;cases(show u=Value.ref b from r);obtain⟨a,A,B,_⟩:=I.tuple y;exact⟨b,a.toArray,rfl,B,by simpa using h d (fun m=>i m) l x a (by have:DT.depths l+1<=d+1:=g;omega) z A⟩
  |s l =>
   obtain⟨b,x,rfl,y,z⟩:=f;cases(show u=Value.ref b from r);obtain⟨a,A,B,_⟩:=I.list y;exact⟨b,a.toArray,rfl,B.isList,by simpa using h d (fun m=>i m) l x a (by have:DT.depths l+1<=d+1:=g;omega) z A⟩
theorem qD(I:Inv X J3 σ H s):∀{a:List DT}{f:List V}{g:Zf},DT.depths a<=8->DIns X.K H a f->bb f g->DAts s.heap a g
 |[],f,g,_,h,r=>by
  have e:f=[]:=h;subst e;cases r
  rfl
 |k::a,f,g,j,h,r=>by
  obtain⟨v,l,rfl,m,n⟩:=h;cases r with
  |@cons _ u _ i o p =>
   have q:max k.depth (DT.depths a)<=8:=j;exact⟨u,i,rfl,pb I 8 (by omega) m o,qD I (by omega) n p⟩
end
def mU(K:Za):R2:=fun x y H Q=>∃d e:DT,vY K H d x/\vY K H e y/\d.depth<=8/\e.depth<=8/\Q (.bl (decide (d=e))) H
def wK(K:Za):R2:=fun x y H Q=>∃d e:DT,vY K H d x/\vY K H e y/\d.depth<=8/\e.depth<=8/\Q (.bl (!decide (d=e))) H
section
variable{X:Cx}
theorem ie(g:X.A.units+16<cLine):oy X (fT .Eq) (mU X.K):=by
 intro m s σ H x y v u Q I i j h;obtain⟨d,e,k,l,a,f,q⟩:=h;exact LX (aB a (by decide)) (aB f (by decide)) g (pb I 8 a k i) (pb I 8 f l j) X.prog X.w X.xe _ ⟨.bl _,H,I,rfl,q⟩
theorem rN(g:X.A.units+16<cLine):oy X (fT .NotEq) (wK X.K):=by
 intro m s σ H x y v u Q I i j h;obtain⟨d,e,k,l,a,f,q⟩:=h;exact LY (aB a (by decide)) (aB f (by decide)) g (pb I 8 a k i) (pb I 8 f l j) X.prog X.w X.xe _ ⟨.bl _,H,I,rfl,q⟩
def qa(K:Za)(neg:Bool):R2:=fun x y H Q=>∃(d:DT) (ds:List DT) (p:Addr) (xs:List V),vY K H d x/\y=.ref p/\(aw K H p xs∨bP K H p xs)/\DIns K H ds xs/\d.depth<=8/\DT.depths ds<=8/\Q (.bl (if neg then !decide (d∈ds)else decide (d∈ds))) H
open Classical in
theorem qH{d:DT}(g:d.depth<=8):∀{a:List DT}{f:Zf},DAts h a f->DT.depths a<=8->f.any (fun u=>@decide (uc h d u) (propDecidable _))=decide (d∈a)
 |[],f,e,_=>by
  have j:f=[]:=e;subst j
  rfl
 |x::a,f,e,k=>by
  obtain⟨u,l,rfl,i,m⟩:=e;have o:max x.depth (DT.depths a)<=8:=k;rw[re,qH g m (by omega)];by_cases q:d=x
  ·subst q;simp[i]
  ·have n:¬uc h d u:=fun z=>q (uc.inj 8 g z i);simp[n,q]
open Classical in
theorem vk{A:Around}{s:Shared}{d:DT}(g:d.depth<=8)(i:A.units+8<cLine)(j:uc s.heap d v):∀{f:List DT}{a:Zf},DAts s.heap f a->DT.depths f<=8->∀u∈a,bx A s u v (@decide (uc s.heap d u) (propDecidable _))
 |[],a,e,_,u,hm=>by
  have k:a=[]:=e;subst k;cases hm
 |x::f,a,e,l,u,hm=>by
  obtain⟨r,m,rfl,h,o⟩:=e;have p:max x.depth (DT.depths f)<=8:=l;rcases cu.mp hm with rfl|hm
  ·have q:=KF 8 (A:=A) (by omega) g i h j;by_cases z:x=d
   ·subst z;rw[zzr1 h];rwa[zzr1 rfl]at q
   ·have n:¬uc s.heap d u:=fun w=>z (uc.inj 8 g w h).symm;rw[zzr0 n];rwa[zzr0 z]at q
  ·exact vk g i j o (by omega) u hm
theorem zU(B:X.A.units+16<cLine):oy X (fT .In) (qa X.K false):=by
 intro C s σ H x y v u Q I n o h;obtain⟨d,D,p,E,t,rfl,hq,e,f,a,q⟩:=h;cases o;have m:=pb I 8 f t n;have g:X.A.in1.units+8<cLine:=by show X.A.units+1+8<cLine;omega
 rcases hq with hq|hq
 ·obtain⟨j,r,k,z⟩:=I.list hq;have i:=qD I a e r;refine SeqAt.in_listAt _ k.isList (fun w l=>vk f g m i a w (by simpa using l)) ⟨.bl _,H,I,rfl,?_⟩;rw[yq,qH f i a];exact q
 ·obtain⟨j,r,k,z⟩:=I.tuple hq;have i:=qD I a e r;refine SeqAt.in_tupleAt _ k (fun w l=>vk f g m i a w (by simpa using l)) ⟨.bl _,H,I,rfl,?_⟩;rw[yq,qH f i a];exact q
theorem kN(B:X.A.units+16<cLine):oy X (fT .NotIn) (qa X.K true):=by
 intro C s σ H x y v u Q I n o h;obtain⟨d,D,p,E,t,rfl,hq,e,f,a,q⟩:=h;cases o;have m:=pb I 8 f t n;have g:X.A.in1.units+8<cLine:=by show X.A.units+1+8<cLine;omega
 rcases hq with hq|hq
 ·obtain⟨j,r,k,z⟩:=I.list hq;have i:=qD I a e r;refine SeqAt.notIn_listAt _ k.isList (fun w l=>vk f g m i a w (by simpa using l)) ⟨.bl _,H,I,rfl,?_⟩;rw[yq,qH f i a];exact q
 ·obtain⟨j,r,k,z⟩:=I.tuple hq;have i:=qD I a e r;refine SeqAt.notIn_tupleAt _ k (fun w l=>vk f g m i a w (by simpa using l)) ⟨.bl _,H,I,rfl,?_⟩;rw[yq,qH f i a];exact q
end
def vI(z:Str)(lo hi:Option Int):Str:=⟨((z.cps.toList.drop (HT.sIx z.length 0 lo)).take (HT.sIx z.length z.length hi-HT.sIx z.length 0 lo)).toArray⟩
theorem sliceRange_one(a b:Nat):uu (a:Int) (b:Int) 1=(mm (b-a)).map (fun k=>a+k):=by
 unfold uu;simp only[show(1:Int) > 0 from by decide,if_true];by_cases h:(a:Int)<(b:Int)
 ·have e:(if(a:Int)<(b:Int)then((b:Int)-a+1-1) / 1 else 0).toNat=b-a:=by rw[if_pos h];omega
  rw[e];exact List.map_congr_left fun k _=>by omega
 ·have e:(if(a:Int)<(b:Int)then((b:Int)-a+1-1) / 1 else 0).toNat=b-a:=by rw[if_neg h];omega
  rw[e];exact List.map_congr_left fun k _=>by omega
theorem BU(v:Option Int)(n d:Nat):(match v with|none=>(d:Int)|some i=>max 0 (min (if i<0 then i+(n:Int)else i) (n:Int)))=((HT.sIx n d v:Nat):Int):=by
 cases v with
 |none=>rfl
 |some i =>
  rw[<-HT.clip_eq i n d];dsimp only;by_cases h:i<0
  ·rw[if_pos h,if_pos h];omega
  ·rw[if_neg h,if_neg h];omega
theorem p6(lo a:Option Int)(n:Nat):ut lo a 1 n=(mm (HT.sIx n n a-HT.sIx n 0 lo)).map (fun k=>HT.sIx n 0 lo+k):=by
 have e:=BU lo n 0;have f:=BU a n n;rw[<-sliceRange_one,<-e,<-f];unfold ut;simp only[show(1:Int) > 0 from by decide,if_true];cases lo<;>cases a<;>rfl
theorem FD(z:Str)(lo e:Option Int):Txt.slice z lo e=vI z lo e:=by
 have l:HT.sIx z.length 0 lo<=z.length:=HT.sIx_le _ _ (dL _) _;have m:HT.sIx z.length z.length e<=z.length:=HT.sIx_le _ _ (aD _) _;have g:z.cps.toList.length=z.length:=by simp[Str.length]
 have f:(ut lo e 1 z.length).filterMap (z.cps[·]?)=(z.cps.toList.drop (HT.sIx z.length 0 lo)).take (HT.sIx z.length z.length e-HT.sIx z.length 0 lo):=by
  rw[p6];generalize HT.sIx z.length 0 lo=a at *;generalize HT.sIx z.length z.length e=b at *;have h:=StrLaws.picks z.cps.toList (b-a) a (by omega);simpa using h
 unfold Txt.slice;by_cases h:((1:Int)==1 && (ut lo e 1 z.length).length==z.length)=true
 ·rw[if_pos h];have i:(ut lo e 1 z.length).length=z.length:=by simpa using h
  rw[p6,ah,List.length_range]at i;unfold vI;have j:HT.sIx z.length 0 lo=0:=by omega
  have k:HT.sIx z.length z.length e-HT.sIx z.length 0 lo=z.cps.toList.length:=by omega
  rw[k,j,ur,bf]
 ·rw[if_neg h];unfold vI;rw[f]
section
variable{X:Cx}
def JE:V->Option Int->Option Int->Hp->VK->Prop:=fun x lo hi H Q=>∃z,x=.str z/\z.length<=aj/\Q (.str (vI z lo hi)) H
theorem CZ:SlR X JE:=by
 intro g s σ H x v m n lo p r Q I y B C f h;obtain⟨z,rfl,D,q⟩:=h;obtain⟨t,rfl⟩:=y;rw[<-FD]at q;refine⟨"str",_,F.slot_str_getitem.lookup,typeIs_str _ _ _,?_⟩;obtain⟨o,E,G,J⟩:=B;have a:∀(l u:Option (Int×Tok)),m=partValue l->n=partValue u->lo=l.map (·.1)->p=u.map (·.1)->wpAny (model X.prog X.w) X.A (oO (.str z t) (.ref r)) (EP X g σ Q) X.xe s:=by
  rintro l u rfl rfl rfl rfl;refine wpAny_getItem_str_slice (l:=l) (u:=u) (st:=none) ⟨o,E,G,J⟩ rfl (post_val_or_str ⟨aB (Txt.slice_le z _ _) D,fun e k=>⟨.str _,H,I.tok _,⟨_,rfl⟩,q⟩⟩)
 cases C with
 |none =>
  cases f with
  |none=>exact a none none rfl rfl rfl rfl
  |int j u=>exact a none (some (j,u)) rfl rfl rfl rfl
 |int i e =>
  cases f with
  |none=>exact a (some (i,e)) none rfl rfl rfl rfl
  |int j u=>exact a (some (i,e)) (some (j,u)) rfl rfl rfl rfl
def Kv(K:Za):V->List V->Hp->VK->Prop:=fun x vs H Q=>∃z p ys,x=.str z/\vs=[.ref p]/\aw K H p (ys.map V.str)/\(ys.map (·.length)).sum+ys.length * z.length<=16777216/\Q (.str (yo z ys)) H
theorem Jn{a:Zb}:∀{us:Zf},bb (a.map V.str) us->StrsAre us a:=by
 induction a with
 |nil=>intro us r;cases r;exact .nil
 |cons y a e =>
  intro us r;cases r with
  |cons f g =>
   obtain⟨t,rfl⟩:=f;exact .cons _ _ (e g)
theorem JQ:Ll X "str.join" (Kv X.K):=by
 intro m s σ H x n v o Q I a e h;obtain⟨z,p,w,rfl,rfl,f,g,q⟩:=h;obtain⟨t,rfl⟩:=a;obtain⟨u,rfl,i⟩:=e.one;cases i;obtain⟨j,r,l,_⟩:=I.list f;exact join_list l.isList (by simpa using Jn r) g fun y k=>⟨.str _,H,I.tok _,⟨_,rfl⟩,q⟩
end
section
variable{X:Cx}
def TyX(K:Za)(H:Hp)(x:V)(t:Value):Prop:=pd K H x t∨(∃a xs,x=.ref a/\t=.type "tuple"/\bP K H a xs)∨(∃a xs,x=.ref a/\t=.type "list"/\aw K H a xs)
theorem DA{A:Around}{Q:Zc}{c:Value}{b:Bool}(I:Inv X r σ H s)(f:RelV x u)(ty:TyX X.K H x t)(e:Eh X.K t c=some b)(h:∀tk,Q (.bool b) { s with toks:=tk }):
  wpAny (model X.prog X.w) A (call (.builtin "isinstance") [u,c]) Q E s:=by
 rcases ty with ty|⟨a,k,rfl,rfl,q⟩|⟨a,k,rfl,rfl,q⟩
 ·exact Gh I f ty e h
 ·cases(show u=Value.ref a from f);obtain⟨g,l,p,m⟩:=I.tuple q;obtain⟨o,i,j,_⟩:=p;exact kq PySem.W.kitx_tuple I.kIn ⟨o,i,j⟩ e (fun z=>nomatch z) h
 ·cases(show u=Value.ref a from f);obtain⟨g,l,p,m⟩:=I.list q;obtain⟨o,n,i,j,_⟩:=p;exact kq PySem.W.kitx_list I.kIn ⟨o,i,j⟩ e (fun z=>nomatch z) h
theorem IK:f_ X (.builtin "isinstance") (fun a H Q=>∃x c t b,a=[x,.ty c]/\TyX X.K H x t/\Eh X.K t (.type c)=some b/\Q (.bl b) H):=by
 intro i s σ H a j Q I r h;obtain⟨x,c,t,b,rfl,ty,e,q⟩:=h;obtain⟨u,v,rfl,f,g⟩:=vals2 r;cases(show v=Value.type c from g);exact DA I f ty e fun tk=>⟨.bl b,H,I.tok _,rfl,q⟩
theorem IM{bs:List Bool}(r:bb (bs.map V.bl) e){i:Nat}{v:Value}(h:e[i]?=some v):v=.bool ((bs[i]?).getD false)/\i<bs.length:=by
 have k:i<e.length:=(bN.mp h).1;have g:=r.length;rw[ah]at g;have a:i<bs.length:=by omega
 obtain⟨u,f,j⟩:=r.get (i:=i) (x:=V.bl bs[i]) (by simp[a]);rw[h]at f;cases f;refine⟨?_,a⟩;rw[de a];exact j
theorem Aq(bs:List Bool):((mm bs.length).all fun i=>(bs[i]?).getD false)=bs.all id:=by
 induction bs with
 |nil=>rfl
 |cons b bs a =>
  rw[fS,List.range_succ_eq_map,List.all_cons,List.all_map,List.all_cons,<-a]
  rfl
theorem Ap(bs:List Bool):((mm bs.length).any fun i=>(bs[i]?).getD false)=bs.any id:=by
 induction bs with
 |nil=>rfl
 |cons b bs a =>
  rw[fS,List.range_succ_eq_map,re,List.any_map,re,<-a]
  rfl
theorem sT(m:X.calm=true):f_ X (.builtin "all") (fun j H Q=>∃(p:Addr) (bs:List Bool),j=[.ref p]/\aw X.K H p (bs.map V.bl)/\Q (.bl (bs.all id)) H):=by
 intro t s σ H j G Q I r h;obtain⟨p,bs,rfl,x,q⟩:=h;obtain⟨u,rfl,y⟩:=vals1 r;cases y;obtain⟨a,k,f,J⟩:=I.list x;obtain⟨o,n,z,_⟩:=id f;have l:=k.length;rw[ah]at l;refine call_all_walk (AK f.isList ?_);refine⟨s.heap.objs.size,_,_,_,_,_,fun i=>(bs[i]?).getD false,rfl,yn (prog:=X.prog) (w:=X.w) (A:=X.A.in1) (I.ok.hd m) s.heap.objs.size p (bX (aI z)) a.toArray,⟨⟨_,cG _ rfl,rfl,rfl⟩,f.isList.push _⟩,?_,?_⟩
 ·intro i v L M N B g;obtain⟨e,_⟩:=IM k (i:=i) (v:=v) (by simpa using B);rw[e];exact sE g
 ·intro C tk D;have E:Inv X t σ H { s with heap:=C,toks:=tk }:=I.kept fun b o e=>D b o (by simp;exact bX (aI e)) (a_ _ e);rw[bH,<-l,Aq];exact⟨.bl _,H,E,rfl,q⟩
theorem BX(m:X.calm=true):f_ X (.builtin "any") (fun j H Q=>∃(p:Addr) (bs:List Bool),j=[.ref p]/\aw X.K H p (bs.map V.bl)/\Q (.bl (bs.any id)) H):=by
 intro t s σ H j G Q I r h;obtain⟨p,bs,rfl,x,q⟩:=h;obtain⟨u,rfl,y⟩:=vals1 r;cases y;obtain⟨a,k,f,J⟩:=I.list x;obtain⟨o,n,z,_⟩:=id f;have l:=k.length;rw[ah]at l;refine call_any_walk (AK f.isList ?_);refine⟨s.heap.objs.size,_,_,_,_,_,fun i=>(bs[i]?).getD false,rfl,yn (prog:=X.prog) (w:=X.w) (A:=X.A.in1) (I.ok.hd m) s.heap.objs.size p (bX (aI z)) a.toArray,⟨⟨_,cG _ rfl,rfl,rfl⟩,f.isList.push _⟩,?_,?_⟩
 ·intro i v L M N B g;obtain⟨e,_⟩:=IM k (i:=i) (v:=v) (by simpa using B);rw[e];exact sE g
 ·intro C tk D;have E:Inv X t σ H { s with heap:=C,toks:=tk }:=I.kept fun b o e=>D b o (by simp;exact bX (aI e)) (a_ _ e);rw[bH,<-l,Ap];exact⟨.bl _,H,E,rfl,q⟩
theorem Dp:oy X (fT .In) (fun x y H Q=>∃c j,x=.str ⟨#[c]⟩/\y=.str j/\Q (.bl (decide (c∈j.cps.toList))) H):=by
 intro a s σ H x y v u Q I e f h;obtain⟨c,j,rfl,rfl,q⟩:=h;rw[<-StrLaws.found_one]at q;exact FU a s σ H _ _ v u Q I e f ⟨_,_,rfl,rfl,q⟩
theorem vO(T:X.calm=true):f_ X (.type "list") (fun M H Q=>∃(d:Addr) (f:List (fR×V)),M=[.ref d]/\Rd H d (.dK f)/\∀l,H l=none->Q (.ref l) (upd H l (.lst (f.map fun g=>kV g.1)))):=by
 intro J3 s σ H M us Q I r h;obtain⟨d,f,rfl,U,q⟩:=h;obtain⟨u,rfl,Y⟩:=vals1 r;cases Y;obtain⟨z,n,N,y,dd⟩:=qC I.hok U;obtain⟨ep,E⟩:=dd.dictAt;have hl:=y.length;refine PySem.W.kdl_call (PySem.W.kdl_dict (knd:=cE X.prog X.w) (kvs:=N) (ep:=ep) n) (I.ok.hd T) E (by rw[<-hl];exact z) fun h' tk m c G hD A=>?_;have B:bb (f.map fun g=>kV g.1) m.toList:=by
  obtain⟨hn,hP⟩:=A;have J:∀(a:Zf) (L:List (fR×V)) (C:List (fR×Value)),KV L C->a.length=C.length->(∀(j:Nat) (v:Value),a[j]?=some v->∃k x,C[j]?=some (k,x)/\(cE X.prog X.w).is k v=true)->bb (L.map fun g=>kV g.1) a:=by
   intro a L C rl
   induction rl generalizing a with
   |nil=>intro D _;cases a with
    |nil=>exact .nil
    |cons _ _=>cases D
   |@cons p w' ps al hp _ ih =>
    intro D O;cases a with
    |nil=>cases D
    |cons v a =>
     obtain⟨k,x,e,G⟩:=O 0 v rfl;have e':w'=(k,x):=by simpa using e
     refine .cons ?_ (ih a (by simpa using D) fun j v B=>by simpa using O (j+1) v (by simpa using B));have ek:p.1=k:=by rw[hp.1,e']
     show RelV (kV p.1) v;rw[ek];rcases aE (show dA k v=true from G)with⟨i,t,rfl,rfl⟩|⟨i,t,rfl,rfl⟩
     ·exact⟨t,rfl⟩
     ·exact⟨t,rfl⟩
  exact J m.toList f N y (by rw[mC];exact hn) fun j v B=>hP j v (by rw[<-Array.getElem?_toList];exact B)
 refine⟨.ref s.heap.objs.size,_,I.laid (o:=.lst (f.map fun g=>kV g.1)) G (aD _) ⟨by rw[ah];exact z,m.toList,c,B,by rw[Array.toArray_toList];exact hD⟩,rfl,q _ I.fresh⟩
end
section
variable{prog:cn}{w:World}{K:Type}[DecidableEq K]{knd:HeapKind prog w K}{A:Around}{E:Zc}{s:Shared}
theorem uI{d a:Addr}{h:List (K×Addr×Value)}{k:K}{v:Value}{Q:Zc}(u:knd.room A)(f:knd.is s.heap k a)(C:s.heap.DictOfH knd d h)
  (there:∀p,atKey h k=some p->Q p.2 { s with toks:=s.toks+knd.draws k })
  (new:atKey h k=none->∀r,r.DictOfH knd d (h++[(k,a,v)])->iW d s.heap r->Q v { s with heap:=r,toks:=s.toks+knd.draws k })
  (D:h.length<=aj):wpAny (model prog w) A (dictSetDefault d (.ref a) v) Q E s:=by
 obtain⟨o,I,G,i,H,g,q,l,t⟩:=C;unfold dictSetDefault
 try with_reducible refine jm ?_
 refine ak (knd.pyHash u f ?_);refine ak (wpAny_dictFind_heap (s:={ s with toks:=s.toks+knd.draws k }) u f i g q l t ?_ ?_)
 ·intro m;have n:k∉h.map (·.1):=not_mem_keys_of_get m;refine ak (oj (ak (wpAny_updateDictKeys (hz:=by have e:=size_of_entries q;omega) (s:={ s with toks:=s.toks+knd.draws k }) i g (aP (new (atKey_none_of_get m) _ ⟨_,_,G+1,jo _ i (Obj.isFreed_of_dict (Obj.data_mapDictKeys g _)),
   H.mapDictKeys _,Obj.data_mapDictKeys g _,?_,?_,?_⟩ (oJ ..))))))
  ·simp[q,entryOfKey]
  ·intro x hx;rcases bM.mp hx with hx|hx
   ·exact knd.keeps (l x hx) i g (oJ ..)
   ·simp only[dR]at hx;subst hx;exact knd.keeps f i g (oJ ..)
  ·rw[av,dw];refine⟨t,by simp,?_⟩;intro x hx y z;simp only[bG,yI,dR]at z;subst z;exact fun e=>n (e▸hx)
 ·intro j p B;refine ak (ym (s:={ s with toks:=s.toks+knd.draws k }) i g ?_);rw[entry_at q j,B];exact ak (oj (aP (there p (atKey_of_get t B))))
theorem qp(knd:HeapKind prog w K)(d a:Addr)(l:(d==iX)=false)(dflt:Value):
  MeetsIn prog w (bQ.«dict.setdefault» ⟨[.ref d,.ref a,dflt],[]⟩) (fun A R s=>knd.room A.in1/\∃k e,knd.is s.heap k a/\s.heap.DictOfH knd d e/\e.length<=aj /\
   (∀p,atKey e k=some p->R (.ok (.ret p.2)) { s with toks:=s.toks+knd.draws k }) /\
   (atKey e k=none->∀f,f.DictOfH knd d (e++[(k,a,dflt)])->iW d s.heap f->R (.ok (.ret dflt)) { s with heap:=f,toks:=s.toks+knd.draws k })) :=
 .of_wp fun A R s ⟨m,k,e,g,j,n,o,q⟩=>by
  unfold bQ.«dict.setdefault»;refine ak ?_;unfold bQ.Dict.keyAndDefault;refine ak (wpAny_notOrdered_dict j.typeIs ?_);show wpAny _ _ (pure (d,Value.ref a,some dflt)) _ _ s;refine aP ?_;show wpAny _ _ (if(d==iX)=true then _ else(dictSetDefault d (.ref a) dflt >>= _)) _ _ s
  rw[if_neg (by rw[l];exact iB)];exact ak (uI m g j (fun p r=>aP ⟨p.2,rfl,o p r⟩) (fun t f h i=>aP ⟨dflt,rfl,q t f h i⟩) n)
end
section
variable{X:Cx}
def Ez:V->List V->Hp->VK->Prop:=fun x vs H Q=>∃(d b:Addr) (kvs:List (TK×V)) (k:TK) (z:V),x=.ref d/\vs=[.ref b,z]/\H d=some (.dT kvs)/\cU H k (.ref b)/\k.depth<=8/\kvs.length<aj /\
 (∀v,be kvs k=some v->Q v H)/\(be kvs k=none->Q z (upd H d (.dT (kvs++[(k,z)]))))
theorem FY(D:X.A.units+16<cLine):Ll X "dict.setdefault" Ez:=by
 intro J3 s σ H x vs v us Q I E G h;obtain⟨d,b,a,k,z,rfl,rfl,l,q,j,hz,J,L⟩:=h;cases E;obtain⟨u,v,rfl,M,r⟩:=G.two;cases M;obtain⟨_,g,m,f,t⟩:=Iy I.hok I.kIn l;have hl:a.length=m.length:=Paired.length f;refine uA PySem.F.slot_dict_setdefault t.typeIs PySem.F.entry_dict_setdefault (PySem.F.args_dict_setdefault_3 _ _ _) (qp (eW X.prog X.w) d b g v)
  ⟨gA D,k,m,z9 I.hok I.kIn (cU.c 8 j q) j,t,by omega,fun p N=>?_,fun O h' n T=>?_⟩
 ·have e:=f.val k;rw[N]at e;cases i:be a k with
  |none=>rw[i]at e;exact e.elim
  |some y =>
   rw[i]at e;exact⟨y,H,I.tok _,e,J y i⟩
 ·have e:=f.val k;rw[O]at e;have i:be a k=none:=by
   cases i:be a k with
   |none=>rfl
   |some y=>rw[i]at e;exact e.elim
  obtain⟨o,U,Y,B,h2,h3,h4,_,h5⟩:=n;refine⟨z,_,t9 (ob:=.dT (a++[(k,z)])) I (by rw[l];exact ky) T ⟨o,B⟩ ⟨by rw[ba,List.length_singleton];omega,g,_,KT.keeps (kvs:=a++[(k,z)]) (xs:=m++[(k,b,v)]) (gl f ⟨rfl,cU.c 8 j q,j,r⟩) fun c ys C=>?_,o,U,Y,B,h2,h3,h4,h5⟩,r,L i⟩;rw[ai (HY C l (fun z=>nomatch z))];exact C
end
theorem nh:entryFor table "dict.update.loop"=some bQ.«dict.update.loop»:=entryFor_of_fast (by kernel_rfl)
theorem gV:plainId "dict.update.loop"=true:=by decide +kernel
theorem zW:uF (.type "list") "keys"=pure none:=am_miss_of_fast (by decide +kernel)
section
variable{prog:cn}{w:World}{A:Around}{E:Zc}{s:Shared}
theorem F0{a:Addr}{o:Obj}{m:Array Value}{k:Nat}{Q:Option Value->Shared->Prop}(n:s.heap.get? a=some o)(p:o.cls=.type "list")(f:o.data=.seq m k)(q:o.dict=none)(u:A.handled=none)
  (h:∀l tk,(∀b r,s.heap.get? b=some r->l.get? b=some r)->Q none { s with heap:=l,toks:=tk }):wpAny (model prog w) A (getAttr? (.ref a) "keys") Q E s:=by
 obtain⟨c,v,x,y⟩:=o;simp only at p f q;subst p f q;obtain⟨z,g,d,tk,os⟩:=s;have t:∀i,(⟨z,g,d,i,os⟩:Shared).TypeIs (.ref a) "list":=fun _=>⟨_,n,rfl⟩;have B:=sub_AttributeError;have C:=F.slot_list_getattribute.lookup;have D:=F.slot_list_getattribute.bind (.ref a);have G:=am_list_getattr_none;unfold getAttr? getAttrBy? getAttrBy
 repeat (any_goals (first|assumption|exact t _|((with_reducible show wpAny _ _ (call (Value.builtin "list.__getattribute__") _ _) _ _ _);refine rf F.slot_list_getattribute (t _) am_entry_list_getattribute (F.args_list_getattribute_2 _ _) (meets_getattribute_miss_list a m k y "keys" _ zW (by decide +kernel) (by decide +kernel)) ⟨n,u,fun l i e j=>?_⟩)|wp_step))
 obtain⟨H,I,J⟩:=j.there;show wpAny _ _ (getattributeRaised _ _ _ _ _ _ _) _ _ _;unfold getattributeRaised hookOrError attributeErrorLeaves
 repeat (any_goals (first|assumption|wp_step))
 all_goals first|exact h _ _ j.keeps|trace_state
def DX(h:Heap)(u:Value)(kv:fR×Value):Prop:=∃t ku,u=.ref t/\h.IsTuple t #[ku,kv.2]/\dA kv.1 ku=true
theorem CW{κ:Type}[DecidableEq κ](a:List (κ×Value))(k:κ)(v:Value):(stored a k v).length<=a.length+1:=by
 unfold stored;split
 ·rw[ah];omega
 ·rw[ba,List.length_singleton];exact aD _
theorem GZ{R:Result->Shared->Prop}(hh:A.handled=none){D it l:Addr}{items:Array Value}{ps:List (fR×Value)}(B:D≠it)(T:l≠it)(U:l≠D)(bc:ps.length=items.size):
  ∀(n i:Nat) (s:Shared) (a:List (fR×Value)),items.size-i=n->i<=items.size->a.length+(items.size-i)<=aj->s.heap.IsListIter it l i->s.heap.IsList l items->s.heap.DictOf (cE prog w) D a ->
   (∀(j:Nat) (u:Value) (N:fR×Value),items[j]?=some u->ps[j]?=some N->DX s.heap u N) ->
   (∀z tk,z.DictOf (cE prog w) D (merged a (ps.drop i))->(∀b o,b≠D->b≠it->s.heap.get? b=some o->z.get? b=some o)->R (.ok (.ret .none)) { s with heap:=z,toks:=tk }) ->
   zzl80 (model prog w) A (.builtin "dict.update.loop" ⟨[.ref D,.ref it,rawInt i,.none],[]⟩) R s:=by
 intro n
 induction n with
 |zero =>
  intro i s a hn hi hz p O Q Y hR;have e:i=items.size:=by omega
  subst e;refine jk nh ?_;rw[jj gV _];show wpAny _ A.in1 (pyNext (.ref it) >>= _) _ _ s;refine ak (wpAny_pyNext_list_end hh p O (by simp) fun z eb=>?_);show wpAny _ _ (bQ.Dict.addKeywords D [] >>= _) _ _ _;refine ak (aP (aP ?_));have C:z.DictOf (cE prog w) D a:=Q.extBut eb B;have q:=hR z s.toks (by rw[qX (by omega)];exact C) fun b o _ hb e=>eb b o hb e;exact q
 |succ n ih =>
  intro i s a hn hi hz p O Q Y hR;have I:i<items.size:=by omega
  refine jk nh ?_;rw[jj gV _];show wpAny _ A.in1 (pyNext (.ref it) >>= _) _ _ s;have hu:items[i]?=some items[i]:=by simp[I]
  have hk:ps[i]?=some ps[i]:=de (by omega);obtain⟨t,ku,eu,ht,al⟩:=Y i _ _ hu hk;refine ak (wpAny_pyNext_list_item p O (x:=items[i]) hu fun h J an=>?_);rw[eu];have m:iW it s.heap h:=an;have nt:t≠it:=by
   rintro rfl;obtain⟨o,G,L,_⟩:=ht;obtain⟨o',f,g,_⟩:=p;rw[G]at f;cases f;rw[L]at g;simp at g
  have M:h.IsTuple t #[ku,ps[i].2]:=ht.extBut m.extBut nt;have ap:Shared.TypeIs { s with heap:=h } (.ref t) "tuple":=M.typeIs (s:={ s with heap:=h });obtain⟨ot,as,bd,bi,aC⟩:=id M;refine ak (jm ?_);refine ak (qW ?_);unfold bQ.Dict.pairItems;refine ak (yk ap ?_);rw[if_pos (by decide)];refine ak (iY as aC (aP ?_));show wpAny _ _ (mj [ku,ps[i].2] (dictSet D ku ps[i].2)) _ _ _;have a0:h.DictOf (cE prog w) D a:=Q.extBut m.extBut B;refine jm (wpAny_dictSet_pairs (knd:=cE prog w) (k:=ps[i].1) al a0 (fun y a4 a5=>?_) (by omega));have v:iW D h y:=a5;show wpAny _ _ (again _) _ _ _;refine aP ⟨ji gV _,?_⟩;have a6:h.IsList l items:=O.extBut m.extBut T;have kp:∀b o,b≠D->b≠it->s.heap.get? b=some o->y.get? b=some o:=fun b o h y e=>v.extBut b o h (m.extBut b o y e);refine ih (i+1) _ (stored a ps[i].1 ps[i].2) (by omega) I (by have:=CW a ps[i].1 ps[i].2;omega) (J.extBut v.extBut (gx B)) (a6.extBut v.extBut U) a4 (fun j u N h y=>?_) fun z tk C a7=>?_
  ·obtain⟨t2,a8,e2,H,a9⟩:=Y j u N h y;have n1:t2≠it:=by
    rintro rfl;obtain⟨o,G,L,_⟩:=H;obtain⟨o',f,g,_⟩:=p;rw[G]at f;cases f;rw[L]at g;simp at g
   have n2:t2≠D:=by
    rintro rfl;obtain⟨o,G,L,_⟩:=H;obtain⟨o',_,_,f,g,_⟩:=Q;rw[G]at f;cases f;have:=g.1;rw[L]at this;simp at this
   obtain⟨o,G,r⟩:=H;exact⟨t2,a8,e2,⟨o,kp _ o n2 n1 G,r⟩,a9⟩
  ·refine hR z tk ?_ fun b o h y e=>a7 b o h y (kp b o h y e);have ed:ps.drop i=ps[i]::ps.drop (i+1):=j_ (by omega);rw[ed];exact C
theorem tH{l:Addr}{o:Obj}{items:Array Value}{n:Nat}{ps:List (fR×Value)}{Q:Zc}(O:A.handled=none)(T:s.heap.get? l=some o)(I:o.cls=.type "list")(v:o.data=.seq items n)(J:o.dict=none)
  (L:ps.length=items.size) (hp:∀(j:Nat) (u:Value) (H:fR×Value),items[j]?=some u->ps[j]?=some H->DX s.heap u H) (hz:items.size<=aj)
  (h:∀x tk,x.DictOf (cE prog w) s.heap.objs.size (merged [] ps)->(∀b o,s.heap.get? b=some o->x.get? b=some o)->Q (.ref s.heap.objs.size) { s with heap:=x,toks:=tk }) :
  wpAny (model prog w) A (call (.type "dict") [.ref l]) Q E s:=by
 refine callType_codes (Q₁:=fun y m=>y=.ref s.heap.objs.size/\m={ s with heap:=s.heap.push { cls:=.type "dict",data:=.dict #[] } }) F.kt_called_dict (F.kt_typeCall_dict_1 _) F.entry_dict_init (kt_code_dict_new _ ⟨rfl,rfl⟩) ?_;rintro y m ⟨rfl,rfl⟩;have f:(s.heap.push { cls:=.type "dict",data:=.dict #[] }).DictOf (cE prog w) s.heap.objs.size []:=Heap.DictOf.new s.heap;have p:(s.heap.push { cls:=.type "dict",data:=.dict #[] }).get? l=some o:=a_ _ T;have z:l<s.heap.objs.size:=aI T;refine⟨f.typeIs,F.args_dict_init_2 _ _,?_⟩;unfold bQ.«dict.__init__»;refine ak ?_;unfold bQ.Dict.selfAndRest;refine ak (wpAny_notOrdered_dict f.typeIs ?_);show wpAny _ _ (pure (s.heap.objs.size,[Value.ref l])) _ _ _;refine aP ?_;show wpAny _ _ (bQ.Dict.updateFrom "dict.__init__" s.heap.objs.size (.ref l) [] .none) _ _ _;unfold bQ.Dict.updateFrom;have M:Shared.TypeIs { s with heap:=s.heap.push { cls:=.type "dict",data:=.dict #[] } } (.ref l) "list":=⟨o,p,I⟩;refine ak (yk M ?_);rw[if_pos (by decide)];refine ak (F0 p I v J O fun q N k1=>?_);have k:∀b ob,(s.heap.push { cls:=.type "dict",data:=.dict #[] }).get? b=some ob->q.get? b=some ob:=k1;rw[if_pos (by rfl:(none:Option Value).isNone=true)];refine ak (oj ?_);have B:q.IsList l items:=⟨o,k _ _ p,I,n,v⟩;refine ak (AK (s:={ s with heap:=q,toks:=N }) B ?_);have C:q.DictOf (cE prog w) s.heap.objs.size []:=by
  obtain⟨U,Y,ep,g,r⟩:=f;exact⟨U,Y,ep,k _ _ g,r⟩
 have i:s.heap.objs.size<q.objs.size:=by
  obtain⟨U,Y,ep,g,r⟩:=C;exact aI g
 refine aP ⟨ji gV _,?_⟩;refine GZ (A:=A.in1) (prog:=prog) (w:=w) O (D:=s.heap.objs.size) (it:=q.objs.size) (l:=l) (items:=items) (ps:=ps) (bX i) (bX (Nat.lt_trans z i)) (bX z) L items.size 0 _ [] (Nat.sub_zero _) (dL _) (by rw[List.length_nil];omega)
  ⟨_,cG _ rfl,rfl,rfl⟩ (B.push _) (C.push _) (fun j u H a b=>?_) fun x tk G kp=>?_
 ·obtain⟨t,ku,e,ht,hk⟩:=hp j u H a b;obtain⟨ot,g,r⟩:=ht;exact⟨t,ku,e,⟨ot,a_ _ (k _ _ (a_ _ g)),r⟩,hk⟩
 ·rw[ur]at G;refine⟨rfl,h x tk G fun b ob e=>kp b ob (bX (aI e)) (bX (Nat.lt_trans (aI e) i)) (a_ _ (k _ _ (a_ _ e)))⟩
end
section
variable{X:Cx}
theorem Am(hc:X.calm=true):f_ X (.type "dict") (fun Y H Q=>∃(l:Addr) (k:Ze) (f:List (fR×V)),Y=[.ref l]/\aw X.K H l (k.map V.ref)/\k.length=f.length /\
  (∀(j:Nat) (t:Addr) (g:fR×V),k[j]?=some t->f[j]?=some g->H t=some (.tup [kV g.1,g.2]))/\∀p,H p=none->Q (.ref p) (upd H p (.dK (kh [] f)))):=by
 intro J3 s σ H Y us Q I r h;obtain⟨l,k,f,rfl,v,z,D,q⟩:=h;obtain⟨u,rfl,ru⟩:=vals1 r;cases ru;obtain⟨E,rv,⟨o,n,ho,G,J,L⟩,M⟩:=I.list v;have N:∀(k:Ze) (f:List (fR×V)),k.length=f.length->(∀(j:Nat) (t:Addr) (g:fR×V),k[j]?=some t->f[j]?=some g->H t=some (.tup [kV g.1,g.2]))->∃y:List (fR×Value),KV f y/\∀(j:Nat) (t:Addr) (g:fR×Value),k[j]?=some t->y[j]?=some g->DX s.heap (.ref t) g:=by
  intro k
  induction k with
  |nil =>
   intro f v _;cases f with
   |nil=>exact⟨[],.nil,fun j t g e=>by simp at e⟩
   |cons _ _=>cases v
  |cons t k ih =>
   intro f v D;cases f with
   |nil=>cases v
   |cons g f =>
    obtain⟨y,O,r2⟩:=ih f (by simpa using v) fun j T m a b=>D (j+1) T m (by simpa using a) (by simpa using b);obtain⟨_,al,rt,p⟩:=(show cy X.prog X.w X.K H s.heap t (.tup [kV g.1,g.2])from I.hok t _ (D 0 t g rfl rfl));obtain⟨a,b,e,ra,rb⟩:=rt.two;subst e;refine⟨(g.1,b)::y,.cons ⟨rfl,rb⟩ O,fun j T m A U=>?_⟩;cases j with
    |zero =>
     simp at A U;subst A U;exact⟨t,a,rfl,p,qr (P:=X.prog) (w:=X.w) ra⟩
    |succ j=>exact r2 j T m (by simpa using A) (by simpa using U)
 obtain⟨y,B,pa⟩:=N k f z D;have C:=rv.length;rw[ah]at C;have an:=B.length;refine tH (prog:=X.prog) (w:=X.w) (ps:=y) (I.ok.hd hc) ho G L J (by rw[bH];omega) (fun j u g a b=>?_) (by rw[bH,<-C];rw[ah]at M;exact M) fun h' tk hD kp=>?_
 ·have a':E[j]?=some u:=by simpa using a
  have hj:j<k.length:=by
   have:=(bN.mp a').1;omega
  obtain⟨u',e1,O⟩:=rv.get (i:=j) (x:=V.ref k[j]) (by simp[hj]);rw[a']at e1;cases e1;cases(show u=Value.ref k[j]from O);exact pa j k[j] g (by simp[hj]) b
 ·have hm:(kh [] f).length<=aj:=by
   have A:=oq f [];rw[List.length_nil]at A;rw[ah]at M;omega
  exact⟨.ref s.heap.objs.size,_,I.laid (o:=.dK (kh [] f)) kp (aD _) (IB hm (beq_eq_false_iff_ne.mpr (gx (bX I.big))) (B.merge .nil) hD),rfl,q _ I.fresh⟩
end
abbrev dD:R2:=EA fun i j=>.int (i+j)
abbrev mS:R2:=EA fun i j=>.int (i-j)
abbrev mT:R2:=rI IY fun i j=>.int (i * j)
abbrev jx:R2:=rI (fun _ j=>0<j) fun i j=>.int (i % j)
abbrev HF:R2:=rI Mm fun i j=>.int (i / j)
abbrev Ku:R2:=rI Ml fun i j=>.int (i ^ j.toNat)
abbrev Dg:R2:=EA fun i j=>.bl (decide (i<j))
abbrev rLeI:R2:=EA fun i j=>.bl (decide (i<=j))
abbrev HE:R2:=EA fun i j=>.bl (decide (j<i))
abbrev rGeI:R2:=EA fun i j=>.bl (decide (j<=i))
abbrev Ky:R2:=fun x y H Q=>∃i j,x=.str i/\y=.str j/\i.length+j.length<=aj/\Q (.str (i++j)) H
abbrev rInS:R2:=fun x y H Q=>∃c j,x=.str ⟨#[c]⟩/\y=.str j/\Q (.bl (decide (c∈j.cps.toList))) H
abbrev rIsi(K:Za):List V->Hp->VK->Prop:=fun xs H Q=>∃x c t b,xs=[x,.ty c]/\TyX K H x t/\Eh K t (.type c)=some b/\Q (.bl b) H
abbrev LI(K:Za):List V->Hp->VK->Prop:=fun xs H Q=>∃(p:Addr) (bs:List Bool),xs=[.ref p]/\aw K H p (bs.map V.bl)/\Q (.bl (bs.all id)) H
abbrev rAny(K:Za):List V->Hp->VK->Prop:=fun xs H Q=>∃(p:Addr) (bs:List Bool),xs=[.ref p]/\aw K H p (bs.map V.bl)/\Q (.bl (bs.any id)) H
abbrev Bl(K:Za):List V->Hp->VK->Prop:=fun xs H Q=>∃p ys,xs=[.ref p]/\((aw K H p ys/\∀l,H l=none->Q (.ref l) (upd H l (.tup ys)))∨(bP K H p ys/\Q (.ref p) H))
abbrev JF(K:Za):List V->Hp->VK->Prop:=fun xs H Q=>∃(l:Addr) (ts:Ze) (kvs:List (fR×V)),xs=[.ref l]/\aw K H l (ts.map V.ref)/\ts.length=kvs.length /\
  (∀(j:Nat) (t:Addr) (kv:fR×V),ts[j]?=some t->kvs[j]?=some kv->H t=some (.tup [kV kv.1,kv.2]))/\∀p,H p=none->Q (.ref p) (upd H p (.dK (kh [] kvs)))
abbrev dX(K:Za):List V->Hp->VK->Prop:=fun xs H Q =>
 (∃p ys,xs=[.ref p]/\(aw K H p ys∨bP K H p ys)/\∀l,H l=none->Q (.ref l) (upd H l (.lst ys))) ∨
 (∃(d:Addr) (kvs:List (fR×V)),xs=[.ref d]/\Rd H d (.dK kvs)/\∀l,H l=none->Q (.ref l) (upd H l (.lst (kvs.map fun kv=>kV kv.1))))
abbrev iH(K:Za):List V->Hp->VK->Prop:=fun xs H Q =>
 (∃p ys,xs=[.ref p]/\(aw K H p ys∨bP K H p ys)/\Q (.int ys.length) H)∨(∃z,xs=[.str z]/\z.length<=aj/\Q (.int z.length) H)
theorem IL:jf "isinstance"=some (.builtin "isinstance"):=by decide +kernel
theorem vQ:jf "list"=some (.type "list"):=by decide +kernel
theorem gD:jf "tuple"=some (.type "tuple"):=by decide +kernel
theorem DU:jf "dict"=some (.type "dict"):=by decide +kernel
theorem DV:jf "bool"=some (.type "bool"):=by decide +kernel
theorem GF:jf "int"=some (.type "int"):=by decide +kernel
section
variable{X:Cx}{p pos:Pos}
theorem GC:f_ X (.builtin "len") (iH X.K):=Al.or Ak
theorem DS(a:X.calm=true):f_ X (.type "list") (dX X.K):=Aj.or (vO a)
theorem Dm(a:Gl X "bool")(e:X.mg "bool"=none):PE X (.Name "bool" pos) (tC (.ty "bool")):=JN a e DV rfl
end
def Gc(mg:Str->Option Value)(x:Str)(v:V):Prop:=∃u,mg x=some u/\RelV v u
theorem mn{a:Pos}(e:Gl X x)(h:Gc X.mg x v)(f:(x==("__debug__":Str))=false:=by decide):PE X (.Name x a) (tC v):=by
 obtain⟨u,g,r⟩:=h;exact JK e g r f
structure fK(P:cn)(w:World)(K:Za)(mg:Str->Option Value)(base:Heap)(x:Str)(ps:Zb)(k:Nat)(sp:Sp):Prop where
 ex:∃f fd,nu P w K mg base CX0 k f fd ps sp/\mg x=some (.ref f)/\gG K (.ref f)=true/\Binds K fd ps []
structure Lw(P:cn)(w:World)(K:Za)(mg:Str->Option Value)(base:Heap)(x:Str)(C:Addr)(ps:Zb)(k:Nat)(sp:Sp):Prop where
 ex:∃f fd,nu P w K mg base CX0 k f fd ps sp/\mg x=some (.ref C)/\Mk K C f/\Binds K fd ps []
structure pF(P:cn)(w:World)(K:Za)(mg:Str->Option Value)(base:Heap)(C:Addr)(m:Str)(ps:Zb)(k:Nat)(sp:Sp):Prop where
 ex:∃f fd,nu P w K mg base CX0 k f fd ps sp/\Cu K C/\Km K C m f/\Binds K fd ps []
section
variable{X:Cx}{k:Nat}{ps:Zb}{sp:Sp}{x m:Str}{C:Addr}{p pos J5:Pos}{o e:Expr}{es:List Expr}{t:TA}{ta:TE}
theorem HN(D:fK X.prog X.w X.K X.mg X.base x ps k sp)(h:fJ k X.A)(i:Gl X x)(j:PA X (e::es) t)(a:(x==("__debug__":Str))=false:=by decide)
  (l:aM (e::es) X.env=(false,eval e X.env)::aM es X.env:=by rfl) (g:(backTo pos (aM es X.env)).any (·.1)=false:=by rfl) :
  PE X (.Call (.Name x p) (e::es) [] pos) (aL sp t):=by
 obtain⟨f,s,F,n,q,r⟩:=D.ex;exact JM F h i n q r .nil EK j a l g
theorem vc(D:Lw X.prog X.w X.K X.mg X.base x C ps k sp)(h:fJ (k+1) X.A)(i:Gl X x)(j:PA X (e::es) t)(a:(x==("__debug__":Str))=false:=by decide)
  (l:aM (e::es) X.env=(false,eval e X.env)::aM es X.env:=by rfl) (g:(backTo pos (aM es X.env)).any (·.1)=false:=by rfl) :
  PE X (.Call (.Name x p) (e::es) [] pos) (uQ C sp [] E0 t):=by
 obtain⟨f,r,F,n,M,q⟩:=D.ex;exact JJ M F h i n q .nil EK j a l g
theorem K8(M:pF X.prog X.w X.K X.mg X.base C m ps k sp)(i:fJ k X.A)(j:PE X o ta)(l:PA X (e::es) t)
  (a:aM (e::es) X.env=(false,eval e X.env)::aM es X.env:=by rfl) (g:(backTo pos (aM es X.env)).any (·.1)=false:=by rfl)
  (n:eval (.Call (.Attribute o m J5) (e::es) [] pos) X.env=(do
   let h <- eval o X.env
   sy J5.atName
   let(f,first) <- mj [h] (so h m pl)
   wU pos f first (backTo pos (aM (e::es) X.env)) (pG pos (lg [] X.env))):=by rfl) :
  PE X (.Call (.Attribute o m J5) (e::es) [] pos) (cq C m sp [] E0 ta t):=by
 obtain⟨f,s,F,c,q,r⟩:=M.ex;exact JI j c q F i r .nil EK l a g n
theorem JG(M:pF X.prog X.w X.K X.mg X.base C m ps k sp)(g:fJ k X.A)(h:PE X o ta)
  (i:eval (.Call (.Attribute o m J5) [] [] pos) X.env=(do
   let a <- eval o X.env
   sy J5.atName
   let(f,first) <- mj [a] (so a m pl)
   wU pos f first (backTo pos (aM [] X.env)) (pG pos (lg [] X.env))):=by rfl) :
  PE X (.Call (.Attribute o m J5) [] [] pos) (cq C m sp [] E0 ta bh):=by
 obtain⟨f,n,F,c,j,l⟩:=M.ex;exact HM h c j F g l .nil EK i
end
def LS(K:Za)(tl:TE):TI:=fun σ H R=>tl σ H fun x H1=>∃a,x=.ref a/\(((∃xs,aw K H1 a xs)/\R (IW K a) H1)∨((∃xs,bP K H1 a xs)/\R (KO K a) H1))
theorem K5(r:PE X l t):PI X C l (LS X.K t):=by
 intro n s σ H R I h;refine cJ (r n s σ H _ I h) fun v f ⟨x,j,g,u,w⟩=>?_;obtain⟨a,e,q⟩:=w;subst e;cases u;have i:∀b∈[f.heap.objs.size],og X n j b:=fun b y=>by
  have e:b=f.heap.objs.size:=by simpa using y
  subst e;exact g.fpOk (aD _) (g.hok.fresh (aD _))
 rcases q with⟨⟨z,k⟩,q⟩|⟨⟨z,k⟩,q⟩
 ·obtain⟨m,A,p,B⟩:=g.list k;refine AK p.isList ?_;exact⟨f.heap.objs.size,[f.heap.objs.size],_,_,j,rfl,g.kept (t':=f.toks) fun b o e=>a_ _ e,xb a _,⟨_,cG _ rfl,rfl,rfl⟩,i,q⟩
 ·obtain⟨m,A,p,B⟩:=g.tuple k;refine Ej p ?_;exact⟨f.heap.objs.size,[f.heap.objs.size],_,_,j,rfl,g.kept (t':=f.toks) fun b o e=>a_ _ e,uJ a _,⟨_,cG _ rfl,rfl,rfl⟩,i,q⟩
theorem m_{K:Za}{xs:List V}{g:TG}{k:TS}{D:si}{σ:St}{H:Hp}(Pv:Nat->St->Hp->Prop)(n:Pv 0 σ H)(o:∀i σ H,i<=xs.length->Pv i σ H->aw K H a xs)
  (r:∀i x σ H p,xs[i]?=some x->Pv i σ H->H p=none->g (.ref p) σ (upd H p (.tup [.int i,x])) fun σ2 j=>k { D with nx:=Pv (i+1),ct:=Pv (i+1),bk:=D.nx } σ2 j) (s:∀σ H,Pv xs.length σ H->D.nx σ H) :
  ∃W:Nat->Nat->St->Hp->Prop,(∃m,W 0 m σ H)/\∀i m σ H,W i m σ H ->
   ((Mg K a).stop i H/\D.nx σ H)∨((Mg K a).go i H/\∃N:St->Hp->Prop,(∀σ' f,N σ' f->∃l,l<m/\W (i+1) l σ' f)/\∀x f,(Mg K a).yld i H x f->g x σ f fun σ2 j=>k { D with nx:=N,ct:=N,bk:=D.nx } σ2 j):=by
 refine⟨fun i m σ H=>m=xs.length-i/\i<=xs.length/\Pv i σ H,⟨xs.length,by simp,dL _,n⟩,?_⟩;rintro i m σ H ⟨rfl,u,p⟩;have q:=o i σ H u p;by_cases h:i<xs.length
 ·refine .inr ⟨⟨xs,xs[i],q,by simp[h]⟩,Pv (i+1),fun σ' f w=>⟨xs.length-(i+1),by omega,rfl,h,w⟩,fun x f y=>?_⟩;obtain⟨t,v,rfl,z,A,rfl⟩:=y;exact r i v σ H t (A xs q) p z
 ·have e:i=xs.length:=by omega
  subst e;exact .inl ⟨⟨xs,q,aD _⟩,s σ H p⟩
def Wc(n:Nat)(Pv:Nat->List V->Hp->Prop):Nat->Nat->List V->Hp->Prop:=fun i m vs H=>m=n-i/\i<=n/\Pv i vs H
theorem mY{n i:Nat}{Pv:Nat->List V->Hp->Prop}{a:List V}{H:Hp}(f:i<n)(p:Pv (i+1) a H):∃e,e<n-i/\Wc n Pv (i+1) e a H:=⟨n-(i+1),by omega,rfl,f,p⟩
abbrev eC(k:Nat)(fi:List Nat)(σ:St)(J:It)(g:TG)(tc:TT)(te:TE)(H1:Hp)(l:Addr)(Q:Hp->Prop):Prop :=
 ∃W:Nat->Nat->List V->Hp->Prop,(∃m,W 0 m [] (upd H1 l (.lst [])))/\∀i m vs H2,W i m vs H2->H2 l=some (.lst vs) /\
  ((J.stop i H2/\Q H2)∨(J.go i H2/\∀x H3,J.yld i H2 x H3->g x (dH k fi σ) H3 fun σ2 H4=>tc σ2 H4 fun b H5 =>
   if b=true then te σ2 H5 fun v H6=>H6 l=some (.lst vs)/\vs.length<aj/\∃m',m'<m/\W (i+1) m' (vs++[v]) (upd H6 l (.lst (vs++[v])))else ∃m',m'<m/\W (i+1) m' vs H5))
theorem ni{J:It}{g:TG}{r:TT}{s:Hp}{Q:Hp->Prop}{l:Addr}(n:Nat)(Pv:Nat->List V->Hp->Prop)(w:Pv 0 [] (upd s l (.lst [])))
  (z:∀i a H,i<=n->Pv i a H->H l=some (.lst a)) (o:∀i a H,i<n->Pv i a H->J.go i H) (q:∀a H,Pv n a H->J.stop n H/\Q H)
  (A:∀i a H x j,i<n->Pv i a H->J.yld i H x j->g x (dH k B σ) j fun σ2 C=>r σ2 C fun b t =>
   if b=true then D σ2 t fun v u=>u l=some (.lst a)/\a.length<aj/\∃f,f<n-i/\Wc n Pv (i+1) f (a++[v]) (upd u l (.lst (a++[v])))else ∃f,f<n-i/\Wc n Pv (i+1) f a t) :
  eC k B σ J g r D s l Q:=by
 refine⟨Wc n Pv,⟨n,by simp[Wc],dL _,w⟩,?_⟩;rintro i m a H ⟨rfl,E,p⟩;refine⟨z i a H E p,?_⟩;by_cases h:i<n
 ·exact .inr ⟨o i a H h p,fun x j y=>A i a H x j h p y⟩
 ·have e:i=n:=by omega
  subst e;exact .inl (q a H p)
section
variable{K:Za}{k:Nat}{fi:List Nat}{g:TG}{tc:TT}{te:TE}{σ:St}{H1:Hp}{Q:Hp->Prop}{l:Addr}
theorem bY{xs:List V}(Pv:Nat->List V->Hp->Prop)(o:Pv 0 [] (upd H1 l (.lst [])))
  (j:∀i e H,i<=xs.length->Pv i e H->H l=some (.lst e)/\aw K H a xs) (q:∀e H,Pv xs.length e H->Q H)
  (r:∀i e H x,xs[i]?=some x->i<xs.length->Pv i e H->g x (dH k fi σ) H fun σ2 s=>tc σ2 s fun b m =>
   if b=true then te σ2 m fun v n=>n l=some (.lst e)/\e.length<aj/\∃h,h<xs.length-i/\Wc xs.length Pv (i+1) h (e++[v]) (upd n l (.lst (e++[v])))else ∃h,h<xs.length-i/\Wc xs.length Pv (i+1) h e m) :
  eC k fi σ (IW K a) g tc te H1 l Q:=by
 refine ni xs.length Pv o (fun i e H f p=>(j i e H f p).1) (fun i e H f p=>⟨xs,xs[i],(j i e H (cV f) p).2,by simp[f]⟩) (fun e H p=>⟨⟨xs,(j _ e H (aD _) p).2,aD _⟩,q e H p⟩) fun i e H x t f p y=>?_;obtain⟨rfl,y⟩:=y;exact r i e _ x (y xs (j i e _ (cV f) p).2) f p
theorem vJ{xs:List V}(Pv:Nat->List V->Hp->Prop)(o:Pv 0 [] (upd H1 l (.lst [])))
  (j:∀i e H,i<=xs.length->Pv i e H->H l=some (.lst e)/\bP K H a xs) (q:∀e H,Pv xs.length e H->Q H)
  (r:∀i e H x,xs[i]?=some x->i<xs.length->Pv i e H->g x (dH k fi σ) H fun σ2 s=>tc σ2 s fun b m =>
   if b=true then te σ2 m fun v n=>n l=some (.lst e)/\e.length<aj/\∃h,h<xs.length-i/\Wc xs.length Pv (i+1) h (e++[v]) (upd n l (.lst (e++[v])))else ∃h,h<xs.length-i/\Wc xs.length Pv (i+1) h e m) :
  eC k fi σ (KO K a) g tc te H1 l Q:=by
 refine ni xs.length Pv o (fun i e H f p=>(j i e H f p).1) (fun i e H f p=>⟨xs,xs[i],(j i e H (cV f) p).2,by simp[f]⟩) (fun e H p=>⟨⟨xs,(j _ e H (aD _) p).2,aD _⟩,q e H p⟩) fun i e H x t f p y=>?_;obtain⟨rfl,y⟩:=y;exact r i e _ x (y xs (j i e _ (cV f) p).2) f p
theorem DP{lo:Int}{n:Nat}(Pv:Nat->List V->Hp->Prop)(m:Pv 0 [] (upd H1 l (.lst [])))
  (o:∀i a H,i<=n->Pv i a H->H l=some (.lst a)) (q:∀a H,Pv n a H->Q H)
  (r:∀i a H,i<n->Pv i a H->g (.int (lo+i)) (dH k fi σ) H fun σ2 s=>tc σ2 s fun b h =>
   if b=true then te σ2 h fun v j=>j l=some (.lst a)/\a.length<aj/\∃e,e<n-i/\Wc n Pv (i+1) e (a++[v]) (upd j l (.lst (a++[v])))else ∃e,e<n-i/\Wc n Pv (i+1) e a h) :
  eC k fi σ (Lm lo n) g tc te H1 l Q:=by
 refine ni n Pv m o (fun i a H f p=>f) (fun a H p=>⟨aD _,q a H p⟩) fun i a H x t f p y=>?_;obtain⟨rfl,rfl⟩:=y;exact r i a _ f p
theorem II{x:Str}(Pv:Nat->List V->Hp->Prop)(m:Pv 0 [] (upd H1 l (.lst [])))
  (n:∀i a H,i<=x.cps.size->Pv i a H->H l=some (.lst a)) (o:∀a H,Pv x.cps.size a H->Q H)
  (q:∀i a H c,x.cps[i]?=some c->i<x.cps.size->Pv i a H->g (.str ⟨#[c]⟩) (dH k fi σ) H fun σ2 r=>tc σ2 r fun b h =>
   if b=true then te σ2 h fun v j=>j l=some (.lst a)/\a.length<aj/\∃e,e<x.cps.size-i/\Wc x.cps.size Pv (i+1) e (a++[v]) (upd j l (.lst (a++[v])))else ∃e,e<x.cps.size-i/\Wc x.cps.size Pv (i+1) e a h) :
  eC k fi σ (MD x) g tc te H1 l Q:=by
 refine ni x.cps.size Pv m n (fun i a H f p=>f) (fun a H p=>⟨aD _,o a H p⟩) fun i a H y u f p s=>?_;obtain⟨rfl,c,t,rfl⟩:=s;exact q i a _ c t f p
end
theorem gN{j:Nat}{x:V}{σ:St}{H:Hp}{Q:St->Hp->Prop}(h:Q (σ.set j (some x)) H):eQ j x σ H Q:=h
theorem pL{σ:St}{H:Hp}{A B:Hp->Prop}(h:A H):iS σ H (fun b a=>if b=true then A a else B a):=by
 show(if(true:Bool)=true then A H else B H)
 exact h
theorem xo{α β:Type}{F:α->β->Prop}:∀{e:List α}{f:List β},Paired F e f->∀{i:Nat}{a:α}{b:β},e[i]?=some a->f[i]?=some b->F a b
 |_,_,.nil,_,_,_,h,_=>by simp at h
 |_,_,.cons r t,0,_,_,h,g=>by simp at h g;subst h g;exact r
 |_,_,.cons r t,i+1,_,_,h,g=>by simp at h g;exact xo t h g
end L2
namespace L2
open PySem PySem.W
section
variable{X:Cx}
theorem yX:∀{f:List Int}{a:Zf},bb (f.map V.int) a->∃e:List (Int×Tok),a=e.map (fun p=>Value.int p.1 p.2)/\e.map (·.1)=f
 |[],_,r=>by cases r;exact⟨[],rfl,rfl⟩
 |n::f,_,r=>by
  cases r with
  |cons g h =>
   obtain⟨t,rfl⟩:=g;obtain⟨e,i,j⟩:=yX h;exact⟨(n,t)::e,by rw[i];rfl,by rw[bG,j]⟩
end
def Hh(K:Za)(td ty tv:TE):TS:=fun D σ H=>tv σ H fun v H1=>td σ H1 fun x H2=>ty σ H2 fun y H3 =>
 ∃(a b:Addr) (kvs:List (TK×V)) (k:TK),x=.ref a/\y=.ref b/\H3 a=some (.dT kvs)/\sU K H3 k (.ref b)/\k.depth<=8/\kvs.length<aj/\D.nx σ (upd H3 a (.dT (dq kvs k v)))
section
variable{X:Cx}{o i value:Expr}{pos pos':Pos}{td ty tv:TE}
theorem HJ(g:X.A.units+16<cLine)(j:PE X o td)(m:PE X i ty)(n:PE X value tv)(p:sw value (some (.Subscript o i pos')) pos.line X.env=pure false):
  PS X (.Assign [.Subscript o i pos'] value pos) (Hh X.K td ty tv):=by
 intro f s σ H D I h;refine wpAny_Assign_Subscript (cJ (n f s σ H _ I h) fun r q ⟨v,t,w,z,B⟩=>cJ (j f q σ t _ w B) fun u C ⟨x,E,G,J,L⟩=>cJ (m f C σ E _ G L) fun iv s3 ⟨y,H3,M,N,a,b,O,k,ex,Q,e,T,U,l,Y⟩=>?_) p;subst ex;subst Q;obtain rfl:u=Value.ref a:=J;exact DM g M e T U l N z fun s4 I4=>⟨σ,_,I4,Y⟩
end
theorem xg{K:Za}:∀a:List Str,TKCs K H (a.map fun x=>TK.k (some (.inr x))) (a.map V.str)
 |[]=>by show TKCs K H [] [];unfold TKCs;rfl
 |x::a=>by
  rw[bG,bG];unfold TKCs;refine⟨_,_,rfl,?_,xg a⟩;unfold sU
  rfl
theorem G9{K:Za}{e:Zb}(h:cF K H a (e.map V.str)):sU K H (.t (e.map fun x=>TK.k (some (.inr x)))) (.ref a):=by
 unfold sU;exact⟨a,_,rfl,h,xg e⟩
end L2
end

section
set_option Elab.async false
set_option linter.all false
set_option maxRecDepth 100000
namespace L2
open PySem PySem.Spec PyProof.Rows PySem.W
def Ko:Expr->List Str
 |.Name x _=>[x]
 |.Tuple es _ _=>es.filterMap fun e=>match e with | .Name x _=>some x|_=>none
 |_=>[]
theorem bK{t:TS}{D:si}{σ:St}{H:Hp}(r:t D σ H)(p:Ct X b t):∃t,Ct X b t/\t D σ H:=⟨t,p,r⟩
section
variable{X:Cx}{k k0:Nat}{ps:Zb}{sp:Sp}{x m:Str}{C:Addr}{p pos J5:Pos}{o e a b:Expr}{es:List Expr}{t:TA}{ta tb te:TE}
theorem qf(h:fJ k0 X.A)(D:fK X.prog X.w X.K X.mg X.base x ps k sp)(i:PA X (e::es) t)(hk:k<=k0:=by decide)(j:Gl X x:=by rfl)(f:(x==("__debug__":Str))=false:=by decide)
  (l:aM (e::es) X.env=(false,eval e X.env)::aM es X.env:=by rfl) (g:(backTo pos (aM es X.env)).any (·.1)=false:=by rfl) :
  PE X (.Call (.Name x p) (e::es) [] pos) (aL sp t):=HN D (h.mono hk) j i f l g
theorem qm(j:fJ k0 X.A)(M:pF X.prog X.w X.K X.mg X.base C m ps k sp)(l:PE X o ta)(n:PA X (e::es) t)(hk:k<=k0:=by decide)
  (g:aM (e::es) X.env=(false,eval e X.env)::aM es X.env:=by rfl) (h:(backTo pos (aM es X.env)).any (·.1)=false:=by rfl)
  (q:eval (.Call (.Attribute o m J5) (e::es) [] pos) X.env=(do
   let i <- eval o X.env
   sy J5.atName
   let(f,first) <- mj [i] (so i m r)
   wU pos f first (backTo pos (aM (e::es) X.env)) (pG pos (lg [] X.env))):=by rfl) :
  PE X (.Call (.Attribute o m J5) (e::es) [] pos) (cq C m sp [] E0 ta t):=K8 (pl:=r) M (j.mono hk) l n g h q
theorem HH(h:fJ k0 X.A)(M:pF X.prog X.w X.K X.mg X.base C m ps k sp)(i:PE X o ta)(j:k<=k0:=by decide)
  (l:eval (.Call (.Attribute o m J5) [] [] pos) X.env=(do
   let g <- eval o X.env
   sy J5.atName
   let(f,first) <- mj [g] (so g m n)
   wU pos f first (backTo pos (aM [] X.env)) (pG pos (lg [] X.env))):=by rfl) :
  PE X (.Call (.Attribute o m J5) [] [] pos) (cq C m sp [] E0 ta bh):=JG (pl:=n) M (h.mono j) i l
theorem xl(f:PE X a ta)(g:PE X b tb)(h:GK b:=by exact fun _ _=>rfl):PE X (.Subscript a b pos) (aH (dY X.K) ta tb):=EI EV f g h
theorem xt(f:PE X a ta)(g:PE X b tb)(h:GK b:=by exact fun _ _=>rfl):PE X (.Subscript a b pos) (aH (jy X.K) ta tb):=EI Ik f g h
theorem xq(f:PE X a ta)(g:PE X b tb)(h:GK b:=by exact fun _ _=>rfl):PE X (.Subscript a b pos) (aH (sH X.K) ta tb):=EI Lc f g h
theorem xs'(f:PE X a ta)(g:PE X b tb)(h:GK b:=by exact fun _ _=>rfl):PE X (.Subscript a b pos) (aH HD ta tb):=EI Il f g h
theorem iZ(g:oy X (fT f) r)(h:PE X a ta)(i:PE X b tb)(j:ml f b=false:=by exact HW _):PT X (.Compare a [f] [b] pos) (aU (aH r ta tb)):=EC g h i j
theorem Ls(g:oy X (fT f) r)(h:PE X a ta)(i:PE X b tb)(j:ml f b=false:=by exact HW _):PE X (.Compare a [f] [b] pos) (aH r ta tb):=EJ g h i j
theorem Jh(g:oy X (fT f) r)(h:PE X a ta)(i:PE X b tb)(j:ml f b=false:=by with_unfolding_all rfl):PT X (.Compare a [f] [b] pos) (aU (aH r ta tb)):=EC g h i j
theorem eci(g:oy X (fT f) r)(h:PE X a ta)(i:PE X b tb)(j:ml f b=false:=by with_unfolding_all rfl):PE X (.Compare a [f] [b] pos) (aH r ta tb):=EJ g h i j
theorem qB{id:String}(h:f_ X (.builtin id) r)(i:X.mg x=none)(j:jf x=some (.builtin id))(l:PA X (e::es) t)(n:Gl X x:=by rfl)(q:x≠"__name__":=by decide)(f:(x==("__debug__":Str))=false:=by decide)
  (s:aM (e::es) X.env=(false,eval e X.env)::aM es X.env:=by rfl) (g:(backTo pos (aM es X.env)).any (·.1)=false:=by rfl):PE X (.Call (.Name x p) (e::es) [] pos) (gP r t):=Bq h n i j l q f s g
theorem qL(g:X.calm=true)(h:X.mg "list"=none)(i:PA X (e::es) t)(j:Gl X "list":=by rfl)
  (l:aM (e::es) X.env=(false,eval e X.env)::aM es X.env:=by rfl) (f:(backTo pos (aM es X.env)).any (·.1)=false:=by rfl):PE X (.Call (.Name "list" p) (e::es) [] pos) (gP (dX X.K) t):=gC (DS g) j h vQ i (by decide) (by decide) l f
theorem ql(g:X.mg "len"=none)(h:PA X (e::es) t)(i:Gl X "len":=by rfl)
  (j:aM (e::es) X.env=(false,eval e X.env)::aM es X.env:=by rfl) (f:(backTo pos (aM es X.env)).any (·.1)=false:=by rfl):PE X (.Call (.Name "len" p) (e::es) [] pos) (gP (iH X.K) t):=Bq GC i g PySem.boot_len h (by decide) (by decide) j f
theorem qs(i:Nat){f:Pos}(g:X.N.Nodup)(h:PE X e te)(j:X.N[i]?=some x:=by rfl)(l:Loc X.env.scope x:=by first|exact Or.inl rfl|exact Or.inr rfl)(n:sw e (some (.Name x f)) pos.line X.env=pure false:=by rfl)(q:X.fn x=true∨X.env.scope.names.lookup x=some .local:=by first|exact .inl rfl|exact .inr rfl|assumption):
  PS X (.Assign [.Name x f] e pos) (aN te (eQ i)):=K2 g j l h n q
theorem gn(i:Nat)(f:X.N.Nodup)(g:X.N[i]?=some x:=by rfl)(h:Loc X.env.scope x:=by first|exact Or.inl rfl|exact Or.inr rfl)(j:X.fn x=true∨X.env.scope.names.lookup x=some .local:=by first|exact .inl rfl|exact .inr rfl|assumption):PG X (.Name x pos) (eQ i):=EF f g h j
theorem gc(i:Nat)(f:X.N.Nodup:=by exact of_decide_eq_true (by with_unfolding_all rfl))(g:X.N[i]?=some x:=by rfl)(h:Loc X.env.scope x:=by exact Or.inl rfl)(j:X.fn x=true∨X.env.scope.names.lookup x=some .local:=by first|exact .inl rfl|exact .inr rfl|assumption):PG X (.Name x pos) (eQ i):=EF f g h j
theorem a1(f:PE X a ta)(g:aM [a] X.env=(false,eval a X.env)::aM [] X.env:=by rfl):PA X [a] (am ta bh):=aG f cA g
theorem a2(g:PE X a ta)(h:PE X b tb)(i:aM [a,b] X.env=(false,eval a X.env)::aM [b] X.env:=by rfl)(f:aM [b] X.env=(false,eval b X.env)::aM [] X.env:=by rfl):PA X [a,b] (am ta (am tb bh)):=aG g (aG h cA f) i
theorem a3(h:PE X a ta)(i:PE X b tb)(j:PE X c l)(n:aM [a,b,c] X.env=(false,eval a X.env)::aM [b,c] X.env:=by rfl)(f:aM [b,c] X.env=(false,eval b X.env)::aM [c] X.env:=by rfl)(g:aM [c] X.env=(false,eval c X.env)::aM [] X.env:=by rfl):PA X [a,b,c] (am ta (am tb (am l bh))):=aG h (a2 i j f g) n
variable{elt iter tg:Expr}{ifs:List Expr}{scope:Scope}{fi:List Nat}{wi:TI}{g:TG}{tc:TT}
theorem qc(q:PI X tg iter wi)(r:Ca k g)
  (h:∀C l f j ex n,PG (d6 X (Ko tg++fi.map fun i=>X.N.getD i "") scope C l f j ex n) tg g/\KN (d6 X (Ko tg++fi.map fun i=>X.N.getD i "") scope C l f j ex n) ifs tc/\PE (d6 X (Ko tg++fi.map fun i=>X.N.getD i "") scope C l f j ex n) elt te)
  (s:nR X.env.scope scope k (Ko tg++fi.map fun i=>X.N.getD i "") X.N fi=true:=by with_unfolding_all rfl) (u:X.calm=true:=by rfl)
  (v:∀x,AJ iter X.env x=pure x:=by intro _;rfl):PE X (.ListComp elt [⟨tg,iter,ifs,0⟩] scope pos) (cI k fi wi g tc te) :=
 JL s u q (fun _ _ _ _ _ _=>(h _ _ _ _ _ _).1) r (fun _ _ _ _ _ _=>(h _ _ _ _ _ _).2.1) (fun _ _ _ _ _ _=>(h _ _ _ _ _ _).2.2) v
theorem LJ(j:Nat){y:Str}{n u:Pos}(v:X.N.Nodup)(w:PI X tg iter wi)(z:Ca k g)
  (h:∀C q f l ex r,PG (d6 X (Ko tg++fi.map fun i=>X.N.getD i "") scope C q f l ex r) tg g/\KN (d6 X (Ko tg++fi.map fun i=>X.N.getD i "") scope C q f l ex r) ifs tc/\PE (d6 X (Ko tg++fi.map fun i=>X.N.getD i "") scope C q f l ex r) elt te)
  (A:X.N[j]?=some y:=by rfl) (B:Loc X.env.scope y:=by first|exact Or.inl rfl|exact Or.inr rfl)
  (D:nR X.env.scope scope k (Ko tg++fi.map fun i=>X.N.getD i "") X.N fi=true:=by with_unfolding_all rfl) (E:X.calm=true:=by rfl)
  (s:sw (.ListComp elt [⟨tg,iter,ifs,0⟩] scope pos) (some (.Name y u)) n.line X.env=pure true:=by rfl)
  (G:∀x,AJ iter X.env x=pure x:=by intro _;rfl) (H:X.fn y=true∨X.env.scope.names.lookup y=some .local:=by first|exact .inl rfl|exact .inr rfl|assumption) :
  PS X (.Assign [.Name y u] (.ListComp elt [⟨tg,iter,ifs,0⟩] scope pos) n) (aN (cI k fi wi g tc te) (eQ j)) :=
 Dj v A B D E w (fun _ _ _ _ _ _=>(h _ _ _ _ _ _).1) z (fun _ _ _ _ _ _=>(h _ _ _ _ _ _).2.1) (fun _ _ _ _ _ _=>(h _ _ _ _ _ _).2.2) s G H
end
end L2
end

section
set_option Elab.async false
set_option linter.all false
set_option maxRecDepth 100000
namespace L2
open PySem PySem.Spec PyProof.Rows
structure IR(h:Heap)(d:Addr)(es:Array q_)(ep:Nat):Prop where
 ex:∃o,h.get? d=some o/\o.ExactDict/\o.data=.dict es ep
section
variable{prog:cn}{w:World}{A:Around}{E:Zc}{s:Shared}{d v it:Addr}{es:Array q_}{ep i:Nat}
theorem IR.ty(h:IR s.heap d es ep):s.TypeIs (.ref d) "dict":=let⟨o,a,e,_⟩:=h.ex;⟨o,a,e.1⟩
end
structure Ln(P:cn)(w:World)(K:Za)(d:Addr)(o:Obj)(u:HO)(n:Nat)(ent:Nat->Hp->V->V->Prop)(es:Array q_)(ep:Nat):Prop where
 ex:o.ExactDict
 dat:o.data=.dict es ep
 sz:es.size=n
 get:∀{H:Hp}{h:Heap}{i:Nat}(hi:i<es.size),nS P w K H h->H d=some (.frz o u)->∃a b,ent i H a b/\RelV a es[i].key/\RelV b es[i].val
def JZ(K:Za)(kvs:List (TK×V)):Nat->Hp->V->V->Prop:=fun i H a b=>∃k,kvs[i]?=some (k,b)/\sU K H k a
theorem xD{K:Za}{d:Addr}{o:Obj}{f:List (TK×V)}(s:nS P w K H h)(e:H d=some (.frz o (.dT f))):
  (d==iX)=false/\∃es t,Ln P w K d o (.dT f) f.length (JZ K f) es t:=by
 obtain⟨g,z,n,D,u,o',es,t,p,ex,y,v,nd⟩:=(show cy P w K H h d (.frz o (.dT f))from s d _ e);rw[g]at p;cases p;have E:es.size=D.length:=by rw[<-mC,v,ah]
 refine⟨n,es,t,ex,y,by rw[E,Paired.length u],fun{G I i} J q L=>?_⟩;obtain⟨M,z',x,xs',j,N,O,Q,k,T,r,l,U⟩:=(show cy P w K G I d (.frz o (.dT f))from q d _ L);rw[M]at k;cases k;rw[y]at r;cases r;have Y:es.size=xs'.length:=by rw[<-mC,l,ah]
 have m:i<xs'.length:=by omega
 have A:i<f.length:=by rw[Paired.length j];exact m
 have B:=xo j (i:=i) (a:=f[i]) (b:=xs'[i]) (by simp[A]) (by simp[m]);have C:es[i]=entryOfKey (eW P w) xs'[i]:=by
  have:es.toList[i]?=some es[i]:=by simp[J]
  rw[l,cH,de m]at this;injection this with this;exact this.symm
 refine⟨.ref xs'[i].2.1,f[i].2,⟨f[i].1,by simp[A],B.2.1⟩,?_,?_⟩
 ·rw[C];exact rfl
 ·rw[C];exact B.2.2.2
end L2
end

section
set_option Elab.async false
set_option linter.all false
set_option maxRecDepth 100000
namespace L2
open PySem PySem.Spec PyProof.Rows
section
variable{prog:cn}{w:World}{A:Around}{E:Zc}{s:Shared}{d v it:Addr}{es:Array q_}{ep i:Nat}
theorem FS{Q:Zc}(j:(d==iX)=false)(h:IR s.heap d es ep)
  (q:∀f,f.IsKeyIter s.heap.objs.size d 0 es.size ep->(∀b o,s.heap.get? b=some o->f.get? b=some o)->Q (.ref s.heap.objs.size) { s with heap:=f }):wpAny (model prog w) A (pyIter (.ref d)) Q E s:=by
 obtain⟨o,g,k,a⟩:=h.ex;refine wpAny_pyIter_slot h.ty F.slot_dict_iter <| ug F.slot_dict_iter h.ty F.entry_dict_iter ?_ (F.args_dict_iter_1 _);unfold bQ.«dict.__iter__»;refine ak ?_;unfold bQ.Dict.dictSlotNone;refine ak <| wpAny_notOrdered_dict h.ty <| ?_;refine aP (show wpAny _ _ (bQ.Dict.showsAll d >>= _) _ _ s from ?_);unfold bQ.Dict.showsAll;rw[if_neg (fun z=>by rw[j]at z;cases z)];refine ak <| aP <| ak <| ym g a <| ak <| wpAny_dictEpoch g a ?_;refine ak (lc (aP ⟨_,rfl,"dict_keyiterator",_,⟨_,cG _ rfl,rfl⟩,uq.lookup,?_⟩));exact q _ ⟨_,cG _ rfl,rfl,by simp[rawInt]⟩ fun b o e=>a_ _ e
theorem FR{Q:Option Value->Shared->Prop}(j:s.heap.IsKeyIter it d i es.size ep)(h:IR s.heap d es ep)(p:i<es.size)
  (q:∀k,k.IsKeyIter it d (i+1) es.size ep->iW it s.heap k->Q (some es[i].key) { s with heap:=k }):wpAny (model prog w) A (pyNext (.ref it)) Q E s:=by
 obtain⟨t,f,l,a⟩:=id j;obtain⟨o,m,u,e⟩:=h.ex;have g:=j.typeIs;unfold pyNext;refine ak <| qY <| mJ (name:=gL "__next__") g uq <| ug uq g F.entry_dict_keyiterator_next ?_ (F.args_dict_keyiterator_next_1 _);refine ak <| aP <| ak <| ak ?_
 first|refine ak <| yj g <| aP ?_|refine ak <| yi g <| aP ?_
 refine ak <| wpAny_fieldsOf f a ?_;simp only[show bQ.Dict_items.ownsTuple "dict_keyiterator"=false by decide,kB,if_false];show wpAny _ _ (if(Value.ref d==Value.none)=true then _ else _) _ _ _
 rw[if_neg (show ¬((Value.ref d==Value.none)=true)from iB)];refine ak <| aP <| ak <| ym m e ?_;rw[if_neg (by simp)];refine ak <| aP <| ak <| wpAny_dictEpoch m e ?_;rw[if_neg (by simp)];refine aP ?_;simp only[show ¬((i:Int)<0)from by omega,if_false,lf,lb p];refine ak ?_
 first|refine ak <| yj g <| aP ?_|refine ak <| yi g <| aP ?_
 refine ak <| wpAny_isOneOf_keyiter g ?_;show wpAny _ _ (setField (.ref it) 1 (rawInt ((i:Int)+1)) >>= _) _ _ s;refine ak <| yE f a (by simp) ?_;have n:(s.heap.update it (Obj.mapFields (·.setIfInBounds 1 (rawInt ((i:Int)+1))))).IsKeyIter it d (i+1) es.size ep:=⟨_,jo _ f (Obj.isFreed_of_fields (yD a _)),(Obj.cls_mapFields ..).trans l,by rw[yD a];simp[rawInt]⟩;have r:=Heap.IsKeyIter.typeIs (s:={ s with heap:=s.heap.update it (Obj.mapFields (·.setIfInBounds 1 (rawInt ((i:Int)+1)))) }) n;refine ak <| jm <| ak <| wpAny_isOneOf_keyiter r ?_;show wpAny _ _ (pure es[i].key) _ _ _;exact aP <| aP ⟨_,rfl,aP <| q _ n (oJ ..)⟩
theorem HA{Q:Option Value->Shared->Prop}(p:A.handled=none)(g:s.heap.IsKeyIter it d i es.size ep)(h:IR s.heap d es ep)(r:es.size<=i)
  (q:∀l,Heap.ExtBut it s.heap l->Q none { s with heap:=l }):wpAny (model prog w) A (pyNext (.ref it)) Q E s:=by
 obtain⟨u,j,t,k⟩:=id g;obtain⟨o,n,x,e⟩:=h.ex;have f:=g.typeIs;unfold pyNext;refine ak <| qY <| mJ (name:=gL "__next__") f uq <| ug uq f F.entry_dict_keyiterator_next ?_ (F.args_dict_keyiterator_next_1 _);refine ak <| aP <| ak <| ak ?_
 first|refine ak <| yj f <| aP ?_|refine ak <| yi f <| aP ?_
 refine ak <| wpAny_fieldsOf j k ?_;simp only[show bQ.Dict_items.ownsTuple "dict_keyiterator"=false by decide,kB,if_false];show wpAny _ _ (if(Value.ref d==Value.none)=true then _ else _) _ _ _
 rw[if_neg (show ¬((Value.ref d==Value.none)=true)from iB)];refine ak <| aP <| ak <| ym n e ?_;rw[if_neg (by simp)];refine ak <| aP <| ak <| wpAny_dictEpoch n e ?_;rw[if_neg (by simp)];refine aP ?_;simp only[show ¬((i:Int)<0)from by omega,if_false,lf,uo r];refine ak ?_
 first|refine ak <| yj f <| aP ?_|refine ak <| yi f <| aP ?_
 show wpAny _ _ (setField (.ref it) 0 .none >>= _) _ _ s;refine ak <| yE j k (by simp) ?_;show wpAny _ _ (newExc (.type "StopIteration") [] >>= _) _ _ _;refine ak ?_;simp only[newExc,newTuple];refine ak <| lc ?_ (by size_fits);refine ak (m:=yC _ _) <| yB (a:=Value.none) (by first|rfl|(simp only[yC];rfl)) <| lc ?_ (by size_fits)
 simp only[raiseNew];refine ak <| wpAny_handled ?_;rw[show A.in1.handled=none from p];refine ak <| aP <| wpAny_throw ?_;refine ak (AL (b:=true) (T:="StopIteration") ⟨_,cG _ rfl,rfl⟩ isSubtype_stop (aP (q _ (((oJ ..).extBut.push _).push _))))
end
def Ly(d:Addr)(o:Obj)(u:HO)(n:Nat)(ent:Nat->Hp->V->V->Prop):It :=
 ⟨fun i H=>H d=some (.frz o u)/\i<n,fun i H x H'=>H'=H/\∃b,ent i H x b,fun i H=>H d=some (.frz o u)/\n<=i⟩
theorem Ft{K:Za}{it:Addr}(f:Ln P w K d o u n t Q T):
  tJ P w K tg (Ly d o u n t) [it] it (fun i h=>h.IsKeyIter it d i n T) where
 mem:=by simp
 obj:=fun i h st b j=>by
  have e:b=it:=by simpa using j
  subst e;obtain⟨o,e,c,d⟩:=st;exact⟨o,e,fun v z=>by rw[d]at z;cases z⟩
 keep:=fun i h p st k=>st.at fun o e=>k it (by simp) o e
 item:=by
  intro X x y A N i O s σ H E I q st B;subst x y A;obtain⟨r,C⟩:=B;have l:i<Q.size:=by rw[f.sz];exact C
  obtain⟨g,U⟩:=(show cy X.prog X.w X.K H s.heap d (.frz o u)from I.hok d _ r);obtain⟨a,b,Y,ra,rb⟩:=f.get l I.hok r;obtain⟨D,G,f2,J,L,M⟩:=q it (by simp);rw[<-f.sz]at st;refine FR st ⟨o,g,f.ex,f.dat⟩ l fun p m sb=>?_;have I1:Inv X O σ H { s with heap:=p }:=I.turned (t':=s.toks) (fun b o j e=>(sb.2 b j).trans e) D G J L M;obtain⟨oi,e,c,dd⟩:=id m;exact⟨_,rfl,vz (s:={ s with heap:=p }) e c dd (by decide) ⟨a,H,I1,ra,⟨rfl,b,Y⟩,by rw[<-f.sz];exact m,fun b j=>(q b j).1⟩⟩
 done:=by
  intro X x y A N i O s σ H E I q st B;subst x y A;obtain⟨r,C⟩:=B;obtain⟨g,U⟩:=(show cy X.prog X.w X.K H s.heap d (.frz o u)from I.hok d _ r);obtain⟨D,G,f2,J,L,M⟩:=q it (by simp);rw[<-f.sz]at st;exact HA (I.ok.hd N) st ⟨o,g,f.ex,f.dat⟩ (by rw[f.sz];exact C) fun p eb=>⟨rfl,I.turned (t':=s.toks) (fun b o j e=>eb b o j e) D G J L M⟩
 self:=fun _ _ _ _ _ st h=>wpAny_pyIter_keyiter st h
def Ip(K:Za)(tl:TE):TI:=fun σ H R=>tl σ H fun x H1=>∃d kvs,x=.ref d /\
 ((H1 d=some (.dT kvs)/\∀o,R (Ly d o (.dT kvs) kvs.length (JZ K kvs)) (upd H1 d (.frz o (.dT kvs))))∨∃o,H1 d=some (.frz o (.dT kvs))/\R (Ly d o (.dT kvs) kvs.length (JZ K kvs)) H1)
section
variable{X:Cx}{J3:Zd}{σ:St}{l tg:Expr}{tl:TE}
theorem xz{R:It->Hp->Prop}(h:Ln X.prog X.w X.K d o u n j t v)(a:(d==iX)=false)(i:Inv X J3 σ f s1)(e:f d=some (.frz o u))(q:R (Ly d o u n j) f):
  wpAny (model X.prog X.w) X.A (pyIter (.ref d)) (PIE X J3 σ tg R) X.xe s1:=by
 obtain⟨g,_⟩:=(show cy X.prog X.w X.K f s1.heap d (.frz o u)from i.hok d _ e);refine FS a ⟨o,g,h.ex,h.dat⟩ fun m k p=>?_;have r:Inv X J3 σ f { s1 with heap:=m,toks:=s1.toks }:=i.kept (t':=s1.toks) p;refine⟨_,[_],_,_,f,rfl,r,Ft h,by rw[<-h.sz];exact k,fun b s=>?_,q⟩;have e:b=s1.heap.objs.size:=by simpa using s
 subst e;exact i.fpOk (aD _) (i.hok.fresh (aD _))
theorem HK(C:PE X l tl):PI X tg l (Ip X.K tl):=by
 intro J3 s σ H R I h;refine cJ (C J3 s σ H _ I h) fun v s1 ⟨x,k,j,D,d,g,ex,q⟩=>?_;subst ex;cases D;rcases q with⟨e,q⟩|⟨o,e,q⟩
 ·obtain⟨z,i,xs',m,o,E,G,n,r⟩:=id (show cy X.prog X.w X.K k s1.heap d (.dT g)from j.hok d _ e);have B:Inv X J3 σ (upd k d (.frz o (.dT g))) { s1 with heap:=s1.heap,toks:=s1.toks } :=
   j.write (x:=d) (e:=d) (t':=s1.toks) (by rw[e];trivial) (.inl rfl) (fun _ _ _ q=>q) ⟨o,n⟩ ⟨n,z,i,xs',Paired.mapP m (fun p q r=>⟨r.1,sU.keeps (fun b J t=>by rw[ai (fun z=>by rw[z,e]at t;cases t)];exact t) 8 r.2.2.1 r.2.1,r.2.2⟩),o,E,G,n,r⟩
  obtain⟨f,u,y,A⟩:=xD B.hok (aa (H:=k) (a:=d));exact xz A f B aa (q o)
 ·obtain⟨f,u,y,A⟩:=xD j.hok e;exact xz A f j e q
end
end L2
end

section
set_option Elab.async false
set_option linter.all false
set_option maxRecDepth 100000
namespace HT
open PySem PySem.Spec PyProof.Rows
end HT
namespace L2
open PySem PySem.Spec PyProof.Rows
end L2
namespace HT
open PySem PySem.Spec PyProof.Rows
end HT
namespace L2
open PySem PySem.Spec PyProof.Rows
end L2
end

section
set_option Elab.async false
set_option linter.all false
set_option maxRecDepth 100000
namespace HT
open PySem PyProof.Rows
end HT
namespace L2
open PySem PySem.Spec PyProof.Rows
inductive Mz{T0 T1:Type}(P:T0->T1->Prop):Prop
 |mk (x0:T0) (x1:T1):P x0 x1->Mz P
inductive Mb{T0 T1 T2:Type}(P:T0->T1->T2->Prop):Prop
 |mk (x0:T0) (x1:T1) (x2:T2):P x0 x1 x2->Mb P
inductive NE4{T0 T1 T2 T3:Type}(P:T0->T1->T2->T3->Prop):Prop
 |mk (x0:T0) (x1:T1) (x2:T2) (x3:T3):P x0 x1 x2 x3->NE4 P
inductive NE5{T0 T1 T2 T3 T4:Type}(P:T0->T1->T2->T3->T4->Prop):Prop
 |mk (x0:T0) (x1:T1) (x2:T2) (x3:T3) (x4:T4):P x0 x1 x2 x3 x4->NE5 P
inductive Mc(p0 p1 p2 p3 p4:Prop):Prop
 |mk:p0->p1->p2->p3->p4->Mc p0 p1 p2 p3 p4
inductive MB(p0 p1 p2 p3 p4 p5:Prop):Prop
 |mk:p0->p1->p2->p3->p4->p5->MB p0 p1 p2 p3 p4 p5
theorem xG{f g:Nat->Option Value}:∀{l:List Nat},(∀m∈l,f m=g m)->l.filterMap f=l.filterMap g
 |[],_=>rfl
 |a::l,h=>by rw[w6,w6,h a cW,xG fun m e=>h m (c_ _ e)]
theorem u5:∀a:List Value,(mm a.length).filterMap (fun m=>a[m]?)=a
 |[]=>rfl
 |y::a=>by
  rw[fS,List.range_succ_eq_map,w6,List.filterMap_map];simp only[List.getElem?_cons_zero];congr 1;exact u5 a
theorem Df(n:Nat):uu ((n:Int)-1) (-1) (-1)=(mm n).map fun(k:Nat)=>((n:Int)-1+(-1) * (k:Int)).toNat:=by
 unfold uu;have e:(if(-1:Int) > 0 then if(n:Int)-1 < -1 then(-1-((n:Int)-1)+-1-1) / -1 else 0 else if(n:Int)-1 > -1 then((n:Int)-1 - -1 - -1-1) / - -1 else 0).toNat=n:=by
  rw[if_neg (by decide)];by_cases h:(n:Int)-1 > -1
  ·rw[if_pos h,show((n:Int)-1 - -1 - -1-1)=n by omega,show(- -1:Int)=1 by decide,Int.ediv_one];omega
  ·rw[if_neg h];omega
 simp only[e]
theorem wB(a:Zf):yO a.toArray none none (some (-1))=a.reverse.toArray:=by
 have e:yO a.toArray none none (some (-1))=((uu ((a.toArray.size:Int)-1) (-1) (-1)).filterMap fun m=>a.toArray[m]?).toArray:=rfl;rw[e,bH,Df,List.filterMap_map];congr 1;have h:=u5 a.reverse;rw[eK]at h;refine Eq.trans (xG fun m f=>?_) h;have lt:=List.mem_range.1 f;have g:((a.length:Int)-1+(-1) * (m:Int)).toNat=a.length-1-m:=by omega
 show a.toArray[((a.length:Int)-1+(-1) * (m:Int)).toNat]?=_;rw[g,qV lt,List.getElem?_toArray]
def Hd(K:Za)(te:TE):TE:=fun σ H Q=>te σ H fun x H1=>∃a xs,x=.ref a/\aw K H1 a xs/\∀p,H1 p=none->Q (.ref p) (upd H1 p (.lst xs.reverse))
theorem EH{st:Expr}{m j:Pos}(z:PE X e B)(k:PE X st (Mt (rU fun i=>.int (-i)) (tC (.int 1)))):PE X (.Subscript e (.Slice none none (some st) m) j) (Hd X.K B):=by
 intro g s σ H Q I h;refine yS (cJ (z g s σ H _ I h) fun v C ⟨x,n,D,E,a,G,J,L,q⟩=>?_);subst J;cases E;refine wpAny_Slice ?_;rw[evalPart_none];refine aP ?_;refine aP ?_;rw[evalPart_some];refine cJ (k g C σ n (fun x M=>x=.int (-1)/\M=n) D ⟨_,rfl,rfl,rfl⟩) fun vu f ⟨y,N,O,T,U,Y⟩=>?_;subst U Y;obtain⟨u,rfl⟩:=T;have l:Inv X g σ N { f with heap:=f.heap.push { cls:=.type "slice",data:=.fields #[.none,.none,.int (-1) u] } }:=O.kept (t':=f.toks) fun b ob q=>a_ _ q;obtain⟨al,r,p,hz⟩:=l.list L;show wpAny (model X.prog X.w) X.A (yR e (.Slice none none (some st) m) (.ref a) (.ref f.heap.objs.size)) (EP X g σ Q) X.xe { f with heap:=f.heap.push { cls:=.type "slice",data:=.fields #[.none,.none,.int (-1) u] } };have t:=r.length;refine tail_any (ops:=[.ref a,.ref f.heap.objs.size]) p.isList.typeIs slot_list_getitem.lookup (wpAny_getItem_list_slice p.isList (Heap.IsSliceOf.new ..) .none .none (.int (-1) u) (by simp) ?_ (by rw[bH]<;>omega)) (by with_unfolding_all rfl);rw[wB];refine⟨.ref _,_,l.laid (t':=f.toks) (o:=.lst G.reverse) (fun b ob q=>a_ _ q) (aD _) ?_,rfl,q _ (l.hok.fresh (aD _))⟩;exact⟨by rw[eK];exact hz,_,0,r.reverse,cG _ rfl⟩
end L2
end

section
set_option Elab.async false
set_option linter.all false
set_option maxRecDepth 100000
namespace L2
open PySem PySem.Spec PyProof.Rows
abbrev Kt(K:Za):List V->Hp->VK->Prop:=fun xs H Q=>∃(p:Addr) (ns:List Int),xs=[.ref p]/\aw K H p (ns.map V.int)/\Q (.int ns.sum) H
abbrev oo:R2:=rI IntMulOk fun i j=>.int (i * j)
section
variable{X:Cx}
theorem Gz(i:X.calm=true):f_ X (.builtin "sum") (Kt X.K):=by
 intro w s σ H x y Q I r h;obtain⟨p,j,rfl,k,q⟩:=h;obtain⟨u,rfl,l⟩:=vals1 r;cases l;obtain⟨m,n,o,z⟩:=I.list k;obtain⟨a,rfl,f⟩:=yX n;have g:s.heap.IsList p (dB a.toArray):=by
  have:=o.isList;have e:dB a.toArray=(a.map fun p=>Value.int p.1 p.2).toArray:=by simp[dB]
  rw[e];exact this
 refine sum_intListG (I.ok.hd i) g fun A tk t v=>?_;rw[preSum_eq,um (by simp)];exact⟨.int j.sum,H,I.kept v,⟨t,by rw[<-f]⟩,q⟩
theorem lJ:oy X (mB .Mult) oo:=Lp fun _ _ _ _ _ _ _ a q=>mul_int q a
end
def KQ(_ j:Int):Prop:=0<j/\j.natAbs.log2<9000
abbrev Kx:R2:=rI KQ fun i j=>.int (i / j)
def IV(K:Za)(a:Addr)(n:Nat):It :=
 ⟨fun i H=>i<n/\∃xs,aw K H a xs/\xs.length=n,fun i H x H'=>H'=H/\∀xs,aw K H a xs->xs[n-1-i]?=some x,fun i _=>n<=i⟩
def LU(K:Za)(ta:TA):TI:=fun σ H R=>ta σ H fun vs H1=>∃a xs,vs=[.ref a]/\aw K H1 a xs/\R (IV K a xs.length) H1
theorem JY{K:Za}{xs:List V}{g:TG}{j:TS}{D:si}{σ:St}{H:Hp}(Pv:Nat->St->Hp->Prop)(l:Pv 0 σ H)(n:∀i σ H,i<=xs.length->Pv i σ H->aw K H a xs)
  (o:∀i x σ H,xs[xs.length-1-i]?=some x->i<xs.length->Pv i σ H->g x σ H fun σ2 h=>j { D with nx:=Pv (i+1),ct:=Pv (i+1),bk:=D.nx } σ2 h) (r:∀σ H,Pv xs.length σ H->D.nx σ H) :
  ∃W:Nat->Nat->St->Hp->Prop,(∃m,W 0 m σ H)/\∀i m σ H,W i m σ H ->
   ((IV K a xs.length).stop i H/\D.nx σ H)∨((IV K a xs.length).go i H/\∃N:St->Hp->Prop,(∀σ' f,N σ' f->∃k,k<m/\W (i+1) k σ' f)/\∀x f,(IV K a xs.length).yld i H x f->g x σ f fun σ2 h=>j { D with nx:=N,ct:=N,bk:=D.nx } σ2 h):=by
 refine⟨fun i m σ H=>m=xs.length-i/\i<=xs.length/\Pv i σ H,⟨xs.length,by simp,dL _,l⟩,?_⟩;rintro i m σ H ⟨rfl,s,p⟩;have q:=n i σ H s p;by_cases lt:i<xs.length
 ·refine .inr ⟨⟨lt,xs,q,rfl⟩,Pv (i+1),fun σ' f t=>⟨xs.length-(i+1),by omega,rfl,lt,t⟩,fun x f y=>?_⟩;obtain⟨rfl,y⟩:=y;exact o i x σ _ (y xs q) lt p
 ·have e:i=xs.length:=by omega
  subst e;exact .inl ⟨aD _,r σ H p⟩
theorem vP:jf "reversed"=some (.type "reversed"):=by decide +kernel
section
variable{X:Cx}
theorem HR:oy X (mB .FloorDiv) Kx:=Lp fun i j _ _ _ _ _ a q=>by
 have e:(0:Int)<j:=a.1;exact floordiv_int (by omega) (by rw[Int.fdiv_eq_ediv_of_nonneg i (by omega)];exact q) (.inl (PyProof.noPylong_of_log2 a.2))
theorem G4{K:Za}(a it:Addr)(n:Nat):tJ P w K tg (IV K a n) [it] it (fun i h=>i<=n/\h.IsRevIter it a ((n:Int)-1-(i:Int))) where
 mem:=by simp
 obj:=fun i h st b g=>by
  have e:b=it:=by simpa using g
  subst e;obtain⟨_,o,e,c,d⟩:=st;exact⟨o,e,fun v z=>by rw[d]at z;cases z⟩
 keep:=fun i h l st k=>⟨st.1,st.2.at fun o e=>k it (by simp) o e⟩
 item:=by
  intro X r t y L i M s σ H E I m st q;subst r t y;obtain⟨Q,T,N,hx⟩:=q;obtain⟨U,O,p,hz⟩:=I.list N;have hl:=O.length;obtain⟨x,ex⟩:∃x,T[n-1-i]?=some x:=⟨_,de (by omega)⟩;obtain⟨u,Y,ru⟩:=O.get ex;obtain⟨A,B,f2,C,D,G⟩:=m it (by simp);have J:(n:Int)-1-(i:Int)=((n-1-i:Nat):Int):=by omega
  have f:=st.2;rw[J]at f;refine wpAny_pyNext_rev_item f p.isList (x:=u) (by simpa using Y) fun l j sb=>?_;have I1:Inv X M σ H { s with heap:=l }:=I.turned (t':=s.toks) (fun b o g e=>(sb.2 b g).trans e) A B C D G;have e2:((n-1-i:Nat):Int)-1=(n:Int)-1-((i+1:Nat):Int):=by omega
  rw[e2]at j;obtain⟨o,e,c,d⟩:=id j;exact⟨u,rfl,vz (s:={ s with heap:=l }) e c d (by decide) ⟨x,H,I1,ru,⟨rfl,fun ys hy=>by rw[I.list_inj hy N];exact ex⟩,⟨Q,j⟩,fun b g=>(m b g).1⟩⟩
 done:=by
  intro X r t y L i M s σ H E I m st q;subst r t y;obtain⟨A,B,f2,C,D,G⟩:=m it (by simp);have q:n<=i:=q;have J:(n:Int)-1-(i:Int)=-1:=by have:=st.1;omega
  have f:=st.2;rw[J]at f;exact wpAny_pyNext_rev_end (I.ok.hd L) f fun l eb=>⟨rfl,I.turned (t':=s.toks) (fun b o g e=>eb b o g e) A B C D G⟩
 self:=fun _ _ _ _ _ st h=>wpAny_pyIter_revIter st.2 h
variable{tg l:Expr}{ta:TA}{p pos:Pos}
theorem K6(r:Gl X "reversed")(t:X.mg "reversed"=none)(v:PA X [l] ta)(w:aM [l] X.env=[(false,eval l X.env)]:=by rfl):PI X tg (.Call (.Name "reversed" p) [l] [] pos) (LU X.K ta):=by
 intro m s σ H R I h;refine Call_ (iT I r t vP (pI (cJ (v pos m s σ H _ I h) fun G s1 ⟨J,n,g,x,y⟩=>?_) (by rw[w];rfl) (by rfl)));obtain⟨a,i,e,z,q⟩:=y;subst e;obtain⟨u,rfl,A⟩:=vals1 x;cases A;obtain⟨j,B,C,L⟩:=g.list z;have D:=B.length;refine call_reversed_list C.isList ?_;have e:((j.toArray.size:Nat):Int)-1=(i.length:Int)-1-((0:Nat):Int):=by rw[bH,D];omega
 rw[e];have f:(s1.heap.push (revObj a ((i.length:Int)-1-((0:Nat):Int)))).IsRevIter s1.heap.objs.size a ((i.length:Int)-1-((0:Nat):Int)):=⟨_,cG _ rfl,rfl,rfl⟩;refine wpAny_pyIter_revIter (s:={ s1 with heap:=s1.heap.push (revObj a ((i.length:Int)-1-((0:Nat):Int))) }) f ?_;have k:∀b∈[s1.heap.objs.size],og X m n b:=fun b E=>by
  have e:b=s1.heap.objs.size:=by simpa using E
  subst e;exact g.fpOk (aD _) (g.hok.fresh (aD _))
 exact⟨s1.heap.objs.size,[s1.heap.objs.size],_,_,n,rfl,g.kept (t':=s1.toks) fun b o e=>a_ _ e,G4 a _ _,⟨dL _,f⟩,k,q⟩
end
def AC(h:Heap)(z TI TO T:Addr):Prop:=∃b:Bool,h.get? z=some { cls:=.type "zip",dict:=none,data:=.fields #[rawInt T,.bool b,.bool false,.ref TI,.ref TO],slots:=#[] }
section
variable{prog:cn}{w:World}{A:Around}{E:Zc}{s:Shared}
theorem v9{a:Addr}{Q:Option Obj->Shared->Prop}(h:Q (s.heap.get? a) s):wpAny (model prog w) A (loadIfAlive a) Q E s:=fun Γ p _=>by
 unfold loadIfAlive;rw[Sem.wp_loadIfAlive];exact h
theorem xu{TI TO:Addr}{o:Obj}{Q:Bool->Shared->Prop}(a:AC s.heap z TI TO T)(i:s.heap.get? T=some o)
  (h:∀e,AC e z TI TO T->iW z s.heap e->Q false { s with heap:=e }):wpAny (model prog w) A (mI (.ref z)) Q E s:=by
 obtain⟨b,a⟩:=a;unfold mI;refine ak (eJ a rfl (x:=rawInt T) rfl ?_);show wpAny _ _ (loadIfAlive ((T:Int).toNat) >>= _) _ _ _;refine ak (v9 ?_);rw[lf,i];simp only[Option.isNone_some,kB,if_false];refine ak (eJ a rfl (x:=.bool b) rfl ?_);cases b with
 |true=>exact aP (h _ ⟨true,a⟩ (iW.refl ..))
 |false=>exact ak (oI a (by simp) fun e f g=>aP (h e ⟨true,f⟩ g))
theorem Gf{TI TO:Addr}{t u:Nat}{L M:Array Value}{x y:Value}{o:Obj}{Q:Zc}(D:h7 z TI TO n p B C)
  (N:AC s.heap z TI TO T) (hT:s.heap.get? T=some o) (G:IsPair s.heap TI (.ref n) (.ref p))
  (h1:s.heap.IsListIter n B t) (h2:s.heap.IsListIter p C u) (H:s.heap.IsList B L) (I:s.heap.IsList C M) (hx:L[t]?=some x) (hy:M[u]?=some y)
  (hQ:∀h,AC h z TI TO T->h.IsListIter n B (t+1)->h.IsListIter p C (u+1)->IsPair h s.heap.objs.size x y->h.objs.size=s.heap.objs.size+1 ->
   (∀c o,c≠z->c≠n->c≠p->s.heap.get? c=some o->h.get? c=some o)->Q (.ref s.heap.objs.size) { s with heap:=h }) :
  wpAny (model prog w) A (bQ.«zip.__next__» ⟨[.ref z],[]⟩) (fun J s'=>∃v,J=.done (.ret v)/\Q v s') E s:=by
 obtain⟨b,O⟩:=id N;show wpAny _ _ (field (.ref z) 2 >>= _) _ _ _;refine ak (eJ O rfl (x:=.bool false) rfl ?_);show wpAny _ _ (field (.ref z) 3 >>= _) _ _ _;refine ak (eJ O rfl (x:=.ref TI) rfl (ak (iY G rfl ?_)));show wpAny _ _ (mI (.ref z) >>= _) _ _ _;refine ak (xu N hT fun U i a=>?_);simp only[kB,if_false];refine ak ?_;simp only[<-I_,oK,yz];refine ak (ak (jm ?_));show wpAny _ _ (iQ (.ref n) >>= _) _ _ _;refine ak (wpAny_nextOf_list_item (h1.extBut a.extBut D.i1z) (H.extBut a.extBut D.l1z) hx fun Y j f=>aP ?_);refine aP (ak (ak (jm ?_)));show wpAny _ _ (iQ (.ref p) >>= _) _ _ _;refine ak (wpAny_nextOf_list_item ((h2.extBut a.extBut D.i2z).extBut f.extBut D.i12.symm) ((I.extBut a.extBut D.l2z).extBut f.extBut D.l2i1) hy fun q k g=>aP ?_);refine aP (aP ?_);have sz:q.objs.size=s.heap.objs.size:=by rw[g.1,f.1,a.1]
 refine ak (wpAny_newTuple (hsz:=by show 2<=aj;decide) ?_);obtain⟨r,l⟩:=i;have m:=g.extBut _ _ D.i2z.symm (f.extBut _ _ D.i1z.symm l);refine aP ⟨_,rfl,?_⟩;rw[sz];refine hQ _ ⟨r,a_ _ m⟩ ((j.extBut g.extBut D.i12).at fun o e=>a_ _ e) (k.at fun o e=>a_ _ e) ?_ (by rw[mi,sz]) fun c o c1 c2 c3 e=>a_ _ (g.extBut _ _ c3 (f.extBut _ _ c2 (a.extBut _ _ c1 e)));rw[<-sz];exact cG _ rfl
theorem Ih{TI TO:Addr}{p q:Nat}{r t:Array Value}{o:Obj}(L:A.handled=none)(D:h7 z TI TO m n M N)
  (O:AC s.heap z TI TO T) (hT:s.heap.get? T=some o) (u:IsPair s.heap TI (.ref m) (.ref n))
  (U:s.heap.IsListIter m M p) (h2:s.heap.IsListIter n N q) (j:s.heap.IsList M r) (v:s.heap.IsList N t) (k:r[p]?=none∨t[q]?=none)
  (Y:∀y e,(∀c o,c≠z->c≠m->c≠n->s.heap.get? c=some o->y.get? c=some o)->(∃o,y.get? e=some o/\o.cls=.type "StopIteration")->E (.ref e) { s with heap:=y }) :
  wpAny (model prog w) A (bQ.«zip.__next__» ⟨[.ref z],[]⟩) Q E s:=by
 obtain⟨b,gz⟩:=id O;show wpAny _ _ (field (.ref z) 2 >>= _) _ _ _;refine ak (eJ gz rfl (x:=.bool false) rfl ?_);show wpAny _ _ (field (.ref z) 3 >>= _) _ _ _;refine ak (eJ gz rfl (x:=.ref TI) rfl (ak (iY u rfl ?_)));show wpAny _ _ (mI (.ref z) >>= _) _ _ _;refine ak (xu O hT fun h₁ B a=>?_);simp only[kB,if_false];refine ak ?_;simp only[<-I_,oK,yz];refine ak (ak (jm ?_));show wpAny _ _ (iQ (.ref m) >>= _) _ _ _;cases C:r[p]? with
 |none=>exact ak (wpAny_nextOf_list_end L (U.extBut a.extBut D.i1z) (j.extBut a.extBut D.l1z) C fun g e f G=>Y g e (fun c o H I _ x=>f _ _ I (a.extBut _ _ H x)) G)
 |some x =>
  have hy:t[q]?=none:=by rcases k with h|h;rw[C]at h;cases h;exact h
  refine ak (wpAny_nextOf_list_item (U.extBut a.extBut D.i1z) (j.extBut a.extBut D.l1z) C fun g J f=>aP ?_);refine aP (ak (ak (jm ?_)));show wpAny _ _ (iQ (.ref n) >>= _) _ _ _;exact ak (wpAny_nextOf_list_end L ((h2.extBut a.extBut D.i2z).extBut f.extBut D.i12.symm) ((v.extBut a.extBut D.l2z).extBut f.extBut D.l2i1) hy fun l e i G=>Y l e (fun c o H I c3 x=>i _ _ c3 (f.extBut _ _ I (a.extBut _ _ H x))) G)
theorem Gd{TI TO:Addr}{h i:Nat}{p q:Array Value}{x y:Value}{o:Obj}{Q:Option Value->Shared->Prop}(D:h7 z TI TO f g j k)
  (r:AC s.heap z TI TO T) (u:s.heap.get? T=some o) (l:IsPair s.heap TI (.ref f) (.ref g))
  (v:s.heap.IsListIter f j h) (B:s.heap.IsListIter g k i) (m:s.heap.IsList j p) (n:s.heap.IsList k q) (C:p[h]?=some x) (G:q[i]?=some y)
  (H:∀a,AC a z TI TO T->a.IsListIter f j (h+1)->a.IsListIter g k (i+1)->IsPair a s.heap.objs.size x y->a.objs.size=s.heap.objs.size+1 ->
   (∀c o,c≠z->c≠f->c≠g->s.heap.get? c=some o->a.get? c=some o)->Q (some (.ref s.heap.objs.size)) { s with heap:=a }):wpAny (model prog w) A (pyNext (.ref z)) Q E s:=by
 have t:s.TypeIs (.ref z) "zip":=let⟨_,e⟩:=r;⟨_,e,rfl⟩;unfold pyNext;exact ak (qY (mJ (name:=gL "__next__") t mG
  (ug mG t yv (Gf D r u l v B m n C G fun a a1 a2 a3 I J L=>aP (H a a1 a2 a3 I J L)) (yu _))))
theorem Gb{TI TO:Addr}{l m:Nat}{n p:Array Value}{o:Obj}{Q:Option Value->Shared->Prop}(v:A.handled=none)(D:h7 z TI TO f g q r)
  (t:AC s.heap z TI TO T) (x:s.heap.get? T=some o) (h:IsPair s.heap TI (.ref f) (.ref g))
  (y:s.heap.IsListIter f q l) (B:s.heap.IsListIter g r m) (i:s.heap.IsList q n) (j:s.heap.IsList r p) (a:n[l]?=none∨p[m]?=none)
  (C:∀k,(∀c o,c≠z->c≠f->c≠g->s.heap.get? c=some o->k.get? c=some o)->Q none { s with heap:=k }):wpAny (model prog w) A (pyNext (.ref z)) Q E s:=by
 have u:s.TypeIs (.ref z) "zip":=let⟨_,e⟩:=t;⟨_,e,rfl⟩;unfold pyNext;refine ak (qY (mJ (name:=gL "__next__") u mG
  (ug mG u yv (Ih v D t x h y B i j a fun k e G H=>?_) (yu _))))
 obtain⟨o,I,J⟩:=H;exact ak (AL (T:="StopIteration") (b:=true) ⟨o,I,J⟩ isSubtype_stop (aP (C _ G)))
end
structure fk(B:Nat)(S:Addr)(xs ys:Array Value)(h:Heap)(acc:Array Value)(ts:Ze)(i:Nat):Prop where
 is:acc.toList=ts.map .ref
 len:ts.length=i
 at':∀(j:Nat) t,ts[j]?=some t->B<=t/\∃x y,xs[j]?=some x/\ys[j]?=some y/\IsPair h t x y
 uni:ts.Nodup
theorem fk.keep{g:Heap}(d:fk B S l m h f n i)(k:∀c o,B<=c->h.get? c=some o->g.get? c=some o):fk B S l m g f n i :=
 ⟨d.is,d.len,fun j t e=>let⟨a,x,y,b,c,q⟩:=d.at' j t e;⟨a,x,y,b,c,k _ _ a q⟩,d.uni⟩
theorem fk.push{T:Addr}{x y:Value}(d:fk B S k l h f m i)(hB:B<=T)(o:T∉m)(p:k[i]?=some x)(r:l[i]?=some y)(s:IsPair h T x y):
  fk B S k l h (f.push (.ref T)) (m++[T]) (i+1):=by
 refine⟨by simp[d.is],by simp[d.len],fun j t e=>?_,?_⟩
 ·rw[List.getElem?_append]at e;split at e
  ·exact d.at' j t e
  ·rename_i g;rw[d.len]at g e;have u:j-i=0:=by
    rcases Nat.eq_zero_or_pos (j-i)with q|q
    ·exact q
    ·rw[yr (by simp;omega)]at e;cases e
   rw[u]at e;have v:j=i:=by omega
   subst v;simp at e;subst e;exact⟨hB,x,y,p,r,s⟩
 ·rw[dw];refine⟨d.uni,by simp,fun a w b n=>?_⟩;simp at n;subst n;exact fun q=>o (q▸w)
section
variable{prog:cn}{w:World}{A:Around}{R:Result->Shared->Prop}
theorem Ge{TI TO S:Addr}{B:Nat}{l m:Array Value}(hh:A.handled=none)(D:h7 z TI TO E G O Q)(bz:z<B)(bI:TI<B)(b1:E<B)(U:G<B)(c1:O<B)(c2:Q<B)(bS:S<B)
  (sz:S≠z) (sI:S≠TI) (s1:S≠E) (s2:S≠G) (al:S≠O) (an:S≠Q) (hn:l.size<=aj) (H:Value) :
  ∀(k i:Nat) (s:Shared) (acc:Array Value) (c:Nat) (u:Ze),min l.size m.size-i=k->i<=min l.size m.size->AC s.heap z TI TO T₁->T₁∈u->IsPair s.heap TI (.ref E) (.ref G) ->
  s.heap.IsListIter E O i->s.heap.IsListIter G Q i->s.heap.IsList O l->s.heap.IsList Q m->s.heap.get? S=some { cls:=.type "list",dict:=none,data:=.seq acc c,slots:=#[] }->fk B S l m s.heap acc u i ->
  (∀n a c' C,(∀b o,b≠S->b≠z->b≠E->b≠G->s.heap.get? b=some o->n.get? b=some o)->n.get? S=some { cls:=.type "list",dict:=none,data:=.seq a c',slots:=#[] }->fk B S l m n a C (min l.size m.size)->R (.ok (.ret H)) { s with heap:=n }) ->
  zzl80 (model prog w) A (.builtin "list.extend.loop" ⟨[.ref S,.ref z,H],[]⟩) R s:=by
 intro k
 induction k with
 |zero =>
  intro i s acc c u I hi hz Y p h1 h2 r t hS d hR;have e:i=min l.size m.size:=by omega
  obtain⟨j,hj⟩:=gK Y;obtain⟨gT,x,y,_,_,qT⟩:=d.at' j _ hj;refine jk F.entry_extend_loop ?_;rw[jj qU _];show wpAny _ A.in1 (pyNext (.ref z) >>= _) _ _ s;refine ak (Gb hh D hz qT p h1 h2 r t ?_ fun n I=>?_)
  ·rcases Nat.le_total l.size m.size with q|q
   ·exact .inl (uo (by omega))
   ·exact .inr (uo (by omega))
  ·exact aP (hR n acc c u (fun b o _ U b3 b4 q=>I b o U b3 b4 q) (I S _ sz s1 s2 hS) (e▸d.keep fun c o g q=>I c o (eM (da bz g)) (eM (da b1 g)) (eM (da U g)) q))
 |succ k ih =>
  intro i s acc c u I hi hz Y p h1 h2 r t hS d hR;obtain⟨j,hj⟩:=gK Y;obtain⟨gT,x,y,_,_,qT⟩:=d.at' j _ hj;have ix:i<l.size:=by omega
  have iy:i<m.size:=by omega
  refine jk F.entry_extend_loop ?_;rw[jj qU _];show wpAny _ A.in1 (pyNext (.ref z) >>= _) _ _ s;refine ak (Gd D hz qT p h1 h2 r t (lb ix) (lb iy) fun n a1 a2 a3 a4 a5 h=>?_);have J:=h S _ sz s1 s2 hS;have v:acc.size=i:=by rw[<-mC,d.is,ah,d.len]
  have up:∀f:Obj->Obj,∀b o,b≠S->n.get? b=some o->(n.update S f).get? b=some o:=fun f b o hb q=>(iR _ _ (gx hb)).trans q;have lt:T₁<s.heap.objs.size:=aI qT;have dn:fk B S l m n acc u i:=d.keep fun c o g q=>h c o (eM (da bz g)) (eM (da b1 g)) (eM (da U g)) q;have L:s.heap.objs.size∉u:=fun q=>by
   obtain⟨j',ap⟩:=gK q;obtain⟨_,_,_,_,_,q'⟩:=d.at' j' _ ap;exact kA _ (aI q')
  have as:=dn.push (T:=s.heap.objs.size) (cV (qZ gT lt)) L (lb ix) (lb iy) a4;show wpAny _ A.in1 (oH S (·.push (.ref s.heap.objs.size)) >>= _) _ _ _;refine ak (mF J rfl (aP ⟨ji qU _,ih (i+1) _ (acc.push (.ref s.heap.objs.size)) _ (u++[s.heap.objs.size]) (by omega) (by omega) ?_ (by simp[Y]) (up _ _ _ sI.symm (h _ _ D.TIz D.TIi1 D.TIi2 p)) (a2.at fun o q=>up _ _ o s1.symm q) (a3.at fun o q=>up _ _ o s2.symm q)
   (r.at fun o q=>up _ _ o al.symm (h _ o D.l1z D.l1i1 D.l1i2 q)) (t.at fun o q=>up _ _ o an.symm (h _ o D.l2z D.l2i1 D.l2i2 q)) (jo _ J rfl) (as.keep fun c o g q=>up _ c o (eM (da bS g)) q) fun aC a c' C M N hd=>?_⟩) (by rw[v];omega) (by show(acc.push _).size<=aj+1;rw[Array.size_push,v];omega))
  ·obtain⟨b,q⟩:=a1;exact⟨b,up _ _ _ sz.symm q⟩
  ·exact hR aC a c' C (fun b o e1 e2 e3 e4 q=>M b o e1 e2 e3 e4 (up _ b o e1 (h b o e2 e3 e4 q))) N hd
theorem Ja{TI TO S:Addr}{n u:Array Value}{s:Shared}{c:Nat}(hh:A.handled=none)(D:h7 z TI TO v x J L)
  (sz:S≠z) (sI:S≠TI) (sO:S≠TO) (M:S≠v) (N:S≠x) (y:S≠J) (C:S≠L) (hn:n.size<=aj) (p:Value)
  (Q:IsZip s.heap z TI TO .none) (h:IsPair s.heap TI (.ref v) (.ref x)) (E:IsPair s.heap TO a b)
  (T:s.heap.IsListIter v J 0) (U:s.heap.IsListIter x L 0) (i:s.heap.IsList J n) (k:s.heap.IsList L u) (O:s.heap.get? S=some { cls:=.type "list",dict:=none,data:=.seq #[] c,slots:=#[] })
  (hR:∀l g Y r,(∀b o,b≠S->b≠z->b≠TO->b≠v->b≠x->s.heap.get? b=some o->l.get? b=some o)->l.get? S=some { cls:=.type "list",dict:=none,data:=.seq g Y,slots:=#[] }->fk s.heap.objs.size S n u l g r (min n.size u.size)->R (.ok (.ret p)) { s with heap:=l }) :
  zzl80 (model prog w) A (.builtin "list.extend.loop" ⟨[.ref S,.ref z,p],[]⟩) R s:=by
 refine jk F.entry_extend_loop ?_;rw[jj qU _];show wpAny _ A.in1 (pyNext (.ref z) >>= _) _ _ s;rcases Nat.eq_zero_or_pos (min n.size u.size)with e|e
 ·refine ak (wpAny_pyNext_zip_end hh D Q h E T U i k ?_ fun l m=>?_)
  ·rcases Nat.le_total n.size u.size with q|q
   ·exact .inl (uo (by omega))
   ·exact .inr (uo (by omega))
  ·exact aP (hR l #[] c [] (fun b o _ b2 b3 b4 b5 q=>m b o b2 b3 b4 b5 q) (m S _ sz sO M N O) (e▸⟨rfl,rfl,fun j t q=>by simp at q,.nil⟩))
 ·have ix:0<n.size:=by omega
  have iy:0<u.size:=by omega
  refine ak (wpAny_pyNext_zip_item D Q h E T U i k (lb ix) (lb iy) fun l a1 a2 a3 a4 a5 a6 m=>?_);have G:=m S _ sz sO M N O;have up:∀f:Obj->Obj,∀b o,b≠S->l.get? b=some o->(l.update S f).get? b=some o:=fun f b o hb q=>(iR _ _ (gx hb)).trans q;have tn:s.heap.objs.size≠S:=eM (aI O);have lz:z<s.heap.objs.size:=aI Q;have lI:TI<s.heap.objs.size:=aI h;have al:v<s.heap.objs.size:=let⟨_,e,_⟩:=T;aI e;have an:x<s.heap.objs.size:=let⟨_,e,_⟩:=U;aI e;have ap:J<s.heap.objs.size:=let⟨_,e,_⟩:=i;aI e;have as:L<s.heap.objs.size:=let⟨_,e,_⟩:=k;aI e;show wpAny _ A.in1 (oH S (·.push (.ref s.heap.objs.size)) >>= _) _ _ _;refine ak (mF G rfl (aP ⟨ji qU _,Ge (T₁:=s.heap.objs.size) (B:=s.heap.objs.size) hh D lz lI al an ap as (aI O) sz sI M N y C hn p _ 1 _ (#[].push (.ref s.heap.objs.size)) _ [s.heap.objs.size] rfl (by omega) ⟨false,up _ _ _ sz.symm a1⟩ (by simp)
   (up _ _ _ sI.symm (m _ _ D.TIz D.TITO D.TIi1 D.TIi2 h)) (a3.at fun o q=>up _ _ o M.symm q) (a4.at fun o q=>up _ _ o N.symm q) (i.at fun o q=>up _ _ o y.symm (m _ o D.l1z D.l1TO D.l1i1 D.l1i2 q)) (k.at fun o q=>up _ _ o C.symm (m _ o D.l2z D.l2TO D.l2i1 D.l2i2 q))
   (jo _ G rfl) ⟨rfl,rfl,fun j t q=>?_,by simp⟩ fun aC g Y r H I hd=>?_⟩) (by show(#[]:Array Value).size<=_;simp) (by show(#[Value.ref s.heap.objs.size]:Array Value).size<=aj+1;simp))
  ·cases j with
   |zero =>
    simp at q;subst q;exact⟨aD _,_,_,lb ix,lb iy,up _ _ _ tn a5⟩
   |succ j=>simp at q
  ·exact hR aC g Y r (fun b o e1 e2 e3 e4 e5 q=>H b o e1 e2 e4 e5 (up _ b o e1 (m b o e2 e3 e4 e5 q))) I hd
theorem Cw:uF (.type "zip") "__len__"=pure none:=by rw[typeLookup_type,builtinLookup_eq_fast];kernel_rfl
theorem AM:uF (.type "zip") "__length_hint__"=pure none:=by rw[typeLookup_type,builtinLookup_eq_fast];kernel_rfl
structure qI(h:Heap)(z TI TO i1 i2 l1 l2:Addr)(xs ys:Array Value):Prop where
 ap:h7 z TI TO i1 i2 l1 l2
 zp:IsZip h z TI TO .none
 ti:IsPair h TI (.ref i1) (.ref i2)
 to:∃a b,IsPair h TO a b
 j1:h.IsListIter i1 l1 0
 j2:h.IsListIter i2 l2 0
 k1:h.IsList l1 xs
 k2:h.IsList l2 ys
theorem qI.keep{f:Heap}{TI TO:Addr}(Z:qI h z TI TO g i j l m n){S:Addr}(e:∀b,b=z∨b=TI∨b=TO∨b=g∨b=i∨b=j∨b=l->b≠S)(k:∀b o,b≠S->h.get? b=some o->f.get? b=some o):qI f z TI TO g i j l m n :=
 ⟨Z.ap,k _ _ (e _ (by simp)) Z.zp,k _ _ (e _ (by simp)) Z.ti,let⟨a,b,q⟩:=Z.to;⟨a,b,k _ _ (e _ (by simp)) q⟩,Z.j1.at fun o q=>k _ o (e _ (by simp)) q,Z.j2.at fun o q=>k _ o (e _ (by simp)) q,Z.k1.at fun o q=>k _ o (e _ (by simp)) q,Z.k2.at fun o q=>k _ o (e _ (by simp)) q⟩
theorem qI.old{TI TO:Addr}(Z:qI h z TI TO a e f g j k):∀b,b=z∨b=TI∨b=TO∨b=a∨b=e∨b=f∨b=g->b<h.objs.size:=by
 intro b i;rcases i with rfl|rfl|rfl|rfl|rfl|rfl|rfl
 ·exact aI Z.zp
 ·exact aI Z.ti
 ·obtain⟨_,_,q⟩:=Z.to;exact aI q
 ·obtain⟨_,q,_⟩:=Z.j1;exact aI q
 ·obtain⟨_,q,_⟩:=Z.j2;exact aI q
 ·obtain⟨_,q,_⟩:=Z.k1;exact aI q
 ·obtain⟨_,q,_⟩:=Z.k2;exact aI q
theorem w8{TI TO S:Addr}{s:Shared}{c:Nat}(I:A.handled=none)(Z:qI s.heap z TI TO B C J L u D)(i:∀b,b=z∨b=TI∨b=TO∨b=B∨b=C∨b=J∨b=L->b≠S)(M:u.size<=aj)(h:Value)
  (E:s.heap.get? S=some { cls:=.type "list",data:=.seq #[] c })
  (N:∀l g m j,(∀b o,b≠S->b≠z->b≠TO->b≠B->b≠C->s.heap.get? b=some o->l.get? b=some o)->l.get? S=some { cls:=.type "list",dict:=none,data:=.seq g m,slots:=#[] }->fk s.heap.objs.size S u D l g j (min u.size D.size)->R (.ok (.ret h)) { s with heap:=l }) :
  wpAny (model prog w) A.in1 (bQ.List.listExtendWith (.ref S) (.ref z) h)
   (fun v r=>match v with | .done f=>R (.ok f) r | .again m=>m.quiet=true/\zzl80 (model prog w) A m R r) (fun e r=>R (.error e) r) s:=by
 have x:s.TypeIs (.ref z) "zip":=⟨_,Z.zp,rfl⟩;unfold bQ.List.listExtendWith;refine ak (yk x ?_);have O:bQ.List.listSameRef (.ref S) (.ref z)=false:=by simp[bQ.List.listSameRef,(i z (by simp)).symm]
 have Q:(Value.type "zip"==Value.type "list")=false:=by decide
 have T:(Value.type "zip"==Value.type "tuple")=false:=by decide
 simp only[O,Q,T,Bool.or_false,kB,if_false];refine ak (ux Z.zp (ak (jm ?_)));unfold bQ.List.listLengthHint;refine ak (Fo x Cw ?_);show wpAny _ A.in1 (specialOf (Value.ref z) (gL "__length_hint__") >>= _) _ _ _;refine ak (Fo x AM (aP ?_));show wpAny _ A.in1 (rule "list.extend.makes-room" >>= fun _=>bQ.List.listTouch (.ref S) >>= fun _=>again (.builtin "list.extend.loop" ⟨[.ref S,.ref z,h],[]⟩)) _ _ _;refine ak (oj (ak ?_));show wpAny _ A.in1 (oH S (·.push .none) >>= fun _=>oH S (·.pop)) _ _ _;refine ak (mF E rfl ?_);have G:=jo (fO (·.push Value.none)) E rfl;refine mF (hz:=by seq_fits) G rfl ?_;have U:=jo (fO (·.pop)) G rfl;have p:∀b o,b≠S->s.heap.get? b=some o->((s.heap.update S (fO (·.push Value.none))).update S (fO (·.pop))).get? b=some o :=
  fun b o t e=>(iR _ _ (gx t)).trans ((iR _ _ (gx t)).trans e)
 have k:=Z.keep i p;obtain⟨a,b,Y⟩:=k.to;have n:=fun b t=>(i b t).symm;refine aP ⟨ji qU _,Ja I Z.ap (n _ (by simp)) (n _ (by simp)) (n _ (by simp)) (n _ (by simp)) (n _ (by simp)) (n _ (by simp)) (n _ (by simp)) M h k.zp k.ti Y k.j1 k.j2 k.k1 k.k2 U fun l g m j hk y hd=>?_⟩;refine N l g m j (fun b o H f2 f3 f4 f5 q=>hk b o H f2 f3 f4 f5 (p b o H q)) y ?_;have es:(((s.heap.update S (fO (·.push Value.none))).update S (fO (·.pop))).objs.size)=s.heap.objs.size:=by simp[Heap.update]
 exact es▸hd
theorem Jb{TI TO S:Addr}{s:Shared}(y:A.handled=none)(Z:qI s.heap z TI TO t u B C n v)(k:∀b,b=z∨b=TI∨b=TO∨b=t∨b=u∨b=B∨b=C->b≠S)(D:n.size<=aj)
  (p:s.heap.get? S=some { cls:=.type "list",data:=.seq #[] })
  (E:∀i a j h,(∀b o,b≠S->b≠z->b≠TO->b≠t->b≠u->s.heap.get? b=some o->i.get? b=some o)->i.get? S=some { cls:=.type "list",dict:=none,data:=.seq a j,slots:=#[] }->fk s.heap.objs.size S n v i a h (min n.size v.size)->R (.ok (.ret .none)) { s with heap:=i }) :
  wpAny (model prog w) A.in1 (bQ.«list.__init__» ⟨[.ref S,.ref z],[]⟩)
   (fun r m=>match r with | .done f=>R (.ok f) m | .again j=>j.quiet=true/\zzl80 (model prog w) A j R m) (fun e m=>R (.error e) m) s:=by
 show wpAny _ _ (bQ.List.listItems (.ref S) >>= _) _ _ s;refine ak ?_;unfold bQ.List.listItems;refine ak (iY p rfl (aP ?_));show wpAny _ _ (oH S (fun _=>#[]) >>= _) _ _ s;refine ak (mF p rfl ?_);have G:=jo (fO (fun _=>(#[]:Array Value))) p rfl;have l:∀b o,b≠S->s.heap.get? b=some o->(s.heap.update S (fO (fun _=>(#[]:Array Value)))).get? b=some o:=fun b o H e=>(iR _ _ (gx H)).trans e;refine ak (mH (w8 y (Z.keep k l) k D .none G fun i a j h I g d=>?_));have J:((s.heap.update S (fO (fun _=>(#[]:Array Value)))).objs.size)=s.heap.objs.size:=by simp[Heap.update]
 exact E i a j h (fun b o x L M N O q=>I b o x L M N O (l b o x q)) g (J▸d)
theorem DR{Q:Zc}{TI TO:Addr}{s:Shared}(t:A.handled=none)(Z:qI s.heap z TI TO m n u v k p)(x:k.size<=aj)
  (y:∀h a l f,(∀b o,b≠z->b≠TO->b≠m->b≠n->s.heap.get? b=some o->h.get? b=some o)->h.get? s.heap.objs.size=some { cls:=.type "list",dict:=none,data:=.seq a l,slots:=#[] }->fk (s.heap.objs.size+1) s.heap.objs.size k p h a f (min k.size p.size)->Q (.ref s.heap.objs.size) { s with heap:=h }) :
  wpAny (model prog w) A (call (.type "list") [.ref z]) Q E s:=by
 refine callType_codes (Q₁:=fun i e=>i=.ref s.heap.objs.size/\e={ s with heap:=s.heap.push { cls:=.type "list",data:=.seq #[] } }) F.called_list (F.typeCall_list_1 _) F.entry_list_init (code_list_new _ ⟨rfl,rfl⟩) fun i e j=>?_;obtain⟨rfl,rfl⟩:=j;have r:(s.heap.push { cls:=.type "list",data:=.seq #[] }).get? s.heap.objs.size=some { cls:=.type "list",data:=.seq #[] }:=cG _ rfl;have ne:∀b,b=z∨b=TI∨b=TO∨b=m∨b=n∨b=u∨b=v->b≠s.heap.objs.size:=fun b B=>bX (Z.old b B);refine⟨⟨_,r,rfl⟩,F.args_list_init_2 _ _,Jb (A:=A.in1) t (Z.keep ne fun b o _ q=>a_ _ q) ne x r fun h a l f C g d=>?_⟩;exact⟨rfl,y h a l f (fun b o D G H I q=>C b o (bX (aI q)) D G H I (a_ _ q)) g (by rw[<-mi s.heap { cls:=.type "list",data:=.seq #[] }];exact d)⟩
end
def ii(H:Hp):List Addr->List V->List V->Hp
 |t::ts,x::xs,y::ys=>ii (upd H t (.tup [x,y])) ts xs ys
 |_,_,_=>H
theorem jE:∀{a:Ze}{e f:List V}{H:Hp}{b:Addr},b∉a->ii H a e f b=H b
 |[],_,_,_,_,_=>by simp[ii]
 |_::_,[],_,_,_,_=>by simp[ii]
 |_::_,_::_,[],_,_,_=>by simp[ii]
 |t::a,x::e,y::f,H,b,h=>by
  rw[ii,jE (fun q=>h (c_ _ q))];exact ai (fun q:b=t=>h (by rw[q];exact cW))
theorem qq:∀{a:Ze}{f g:List V}{H:Hp}{j:Nat}{t:Addr}{x y:V},a.Nodup->a[j]?=some t->f[j]?=some x->g[j]?=some y->ii H a f g t=some (.tup [x,y])
 |[],_,_,_,j,_,_,_,_,e,_,_=>by simp at e
 |_::_,[],_,_,j,_,_,_,_,_,e,_=>by simp at e
 |_::_,_::_,[],_,j,_,_,_,_,_,_,e=>by simp at e
 |t::a,x::f,y::g,H,0,l,m,o,n,h,i,k=>by
  simp at h i k;subst h i k;rw[ii,jE (gp.mp n).1,aa]
 |t::a,x::f,y::g,H,j+1,l,m,o,n,h,i,k=>by
  rw[ii];exact qq (gp.mp n).2 (by simpa using h) (by simpa using i) (by simpa using k)
section
variable{X:Cx}{J3:Zd}{σ:St}{H:Hp}{s:Shared}{h':Heap}
theorem Inv.many{f:Hp}{N:Ze}{t':Nat}(I:Inv X J3 σ H s)(k:∀b u,s.heap.get? b=some u->h'.get? b=some u)(g:∀a∈N,s.heap.objs.size<=a)(out:∀b,b∉N->f b=H b)(new:∀a∈N,∀o,f a=some o->cy X.prog X.w X.K f h' a o):
  Inv X J3 σ f { s with heap:=h',toks:=t' }:=by
 have old:∀b o,H b=some o->b∉N:=fun b o e q=>kA _ (da (I.hok.lt e) (g b q));have same:∀b o,H b=some o->f b=some o:=fun b o e=>by rw[out b (old b o e)];exact e
 refine I.un ⟨fun b u q _ _ _=>k b u q,fun b u q _ _ _=>⟨u.slots,k b u q⟩,fun b u q n _=>?_,fun b u q _=>⟨u,k b u q⟩,fun b i q=>same b _ q,fun b o u q=>same b _ q,fun b j q=>⟨#[],by rw[same b _ q];simp⟩⟩ fun b o e=>?_
 ·rw[out b fun z=>kA _ (da (aI q) (g b z))];exact n
 ·by_cases h:b∈N
  ·exact new b h o e
  ·rw[out b h]at e;exact(I.hok b o e).stay (fun c v _ q=>k c v q) (fun c q=>same c _ q) fun c i q=>same c _ q
theorem Er(r:bb f g):∀{j:Nat}{u:Value},g[j]?=some u->∃v,f[j]?=some v/\RelV v u:=by
 induction r with
 |nil=>intro j u e;simp at e
 |cons a _ h =>
  intro j u e;cases j with
  |zero=>simp at e;subst e;exact⟨_,rfl,a⟩
  |succ j=>exact h (by simpa using e)
theorem yU:∀a:List Addr,bb (a.map V.ref) (a.map Value.ref)
 |[]=>.nil
 |t::a=>.cons rfl (yU a)
variable{p p2 pos pos2:Pos}
def Hf(K:Za)(ta:TA):TE:=fun σ H Q=>ta σ H fun vs H1=>∃a b xs ys,vs=[.ref a,.ref b]/\aw K H1 a xs/\aw K H1 b ys /\
 ∀(D:Addr) (ts:Ze),H1 D=none->(∀t∈ts,H1 t=none)->(D::ts).Nodup->ts.length=min xs.length ys.length->Q (.ref D) (upd (ii H1 ts xs ys) D (.lst (ts.map .ref)))
theorem Dn{a b:Expr}(hc:X.calm=true)(hl:Gl X "list")(A:X.mg "list"=none)(hg:Gl X "zip")(hm:X.mg "zip"=none)(i:PA X [a,b] ta)(hs:aM [a,b] X.env=[(false,eval a X.env),(false,eval b X.env)]:=by rfl)(k:aM [b] X.env=[(false,eval b X.env)]:=by rfl)
  (l:aM [.Call (.Name "zip" p) [a,b] [] pos] X.env=[(false,eval (.Call (.Name "zip" p) [a,b] [] pos) X.env)]:=by rfl) :
  PE X (.Call (.Name "list" p2) [.Call (.Name "zip" p) [a,b] [] pos] [] pos2) (Hf X.K ta):=by
 intro J3 s σ H Q I h;refine Call_ (iT I hl A vQ (pI ?_ (by rw[l];rfl) (by rfl)));rw[l];show wpAny _ _ (spliced ((false,eval (.Call (.Name "zip" p) [a,b] [] pos) X.env)::[])) _ _ s;refine wV ?_;refine Call_ (iT I hg hm boot_zip (pI (cJ (i pos J3 s σ H _ I h) fun us s1 ⟨vs,H1,m,r1,q1⟩=>?_) (by rw[hs,k]) (by rw[k];rfl)));obtain⟨l1,l2,xs,ys,e,hx,hy,q⟩:=q1;subst e;obtain⟨u,v,rfl,ru,rv⟩:=vals2 r1;cases ru;cases rv;obtain⟨B,rx,C,zx⟩:=m.list hx;obtain⟨D,ry,E,zy⟩:=m.list hy;obtain⟨o1,n1,e1,_⟩:=id C;obtain⟨o2,n2,e2,_⟩:=id E;refine call_zip_2 C.isList E.isList fun h' a1 a2 a3 a4 a5 a6 G=>?_;refine AG ?_;have Z:qI h' (s1.heap.objs.size+4) (s1.heap.objs.size+2) (s1.heap.objs.size+3) s1.heap.objs.size (s1.heap.objs.size+1) l1 l2 B.toArray D.toArray :=
  ⟨yt (aI e1) (aI e2),a1,a2,⟨_,_,a3⟩,a4,a5,C.isList.at fun o q=>G _ o q,E.isList.at fun o q=>G _ o q⟩
 have lx:=rx.length;have ly:=ry.length;refine DR (s:={ s1 with heap:=h' }) (I.ok.hd hc) Z (by simp;omega) fun h2 al c f J g d=>?_;have out:∀b o,s1.heap.get? b=some o->h2.get? b=some o:=fun b o q=>by
  have lt:=aI q;exact J b o (bX (da lt (ka _ 4))) (bX (da lt (ka _ 3))) (bX lt) (bX (da lt (ka _ 1))) (G b o q)
 have bd:∀t∈f,s1.heap.objs.size+5<t:=fun t n=>by
  obtain⟨j,r⟩:=gK n;have:=(d.at' j t r).1;have e:(uv { s1 with heap:=h' }).objs.size=s1.heap.objs.size+5:=a6;rw[e]at this;omega
 have L:(uv { s1 with heap:=h' }).objs.size=s1.heap.objs.size+5:=a6;rw[L]at g ⊢;have nD:s1.heap.objs.size+5∉f:=fun q=>kA _ (bd _ q);have M:s1.heap.objs.size<=s1.heap.objs.size+5:=ka _ _;have n:∀t∈f,s1.heap.objs.size<=t:=fun t q=>cV (qZ M (bd t q));refine⟨.ref (s1.heap.objs.size+5),upd (ii H1 f xs ys) (s1.heap.objs.size+5) (.lst (f.map .ref)),m.many (N:=(s1.heap.objs.size+5)::f) (t':=s1.toks) out (fun a i=>?_) (fun b hb=>?_) fun a i o e=>?_,rfl,q _ f (m.hok.fresh M) (fun t z=>m.hok.fresh (n t z)) (gp.mpr ⟨nD,d.uni⟩) (by rw[d.len];simp[lx,ly])⟩
 ·rcases cu.mp i with z|z
  ·rw[z];exact M
  ·exact n a z
 ·rw[ai fun z=>hb (by rw[z];exact cW)];exact jE fun z=>hb (c_ _ z)
 ·rcases cu.mp i with z|z
  ·subst z;rw[aa]at e;cases e;refine⟨by rw[ah,d.len];simp;omega,f.map .ref,c,yU f,?_⟩;rw[<-d.is];simpa using g
  ·have ne:a≠s1.heap.objs.size+5:=fun w=>nD (w▸z);rw[ai ne]at e;obtain⟨j,r⟩:=gK z;obtain⟨_,x,y,O,T,qT⟩:=d.at' j a r;obtain⟨vx,ex,U⟩:=Er rx (j:=j) (u:=x) (by simpa using O);obtain⟨vy,ey,Y⟩:=Er ry (j:=j) (u:=y) (by simpa using T);rw[qq d.uni r ex ey]at e;cases e;exact⟨by show 2<=aj;decide,[x,y],.cons U (.cons Y .nil),⟨_,qT,rfl,_,rfl⟩⟩
end
end L2
namespace L2
open PySem PySem.Spec PyProof.Rows
section
variable{prog:cn}{w:World}{A:Around}{E:Zc}{s:Shared}{z TI TO i1 i2 l1 l2:Addr}{xs ys:Array Value}
theorem Ai{R:Result->Shared->Prop}(i:A.handled=none)(Z:qI s.heap z TI TO i1 i2 l1 l2 xs ys)(j:xs.size<=aj)
  (k:∀f a h e,(∀b o,b≠z->b≠TO->b≠i1->b≠i2->s.heap.get? b=some o->f.get? b=some o)->f.get? s.heap.objs.size=some { cls:=.type "list",dict:=none,data:=.seq a h,slots:=#[] }->fk (s.heap.objs.size+1) s.heap.objs.size xs ys f a e (min xs.size ys.size)->R (.ok (.ret (.ref s.heap.objs.size))) { s with heap:=f }) :
  zzl80 (model prog w) A (.builtin "proto.collect" ⟨[.ref z],[]⟩) R s:=by
 refine jk F.entry_proto_collect ?_;rw[jj F.plain_proto_collect _];show wpAny _ A.in1 (newList [] >>= fun l=>again (.builtin "list.__iadd__" ⟨[l,.ref z],[]⟩)) _ _ s;refine ak (lc ?_);refine aP ⟨ji F.plain_list_iadd _,jk F.entry_list_iadd ?_⟩;rw[jj F.plain_list_iadd _];show wpAny _ A.in1 (bQ.List.listExtendWith (.ref s.heap.objs.size) (.ref z) (.ref s.heap.objs.size)) _ _ _;have m:(s.heap.push { cls:=.type "list",data:=.seq ([]:Zf).toArray }).get? s.heap.objs.size=some { cls:=.type "list",data:=.seq ([]:Zf).toArray }:=cG _ rfl;have ne:∀b,b=z∨b=TI∨b=TO∨b=i1∨b=i2∨b=l1∨b=l2->b≠s.heap.objs.size:=fun b n=>bX (Z.old b n);refine w8 (R:=R) (s:={ s with heap:=s.heap.push { cls:=.type "list",data:=.seq ([]:Zf).toArray } }) i (Z.keep ne fun b o _ q=>a_ _ q) ne j _ m fun f a h e p g d=>?_;refine k f a h e (fun b o r t u v q=>p b o (bX (aI q)) r t u v (a_ _ q)) g ?_;rw[<-mi s.heap { cls:=.type "list",data:=.seq ([]:Zf).toArray }];exact d
theorem BQ{Q:List Value->Shared->Prop}(i:A.handled=none)(Z:qI s.heap z TI TO i1 i2 l1 l2 xs ys)(j:xs.size<=aj)
  (k:∀f h,(∀b o,b≠z->b≠TO->b≠i1->b≠i2->s.heap.get? b=some o->f.get? b=some o)->fk (s.heap.objs.size+1) s.heap.objs.size xs ys f (h.map Value.ref).toArray h (min xs.size ys.size)->Q (h.map .ref) { s with heap:=f }) :
  wpAny (model prog w) A (collect (.ref z)) Q E s:=by
 unfold collect;refine ak (wpAny_runValue (Ai i Z j fun f a p e l g d=>?_));show wpAny _ A (load s.heap.objs.size >>= _) _ _ _;refine ak (wpAny_load g (aP ?_));have m:a=(e.map Value.ref).toArray:=by rw[<-d.is]
 have n:a.toList=e.map Value.ref:=d.is;rw[n];exact k f e l (m▸d)
theorem v_{a:Zc}(l:A.handled=none)(Z:qI s.heap z TI TO i1 i2 l1 l2 xs ys)(m:xs.size<=aj)
  (h:∀f e,(∀b o,b≠z->b≠TO->b≠i1->b≠i2->s.heap.get? b=some o->f.get? b=some o)->fk (s.heap.objs.size+1) s.heap.objs.size xs ys f (e.map Value.ref).toArray e (min xs.size ys.size)->a (.ref f.objs.size) { s with heap:=f.push { cls:=.type "tuple",data:=.seq (e.map Value.ref).toArray } }) :
  zzl80 (model prog w) A (.call (.builtin "tuple.__new__") ⟨[.type "tuple",.ref z],[]⟩) (wants a E) s:=by
 refine codeAny_of_tree ?_;show wpAny _ A.in1 (do checkBuiltinCall "tuple.__new__" ⟨[.type "tuple",.ref z],[]⟩;again (.builtin "tuple.__new__" ⟨[.type "tuple",.ref z],[]⟩)) _ _ s
 refine ak (yB (F.newCall_tuple_1 _) (aP ⟨ji F.plain_tuple_new _,jk F.entry_tuple_new ?_⟩));rw[jj F.plain_tuple_new _];have k:=sub_tuple_self;have g:=init_tuple_lookup;have n:=madeHere_tuple;have i:s.TypeIs (.ref z) "zip":=⟨_,Z.zp,rfl⟩;have j:A.in1.handled=none:=l
 wp_walk using yk i,BQ j Z m
 intro f e p d;show wpAny _ _ (bQ.Tuple.tupleExact (e.map Value.ref).toArray >>= fun v=>ret v) _ _ _;unfold bQ.Tuple.tupleExact;refine ak (lc ?_ (by show(e.map Value.ref).toArray.size<=aj;simp only[bH,ah];rw[d.len];omega));exact aP (h f e p d)
theorem BW{Q:Zc}(i:A.handled=none)(Z:qI s.heap z TI TO i1 i2 l1 l2 xs ys)(j:xs.size<=aj)
  (k:∀g h,(∀b o,b≠z->b≠TO->b≠i1->b≠i2->s.heap.get? b=some o->g.get? b=some o)->fk (s.heap.objs.size+1) s.heap.objs.size xs ys g (h.map Value.ref).toArray h (min xs.size ys.size)->Q (.ref g.objs.size) { s with heap:=g.push { cls:=.type "tuple",data:=.seq (h.map Value.ref).toArray } }) :
  wpAny (model prog w) A (call (.type "tuple") [.ref z]) Q E s:=by
 refine callType_codes (Q₁:=fun f a=>a.TypeIs f "tuple"/\Q f a) F.called_tuple (F.typeCall_tuple_1 _) F.entry_object_init
  (v_ (A:=A.in1) i Z j fun g h l d=>⟨⟨_,cG _ rfl,rfl⟩,k g h l d⟩) fun f a e=>?_
 exact⟨e.1,F.args_object_init_2 f _,object_init_meets F.called_tuple.init.lookup F.called_tuple.made (by decide) prog w A.in1 _ a ⟨e.1,rfl,e.2⟩⟩
end
section
variable{X:Cx}{p p2 pos pos2:Pos}
def G_(K:Za)(ta:TA):TE:=fun σ H Q=>ta σ H fun vs H1=>∃a b xs ys,vs=[.ref a,.ref b]/\aw K H1 a xs/\aw K H1 b ys /\
 ∀(D:Addr) (ts:Ze),H1 D=none->(∀t∈ts,H1 t=none)->(D::ts).Nodup->ts.length=min xs.length ys.length->Q (.ref D) (upd (ii H1 ts xs ys) D (.tup (ts.map .ref)))
theorem sJ{a b:Expr}(hc:X.calm=true)(hl:Gl X "tuple")(C:X.mg "tuple"=none)(hg:Gl X "zip")(hm:X.mg "zip"=none)(k:PA X [a,b] ta)(hs:aM [a,b] X.env=[(false,eval a X.env),(false,eval b X.env)]:=by rfl)(l:aM [b] X.env=[(false,eval b X.env)]:=by rfl)
  (m:aM [.Call (.Name "zip" p) [a,b] [] pos] X.env=[(false,eval (.Call (.Name "zip" p) [a,b] [] pos) X.env)]:=by rfl) :
  PE X (.Call (.Name "tuple" p2) [.Call (.Name "zip" p) [a,b] [] pos] [] pos2) (G_ X.K ta):=by
 intro J3 s σ H Q I h;refine Call_ (iT I hl C gD (pI ?_ (by rw[m];rfl) (by rfl)));rw[m];show wpAny _ _ (spliced ((false,eval (.Call (.Name "zip" p) [a,b] [] pos) X.env)::[])) _ _ s;refine wV ?_;refine Call_ (iT I hg hm boot_zip (pI (cJ (k pos J3 s σ H _ I h) fun us s1 ⟨vs,H1,n,r1,q1⟩=>?_) (by rw[hs,l]) (by rw[l];rfl)));obtain⟨l1,l2,xs,ys,e,hx,hy,q⟩:=q1;subst e;obtain⟨u,v,rfl,ru,rv⟩:=vals2 r1;cases ru;cases rv;obtain⟨D,rx,E,zx⟩:=n.list hx;obtain⟨G,ry,J,zy⟩:=n.list hy;obtain⟨o1,n1,e1,_⟩:=id E;obtain⟨o2,n2,e2,_⟩:=id J;refine call_zip_2 E.isList J.isList fun L a1 a2 a3 a4 a5 a6 M=>?_;refine AG ?_;have Z:qI L (s1.heap.objs.size+4) (s1.heap.objs.size+2) (s1.heap.objs.size+3) s1.heap.objs.size (s1.heap.objs.size+1) l1 l2 D.toArray G.toArray :=
  ⟨yt (aI e1) (aI e2),a1,a2,⟨_,_,a3⟩,a4,a5,E.isList.at fun o q=>M _ o q,J.isList.at fun o q=>M _ o q⟩
 have lx:=rx.length;have ly:=ry.length;refine BW (s:={ s1 with heap:=L }) (I.ok.hd hc) Z (by simp;omega) fun g f r d=>?_;have A:∀b o,s1.heap.get? b=some o->g.get? b=some o:=fun b o q=>by
  have lt:=aI q;exact r b o (bX (da lt (ka _ 4))) (bX (da lt (ka _ 3))) (bX lt) (bX (da lt (ka _ 1))) (M b o q)
 have out:∀b o,s1.heap.get? b=some o->(g.push { cls:=.type "tuple",data:=.seq (f.map Value.ref).toArray }).get? b=some o:=fun b o q=>a_ _ (A b o q);have O:(uv { s1 with heap:=L }).objs.size=s1.heap.objs.size+5:=a6;have B:∀(j:Nat) t,f[j]?=some t->s1.heap.objs.size<=t/\t<g.objs.size:=fun j t i=>by
  obtain⟨g1,x,y,_,_,g2⟩:=d.at' j t i;rw[O]at g1;exact⟨aB (ka _ 6) g1,aI g2⟩
 have nD:g.objs.size∉f:=fun q=>by
  obtain⟨j,i⟩:=gK q;exact kA _ (B j _ i).2
 have hD:s1.heap.objs.size<=g.objs.size:=cV (qZ (ka _ 2) (aI (r _ _ Z.ap.TIz Z.ap.TITO Z.ap.TIi1 Z.ap.TIi2 a2)));have ht:∀t∈f,s1.heap.objs.size<=t:=fun t q=>by
  obtain⟨j,i⟩:=gK q;exact(B j t i).1
 refine⟨.ref g.objs.size,upd (ii H1 f xs ys) g.objs.size (.tup (f.map .ref)),n.many (N:=g.objs.size::f) (t':=s1.toks) out (fun a k=>?_) (fun b hb=>?_) fun a k o e=>?_,rfl,q _ f (n.hok.fresh hD) (fun t z=>n.hok.fresh (ht t z)) (gp.mpr ⟨nD,d.uni⟩) (by rw[d.len];simp[lx,ly])⟩
 ·rcases cu.mp k with z|z
  ·rw[z];exact hD
  ·exact ht a z
 ·rw[ai fun z=>hb (by rw[z];exact cW)];exact jE fun z=>hb (c_ _ z)
 ·rcases cu.mp k with z|z
  ·subst z;rw[aa]at e;cases e;exact⟨by rw[ah,d.len];simp;omega,f.map .ref,yU f,⟨_,cG _ rfl,rfl,_,rfl⟩⟩
  ·have ne:a≠g.objs.size:=fun w=>nD (w▸z);rw[ai ne]at e;obtain⟨j,i⟩:=gK z;obtain⟨_,x,y,T,U,qT⟩:=d.at' j a i;obtain⟨vx,ex,Y⟩:=Er rx (j:=j) (u:=x) (by simpa using T);obtain⟨vy,ey,al⟩:=Er ry (j:=j) (u:=y) (by simpa using U);rw[qq d.uni i ex ey]at e;cases e;exact⟨by show 2<=aj;decide,[x,y],.cons Y (.cons al .nil),⟨_,a_ _ qT,rfl,_,rfl⟩⟩
end
theorem GI(x d:Value):argsOk "min" ⟨[x],[(gL "default",d)]⟩:=by
 unfold argsOk
 kernel_rfl
section
variable{prog:cn}{w:World}{A:Around}{it l B:Addr}{zs:Array (Int×Tok)}{R:Result->Shared->Prop}{kw:List (Str×Value)}
abbrev I0(zs:Array (Int×Tok))(i j:Nat):Bool:=decide (numAt zs i<numAt zs j)
theorem zZ:(toString "min"++toString ".loop":String)="min.loop":=by decide
theorem LO(T:A.handled=none)(ne:l≠it)(y:B≠it)(U:B≠l):∀(k j:Nat) (s:Shared) (v:Value) (c:Nat),zs.size-(j+1)=k->j+1<=zs.size->s.heap.IsListIter it l (j+1)->s.heap.IsList l (dB zs)->(dB zs)[jh (I0 zs) j]?=some v ->
  s.heap.get? B=some { cls:=.type "list",dict:=none,data:=.seq #[v,v] c,slots:=#[] } ->
  (∀u I Y,(dB zs)[jh (I0 zs) (zs.size-1)]?=some u->(∀b o,b≠it->b≠B->s.heap.get? b=some o->I.get? b=some o)->R (.ok (.ret u)) { s with heap:=I,toks:=Y }) ->
  zzl80 (model prog w) A (.builtin "min.loop" ⟨[.ref it,.none,.ref B],kw⟩) R s:=by
 have W:=yn (prog:=prog) (w:=w) (A:=A.in1) T it l ne (dB zs);have J:(dB zs).size=zs.size:=by simp[dB]
 have CM:=CmpOf.ints_lt (prog:=prog) (w:=w) (A:=A.in1) (numAt zs) (P:=fun i u=>(dB zs)[i]?=some u) (fun _ _=>intItems_at);intro k
 induction k with
 |zero =>
  intro j s v c hk hj st C r hB t;have f:j+1=zs.size:=by omega
  refine jk F.entry_min_loop ?_;rw[jj oG _];show wpAny _ A.in1 (uw (.ref B) >>= _) _ _ s;refine ak (iY hB rfl ?_);show wpAny _ A.in1 (tryCatch (pyNext (.ref it)) _ >>= _) _ _ s;refine ak (qW (W.done s _ _ (by rw[J,<-f];exact⟨st,C⟩) fun L M n=>?_));have a:=n B _ (by simpa using y) hB;show wpAny _ A.in1 (oH B (fun _=>#[]) >>= _) _ _ _;refine ak (mF a rfl (ak (mH (aP ?_))));exact t v _ M (by rw[<-f];exact r) fun b o g p e=>(iR _ _ p.symm).trans (n b o (by simpa using g) e)
 |succ k N =>
  intro j s v c hk hj st C r hB t;have more:j+1<zs.size:=by omega
  refine jk F.entry_min_loop ?_;rw[jj oG _];show wpAny _ A.in1 (uw (.ref B) >>= _) _ _ s;refine ak (iY hB rfl ?_);show wpAny _ A.in1 (tryCatch (pyNext (.ref it)) _ >>= _) _ _ s;refine ak (qW (W.item (j+1) s _ _ (by rw[J];exact more) ⟨st,C⟩ fun u L M O h n=>?_));have a:=n B _ (by simpa using y) hB;show wpAny _ A.in1 (tryCatch (mj [u,u] (richCompare .Lt u v >>= _)) _ >>= _) _ _ _;refine ak (qW (jm (ak (CM (j+1) (jh (I0 zs) j) u v _ _ _ O r ?_))));refine ak (jm (sE ?_));refine ak (mH (aP ?_))
  change wpAny _ _ (if I0 zs (j+1) (jh (I0 zs) j)=true then _ else _) _ _ _
  cases x:I0 zs (j+1) (jh (I0 zs) j)with
  |true =>
   simp only[if_true];refine ak (mF a rfl (ak (mH ?_)));rw[zZ];have Q:=W.frame _ _ (L.update B (fO fun _=>#[u,u])) h fun b x o e=>(iR _ _ (fun z:B=b=>by rcases cu.mp x with q|q;exact y (z.trans q);rw[dR.mp q]at z;exact U z)).trans e;refine aP ⟨ji oG _,N (j+1) _ u _ (by omega) more Q.1 Q.2 (by simp only[jh,x,if_true];exact O) (jo _ a rfl) fun D E G m H=>?_⟩;exact t D E G m fun b o g p e=>H b o g p ((iR _ _ p.symm).trans (n b o (by simpa using g) e))
  |false =>
   simp only[kB,if_false];refine ak (mH ?_);rw[zZ];refine aP ⟨ji oG _,N (j+1) _ v c (by omega) more h.1 h.2 (by simp only[jh,x,kB,if_false];exact r) a fun D E G m H=>?_⟩;exact t D E G m fun b o g p e=>H b o g p (n b o (by simpa using g) e)
theorem Ic{d:Value}{x:Str}{s:Shared}{c:Nat}(r:A.handled=none)(ne:l≠it)(i:B≠it)(t:B≠l)(st:s.heap.IsListIter it l 0)(v:s.heap.IsList l (dB zs))(hB:s.heap.get? B=some { cls:=.type "list",dict:=none,data:=.seq #[] c,slots:=#[] })
  (E:zs.size=0->∀a j,(∀b o,b≠it->b≠B->s.heap.get? b=some o->a.get? b=some o)->R (.ok (.ret d)) { s with heap:=a,toks:=j })
  (G:0<zs.size->∀u a j,(dB zs)[jh (I0 zs) (zs.size-1)]?=some u->(∀b o,b≠it->b≠B->s.heap.get? b=some o->a.get? b=some o)->R (.ok (.ret u)) { s with heap:=a,toks:=j }) :
  zzl80 (model prog w) A (.builtin "min.loop" ⟨[.ref it,.none,.ref B],[(x,d)]⟩) R s:=by
 have W:=yn (prog:=prog) (w:=w) (A:=A.in1) r it l ne (dB zs);have y:(dB zs).size=zs.size:=by simp[dB]
 refine jk F.entry_min_loop ?_;rw[jj oG _];show wpAny _ A.in1 (uw (.ref B) >>= _) _ _ s;refine ak (iY hB rfl ?_);show wpAny _ A.in1 (tryCatch (pyNext (.ref it)) _ >>= _) _ _ s;rcases Nat.eq_zero_or_pos zs.size with z|z
 ·refine ak (qW (W.done s _ _ (by rw[y,z];exact⟨st,v⟩) fun k C g=>?_));refine ak (oj (aP ?_));exact E z k C fun b o h m e=>g b o (by simpa using h) e
 ·refine ak (qW (W.item 0 s _ _ (by rw[y];exact z) ⟨st,v⟩ fun u k C H n g=>?_));have f:=g B _ (by simpa using i) hB;show wpAny _ A.in1 (oH B (fun _=>#[u,u]) >>= _) _ _ _;refine ak (mF f rfl ?_);rw[zZ];have D:=W.frame _ _ (k.update B (fO fun _=>#[u,u])) n fun b I o e=>(iR _ _ (fun z:B=b=>by rcases cu.mp I with q|q;exact i (z.trans q);rw[dR.mp q]at z;exact t z)).trans e;refine aP ⟨ji oG _,LO r ne i t _ 0 _ u _ rfl z D.1 D.2 H (jo _ f rfl) fun J L M p N=>?_⟩;exact G z J L M p fun b o h m e=>N b o h m ((iR _ _ m.symm).trans (g b o (by simpa using h) e))
theorem GA{Q:Zc}{d:Value}{s:Shared}(h:A.handled=none)(g:s.heap.IsList l (dB zs))
  (i:zs.size=0->∀a f,(∀b o,s.heap.get? b=some o->a.get? b=some o)->Q d { s with heap:=a,toks:=f })
  (j:0<zs.size->∀u a f,(dB zs)[jh (I0 zs) (zs.size-1)]?=some u->(∀b o,s.heap.get? b=some o->a.get? b=some o)->Q u { s with heap:=a,toks:=f }) :
  wpAny (model prog w) A (call (.builtin "min") [.ref l] [(gL "default",d)]) Q E s:=by
 refine kmk_tree F.kind_min F.plain_min F.entry_min (GI _ _) ?_;show wpAny _ A.in1 (bQ.Builtins.bindParams "min" ["key","default"] 0 ⟨[],[(gL "default",d)]⟩ >>= _) _ _ s;refine ak (yB (show bQ.Builtins.bindParams "min" ["key","default"] 0 ⟨[],[(gL "default",d)]⟩=pure [none,some d]from rfl) ?_);refine ak (aP ?_);refine ak (iter_intList g fun p e st lt ne=>?_);subst e;refine ak (lc ?_);rw[zZ];have sz:(s.heap.push { cls:=.type "list_iterator",data:=.fields #[.ref l,.int 0 0] }).objs.size=s.heap.objs.size+1:=mi ..;have m:l<s.heap.objs.size:=by obtain⟨_,e,_⟩:=g;exact aI e
 have old:∀{a:Heap},(∀b o,b≠s.heap.objs.size->b≠(s.heap.push { cls:=.type "list_iterator",data:=.fields #[.ref l,.int 0 0] }).objs.size->((s.heap.push { cls:=.type "list_iterator",data:=.fields #[.ref l,.int 0 0] }).push { cls:=.type "list",data:=.seq #[] }).get? b=some o->a.get? b=some o)->∀b o,s.heap.get? b=some o->a.get? b=some o:=fun{a} k b o e =>
  k b o (bX (aI e)) (by rw[sz];exact bX (Nat.lt_succ_of_lt (aI e))) (a_ _ (a_ _ e))
 refine aP ⟨ji oG _,Ic (zs:=zs) h ne (by rw[sz];exact Nat.succ_ne_self _) (by rw[sz];exact(bX (Nat.lt_succ_of_lt m)).symm) (st.1.at fun o e=>a_ _ e) (st.2.push _) (cG _ rfl) (fun z a f k=>i z a f (old k)) fun z u a f n k=>j z u a f n (old k)⟩
end
section
variable{X:Cx}{p pos kp:Pos}{e dv:Expr}{t:TA}
def Kq(K:Za)(t:TA):TE:=fun σ H Q=>t σ H fun xs H1=>∃(a:Addr) (ns:List Int),xs=[.ref a]/\aw K H1 a (ns.map V.int)/\(ns=[]->Q .non H1)/\∀m,m∈ns->(∀b∈ns,m<=b)->Q (.int m) H1
theorem JH(J:X.calm=true)(L:Gl X "min")(M:X.mg "min"=none)(N:PA X [e] t)(O:PE X dv (tC .non))(m:jf "min"=some (.builtin "min"):=by decide +kernel)
  (T:backTo pos (aM [e] X.env)=(false,eval e X.env)::backTo pos (aM [] X.env):=by rfl) (o:(backTo pos (aM [e] X.env)).any (·.1)=false:=by rfl):PE X (.Call (.Name "min" p) [e] [⟨some "default",dv,kp⟩] pos) (Kq X.K t):=by
 intro A s σ H Q I h;refine AF (iT I L M m ?_);refine callWith_kw (cJ (N pos A s σ H _ I h) fun us U ⟨vs,B,Y,r1,q1⟩=>?_) T o;obtain⟨a,ns,rfl,hq,q0,qm⟩:=q1;obtain⟨u,rfl,ru⟩:=vals1 r1;cases ru;refine kws_cons (cJ (O A U σ B (fun x C=>x=.non/\C=B) Y ⟨rfl,rfl⟩) fun ud D ⟨x,C,n,r2,q,r⟩=>?_);subst q r;cases r2;refine kws_nil ?_;show wpAny _ _ (call (.builtin "min") [.ref a] [(gL "default",.none)]) _ _ D;obtain⟨al,rv,pl,hz⟩:=n.list hq;obtain⟨f,rfl,g⟩:=yX rv;have w:D.heap.IsList a (dB f.toArray):=by
  have:=pl.isList;have e:dB f.toArray=(f.map fun p=>Value.int p.1 p.2).toArray:=by simp[dB]
  rw[e];exact this
 have l:∀j,j<f.length->numAt f.toArray j=(f.map (·.1)).getD j 0/\(f.map (·.1)).getD j 0∈f.map (·.1):=fun j k=>by
  refine⟨?_,?_⟩
  ·unfold numAt;simp[List.getD_eq_getElem?_getD,k]
  ·rw[List.getD_eq_getElem?_getD,de (by rw[ah];exact k)];exact List.getElem_mem _
 refine GA (n.ok.hd J) w (fun z h' tk y=>⟨.non,_,n.kept y,rfl,q0 ?_⟩) fun pos v h' tk hv y=>?_
 ·rw[<-g,qS];exact List.eq_nil_of_length_eq_zero (by rw[bH]at z;exact z)
 obtain⟨t,rfl⟩:=intItems_at hv;obtain⟨h1,E⟩:=argBest_lt (numAt f.toArray) (f.toArray.size-1);rw[bH]at h1 E pos;have G:(f.toArray.size-1)=f.length-1:=by rw[bH]
 refine⟨.int (numAt f.toArray (jh (I0 f.toArray) (f.toArray.size-1))),_,n.kept y,⟨t,rfl⟩,qm _ ?_ fun b m=>?_⟩
 ·obtain⟨q,r⟩:=l (jh (fun i j=>decide (numAt f.toArray i<numAt f.toArray j)) (f.length-1)) (by omega);rw[<-g,G];exact q▸r
 ·rw[<-g]at m;obtain⟨j,k,rfl⟩:=List.mem_iff_getElem.mp m;rw[ah]at k;have:=E j (by omega);have e:(f.map (·.1))[j]=numAt f.toArray j:=by
   rw[(l j k).1,List.getD_eq_getElem?_getD,de (by rw[ah];exact k)];rfl
  rw[e,G];exact this
end
abbrev LH:List V->Hp->VK->Prop:=fun xs H Q=>∃i j,xs=[.int i,.int j]/\Q (.int (if j > i then j else i)) H
end L2
end
set_option Elab.async false
set_option linter.all false
set_option maxRecDepth 100000
set_option maxHeartbeats 4000000
namespace Mum
open PySem PySem.Spec PyProof.Rows L2
def zg(K:Za):TS :=
 ar (cx (aU (aH rGeI V0 (aH Ku (tC (.int 10)) (tC (.int 18))))) (aW V0) (bC))
 (ar (aN (aH jx (aH dD (aH dD (aH mT (aH jx V0 (tC (.int 1000000007))) (tC (.int 69069))) (aH mT V1 (tC (.int 40503)))) (tC (.int 977))) (tC (.int 2147483629))) U2)
 (ar (aN (aH jx (aH dD (aH dD (aH mT V2 V2) (aH mT V1 (tC (.int 7919)))) (aH jx V0 (tC (.int 65537)))) (tC (.int 2147483587))) U3)
 (ar (aN (aH jx (aH dD (aH dD (aH mT V3 V3) (aH mT V2 (tC (.int 31)))) (tC (.int 5))) (tC (.int 2147483563))) U4)
 (aW (aH dD (aH mT (aH dD (aH mT V2 (tC (.int 2147483659))) V3) (tC (.int 2147483693))) V4)))))
def Av:List Str:=["cell","at","one","two","three"]
def CF(K:Za):TS :=
 ar (aN (gP (dX K) (ay (Cr (rK K) V0 (fC) (gM (tC (.int 12)))))) U1)
 (ar (dW (xB K (ay (Cr (rK K) V0 (gM (tC (.int 12))) (gM (tC (.int 63)))))) (jM K 2 (bv U2 (bv U3 (jH)))) (aN (aH dD (aH (dY K) V1 (aH jx V2 (tC (.int 12)))) V3) (DG V1 (aH jx V2 (tC (.int 12))) u6)))
 (aW (c9 (cg V1 (tC (.int 0)) (tC (.int 0))))))
def D_:List Str:=["script","cells","k","cell"]
def CI(K:Za):TS :=
 ar (aN (tC (.int 0)) (DG V0 (tC (.int 2)) u6))
 (aW V0)
def Ec:List Str:=["pen"]
def CD(K:Za)(sp_law_spread:Sp):TS :=
 ar (cx (aU (aH Dg (aH (dY K) V0 (tC (.int 2))) V1)) (ar (aN (aH (dY K) V0 (tC (.int 1))) U2)
 (ar (aN (tC (.int 0)) U3)
 (ar (cx (aU (aH Dg V2 (gP (iH K) (ay (aH (dY K) V0 (tC (.int 0))))))) (aN (aH (dY K) (aH (dY K) V0 (tC (.int 0))) V2) U3) (cx (aU (aH HE (gP (iH K) (ay (aH (dY K) V0 (tC (.int 0))))) (tC (.int 0)))) (aN (aH jx (aH (dY K) (aH (dY K) V0 (tC (.int 0))) (aH jx (aH dD (aH mT V2 (tC (.int 5))) (tC (.int 3))) (gP (iH K) (ay (aH (dY K) V0 (tC (.int 0))))))) (aH dD (aH Ku (tC (.int 10)) (tC (.int 17))) V2)) U3) (bC)))
 (ar (aN (aH dD V2 (tC (.int 1))) (DG V0 (tC (.int 1)) u6))
 (aN (aL sp_law_spread (aX V3 V2)) (DG V0 (tC (.int 2)) u6)))))) (bC))
 (ar (aN (aH jx (aH (dY K) V0 (tC (.int 2))) V1) U4)
 (ar (aN (aH HF (aH (dY K) V0 (tC (.int 2))) V1) (DG V0 (tC (.int 2)) u6))
 (aW V4)))
def D0:List Str:=["pen","many","at","cell","found"]
def AU(K:Za)(sp_law_take:Sp):TS :=
 ar (aN (tC (.str "abcdefghijklmnopqrstuvwxyz")) U2)
 (ar (aN (Ex K "str" (Kv K) (tC (.str "")) (am (cI 1 [2,0] (vw (ay (tC (.int 7)))) U0 (iS) (aH HD V1 (aL sp_law_take (aX V2 (tC (.int 26)))))) bh)) U3)
 (ar (aN (aL sp_law_take (aX V0 (tC (.int 3)))) U4)
 (ar (aN (aL sp_law_take (aX V0 (tC (.int 26)))) U5)
 (ar (aN (aL sp_law_take (aX V0 (tC (.int 8)))) U6)
 (ar (aN (c9 (bh)) U7)
 (ar (dW (vw (ay V1)) U8 (ar (aN (aH HD V2 (aH jx (aH dD V5 (aH mT (tC (.int 3)) V8)) (tC (.int 26)))) U9)
 (ar (aN (Cr JE V3 (fC) (gM (aH jx (aH dD V6 (aH mT V8 (aH jx V4 (tC (.int 2))))) (tC (.int 8))))) Lv)
 (ar (aN (aH (dY K) (c9 (cg (tC (.int 0)) (gP (iH K) (ay GJ)) (aH HF (gP (iH K) (ay GJ)) (tC (.int 2))))) V4) Mw)
 (cP (Ex K "list" iz V7 (ay (aH Ky (aH Ky (Cr JE GJ (fC) (gM Li)) V9) (Cr JE GJ (gM Li) (fC))))))))))
 (aW V7)))))))
def Cg:List Str:=["pen","many","letters","base","way","turn","size","found","k","sign","part","at"]
def Fy(K:Za):TS :=
 cx (aU (aH (qa K true) V1 V0)) (cP (Ex K "list" iz V0 (ay V1))) (bC)
def GN:List Str:=["doors","door"]
def rp(K:Za)(sp_law_take:Sp)(sp_law_put:Sp):TS :=
 ar (aN (c9 (bh)) U5)
 (ar (aN (aL sp_law_take (aX V0 (tC (.int 2)))) U6)
 (ar (dW (xB K (ay V3)) (jM K 2 (bv U7 (bv U8 (jH)))) (ar (dW (vw (am (aH (dY K) (c9 (am (tC (.int 0)) (cg (tC (.int 1)) (tC (.int 1)) (tC (.int 2))))) (aL sp_law_take (aX V0 (tC (.int 4))))) bh)) U9 (ar (aN (bg (am (tC (.str "say")) (am (aH (dY K) V2 (aL sp_law_take (aX V0 (gP (iH K) (ay V2))))) bh))) Lv)
 (cP (aL sp_law_put (am V5 (am (bg (am V8 (am GJ (am (aH (dY K) V3 (aL sp_law_take (aX V0 (gP (iH K) (ay V3))))) bh)))) bh))))))
 (ar (dW (bO K V1) Mw (dW (vw (am (aH (dY K) (c9 (am V4 (cg (tC (.int 1)) (tC (.int 1)) (tC (.int 2))))) (aL sp_law_take (aX V0 (tC (.int 4))))) bh)) U9 (cP (aL sp_law_put (am V5 (am (bg (am V8 (am (bg (aX (tC (.str "ask")) Li)) (am (aH (dY K) V3 (aL sp_law_take (aX V0 (gP (iH K) (ay V3))))) bh)))) bh))))))
 (ar (aN (aH (dY K) (c9 (am (Cr (rK K) V3 (gM (aH dD V7 (tC (.int 1)))) (fC)) (ay (Cr (rK K) V3 (fC) (gM V7))))) V6) U12)
 (cx (tF (aU (aH (wK K) Lu (c9 (bh)))) (aU (aH v5 (aL sp_law_take (aX V0 (tC (.int 3)))) (tC (.int 0))))) (cP (aL sp_law_put (am V5 (am (bg (am V8 (am (bg (ay (tC (.str "still")))) (am (aH (sH K) Lu (aL sp_law_take (aX V0 (gP (iH K) (ay Lu))))) bh)))) bh)))) (bC))))))
 (aW V5)))
def r9:List Str:=["pen","asks","says","rooms","full","doors","down","k","room","turn","sign","ask","later"]
def AV(K:Za)(sp_law_draw_doors:Sp)(sp_law_names:Sp)(sp_law_take:Sp)(sp_law_anew:Sp):TS :=
 ar (cP (aL sp_law_anew (ay V0)))
 (ar (aN (aL sp_law_names (aX V0 (tC (.int 8)))) U3)
 (ar (aN (Cr (rK K) V3 (fC) (gM (aH dD (tC (.int 1)) (aH (dY K) (c9 (am (tC (.int 0)) (am (tC (.int 1)) (am (tC (.int 1)) (cg (tC (.int 2)) (tC (.int 2)) (tC (.int 3))))))) (aL sp_law_take (aX V0 (tC (.int 6)))))))) U4)
 (ar (aN (Cr (rK K) V3 (gM (tC (.int 4))) (gM (aH dD (tC (.int 5)) (aH (dY K) (c9 (am (tC (.int 0)) (am (tC (.int 1)) (am (tC (.int 1)) (cg (tC (.int 2)) (tC (.int 2)) (tC (.int 3))))))) (aL sp_law_take (aX V0 (tC (.int 6)))))))) U5)
 (ar (aN (aL sp_law_names (aX V0 (aH dD (tC (.int 1)) (aL sp_law_take (am V0 (ay V1)))))) U6)
 (ar (aN (aL sp_law_draw_doors (am V0 (am V4 (cg V5 V6 V2)))) U7)
 (aW (bg (am V4 (cg V5 V6 V7)))))))))
def Ch:List Str:=["pen","most","full","words","asks","says","rooms","doors"]
def wg(K:Za)(C_Machine:Addr)(sp_Machine_init:Sp):TS :=
 aW (uQ C_Machine sp_Machine_init [] E0 (am (gP (dX K) (ay (aH (sH K) V0 (tC (.int 0))))) (am (gP (dX K) (ay (aH (sH K) V0 (tC (.int 1))))) (am (gP (dX K) (ay (aH (sH K) V0 (tC (.int 2))))) (am (gP (dX K) (ay (aH (sH K) V0 (tC (.int 3))))) bh)))))
def wS:List Str:=["told"]
def FA(K:Za):TS :=
 aW (A_ (aH LG V0 (tC (.str ""))) (A_ (aH rLeI (gP (iH K) (ay V0)) (tC (.int 8))) (gP (LI K) (ay (cI 1 [] (LR V0) U0 (iS) (aH rInS V0 (tC (.str "abcdefghijklmnopqrstuvwxyz"))))))))
def GP:List Str:=["text"]
def FB(K:Za):TS :=
 ar (aN (rH) U1)
 (ar (dW (bO K V0) U2 (jv V1 V2 (tC (.bl true))))
 (aW V1))
def GQ:List Str:=["things","keys","thing"]
def oQ(K:Za)(sp_is_name:Sp)(sp_as_keys:Sp):TS :=
 ar (cx (aU (aH v5 (gP (iH K) (ay V0)) (tC (.int 0)))) (aW (tC (.int 0))) (bC))
 (ar (aN (aL sp_as_keys (ay V2)) U3)
 (ar (dW (xB K (ay V0)) (jM K 2 (bv U4 (bv U5 (jH)))) (ar (cx (CK (aU (aH v5 V4 V1)) (CK (tB (CV K V5 V3)) (Jk (tB (aL sp_is_name (ay V5)))))) (aW V4) (bC))
 (jv V3 V5 (tC (.bl true)))))
 (aW (tC .non))))
def ph:List Str:=["names","most","taken","ahead","number","name"]
def zq(K:Za)(a_STILL:Addr):TS :=
 aW (aH kf (aH kf (cI 1 [] (bO K V0) U0 (iS) (bg (aX (tC (.str "ask")) V0))) (cI 1 [] (bO K V1) U0 (iS) (bg (aX (tC (.str "say")) V0)))) (c9 (ay (tC (.ref a_STILL)))))
def AA:List Str:=["asks","says"]
def oR(K:Za)(sp_as_keys:Sp):TS :=
 ar (aN (aL sp_as_keys (ay V1)) U3)
 (ar (aN (lq) U4)
 (ar (dW (xB K (ay V0)) (jM K 2 (bv U5 (bv U6 (jH)))) (ar (cx (CK (aU (aH v5 V5 (tC (.int 2000)))) (tB (CV K V6 V4))) (aW V5) (bC))
 (ar (cx (CK (tB (ir K (aH (sH K) V6 (tC (.int 0))) V3)) (CK (aU (aH (qa K true) (aH (sH K) V6 (tC (.int 1))) V2)) (tB (ir K (aH (sH K) V6 (tC (.int 2))) V3)))) (aW V5) (bC))
 (jv V4 V6 (tC (.bl true))))))
 (aW (tC .non))))
def pi:List Str:=["doors","rooms","signs","own_rooms","ahead","number","door"]
def jK(K:Za):TS :=
 ar (aN (lq) U1)
 (ar (dW (bO K V0) (jM K 3 (bv U2 (bv U3 (bv U4 (jH))))) (cP (Ex K "list" iz (Ex K "dict" Ez V1 (aX (bg (am V2 (ay V3))) (c9 (bh)))) (ay V4))))
 (aW V1))
def jN:List Str:=["doors","goals","start","sign","goal"]
def uK(K:Za)(a_STILL:Addr):TS :=
 ar (aN (rH) U2)
 (ar (aN (c9 (ay V1)) U3)
 (ar (CJ (aU (aH HE (gP (iH K) (ay V3)) (tC (.int 0)))) (ar (aN (KU K "list" LF V3) U4)
 (dW (LS K (zK K V0 (bg (aX V4 (tC (.ref a_STILL)))) (bg (bh)))) U5 (cx (tB (ir K V5 V2)) (ar (jv V2 V5 (tC (.bl true)))
 (cP (Ex K "list" iz V3 (ay V5)))) (bC)))))
 (aW V2)))
def vS:List Str:=["goals","room","led","waiting","here","goal"]
def pN(K:Za):TS :=
 ar (dW (xB K (ay V0)) (jM K 2 (bv U2 (bv U3 (jH)))) (cx (tB (CV K V3 (iD K V1 V3))) (aW V2) (bC)))
 (aW (tC .non))
def qJ:List Str:=["rooms","led","number","room"]
def AR(K:Za):TS :=
 cx (tB (xh V1)) (uP) (bC)
def Cc:List Str:=["part","number"]
def zc(K:Za)(sp_need_none:Sp)(sp_first_wrong_door:Sp)(sp_door_signs:Sp)(sp_first_wrong_name:Sp):TS :=
 ar (cP (aL sp_need_none (aX (tC (.str "asks")) (aL sp_first_wrong_name (cg V0 (tC (.int 4)) (c9 (bh)))))))
 (ar (cP (aL sp_need_none (aX (tC (.str "says")) (aL sp_first_wrong_name (cg V1 (tC (.int 4)) V0)))))
 (ar (cP (aL sp_need_none (aX (tC (.str "rooms")) (aL sp_first_wrong_name (cg V2 (tC (.int 150)) (c9 (bh)))))))
 (cP (aL sp_need_none (am (tC (.str "doors")) (ay (aL sp_first_wrong_door (cg V3 V2 (aL sp_door_signs (aX V0 V1))))))))))
def As:List Str:=["asks","says","rooms","doors"]
def rA(K:Za):TS :=
 ar (aN (rH) U2)
 (ar (dW (bO K V0) U3 (jv V2 V3 (c9 (bh))))
 (ar (dW (bO K V1) U4 (cP (Ex K "list" iz (iD K V2 (aH (sH K) V4 (tC (.int 0)))) (ay V4))))
 (aW V2)))
def se:List Str:=["rooms","doors","leaving","room","door"]
def rq(K:Za):TS :=
 aW (gP (LI K) (am (cI 1 [] (bO K V0) U0 (iS) (aH v5 (aH (sH K) (aH (sH K) V0 (tC (.int 1))) (tC (.int 0))) (tC (.str "ask")))) bh))
def r_:List Str:=["doors"]
def oU(K:Za)(sp_need_none:Sp)(sp_first_led_round:Sp)(sp_led_by_still:Sp)(sp_goals_by_start_and_sign:Sp)(sp_as_keys:Sp)(sp_has_asks_alone:Sp)(sp_doors_by_start:Sp)(sp_need_parts:Sp):TS :=
 ar (cP (aL sp_need_parts (am V1 (cg V2 V3 V4))))
 (ar (mv K V0 (gP (dX K) (ay V1)) "own_asks")
 (ar (mv K V0 (gP (dX K) (ay V2)) "own_says")
 (ar (mv K V0 (gP (dX K) (ay V3)) "own_rooms")
 (ar (mv K V0 (gP (dX K) (ay V4)) "own_doors")
 (ar (mv K V0 (aL sp_doors_by_start (aX V3 V4)) "leaving")
 (ar (mv K V0 (aL sp_as_keys (am (cI 1 [0] (bO K V3) U0 (tB (aL sp_has_asks_alone (ay (iD K (fQ K V1 "leaving") V0)))) V0) bh)) "quiet")
 (ar (mv K V0 (aL sp_goals_by_start_and_sign (ay V4)) "sign_goals")
 (ar (mv K V0 (gP (JF K) (am (cI 1 [0] (bO K V3) U0 (iS) (bg (aX V0 (aL sp_led_by_still (am (fQ K V1 "sign_goals") (ay V0)))))) bh)) "still_led")
 (cP (aL sp_need_none (aX (tC (.str "still")) (aL sp_first_led_round (am V3 (ay (fQ K V0 "still_led")))))))))))))))
def pq:List Str:=["self","asks","says","rooms","doors"]
def oT(K:Za):TS :=
 aW (CV K V1 (fQ K V0 "quiet"))
def pp:List Str:=["self","room"]
def on(K:Za)(sp_with_still:Sp)(C_Machine:Addr)(sp_Machine_goals:Sp)(a_HUSH:Addr)(sp_Machine_is_quiet:Sp):TS :=
 ar (cx (aU (aH (mU K) V2 (tC (.ref a_HUSH)))) (aW (gP (Bl K) (ay (cI 1 [0] (Gk K V1) U0 (tB (cq C_Machine "is_quiet" sp_Machine_is_quiet [] E0 V1 (ay V0))) V0)))) (bC))
 (ar (aN (c9 (bh)) U3)
 (ar (dW (Gk K V1) U4 (cP (Ex K "list" EB V3 (ay (cq C_Machine "goals" sp_Machine_goals [] E0 V0 (aX V4 V2))))))
 (aW (aL sp_with_still (aX V0 V3)))))
def oz:List Str:=["M","face","sign","goals","room"]
def bA(p:Addr)(H H':Hp):Prop:=∀b o,H b=some o->b≠p->H' b=some o
theorem bA.refl(p:Addr)(H:Hp):bA p H H:=fun _ _ h _=>h
theorem bA.trans(a:bA p H e)(b:bA p e f):bA p H f:=fun c o h n=>b c o (a c o h n) n
theorem ab.exB(a:ab H e):bA p H e:=fun b o h _=>a b o h
theorem bA.upd(p:Addr)(H:Hp)(o:HO):bA p H (upd H p o):=fun b u h n=>by rw[ai n];exact h
theorem ab.new{H:Hp}{a:Addr}{o:HO}(h:H a=none):ab H (upd H a o):=fun b u e=>by rw[ai (ae e h)];exact e
theorem bA.free(e:bA p H a){u:HO}(f:a p=some u)(h:a l=none):H l=none:=by
 cases q:H l with
 |none=>rfl
 |some o =>
  by_cases z:l=p
  ·subst z;rw[f]at h;cases h
  ·rw[e l o q z]at h;cases h
theorem kp{H:Hp}{a b:Addr}{o x:HO}(h:H b=some o)(n:H a=none):upd H a x b=some o:=by rw[ai (ae h n)];exact h
structure Fk(H:Hp)(p c:Addr)(at_ rest:Int)(ns:List Int):Prop where
 pen:H p=some (.lst [.ref c,.int at_,.int rest])
 cells:H c=some (.lst (ns.map V.int))
 at0:0<=at_
 rest0:0<=rest
theorem Fk.ne(h:Fk H p c a r g):c≠p:=by
 intro e;have i:=h.pen;have f:=h.cells;rw[e,i]at f;injection f with f;injection f with f;cases g with
 |nil=>cases f
 |cons n g=>injection f with f;cases f
def hW(H:Hp)(p c:Addr):Prop:=∃a r ns,Fk H p c a r ns
theorem hW.ex(h:hW H p c)(e:ab H f):hW f p c:=by
 obtain⟨a,r,g,i,j,k,l⟩:=h;exact⟨a,r,g,e _ _ i,e _ _ j,k,l⟩
theorem hW.pen(h:hW H p c):∃o,H p=some o:=by
 obtain⟨a,r,f,e,_⟩:=h;exact⟨_,e⟩
theorem hW.cell(h:hW H p c):∃o,H c=some o:=by
 obtain⟨a,r,f,_,e,_⟩:=h;exact⟨_,e⟩
theorem hW.upd{l:Addr}{o:HO}(h:hW H p c)(e:p≠l)(f:c≠l):hW (upd H l o) p c:=by
 obtain⟨a,r,g,i,j,k,m⟩:=h;exact⟨a,r,g,by rw[ai e];exact i,by rw[ai f];exact j,k,m⟩
theorem hW.nep{l:Addr}(h:hW H p c)(a:H l=none):p≠l:=let⟨_,e⟩:=h.pen;ae e a
theorem hW.nec{l:Addr}(h:hW H p c)(a:H l=none):c≠l:=let⟨_,e⟩:=h.cell;ae e a
theorem bA.new{H:Hp}{a:Addr}{o:HO}(h:H a=none):bA p H (L2.upd H a o):=fun b u e _=>by rw[ai (ae e h)];exact e
inductive nC (vs:List V)(H:Hp)(Q:VK)(E:XK):Prop
 |mk (c a:Int):(vs=[.int c,.int a])->(0<=a)->(∀r:Int,0<=r->Q (.int r) H)->nC  vs H Q E
theorem qE{j:Int}(a:-(2 ^ 64)<j)(e:j<2 ^ 64):IY i j:=.inr ⟨a,e⟩
theorem FG{K:Za}(h:nC j H Q E):zg K (bo Q) (start Av j) H:=by
 obtain⟨c,a,rfl,x,k⟩:=h;refine⟨_,rfl,_,_,rfl,rfl,⟨by decide,by decide,by decide⟩,_,_,rfl,rfl,_,rfl,?_⟩;refine i7 (fun h=>?_) (fun _=>?_)
 ·refine⟨_,rfl,k _ ?_⟩;have:=of_decide_eq_true h;have e:((10:Int) ^ (18:Int).toNat)=1000000000000000000:=by decide
  omega
 ·have one:∀z:Int,0<=z % 2147483629/\z % 2147483629<2147483629:=fun z=>⟨oF _ (by decide),oE _ (by decide)⟩;have two:∀z:Int,0<=z % 2147483587/\z % 2147483587<2147483587:=fun z=>⟨oF _ (by decide),oE _ (by decide)⟩;have three:∀z:Int,0<=z % 2147483563/\z % 2147483563<2147483563:=fun z=>⟨oF _ (by decide),oE _ (by decide)⟩;refine⟨_,rfl,_,_,rfl,rfl,(by show(0:Int)<1000000007;decide),_,_,rfl,rfl,qE (by decide) (by decide),_,rfl,_,_,rfl,rfl,qE (by decide) (by decide),_,_,rfl,rfl,_,_,rfl,rfl,_,_,rfl,rfl,(by show(0:Int)<2147483629;decide),?_⟩;generalize l:(c % 1000000007 * 69069+a * 40503+977)=f;obtain⟨m,n⟩:=one f;generalize f % 2147483629=o at m n ⊢;refine⟨_,rfl,_,rfl,_,_,rfl,rfl,qE (by omega) (by omega),_,rfl,_,_,rfl,rfl,qE (by decide) (by decide),_,_,rfl,rfl,_,rfl,_,_,rfl,rfl,(by show(0:Int)<65537;decide),_,_,rfl,rfl,_,_,rfl,rfl,(by show(0:Int)<2147483587;decide),?_⟩;generalize p:(o * o+a * 7919+c % 65537)=g;obtain⟨s,t⟩:=two g;generalize g % 2147483587=q at s t ⊢;refine⟨_,rfl,_,rfl,_,_,rfl,rfl,qE (by omega) (by omega),_,rfl,_,_,rfl,rfl,qE (by decide) (by decide),_,_,rfl,rfl,_,_,rfl,rfl,_,_,rfl,rfl,(by show(0:Int)<2147483563;decide),?_⟩;generalize u:(q * q+o * 31+5)=i;obtain⟨v,w⟩:=three i;generalize i % 2147483563=r at v w ⊢;refine⟨_,rfl,_,_,rfl,rfl,qE (by decide) (by decide),_,rfl,_,_,rfl,rfl,_,_,rfl,rfl,qE (by decide) (by decide),_,rfl,_,_,rfl,rfl,k _ ?_⟩;omega
def tX:Sp:=fun vs H Q _=>∃p c,vs=[.ref p]/\hW H p c/\∀H',hW H' p c->bA p H H'->Q (.ref p) H'
theorem JD{K:Za}(h:tX e H Q E):CI K (bo Q) (start Ec e) H:=by
 obtain⟨p,c,rfl,⟨a,r,f,h⟩,k⟩:=h;refine⟨_,rfl,p,_,_,_,rfl,rfl,h.pen,rfl,_,rfl,k _ ⟨a,0,f,aa,?_,h.at0,yh 0⟩ (bA.upd _ _ _)⟩;rw[ai h.ne];exact h.cells
theorem Fg{ns:List Int}{a:Int}(e:0<=a)(g:a<ns.length):∃z,xU (ns.map V.int) a=some (.int z):=by
 obtain⟨n,rfl⟩:=j9 e;have f:n<ns.length:=by omega
 exact⟨ns[n],ca (by simp[f])⟩
inductive fD (vs:List V)(H:Hp)(Q:VK)(E:XK):Prop
 |mk (p c:Addr) (m:Int):(vs=[.ref p,.int m])->(hW H p c)->(0<m)->(m<1073741824)->(∀(r:Int) (H':Hp),0<=r->r<m->hW H' p c->bA p H H'->Q (.int r) H')->fD  vs H Q E
theorem dU{Q:VK}{m:Int}(e:hW H p c)(f:0<m)(g:m<1073741824)(k:∀(r:Int) (a:Hp),0<=r->r<m->hW a p c->bA p H a->Q (.int r) a):fD [.ref p,.int m] H Q E:=by
 exact⟨p,c,m,rfl,e,f,g,k⟩
theorem Jt{K:Za}(h:fD A H Q E):CD K nC (bo Q) (start D0 A) H:=by
 obtain⟨p,c,m,rfl,⟨a,r,ns,h⟩,j,l,k⟩:=h;have f:∀(H':Hp) (n t:Int) (x y:Option V),Fk H' p c n t ns->bA p H H' ->
   (ar (aN (aH jx (aH (dY K) V0 (tC (.int 2))) V1) U4) (ar (aN (aH HF (aH (dY K) V0 (tC (.int 2))) V1) (DG V0 (tC (.int 2)) u6)) (aW V4)))
    (bo Q) [some (.ref p),some (.int m),x,y,none] H':=by
  intro H' n t x y g ex;refine⟨_,rfl,p,_,2,_,rfl,rfl,aw.of g.pen,rfl,_,rfl,_,_,rfl,rfl,j,?_⟩;refine⟨_,rfl,p,_,2,_,rfl,rfl,aw.of g.pen,rfl,_,rfl,_,_,rfl,rfl,⟨j,l⟩,_,rfl,p,_,_,_,rfl,rfl,g.pen,rfl,?_⟩;refine⟨_,rfl,k _ _ (oF _ (by omega)) (oE _ j) ⟨n,_,ns,aa,?_,g.at0,Int.ediv_nonneg g.rest0 (by omega)⟩ (ex.trans (bA.upd _ _ _))⟩;rw[ai g.ne];exact g.cells
 refine⟨_,rfl,p,_,2,_,rfl,rfl,aw.of h.pen,rfl,_,rfl,_,_,rfl,rfl,_,rfl,?_⟩;refine i7 (fun B=>?_) (fun B=>?_)
 ·-- at=pen[1];cell=0;if at<C(pen[0])
  refine⟨_,rfl,p,_,1,_,rfl,rfl,aw.of h.pen,rfl,?_⟩;have o:(V.int ((ns.map V.int).length:Nat))=V.int (ns.length:Nat):=by rw[ah]
  refine⟨_,rfl,_,rfl,p,_,0,_,rfl,rfl,aw.of h.pen,rfl,.inl ⟨c,_,rfl,.inl (aw.of h.cells),_,_,rfl,o,_,rfl,?_⟩⟩;refine i7 (fun u=>?_) (fun u=>?_)
  ·obtain⟨z,s⟩:=Fg (ns:=ns) h.at0 (of_decide_eq_true u);refine⟨_,rfl,p,_,0,_,rfl,rfl,aw.of h.pen,rfl,_,rfl,c,_,_,_,rfl,rfl,aw.of h.cells,s,?_⟩;refine⟨_,rfl,_,_,rfl,rfl,_,rfl,p,_,_,_,rfl,rfl,h.pen,rfl,?_⟩;refine⟨_,rfl,_,rfl,_,_,rfl,h.at0,fun q i=>⟨_,rfl,p,_,_,_,rfl,rfl,aa,rfl,?_⟩⟩;rw[tS];refine f _ (a+1) q _ _ ⟨aa,by rw[ai h.ne];exact h.cells,by have:=h.at0;omega,i⟩ (bA.upd _ _ _)
  ·refine⟨_,rfl,p,_,0,_,rfl,rfl,aw.of h.pen,rfl,.inl ⟨c,_,rfl,.inl (aw.of h.cells),_,_,o,rfl,_,rfl,?_⟩⟩;refine i7 (fun v=>?_) (fun v=>?_)
   ·have w:(0:Int)<ns.length:=of_decide_eq_true v;obtain⟨z,s⟩:=Fg (ns:=ns) (a:=(a * 5+3) % (ns.length:Int)) (oF _ (by omega)) (oE _ w);refine⟨_,rfl,p,_,0,_,rfl,rfl,aw.of h.pen,rfl,_,rfl,_,_,rfl,rfl,qE (by decide) (by decide),_,_,rfl,rfl,_,rfl,p,_,0,_,rfl,rfl,aw.of h.pen,rfl,.inl ⟨c,_,rfl,.inl (aw.of h.cells),_,_,rfl,o,w,c,_,_,_,rfl,rfl,aw.of h.cells,s,?_⟩⟩;refine⟨_,_,rfl,rfl,⟨by decide,by decide,by decide⟩,_,rfl,_,_,rfl,rfl,_,_,rfl,rfl,?_,?_⟩
    ·have e:((10:Int) ^ (17:Int).toNat)=100000000000000000:=by decide
     have:=h.at0;show(0:Int)<10 ^ (17:Int).toNat+a;omega
    refine⟨_,rfl,_,_,rfl,rfl,_,rfl,p,_,_,_,rfl,rfl,h.pen,rfl,?_⟩;refine⟨_,rfl,_,rfl,_,_,rfl,h.at0,fun q i=>⟨_,rfl,p,_,_,_,rfl,rfl,aa,rfl,?_⟩⟩;rw[tS];refine f _ (a+1) q _ _ ⟨aa,by rw[ai h.ne];exact h.cells,by have:=h.at0;omega,i⟩ (bA.upd _ _ _)
   ·refine⟨_,rfl,_,_,rfl,rfl,_,rfl,p,_,_,_,rfl,rfl,h.pen,rfl,?_⟩;refine⟨_,rfl,_,rfl,_,_,rfl,h.at0,fun q i=>⟨_,rfl,p,_,_,_,rfl,rfl,aa,rfl,?_⟩⟩;rw[tS];refine f _ (a+1) q _ _ ⟨aa,by rw[ai h.ne];exact h.cells,by have:=h.at0;omega,i⟩ (bA.upd _ _ _)
 ·exact f H a r _ _ h (bA.refl _ _)
inductive tT(K:Za)(vs:List V)(H:Hp)(Q:VK)(E:XK):Prop
 |mk (a:Addr) (ns:List Int):(vs=[.ref a])->(aw K H a (ns.map V.int))->(ns.length<=63)->(∀(p c:Addr) (H':Hp),H p=none->hW H' p c->ab H H'->Q (.ref p) H')->tT K vs H Q E
theorem xL(a:List Int)(lo e:Option Int):∃f:List Int,fX (a.map V.int) lo e=f.map V.int/\f.length=(fX (a.map V.int) lo e).length:=by
 refine⟨(a.drop (HT.sIx (a.map V.int).length 0 lo)).take (HT.sIx (a.map V.int).length (a.map V.int).length e-HT.sIx (a.map V.int).length 0 lo),?_,?_⟩
 ·unfold fX;rw[ul,yg]
 ·unfold fX;rw[aJ,aJ,dS,dS,ah]
theorem Jv{K:Za}(h:tT K vs H Q E):CF K (bo Q) (start D_ vs) H:=by
 obtain⟨a,s,rfl,hs,hn,k⟩:=h;obtain⟨D,e0,l0⟩:=xL s none (some 12);obtain⟨B,e1,l1⟩:=xL s (some 12) (some 63);have G:B≠[]->D.length=12:=by
  intro L;have l:0<B.length:=by cases B with|nil=>exact absurd rfl L|cons _ _=>simp
  rw[l1]at l;rw[l0];unfold fX at l ⊢;rw[aJ,dS,ah]at l;rw[aJ,dS,ah];have s1:HT.sIx s.length 0 (some 12)=min 12 s.length:=HT.sIx_nat _ _ 12;have s2:HT.sIx s.length s.length (some 12)=min 12 s.length:=HT.sIx_nat _ _ 12;rw[HT.sIx_none,s2];rw[s1]at l;omega
 refine⟨_,rfl,_,rfl,a,_,rfl,hs,fun q hq=>.inl ⟨q,_,rfl,.inl (aw.of aa),fun c C=>?_⟩⟩;rw[e0]at C ⊢;have M:H c=none:=by
  have:c≠q:=fun z=>by subst z;rw[aa]at C;cases C
  rw[ai this]at C;exact C
 have hS:ab H (upd (upd H q (.lst (D.map V.int))) c (.lst (D.map V.int))):=(ab.new hq).trans (ab.new C);refine⟨_,rfl,_,rfl,_,rfl,a,_,rfl,hS.seq hs,fun r N=>⟨r,rfl,⟨_,aw.of aa⟩,?_⟩⟩;rw[e1];have O:c≠r:=ae aa N;refine m_ (xs:=B.map V.int) (fun i σ w=>Mb fun(j:List Int) (x y:Option V)=>Mc (σ=[some (.ref a),some (.ref c),x,y]) (w c=some (.lst (j.map V.int))) (j.length=D.length) (w r=some (.lst (B.map V.int))) (ab H w))
  ⟨D,none,none,rfl,kp aa N,rfl,aa,hS.trans (ab.new N)⟩ (fun i σ w _ ⟨j,x,y,_,_,_,h,_⟩=>aw.of h) ?_ ?_
 ·rintro i x σ w t T ⟨j,u,v,rfl,f,I,J,m⟩ U;have A:i<B.length:=by
   have:=(bN.mp T).1;rwa[ah]at this
  have an:=G (fun z=>by rw[z]at A;simp at A);obtain⟨z,rfl⟩:∃z,x=V.int z:=by
   rw[cH,de A]at T;exact⟨_,(fM T).symm⟩
  have g:upd w t (.tup [.int i,.int z]) c=some (.lst (j.map V.int)):=kp f U;have n:(i:Int) % 12=((i % 12:Nat):Int):=by omega
  have Y:i % 12<j.length:=by omega
  refine⟨t,_,rfl,bP.of aa,rfl,_,_,rfl,_,_,rfl,rfl,?_⟩;have al:xU (j.map V.int) ((i:Int) % 12)=some (.int j[i % 12]):=by rw[n];exact ca (by simp[Y])
  refine⟨_,rfl,_,rfl,_,_,rfl,rfl,(by show(0:Int)<12;decide),c,_,_,_,rfl,rfl,aw.of g,al,_,rfl,_,_,rfl,rfl,_,rfl,_,rfl,_,_,rfl,rfl,(by show(0:Int)<12;decide),c,_,_,i % 12,rfl,rfl,g,?_,?_⟩
  ·rw[n];unfold GS;rw[if_pos (by omega),if_pos (by rw[ah];omega)];rw[lf]
  ·refine⟨j.set (i % 12) (j[i % 12]+z),_,_,rfl,?_,by rw[List.length_set];exact I,?_,?_⟩
   ·rw[aa,List.map_set]
   ·rw[ai O.symm];exact kp J U
   ·intro b o e;rw[ai (ae e M)];exact kp (m b o e) U
 ·rintro σ w ⟨j,x,y,rfl,f,I,J,m⟩;refine⟨_,rfl,(by show 3<=aj;decide),fun p hp=>k p c _ (m.free hp) ⟨0,0,j,aa,kp f hp,yh _,yh _⟩ (m.trans (ab.new hp))⟩
def z0(c:Nat):Prop:=97<=c/\c<=122
structure sh(w:Str):Prop where
 lo:1<=w.length
 hi:w.length<=8
 al:∀c∈w.cps.toList,z0 c
theorem Fi:∀n:Nat,n<26->(("abcdefghijklmnopqrstuvwxyz":Str).cps.toList)[n]?=some (97+n):=by decide +kernel
theorem Fh:("abcdefghijklmnopqrstuvwxyz":Str).length<=aj:=by decide +kernel
theorem IQ{r:Int}(a:0<=r)(e:r<26):xU (("abcdefghijklmnopqrstuvwxyz":Str).cps.toList) r=some (97+r.toNat):=by
 obtain⟨n,rfl⟩:=j9 a;rw[lf];exact ca (Fi n (by omega))
theorem wM(f:List Nat):∀a:Array Nat,((f.map fun c=>(⟨#[c]⟩:Str)).foldl (fun a p=>a++("":Str).cps++p.cps) a).toList=a.toList++f:=by
 have e:("":Str).cps=#[]:=by decide +kernel
 induction f with
 |nil=>intro a;simp
 |cons c f g =>
  intro a;rw[bG,qR,g,e];simp
theorem Dx(a:List Nat):(yo "" (a.map fun c=>(⟨#[c]⟩:Str))).cps.toList=a:=by
 unfold yo bQ.Str.glued;cases a with
 |nil=>rfl
 |cons c a =>
  rw[bG];show((a.map fun c=>(⟨#[c]⟩:Str)).foldl (fun e p=>e++("":Str).cps++p.cps) #[c]).toList=_;rw[wM]
  rfl
theorem Jo{a b:Str}(h:a.cps.toList=b.cps.toList):a=b:=by
 cases a with|mk x=>cases b with|mk y=>exact congrArg Str.mk (Array.toList_inj.mp h)
theorem ga(a:Str):a.length=a.cps.toList.length:=by simp[Str.length]
theorem Ao(a b:Str):(a++b).cps.toList=a.cps.toList++b.cps.toList:=by
 show(a.cps++b.cps).toList=_;simp
theorem IF(z:Str)(m:Nat):(vI z none (some (m:Int))).cps.toList=z.cps.toList.take m:=by
 unfold vI;rw[HT.sIx_none,HT.sIx_nat,ur,Nat.sub_zero,ga];show List.take _ _=_;rw[List.take_eq_take_iff];omega
theorem IG(z:Str)(m:Nat):(vI z (some (m:Int)) none).cps.toList=z.cps.toList.drop m:=by
 unfold vI;rw[HT.sIx_none,HT.sIx_nat,ga];show List.take _ _=_;rw[um (by rw[dS];omega)];by_cases h:m<=z.cps.toList.length
 ·rw[qQ h]
 ·rw[Nat.min_eq_right (by omega),mE,qX (by omega)]
def fP(way size k:Nat):Nat:=(size+k * (way % 2)) % 8
def Cq(way m:Nat):Nat:=if way=0 then 0 else if way=1 then m else m / 2
def om(b:List Nat)(way turn size k:Nat):List Nat :=
 (b.take (fP way size k)).take (Cq way (fP way size k))++[97+(turn+3 * k) % 26]++(b.take (fP way size k)).drop (Cq way (fP way size k))
def AN(b:List Nat)(way turn size k:Nat):Str:=⟨(om b way turn size k).toArray⟩
theorem rj{b:List Nat}(f:b.length=7)(e turn a k:Nat):(om b e turn a k).length=fP e a k+1:=by
 have g:fP e a k<8:=uk _ (by decide);unfold om;rw[ba,ba,aJ,dS,aJ,f];have:Cq e (fP e a k)<=fP e a k:=by unfold Cq;split;omega;split;omega;omega
 simp;omega
theorem Jc{b:List Nat}(i:b.length=7)(g:∀c∈b,z0 c)(f turn a k:Nat):sh (AN b f turn a k):=by
 have j:fP f a k<8:=uk _ (by decide);have h:=rj i f turn a k;have e:(AN b f turn a k).cps.toList=om b f turn a k:=by simp[AN]
 refine⟨?_,?_,?_⟩
 ·rw[ga,e];omega
 ·rw[ga,e];omega
 ·rw[e];intro c hc;unfold om at hc;rcases bM.mp hc with hc|hc
  ·rcases bM.mp hc with hc|hc
   ·exact g c (hZ (hZ hc))
   ·have:c=97+(turn+3 * k) % 26:=by simpa using hc
    subst this;have:(turn+3 * k) % 26<26:=uk _ (by decide);exact⟨by omega,by omega⟩
  ·exact g c (hZ (List.mem_of_mem_drop hc))
theorem GY{b:List Nat}(g:b.length=7){f:Nat}(t:f<3){j k:Nat}(u:j<26)(v:k<26)(h:AN b f turn a j=AN b f turn a k):j=k:=by
 have o:∀i,fP f a i<8:=fun i=>uk _ (by decide);have e:om b f turn a j=om b f turn a k:=by
  have:=congrArg (fun s=>Str.cps s |>.toList) h;simpa[AN]using this
 have p:fP f a j=fP f a k:=by
  have:=congrArg List.length e;rw[rj g,rj g]at this;omega
 have q:97+(turn+3 * j) % 26=97+(turn+3 * k) % 26:=by
  have l:∀i,Cq f (fP f a i)<=fP f a i:=fun i=>by unfold Cq;split;omega;split;omega;omega
  have get:∀i,(om b f turn a i)[Cq f (fP f a i)]?=some (97+(turn+3 * i) % 26):=by
   intro i;unfold om;have r:((b.take (fP f a i)).take (Cq f (fP f a i))).length=Cq f (fP f a i):=by
    rw[aJ,aJ,g];have:=o i;have:=l i;omega
   rw[eV,List.getElem?_append_right (by omega),r,Nat.sub_self]
   rfl
  have m:=get j;have n:=get k;rw[e,p]at m;rw[m]at n;exact fM n
 omega
def lT(ws:Zb):Prop:=ws.Nodup/\∀w∈ws,sh w
def lh(b:List Nat)(way turn size n:Nat):List Str:=(mm n).map (AN b way turn size)
theorem Cy{b:List Nat}(f:b.length=7)(i:∀c∈b,z0 c){a n:Nat}(l:a<3)(q:n<=26):lT (lh b a turn g n):=by
 refine⟨?_,fun w m=>?_⟩
 ·unfold lh;rw[yf,List.pairwise_map];refine(List.nodup_range (n:=n)).imp_of_mem ?_;intro j k o p e h;exact e (GY f l (by have:=List.mem_range.mp o;omega) (by have:=List.mem_range.mp p;omega) h)
 ·obtain⟨k,_,rfl⟩:=aS.mp m;exact Jc f i _ _ _ _
inductive mP (vs:List V)(H:Hp)(Q:VK)(E:XK):Prop
 |mk (p c:Addr) (n:Nat):(vs=[.ref p,.int n])->(hW H p c)->(n<=26)->(∀(l:Addr) (ws:Zb) (H':Hp),lT ws->ws.length=n->H l=none->H' l=some (.lst (ws.map V.str))->hW H' p c->bA p H H'->Q (.ref l) H')->mP  vs H Q E
theorem Ho{K:Za}(h:mP B H Q E):AU K fD (bo Q) (start Cg B) H:=by
 obtain⟨p,c,n,rfl,C,hn,k⟩:=h;refine⟨rfl,7,rfl,by decide,by decide,fun l I=>?_⟩;refine DP (lo:=0) (n:=Int.toNat 7) (fun i B u=>∃o:List Nat,B=o.map (fun c=>V.str ⟨#[c]⟩)/\o.length=i/\(∀c∈o,z0 c)/\hW u p c/\bA p H u/\u l=some (.lst B))
  ⟨[],rfl,rfl,(fun _ h=>nomatch h),C.ex (ab.new I),bA.new I,aa⟩ (fun i B u _ ⟨_,_,_,_,_,_,h⟩=>h) ?_ ?_
 rotate_left
 ·rintro i B u hi ⟨o,rfl,g,w,v,aC,a0⟩;have J:=C.nep I;have a4:=C.nec I;refine gN (pL ?_);refine⟨_,rfl,_,rfl,dU v (by decide) (by decide) fun r H2 h0 h1 D s=>⟨_,r,_,rfl,rfl,Fh,IQ h0 h1,?_⟩⟩;have a5:=s l _ a0 J.symm;refine⟨a5,by rw[ah,g];exact aq (by omega),mY hi ⟨o++[97+r.toNat],by rw[av];rfl,by rw[ba,g];rfl,?_,D.upd J a4,?_,aa⟩⟩
  ·intro x hc;rcases bM.mp hc with hc|hc
   ·exact w x hc
   ·have:x=97+r.toNat:=by simpa using hc
    subst this;exact⟨by omega,by omega⟩
  ·intro b o' e nb;rw[ai (ae e I)];exact s b o' (aC b o' e nb) nb
 ·rintro B H1 ⟨o,rfl,g,w,a6,L,a7⟩;refine⟨"",l,o.map fun c=>(⟨#[c]⟩:Str),rfl,rfl,aw.of (by rw[a7,jg];rfl),?_,?_⟩
  ·have e0:("":Str).length=0:=by decide +kernel
   rw[e0,Nat.mul_zero,jg];have:∀o:List Nat,(o.map ((fun x=>Str.length x) ∘ fun c=>(⟨#[c]⟩:Str))).sum=o.length:=by
    intro o
    induction o with
    |nil=>rfl
    |cons c o ih=>rw[bG,qP,ih,fS];show 1+_=_;omega
   rw[this,g];decide
  refine⟨_,rfl,dU a6 (by decide) (by decide) fun bl H2 w0 w1 D s=>?_⟩;refine⟨_,rfl,dU D (by decide) (by decide) fun turn H3 t0 t1 a8 M=>?_⟩;refine⟨_,rfl,dU a8 (by decide) (by decide) fun bi H4 s0 s1 N O=>?_⟩;have T:bA p H H4:=((L.trans s).trans M).trans O;obtain⟨j,rfl⟩:=j9 w0;obtain⟨G,rfl⟩:=j9 t0;obtain⟨sz,rfl⟩:=j9 s0;have hb:=Dx o;generalize yo "" (o.map fun c=>(⟨#[c]⟩:Str))=base at hb ⊢;refine⟨(by show 0<=aj;decide),fun f hf=>?_⟩;obtain⟨op,a9⟩:=N.pen;have y:H f=none:=T.free a9 hf;have U:=C.nep y;have Y:=C.nec y;refine⟨_,rfl,n,rfl,by omega,by omega,kQ (lo:=0) (n:=((n:Int)).toNat) (fun i σ u=>∃(a b c' d:Option V),σ=[some (.ref p),some (.int n),some (.str "abcdefghijklmnopqrstuvwxyz"),some (.str base),some (.int j),some (.int G),some (.int sz),some (.ref f),a,b,c',d] /\
   hW u p c/\bA p H u/\u f=some (.lst ((lh o j G sz i).map V.str)))
   ⟨_,_,_,_,rfl,N.upd U Y,T.trans (bA.new hf),aa⟩ ?_ ?_⟩
  ·rintro i σ u hi ⟨a,b,c',d,rfl,v,t,z⟩;have bm:i<n:=by omega
   have bn:j<3:=by omega
   have bc:((G:Int)+3 * (0+(i:Int))) % 26=(((G+3 * i) % 26:Nat):Int):=by omega
   refine⟨_,rfl,_,rfl,_,rfl,_,_,rfl,rfl,.inl ⟨by decide,by decide⟩,_,_,rfl,rfl,_,_,rfl,rfl,(by show(0:Int)<26;decide),_,_,_,rfl,rfl,Fh,IQ (oF _ (by decide)) (oE _ (by decide)),?_⟩;have al:base.length<=aj:=by rw[ga,hb,g];decide
   have e8:((sz:Int)+(0+(i:Int)) * ((j:Int) % 2)) % 8=((fP j sz i:Nat):Int):=by
    unfold fP;have:j=0∨j=1∨j=2:=by omega
    rcases this with rfl|rfl|rfl<;>simp<;>omega
   refine⟨_,rfl,_,rfl,_,rfl,_,rfl,_,_,rfl,rfl,(by show(0:Int)<2;decide),_,_,rfl,rfl,.inr ⟨by omega,by omega⟩,_,_,rfl,rfl,_,_,rfl,rfl,(by show(0:Int)<8;decide),_,rfl,base,rfl,al,?_⟩;rw[e8];have m:=IF base (fP j sz i);rw[hb]at m;generalize vI base none (some ((fP j sz i:Nat):Int))=part at m ⊢;have h8:fP j sz i<8:=uk _ (by decide);have A:part.length=fP j sz i:=by rw[ga,m,aJ,g];omega
   have pz:part.length<=aj:=by rw[A];exact cV (aq (by omega))
   refine⟨_,rfl,.inr ⟨part,rfl,pz,_,rfl,.inr ⟨part,rfl,pz,_,_,rfl,rfl,⟨by decide,by decide⟩,(by show 3<=aj;decide),fun q hq=>?_⟩⟩⟩;have an:H q=none:=by
    obtain⟨bu,ap⟩:=v.pen;exact t.free ap hq
   have bd:xU [V.int 0,V.int (part.length:Nat),V.int ((part.length:Int) / 2)] (j:Int)=some (.int (Cq j (fP j sz i):Nat)):=by
    rw[A];have:j=0∨j=1∨j=2:=by omega
    rcases this with rfl|rfl|rfl
    ·rfl
    ·rfl
    ·show some (V.int (((fP 2 sz i:Nat):Int) / 2))=some (V.int ((Cq 2 (fP 2 sz i):Nat):Int));have:Cq 2 (fP 2 sz i)=fP 2 sz i / 2:=rfl;rw[this];congr 2
   refine⟨_,rfl,q,_,_,_,rfl,rfl,aw.of aa,bd,?_⟩;have as:upd u q (.lst [V.int 0,V.int (part.length:Nat),V.int ((part.length:Int) / 2)]) f=some (.lst ((lh o j G sz i).map V.str)):=kp z hq;have c1:=IF part (Cq j (fP j sz i));have c2:=IG part (Cq j (fP j sz i));have l1:(vI part none (some ((Cq j (fP j sz i):Nat):Int))).length<=8:=by rw[ga,c1,aJ,m,aJ,g];omega
   have l2:(vI part (some ((Cq j (fP j sz i):Nat):Int)) none).length<=8:=by rw[ga,c2,dS,m,aJ,g];omega
   refine⟨_,rfl,.inl ⟨rfl,_,aw.of as⟩,_,rfl,_,rfl,_,rfl,part,rfl,pz,_,rfl,_,_,rfl,rfl,?_,_,rfl,_,rfl,_,rfl,part,rfl,pz,_,_,rfl,rfl,?_,f,_,_,rfl,rfl,as,?_,?_⟩
   ·have:Str.length ⟨#[97+(((G:Int)+3 * (0+(i:Int))) % 26).toNat]⟩=1:=rfl;rw[this];exact cV (aq (by omega))
   ·rw[ga,Ao,ba,<-ga,<-ga];have:Str.length ⟨#[97+(((G:Int)+3 * (0+(i:Int))) % 26).toNat]⟩=1:=rfl;rw[this];exact cV (aq (by omega))
   ·rw[ah];unfold lh;rw[ah,List.length_range];exact aq (by omega)
   ·refine⟨_,_,_,_,rfl,(v.upd (C.nep an) (C.nec an)).upd U Y,?_,?_⟩
    ·intro b' o' e nb;rw[ai (ae e y)];exact kp (t b' o' e nb) hq
    ·rw[aa];unfold lh;rw[List.range_succ,av,av];congr 3;show[V.str _]=[V.str _];congr 2;refine Jo ?_;rw[Ao,Ao,c1,c2,m,bc,lf];simp[AN,om]
  ·rintro σ u ⟨a,b,c',d,rfl,v,t,z⟩;have en:((n:Int)).toNat=n:=by omega
   rw[en]at z;exact⟨_,rfl,k f _ u (Cy g w (by omega) hn) (by unfold lh;rw[ah,List.length_range]) y z v t⟩
structure ao where
 a:Str
 sg:List Str
 b:Str
deriving DecidableEq
def SignAt(H:Hp)(s:Addr)(sg:Zb):Prop:=H s=some (.tup (sg.map V.str))
def ij(H:Hp)(t:Addr)(d:ao):Prop:=∃s,H t=some (.tup [.str d.a,.ref s,.str d.b])/\SignAt H s d.sg
def gF(H H':Hp):Prop:=∀b xs,H b=some (.tup xs)->H' b=some (.tup xs)
theorem ij.kt(k:gF H a)(h:ij H t d):ij a t d:=by
 obtain⟨s,e,f⟩:=h;exact⟨s,k _ _ e,k _ _ f⟩
theorem bA.kt{a:List V}(e:bA p H f)(g:H p=some (.lst a)):gF H f:=fun b i h=>e b _ h (fun z=>by rw[z,g]at h;cases h)
theorem ab.kt(e:ab H a):gF H a:=fun b f h=>e b _ h
theorem gF.trans(a:gF H f)(b:gF f g):gF H g:=fun x e h=>b x e (a x e h)
theorem fg{H:Hp}{l:Addr}{a:List V}{o:HO}(h:H l=some (.lst a)):gF H (upd H l o):=fun b f e=>by
 rw[ai (fun z=>by rw[z,h]at e;cases e)];exact e
abbrev c6(H:Hp)(ts:Ze)(ds:List ao):Prop:=Paired (ij H) ts ds
theorem Paired.get{α β:Type}{R:α->β->Prop}:∀{a:List α}{e:List β}{i:Nat}{y:β},Paired R a e->e[i]?=some y->∃x,a[i]?=some x/\R x y
 |_,_,i,y,.nil,h=>by simp at h
 |_,_,0,y,.cons r t,h=>by simp at h;subst h;exact⟨_,rfl,r⟩
 |_,_,i+1,y,.cons r t,h=>by
  simp at h;obtain⟨x,f,g⟩:=Paired.get t h;exact⟨x,by simpa using f,g⟩
theorem Paired.getL{α β:Type}{R:α->β->Prop}:∀{a:List α}{e:List β}{i:Nat}{x:α},Paired R a e->a[i]?=some x->∃y,e[i]?=some y/\R x y
 |_,_,i,y,.nil,h=>by simp at h
 |_,_,0,y,.cons r t,h=>by simp at h;subst h;exact⟨_,rfl,r⟩
 |_,_,i+1,y,.cons r t,h=>by
  simp at h;obtain⟨x,f,g⟩:=Paired.getL t h;exact⟨x,by simpa using f,g⟩
theorem c6.kt(k:gF H a)(h:c6 H e f):c6 a e f:=Paired.mapP h fun _ _ r=>r.kt k
theorem KR{H:Hp}{a:Addr}{o:HO}(h:H a=some o):upd H a o=H:=by
 funext b;by_cases e:b=a
 ·subst e;rw[aa,h]
 ·rw[ai e]
def gE(x:Str):DT:=.k (.inr x)
def Ag(d:ao):DT:=.t [gE d.a,.t (d.sg.map gE),gE d.b]
theorem p8(h:gE x=gE y):x=y:=by
 unfold gE at h;injection h with h;injection h
theorem iK:∀{x y:Zb},x.map gE=y.map gE->x=y
 |[],[],_=>rfl
 |[],_::_,h=>by cases h
 |_::_,[],h=>by cases h
 |a::x,b::y,h=>by
  rw[bG,bG]at h;injection h with e f;rw[p8 e,iK f]
theorem Kb(h:Ag x=Ag y):x=y:=by
 unfold Ag at h;injection h with h;injection h with e h;injection h with a h;injection h with f h;injection a with a;cases x;cases y;simp only at *;rw[p8 e,iK a,p8 f]
theorem fh(a:Zb):DT.depths (a.map gE)=0:=by
 induction a with
 |nil=>rfl
 |cons x a e=>rw[bG];show max (DT.depth (gE x)) (DT.depths _)=0;rw[e];rfl
theorem Af(d:ao):(Ag d).depth=2:=by
 show DT.depths [gE d.a,.t (d.sg.map gE),gE d.b]+1=2;show max (DT.depth (gE d.a)) (max (DT.depths (d.sg.map gE)+1) (max (DT.depth (gE d.b)) 0))+1=2;rw[fh]
 rfl
theorem Gq(a:List ao):DT.depths (a.map Ag)<=8:=by
 induction a with
 |nil=>exact dL _
 |cons x e f=>rw[bG];show max (DT.depth (Ag x)) (DT.depths _)<=8;rw[Af];omega
theorem lR{K:Za}:∀a:List Str,DIns K H (a.map gE) (a.map V.str)
 |[]=>by show DIns K H [] [];unfold DIns;rfl
 |x::a=>by
  rw[bG,bG];unfold DIns;refine⟨_,_,rfl,?_,lR a⟩;unfold gE vY
  rfl
theorem ox{K:Za}(x:Str):vY K H (gE x) (.str x):=by unfold gE vY;rfl
theorem aZ{K:Za}{a:Zb}(h:bP K H s (a.map V.str)):vY K H (.t (a.map gE)) (.ref s):=by
 unfold vY;exact⟨s,_,rfl,h,lR _⟩
theorem ij.dIn{K:Za}(h:ij H t d):vY K H (Ag d) (.ref t):=by
 obtain⟨s,a,e⟩:=h;unfold Ag;unfold vY;refine⟨t,_,rfl,bP.of a,?_⟩;unfold DIns;refine⟨_,_,rfl,ox _,?_⟩;unfold DIns;refine⟨_,_,rfl,aZ (bP.of e),?_⟩;unfold DIns;refine⟨_,_,rfl,ox _,?_⟩;unfold DIns
 rfl
theorem c6.dIns{K:Za}:∀{a:Ze}{e:List ao},c6 H a e->DIns K H (e.map Ag) (a.map V.ref)
 |_,_,.nil=>by show DIns K H [] [];unfold DIns;rfl
 |_,_,.cons r t=>by
  rw[bG,bG];unfold DIns;exact⟨_,_,rfl,r.dIn,c6.dIns t⟩
theorem EU{a:List ao}:Ag d∈a.map Ag↔d∈a:=by
 constructor
 ·intro h;obtain⟨x,f,e⟩:=aS.mp h;rw[<-Kb e];exact f
 ·exact oC
def mV(ds:List ao)(d:ao):List ao:=if d∈ds then ds else ds++[d]
inductive lC (vs:List V)(H:Hp)(Q:VK)(E:XK):Prop
 |mk (l t:Addr) (ts:Ze) (ds:List ao) (d:ao):(vs=[.ref l,.ref t])->(H l=some (.lst (ts.map V.ref)))->(c6 H ts ds)->(ij H t d)->(ds.length<=1000)->(∀ts':List Addr,c6 H ts' (mV ds d)->Q .non (upd H l (.lst (ts'.map V.ref))))->lC  vs H Q E
theorem KZ{K:Za}(h:lC m H Q E):Fy K (bo Q) (start GN m) H:=by
 obtain⟨l,t,i,g,d,rfl,a,e,j,n,k⟩:=h;refine⟨_,rfl,_,rfl,Ag d,g.map Ag,l,_,j.dIn,rfl,.inl (aw.of a),e.dIns,by rw[Af];decide,Gq g,_,rfl,?_⟩;by_cases f:d∈g
 ·rw[if_pos rfl,zzr1 (EU.mpr f)];refine bD ?_;have:=k i (by unfold mV;rw[if_pos f];exact e);rw[KR a]at this;exact this
 ·rw[if_pos rfl,zzr0 (fun z=>f (EU.mp z))];refine bT ?_;refine⟨_,rfl,.inl ⟨rfl,_,aw.of a⟩,_,rfl,l,_,_,rfl,rfl,a,?_,?_⟩
  ·rw[ah,Paired.length e];exact aq n
  ·have:=k (i++[t]) (by unfold mV;rw[if_neg f];exact gl e j);rw[av]at this;exact this
structure DI(R:ao->Prop)(H0:Hp)(p c l:Addr)(m:Nat)(H:Hp):Prop where
 pen:hW H p c
 ds:∃ts ds,H l=some (.lst (ts.map V.ref))/\c6 H ts ds/\ds.Nodup/\(∀d∈ds,R d)/\ds.length<=m
 ex:bA p H0 H
 fr:H0 l=none
 pl:p≠l
 cl:c≠l
section
variable{R:ao->Prop}{H0 H H':Hp}{p c l:Addr}{m:Nat}
theorem hW.lst(h:hW H p c):∃e,H p=some (.lst e):=by
 obtain⟨a,r,g,f,_⟩:=h;exact⟨_,f⟩
theorem DI.took(h:DI R H0 p c l m H)(a:hW H' p c)(e:bA p H H'):DI R H0 p c l m H':=by
 obtain⟨f,g,i,j,k⟩:=h.ds;obtain⟨o,n⟩:=h.pen.lst;exact⟨a,⟨f,g,e _ _ i h.pl.symm,j.kt (e.kt n),k⟩,h.ex.trans e,h.fr,h.pl,h.cl⟩
theorem DI.new(h:DI R H0 p c l m H){o:HO}(a:H q=none):DI R H0 p c l m (upd H q o) :=
 h.took (h.pen.ex (ab.new a)) (bA.new a)
theorem DI.up(h:DI R H0 p c l m H){n:Nat}(a:m<=n):DI R H0 p c l n H:=by
 obtain⟨e,f,g,i,j,k,o⟩:=h.ds;exact⟨h.pen,⟨e,f,g,i,j,k,aB o a⟩,h.ex,h.fr,h.pl,h.cl⟩
theorem DI.put(h:DI R H0 p c l m H){Q:VK}(r:ij H t d)(s:R d)(u:m<=1000)(k:∀H',DI R H0 p c l (m+1) H'->Q .non H'):lC [.ref l,.ref t] H Q E:=by
 obtain⟨v,f,i,w,j,q,y⟩:=h.ds;refine⟨l,t,v,f,d,rfl,i,w,r,aB y u,fun g z=>k _ ⟨h.pen.upd h.pl h.cl,⟨g,mV f d,aa,z.kt (fg i),?_,?_,?_⟩,?_,h.fr,h.pl,h.cl⟩⟩
 ·unfold mV;split
  ·exact j
  ·next A =>
   rw[dw];refine⟨j,by simp,?_⟩;intro a B b C e;have:b=d:=by simpa using C
   subst this;exact A (e▸B)
 ·intro x hx;unfold mV at hx;split at hx
  ·exact q x hx
  ·rcases bM.mp hx with hx|hx
   ·exact q x hx
   ·have:x=d:=by simpa using hx
    rw[this];exact s
 ·unfold mV;split
  ·omega
  ·rw[ba];show f.length+1<=m+1;omega
 ·intro b o e n;rw[ai (ae e h.fr)];exact h.ex b o e n
end
theorem hW.ne_strs{a:Addr}{g:Zb}(h:hW H p c)(f:H a=some (.lst (g.map V.str))):a≠p:=by
 intro e;obtain⟨x,y,j,i,_⟩:=h;rw[e,i]at f;injection f with f;injection f with f;cases g with
 |nil=>cases f
 |cons w g=>injection f with f;cases f
theorem jR{K:Za}{r:R2}(B:∀x y H Q,dY K x y H Q->r x y H Q){σ:L2.St}{Q:VK}{p a:Addr}{j:Nat}{e:Zb}(C:σ[0]?=some (some (.ref p)))(o:σ[j]?=some (some (.ref a)))(q:hW H p c)
  (g:H a=some (.lst (e.map V.str))) (h:e≠[]) (s:e.length<=1000) (k:∀w∈e,∀H',hW H' p c->bA p H H'->Q (.str w) H') :
  ∃v,σ[j]?=some (some v)/\∃t,σ[0]?=some (some t)/\∃u,σ[j]?=some (some u)/\iH K [u] H fun y D=>fD [t,y] D (fun y E=>r v y E Q) E0:=by
 have I:0<e.length:=by cases e with|nil=>exact absurd rfl h|cons _ _=>simp
 have G:(V.int ((e.map V.str).length:Nat))=V.int (e.length:Nat):=by rw[ah]
 have i:=q.ne_strs g;have l:∀(x:Int) (H':Hp),0<=x->x<(e.length:Int)->hW H' p c->bA p H H'->dY K (.ref a) (.int x) H' Q:=by
  intro x H' m z f ex;obtain⟨n,rfl⟩:=j9 m;have A:n<e.length:=by omega
  exact⟨a,_,(n:Int),.str e[n],rfl,rfl,aw.of (ex _ _ g i),ca (by simp[A]),k _ (List.getElem_mem A) H' f ex⟩
 exact⟨_,o,_,C,_,o,.inl ⟨a,_,rfl,.inl (aw.of g),by rw[G];exact dU q (by omega) (by omega) fun x H' m z f ex=>B _ _ _ _ (l x H' m z f ex)⟩⟩
def Up(up:Bool)(J2:Zb)(a b:Str):Prop:=∃i j:Nat,J2[i]?=some a/\J2[j]?=some b/\(if up=true then i<j else j<i)
structure nr(J0 J1 J2:Zb)(up:Bool)(d:ao):Prop where
 a:d.a∈J2
 b:d.b∈J2
 sg:(∃w∈J0,d.sg=[("ask":Str),w])∨(∃w∈J1,d.sg=[("say":Str),w])∨(d.sg=[("still":Str)]/\Up up J2 d.a d.b)
def aF:List Str:=[("still":Str)]
structure Cp(J0 J1 J2:Zb)(d:ao):Prop where
 a:d.a∈J2
 b:d.b∈J2
 sg:(∃w∈J0,d.sg=[("ask":Str),w])∨(∃w∈J1,d.sg=[("say":Str),w])∨d.sg=aF
theorem nr.d{J0 e f:Zb}{up:Bool}{d:ao}(h:nr J0 e f up d):Cp J0 e f d:=⟨h.a,h.b,h.sg.imp id (Or.imp id And.left)⟩
inductive Reach(ds:List ao)(a:Str):Str->Prop
 |one {b:Str}(h:(⟨a,aF,b⟩:ao)∈ds):Reach ds a b
 |step {b c:Str}(r:Reach ds a b) (h:(⟨b,aF,c⟩:ao)∈ds):Reach ds a c
theorem t5{e:Zb}(n:e.Nodup){i j:Nat}{a:Str}(o:e[i]?=some a)(p:e[j]?=some a):i=j:=by
 obtain⟨f,g⟩:=bN.mp o;obtain⟨k,l⟩:=bN.mp p;have m:=List.pairwise_iff_getElem.mp n;rcases Nat.lt_trichotomy i j with h|h|h
 ·exact absurd (g.trans l.symm) (m i j f k h)
 ·exact h
 ·exact absurd (l.trans g.symm) (m j i k f h)
theorem Up.trans{e:Zb}(g:e.Nodup)(l:Up up e a b)(m:Up up e b c):Up up e a c:=by
 obtain⟨i,j,n,o,h⟩:=l;obtain⟨r,k,p,q,f⟩:=m;have:=t5 g o p;subst this;refine⟨i,k,n,q,?_⟩;cases up
 ·simp at h f ⊢;omega
 ·simp at h f ⊢;omega
theorem Up.irr{e:Zb}(f:e.Nodup)(h:Up up e a a):False:=by
 obtain⟨i,j,g,k,h⟩:=h;have:=t5 f g k;subst this;cases up
 ·simp at h
 ·simp at h
theorem G0{g:Zb}{i:List ao}(j:g.Nodup)(m:∀d∈i,nr l n g up d)(h:Reach i a b):Up up g a b:=by
 have f:∀{a b:Str},(⟨a,aF,b⟩:ao)∈i->Up up g a b:=by
  intro a b h;rcases(m _ h).sg with⟨w,_,e⟩|⟨w,_,e⟩|⟨_,e⟩
  ·cases e
  ·cases e
  ·exact e
 induction h with
 |one h=>exact f h
 |step r h k=>exact k.trans j (f h)
inductive iu (vs:List V)(H:Hp)(Q:VK)(E:XK):Prop
 |mk (p c l1 l2 l3:Addr) (J0 J1 J2:Zb) (full:Int):(vs=[.ref p,.ref l1,.ref l2,.ref l3,.int full])->(hW H p c)->(H l1=some (.lst (J0.map V.str)))->(H l2=some (.lst (J1.map V.str)))->(H l3=some (.lst (J2.map V.str)))->(J0.length<=4)->(J1≠[])->(J1.length<=4)->(J2≠[])->(J2.length<=26)->(0<=full)->(full<=2)->(∀(l:Addr) (ts:Ze) (ds:List ao) (up:Bool) (H':Hp),H l=none->H' l=some (.lst (ts.map V.ref))->c6 H' ts ds->ds.Nodup->(∀d∈ds,nr J0 J1 J2 up d)->ds.length<=600->hW H' p c->bA p H H'->Q (.ref l) H')->iu  vs H Q E
theorem at4{x r:Int}(a:0<=x)(e:x<=2)(f:0<=r)(g:r<4):∃j:Int,xU [V.int x,.int 1,.int 1,.int 2] r=some (.int j)/\0<=j/\j<=2:=by
 have:r=0∨r=1∨r=2∨r=3:=by omega
 rcases this with rfl|rfl|rfl|rfl
 ·exact⟨x,rfl,a,e⟩
 ·exact⟨1,rfl,by decide,by decide⟩
 ·exact⟨1,rfl,by decide,by decide⟩
 ·exact⟨2,rfl,by decide,by decide⟩
theorem xM(a:Zb)(k:Nat):fX (a.map V.str) (some (k:Int)) none=(a.drop k).map V.str:=by
 unfold fX;rw[HT.sIx_none,HT.sIx_nat,ah,um (by rw[dS,ah];omega),yg];by_cases h:k<=a.length
 ·rw[qQ h]
 ·rw[Nat.min_eq_right (by omega),qX (by simp),qX (by rw[ah];omega)]
theorem t_(a:Zb)(k:Nat):fX (a.map V.str) none (some (k:Int))=(a.take k).map V.str:=by
 unfold fX;rw[HT.sIx_none,HT.sIx_nat,ah,ur,Nat.sub_zero,ul,List.take_eq_take_iff,ah];omega
theorem vH{K:Za}{e:Zb}(h:aw K H a (e.map V.str)):vY K H (.s (e.map gE)) (.ref a):=by
 unfold vY;exact⟨a,_,rfl,h,lR _⟩
theorem Ka{K:Za}(h:aw K H a []):vY K H (.s []) (.ref a):=by
 unfold vY;refine⟨a,_,rfl,h,?_⟩;unfold DIns
 rfl
inductive DdI(G:ao->Prop)(H:Hp)(p c l l1 l2 l3:Addr)(full dn:Int)(i:Nat)(σ:L2.St)(H':Hp):Prop
 |mk (a7 a8 a9 a10 a11 a12:Option V):σ=[some (.ref p),some (.ref l1),some (.ref l2),some (.ref l3),some (.int full),some (.ref l),some (.int dn),a7,a8,a9,a10,a11,a12]->DI G H p c l (11 * i) H'->DdI G H p c l l1 l2 l3 full dn i σ H'
theorem wI{K:Za}(h:iu vs H Q E):rp K fD lC (bo Q) (start r9 vs) H:=by
 obtain⟨p,c,l1,l2,l3,J0,J1,J2,a,rfl,hp,h1,h2,h3,ha,b3,hs,a4,hr,f0,f2,k⟩:=h;have n1:=hp.ne_strs h1;have n2:=hp.ne_strs h2;have n3:=hp.ne_strs h3;refine⟨(by show 0<=aj;decide),fun l hl=>?_⟩;have a5:=hp.nep hl;have b4:=hp.nec hl;refine⟨_,rfl,dU (hp.ex (ab.new hl)) (by decide) (by decide) fun M H1 d0 d1 b5 a6=>?_⟩;generalize hG:nr J0 J1 J2 (decide (M=0))=G;have base:DI G H p c l 0 H1:=⟨b5,⟨[],[],a6 _ _ aa a5.symm,.nil,uC,by simp,dL _⟩,(bA.new hl).trans a6,hl,a5,b4⟩;refine⟨_,rfl,l3,rfl,⟨_,aw.of (base.ex _ _ h3 n3)⟩,?_⟩;refine m_ (xs:=J2.map V.str) (DdI G H p c l l1 l2 l3 a M)
  ⟨_,_,_,_,_,_,rfl,base⟩ (fun i σ H' _ ⟨_,_,_,_,_,_,_,D⟩=>aw.of (D.ex _ _ h3 n3)) ?_ ?_
 ·rintro i x σ H' t hi ⟨a7,a8,C,m,v,A,rfl,D⟩ ht;obtain⟨room,f,rfl⟩:∃room,J2[i]?=some room/\x=V.str room:=by
   rw[cH]at hi;cases q:J2[i]? with
   |none=>rw[q]at hi;cases hi
   |some r=>rw[q]at hi;exact⟨r,rfl,(fM hi).symm⟩
  have cv:i<J2.length:=(bN.mp f).1;have N:room∈J2:=bU f;refine⟨t,_,rfl,bP.of aa,rfl,_,_,rfl,_,_,rfl,rfl,?_⟩;have D1:=D.new ht (o:=.tup [.int i,.str room]);refine⟨(by show 4<=aj;decide),fun q hq=>⟨_,rfl,dU (D1.new hq).pen (by decide) (by decide) fun r H2 r0 r1 b6 bc=>?_⟩⟩;obtain⟨j,hj,j0,j2⟩:=at4 (x:=0) (by decide) (by decide) r0 r1;have D2:=(D1.new hq).took b6 bc;refine⟨q,_,_,_,rfl,rfl,aw.of (bc q _ aa (D1.pen.nep hq).symm),hj,j,rfl,by omega,by omega,?_⟩;refine kQ (lo:=0) (n:=j.toNat) (fun i' σ O=>∃C m:Option V,σ=[some (.ref p),some (.ref l1),some (.ref l2),some (.ref l3),some (.int a),some (.ref l),some (.int M),some (.int i),some (.str room),C,m,v,A]/\DI G H p c l (11 * i+i') O)
   ⟨_,_,rfl,D2⟩ ?_ ?_
  ·rintro i' σ H3 I ⟨C,m,rfl,D3⟩;refine jR (fun _ _ _ _ h=>h) rfl rfl D3.pen (D3.ex _ _ h2 n2) b3 (by omega) fun w hw H4 b7 b8=>?_;have D4:=D3.took b7 b8;refine⟨(by show 2<=aj;decide),fun L g=>?_⟩;have D5:=D4.new g (o:=.tup [.str "say",.str w]);refine⟨_,rfl,_,rfl,_,rfl,jR (fun _ _ _ _ h=>h) rfl rfl D5.pen (D5.ex _ _ h3 n3) a4 (by omega) fun U J H6 cc bd=>?_⟩;have D6:=D5.took cc bd;refine⟨(by show 3<=aj;decide),fun dr u=>?_⟩;have D7:=D6.new u (o:=.tup [.str room,.ref L,.str U]);have bi:H6 L=some (.tup [.str "say",.str w]):=bd _ _ aa (D4.pen.nep g).symm;refine D7.put (d:=⟨room,["say",w],U⟩) ⟨L,aa,kp bi u⟩ ?_ (by omega) fun H8 Y=>⟨_,_,rfl,Y⟩;rw[<-hG];exact⟨N,J,.inr (.inl ⟨w,hw,rfl⟩)⟩
  rintro σ H3 ⟨C,m,rfl,bl⟩;have D3:DI G H p c l (11 * i+2) H3:=bl.up (by omega);clear bl;refine⟨_,rfl,l1,rfl,⟨_,aw.of (D3.ex _ _ h1 n1)⟩,?_⟩;refine bR (xs:=J0.map V.str) (fun i' σ O=>∃C v:Option V,σ=[some (.ref p),some (.ref l1),some (.ref l2),some (.ref l3),some (.int a),some (.ref l),some (.int M),some (.int i),some (.str room),C,m,v,A]/\DI G H p c l (11 * i+2+2 * i') O)
   ⟨_,_,rfl,D3⟩ (fun i σ H' _ ⟨_,_,_,D⟩=>aw.of (D.ex _ _ h1 n1)) ?_ ?_
  ·rintro i' x σ H4 I ⟨C,v,rfl,D4⟩;obtain⟨ask,an,rfl⟩:∃ask,J0[i']?=some ask/\x=V.str ask:=by
    rw[cH]at I;cases q:J0[i']? with
    |none=>rw[q]at I;cases I
    |some r=>rw[q]at I;exact⟨r,rfl,(fM I).symm⟩
   have c0:i'<J0.length:=(bN.mp an).1;have cd:ask∈J0:=bU an;refine⟨_,rfl,(by show 4<=aj;decide),fun q hq=>⟨_,rfl,dU (D4.new hq).pen (by decide) (by decide) fun r H5 r0 r1 ce bm=>?_⟩⟩;obtain⟨j,hj,j0,j2⟩:=at4 f0 f2 r0 r1;have D5:=(D4.new hq).took ce bm;refine⟨q,_,_,_,rfl,rfl,aw.of (bm q _ aa (D4.pen.nep hq).symm),hj,j,rfl,by omega,by omega,?_⟩;refine kQ (lo:=0) (n:=j.toNat) (fun bn σ O=>∃C:Option V,σ=[some (.ref p),some (.ref l1),some (.ref l2),some (.ref l3),some (.int a),some (.ref l),some (.int M),some (.int i),some (.str room),C,m,some (.str ask),A]/\DI G H p c l (11 * i+2+2 * i'+bn) O)
    ⟨_,rfl,D5⟩ ?_ ?_
   ·rintro bn σ H6 ct ⟨C,rfl,D6⟩;refine⟨_,rfl,_,rfl,_,rfl,(by show 2<=aj;decide),fun L g=>?_⟩;have D7:=D6.new g (o:=.tup [.str "ask",.str ask]);refine jR (fun _ _ _ _ h=>h) rfl rfl D7.pen (D7.ex _ _ h3 n3) a4 (by omega) fun U J H8 cf bu=>?_;have Y:=D7.took cf bu;refine⟨(by show 3<=aj;decide),fun dr u=>?_⟩;have D9:=Y.new u (o:=.tup [.str room,.ref L,.str U]);have bw:H8 L=some (.tup [.str "ask",.str ask]):=bu _ _ aa (D6.pen.nep g).symm;refine D9.put (d:=⟨room,["ask",ask],U⟩) ⟨L,aa,kp bw u⟩ ?_ (by omega) fun H8 Y=>⟨_,rfl,Y⟩;rw[<-hG];exact⟨N,J,.inl ⟨ask,cd,rfl⟩⟩
   ·rintro σ H6 ⟨C,rfl,D6⟩;exact⟨_,_,rfl,D6.up (by omega)⟩
  rintro σ H4 ⟨C,v,rfl,bz⟩;have D4:DI G H p c l (11 * i+10) H4:=bz.up (by rw[ah];omega);clear bz;have B:∀(H9:Hp) (A:Option V),DI G H p c l (11 * i+11) H9->DdI G H p c l l1 l2 l3 a M (i+1) [some (.ref p),some (.ref l1),some (.ref l2),some (.ref l3),some (.int a),some (.ref l),some (.int M),some (.int i),some (.str room),C,m,v,A] H9:=fun H9 A D9=>⟨_,_,_,_,_,_,rfl,D9.up (by omega)⟩;refine⟨_,rfl,_,rfl,_,_,rfl,rfl,_,rfl,l3,_,rfl,aw.of (D4.ex _ _ h3 n3),fun q1 ch=>?_⟩;have D5:=D4.new ch (o:=.lst (fX (J2.map V.str) (some ((i:Int)+1)) none));refine⟨_,rfl,_,rfl,_,rfl,l3,_,rfl,aw.of (D5.ex _ _ h3 n3),fun q2 bI=>?_⟩;have e1:fX (J2.map V.str) (some ((i:Int)+1)) none=(J2.drop (i+1)).map V.str:=xM J2 (i+1);rw[t_];have D6:=D5.new bI (o:=.lst ((J2.take i).map V.str));refine⟨(by show 2<=aj;decide),fun q3 as=>?_⟩;have D7:=D6.new as (o:=.lst [.ref q1,.ref q2]);obtain⟨lt,q,hq,al,T⟩:∃(lt:Zb) (q:Addr),xU [V.ref q1,.ref q2] M=some (.ref q) /\
    upd (upd (upd H4 q1 (.lst (fX (J2.map V.str) (some ((i:Int)+1)) none))) q2 (.lst ((J2.take i).map V.str))) q3 (.lst [.ref q1,.ref q2]) q=some (.lst (lt.map V.str))/\lt.length<=26 /\
    ∀w∈lt,w∈J2/\Up (decide (M=0)) J2 room w:=by
   have:M=0∨M=1:=by omega
   rcases this with rfl|rfl
   ·refine⟨J2.drop (i+1),q1,rfl,?_,by rw[dS];omega,fun w hw=>⟨List.mem_of_mem_drop hw,?_⟩⟩
    ·refine(kp (kp aa bI) as).trans ?_;rw[e1]
    ·obtain⟨n,hn⟩:=gK hw;rw[List.getElem?_drop]at hn;exact⟨i,i+1+n,f,hn,by rw[if_pos (by decide)];omega⟩
   ·refine⟨J2.take i,q2,rfl,?_,by rw[aJ];omega,fun w hw=>⟨hZ hw,?_⟩⟩
    ·exact kp aa as
    ·obtain⟨n,hn⟩:=gK hw;have ci:n<i:=by
      have:=(bN.mp hn).1;rw[aJ]at this;omega
     rw[List.getElem?_take_of_lt ci]at hn;exact⟨i,n,f,hn,by rw[if_neg (by decide)];omega⟩
  refine⟨_,rfl,q3,_,_,_,rfl,rfl,aw.of aa,hq,?_⟩;generalize upd (upd (upd H4 q1 (.lst (fX (J2.map V.str) (some ((i:Int)+1)) none))) q2 (.lst ((J2.take i).map V.str))) q3 (.lst [.ref q1,.ref q2])=H7 at D7 al ⊢;refine⟨_,rfl,(by show 0<=aj;decide),fun e he=>⟨.s (lt.map gE),.s [],vH (aw.of (kp al he)),Ka (aw.of aa),?_,by decide,_,rfl,?_⟩⟩
  ·show DT.depths (lt.map gE)+1<=8;rw[fh];decide
  have Y:=D7.new he (o:=.lst []);by_cases hz:lt=[]
  ·have ez:(!decide (DT.s (lt.map gE)=DT.s []))=false:=by rw[hz,zzr1 (by rfl)];rfl
   rw[ez];exact bD (bD (B _ _ (Y.up (by omega))))
  ·have ez:(!decide (DT.s (lt.map gE)=DT.s []))=true:=by
    rw[zzr0 (fun z=>hz (iK (y:=[]) (by injection z)))];rfl
   rw[ez];refine bT ?_;refine⟨_,rfl,dU Y.pen (by decide) (by decide) fun r H9 r0 r1 cl bS=>⟨rfl,_,rfl,?_⟩⟩;have D9:=Y.took cl bS;refine i7 (fun _=>?_) (fun _=>B _ _ (D9.up (by omega)));refine⟨_,rfl,_,rfl,(by show 1<=aj;decide),fun L g=>?_⟩;have b1:=D9.new g (o:=.tup [.str "still"]);have aC:upd H9 L (.tup [.str "still"]) q=some (.lst (lt.map V.str)):=kp (bS _ _ (kp al he) (Y.pen.ne_strs (kp al he))) g;refine jR (fun _ _ _ _ h=>.inl h) rfl rfl b1.pen aC hz (by omega) fun U J cm b2 ap=>?_;have co:=b1.took b2 ap;refine⟨(by show 3<=aj;decide),fun dr u=>?_⟩;have cp:=co.new u (o:=.tup [.str room,.ref L,.str U]);have a0:cm L=some (.tup [.str "still"]):=ap _ _ aa (D9.pen.nep g).symm;refine cp.put (d:=⟨room,[("still":Str)],U⟩) ⟨L,aa,kp a0 u⟩ ?_ (by omega) fun c1 cs=>B _ _ cs;rw[<-hG];exact⟨N,(T.2 U J).1,.inr (.inr ⟨rfl,(T.2 U J).2⟩)⟩
 ·rintro σ H' ⟨a7,a8,C,m,v,A,rfl,D⟩;obtain⟨ts,ds,g1,g2,g3,g4,g5⟩:=D.ds;rw[ah]at g5;rw[<-hG]at g4;exact⟨_,rfl,k l ts ds _ H' hl g1 g2 g3 g4 (by omega) D.pen D.ex⟩
structure aQ(J0 J1 J2:Zb)(ds:List ao):Prop where
 okA:lT J0
 okS:lT J1
 apart:∀w∈J1,w∉J0
 okR:lT J2
 asks0:J0≠[]
 says0:J1≠[]
 rooms0:J2≠[]
 asks4:J0.length<=4
 says4:J1.length<=4
 rooms26:J2.length<=150
 nodup:ds.Nodup
 good:∀d∈ds,Cp J0 J1 J2 d
 few:ds.length<=1000
 noround:∀r,¬Reach ds r r
structure hC(H:Hp)(t l1 l2 l3 l4:Addr)(ts:Ze)(J0 J1 J2:Zb)(ds:List ao):Prop where
 t:H t=some (.tup [.ref l1,.ref l2,.ref l3,.ref l4])
 a1:H l1=some (.lst (J0.map V.str))
 a2:H l2=some (.lst (J1.map V.str))
 a3:H l3=some (.lst (J2.map V.str))
 a4:H l4=some (.lst (ts.map V.ref))
 ds:c6 H ts ds
theorem hW.ne_refs{a:Addr}{g:Ze}(i:hW H p c)(f:H a=some (.lst (g.map V.ref))):a≠p:=by
 intro e;obtain⟨x,y,k,j,_⟩:=i;rw[e,j]at f;injection f with f;injection f with f;cases g with
 |nil=>cases f
 |cons w h =>
  injection f with _ f;cases h with
  |nil=>cases f
  |cons w h=>injection f with f;cases f
theorem hC.ex{H f:Hp}{p c t g i l3 j:Addr}{k:Ze}{l m n:Zb}{o:List ao}(h:hC H t g i l3 j k l m n o)(a:hW H p c)(e:bA p H f):hC f t g i l3 j k l m n o:=by
 obtain⟨r,q⟩:=a.lst;exact⟨e.kt q _ _ h.t,e _ _ h.a1 (a.ne_strs h.a1),e _ _ h.a2 (a.ne_strs h.a2),e _ _ h.a3 (a.ne_strs h.a3),e _ _ h.a4 (a.ne_refs h.a4),h.ds.kt (e.kt q)⟩
theorem hC.same{H a:Hp}{t f g l3 i:Addr}{j:Ze}{k l m:Zb}{n:List ao}(h:hC H t f g l3 i j k l m n)(e:ab H a):hC a t f g l3 i j k l m n :=
 ⟨e _ _ h.t,e _ _ h.a1,e _ _ h.a2,e _ _ h.a3,e _ _ h.a4,h.ds.kt (ab.kt e)⟩
inductive pV (vs:List V)(H:Hp)(Q:VK)(E:XK):Prop
 |mk (p c:Addr) (most full:Int):(vs=[.ref p,.int most,.int full])->(hW H p c)->(0<most)->(most<=25)->(0<=full)->(full<=2)->(∀(t l1 l2 l3 l4:Addr) (ts:Ze) (J0 J1 J2:Zb) (ds:List ao) (H':Hp),hC H' t l1 l2 l3 l4 ts J0 J1 J2 ds->aQ J0 J1 J2 ds->J2.length<=most.toNat->ds.length<=600->hW H' p c->bA p H H'->Q (.ref t) H')->pV  vs H Q E
theorem at6{r:Int}(a:0<=r)(e:r<6):∃n:Nat,xU [V.int 0,.int 1,.int 1,.int 2,.int 2,.int 3] r=some (.int n)/\n<=3:=by
 have:r=0∨r=1∨r=2∨r=3∨r=4∨r=5:=by omega
 rcases this with rfl|rfl|rfl|rfl|rfl|rfl
 ·exact⟨0,rfl,by decide⟩
 ·exact⟨1,rfl,by decide⟩
 ·exact⟨1,rfl,by decide⟩
 ·exact⟨2,rfl,by decide⟩
 ·exact⟨2,rfl,by decide⟩
 ·exact⟨3,rfl,by decide⟩
theorem IH{a:Zb}(e:a.length=8){n:Nat}(j:n<=3):fX (a.map V.str) (some 4) (some (5+(n:Int)))=((a.drop 4).take (1+n)).map V.str:=by
 unfold fX;have f:HT.sIx (a.map V.str).length 0 (some 4)=min 4 (a.map V.str).length:=HT.sIx_nat _ _ 4;have g:HT.sIx (a.map V.str).length (a.map V.str).length (some (5+(n:Int)))=min (5+n) (a.map V.str).length:=HT.sIx_nat _ _ (5+n);rw[f,g,ah,e,ul,yg];have h:min 4 8=4:=by decide
 have i:min (5+n) 8-4=1+n:=by omega
 rw[h,i]
theorem Hq{K:Za}(h:pV vs H Q E):AV K iu mP fD tX (bo Q) (start Ch vs) H:=by
 obtain⟨p,c,b2,an,rfl,hp,m0,m1,f0,f2,k⟩:=h;refine⟨_,rfl,p,c,rfl,hp,fun H1 a7 a8=>?_⟩;refine⟨_,rfl,p,c,8,rfl,a7,by decide,fun lw a H2 ok A fr hl B a9=>?_⟩;have e2:=a8.trans a9;have nw:=B.ne_strs hl;refine⟨_,rfl,(by show 6<=aj;decide),fun q f=>⟨_,rfl,dU (B.ex (ab.new f)) (by decide) (by decide) fun r C r0 r1 bc D=>?_⟩⟩;obtain⟨n,hn,n3⟩:=at6 r0 r1;have ap:C lw=some (.lst (a.map V.str)):=D _ _ (kp hl f) nw;refine⟨q,_,_,_,rfl,rfl,aw.of (D _ _ aa (B.nep f).symm),hn,_,_,rfl,rfl,_,rfl,lw,_,rfl,aw.of ap,fun g G=>?_⟩;have ea:fX (a.map V.str) none (some (1+(n:Int)))=(a.take (1+n)).map V.str:=t_ a (1+n);rw[ea];have e3:bA p H C:=e2.trans ((bA.new f).trans D);have i:hW (upd C g (.lst ((a.take (1+n)).map V.str))) p c:=bc.ex (ab.new G);have e4:bA p H (upd C g (.lst ((a.take (1+n)).map V.str))):=e3.trans (bA.new G);have as:upd C g (.lst ((a.take (1+n)).map V.str)) lw=some (.lst (a.map V.str)):=kp ap G;have I:upd C g (.lst ((a.take (1+n)).map V.str)) g=some (.lst ((a.take (1+n)).map V.str)):=aa;generalize upd C g (.lst ((a.take (1+n)).map V.str))=H4 at i e4 as I ⊢;refine⟨_,rfl,_,rfl,(by show 6<=aj;decide),fun q f=>⟨_,rfl,dU (i.ex (ab.new f)) (by decide) (by decide) fun r u r0 r1 bd j=>?_⟩⟩;obtain⟨m,hm,m3⟩:=at6 r0 r1;have bi:u lw=some (.lst (a.map V.str)):=j _ _ (kp as f) nw;have bl:u g=some (.lst ((a.take (1+n)).map V.str)):=j _ _ (kp I f) (i.ne_strs I);refine⟨q,_,_,_,rfl,rfl,aw.of (j _ _ aa (i.nep f).symm),hm,_,_,rfl,rfl,_,rfl,lw,_,rfl,aw.of bi,fun v J=>?_⟩;rw[IH A m3];have e5:bA p H u:=e4.trans ((bA.new f).trans j);have l:hW (upd u v (.lst (((a.drop 4).take (1+m)).map V.str))) p c:=bd.ex (ab.new J);have e6:bA p H (upd u v (.lst (((a.drop 4).take (1+m)).map V.str))):=e5.trans (bA.new J);have L:upd u v (.lst (((a.drop 4).take (1+m)).map V.str)) g=some (.lst ((a.take (1+n)).map V.str)):=kp bl J;have M:upd u v (.lst (((a.drop 4).take (1+m)).map V.str)) v=some (.lst (((a.drop 4).take (1+m)).map V.str)):=aa;generalize upd u v (.lst (((a.drop 4).take (1+m)).map V.str))=H6 at l e6 L M ⊢;refine⟨_,rfl,_,rfl,_,rfl,dU l m0 (by omega) fun r H7 r0 r1 N O=>?_⟩;obtain⟨rn,rfl⟩:=j9 r0;have aC:=O _ _ L (l.ne_strs L);have a0:=O _ _ M (l.ne_strs M);refine⟨_,_,rfl,rfl,p,c,1+rn,rfl,N,by omega,fun l3 J2 H8 T x b3 e o U=>?_⟩;have Y:=U _ _ aC (N.ne_strs aC);have al:=U _ _ a0 (N.ne_strs a0);have a4:(a.drop 4).take (1+m)≠[]:=by
  intro z;have:=congrArg List.length z;rw[aJ,dS,A]at this;simp at this
 have bm:a.take (1+n)≠[]:=by
  intro z;have:=congrArg List.length z;rw[aJ,A]at this;simp at this
 have a5:J2≠[]:=by
  intro z;rw[z]at x;simp at x;omega
 refine⟨_,rfl,_,rfl,_,rfl,_,rfl,_,rfl,p,c,g,v,l3,_,_,J2,an,rfl,o,Y,al,e,by rw[aJ];omega,a4,by rw[aJ];omega,a5,by omega,f0,f2,fun l4 ts ds up H9 b4 a6 bn bu y bw bz s=>?_⟩;have bI:=s _ _ Y (o.ne_strs Y);have bS:=s _ _ al (o.ne_strs al);have b1:=s _ _ e (o.ne_strs e);refine⟨_,rfl,_,rfl,_,rfl,_,rfl,(by show 4<=aj;decide),fun t ht=>k t g v l3 l4 ts _ _ J2 ds _ ⟨aa,kp bI ht,kp bS ht,kp b1 ht,kp a6 ht,bn.kt (ab.kt (ab.new ht))⟩ ?_ ?_ bw (bz.ex (ab.new ht)) ?_⟩
 ·refine⟨⟨?_,fun w h=>ok.2 w (hZ h)⟩,⟨?_,fun w h=>ok.2 w (List.mem_of_mem_drop (hZ h))⟩,?_,T,bm,a4,a5,by rw[aJ];omega,by rw[aJ];omega,by omega,bu,fun d hd=>(y d hd).d,by omega,fun r z=>(G0 T.1 y z).irr T.1⟩
  ·exact ok.1.sublist (List.take_sublist _ _)
  ·exact ok.1.sublist ((List.take_sublist _ _).trans (List.drop_sublist _ _))
  ·intro w h1 h2;have h3:w∈a.drop 4:=hZ h1;have h4:w∈a.take 4:=by
    have:a.take (1+n)=(a.take 4).take (1+n):=by rw[List.take_take];congr 1;omega
    rw[this]at h2;exact hZ h2
   have:=ok.1;rw[<-ye 4 a,dw]at this;exact this.2.2 w h4 w h3 rfl
 ·omega
 ·exact(((e6.trans O).trans U).trans s).trans (bA.new ht)
theorem bJ{a:Zb}{i:Nat}{x:V}(h:(a.map V.str)[i]?=some x):∃w,a[i]?=some w/\x=.str w:=by
 rw[cH]at h;cases q:a[i]? with
 |none=>rw[q]at h;cases h
 |some r=>rw[q]at h;exact⟨r,rfl,(fM h).symm⟩
theorem take_snoc{α:Type}{a:List α}{i:Nat}{w:α}(h:a[i]?=some w):a.take (i+1)=a.take i++[w]:=by
 obtain⟨e,rfl⟩:=bN.mp h;rw[List.take_succ_eq_append_getElem e]
def qi(w:Str):Bool:=!decide (w=("":Str)) && (decide (w.length<=8) && w.cps.toList.all fun c=>decide (c∈("abcdefghijklmnopqrstuvwxyz":Str).cps.toList))
theorem sh.b(h:sh w):qi w=true:=by
 unfold qi;have a:¬(w=("":Str)):=fun e=>by
  have:=h.lo;rw[e]at this;exact absurd this (by decide +kernel)
 rw[zzr0 a,zzr1 h.hi,Bool.not_false,qO,qO,List.all_eq_true];intro c f;obtain⟨g,i⟩:=h.al c f;refine zzr1 ?_;have:=Fi (c-97) (by omega);have e:97+(c-97)=c:=by omega
 rw[e]at this;exact bU this
inductive sp_is_name (vs:List V)(H:Hp)(Q:VK)(E:XK):Prop
 |mk (w:Str):(vs=[.str w])->(w.length<=1000)->(∀H',ab H H'->Q (.bl (qi w)) H')->sp_is_name  vs H Q E
theorem Dc{K:Za}(h:sp_is_name a H Q E):FA K (bo Q) (start GP a) H:=by
 obtain⟨w,rfl,r,k⟩:=h;refine⟨_,rfl,rfl,_,rfl,?_⟩;have s:(!decide (V.str w=V.str ("":Str)))=!decide (w=("":Str)):=by
  congr 1;by_cases e:w=("":Str)
  ·rw[zzr1 e,zzr1 (by rw[e])]
  ·rw[zzr0 e,zzr0 (fun z=>e (by injection z))]
 rw[s];refine i7 (fun m=>?_) (fun m=>?_)
 ·refine⟨_,rfl,.inr ⟨w,rfl,cV (aq r),_,_,rfl,rfl,_,rfl,?_⟩⟩;refine i7 (fun n=>?_) (fun n=>?_)
  ·refine⟨_,rfl,w,rfl,fun l q=>?_⟩;refine II (fun i a j=>a=((w.cps.toList.take i).map fun c=>V.bl (decide (c∈("abcdefghijklmnopqrstuvwxyz":Str).cps.toList)))/\ab H j/\j l=some (.lst a))
    ⟨rfl,ab.new q,aa⟩ (fun i a j _ h=>h.2.2) ?_ ?_
   ·rintro a j ⟨rfl,p,f⟩;refine⟨l,w.cps.toList.map fun c=>decide (c∈("abcdefghijklmnopqrstuvwxyz":Str).cps.toList),rfl,aw.of ?_,?_⟩
    ·rw[f,jg];have:w.cps.toList.take w.cps.size=w.cps.toList:=by
      rw[um];simp
     rw[this]
     rfl
    ·have:=k j p;have g:decide (w.length<=8)=true:=zzr1 (by have:=of_decide_eq_true n;omega);unfold qi at this;rw[m,g,qO,qO]at this;rw[List.all_map];exact this
   ·rintro i a j c t u ⟨rfl,p,f⟩;refine gN (pL ?_);refine⟨_,rfl,c,_,rfl,rfl,f,?_,mY u ⟨?_,?_,aa⟩⟩
    ·rw[ah,aJ];have:w.length=w.cps.toList.length:=ga w;exact aq (by omega)
    ·rw[take_snoc (by rw[<-t];simp),av]
     rfl
    ·intro b o e;rw[ai (ae e q)];exact p b o e
  ·have:=k H (ab.refl H);have g:decide (w.length<=8)=false:=zzr0 (fun z=>n (zzr1 (by omega)));unfold qi at this;rw[m,g,qO,El]at this;exact this
 ·have:=k H (ab.refl H);unfold qi at this;rw[Bool.eq_false_iff.mpr m,El]at this;exact this
def aY(ws:Zb):List (fR×V):=ws.foldl (fun acc w=>dq acc (.inr w) (.bl true)) []
theorem dQ(a:Zb)(w:Str):aY (a++[w])=dq (aY a) (.inr w) (.bl true):=by
 unfold aY;rw[yd]
 rfl
theorem Bn{κ:Type}[DecidableEq κ](a:List (κ×V))(k:κ)(v:V):(dq a k v).length<=a.length+1:=by
 unfold dq;split
 ·rw[ah];omega
 ·rw[ba];exact aD _
theorem kD{α:Type}(P:List α->Prop)(f:P [])(g:∀a w,P a->P (a++[w]))(a:List α):P a:=by
 have:∀n (a:List α),a.length=n->P a:=by
  intro n
  induction n with
  |zero=>intro a h;rw[List.length_eq_zero_iff.mp h];exact f
  |succ n i =>
   intro a h;have e:a≠[]:=fun z=>by rw[z]at h;cases h
   rw[<-List.dropLast_concat_getLast e];exact g _ _ (i _ (by rw[List.length_dropLast,h];rfl))
 exact this _ a rfl
theorem lO(a:Zb):(aY a).length<=a.length:=by
 refine kD (fun a=>(aY a).length<=a.length) (aD _) (fun a w h=>?_) a;show(aY (a++[w])).length<=(a++[w]).length;rw[dQ,ba];have:=Bn (aY a) (.inr w) (.bl true);show _<=a.length+1;omega
theorem vp(a:Zb)(x:Str):be (aY a) (.inr x)=if x∈a then some (.bl true)else none:=by
 refine kD (fun a=>be (aY a) (.inr x)=if x∈a then some (.bl true)else none) rfl (fun a w h=>?_) a
 show be (aY (a++[w])) (.inr x)=_;rw[dQ,iC,h];by_cases e:x=w
 ·subst e;rw[if_pos rfl,if_pos (by simp)]
 ·have f:¬((Sum.inr x:fR)=.inr w):=fun z=>e (by injection z);rw[if_neg f];by_cases m:x∈a
  ·rw[if_pos m,if_pos (em _ m)]
  ·rw[if_neg m,if_neg (fun z=>by rcases bM.mp z with z|z;exact m z;exact e (by simpa using z))]
theorem fG(a:Zb)(x:Str):(be (aY a) (.inr x)).isSome=decide (x∈a):=by
 rw[vp];by_cases m:x∈a
 ·rw[if_pos m,zzr1 m];rfl
 ·rw[if_neg m,zzr0 m];rfl
inductive sp_as_keys(K:Za)(vs:List V)(H:Hp)(Q:VK)(E:XK):Prop
 |mk (l:Addr) (ws:Zb):(vs=[.ref l])->(aw K H l (ws.map V.str))->(ws.length<=1000)->(∀d,H d=none->Q (.ref d) (upd H d (.dK (aY ws))))->sp_as_keys K vs H Q E
theorem Dd{K:Za}(h:sp_as_keys K o H Q E):FB K (bo Q) (start GQ o) H:=by
 obtain⟨l,j,rfl,p,s,k⟩:=h;refine fun d n=>?_;have a:∀f,aw K (upd H d (.dK f)) l (j.map V.str):=fun f=>(ab.new n).seq p;refine⟨_,rfl,l,rfl,⟨_,a _⟩,?_⟩;refine bR (xs:=j.map V.str) (fun i σ m=>∃x,σ=[some (.ref l),some (.ref d),x]/\m=upd H d (.dK (aY (j.take i)))) ⟨_,rfl,rfl⟩ (fun i σ m _ ⟨_,_,e⟩=>by rw[e];exact a _) ?_ ?_
 ·rintro i x σ m q ⟨y,rfl,rfl⟩;obtain⟨w,r,rfl⟩:=bJ q;have g:(aY (j.take i)).length<aj:=aq (aB (lO _) (by rw[aJ];omega));refine⟨_,rfl,_,rfl,d,_,rfl,.inl ⟨_,.inr w,aa,rfl,g,rfl⟩,_,rfl,?_⟩;rw[tS,take_snoc r,dQ]
 ·rintro σ m ⟨x,rfl,rfl⟩;rw[ah,bf];exact⟨_,rfl,k d n⟩
def Iu(most:Nat):Nat->List Str->List Str->Option Nat
 |_,_,[]=>none
 |i,ahead,n::ns=>if i=most∨n∈ahead∨qi n=false then some i else Iu most (i+1) (ahead++[n]) ns
def cY(names:Zb)(most:Nat)(taken:Zb):Option Nat:=if names=[]then some 0 else Iu most 0 taken names
def oV:Option Nat->V
 |none=>.non
 |some i=>.int i
inductive sp_first_wrong_name(K:Za)(vs:List V)(H:Hp)(Q:VK)(E:XK):Prop
 |mk (l t:Addr) (names taken:Zb) (most:Nat):(vs=[.ref l,.int most,.ref t])->(aw K H l (names.map V.str))->(aw K H t (taken.map V.str))->(names.length+taken.length<=1000)->((∀w∈names,w.length<=1000))->(∀H',ab H H'->Q (oV (cY names most taken)) H')->sp_first_wrong_name K vs H Q E
theorem rY{K:Za}{Q:VK}{ws:Zb}(a:aw K H l (ws.map V.str))(e:ws.length<=1000)(k:∀d,H d=none->Q (.ref d) (upd H d (.dK (aY ws)))):sp_as_keys K [.ref l] H Q E:=by
 exact⟨l,ws,rfl,a,e,k⟩
theorem Gi{Q:VK}{w:Str}(e:w.length<=1000)(k:∀a,ab H a->Q (.bl (qi w)) a):sp_is_name [.str w] H Q E:=by
 exact⟨w,rfl,e,k⟩
theorem nZ{K:Za}(h:sp_first_wrong_name K T H Q E):oQ K sp_is_name (sp_as_keys K) (bo Q) (start ph T) H:=by
 obtain⟨l,t,names,taken,a,rfl,A,U,hz,Y,k⟩:=h;refine⟨_,rfl,.inl ⟨l,_,rfl,.inl A,rfl,_,rfl,?_⟩⟩;by_cases B:names=[]
 ·subst B;refine bT ?_;have:=k H (ab.refl H);exact this
 have e0:decide (V.int ((names.map V.str).length:Nat)=V.int 0)=false:=zzr0 (fun z=>B (by
  injection z with z;rw[ah]at z;exact List.length_eq_zero_iff.mp (by omega)))
 rw[e0];refine bD ?_;have s:∀H',ab H H'->Q (oV (Iu a 0 taken names)) H':=by
  unfold cY at k;rw[if_neg B]at k;exact k
 refine⟨_,rfl,rY U (by omega) fun d C=>?_⟩;refine⟨_,rfl,l,rfl,⟨_,(ab.new C).seq A⟩,?_⟩;refine m_ (xs:=names.map V.str) (fun i σ H'=>∃x y,σ=[some (.ref l),some (.int a),some (.ref t),some (.ref d),x,y]/\ab H H'/\H' d=some (.dK (aY (taken++names.take i)))/\Iu a i (taken++names.take i) (names.drop i)=Iu a 0 taken names)
  ⟨_,_,rfl,ab.new C,by rw[yb,dO];exact aa,by rw[yb,dO,ur]⟩ (fun i σ H' _ ⟨_,_,_,p,_⟩=>p.seq A) ?_ ?_
 ·rintro i x σ H' q hi ⟨x4,x5,rfl,p,D,j⟩ M;obtain⟨w,f,rfl⟩:=bJ hi;have G:i<names.length:=(bN.mp f).1;have ed:names.drop i=w::names.drop (i+1):=by
   rw[j_ G];congr 1;exact(bN.mp f).2
  rw[ed]at j;have m:upd H' q (.tup [.int i,.str w]) d=some (.dK (aY (taken++names.take i))):=kp D M;have g:ab H (upd H' q (.tup [.int i,.str w])):=p.trans (ab.new M);have I:w.length<=1000:=Y w (bU f);refine⟨q,_,rfl,bP.of aa,rfl,_,_,rfl,_,_,rfl,rfl,?_⟩;generalize upd H' q (.tup [.int i,.str w])=N at m g ⊢;refine⟨_,rfl,_,rfl,rfl,_,rfl,?_⟩;by_cases u:i=a
  ·have J:decide (V.int (i:Nat)=V.int (a:Nat))=true:=zzr1 (by rw[u]);rw[J];refine bT (bT ?_);refine⟨_,rfl,?_⟩;have:=s N g;rw[<-j]at this;unfold Iu at this;rw[if_pos (.inl u)]at this;exact this
  have J:decide (V.int (i:Nat)=V.int (a:Nat))=false:=zzr0 (fun z=>u (by injection z with z;omega));rw[J];refine bD ?_;refine⟨_,rfl,_,rfl,d,_,rfl,.inl ⟨_,.inr w,.inl m,rfl,rfl⟩,_,rfl,?_⟩;rw[fG];by_cases v:w∈taken++names.take i
  ·rw[zzr1 v];refine bT (bT ?_);refine⟨_,rfl,?_⟩;have:=s N g;rw[<-j]at this;unfold Iu at this;rw[if_pos (.inr (.inl v))]at this;exact this
  rw[zzr0 v];refine bD ?_;refine⟨_,rfl,Gi I fun H3 n=>⟨_,rfl,?_⟩⟩;have L:=n _ _ m;cases O:qi w with
  |false =>
   refine bT ?_;refine⟨_,rfl,?_⟩;have:=s H3 (g.trans n);rw[<-j]at this;unfold Iu at this;rw[if_pos (.inr (.inr O))]at this;exact this
  |true =>
   refine bD ?_;have r:(aY (taken++names.take i)).length<aj:=aq (aB (lO _) (by rw[ba,aJ];omega));refine⟨_,rfl,_,rfl,d,_,rfl,.inl ⟨_,.inr w,L,rfl,r,rfl⟩,_,_,rfl,?_,?_,?_⟩
   ·intro b o e;rw[ai (ae e C)];exact n _ _ (g _ _ e)
   ·rw[aa,take_snoc f,<-eV,dQ]
   ·rw[<-j,take_snoc f,<-eV]
    conv=>rhs;unfold Iu
    rw[if_neg];rintro(z|z|z)
    ·exact u z
    ·exact v z
    ·rw[O]at z;cases z
 ·rintro σ H' ⟨x,y,rfl,p,_,j⟩;rw[ah,mE]at j;have:=s H' p;rw[<-j]at this;exact this
theorem BI{a:Nat}:∀(e ahead:Zb) (i:Nat),i+e.length<=a->(ahead++e).Nodup->(∀w∈e,sh w)->Iu a i ahead e=none
 |[],_,_,_,_,_=>rfl
 |n::e,ahead,i,h,f,g=>by
  rw[fS]at h;unfold Iu;rw[if_neg]
  ·refine BI e (ahead++[n]) (i+1) (by omega) (by rw[eV];exact f) fun w j=>g w (c_ _ j)
  ·rintro(z|z|z)
   ·omega
   ·rw[dw]at f;exact f.2.2 n z n (cW) rfl
   ·rw[(g n cW).b]at z;cases z
theorem iU{a:Nat}{e taken:Zb}(f:e≠[])(i:e.length<=a)(g:(taken++e).Nodup)(h:∀w∈e,sh w):cY e a taken=none:=by
 unfold cY;rw[if_neg f];exact BI e taken 0 (by omega) g h
theorem ib{n:Nat}(h:n<=9000):n<aj:=qZ h (by decide)
def p7(x:Str):TK:=.k (some (.inr x))
def eT(sg:Zb):TK:=.t (sg.map p7)
def Fd(d:ao):TK:=.t [p7 d.a,eT d.sg,p7 d.b]
theorem tZ(h:p7 x=p7 y):x=y:=by
 unfold p7 at h;injection h with h;injection h with h;injection h
theorem sM:∀{x y:Zb},x.map p7=y.map p7->x=y
 |[],[],_=>rfl
 |[],_::_,h=>by cases h
 |_::_,[],h=>by cases h
 |a::x,b::y,h=>by
  rw[bG,bG]at h;injection h with e f;rw[tZ e,sM f]
theorem eP(h:eT x=eT y):x=y:=by
 unfold eT at h;injection h with h;exact sM h
theorem J_(h:Fd x=Fd y):x=y:=by
 unfold Fd at h;injection h with h;injection h with a h;injection h with e h;injection h with f h;cases x;cases y;simp only at *;rw[tZ a,eP e,tZ f]
theorem CB(a:Zb):TK.depths (a.map p7)=0:=by
 induction a with
 |nil=>rfl
 |cons x a e=>rw[bG];show max (TK.depth (p7 x)) (TK.depths _)=0;rw[e];rfl
theorem fA(a:Zb):(eT a).depth=1:=by
 show TK.depths (a.map p7)+1=1;rw[CB]
theorem xc(d:ao):(Fd d).depth=2:=by
 show max (TK.depth (p7 d.a)) (max (TK.depth (eT d.sg)) (max (TK.depth (p7 d.b)) 0))+1=2;rw[fA]
 rfl
theorem Ew:∀a:List Str,TKAts H (a.map p7) (a.map V.str)
 |[]=>by show TKAts H [] [];unfold TKAts;rfl
 |x::a=>by
  rw[bG,bG];unfold TKAts;refine⟨_,_,rfl,?_,Ew a⟩;unfold p7 cU
  rfl
theorem yZ(x:Str):cU H (p7 x) (.str x):=by unfold p7 cU;rfl
theorem SignAt.tk(h:SignAt H s a):cU H (eT a) (.ref s):=by
 unfold eT cU;exact⟨s,_,rfl,h,Ew _⟩
theorem ij.tk(h:ij H t d):cU H (Fd d) (.ref t):=by
 obtain⟨s,a,e⟩:=h;unfold Fd cU;refine⟨t,_,rfl,a,?_⟩;unfold TKAts;refine⟨_,_,rfl,yZ _,?_⟩;unfold TKAts;refine⟨_,_,rfl,SignAt.tk e,?_⟩;unfold TKAts;refine⟨_,_,rfl,yZ _,?_⟩;unfold TKAts
 rfl
section
variable{κ:Type}[DecidableEq κ]
def mq(ks:List κ):List (κ×V):=ks.foldl (fun acc k=>dq acc k (.bl true)) []
theorem o_(a:List κ)(w:κ):mq (a++[w])=dq (mq a) w (.bl true):=by
 unfold mq;rw[yd]
 rfl
theorem Gg(a:List κ):(mq a).length<=a.length:=by
 refine kD (fun a=>(mq a).length<=a.length) (aD _) (fun a w h=>?_) a;show(mq (a++[w])).length<=(a++[w]).length;rw[o_,ba];have:=Bn (mq a) w (.bl true);show _<=a.length+1;omega
theorem Ij(a:List κ)(x:κ):(be (mq a) x).isSome=decide (x∈a):=by
 refine kD (fun a=>(be (mq a) x).isSome=decide (x∈a)) rfl (fun a w h=>?_) a;show(be (mq (a++[w])) x).isSome=_;rw[o_,iC];by_cases e:x=w
 ·subst e;rw[if_pos rfl,zzr1 (by simp)]
  rfl
 ·rw[if_neg e,h];by_cases m:x∈a
  ·rw[zzr1 m,zzr1 (em _ m)]
  ·rw[zzr0 m,zzr0 (fun z=>by rcases bM.mp z with z|z;exact m z;exact e (by simpa using z))]
end
theorem ET{a:List ao}:Fd d∈a.map Fd↔d∈a:=by
 constructor
 ·intro h;obtain⟨x,f,e⟩:=aS.mp h;rw[<-J_ e];exact f
 ·exact oC
def pe(K:Za)(H:Hp)(v:V)(sg:Zb):Prop:=∃s,v=.ref s/\bP K H s (sg.map V.str)
theorem ab.sqT{K:Za}(e:ab H f)(h:bP K H a g):bP K f a g:=by
 rcases h with(h|⟨o,h⟩)|h
 ·exact .inl (.inl (e _ _ h))
 ·exact .inl (.inr ⟨o,e _ _ h⟩)
 ·exact .inr h
theorem Signs.same{K:Za}(e:ab H f){xs:List V}{a:List (List Str)}(h:Paired (pe K H) xs a):Paired (pe K f) xs a :=
 Paired.mapP h fun _ _ ⟨s,g,i⟩=>⟨s,g,ab.sqT e i⟩
def iL(sg:Zb):DT:=.t (sg.map gE)
theorem EY(h:iL x=iL y):x=y:=by
 unfold iL at h;injection h with h;exact iK h
theorem bL(a:Zb):(iL a).depth=1:=by
 show DT.depths (a.map gE)+1=1;rw[fh]
theorem Gp(a:List (List Str)):DT.depths (a.map iL)<=8:=by
 induction a with
 |nil=>exact dL _
 |cons x e f=>rw[bG];show max (DT.depth (iL x)) (DT.depths _)<=8;rw[bL];omega
theorem Signs.dIns{K:Za}:∀{f:List V}{a:List (List Str)},Paired (pe K H) f a->DIns K H (a.map iL) f
 |_,_,.nil=>by show DIns K H [] [];unfold DIns;rfl
 |_,_,.cons ⟨s,e,r⟩ t=>by
  rw[bG];unfold DIns;refine⟨_,_,rfl,?_,Signs.dIns t⟩;rw[e];exact aZ r
theorem ES{a:List (List Str)}:iL d∈a.map iL↔d∈a:=by
 constructor
 ·intro h;obtain⟨x,f,e⟩:=aS.mp h;rw[<-EY e];exact f
 ·exact oC
theorem Paired.app{α β:Type}{R:α->β->Prop}:∀{a:List α}{b:List β}{c:List α}{d:List β},Paired R a b->Paired R c d->Paired R (a++c) (b++d)
 |_,_,_,_,.nil,h=>h
 |_,_,_,_,.cons r t,h=>.cons r (Paired.app t h)
def b9(w:Str):List Str:=[("ask":Str),w]
def gS(w:Str):List Str:=[("say":Str),w]
def kR(J0 J1:Zb):List (List Str):=J0.map b9++J1.map gS++[aF]
theorem uY{K:Za}{h:Str}{H:Hp}{a l:Addr}{j:Zb}{Q:Hp->Prop}(A:H a=some (.lst (j.map V.str)))(y:H l=none)(J:j.length<=1000)
  (k:∀(xs:List V) (f:Hp),Paired (pe K f) xs (j.map fun w=>[h,w])->ab H f->f l=some (.lst xs)->Q f) :
  eC 1 [] σ (IW K a) U0 iS (bg (aX (tC (.str h)) V0)) H l Q:=by
 refine bY (xs:=j.map V.str) (fun i g f=>Paired (pe K f) g ((j.take i).map fun w=>[h,w])/\ab H f/\f l=some (.lst g))
  ⟨.nil,ab.new y,aa⟩ (fun i g f _ ⟨_,B,C⟩=>⟨C,aw.of (B _ _ A)⟩) ?_ ?_
 ·rintro g f ⟨m,r,n⟩;rw[ah,bf]at m;exact k g f m r n
 ·rintro i g f x D E ⟨m,r,n⟩;obtain⟨w,G,rfl⟩:=bJ D;refine gN (pL ?_);refine⟨_,rfl,(by show 2<=aj;decide),fun t p=>⟨kp n p,?_,mY E ⟨?_,?_,aa⟩⟩⟩
  ·rw[Paired.length m,ah,aJ];exact aq (by omega)
  ·rw[take_snoc G,av];have q:gF (upd f t (.tup [.str h,.str w])) (upd (upd f t (.tup [.str h,.str w])) l (.lst (g++[.ref t]))):=fg (kp n p);have u:gF f (upd (upd f t (.tup [.str h,.str w])) l (.lst (g++[.ref t]))):=(ab.kt (ab.new p)).trans q;refine Paired.app (Paired.mapP m fun v L ⟨s,I,e2⟩=>⟨s,I,?_⟩) (.cons ⟨t,rfl,bP.of (q _ _ aa)⟩ .nil);rcases e2 with(e2|⟨o,e2⟩)|e2
   ·exact .inl (.inl (u _ _ e2))
   ·refine .inl (.inr ⟨o,?_⟩);rw[ai (fun z=>by rw[z,n]at e2;cases e2)];exact kp e2 p
   ·exact .inr e2
  ·intro b o e;rw[ai (ae e y)];exact kp (r _ _ e) p
inductive sp_door_signs(K:Za)(vs:List V)(H:Hp)(Q:VK)(E:XK):Prop
 |mk (l1 l2:Addr) (J0 J1:Zb):(vs=[.ref l1,.ref l2])->(H l1=some (.lst (J0.map V.str)))->(H l2=some (.lst (J1.map V.str)))->(J0.length<=100)->(J1.length<=100)->(∀(l:Addr) (xs:List V) (H':Hp),Paired (pe K H') xs (kR J0 J1)->ab H H'->H' l=some (.lst xs)->Q (.ref l) H')->sp_door_signs K vs H Q E
theorem wJ{K:Za}{st:Addr}(i:∀H,bP K H st (aF.map V.str))(h:sp_door_signs K x H Q E):zq K st (bo Q) (start AA x) H:=by
 obtain⟨y,z,J,L,rfl,n,o,A,B,k⟩:=h;refine⟨_,rfl,y,rfl,⟨_,aw.of n⟩,fun a C=>?_⟩;refine uY n C (by omega) fun f M p j D=>?_;refine⟨_,rfl,z,rfl,⟨_,aw.of (j _ _ o)⟩,fun b G=>?_⟩;refine uY (j _ _ o) G (by omega) fun g q r l I=>?_;have s:f.length<=100:=by rw[Paired.length p,ah];exact A
 have t:g.length<=100:=by rw[Paired.length r,ah];exact B
 refine⟨a,b,f,g,rfl,rfl,l _ _ D,I,cV (aq (by omega)),fun c u=>?_⟩;refine⟨(by show 1<=aj;decide),fun d m=>?_⟩;refine⟨c,d,_,_,rfl,rfl,kp aa m,aa,?_,fun e v=>k e _ _ ?_ ?_ aa⟩
 ·rw[ba];show _+1<=aj;exact cV (aq (by omega))
 ·have w:ab q (upd (upd (upd q c (.lst (f++g))) d (.lst [.ref st])) e (.lst (f++g++[.ref st]))):=((ab.new u).trans (ab.new m)).trans (ab.new v);exact Paired.app (Paired.app (Signs.same (l.trans w) p) (Signs.same w r)) (.cons ⟨st,rfl,i _⟩ .nil)
 ·exact(((j.trans l).trans (ab.new u)).trans (ab.new m)).trans (ab.new v)
def JX(J2:Zb)(sgs:List (List Str)):Nat->List ao->List ao->Option Nat
 |_,_,[]=>none
 |i,ahead,d::ds=>if i=2000∨d∈ahead∨d.a∉J2∨d.sg∉sgs∨d.b∉J2 then some i else JX J2 sgs (i+1) (ahead++[d]) ds
inductive sp_first_wrong_door(K:Za)(vs:List V)(H:Hp)(Q:VK)(E:XK):Prop
 |mk (l l3 sl:Addr) (ts:Ze) (ds:List ao) (J2:Zb) (xs:List V) (sgs:List (List Str)):(vs=[.ref l,.ref l3,.ref sl])->(H l=some (.lst (ts.map V.ref)))->(c6 H ts ds)->(H l3=some (.lst (J2.map V.str)))->(J2.length<=1000)->(H sl=some (.lst xs))->(Paired (pe K H) xs sgs)->(ds.length<=9000)->(∀H',ab H H'->Q (oV (JX J2 sgs 0 [] ds)) H')->sp_first_wrong_door K vs H Q E
theorem bZ{a:Ze}{i:Nat}{x:V}(h:(a.map V.ref)[i]?=some x):∃w,a[i]?=some w/\x=.ref w:=by
 rw[cH]at h;cases q:a[i]? with
 |none=>rw[q]at h;cases h
 |some r=>rw[q]at h;exact⟨r,rfl,(fM h).symm⟩
theorem n5{K:Za}(h:sp_first_wrong_door K vs H Q E):oR K (sp_as_keys K) (bo Q) (start pi vs) H:=by
 obtain⟨l,l3,sl,ts,p,w,xs,m,rfl,hl,B,h3,hr,Y,al,hz,k⟩:=h;refine⟨_,rfl,rY (aw.of h3) hr fun d hd=>?_⟩;refine fun e he=>?_;have C:ab H (upd (upd H d (.dK (aY w))) e (.dT [])):=(ab.new hd).trans (ab.new he);have an:H e=none:=(ab.new hd).free he;refine⟨_,rfl,l,rfl,⟨_,aw.of (C _ _ hl)⟩,?_⟩;refine m_ (xs:=ts.map V.ref) (fun i σ H'=>∃x y,σ=[some (.ref l),some (.ref l3),some (.ref sl),some (.ref d),some (.ref e),x,y]/\ab H H'/\H' d=some (.dK (aY w))/\H' e=some (.dT (mq ((p.take i).map Fd)))/\JX w m i (p.take i) (p.drop i)=JX w m 0 [] p)
  ⟨_,_,rfl,C,kp aa he,aa,rfl⟩ (fun i σ H' _ ⟨_,_,_,D,_⟩=>aw.of (D _ _ hl)) ?_ ?_
 ·rintro i x σ H' q hi ⟨x5,x6,rfl,D,ap,as,G⟩ hq;obtain⟨t,ht,rfl⟩:=bZ hi;obtain⟨f,r,aC⟩:=Paired.getL B ht;have a0:i<p.length:=(bN.mp r).1;have ed:p.drop i=f::p.drop (i+1):=by
   rw[j_ a0];congr 1;exact(bN.mp r).2
  rw[ed]at G;have g:ab H (upd H' q (.tup [.int i,.ref t])):=D.trans (ab.new hq);have j:upd H' q (.tup [.int i,.ref t]) d=_:=kp ap hq;have u:upd H' q (.tup [.int i,.ref t]) e=_:=kp as hq;refine⟨q,_,rfl,bP.of aa,rfl,_,_,rfl,_,_,rfl,rfl,?_⟩;generalize upd H' q (.tup [.int i,.ref t])=H2 at j u g ⊢;have A:=aC.kt (ab.kt g);have a4:n6 K H2 (Fd f) (.ref t):=cU.isIn 8 (by rw[xc];decide) A.tk;have I:(Fd f).depth<=8:=by rw[xc];decide
  obtain⟨s,v,J⟩:=A;have n:(i=2000∨f∈p.take i∨f.a∉w∨f.sg∉m∨f.b∉w)->Q (.int i) H2:=by
   intro c;have:=k H2 g;rw[<-G]at this;unfold JX at this;rw[if_pos c]at this;exact this
  refine⟨_,rfl,rfl,_,rfl,?_⟩;by_cases M:i=2000
  ·have e1:decide (V.int (i:Nat)=V.int 2000)=true:=zzr1 (by rw[M];rfl);rw[e1];exact bT (bT ⟨_,rfl,n (.inl M)⟩)
  have e1:decide (V.int (i:Nat)=V.int 2000)=false:=zzr0 (fun z=>M (by injection z with z;omega));rw[e1];refine bD ?_;refine⟨_,rfl,_,rfl,e,_,rfl,.inr ⟨_,Fd f,t,.inl u,rfl,a4,I,rfl⟩,_,rfl,?_⟩;rw[Ij];by_cases N:f∈p.take i
  ·rw[zzr1 (ET.mpr N)];exact bT ⟨_,rfl,n (.inr (.inl N))⟩
  rw[zzr0 (fun z=>N (ET.mp z))];refine bD ?_;refine⟨_,rfl,.inr (.inl ⟨t,_,0,_,rfl,rfl,bP.of v,rfl,_,rfl,d,_,rfl,.inl ⟨_,.inr f.a,.inl j,rfl,rfl⟩,_,rfl,?_⟩)⟩;rw[fG];by_cases O:f.a∈w;rotate_left
  ·rw[zzr0 O];exact bT (bT ⟨_,rfl,n (.inr (.inr (.inl O)))⟩)
  rw[zzr1 O];refine bD ?_;refine⟨_,rfl,.inr (.inl ⟨t,_,1,_,rfl,rfl,bP.of v,rfl,_,rfl,iL f.sg,m.map iL,sl,xs,aZ (bP.of J),rfl,.inl (aw.of (g _ _ Y)),Signs.dIns (Signs.same g al),by rw[bL];decide,Gp _,_,rfl,?_⟩)⟩;rw[if_pos rfl];by_cases T:f.sg∈m;rotate_left
  ·rw[zzr0 (fun z=>T (ES.mp z))];exact bT (bT ⟨_,rfl,n (.inr (.inr (.inr (.inl T))))⟩)
  rw[zzr1 (ES.mpr T)];refine bD ?_;refine⟨_,rfl,.inr (.inl ⟨t,_,2,_,rfl,rfl,bP.of v,rfl,_,rfl,d,_,rfl,.inl ⟨_,.inr f.b,.inl j,rfl,rfl⟩,_,rfl,?_⟩)⟩;rw[fG];by_cases U:f.b∈w;rotate_left
  ·rw[zzr0 U];exact bT ⟨_,rfl,n (.inr (.inr (.inr (.inr U))))⟩
  rw[zzr1 U];refine bD ?_;have L:(mq ((p.take i).map Fd)).length<aj:=ib (aB (Gg _) (by rw[ah,aJ];omega));refine⟨_,rfl,_,rfl,e,_,rfl,.inr ⟨_,Fd f,t,u,rfl,ij.tk ⟨s,v,J⟩,I,L,rfl⟩,_,_,rfl,?_,?_,?_,?_⟩
  ·intro b o q;rw[ai (ae q an)];exact g _ _ q
  ·rw[ai (fun z=>by rw[z,u]at j;cases j)];exact j
  ·rw[aa,take_snoc r,av];exact congrArg (fun z=>some (HO.dT z)) (o_ _ _).symm
  ·rw[<-G,take_snoc r]
   conv=>rhs;unfold JX
   rw[if_neg];rintro(z|z|z|z|z)
   ·exact M z
   ·exact N z
   ·exact z O
   ·exact z T
   ·exact z U
 ·rintro σ H' ⟨x,y,rfl,D,_,_,G⟩;have:=k H' D;rw[<-G,ah,Paired.length B,mE]at this;exact this
theorem BJ{g:Zb}{e:List (List Str)}:∀(f ahead:List ao) (i:Nat),i+f.length<=2000->(ahead++f).Nodup->(∀d∈f,d.a∈g/\d.sg∈e/\d.b∈g)->JX g e i ahead f=none
 |[],_,_,_,_,_=>rfl
 |n::k,ahead,i,l,h,j=>by
  rw[fS]at l;unfold JX;rw[if_neg]
  ·refine BJ k (ahead++[n]) (i+1) (by omega) (by rw[eV];exact h) fun w m=>j w (c_ _ m)
  ·have:=j n cW;rintro(z|z|z|z|z)
   ·omega
   ·rw[dw]at h;exact h.2.2 n z n (cW) rfl
   ·exact z this.1
   ·exact z this.2.1
   ·exact z this.2.2
inductive sp_need_none (vs:List V)(H:Hp)(Q:VK)(E:XK):Prop
 |mk (x:V):(vs=[x,.non])->(Q .non H)->sp_need_none  vs H Q E
theorem zQ{K:Za}(h:sp_need_none a H Q E):AR K (bo Q) (start Cc a) H:=by
 obtain⟨x,rfl,k⟩:=h;refine⟨_,rfl,_,rfl,?_⟩;have e:(!decide (V.non=V.non))=false:=by rw[zzr1 rfl];rfl
 rw[e];exact bD k
structure Lists(H:Hp)(l1 l2 l3 l4:Addr)(ts:Ze)(J0 J1 J2:Zb)(ds:List ao):Prop where
 a1:H l1=some (.lst (J0.map V.str))
 a2:H l2=some (.lst (J1.map V.str))
 a3:H l3=some (.lst (J2.map V.str))
 a4:H l4=some (.lst (ts.map V.ref))
 ds:c6 H ts ds
theorem Lists.same{H a:Hp}{f g l3 i:Addr}{j:Ze}{k l m:Zb}{n:List ao}(h:Lists H f g l3 i j k l m n)(e:ab H a):Lists a f g l3 i j k l m n :=
 ⟨e _ _ h.a1,e _ _ h.a2,e _ _ h.a3,e _ _ h.a4,h.ds.kt (ab.kt e)⟩
inductive sp_need_parts (vs:List V)(H:Hp)(Q:VK)(E:XK):Prop
 |mk (l1 l2 l3 l4:Addr) (ts:Ze) (J0 J1 J2:Zb) (ds:List ao):(vs=[.ref l1,.ref l2,.ref l3,.ref l4])->(Lists H l1 l2 l3 l4 ts J0 J1 J2 ds)->(aQ J0 J1 J2 ds)->(∀H',ab H H'->Q .non H')->sp_need_parts  vs H Q E
theorem aQ.signs(m:aQ i j h k):∀d∈k,d.a∈h/\d.sg∈kR i j/\d.b∈h:=by
 intro d l;have g:=m.good d l;refine⟨g.a,?_,g.b⟩;unfold kR;rcases g.sg with⟨w,f,e⟩|⟨w,f,e⟩|e
 ·rw[e];exact em _ (em _ (aS.mpr ⟨w,f,rfl⟩))
 ·rw[e];exact em _ (eU _ (aS.mpr ⟨w,f,rfl⟩))
 ·rw[e];exact eU _ (by simp[aF])
theorem rO(h:lT a):∀w∈a,w.length<=1000:=fun w e=>aB (h.2 w e).hi (by decide)
theorem wF{K:Za}(h:sp_need_parts w H Q E):zc K sp_need_none (sp_first_wrong_door K) (sp_door_signs K) (sp_first_wrong_name K) (bo Q) (start As w) H:=by
 obtain⟨l,s,t,x,y,f,g,j,n,rfl,L,m,k⟩:=h;have z:cY f 4 []=none:=iU m.asks0 m.asks4 m.okA.1 m.okA.2;have A:cY g 4 f=none:=iU m.says0 m.says4 (by
  rw[dw];exact⟨m.okA.1,m.okS.1,fun a B b C e=>m.apart b C (e▸B)⟩) m.okS.2
 have D:cY j 150 []=none:=iU m.rooms0 (by have:=m.rooms26;omega) m.okR.1 m.okR.2;have G:JX j (kR f g) 0 [] n=none:=BJ n [] 0 (by have:=m.few;omega) m.nodup m.signs;have z1:=m.asks4;have z2:=m.says4;have z3:=m.rooms26;have z4:=m.few;refine⟨_,rfl,(by show 0<=aj;decide),fun e i=>⟨l,e,f,[],4,rfl,aw.of (kp L.a1 i),aw.of aa,by simp;omega,rO m.okA,fun H1 I=>?_⟩⟩;rw[z];refine⟨_,rfl,?_⟩;have o:=(ab.new i).trans I;refine⟨_,rfl,_,rfl,s,l,g,f,4,rfl,aw.of (o _ _ L.a2),aw.of (o _ _ L.a1),by omega,rO m.okS,fun H2 J=>?_⟩;rw[A];refine⟨_,rfl,?_⟩;have u:=o.trans J;refine⟨_,rfl,(by show 0<=aj;decide),fun e i=>⟨t,e,j,[],150,rfl,aw.of (kp (u _ _ L.a3) i),aw.of aa,by simp;omega,rO m.okR,fun H3 M=>?_⟩⟩;rw[D];refine⟨_,rfl,?_⟩;have p:=(u.trans (ab.new i)).trans M;refine⟨_,rfl,_,rfl,_,rfl,_,rfl,l,s,f,g,rfl,p _ _ L.a1,p _ _ L.a2,by omega,by omega,fun N O H4 T U q=>?_⟩;have v:=p.trans U;have r:=L.same v;refine⟨x,t,N,y,n,j,O,kR f g,rfl,r.a4,r.ds,r.a3,by omega,q,T,by omega,fun Y s5=>?_⟩;rw[G];exact⟨_,rfl,k Y (v.trans s5)⟩
section
variable{κ ι:Type}[DecidableEq κ]{e:ι->κ}
def eB(e:ι->κ)(ps:List (ι×Addr)):List (κ×V):=ps.map fun x=>(e x.1,V.ref x.2)
theorem nN(inj:∀x y,e x=e y->x=y){i:ι}:∀{a:List (ι×Addr)},i∉a.map (·.1)->be (eB e a) (e i)=none
 |[],_=>rfl
 |x::a,h=>by
  rw[bG,cu]at h;show be ((e x.1,V.ref x.2)::eB e a) (e i)=none;rw[dk (fun z=>h (.inl (inj _ _ z).symm))];exact nN inj (fun z=>h (.inr z))
theorem fF(inj:∀x y,e x=e y->x=y){i:ι}{a:Addr}:∀{f:List (ι×Addr)},(f.map (·.1)).Nodup->(i,a)∈f->be (eB e f) (e i)=some (.ref a)
 |[],_,h=>by cases h
 |x::f,g,h=>by
  rw[bG,gp]at g;show be ((e x.1,V.ref x.2)::eB e f) (e i)=_;rcases cu.mp h with h|h
  ·rw[<-h];exact dC rfl
  ·rw[dk (fun z=>g.1 (by rw[inj _ _ z];exact aS.mpr ⟨_,h,rfl⟩))];exact fF inj g.2 h
theorem xx(f:List (ι×Addr))(i:ι)(a:Addr):eB e (f++[(i,a)])=eB e f++[(e i,.ref a)]:=by
 unfold eB;rw[av]
 rfl
end
structure DL{ι:Type}(H0 H:Hp)(d:Addr)(ps:List (ι×Addr)):Prop where
 nd:(ps.map (·.1)).Nodup
 na:(ps.map (·.2)).Nodup
 fr:∀x∈ps,H0 x.2=none
 frd:H0 d=none
 ned:∀x∈ps,x.2≠d
 same:ab H0 H
theorem DL.snoc{ι:Type}{f H k:Hp}{d:Addr}{g:List (ι×Addr)}{i:ι}{a:Addr}(h:DL f H d g)(l:i∉g.map (·.1))(m:∀x∈g,x.2≠a)(n:f a=none)(o:a≠d)(s:ab f k):DL f k d (g++[(i,a)]):=by
 refine⟨?_,?_,?_,h.frd,?_,s⟩
 ·rw[av,dw];refine⟨h.nd,by simp,fun x hx y j e=>?_⟩;have:y=i:=by simpa using j
  exact l (by rw[<-this,<-e];exact hx)
 ·rw[av,dw];refine⟨h.na,by simp,fun x hx y j e=>?_⟩;have:y=a:=by simpa using j
  obtain⟨z,p,rfl⟩:=aS.mp hx;exact m z p (e.trans this)
 ·intro x hx;rcases bM.mp hx with hx|hx
  ·exact h.fr x hx
  ·have:x=(i,a):=by simpa using hx
   rw[this];exact n
 ·intro x hx;rcases bM.mp hx with hx|hx
  ·exact h.ned x hx
  ·have:x=(i,a):=by simpa using hx
   rw[this];exact o
theorem Ia{ι:Type}:∀{a:List (ι×Addr)},(a.map (·.2)).Nodup->∀{x y:ι×Addr},x∈a->y∈a->x.2=y.2->x=y
 |[],_,x,_,h,_,_=>by cases h
 |p::a,f,x,y,g,i,e=>by
  rw[bG,gp]at f;rcases cu.mp g with hx'|hx'<;>rcases cu.mp i with hy'|hy'
  ·rw[hx',hy']
  ·exact absurd (aS.mpr ⟨y,hy',by rw[<-e,hx']⟩) f.1
  ·exact absurd (aS.mpr ⟨x,hx',by rw[e,hy']⟩) f.1
  ·exact Ia f.2 hx' hy' e
theorem jW:∀x y:Str,(Sum.inr x:fR)=Sum.inr y->x=y:=fun x y h=>by injection h
def cK(ds:List ao)(r:Str):List ao:=ds.filter fun d=>decide (d.a=r)
inductive sp_doors_by_start (vs:List V)(H:Hp)(Q:VK)(E:XK):Prop
 |mk (l3 l4:Addr) (ts:Ze) (J2:Zb) (ds:List ao):(vs=[.ref l3,.ref l4])->(H l3=some (.lst (J2.map V.str)))->(H l4=some (.lst (ts.map V.ref)))->(c6 H ts ds)->(J2.Nodup)->(J2.length<=1000)->(ds.length<=9000)->((∀d∈ds,d.a∈J2))->(∀(d:Addr) (ps:List (Str×Addr)) (H':Hp),ps.map (·.1)=J2->H' d=some (.dK (eB Sum.inr ps))->(∀x∈ps,∃us,H' x.2=some (.lst (us.map V.ref))/\c6 H' us (cK ds x.1))->ab H H'->Q (.ref d) H')->sp_doors_by_start  vs H Q E
theorem p_{K:Za}{vs:List V}{H:Hp}{Q:VK}{E:XK}(h:sp_doors_by_start vs H Q E):rA K (bo Q) (start se vs) H:=by
 obtain⟨l3,l4,ts,J2,L,rfl,h3,h4,M,aC,hz,bd,a0,k⟩:=h;refine fun d hd=>?_;refine⟨_,rfl,l3,rfl,⟨_,aw.of (kp h3 hd)⟩,?_⟩;refine bR (xs:=J2.map V.str) (fun i σ j=>∃x y,σ=[some (.ref l3),some (.ref l4),some (.ref d),x,y]/\∃l:List (Str×Addr),l.map (·.1)=J2.take i/\j d=some (.dK (eB Sum.inr l))/\DL H j d l/\∀x∈l,j x.2=some (.lst []))
  ⟨_,_,rfl,[],rfl,aa,⟨by simp,by simp,by simp,hd,by simp,ab.new hd⟩,by simp⟩ (fun i σ j _ ⟨_,_,_,_,_,_,D,_⟩=>aw.of (D.same _ _ h3)) ?_ ?_
 ·rintro i x σ j hi ⟨x3,N,rfl,l,m,n,D,g⟩;obtain⟨w,hw,rfl⟩:=bJ hi;have v:w∉l.map (·.1):=by
   rw[m];intro z;have:=aC;rw[<-ye (i+1) J2,take_snoc hw,dw]at this;have:=this.1;rw[dw]at this;exact this.2.2 w z w (by simp) rfl
  refine⟨(by show 0<=aj;decide),fun a G=>?_⟩;have O:(eB (Sum.inr:Str->fR) l).length<aj:=aq (by
   unfold eB;rw[ah,<-ah (f:=(·.1)) (as:=l),m,aJ];omega)
  have a4:H a=none:=D.same.free G;have T:a≠d:=(ae n G).symm;have U:∀x∈l,x.2≠a:=fun x hx=>ae (g x hx) G;refine⟨_,rfl,_,rfl,d,_,rfl,.inl ⟨_,.inr w,kp n G,rfl,O,rfl⟩,_,_,rfl,l++[(w,a)],?_,?_,?_,?_⟩
  ·rw[av,m,take_snoc hw];rfl
  ·rw[aa,iI _ (nN jW v),xx]
  ·refine D.snoc v U a4 T ?_;intro b o q;rw[ai (ae q hd)];exact kp (D.same _ _ q) G
  ·intro x hx;rcases bM.mp hx with hx|hx
   ·rw[ai (D.ned x hx)];exact kp (g x hx) G
   ·have:x=(w,a):=by simpa using hx
    rw[this,ai T];exact aa
 ·rintro σ H1 ⟨x3,N,rfl,l,m,a5,D1,g⟩;rw[ah,bf]at m;refine⟨_,rfl,l4,rfl,⟨_,aw.of (D1.same _ _ h4)⟩,?_⟩;refine bR (xs:=ts.map V.ref) (fun i σ j=>∃N,σ=[some (.ref l3),some (.ref l4),some (.ref d),x3,N]/\j d=some (.dK (eB Sum.inr l))/\DL H j d l/\∀x∈l,∃I,j x.2=some (.lst (I.map V.ref))/\c6 j I (cK (L.take i) x.1))
   ⟨_,rfl,a5,D1,fun x hx=>⟨[],g x hx,.nil⟩⟩ (fun i σ j _ ⟨_,_,_,D,_⟩=>aw.of (D.same _ _ h4)) ?_ ?_
  ·rintro i x σ j hi ⟨N,rfl,n,D,g⟩;obtain⟨t,ht,rfl⟩:=bZ hi;obtain⟨u,B,a6⟩:=Paired.getL M ht;have A:=a6.kt (ab.kt D.same);have Y:=A;obtain⟨s,a7,bi⟩:=A;have al:u.a∈l.map (·.1):=by rw[m];exact a0 u (bU B)
   obtain⟨⟨r,a⟩,p,er⟩:=aS.mp al;obtain rfl:r=u.a:=er;obtain⟨I,C,an⟩:=g _ p;have bl:i<L.length:=(bN.mp B).1;have a8:I.length<=9000:=by
    rw[Paired.length an];refine aB (cQ _ _) ?_;rw[aJ];omega
   have KT:gF j (upd j a (.lst (I.map V.ref++[.ref t]))):=fg C;refine⟨_,rfl,_,rfl,.inr (.inl ⟨t,_,0,_,rfl,rfl,bP.of a7,rfl,d,.ref a,rfl,.inl ⟨_,.inr u.a,.inl n,rfl,(fF jW D.nd p).symm⟩,.inl ⟨rfl,_,aw.of C⟩,_,rfl,a,_,_,rfl,rfl,C,?_,_,rfl,?_,?_,?_⟩)⟩
   ·rw[ah];exact ib a8
   ·rw[ai (D.ned _ p).symm];exact n
   ·refine⟨D.nd,D.na,D.fr,D.frd,D.ned,fun b o q=>?_⟩;rw[ai (ae q (D.fr _ p))];exact D.same _ _ q
   ·intro x hx;have ap:∀r',cK (L.take (i+1)) r'=cK (L.take i) r'++(if u.a=r' then[u]else[]):=by
     intro r';unfold cK;rw[take_snoc B,iP];congr 1;by_cases c:u.a=r'
     ·rw[if_pos c];simp[c]
     ·rw[if_neg c];simp[c]
    by_cases c:x.2=a
    ·have ex:=Ia D.na hx p c;subst ex;refine⟨I++[t],?_,?_⟩
     ·show upd j a _ a=_;rw[aa,av];rfl
     ·rw[ap];show c6 _ _ (cK (L.take i) u.a++(if u.a=u.a then[u]else[]))
      rw[if_pos rfl];exact Paired.app (an.kt KT) (.cons (Y.kt KT) .nil)
    ·obtain⟨a9,h1,h2⟩:=g x hx;have bc:¬(u.a=x.1):=fun z=>by
      have e1:=fF (e:=(Sum.inr:Str->fR)) jW D.nd p;have J:=fF (e:=(Sum.inr:Str->fR)) (i:=x.1) (a:=x.2) jW D.nd hx;rw[<-z,e1]at J;injection J with J;injection J with J;exact c J.symm
     refine⟨a9,by rw[ai c];exact h1,?_⟩;rw[ap,if_neg bc,dO];exact h2.kt KT
  ·rintro σ j ⟨N,rfl,n,D,g⟩;rw[ah,Paired.length M,bf]at g;exact⟨_,rfl,k d l j m n g D.same⟩
def m8(d:ao):Bool:=match d.sg with
 |s::_=>decide (s=("ask":Str))
 |[]=>false
inductive sp_has_asks_alone (vs:List V)(H:Hp)(Q:VK)(E:XK):Prop
 |mk (a:Addr) (us:Ze) (ds:List ao):(vs=[.ref a])->(H a=some (.lst (us.map V.ref)))->(c6 H us ds)->(ds.length<=9000)->((∀d∈ds,d.sg≠[]))->(∀H',ab H H'->Q (.bl (ds.all m8)) H')->sp_has_asks_alone  vs H Q E
theorem p9{K:Za}(h:sp_has_asks_alone g H Q E):rq K (bo Q) (start r_ g) H:=by
 obtain⟨a,N,J,rfl,L,v,Y,C,k⟩:=h;refine⟨_,rfl,a,rfl,⟨_,aw.of L⟩,fun l M=>?_⟩;refine bY (xs:=N.map V.ref) (fun i g n=>g=(J.take i).map (fun d=>V.bl (m8 d))/\ab H n/\n l=some (.lst g))
  ⟨rfl,ab.new M,aa⟩ (fun i g n _ ⟨_,p,r⟩=>⟨r,aw.of (p _ _ L)⟩) ?_ ?_
 ·rintro g n ⟨rfl,p,r⟩;rw[ah,Paired.length v,bf]at r;refine⟨l,J.map m8,rfl,aw.of (by rw[r,jg];rfl),?_⟩;rw[List.all_map];exact k n p
 ·rintro i g n x O T ⟨rfl,p,r⟩;obtain⟨t,U,rfl⟩:=bZ O;obtain⟨D,w,G⟩:=Paired.getL v U;obtain⟨s,I,m⟩:=G.kt (ab.kt p);have A:=bU w;obtain⟨u,f,B⟩:∃u f,D.sg=u::f:=by
   cases q:D.sg with
   |nil=>exact absurd q (C D A)
   |cons x y=>exact⟨x,y,rfl⟩
  unfold SignAt at m;rw[B]at m;refine gN (pL ?_);refine⟨_,rfl,.inr (.inl ⟨t,_,1,_,rfl,rfl,bP.of I,rfl,.inr (.inl ⟨s,_,0,.str u,rfl,rfl,bP.of m,ca (j:=0) rfl,rfl,r,?_,mY T ⟨?_,?_,aa⟩⟩)⟩)⟩
  ·rw[ah,aJ];exact ib (by omega)
  ·rw[take_snoc w,av];congr 1;show[V.bl _]=[V.bl _];congr 2;unfold m8;rw[B];show decide (V.str u=V.str _)=decide (u=_);by_cases c:u=("ask":Str)
   ·rw[zzr1 c,zzr1 (by rw[c])]
   ·rw[zzr0 c,zzr0 (fun z=>c (by injection z))]
  ·intro b o e;rw[ai (ae e M)];exact p _ _ e
def v4(x:Str×List Str):TK:=.t [p7 x.1,eT x.2]
theorem i6:∀x y:Str×List Str,v4 x=v4 y->x=y:=by
 intro x y h;unfold v4 at h;injection h with h;injection h with a h;injection h with e h;cases x;cases y;simp only at *;rw[tZ a,eP e]
theorem nJ(x:Str×List Str):(v4 x).depth<=8:=by
 show max (TK.depth (p7 x.1)) (max (TK.depth (eT x.2)) 0)+1<=8;rw[fA];show max 0 (max 1 0)+1<=8
 decide
def bF(ds:List ao)(x:Str×List Str):List Str:=(ds.filter fun d=>decide (d.a=x.1/\d.sg=x.2)).map (·.b)
theorem Ae(e:List ao)(d:ao)(x:Str×List Str):bF (e++[d]) x=bF e x++(if(d.a,d.sg)=x then[d.b]else[]):=by
 unfold bF;rw[iP,av];congr 1;by_cases c:(d.a,d.sg)=x
 ·subst c;simp
 ·rw[if_neg c];have:¬(d.a=x.1/\d.sg=x.2):=fun z=>c (by cases x;simp only at z;rw[z.1,z.2]);simp[List.filter_cons];intro f g;exact this ⟨f,g⟩
theorem m9{e:List ao}{x:Str×List Str}(h:∀d∈e,(d.a,d.sg)≠x):bF e x=[]:=by
 unfold bF;rw[qS,List.filter_eq_nil_iff];intro d f;have:¬(d.a=x.1/\d.sg=x.2):=fun z=>h d f (by cases x;simp only at z;rw[z.1,z.2]);simp;intro g i;exact this ⟨g,i⟩
theorem e_{b:Str}:b∈bF g x↔(⟨x.1,x.2,b⟩:ao)∈g:=by
 unfold bF;rw[aS];constructor
 ·rintro⟨d,a,rfl⟩;rw[fU]at a;obtain⟨i,j⟩:=a;obtain⟨e,f⟩:=of_decide_eq_true j;cases d;simp only at e f;rw[<-e,<-f];exact i
 ·intro h;exact⟨_,fU.mpr ⟨h,zzr1 ⟨rfl,rfl⟩⟩,rfl⟩
structure jZ(H:Hp)(g:Addr)(ps:List ((Str×List Str)×Addr))(ds:List ao):Prop where
 nd:(ps.map (·.1)).Nodup
 g:H g=some (.dT (eB v4 ps))
 ls:∀x∈ps,H x.2=some (.lst ((bF ds x.1).map V.str))
 all:∀d∈ds,(d.a,d.sg)∈ps.map (·.1)
theorem jZ.same{H H':Hp}{g:Addr}{a:List ((Str×List Str)×Addr)}{e:List ao}(h:jZ H g a e)(s:ab H H'):jZ H' g a e:=⟨h.nd,s _ _ h.g,fun x f=>s _ _ (h.ls x f),h.all⟩
inductive pW (vs:List V)(H:Hp)(Q:VK)(E:XK):Prop
 |mk (l4:Addr) (ts:Ze) (ds:List ao):(vs=[.ref l4])->(H l4=some (.lst (ts.map V.ref)))->(c6 H ts ds)->(ds.length<=9000)->(∀(g:Addr) (ps:List ((Str×List Str)×Addr)) (H':Hp),jZ H' g ps ds->ab H H'->Q (.ref g) H')->pW  vs H Q E
theorem jw{K:Za}(h:pW vs H Q E):jK K (bo Q) (start jN vs) H:=by
 obtain⟨l4,ts,T,rfl,h4,al,hz,k⟩:=h;refine fun g hg=>?_;refine⟨_,rfl,l4,rfl,⟨_,aw.of (kp h4 hg)⟩,?_⟩;refine bR (xs:=ts.map V.ref) (fun i σ u=>∃x y z,σ=[some (.ref l4),some (.ref g),x,y,z]/\∃p:List ((Str×List Str)×Addr),DL H u g p/\u g=some (.dT (eB v4 p))/\p.length<=i/\(∀x∈p,u x.2=some (.lst ((bF (T.take i) x.1).map V.str)))/\∀d∈T.take i,(d.a,d.sg)∈p.map (·.1))
  ⟨_,_,_,rfl,[],⟨by simp,by simp,by simp,hg,by simp,ab.new hg⟩,aa,by simp,by simp,by simp⟩ (fun i σ u _ ⟨_,_,_,_,_,D,_⟩=>aw.of (D.same _ _ h4)) ?_ ?_
 ·rintro i x σ u hi ⟨x2,x3,x4,rfl,p,D,w,an,m,l⟩;obtain⟨t,ht,rfl⟩:=bZ hi;obtain⟨f,C,a4⟩:=Paired.getL al ht;have bc:i<T.length:=(bN.mp C).1;obtain⟨s,a5,a6⟩:=a4.kt (ab.kt D.same);refine⟨t,_,rfl,bP.of a5,rfl,_,_,rfl,_,_,rfl,_,_,rfl,rfl,?_⟩;refine⟨_,rfl,.inr (.inr (.inl ⟨rfl,.inr ⟨_,w⟩⟩)),_,rfl,_,rfl,(by show 2<=aj;decide),fun kt ap=>⟨(by show 0<=aj;decide),fun nl U=>?_⟩⟩;have G:ab u (upd (upd u kt (.tup [.str f.a,.ref s])) nl (.lst [])):=(ab.new ap).trans (ab.new U);have L:upd (upd u kt (.tup [.str f.a,.ref s])) nl (.lst []) kt=some (.tup [.str f.a,.ref s]):=kp aa U;have M:upd (upd u kt (.tup [.str f.a,.ref s])) nl (.lst []) nl=some (.lst []):=aa;have j:u nl=none:=(ab.new ap).free U;generalize upd (upd u kt (.tup [.str f.a,.ref s])) nl (.lst [])=H2 at G L M ⊢;have a7:cU H2 (v4 (f.a,f.sg)) (.ref kt):=by
   unfold v4 cU;refine⟨kt,_,rfl,L,?_⟩;unfold TKAts;refine⟨_,_,rfl,yZ _,?_⟩;unfold TKAts;refine⟨_,_,rfl,SignAt.tk (G _ _ a6),?_⟩;unfold TKAts
   rfl
  have a8:(eB v4 p).length<aj:=ib (by unfold eB;rw[ah];omega);have I:∀x,bF (T.take (i+1)) x=bF (T.take i) x++(if(f.a,f.sg)=x then[f.b]else[]):=fun x=>by rw[take_snoc C,Ae]
  have a9:∀x,(bF (T.take i) x).length<=9000:=fun x=>by
   unfold bF;rw[ah];refine aB (cQ _ _) ?_;rw[aJ];omega
  refine⟨g,kt,_,v4 (f.a,f.sg),.ref nl,rfl,rfl,G _ _ w,a7,nJ _,a8,fun v J=>?_,fun J=>?_⟩
  ·-- there as
   have N:(f.a,f.sg)∈p.map (·.1):=by
    refine Classical.byContradiction fun z=>?_;rw[nN i6 z]at J;cases J
   obtain⟨⟨r,a⟩,n,er⟩:=aS.mp N;obtain rfl:r=(f.a,f.sg):=er;rw[fF i6 D.nd n]at J;injection J with J;subst J;have aC:=G _ _ (m _ n);refine⟨.inl ⟨rfl,_,aw.of aC⟩,_,rfl,a,_,_,rfl,rfl,aC,by rw[ah];exact ib (a9 _),_,_,_,rfl,p,⟨D.nd,D.na,D.fr,D.frd,D.ned,fun b o q=>?_⟩,?_,by omega,?_,?_⟩
   ·rw[ai (ae q (D.fr _ n))];exact G _ _ (D.same _ _ q)
   ·rw[ai (D.ned _ n).symm];exact G _ _ w
   ·intro x hx;by_cases c:x.2=a
    ·have ex:=Ia D.na hx n c;subst ex;show upd H2 a _ a=_;rw[aa,I,if_pos rfl,av];rfl
    ·have Y:¬((f.a,f.sg)=x.1):=fun z=>by
      have e1:=fF (e:=v4) i6 D.nd n;have e2:=fF (e:=v4) (i:=x.1) (a:=x.2) i6 D.nd hx;rw[<-z,e1]at e2;injection e2 with e2;injection e2 with e2;exact c e2.symm
     rw[ai c,I,if_neg Y,dO];exact G _ _ (m x hx)
   ·intro d hd;rw[take_snoc C]at hd;rcases bM.mp hd with hd|hd
    ·exact l d hd
    ·have:d=f:=by simpa using hd
     rw[this];exact N
  ·-- a new list
   have A:(f.a,f.sg)∉p.map (·.1):=by
    intro z;obtain⟨⟨r,a⟩,n,er⟩:=aS.mp z;obtain rfl:r=(f.a,f.sg):=er;rw[fF i6 D.nd n]at J;cases J
   have B:nl≠g:=(ae w j).symm;have O:upd H2 g (.dT (eB v4 p++[(v4 (f.a,f.sg),.ref nl)])) nl=some (.lst []):=by rw[ai B];exact M
   refine⟨.inl ⟨rfl,_,aw.of O⟩,_,rfl,nl,_,_,rfl,rfl,O,(by show 0<aj;decide),_,_,_,rfl,p++[((f.a,f.sg),nl)],?_,?_,?_,?_,?_⟩
   ·refine D.snoc A (fun x hx=>ae (m x hx) j) (D.same.free j) B ?_;intro b o q;rw[ai (ae q (D.same.free j)),ai (ae q hg)];exact G _ _ (D.same _ _ q)
   ·rw[ai B.symm,aa,xx]
   ·rw[ba];show _+1<=_;omega
   ·intro x hx;rcases bM.mp hx with hx|hx
    ·have Y:¬((f.a,f.sg)=x.1):=fun z=>A (by rw[z];exact aS.mpr ⟨x,hx,rfl⟩);rw[ai (ae (m x hx) j),ai (D.ned x hx),I,if_neg Y,dO];exact G _ _ (m x hx)
    ·have:x=((f.a,f.sg),nl):=by simpa using hx
     subst this;have a0:bF (T.take i) (f.a,f.sg)=[]:=m9 fun d hd z=>A (by rw[<-z];exact l d hd);show upd _ nl _ nl=_;rw[aa,I,if_pos rfl,a0]
     rfl
   ·intro d hd;rw[av];rw[take_snoc C]at hd;rcases bM.mp hd with hd|hd
    ·exact em _ (l d hd)
    ·have:d=f:=by simpa using hd
     rw[this];exact eU _ (by simp)
 ·rintro σ u ⟨x2,x3,x4,rfl,p,D,w,an,m,l⟩;rw[ah,Paired.length al,bf]at m l;exact⟨_,rfl,k g p u ⟨D.nd,w,m,l⟩ D.same⟩
theorem mZ:∀{L R:Zb},L.Nodup->(∀y∈L,y∈R)->L.length<=R.length
 |[],_,_,_=>dL _
 |x::L,R,a,h=>by
  rw[gp]at a;have f:=h x cW;have:=mZ (L:=L) (R:=R.erase x) a.2 fun y g=>(List.mem_erase_of_ne (fun e:y=x=>a.1 (by rw[<-e];exact g))).mpr (h y (c_ _ g));rw[List.length_erase_of_mem f]at this;have:0<R.length:=List.length_pos_of_mem f;rw[fS];omega
theorem Reach.in_{e:List ao}{f:Zb}(g:∀d∈e,d.b∈f)(h:Reach e a b):b∈f:=by
 cases h with
 |one h=>exact g _ h
 |step r h=>exact g _ h
inductive zO (vs:List V)(H:Hp)(Q:VK)(E:XK):Prop
 |mk (g:Addr) (room:Str) (ps:List ((Str×List Str)×Addr)) (ds:List ao) (J2:Zb):(vs=[.ref g,.str room])->(jZ H g ps ds)->((∀d∈ds,d.b∈J2))->(J2.length<=1000)->(∀(d:Addr) (L:Zb) (H':Hp),H' d=some (.dK (aY L))->L.Nodup->(∀w,w∈L↔Reach ds room w)->H d=none->ab H H'->Q (.ref d) H')->zO  vs H Q E
structure Lx(H0 H:Hp)(ds:List ao)(room:Str)(d w:Addr)(L W:Zb)(open_:Str->Prop):Prop where
 d:H d=some (.dK (aY L))
 w:H w=some (.lst (W.map V.str))
 same:ab H0 H
 nd:L.Nodup
 sound:∀y∈L,Reach ds room y
 wait:∀y∈W,y=room∨y∈L
 closed:∀y,(y=room∨y∈L)->y∉W->¬open_ y->∀c∈bF ds (y,aF),c∈L
theorem tG{K:Za}{st:Addr}(bn:∀H,bP K H st (aF.map V.str))(h:zO vs H Q E):uK K st (bo Q) (start vS vs) H:=by
 obtain⟨g,room,ps,ds,t,rfl,G,bu,hz,k⟩:=h;refine fun d hd=>?_;refine⟨_,rfl,(by show 1<=aj;decide),fun w hw=>?_⟩;have aC:H w=none:=(ab.new hd).free hw;have Y:d≠w:=ae aa hw;refine⟨fun m σ C=>∃(L W:Zb) (x y:Option V),σ=[some (.ref g),some (.str room),some (.ref d),some (.ref w),x,y]/\Lx H C ds room d w L W (fun _=>False)/\m=2 * (t.length-L.length)+W.length/\m<=2 * t.length+1,
  ⟨_,[],[room],_,_,rfl,⟨kp aa hw,aa,(ab.new hd).trans (ab.new hw),uC,by simp,by simp,?_⟩,rfl,aD _⟩,?_⟩
 ·intro y hy T;rcases hy with rfl|hy
  ·simp at T
  ·cases hy
 rintro m σ H1 ⟨L,W,x4,x5,rfl,D,rfl,hbound⟩;have U:∀{l:Zb},l.Nodup->(∀y∈l,Reach ds room y)->l.length<=t.length:=fun nd sd=>mZ nd fun y hy=>(sd y hy).in_ bu;refine⟨_,rfl,.inl ⟨w,_,rfl,.inl (aw.of D.w),_,_,rfl,rfl,_,rfl,?_⟩⟩;refine i7 (fun B=>?_) (fun B=>?_)
 ·have a0:W≠[]:=by
   intro z;rw[z]at B;exact absurd (of_decide_eq_true B) (by decide)
  obtain⟨s,f,rfl⟩:∃s f,W=s++[f]:=⟨W.dropLast,W.getLast a0,(List.dropLast_concat_getLast a0).symm⟩;have al:f=room∨f∈L:=D.wait f (by simp);refine⟨fun σ' C=>∃(l n:Zb) (x y:Option V),σ'=[some (.ref g),some (.str room),some (.ref d),some (.ref w),x,y]/\Lx H C ds room d w l n (fun _=>False)/\2 * (t.length-l.length)+n.length<2 * (t.length-L.length)+(s++[f]).length,
   fun σ' C ⟨l,n,x,y,e,D',hm⟩=>⟨_,hm,l,n,x,y,e,D',rfl,by omega⟩,?_⟩
  have an:((s++[f]).map V.str)[((s++[f]).map V.str).length-1]?=some (.str f):=by simp
  have ap:((s++[f]).map V.str).dropLast=s.map V.str:=by rw[av];simp
  refine⟨_,rfl,.inl ⟨rfl,_,aw.of D.w⟩,w,_,_,rfl,rfl,D.w,an,?_⟩;rw[ap];have a4:upd H1 w (.lst (s.map V.str)) d=some (.dK (aY L)):=by rw[ai Y];exact D.d
  have a5:upd H1 w (.lst (s.map V.str)) w=some (.lst (s.map V.str)):=aa;have S1:ab H (upd H1 w (.lst (s.map V.str))):=fun b o q=>by rw[ai (ae q aC)];exact D.same _ _ q
  generalize upd H1 w (.lst (s.map V.str))=H2 at a4 a5 S1 ⊢;have G2:=G.same S1;refine⟨_,rfl,g,rfl,.inr ⟨_,.inl G2.g⟩,_,rfl,(by show 2<=aj;decide),fun kt a6=>⟨(by show 0<=aj;decide),fun et as=>⟨be (eB v4 ps) (v4 (f,aF)),.inr ⟨_,v4 (f,aF),kt,.inl ?_,rfl,?_,nJ _,rfl⟩,?_⟩⟩⟩
  ·exact kp (kp G2.g a6) as
  ·unfold v4 n6;refine⟨kt,_,rfl,bP.of (kp aa as),?_⟩;unfold TKIns;refine⟨_,_,rfl,?_,?_⟩
   ·unfold p7 n6;rfl
   unfold TKIns;refine⟨_,_,rfl,?_,?_⟩
   ·unfold eT n6;refine⟨st,_,rfl,bn _,?_⟩;unfold aF;show TKIns K _ [p7 _] [V.str _];unfold TKIns;refine⟨_,_,rfl,?_,?_⟩
    ·unfold p7 n6;rfl
    unfold TKIns;rfl
   unfold TKIns;rfl
  have S3:ab H2 (upd (upd H2 kt (.tup [.str f,.ref st])) et (.tup [])):=(ab.new a6).trans (ab.new as);have I:upd (upd H2 kt (.tup [.str f,.ref st])) et (.tup []) et=some (.tup []):=aa;generalize upd (upd H2 kt (.tup [.str f,.ref st])) et (.tup [])=H3 at S3 I ⊢;have D3:Lx H H3 ds room d w L s (fun y=>y=f):=⟨S3 _ _ a4,S3 _ _ a5,S1.trans S3,D.nd,D.sound,fun y hy=>D.wait y (em _ hy),fun y hy T ho=>D.closed y hy (fun z=>by rcases bM.mp z with z|z;exact T z;exact ho (by simpa using z)) (fun z=>z)⟩;have a7:2 * (t.length-L.length)+s.length<2 * (t.length-L.length)+(s++[f]).length:=by rw[ba];show _<_+(_+1);omega
  have a8:∀(H4:Hp) (l n:Zb) (x y:Option V),Lx H H4 ds room d w l n (fun y=>y=f)->(∀c∈bF ds (f,aF),c∈l)->2 * (t.length-l.length)+n.length<2 * (t.length-L.length)+(s++[f]).length ->
    ∃(l n:Zb) (x' y':Option V),[some (V.ref g),some (.str room),some (.ref d),some (.ref w),x,y]=[some (.ref g),some (.str room),some (.ref d),some (.ref w),x',y']/\Lx H H4 ds room d w l n (fun _=>False)/\2 * (t.length-l.length)+n.length<2 * (t.length-L.length)+(s++[f]).length:=by
   intro H4 l n x y p hc hm;refine⟨l,n,x,y,rfl,⟨p.d,p.w,p.same,p.nd,p.sound,p.wait,fun y hy T _=>?_⟩,hm⟩;by_cases e:y=f
   ·rw[e];exact hc
   ·exact p.closed y hy T e
  by_cases J:(f,aF)∈ps.map (·.1)
  ·obtain⟨⟨r,a⟩,a9,er⟩:=aS.mp J;obtain rfl:r=(f,aF):=er;rw[fF i6 G.nd a9];have bc:=G.ls _ a9;refine⟨a,rfl,.inl ⟨⟨_,aw.of ((S1.trans S3) _ _ bc)⟩,?_⟩⟩;refine bR (xs:=(bF ds (f,aF)).map V.str) (fun j σ C=>∃(l n:Zb) (y:Option V),σ=[some (.ref g),some (.str room),some (.ref d),some (.ref w),some (.str f),y]/\Lx H C ds room d w l n (fun y=>y=f)/\(f=room∨f∈l)/\(∀c∈(bF ds (f,aF)).take j,c∈l) /\
     2 * (t.length-l.length)+n.length<2 * (t.length-L.length)+(s++[f]).length)
    ⟨L,s,_,rfl,D3,al,by simp,a7⟩ (fun j σ C _ ⟨_,_,_,_,D',_⟩=>aw.of (D'.same _ _ bc)) ?_ ?_
   ·rintro j x σ H4 hj ⟨l,n,y,rfl,p,hh,hc,hm⟩;obtain⟨i,u,rfl⟩:=bJ hj;have v:(⟨f,aF,i⟩:ao)∈ds:=e_.mp (bU u);have O:Reach ds room i:=by
     rcases hh with hh|hh
     ·rw[hh]at v;exact .one v
     ·exact .step (p.sound _ hh) v
    have bw:=U p.nd p.sound;refine⟨_,rfl,_,rfl,d,_,rfl,.inl ⟨_,.inr i,.inl p.d,rfl,rfl⟩,_,rfl,?_⟩;rw[fG];by_cases c:i∈l
    ·rw[zzr1 c];refine bD ⟨l,n,_,rfl,p,hh,?_,hm⟩;intro c' A;rw[take_snoc u]at A;rcases bM.mp A with h|h
     ·exact hc c' h
     ·have:c'=i:=by simpa using h
      rw[this];exact c
    ·rw[zzr0 c];refine bT ?_;have bd:(l++[i]).Nodup:=by
      rw[dw];refine⟨p.nd,by simp,fun a ha b hb e=>?_⟩;have:b=i:=by simpa using hb
      exact c (by rw[<-this,<-e];exact ha)
     have bi:∀y∈l++[i],Reach ds room y:=by
      intro y hy;rcases bM.mp hy with hy|hy
      ·exact p.sound y hy
      ·have:y=i:=by simpa using hy
       rw[this];exact O
     have M:=U bd bi;rw[ba]at M;have bz:l.length+1<=t.length:=M;have bI:n.length<=9000:=by omega
     refine⟨_,rfl,_,rfl,d,_,rfl,.inl ⟨_,.inr i,p.d,rfl,aq (aB (lO _) (by omega)),rfl⟩,?_⟩;have bm:upd H4 d (.dK (dq (aY l) (.inr i) (.bl true))) w=some (.lst (n.map V.str)):=by rw[ai Y.symm];exact p.w
     refine⟨_,rfl,.inl ⟨rfl,_,aw.of bm⟩,_,rfl,w,_,_,rfl,rfl,bm,by rw[ah];exact ib bI,l++[i],n++[i],_,rfl,⟨?_,?_,?_,bd,bi,?_,?_⟩,?_,?_,?_⟩
     ·rw[ai Y,aa,dQ]
     ·rw[aa,av];rfl
     ·intro b o q;rw[ai (ae q aC),ai (ae q hd)];exact p.same _ _ q
     ·intro y hy;rcases bM.mp hy with hy|hy
      ·rcases p.wait y hy with h|h
       ·exact .inl h
       ·exact .inr (em _ h)
      ·exact .inr (eU _ hy)
     ·intro y hy T ho c' A;have bS:y∉n:=fun z=>T (em _ z);have b1:y≠i:=fun z=>T (eU _ (by simp[z]));refine em _ (p.closed y ?_ bS ho c' A);rcases hy with hy|hy
      ·exact .inl hy
      ·rcases bM.mp hy with hy|hy
       ·exact .inr hy
       ·exact absurd (by simpa using hy) b1
     ·rcases hh with h|h
      ·exact .inl h
      ·exact .inr (em _ h)
     ·intro c' A;rw[take_snoc u]at A;rcases bM.mp A with h|h
      ·exact em _ (hc c' h)
      ·exact eU _ h
     ·rw[ba,ba];show 2 * (t.length-(l.length+1))+(n.length+1)<_;omega
   ·rintro σ H4 ⟨l,n,y,rfl,p,hh,hc,hm⟩;rw[ah,bf]at hc;exact a8 H4 l n _ _ p hc hm
  ·rw[nN i6 J];refine⟨et,rfl,.inr ⟨⟨_,bP.of I⟩,?_⟩⟩;have N:bF ds (f,aF)=[]:=m9 fun x hx z=>J (by rw[<-z];exact G.all x hx);refine EZ (xs:=[]) (fun j σ C=>σ=[some (.ref g),some (.str room),some (.ref d),some (.ref w),some (.str f),x5]/\C=H3) ⟨rfl,rfl⟩ (fun j σ C _ ⟨_,e⟩=>by rw[e];exact bP.of I) (fun j x σ C hj=>by cases hj) ?_;rintro σ C ⟨rfl,rfl⟩;exact a8 _ L s _ _ D3 (by rw[N];simp) a7
 ·have N:W=[]:=by
   cases W with
   |nil=>rfl
   |cons a W=>exact absurd (zzr1 (by rw[ah,fS];omega)) B
  subst N;refine⟨_,rfl,k d L H1 D.d D.nd (fun w=>⟨D.sound w,fun hr=>?_⟩) hd D.same⟩
  induction hr with
  |one h=>exact D.closed room (.inl rfl) (by simp) (fun z=>z) _ (e_.mpr h)
  |step r h ih=>exact D.closed _ (.inr ih) (by simp) (fun z=>z) _ (e_.mpr h)
inductive sp_first_led_round (vs:List V)(H:Hp)(Q:VK)(E:XK):Prop
 |mk (l3 d:Addr) (J2:Zb) (ps:List (Str×Addr)):(vs=[.ref l3,.ref d])->(H l3=some (.lst (J2.map V.str)))->(H d=some (.dK (eB Sum.inr ps)))->(ps.map (·.1)=J2)->(J2.Nodup)->((∀x∈ps,∃L,H x.2=some (.dK (aY L))/\x.1∉L))->(∀H',ab H H'->Q .non H')->sp_first_led_round  vs H Q E
theorem o8{K:Za}(h:sp_first_led_round q H Q E):pN K (bo Q) (start qJ q) H:=by
 obtain⟨o,d,s,u,rfl,p,v,f,m,z,k⟩:=h;refine⟨_,rfl,o,rfl,⟨_,aw.of p⟩,?_⟩;refine m_ (xs:=s.map V.str) (fun i σ e=>∃x y,σ=[some (.ref o),some (.ref d),x,y]/\ab H e) ⟨_,_,rfl,ab.refl H⟩ (fun i σ e _ ⟨_,_,_,S⟩=>aw.of (S _ _ p)) ?_ ?_
 ·rintro i x σ e t A ⟨I,J,rfl,S⟩ B;obtain⟨w,C,rfl⟩:=bJ A;refine⟨t,_,rfl,bP.of aa,rfl,_,_,rfl,_,_,rfl,rfl,?_⟩;have l:ab H (upd e t (.tup [.int i,.str w])):=S.trans (ab.new B);generalize upd e t (.tup [.int i,.str w])=M at l ⊢;have g:w∈u.map (·.1):=by rw[f];exact bU C
  obtain⟨⟨r,a⟩,j,D⟩:=aS.mp g;obtain rfl:r=w:=D;obtain⟨L,n,G⟩:=z _ j;refine⟨_,rfl,_,rfl,_,rfl,d,.ref a,rfl,.inl ⟨_,.inr r,.inl (l _ _ v),rfl,(fF jW (by rw[f];exact m) j).symm⟩,a,_,rfl,.inl ⟨_,.inr r,.inl (l _ _ n),rfl,rfl⟩,_,rfl,?_⟩;rw[fG,zzr0 G];exact bD ⟨_,_,rfl,l⟩
 ·rintro σ e ⟨x,y,rfl,S⟩;exact k e S
abbrev lk(f:Str)(fs:List (Str×V)):Option V:=fs.lookup f
def gU(ds:List ao)(r:Str):Bool:=(cK ds r).all m8
structure bV(C:Addr)(H:Hp)(x:Addr)(J0 J1 J2:Zb)(ds:List ao):Prop where
 at_:∃(dx:Addr) (fs:List (Str×V)) (o1 o2 o3 o4 lv qu sg sl:Addr) (ts:Ze) (lps:List (Str×Addr)) (gps:List ((Str×List Str)×Addr)) (sps:List (Str×Addr)),
  H x=some (.ins C dx fs)/\lk "is_quiet" fs=none/\lk "goals" fs=none/\lk "led_from" fs=none/\lk "rooms" fs=none /\
  lk "own_asks" fs=some (.ref o1)/\lk "own_says" fs=some (.ref o2)/\lk "own_rooms" fs=some (.ref o3)/\lk "own_doors" fs=some (.ref o4) /\
  lk "leaving" fs=some (.ref lv)/\lk "quiet" fs=some (.ref qu)/\lk "sign_goals" fs=some (.ref sg)/\lk "still_led" fs=some (.ref sl) /\
  Lists H o1 o2 o3 o4 ts J0 J1 J2 ds /\
  lps.map (·.1)=J2/\H lv=some (.dK (eB Sum.inr lps))/\(∀x∈lps,∃us,H x.2=some (.lst (us.map V.ref))/\c6 H us (cK ds x.1)) /\
  H qu=some (.dK (aY (J2.filter (gU ds))))/\jZ H sg gps ds /\
  sps.map (·.1)=J2/\H sl=some (.dK (eB Sum.inr sps))/\(∀x∈sps,∃L,H x.2=some (.dK (aY L))/\L.Nodup/\∀w,w∈L↔Reach ds x.1 w)
 ok:aQ J0 J1 J2 ds
 more:∃(dx:Addr) (fs:List (Str×V)),H x=some (.ins C dx fs)/\lk "asks" fs=none/\lk "says" fs=none/\lk "doors" fs=none/\lk "doors_from" fs=none
theorem du(f:Str)(v:V):∀fs:List (Str×V),(cR f v fs).length<=fs.length+1
 |[]=>aD _
 | (g,x)::r=>by
  unfold cR;split
  ·exact rh _
  ·rw[fS,fS];have:=du f v r;omega
theorem vi:∀(a qs:List (Str×Addr)),((qs++a).map (·.1)).Nodup->kh (eB Sum.inr qs) (eB Sum.inr a)=eB Sum.inr (qs++a)
 |[],qs,_=>by rw[dO];rfl
 |p::a,qs,g=>by
  show kh (dq (eB Sum.inr qs) (Sum.inr p.1) (.ref p.2)) (eB Sum.inr a)=_;have e:qs++p::a=(qs++[p])++a:=by simp
  rw[e]at g ⊢;have f:p.1∉qs.map (·.1):=by
   rw[av,av,dw]at g;have:=g.1;rw[dw]at this;intro z;exact this.2.2 _ z _ (by simp) rfl
  rw[iI _ (nN jW f)];have:=vi a (qs++[p]) g;rw[<-this];have h:eB (Sum.inr:Str->fR) (qs++[p])=eB Sum.inr qs++[(Sum.inr p.1,V.ref p.2)]:=by
   unfold eB;rw[av];rfl
  rw[h]
inductive tV(C:Addr)(vs:List V)(H:Hp)(Q:VK)(E:XK):Prop
 |mk (x dx l1 l2 l3 l4:Addr) (ts:Ze) (J0 J1 J2:Zb) (ds:List ao):(vs=[.ref x,.ref l1,.ref l2,.ref l3,.ref l4])->(H x=some (.ins C dx []))->(Lists H l1 l2 l3 l4 ts J0 J1 J2 ds)->(aQ J0 J1 J2 ds)->(∀H',bV C H' x J0 J1 J2 ds->bA x H H'->Q .non H')->tV C vs H Q E
theorem Lists.exI{H f:Hp}{x C r:Addr}{fs:List (Str×V)}{g i l3 j:Addr}{k:Ze}{l m n:Zb}{o:List ao}(h:Lists H g i l3 j k l m n o)(p:H x=some (.ins C r fs))(e:bA x H f):Lists f g i l3 j k l m n o:=by
 have ne:∀{b:Addr}{q:List V},H b=some (.lst q)->b≠x:=fun a z=>by rw[z,p]at a;cases a
 exact⟨e _ _ h.a1 (ne h.a1),e _ _ h.a2 (ne h.a2),e _ _ h.a3 (ne h.a3),e _ _ h.a4 (ne h.a4),h.ds.kt fun b q a=>e _ _ a fun z=>by rw[z,p]at a;cases a⟩
theorem bA.ktI{C f:Addr}{fs:List (Str×V)}(e:bA x H g)(h:H x=some (.ins C f fs)):gF H g:=fun b i a=>e _ _ a fun z=>by rw[z,h]at a;cases a
theorem bA.neI{H:Hp}{x C e:Addr}{fs:List (Str×V)}(f:H x=some (.ins C e fs)){b:Addr}{g:List V}(a:H b=some (.lst g)):b≠x:=fun z=>by rw[z,f]at a;cases a
theorem H_{H:Hp}{x C f:Addr}{fs:List (Str×V)}(g:H x=some (.ins C f fs)){b:Addr}{a:List (fR×V)}(e:H b=some (.dK a)):b≠x:=fun z=>by rw[z,g]at e;cases e
theorem Kz{H:Hp}{x C f:Addr}{fs:List (Str×V)}(g:H x=some (.ins C f fs)){b:Addr}{a:List (TK×V)}(e:H b=some (.dT a)):b≠x:=fun z=>by rw[z,g]at e;cases e
structure MC(K:Za)(C:Addr):Prop where
 cls:Cu K C
 a1:cZ K C "own_asks"
 a2:cZ K C "own_says"
 a3:cZ K C "own_rooms"
 a4:cZ K C "own_doors"
 a5:cZ K C "leaving"
 a6:cZ K C "quiet"
 a7:cZ K C "sign_goals"
 a8:cZ K C "still_led"
theorem ng{H:Hp}{x C a:Addr}{fs:List (Str×V)}(f:Str)(y:V)(g:H x=some (.ins C a fs)):∃e,e=upd H x (.ins C a (cR f y fs))/\e x=some (.ins C a (cR f y fs))/\bA x H e :=
 ⟨_,rfl,aa,bA.upd _ _ _⟩
theorem cw{p:Str->Bool}{a:Zb}{i:Nat}{w:Str}(h:a[i]?=some w):(a.take (i+1)).filter p=(a.take i).filter p++(if p w=true then[w]else[]):=by
 rw[take_snoc h,iP];congr 1;by_cases c:p w=true
 ·rw[if_pos c];simp[c]
 ·rw[if_neg c];simp[c]
theorem Dw(a:List ao)(r:Str):(cK a r).length<=a.length:=cQ _ _
theorem aQ.sg0(m:aQ g h i a):∀d∈cK a r,d.sg≠[]:=by
 intro d f;have:=m.good d (fU.mp f).1;rcases this.sg with⟨w,_,e⟩|⟨w,_,e⟩|e<;>rw[e]<;>exact List.cons_ne_nil _ _
theorem Jz{K:Za}(M:MC K C)(h:tV C D H Q E):
  oU K sp_need_none sp_first_led_round zO pW (sp_as_keys K) sp_has_asks_alone sp_doors_by_start sp_need_parts (bo Q) (start pq D) H:=by
 obtain⟨x,G,l1,l2,l3,l4,ts,J0,J1,I,ds,rfl,hx,L,m,k⟩:=h;have z3:=m.rooms26;have z4:=m.few;refine⟨_,rfl,_,rfl,_,rfl,_,rfl,l1,l2,l3,l4,ts,J0,J1,I,ds,rfl,L,m,fun H1 S1=>?_⟩;have a0:=S1 _ _ hx;have L1:=L.same S1;have E1:bA x H H1:=ab.exB S1;refine⟨_,rfl,.inl ⟨l1,_,rfl,.inl (aw.of L1.a1),fun o1 a9=>⟨_,rfl,x,C,G,_,rfl,kp a0 a9,M.cls,M.a1,(by show 0<1000;decide),?_⟩⟩⟩;obtain⟨H2,e2,bc,F2⟩:=ng "own_asks" (.ref o1) (kp (x:=.lst (J0.map V.str)) a0 a9);rw[<-e2];have n1:o1≠x:=(ae a0 a9).symm;have f1:=F2 _ _ aa n1;have E2:bA x H1 H2:=(bA.new a9).trans F2;have cc:=L1.exI a0 E2;have dn:(cR ("own_asks":Str) (.ref o1) []).length<=1:=du _ _ _;clear e2 F2;refine⟨_,rfl,.inl ⟨l2,_,rfl,.inl (aw.of cc.a2),fun o2 bd=>⟨_,rfl,x,C,G,_,rfl,kp bc bd,M.cls,M.a2,by omega,?_⟩⟩⟩;obtain⟨H3,e3,bi,F3⟩:=ng "own_says" (.ref o2) (kp (x:=.lst (J1.map V.str)) bc bd);rw[<-e3];have n2:o2≠x:=(ae bc bd).symm;have f2:=F3 _ _ aa n2;have E3:bA x H2 H3:=(bA.new bd).trans F3;have L3:=cc.exI bc E3;have dp:=du ("own_says":Str) (.ref o2) (cR ("own_asks":Str) (.ref o1) []);clear e3 F3;refine⟨_,rfl,.inl ⟨l3,_,rfl,.inl (aw.of L3.a3),fun o3 bl=>⟨_,rfl,x,C,G,_,rfl,kp bi bl,M.cls,M.a3,by omega,?_⟩⟩⟩;obtain⟨H4,e4,bm,F4⟩:=ng "own_rooms" (.ref o3) (kp (x:=.lst (I.map V.str)) bi bl);rw[<-e4];have n3:o3≠x:=(ae bi bl).symm;have f3:=F4 _ _ aa n3;have E4:bA x H3 H4:=(bA.new bl).trans F4;have L4:=L3.exI bi E4;have dr:=du ("own_rooms":Str) (.ref o3) (cR ("own_says":Str) (.ref o2) (cR ("own_asks":Str) (.ref o1) []));clear e4 F4;refine⟨_,rfl,.inl ⟨l4,_,rfl,.inl (aw.of L4.a4),fun o4 bn=>⟨_,rfl,x,C,G,_,rfl,kp bm bn,M.cls,M.a4,by omega,?_⟩⟩⟩;obtain⟨H5,e5,n,F5⟩:=ng "own_doors" (.ref o4) (kp (x:=.lst (ts.map V.ref)) bm bn);rw[<-e5];have n4:o4≠x:=(ae bm bn).symm;have f4:=F5 _ _ aa n4;have E5:bA x H4 H5:=(bA.new bn).trans F5;have L5:=L4.exI bm E5;generalize b1:cR ("own_doors":Str) (.ref o4) (cR ("own_rooms":Str) (.ref o3) (cR ("own_says":Str) (.ref o2) (cR ("own_asks":Str) (.ref o1) [])))=s at n;have dv:s.length<=4:=by
  rw[<-b1];have:=du ("own_doors":Str) (.ref o4) (cR ("own_rooms":Str) (.ref o3) (cR ("own_says":Str) (.ref o2) (cR ("own_asks":Str) (.ref o1) [])));omega
 clear e5 F5;refine⟨_,rfl,_,rfl,l3,l4,ts,I,ds,rfl,L5.a3,L5.a4,L5.ds,m.okR.1,by omega,by omega,fun d hd=>(m.good d hd).a,fun O bu d0 T U b2 S6=>⟨_,rfl,x,C,G,s,rfl,S6 _ _ n,M.cls,M.a5,by omega,?_⟩⟩;obtain⟨H6,e6,u,F6⟩:=ng "leaving" (.ref O) (S6 _ _ n);rw[<-e6];have E6:bA x H5 H6:=(ab.exB S6).trans F6;have L6:=L5.exI n E6;have b3:=F6 _ _ U (H_ (S6 _ _ n) U);have cd:∀y∈bu,∃A,H6 y.2=some (.lst (A.map V.ref))/\c6 H6 A (cK ds y.1):=fun y hy=>by
  obtain⟨A,J,g2⟩:=b2 y hy;exact⟨A,F6 _ _ J (bA.neI (S6 _ _ n) J),g2.kt (F6.ktI (S6 _ _ n))⟩
 have ct:(bu.map (·.1)).Nodup:=by rw[T];exact m.okR.1
 have dy:=du ("leaving":Str) (.ref O) s;have cv:lk "leaving" (cR ("leaving":Str) (.ref O) s)=some (.ref O):=by
  show fL _ _=_;rw[aV,if_pos rfl]
 clear e6 F6 U b2;refine⟨_,rfl,l3,rfl,⟨_,aw.of L6.a3⟩,fun f hf=>?_⟩;refine bY (xs:=I.map V.str) (fun i D H'=>D=((I.take i).filter (gU ds)).map V.str/\ab H6 H'/\H' f=some (.lst D)) ⟨rfl,ab.new hf,aa⟩ (fun i D H' _ ⟨_,S,h'⟩=>⟨h',aw.of (S _ _ L6.a3)⟩) ?_ ?_;rotate_left
 ·rintro i D H' x' b4 hi ⟨rfl,S,f'⟩;obtain⟨r,hr,rfl⟩:=bJ b4;obtain⟨⟨r',a⟩,ce,er⟩:=aS.mp (show r∈bu.map (·.1) by rw[T];exact bU hr);obtain rfl:r'=r:=er;obtain⟨A,c0,c1⟩:=cd _ ce;refine gN ?_;refine⟨_,rfl,x,C,G,_,.ref O,rfl,S _ _ u,M.cls,M.a5,cv,_,rfl,O,.ref a,rfl,.inl ⟨_,.inr r',.inl (S _ _ b3),rfl,(fF jW ct ce).symm⟩,a,A,cK ds r',rfl,S _ _ c0,c1.kt (ab.kt S),aB (Dw _ _) (by omega),m.sg0,fun bw l=>⟨_,rfl,?_⟩⟩;have cf:(((I.take i).filter (gU ds)).map V.str).length<aj:=by
   rw[ah];refine aq (aB (cQ _ _) ?_);rw[aJ];omega
  refine i7 (fun hq=>?_) (fun hq=>?_)
  ·refine⟨_,rfl,l _ _ f',cf,mY hi ⟨?_,?_,aa⟩⟩
   ·rw[cw hr,if_pos (show gU ds r'=true from hq),av];rfl
   ·intro b o q;rw[ai (ae q hf)];exact l _ _ (S _ _ q)
  ·refine mY hi ⟨?_,S.trans l,?_⟩
   ·rw[cw hr,if_neg (show ¬gU ds r'=true from hq),dO]
   ·exact l _ _ f'
 rintro D d1 ⟨rfl,S7,f7⟩;rw[ah,bf]at f7;refine rY (ws:=I.filter (gU ds)) (aw.of f7) (aB (cQ _ _) (by omega)) fun qu bz=>⟨_,rfl,x,C,G,_,rfl,kp (S7 _ _ u) bz,M.cls,M.a6,by omega,?_⟩;obtain⟨H7,e7,al,F7⟩:=ng "quiet" (.ref qu) (kp (x:=.dK (aY (I.filter (gU ds)))) (S7 _ _ u) bz);rw[<-e7];have n7:qu≠x:=(ae (S7 _ _ u) bz).symm;have c2:=F7 _ _ aa n7;have E7:bA x H6 H7:=((ab.exB S7).trans (bA.new bz)).trans F7;have L7:=L6.exI u E7;have dT:=du ("quiet":Str) (.ref qu) (cR ("leaving":Str) (.ref O) s);clear e7 F7;refine⟨_,rfl,l4,ts,ds,rfl,L7.a4,L7.ds,by omega,fun sg b5 d2 G' S8=>⟨_,rfl,x,C,G,_,rfl,S8 _ _ al,M.cls,M.a7,by omega,?_⟩⟩;obtain⟨H8,e8,v,F8⟩:=ng "sign_goals" (.ref sg) (S8 _ _ al);rw[<-e8];have E8:bA x H7 H8:=(ab.exB S8).trans F8;have L8:=L7.exI al E8;have G8:jZ H8 sg b5 ds:=⟨G'.nd,F8 _ _ G'.g (Kz (S8 _ _ al) G'.g),fun y hy=>F8 _ _ (G'.ls y hy) (bA.neI (S8 _ _ al) (G'.ls y hy)),G'.all⟩;have dV:=du ("sign_goals":Str) (.ref sg) (cR ("quiet":Str) (.ref qu) (cR ("leaving":Str) (.ref O) s));have c3:lk "sign_goals" (cR ("sign_goals":Str) (.ref sg) (cR ("quiet":Str) (.ref qu) (cR ("leaving":Str) (.ref O) s)))=some (.ref sg):=by
  show fL _ _=_;rw[aV,if_pos rfl]
 clear e8 F8 G';refine⟨_,rfl,l3,rfl,⟨_,aw.of L8.a3⟩,fun bI ch=>?_⟩;refine bY (xs:=I.map V.str) (fun i D H'=>Mz fun(A:Ze) (pl:List (Str×Addr))=>MB (D=A.map V.ref) (Paired (fun t (p:Str×Addr)=>H' t=some (.tup [.str p.1,.ref p.2])) A pl) (pl.map (·.1)=I.take i) ((∀p∈pl,∃L,H' p.2=some (.dK (aY L))/\L.Nodup/\∀w,w∈L↔Reach ds p.1 w)) (ab H8 H') (H' bI=some (.lst D)))
  ⟨[],[],rfl,.nil,rfl,by simp,ab.new ch,aa⟩ (fun i D H' _ ⟨_,_,_,_,_,_,S,h'⟩=>⟨h',aw.of (S _ _ L8.a3)⟩) ?_ ?_
 rotate_left
 ·rintro i D H' x' b4 hi ⟨A,pl,rfl,an,ci,c4,S,f'⟩;obtain⟨r,hr,rfl⟩:=bJ b4;have c5:A.length<=150:=by
   rw[Paired.length an,<-ah (f:=(·.1)) (as:=pl),ci,aJ];omega
  refine gN (pL ?_);refine⟨_,rfl,_,rfl,x,C,G,_,.ref sg,rfl,S _ _ v,M.cls,M.a7,c3,_,rfl,sg,r,b5,ds,I,rfl,G8.same S,fun d hd=>(m.good d hd).b,by omega,fun ld Lr bw c8 nd dc d3 l=>⟨(by show 2<=aj;decide),fun t ht=>⟨?_,?_,mY hi ⟨A++[t],pl++[(r,ld)],?_,?_,?_,?_,?_,aa⟩⟩⟩⟩
  ·exact kp (l _ _ f') ht
  ·rw[ah];exact aq (by omega)
  ·rw[av];rfl
  ·have KT:gF (upd bw t (.tup [.str r,.ref ld])) (upd (upd bw t (.tup [.str r,.ref ld])) bI (.lst (A.map V.ref++[.ref t]))):=fg (kp (l _ _ f') ht);exact Paired.app (Paired.mapP an fun t' p' e=>KT _ _ (kp (l _ _ e) ht)) (.cons (KT _ _ aa) .nil)
  ·rw[av,ci,take_snoc hr];rfl
  ·have cl:∀{b:Addr}{dd:List (fR×V)},upd bw t (.tup [.str r,.ref ld]) b=some (.dK dd)->b≠bI:=fun hb z=>by rw[z,kp (l _ _ f') ht]at hb;cases hb
   intro p hp;rcases bM.mp hp with hp|hp
   ·obtain⟨L0,J,g2⟩:=c4 p hp;refine⟨L0,?_,g2⟩;have:=kp (x:=.tup [.str r,.ref ld]) (l _ _ J) ht;rw[ai (cl this)];exact this
   ·have:p=(r,ld):=by simpa using hp
    subst this;refine⟨Lr,?_,nd,dc⟩;have:=kp (x:=.tup [.str r,.ref ld]) c8 ht;rw[ai (cl this)];exact this
  ·intro b o q;rw[ai (ae q ch)];exact kp (l _ _ (S _ _ q)) ht
 rintro D d4 ⟨A,sps,rfl,an,B,cm,S9,f9⟩;rw[ah,bf]at B;have dg:(sps.map (·.1)).Nodup:=by rw[B];exact m.okR.1
 refine⟨bI,A,eB Sum.inr sps,rfl,aw.of f9,?_,?_,fun sl N=>⟨_,rfl,x,C,G,_,rfl,kp (S9 _ _ v) N,M.cls,M.a8,by omega,?_⟩⟩
 ·rw[Paired.length an];unfold eB;rw[ah]
 ·intro j t kv hj b6;obtain⟨p,hp,e⟩:=Paired.getL an hj;unfold eB at b6;rw[cH,hp]at b6;have:=fM b6;rw[<-this];exact e
 have bS:kh [] (eB Sum.inr sps)=eB Sum.inr sps:=vi sps [] dg;rw[bS];obtain⟨H9,e9,b7,F9⟩:=ng "still_led" (.ref sl) (kp (x:=.dK (eB Sum.inr sps)) (S9 _ _ v) N);rw[<-e9];have n9:sl≠x:=(ae (S9 _ _ v) N).symm;have co:=F9 _ _ aa n9;have E9:bA x H8 H9:=((ab.exB S9).trans (bA.new N)).trans F9;have L9:=L8.exI v E9;have ap:∀p∈sps,∃L,H9 p.2=some (.dK (aY L))/\L.Nodup/\∀w,w∈L↔Reach ds p.1 w:=fun p hp=>by
  obtain⟨L0,J,g2⟩:=cm p hp;have g3:=kp (x:=.dK (eB Sum.inr sps)) J N;exact⟨L0,F9 _ _ g3 (H_ (kp (S9 _ _ v) N) g3),g2⟩
 clear e9 F9;have cp:lk "still_led" (cR ("still_led":Str) (.ref sl) (cR ("sign_goals":Str) (.ref sg) (cR ("quiet":Str) (.ref qu) (cR ("leaving":Str) (.ref O) s))))=some (.ref sl):=by
  show fL _ _=_;rw[aV,if_pos rfl]
 refine⟨_,rfl,_,rfl,x,C,G,_,.ref sl,rfl,b7,M.cls,M.a8,cp,l3,sl,I,sps,rfl,L9.a3,co,B,m.okR.1,fun p hp=>?_,fun cs aC=>⟨_,rfl,k cs ?_ ?_⟩⟩
 ·obtain⟨L0,J,g2,g3⟩:=ap p hp;exact⟨L0,J,fun z=>m.noround _ ((g3 _).mp z)⟩
 ·have b8:bA x H6 H9:=(E7.trans E8).trans E9;have di:=((E6.trans E7).trans E8).trans E9;have Y:∀{b:Addr}{o:HO},H9 b=some o->cs b=some o:=fun h=>aC _ _ h;have LL:Lists H5 o1 o2 o3 o4 ts J0 J1 I ds:=⟨(E3.trans (E4.trans E5)) _ _ f1 n1,(E4.trans E5) _ _ f2 n2,E5 _ _ f3 n3,f4,L5.ds⟩;refine⟨⟨G,_,o1,o2,o3,o4,O,qu,sg,sl,ts,bu,b5,sps,Y b7,?_,?_,?_,?_,?_,?_,?_,?_,?_,?_,?_,cp,(LL.exI n di).same aC,T,?_,?_,?_,?_,B,Y co,fun p hp=>?_⟩,m,⟨G,_,Y b7,?_,?_,?_,?_⟩⟩
  rotate_right 9
  ·exact Y (b8 _ _ b3 (H_ u b3))
  ·intro y hy;obtain⟨dm,J,g2⟩:=cd y hy;exact⟨dm,Y (b8 _ _ J (bA.neI u J)),(g2.kt (b8.ktI u)).kt (ab.kt aC)⟩
  ·exact Y ((E8.trans E9) _ _ c2 n7)
  ·exact jZ.same ⟨G8.nd,E9 _ _ G8.g (Kz v G8.g),fun y hy=>E9 _ _ (G8.ls y hy) (bA.neI v (G8.ls y hy)),G8.all⟩ aC
  ·obtain⟨L0,J,g2⟩:=ap p hp;exact⟨L0,Y J,g2⟩
  all_goals(show fL _ _=_;subst b1;repeat (rw[aV];first|rw[if_pos rfl] | rw[if_neg (by decide +kernel)]))
  all_goals rfl
 ·exact((((((((E1.trans E2).trans E3).trans E4).trans E5).trans E6).trans E7).trans E8).trans E9).trans (ab.exB aC)
theorem J8(a b:Str):decide (gE a=gE b)=decide (a=b):=by
 by_cases e:a=b
 ·rw[zzr1 e,zzr1 (by rw[e])]
 ·rw[zzr0 e,zzr0 (fun z=>e (p8 z))]
theorem bV.by{e:Hp}(h:bV C H x w z A B)
  (j:∀b s,H b=some (.lst (List.map V.str s))->e b=some (.lst (List.map V.str s))) (t:∀b k,H b=some (.lst (List.map V.ref k))->e b=some (.lst (List.map V.ref k))) (u:gF H e)
  (l:∀b a,H b=some (.dK a)->e b=some (.dK a)) (D:∀b a,H b=some (.dT a)->e b=some (.dT a)) (v:∀b C f fs,H b=some (.ins C f fs)->e b=some (.ins C f fs)):bV C e x w z A B:=by
 obtain⟨f,fs,E,I,J,M,N,O,Q,T,k,m,n,o,U,a1,a2,a3,Y,b1,b2,b3,b4,b5,b6,b7,b8,L,c1,c2,c3,c4,G,d1,d2,d3⟩:=h.at_;refine⟨⟨f,fs,E,I,J,M,N,O,Q,T,k,m,n,o,v _ _ _ _ U,a1,a2,a3,Y,b1,b2,b3,b4,b5,b6,b7,b8,⟨j _ _ L.a1,j _ _ L.a2,j _ _ L.a3,t _ _ L.a4,L.ds.kt u⟩,c1,l _ _ c2,fun y i=>?_,l _ _ c4,⟨G.nd,D _ _ G.g,fun y i=>j _ _ (G.ls y i),G.all⟩,d1,l _ _ d2,fun y i=>?_⟩,h.ok,by obtain⟨f,fs,g,r⟩:=h.more;exact⟨f,fs,v _ _ _ _ g,r⟩⟩
 ·obtain⟨us,p,q⟩:=c3 y i;exact⟨us,t _ _ p,q.kt u⟩
 ·obtain⟨L0,p,q⟩:=d3 y i;exact⟨L0,l _ _ p,q⟩
theorem bV.same(h:bV C H x a f g i)(S:ab H j):bV C j x a f g i :=
 h.by (fun _ _ e=>S _ _ e) (fun _ _ e=>S _ _ e) (ab.kt S) (fun _ _ e=>S _ _ e) (fun _ _ e=>S _ _ e) (fun _ _ _ _ e=>S _ _ e)
inductive jQ(C:Addr)(vs:List V)(H:Hp)(Q:VK)(E:XK):Prop
 |mk (x:Addr) (w:Str) (J0 J1 J2:Zb) (ds:List ao):(vs=[.ref x,.str w])->(bV C H x J0 J1 J2 ds)->(Q (.bl (decide (w∈J2.filter (gU ds)))) H)->jQ C vs H Q E
theorem Bj{K:Za}(M:MC K C)(h:jQ C e H Q E):oT K (bo Q) (start pp e) H:=by
 obtain⟨x,w,o,p,q,r,rfl,h,k⟩:=h;obtain⟨f,fs,s,t,u,v,y,a,z,A,B,g,i,j,l,a1,a2,a3,D,G,I,J,N,O,m,T,U,L,Y,c2,c3,n,_⟩:=h.at_;refine⟨_,rfl,_,rfl,x,C,f,fs,.ref a,rfl,l,M.cls,M.a6,m,a,_,rfl,.inl ⟨_,.inr w,.inl n,rfl,rfl⟩,?_⟩;rw[fG];exact k
def cC:List Str:=[("hush":Str)]
inductive lE(C:Addr)(vs:List V)(H:Hp)(Q:VK)(E:XK):Prop
 |mk (t l1 l2 l3 l4:Addr) (ts:Ze) (J0 J1 J2:Zb) (ds:List ao):(vs=[.ref t])->(hC H t l1 l2 l3 l4 ts J0 J1 J2 ds)->(aQ J0 J1 J2 ds)->(∀(x:Addr) (H':Hp),bV C H' x J0 J1 J2 ds->ab H H'->Q (.ref x) H')->lE C vs H Q E
theorem C_{K:Za}(h:lE C L H Q E):wg K C (tV C) (bo Q) (start wS L) H:=by
 obtain⟨t,N,O,U,Y,f,g,i,j,ds,rfl,T,m,k⟩:=h;refine⟨_,rfl,.inr (.inl ⟨t,_,0,_,rfl,rfl,bP.of T.t,rfl,.inl ⟨N,_,rfl,.inl (aw.of T.a1),fun s D=>?_⟩⟩)⟩;have u:=T.same (ab.new (o:=.lst (g.map V.str)) D);refine⟨_,rfl,.inr (.inl ⟨t,_,1,_,rfl,rfl,bP.of u.t,rfl,.inl ⟨O,_,rfl,.inl (aw.of u.a2),fun v w=>?_⟩⟩)⟩;have y:=u.same (ab.new (o:=.lst (i.map V.str)) w);refine⟨_,rfl,.inr (.inl ⟨t,_,2,_,rfl,rfl,bP.of y.t,rfl,.inl ⟨U,_,rfl,.inl (aw.of y.a3),fun z p=>?_⟩⟩)⟩;have A:=y.same (ab.new (o:=.lst (j.map V.str)) p);refine⟨_,rfl,.inr (.inl ⟨t,_,3,_,rfl,rfl,bP.of A.t,rfl,.inl ⟨Y,_,rfl,.inl (aw.of A.a4),fun B l=>?_⟩⟩)⟩;have T4:=A.same (ab.new (o:=.lst (f.map V.ref)) l);have G:=(((ab.new (o:=.lst (g.map V.str)) D).trans (ab.new (o:=.lst (i.map V.str)) w)).trans (ab.new (o:=.lst (j.map V.str)) p)).trans (ab.new (o:=.lst (f.map V.ref)) l);refine fun x r I a n=>?_;have J:ab H (upd (upd (upd (upd (upd (upd H s (.lst (g.map V.str))) v (.lst (i.map V.str))) z (.lst (j.map V.str))) B (.lst (f.map V.ref))) r (.own x)) x (.ins C r [])) :=
  (G.trans (ab.new a)).trans (ab.new (by rw[ai n.symm];exact I))
 have e:upd (upd (upd (upd (upd H s (.lst (g.map V.str))) v (.lst (i.map V.str))) z (.lst (j.map V.str))) B (.lst (f.map V.ref))) r (.own x) x=none:=by rw[ai n.symm];exact I
 refine⟨x,r,s,v,z,B,f,g,i,j,ds,rfl,aa,⟨?_,?_,?_,?_,T.ds.kt (ab.kt J)⟩,m,fun H' M ex=>⟨rfl,k x H' M fun b o q=>?_⟩⟩
 ·exact kp (kp (kp (kp (kp aa w) p) l) a) e
 ·exact kp (kp (kp (kp aa p) l) a) e
 ·exact kp (kp (kp aa l) a) e
 ·exact kp (kp aa a) e
 ·have hq:=J _ _ q;exact ex _ _ hq (ae (G.trans (ab.new a) _ _ q) e)
def g8(ds:List ao):List Str:=(ds.filter fun d=>!m8 d).map (·.a)
theorem Dh(e:List ao)(r:Str):gU e r=decide (r∉g8 e):=by
 unfold gU g8 cK;rw[wY,List.all_eq_true,decide_eq_true_iff];constructor
 ·intro h z;obtain⟨d,a,rfl⟩:=aS.mp z;rw[fU]at a;have:=h d (fU.mpr ⟨a.1,zzr1 rfl⟩);rw[this]at a;exact absurd a.2 (by decide)
 ·intro h d a;rw[fU]at a;cases q:m8 d with
  |true=>rfl
  |false =>
   refine absurd (aS.mpr ⟨d,fU.mpr ⟨a.1,by rw[q];rfl⟩,?_⟩) h;exact of_decide_eq_true a.2
theorem nL{a:Zb}:gE w∈a.map gE↔w∈a:=by
 constructor
 ·intro h;obtain⟨x,f,e⟩:=aS.mp h;rw[<-p8 e];exact f
 ·exact oC
theorem xr{e:List ao}{i:Nat}{d:ao}(h:e[i]?=some d):g8 (e.take (i+1))=g8 (e.take i)++(if(!m8 d)=true then[d.a]else[]):=by
 unfold g8;rw[take_snoc h,iP,av];congr 1;by_cases c:(!m8 d)=true
 ·rw[if_pos c];simp[List.filter_cons,c]
 ·rw[if_neg c];simp[List.filter_cons,c]
def zb(K:Za)(C_Machine:Addr)(sp_Machine_rooms:Sp)(sp_Machine_led_from:Sp):TS :=
 ar (aN (rH) U2)
 (ar (dW (bO K V1) U3 (cx (tB (ir K V3 V2)) (ar (jv V2 V3 (tC (.bl true)))
 (dW (bO K (cq C_Machine "led_from" sp_Machine_led_from [] E0 V0 (ay V3))) U4 (jv V2 V4 (tC (.bl true))))) (bC)))
 (aW (gP (Bl K) (ay (cI 1 [2] (bO K (cq C_Machine "rooms" sp_Machine_rooms [] E0 V0 bh)) U0 (tB (CV K V0 V1)) V0)))))
def Ar:List Str:=["M","rooms","found","room","led"]
def tm(K:Za):TS :=
 aW (gP (dX K) (ay (fQ K V0 "own_rooms")))
def tP:List Str:=["self"]
def oS(K:Za):TS :=
 aW (gP (dX K) (ay (zK K (fQ K V0 "still_led") V1 (bg (bh)))))
def pj:List Str:=["self","room"]
def tp(K:Za):TS :=
 aW (gP (dX K) (ay (zK K (fQ K V0 "sign_goals") (bg (aX V1 V2)) (bg (bh)))))
def tQ:List Str:=["self","room","sign"]
def uL(K:Za):TS :=
 ar (aN (gP (dX K) (ay V1)) U2)
 (ar (aN (tC (.int 0)) U3)
 (ar (CJ (aU (aH Dg V3 (gP (iH K) (ay V2)))) (ar (dW (bO K V0) (jM K 3 (bv U4 (bv U5 (bv U6 (jH))))) (cx (tF (aU (aH (mU K) V4 (aH (sH K) V2 V3))) (tF (aU (aH (mU K) V5 (bg (ay (tC (.str "still")))))) (aU (aH (qa K true) V6 V2)))) (cP (Ex K "list" iz V2 (ay V6))) (bC)))
 (aN (aH dD V3 (tC (.int 1))) U3)))
 (aW V2)))
def vT:List Str:=["doors","rooms","found","at","room","sign","other"]
inductive kH(C:Addr)(vs:List V)(H:Hp)(Q:VK)(E:XK):Prop
 |mk (x:Addr) (J0 J1 J2:Zb) (ds:List ao):(vs=[.ref x])->(bV C H x J0 J1 J2 ds)->(∀l,H l=none->Q (.ref l) (upd H l (.lst (J2.map V.str))))->kH C vs H Q E
theorem Hl{K:Za}(M:MC K C)(h:kH C e H Q E):tm K (bo Q) (start tP e) H:=by
 obtain⟨x,n,o,p,q,rfl,h,k⟩:=h;obtain⟨f,fs,r,s,a,t,u,v,w,y,z,g,i,j,l,a1,a2,a3,A,B,D,m,G,I,J,N,O,L,_⟩:=h.at_;exact⟨_,rfl,x,C,f,fs,.ref a,rfl,l,M.cls,M.a3,m,.inl ⟨a,_,rfl,.inl (aw.of L.a3),k⟩⟩
theorem BD:∀{L:Zb},L.Nodup->(aY L).map (fun a=>kV a.1)=L.map V.str:=by
 intro L;refine kD (fun L=>L.Nodup->(aY L).map (fun a=>kV a.1)=L.map V.str) (fun _=>rfl) (fun f w g e=>?_) L;rw[dw]at e;have h:be (aY f) (.inr w)=none:=by
  rw[vp,if_neg (fun z=>e.2.2 w z w (by simp) rfl)]
 show(aY (f++[w])).map _=_;rw[dQ,iI _ h,av,g e.1,av]
 rfl
inductive iF(C:Addr)(vs:List V)(H:Hp)(Q:VK)(E:XK):Prop
 |mk (x:Addr) (r:Str) (J0 J1 J2:Zb) (ds:List ao):(vs=[.ref x,.str r])->(bV C H x J0 J1 J2 ds)->(r∈J2)->(∀(l:Addr) (L:Zb) (H':Hp),H' l=some (.lst (L.map V.str))->L.Nodup->(∀w,w∈L↔Reach ds r w)->H l=none->ab H H'->Q (.ref l) H')->iF C vs H Q E
theorem Bi{K:Za}(M:MC K C)(h:iF C s H Q E):oS K (bo Q) (start pj s) H:=by
 obtain⟨x,r,N,O,T,U,rfl,h,t,k⟩:=h;obtain⟨u,fs,Y,o2,o3,o4,lv,qu,sg,j,ts,v,w,g,y,a1,a2,a3,a4,b1,b2,b3,b4,b5,b6,b7,z,L,c1,c2,c3,c4,G,m,n,A⟩:=h.at_;have i:=h.ok.okR.1;obtain⟨⟨o,a⟩,f,B⟩:=aS.mp (show r∈g.map (·.1) by rw[m];exact t);obtain rfl:o=r:=B;obtain⟨D,I,p,J⟩:=A _ f;refine⟨_,rfl,x,C,u,fs,.ref j,rfl,y,M.cls,M.a8,z,j,rfl,.inl ⟨_,.inl n⟩,_,rfl,(by show 0<=aj;decide),fun et e=>⟨_,.inl ⟨_,.inr o,.inl (kp n e),rfl,rfl⟩,?_⟩⟩;rw[fF jW (by rw[m];exact i) f];refine .inr ⟨a,_,rfl,.inl (kp I e),fun l q=>k l D _ ?_ p J ((ab.new e).free q) ((ab.new e).trans (ab.new q))⟩;rw[aa,BD p]
inductive jb(C:Addr)(vs:List V)(H:Hp)(Q:VK)(E:XK):Prop
 |mk (x s:Addr) (r:Str) (sg J0 J1 J2:Zb) (ds:List ao):(vs=[.ref x,.str r,.ref s])->(bV C H x J0 J1 J2 ds)->(H s=some (.tup (sg.map V.str)))->(∀(l:Addr) (H':Hp),H' l=some (.lst ((bF ds (r,sg)).map V.str))->H l=none->ab H H'->Q (.ref l) H')->jb C vs H Q E
theorem FJ{K:Za}(M:MC K C)(h:jb C v H Q E):tp K (bo Q) (start tQ v) H:=by
 obtain⟨x,s,r,e,Y,J1,J2,w,rfl,h,A,k⟩:=h;obtain⟨B,fs,o1,o2,o3,o4,lv,qu,t,sl,ts,D,m,I,J,a1,a2,a3,a4,b1,b2,b3,b4,b5,b6,N,b8,L,c1,c2,c3,c4,G,d1,d2,d3⟩:=h.at_;have O:=h.ok.okR.1;refine⟨_,rfl,x,C,B,fs,.ref t,rfl,J,M.cls,M.a7,N,t,rfl,.inr ⟨_,.inl G.g⟩,_,rfl,_,rfl,(by show 2<=aj;decide),fun kt j=>⟨(by show 0<=aj;decide),fun u i=>⟨be (eB v4 m) (v4 (r,e)),.inr ⟨_,v4 (r,e),kt,.inl (kp (kp G.g j) i),rfl,?_,nJ _,rfl⟩,?_⟩⟩⟩
 ·refine cU.isIn 8 (nJ _) ?_;unfold v4 cU;refine⟨kt,_,rfl,kp aa i,?_⟩;unfold TKAts;refine⟨_,_,rfl,yZ _,?_⟩;unfold TKAts;refine⟨_,_,rfl,SignAt.tk (kp (kp A j) i),?_⟩;unfold TKAts
  rfl
 have n:ab H (upd (upd H kt (.tup [.str r,.ref s])) u (.tup [])):=(ab.new j).trans (ab.new i);by_cases f:(r,e)∈m.map (·.1)
 ·obtain⟨⟨y,a⟩,o,T⟩:=aS.mp f;obtain rfl:y=(r,e):=T;rw[fF i6 G.nd o];exact .inl ⟨a,_,rfl,.inl (aw.of (n _ _ (G.ls _ o))),fun l p=>k l _ aa (n.free p) (n.trans (ab.new p))⟩
 ·rw[nN i6 f];have q:bF w (r,e)=[]:=m9 fun y U z=>f (by rw[<-z];exact G.all y U);refine .inl ⟨u,[],rfl,.inr (bP.of aa),fun l p=>k l _ ?_ (n.free p) (n.trans (ab.new p))⟩;rw[q];exact aa
theorem Reach.trans(f:Reach e a b)(g:Reach e b c):Reach e a c:=by
 induction g with
 |one h=>exact .step f h
 |step r h i=>exact .step i h
def iN(ds:List ao)(gs:Zb)(w:Str):Prop:=∃g∈gs,w=g∨Reach ds g w
theorem iN.in_{e:List ao}{f a:Zb}(i:∀g∈f,g∈a)(j:∀d∈e,d.b∈a)(h:iN e f w):w∈a:=by
 obtain⟨g,k,rfl|h2⟩:=h
 ·exact i _ k
 ·exact h2.in_ j
def tI(F:Zb)(w:Str):List Str:=if w∈F then F else F++[w]
theorem BB(F:Zb):∀e∈aY F,e.2=.bl true:=by
 refine kD (fun F=>∀e∈aY F,e.2=.bl true) (by intro e h;cases h) (fun i w f=>?_) F;intro e a;rw[dQ]at a;unfold dq at a;split at a
 ·obtain⟨x,g,rfl⟩:=aS.mp a;split
  ·rfl
  ·exact f x g
 ·rcases bM.mp a with h|h
  ·exact f e h
  ·have:e=(.inr w,.bl true):=by simpa using h
   rw[this]
theorem vq(F:Zb)(w:Str):dq (aY F) (.inr w) (.bl true)=aY (tI F w):=by
 unfold tI;by_cases c:w∈F
 ·rw[if_pos c];have f:((aY F).any fun a=>decide (a.1=(.inr w:fR)))=true:=by
   rw[kC,fG,zzr1 c]
  unfold dq;rw[if_pos f];have:∀l:List (fR×V),(∀a∈l,a.2=.bl true)->l.map (fun a=>if a.1=(.inr w:fR)then(a.1,V.bl true)else a)=l:=by
   intro l
   induction l with
   |nil=>intro _;rfl
   |cons x l g =>
    intro h;rw[bG,g fun a e=>h a (c_ _ e)];congr 1;split
    ·rw[<-h x cW]
    ·rfl
  exact this _ (BB F)
 ·rw[if_neg c,dQ]
theorem vR{F:Zb}(h:F.Nodup)(w:Str):(tI F w).Nodup:=by
 unfold tI;split
 ·exact h
 ·next c =>
  rw[dw];refine⟨h,by simp,fun a f b g e=>?_⟩;have:b=w:=by simpa using g
  exact c (by rw[<-this,<-e];exact f)
theorem BA{y:Str}:y∈tI F w↔y∈F∨y=w:=by
 unfold tI;split
 ·next c=>exact⟨.inl,fun h=>h.elim id fun e=>by rw[e];exact c⟩
 ·rw[bM];simp
inductive sp_with_still(C:Addr)(vs:List V)(H:Hp)(Q:VK)(E:XK):Prop
 |mk (x l:Addr) (gs J0 J1 J2:Zb) (ds:List ao):(vs=[.ref x,.ref l])->(bV C H x J0 J1 J2 ds)->(H l=some (.lst (gs.map V.str)))->((∀g∈gs,g∈J2))->(∀(t:Addr) (F:Zb) (H':Hp),H' t=some (.tup ((J2.filter fun r=>decide (r∈F)).map V.str))->(∀w,w∈F↔iN ds gs w)->ab H H'->Q (.ref t) H')->sp_with_still C vs H Q E
theorem wE{K:Za}(h:sp_with_still C O H Q E):zb K C (kH C) (iF C) (bo Q) (start Ar O) H:=by
 obtain⟨x,l,gs,J0,J1,a,D,rfl,M,hl,hg,k⟩:=h;have T:∀d∈D,d.b∈a:=fun d hd=>(M.ok.good d hd).b;have z3:=M.ok.rooms26;refine fun d hd=>?_;refine⟨_,rfl,l,rfl,⟨_,aw.of (kp hl hd)⟩,?_⟩;refine bR (xs:=gs.map V.str) (fun i σ m=>Mb fun(F:Zb) (x3 x4:Option V)=>Mc (σ=[some (.ref x),some (.ref l),some (.ref d),x3,x4]) (m d=some (.dK (aY F))) (ab H m) (F.Nodup) (∀w,w∈F↔iN D (gs.take i) w))
  ⟨[],_,_,rfl,aa,ab.new hd,uC,fun w=>⟨fun h=>(by cases h),fun⟨g,h,_⟩=>(by cases h)⟩⟩ (fun i σ m _ ⟨_,_,_,_,_,S,_,_⟩=>aw.of (S _ _ hl)) ?_ ?_
 ·rintro i y σ G hi ⟨F,x3,x4,rfl,s,S1,nd,U⟩;obtain⟨r,hr,rfl⟩:=bJ hi;have as:r∈a:=hg r (bU hr);have aC:∀w∈F,w∈a:=fun w hw=>((U w).mp hw).in_ (fun g hg'=>hg g (hZ hg')) T;refine⟨_,rfl,_,rfl,d,_,rfl,.inl ⟨_,.inr r,.inl s,rfl,rfl⟩,_,rfl,?_⟩;rw[fG];have u:∀w,iN D (gs.take (i+1)) w↔(iN D (gs.take i) w∨w=r∨Reach D r w):=by
   intro w;rw[take_snoc hr];constructor
   ·rintro⟨g,hg',h⟩;rcases bM.mp hg' with hg'|hg'
    ·exact .inl ⟨g,hg',h⟩
    ·have:g=r:=by simpa using hg'
     subst this;exact .inr h
   ·rintro(⟨g,hg',h⟩|h)
    ·exact⟨g,em _ hg',h⟩
    ·exact⟨r,eU _ (by simp),h⟩
  by_cases c:r∈F
  ·rw[zzr1 c];refine bD ⟨F,_,_,rfl,s,S1,nd,fun w=>?_⟩;rw[u,U];refine⟨.inl,fun h=>h.elim id fun h=>?_⟩;obtain⟨g,hg',hgr⟩:=(U r).mp c;rcases h with h|h
   ·rw[h];exact⟨g,hg',hgr⟩
   ·refine⟨g,hg',.inr ?_⟩;rcases hgr with e|hgr
    ·rw[<-e];exact h
    ·exact hgr.trans h
  ·rw[zzr0 c];refine bT ?_;have n:∀{F:Zb},F.Nodup->(∀w∈F,w∈a)->(aY F).length<aj:=fun nd hs=>aq (aB (lO _) (aB (mZ nd hs) (by omega)));refine⟨_,rfl,_,rfl,d,_,rfl,.inl ⟨_,.inr r,s,rfl,n nd aC,rfl⟩,?_⟩;rw[vq];have Y:ab H (upd G d (.dK (aY (tI F r)))):=fun b o q=>by rw[ai (ae q hd)];exact S1 _ _ q
   have p:upd G d (.dK (aY (tI F r))) d=some (.dK (aY (tI F r))):=aa;generalize upd G d (.dK (aY (tI F r)))=H2 at Y p ⊢;have M2:=M.same Y;obtain⟨dx,fs,o1,o2,o3,o4,lv,qu,sg,sl,ts,a6,a7,a8,g1,a1,a2,a3,a4,_⟩:=M2.at_;refine⟨_,rfl,x,dx,fs,rfl,g1,a3,_,rfl,x,r,J0,J1,a,D,rfl,M2,as,fun ll L H3 a0 bl hL al S3=>⟨ll,rfl,⟨_,aw.of a0⟩,?_⟩⟩;have a9:=S3 _ _ p;have bm:H ll=none:=Y.free al;have bc:ll≠d:=fun z=>by rw[z,p]at al;cases al
   refine bR (xs:=L.map V.str) (fun j σ m=>Mz fun(I:Zb) (x4:Option V)=>MB (σ=[some (.ref x),some (.ref l),some (.ref d),some (.str r),x4]) (m d=some (.dK (aY I))) (m ll=some (.lst (L.map V.str))) (ab H m) (I.Nodup) (∀w,w∈I↔(iN D (gs.take i) w∨w=r∨w∈L.take j)))
    ⟨tI F r,_,rfl,a9,a0,Y.trans S3,vR nd r,fun w=>?_⟩ (fun j σ m _ ⟨_,_,_,_,h,_,_,_⟩=>aw.of h) ?_ ?_
   ·rw[BA,U];simp
   ·rintro j y σ H4 hj ⟨I,bd,rfl,an,J,S4,B,A⟩;obtain⟨v,hv,rfl⟩:=bJ hj;have ap:∀w∈I,w∈a:=by
     intro w hw;rcases(A w).mp hw with h|h|h
     ·exact h.in_ (fun g hg'=>hg g (hZ hg')) T
     ·rw[h];exact as
     ·exact((hL w).mp (hZ h)).in_ T
    refine⟨_,rfl,_,rfl,d,_,rfl,.inl ⟨_,.inr v,an,rfl,n B ap,rfl⟩,tI I v,_,rfl,?_,?_,?_,vR B v,fun w=>?_⟩
    ·rw[aa,vq]
    ·rw[ai bc];exact J
    ·intro b o q;rw[ai (ae q hd)];exact S4 _ _ q
    ·rw[BA,A,take_snoc hv,bM];simp only[dR];constructor
     ·rintro((h|h|h)|h)
      ·exact .inl h
      ·exact .inr (.inl h)
      ·exact .inr (.inr (.inl h))
      ·exact .inr (.inr (.inr h))
     ·rintro(h|h|h|h)
      ·exact .inl (.inl h)
      ·exact .inl (.inr (.inl h))
      ·exact .inl (.inr (.inr h))
      ·exact .inr h
   ·rintro σ H4 ⟨I,bd,rfl,an,J,S4,B,A⟩;rw[ah,bf]at A;refine⟨I,_,_,rfl,an,S4,B,fun w=>?_⟩;rw[u,A,hL]
 ·rintro σ G ⟨F,x3,x4,rfl,s,S1,nd,U⟩;rw[ah,bf]at U;have M1:=M.same S1;obtain⟨dx,fs,o1,o2,o3,o4,lv,qu,sg,sl,ts,a6,a7,a8,g1,a1,a2,a3,a4,_⟩:=M1.at_;refine⟨_,rfl,x,dx,fs,rfl,g1,a4,x,J0,J1,a,D,rfl,M1,fun rl a5=>⟨rl,rfl,⟨_,aw.of aa⟩,fun f hf=>?_⟩⟩;have Y:ab H (upd G rl (.lst (a.map V.str))):=S1.trans (ab.new a5);have p:upd G rl (.lst (a.map V.str)) d=some (.dK (aY F)):=kp s a5;have N:upd G rl (.lst (a.map V.str)) rl=some (.lst (a.map V.str)):=aa;generalize upd G rl (.lst (a.map V.str))=H2 at Y p N hf ⊢;refine bY (xs:=a.map V.str) (fun i O m=>O=((a.take i).filter fun r=>decide (r∈F)).map V.str/\ab H2 m/\m f=some (.lst O)) ⟨rfl,ab.new hf,aa⟩ (fun i O m _ ⟨_,S,h'⟩=>⟨h',aw.of (S _ _ N)⟩) ?_ ?_
  ·rintro O m ⟨rfl,S,f'⟩;rw[ah,bf]at f';exact⟨f,_,rfl,.inl ⟨aw.of f',fun t ht=>k t F _ aa U (Y.trans (S.trans (ab.new ht)))⟩⟩
  ·rintro i O m x' bi hi ⟨rfl,S,f'⟩;obtain⟨r,hr,rfl⟩:=bJ bi;refine gN ?_;refine⟨_,rfl,_,rfl,d,_,rfl,.inl ⟨_,.inr r,.inl (S _ _ p),rfl,rfl⟩,_,rfl,?_⟩;rw[fG];have n:(((a.take i).filter fun r=>decide (r∈F)).map V.str).length<aj:=by
    rw[ah];refine aq (aB (cQ _ _) ?_);rw[aJ];omega
   refine i7 (fun hq=>?_) (fun hq=>?_)
   ·refine⟨_,rfl,f',n,mY hi ⟨?_,?_,aa⟩⟩
    ·rw[cw hr,if_pos hq,av];rfl
    ·intro b o q;rw[ai (ae q hf)];exact S _ _ q
   ·refine mY hi ⟨?_,S,f'⟩;rw[cw hr,if_neg hq,dO]
inductive dP(K:Za)(vs:List V)(H:Hp)(Q:VK)(E:XK):Prop
 |mk (l4 l:Addr) (ts:Ze) (ds:List ao) (gs J2:Zb):(vs=[.ref l4,.ref l])->(H l4=some (.lst (ts.map V.ref)))->(c6 H ts ds)->(H l=some (.lst (gs.map V.str)))->((∀d∈ds,d.b∈J2))->(J2.length<=1000)->(gs.length<=1000)->(∀(f:Addr) (F:Zb) (H':Hp),H' f=some (.lst (F.map V.str))->(∀w,w∈F↔iN ds gs w)->F.length<=2000->H f=none->ab H H'->Q (.ref f) H')->dP K vs H Q E
structure SO(H0 H:Hp)(ds:List ao)(gs:Zb)(f:Addr)(X:Zb):Prop where
 f:H f=some (.lst ((gs++X).map V.str))
 same:ab H0 H
 nd:X.Nodup
 new:∀y∈X,y∉gs
 sound:∀y∈X,iN ds gs y
theorem iN.step{f:Zb}{b:Str}(h:iN ds f a)(e:(⟨a,aF,b⟩:ao)∈ds):iN ds f b:=by
 obtain⟨g,i,rfl|h⟩:=h
 ·exact⟨_,i,.inr (.one e)⟩
 ·exact⟨g,i,.inr (.step h e)⟩
theorem fI(a b:Zb):decide (iL a=iL b)=decide (a=b):=by
 by_cases e:a=b
 ·rw[zzr1 e,zzr1 (by rw[e])]
 ·rw[zzr0 e,zzr0 (fun z=>e (EY z))]
inductive SoI(l4 l f:Addr)(at_:Int)(H:Hp)(ds:List ao)(gs X:Zb)(here:Str)(j:Nat)(σ:L2.St)(H':Hp):Prop
 |mk (X' Y:Zb) (x y z:Option V):σ=[some (.ref l4),some (.ref l),some (.ref f),some (.int at_),x,y,z]->X'=X++Y->SO H H' ds gs f X'->(∀d∈ds.take j,d.a=here->d.sg=aF->d.b∈gs++X')->SoI l4 l f at_ H ds gs X here j σ H'
theorem Bf{K:Za}(h:dP K vs H Q E):uL K (bo Q) (start vT vs) H:=by
 obtain⟨l4,l,ts,ds,u,J2,rfl,h4,ap,hl,a8,hz,bz,k⟩:=h;refine⟨_,rfl,.inl ⟨l,_,rfl,.inl (aw.of hl),fun f hf=>?_⟩⟩;have M:∀{X:Zb},X.Nodup->(∀y∈X,y∉u)->(∀y∈X,iN ds u y)->X.length<=J2.length:=fun nd nw sd=>mZ nd fun y hy=>by
  obtain⟨g,hg,e|h⟩:=sd y hy
  ·exact absurd (by rw[e];exact hg) (nw y hy)
  ·exact h.in_ a8
 refine⟨fun m σ H'=>∃(X:Zb) (p:Nat) (x y z:Option V),σ=[some (.ref l4),some (.ref l),some (.ref f),some (.int p),x,y,z]/\SO H H' ds u f X/\p<=(u++X).length/\(∀i y,i<p->(u++X)[i]?=some y->∀c,(⟨y,aF,c⟩:ao)∈ds->c∈u++X)/\m=u.length+J2.length-p,
  ⟨_,[],0,_,_,_,rfl,⟨by rw[dO];exact aa,ab.new hf,uC,by simp,by simp⟩,dL _,fun i y h=>by omega,rfl⟩,?_⟩
 rintro m σ H1 ⟨X,p,x4,x5,x6,rfl,D,bI,as,rfl⟩;have bS:=M D.nd D.new D.sound;refine⟨_,rfl,_,rfl,.inl ⟨f,_,rfl,.inl (aw.of D.f),_,_,rfl,rfl,_,rfl,?_⟩⟩;refine i7 (fun O=>?_) (fun O=>?_)
 ·have C:p<(u++X).length:=by
   have:=of_decide_eq_true O;rw[ah]at this;omega
  have bn:p<u.length+J2.length:=by rw[ba]at C;omega
  generalize T:(u++X)[p]=here;have J:(u++X)[p]?=some here:=by rw[<-T];exact de C
  have U:∀{Y:Zb}{y:Str},(∀y∈Y,iN ds u y)->y∈u++Y->iN ds u y:=fun sd hy=>by
   rcases bM.mp hy with hy|hy
   ·exact⟨_,hy,.inl rfl⟩
   ·exact sd _ hy
  refine⟨fun σ' H'=>∃(N:Zb) (x y z:Option V),σ'=[some (.ref l4),some (.ref l),some (.ref f),some (.int ((p+1:Nat):Int)),x,y,z]/\SO H H' ds u f N/\p+1<=(u++N).length/\(∀i y,i<p+1->(u++N)[i]?=some y->∀c,(⟨y,aF,c⟩:ao)∈ds->c∈u++N),
   fun σ' H' ⟨N,x,y,z,e,D',h1,h2⟩=>⟨_,(by omega:u.length+J2.length-(p+1)<u.length+J2.length-p),N,p+1,x,y,z,e,D',h1,h2,rfl⟩,?_⟩
  refine⟨_,rfl,l4,rfl,⟨_,aw.of (D.same _ _ h4)⟩,?_⟩;refine bR (xs:=ts.map V.ref) (SoI l4 l f p H ds u X here)
   ⟨X,[],_,_,_,rfl,by simp,D,by simp⟩ (fun j σ H' _ ⟨_,_,_,_,_,_,_,D',_⟩=>aw.of (D'.same _ _ h4)) ?_ ?_
  ·rintro j y σ H2 hj ⟨N,Y,a9,bc,bd,rfl,rfl,G,A⟩;obtain⟨t,ht,rfl⟩:=bZ hj;obtain⟨v,aC,a0⟩:=Paired.getL ap ht;obtain⟨s,bi,bl⟩:=a0.kt (ab.kt G.same);have a4:=bU aC;have bu:=M G.nd G.new G.sound;have al:(u++(X++Y))[p]?=some here:=by
    rw[<-eV,uG C];exact J
   refine⟨t,_,rfl,bP.of bi,rfl,_,_,rfl,_,_,rfl,_,_,rfl,rfl,?_⟩;have B:∀(H3:Hp) (X3 Y3:Zb) (q4 q5 q6:Option V),X3=X++Y3->SO H H3 ds u f X3->(∀y∈X++Y,y∈X3)->(v.a=here->v.sg=aF->v.b∈u++X3) ->
     SoI l4 l f p H ds u X here (j+1) [some (.ref l4),some (.ref l),some (.ref f),some (.int p),q4,q5,q6] H3:=by
    intro H3 X3 Y3 q4 q5 q6 e I a5 a6;refine⟨X3,Y3,q4,q5,q6,rfl,e,I,fun d hd e1 e2=>?_⟩;rw[take_snoc aC]at hd;rcases bM.mp hd with hd|hd
    ·rcases bM.mp (A d hd e1 e2)with h|h
     ·exact em _ h
     ·exact eU _ (a5 _ h)
    ·have:d=v:=by simpa using hd
     subst this;exact a6 e1 e2
   refine⟨_,rfl,_,rfl,_,rfl,.inl ⟨f,_,_,_,rfl,rfl,aw.of G.f,ca (j:=p) (by rw[cH,al];rfl),gE v.a,gE here,ox _,ox _,(by show 0<=8;decide),(by show 0<=8;decide),_,rfl,?_⟩⟩;rw[J8];by_cases c1:v.a=here;rotate_left
   ·rw[zzr0 c1];exact bD (bD (B H2 _ _ _ _ _ rfl G (fun _ h=>h) fun e=>absurd e c1))
   rw[zzr1 c1];refine bT ?_;refine⟨_,rfl,(by show 1<=aj;decide),fun st L=>⟨iL v.sg,iL aF,aZ (bP.of (kp bl L)),aZ (bP.of aa),by rw[bL];decide,by rw[bL];decide,_,rfl,?_⟩⟩;rw[fI];have I:SO H (upd H2 st (.tup [.str "still"])) ds u f (X++Y):=⟨kp G.f L,G.same.trans (ab.new L),G.nd,G.new,G.sound⟩;have bw:H st=none:=G.same.free L;generalize upd H2 st (.tup [.str "still"])=H3 at I ⊢;by_cases c2:v.sg=aF;rotate_left
   ·rw[zzr0 c2];exact bD (bD (B H3 _ _ _ _ _ rfl I (fun _ h=>h) fun _ e=>absurd e c2))
   rw[zzr1 c2];refine bT ?_;refine⟨_,rfl,_,rfl,gE v.b,(u++(X++Y)).map gE,f,_,ox _,rfl,.inl (aw.of I.f),lR _,(by show 0<=8;decide),by rw[fh];decide,_,rfl,?_⟩;rw[if_pos rfl];by_cases c3:v.b∈u++(X++Y)
   ·rw[zzr1 (nL.mpr c3)];exact bD (B H3 _ _ _ _ _ rfl I (fun _ h=>h) fun _ _=>c3)
   rw[zzr0 (fun z=>c3 (nL.mp z))];refine bT ?_;refine⟨_,rfl,.inl ⟨rfl,_,aw.of I.f⟩,_,rfl,f,_,_,rfl,rfl,I.f,by rw[ah,ba];exact ib (by omega),?_⟩;have an:(⟨here,aF,v.b⟩:ao)∈ds:=by
    have:v=⟨here,aF,v.b⟩:=by cases v;simp only at c1 c2;rw[c1,c2]
    rw[<-this];exact a4
   refine B _ (X++(Y++[v.b])) _ _ _ _ rfl ⟨?_,?_,?_,?_,?_⟩ ?_ ?_
   ·rw[aa];have:u++(X++(Y++[v.b]))=u++(X++Y)++[v.b]:=by simp
    rw[this,av (l₂:=[v.b])]
    rfl
   ·intro b o q;rw[ai (ae q hf)];exact I.same _ _ q
   ·rw[<-eV,dw];refine⟨I.nd,by simp,fun a ha b hb e=>?_⟩;have:b=v.b:=by simpa using hb
    exact c3 (eU _ (by rw[<-this,<-e];exact ha))
   ·intro y hy;rw[<-eV]at hy;rcases bM.mp hy with hy|hy
    ·exact I.new y hy
    ·have:y=v.b:=by simpa using hy
     rw[this];exact fun z=>c3 (em _ z)
   ·intro y hy;rw[<-eV]at hy;rcases bM.mp hy with hy|hy
    ·exact I.sound y hy
    ·have:y=v.b:=by simpa using hy
     rw[this];exact(U D.sound (bU J)).step an
   ·intro y hy;rw[<-eV];exact em _ hy
   ·intro _ _;exact eU _ (by simp)
  ·rintro σ H2 ⟨N,Y,a9,bc,bd,rfl,rfl,G,A⟩;rw[ah,Paired.length ap,bf]at A;refine⟨_,rfl,_,_,rfl,rfl,X++Y,_,_,_,rfl,G,?_,fun i y hi hy c hc=>?_⟩
   ·rw[<-eV,ba];omega
   ·by_cases e:i=p
    ·subst e;rw[<-eV,uG C,J]at hy;have:=fM hy;subst this;exact A _ hc rfl rfl
    ·have bm:i<p:=by omega
     rw[<-eV,uG (by omega)]at hy;have:=as i y bm hy c hc;rw[<-eV];exact em _ this
 ·have a7:p=(u++X).length:=by
   have:¬(p<(u++X).length):=fun z=>O (zzr1 (by rw[ah];omega));omega
  refine⟨_,rfl,k f (u++X) H1 D.f (fun w=>⟨fun hw=>?_,fun hw=>?_⟩) (by rw[ba];omega) hf D.same⟩
  ·rcases bM.mp hw with hw|hw
   ·exact⟨_,hw,.inl rfl⟩
   ·exact D.sound _ hw
  ·have closed:∀y∈u++X,∀c,(⟨y,aF,c⟩:ao)∈ds->c∈u++X:=fun y hy c hc=>by
    obtain⟨n,hn⟩:=gK hy;exact as n y (by rw[a7];exact(bN.mp hn).1) hn c hc
   obtain⟨g,hg,rfl|h⟩:=hw
   ·exact em _ hg
   ·induction h with
    |one e=>exact closed _ (em _ hg) _ e
    |step r e ih=>exact closed _ ih _ e

theorem C6{b:Str}(h:¬iN g [b] a)(r:Reach (g++[⟨a,aF,b⟩]) x y):Reach g x y∨((x=a∨Reach g x a)/\(y=b∨Reach g b y)):=by
 have f:∀{u v:Str},(⟨u,aF,v⟩:ao)∈g++[⟨a,aF,b⟩]->(⟨u,aF,v⟩:ao)∈g∨(u=a/\v=b):=by
  intro u v e;rcases bM.mp e with e|e
  ·exact .inl e
  ·have:(⟨u,aF,v⟩:ao)=⟨a,aF,b⟩:=by simpa using e
   injection this with j h2 k;exact .inr ⟨j,k⟩
 induction r with
 |one e =>
  rcases f e with e|⟨rfl,rfl⟩
  ·exact .inl (.one e)
  ·exact .inr ⟨.inl rfl,.inl rfl⟩
 |step r l i =>
  rcases f l with e|⟨rfl,rfl⟩
  ·rcases i with i|⟨j,h2⟩
   ·exact .inl (.step i e)
   ·refine .inr ⟨j,.inr ?_⟩;rcases h2 with h2|h2
    ·exact .one (by rw[<-h2];exact e)
    ·exact .step h2 e
  ·rcases i with i|⟨j,h2⟩
   ·exact .inr ⟨.inr i,.inl rfl⟩
   ·exact absurd ⟨_,by simp,h2⟩ h
theorem zV{b:Str}(f:∀r,¬Reach e r r)(h:¬iN e [b] a):∀r,¬Reach (e++[⟨a,aF,b⟩]) r r:=by
 intro r z;have no:¬(a=b∨Reach e b a):=fun z=>h ⟨b,by simp,z⟩;rcases C6 h z with z|⟨h1,h2⟩
 ·exact f r z
 ·rcases h1 with rfl|h1
  ·exact no h2
  ·rcases h2 with rfl|h2
   ·exact no (.inr h1)
   ·exact no (.inr (h2.trans h1))
theorem aQ.putStill{a b:Str}(m:aQ i j g f)(k:a∈g)(l:b∈g)(h:¬iN f [b] a)(q:f.length<=699):aQ i j g (mV f ⟨a,aF,b⟩):=by
 unfold mV;split
 ·exact m
 ·next n =>
  refine{ m with nodup:=?_,good:=?_,few:=?_,noround:=zV m.noround h }
  ·rw[dw];refine⟨m.nodup,by simp,fun x o y p e=>?_⟩;have:y=⟨a,aF,b⟩:=by simpa using p
   subst this;exact n (e▸o)
  ·intro d hd;rcases bM.mp hd with hd|hd
   ·exact m.good d hd
   ·have:d=⟨a,aF,b⟩:=by simpa using hd
    subst this;exact⟨k,l,.inr (.inr rfl)⟩
  ·rw[ba];show f.length+1<=1000;omega
theorem u7(a:List ao)(d:ao):(mV a d).length<=a.length+1:=by
 unfold mV;split
 ·omega
 ·rw[ba];exact aD _
def dF(ds:List ao)(sg:Zb)(J6:Zb):List Str:=J6.flatMap fun r=>bF ds (r,sg)
theorem wN{a:Zb}{i:Nat}{r:Str}(h:a[i]?=some r):dF e f (a.take (i+1))=dF e f (a.take i)++bF e (r,f):=by
 unfold dF;rw[take_snoc h,List.flatMap_append];simp
theorem sR(a:List ao)(x:Str×List Str):(bF a x).length<=a.length:=by
 unfold bF;rw[ah];exact cQ _ _
theorem qv(a:List ao)(f:Zb):∀e:List Str,(dF a f e).length<=e.length * a.length
 |[]=>dL _
 |r::e=>by
  show((bF a (r,f))++dF a f e).length<=(e.length+1) * a.length;rw[ba,gJ];have g:=sR a (r,f);have h:=qv a f e;omega
theorem qk{b:Str}:b∈dF e f g↔∃r∈g,(⟨r,f,b⟩:ao)∈e:=by
 unfold dF;rw[List.mem_flatMap];constructor
 ·rintro⟨r,a,h⟩;exact⟨r,a,e_.mp h⟩
 ·rintro⟨r,a,h⟩;exact⟨r,a,e_.mpr h⟩
inductive pY(C:Addr)(vs:List V)(H:Hp)(Q:VK)(E:XK):Prop
 |mk (x t s:Addr) (J6 sg J0 J1 J2:Zb) (ds:List ao):(vs=[.ref x,.ref t,.ref s])->(bV C H x J0 J1 J2 ds)->(H t=some (.tup (J6.map V.str)))->(H s=some (.tup (sg.map V.str)))->(sg≠cC)->(J6.length<=1000)->(∀(t':Addr) (F:Zb) (H':Hp),H' t'=some (.tup ((J2.filter fun r=>decide (r∈F)).map V.str))->(∀w,w∈F↔iN ds (dF ds sg J6) w)->ab H H'->Q (.ref t') H')->pY C vs H Q E
theorem zS{K:Za}(v:∀H,bP K H Y (cC.map V.str))(h:pY C vs H Q E):
  on K (sp_with_still C) C (jb C) Y al (bo Q) (start oz vs) H:=by
 obtain⟨x,t,s,j,f,J,L,z,e,rfl,M,N,O,A,hz,k⟩:=h;have B:∀d∈e,d.b∈z:=fun d hd=>(M.ok.good d hd).b;have z4:=M.ok.few;refine⟨_,rfl,iL f,iL cC,aZ (bP.of O),aZ (v _),by rw[bL];decide,by rw[bL];decide,_,rfl,?_⟩;rw[fI,zzr0 A];refine bD ?_;refine⟨(by show 0<=aj;decide),fun g D=>?_⟩;refine⟨_,rfl,t,rfl,⟨_,bP.of (kp N D)⟩,?_⟩;refine EZ (xs:=j.map V.str) (fun i σ n=>∃G:Option V,σ=[some (.ref x),some (.ref t),some (.ref s),some (.ref g),G]/\n g=some (.lst ((dF e f (j.take i)).map V.str))/\ab H n)
  ⟨_,rfl,aa,ab.new D⟩ (fun i σ n _ ⟨_,_,_,S⟩=>bP.of (S _ _ N)) ?_ ?_
 ·rintro i y σ H1 hi ⟨G,rfl,a,m⟩;obtain⟨r,hr,rfl⟩:=bJ hi;have M1:=M.same m;obtain⟨dx,fs,o1,o2,o3,o4,lv,qu,an,sl,ts,ap,as,aC,g1,a1,a2,a3,a4,_⟩:=M1.at_;refine⟨_,rfl,.inl ⟨rfl,_,aw.of a⟩,_,rfl,x,dx,fs,rfl,g1,a2,_,rfl,_,rfl,x,s,r,f,J,L,z,e,rfl,M1,m _ _ O,fun l H2 hl fr u=>?_⟩;have I:=u _ _ a;have p:((dF e f (j.take i)).map V.str).length+((bF e (r,f)).map V.str).length<=aj:=by
   rw[ah,ah];have T:=qv e f (j.take i);have U:=sR e (r,f);have h3:(j.take i).length * e.length<=1000 * 1000:=Nat.mul_le_mul (by rw[aJ];omega) z4;have:(1001000:Nat)<=aj:=by decide
   omega
  refine⟨g,l,_,_,rfl,rfl,I,hl,p,_,rfl,?_,?_⟩
  ·rw[aa,wN hr,av]
  ·intro b o q;rw[ai (ae q D)];exact u _ _ (m _ _ q)
 ·rintro σ H1 ⟨G,rfl,a,m⟩;rw[ah,bf]at a;refine⟨_,rfl,_,rfl,x,g,dF e f j,J,L,z,e,rfl,M.same m,a,fun w hw=>?_,fun t' F n T U u=>k t' F n T U (m.trans u)⟩;obtain⟨r,_,h⟩:=qk.mp hw;exact B _ h
theorem lQ{a:List ao}{i:Nat}{d:ao}{p:ao->Bool}(h:a[i]?=some d):(a.take (i+1)).filter p=(a.take i).filter p++(if p d=true then[d]else[]):=by
 rw[take_snoc h,iP];congr 1;by_cases c:p d=true
 ·rw[if_pos c];simp[c]
 ·rw[if_neg c];simp[c]
def zo(K:Za)(sp_with_still:Sp)(C_Machine:Addr)(sp_Machine_rooms:Sp):TS :=
 aW (aL sp_with_still (aX V0 (Cr (rK K) (cq C_Machine "rooms" sp_Machine_rooms [] E0 V0 bh) (fC) (gM (tC (.int 1))))))
def Az:List Str:=["M"]
def we(K:Za)(sp_law_take:Sp)(sp_law_names:Sp):TS :=
 ar (aN V1 (jM K 4 (bv U2 (bv U3 (bv U4 (bv U5 (jH)))))))
 (ar (aN (rH) U6)
 (ar (dW (Io K (am V4 (ay (aL sp_law_names (aX V0 (gP (iH K) (ay V4))))))) (jM K 2 (bv U7 (bv U8 (jH)))) (jv V6 V7 V8))
 (ar (aN (cI 1 [6] (bO K V4) U0 (iS) (iD K V1 V0)) U9)
 (ar (aN (aH dD (tC (.int 1)) (aL sp_law_take (aX V0 (gP (iH K) (ay V4))))) Lv)
 (ar (aN (aH kf (aH kf (Cr (rK K) V9 (fC) (gM (tC (.int 1)))) (Cr (rK K) V9 (gM GJ) (fC))) (Cr (rK K) V9 (gM (tC (.int 1))) (gM GJ))) U9)
 (ar (aN (cI 3 [6] (bO K V5) (jM K 3 (bv U0 (bv U1 (bv U2 (jH))))) (iS) (bg (cg (iD K V3 V0) V1 (iD K V3 V2)))) U5)
 (aW (bg (am V2 (cg V3 V9 V5))))))))))
def wR:List Str:=["pen","told","asks","says","rooms","doors","names","room","name","some","at"]
inductive dz(C:Addr)(vs:List V)(H:Hp)(Q:VK)(E:XK):Prop
 |mk (x:Addr) (J0 J1 J2:Zb) (ds:List ao):(vs=[.ref x])->(bV C H x J0 J1 J2 ds)->(∀(t':Addr) (F:Zb) (H':Hp),H' t'=some (.tup ((J2.filter fun r=>decide (r∈F)).map V.str))->(∀w,w∈F↔iN ds (J2.take 1) w)->ab H H'->Q (.ref t') H')->dz C vs H Q E
theorem wH{K:Za}(h:dz C n H Q E):zo K (sp_with_still C) C (kH C) (bo Q) (start Az n) H:=by
 obtain⟨x,f,i,a,j,rfl,M,k⟩:=h;obtain⟨o,fs,I,J,L,N,O,T,p,U,Y,q,r,s,t,a1,a2,a3,u,_⟩:=M.at_;have v:fX (a.map V.str) none (some 1)=(a.take 1).map V.str:=t_ a 1;refine⟨_,rfl,_,rfl,x,o,fs,rfl,t,u,x,f,i,a,j,rfl,M,fun m e=>⟨_,rfl,m,_,rfl,aw.of aa,fun l w=>?_⟩⟩;rw[v];have S:ab H (upd (upd H m (.lst (a.map V.str))) l (.lst ((a.take 1).map V.str))):=(ab.new e).trans (ab.new w);exact⟨x,l,a.take 1,f,i,a,j,rfl,M.same S,aa,fun g y=>hZ y,fun z F A B D G=>k z F A B D (S.trans G)⟩
theorem BK{K:Za}{xs ys:List V}{g:TG}{o:TS}{D:si}{σ:L2.St}{H:Hp}(r:xs.length=ys.length)(Pv:Nat->L2.St->Hp->Prop)(s:Pv 0 σ H)(w:∀i σ H,i<=xs.length->Pv i σ H->aw K H a xs/\aw K H b ys)
  (z:∀i x y σ H p,xs[i]?=some x->ys[i]?=some y->Pv i σ H->H p=none->g (.ref p) σ (upd H p (.tup [x,y])) fun σ2 k=>o { D with nx:=Pv (i+1),ct:=Pv (i+1),bk:=D.nx } σ2 k) (A:∀σ H,Pv xs.length σ H->D.nx σ H) :
  ∃W:Nat->Nat->L2.St->Hp->Prop,(∃m,W 0 m σ H)/\∀i m σ H,W i m σ H ->
   ((Mf K a b).stop i H/\D.nx σ H)∨((Mf K a b).go i H/\∃N:L2.St->Hp->Prop,(∀σ' f,N σ' f->∃q,q<m/\W (i+1) q σ' f)/\∀x f,(Mf K a b).yld i H x f->g x σ f fun σ2 k=>o { D with nx:=N,ct:=N,bk:=D.nx } σ2 k):=by
 refine⟨fun i m σ H=>m=xs.length-i/\i<=xs.length/\Pv i σ H,⟨xs.length,by simp,dL _,s⟩,?_⟩;rintro i m σ H ⟨rfl,B,p⟩;obtain⟨l,n⟩:=w i σ H B p;by_cases h:i<xs.length
 ·have j:i<ys.length:=by omega
  refine .inr ⟨⟨xs,ys,xs[i],ys[i],l,n,by simp[h],by simp[j]⟩,Pv (i+1),fun σ' f C=>⟨xs.length-(i+1),by omega,rfl,h,C⟩,fun x f y=>?_⟩;obtain⟨t,u,v,rfl,E,G,I,rfl⟩:=y;exact z i u v σ H t (G xs l) (I ys n) p E
 ·have e:i=xs.length:=by omega
  subst e;exact .inl ⟨⟨xs,ys,l,n,.inl (aD _)⟩,A σ H p⟩
def GR(ps:List (Str×Str)):List (fR×V):=ps.map fun x=>(.inr x.1,.str x.2)
def IZ:List (Str×Str)->Str->Str
 |[],r=>r
 | (a,b)::ps,r=>if a=r then b else IZ ps r
theorem EQ{r:Str}:∀{e:List (Str×Str)},r∈e.map (·.1)->be (GR e) (.inr r:fR)=some (.str (IZ e r))
 |[],h=>by cases h
 | (a,b)::e,h=>by
  unfold GR be IZ;rw[bG,mM];by_cases c:a=r
  ·rw[if_pos c,zzr1 (by rw[c])]
   rfl
  ·rw[if_neg c,zzr0 (fun z=>c (by injection z))];have:r∈e.map (·.1):=by
    rcases cu.mp h with z|z
    ·exact absurd z.symm c
    ·exact z
   exact EQ this
theorem Bw{r:Str}:∀{e:List (Str×Str)},r∉e.map (·.1)->be (GR e) (.inr r:fR)=none
 |[],_=>rfl
 | (a,b)::e,h=>by
  unfold GR be;rw[bG,mM,zzr0 (fun z=>h (by injection z with z;rw[bG];exact cu.mpr (.inl z.symm)))];exact Bw fun z=>h (by rw[bG];exact c_ _ z)
theorem HX{a:List (Str×Str)}{r w:Str}(h:r∉a.map (·.1)):dq (GR a) (.inr r) (.str w)=GR (a++[(r,w)]):=by
 rw[iI _ (Bw h)];unfold GR;rw[av]
 rfl
theorem yV:∀{a e:Zb},e.length=a.length->(a.zip e).map (·.1)=a
 |[],_,_=>by simp
 |_::_,[],h=>by cases h
 |r::a,w::e,h=>by
  rw[List.zip_cons_cons,bG,yV (by simpa using h)]
theorem Ey:∀{a e:Zb},a.Nodup->e.length=a.length->a.map (IZ (a.zip e))=e
 |[],[],_,_=>rfl
 |[],_::_,_,h=>by cases h
 |_::_,[],_,h=>by cases h
 |r::a,w::e,g,h=>by
  rw[List.zip_cons_cons,bG];have f:=gp.mp g;have i:IZ ((r,w)::a.zip e) r=w:=by unfold IZ;rw[if_pos rfl]
  have j:a.map (IZ ((r,w)::a.zip e))=a.map (IZ (a.zip e)):=by
   refine List.map_congr_left fun x k=>?_;show(if r=x then w else IZ (a.zip e) x)=_
   rw[if_neg (fun z=>f.1 (by rw[z];exact k))]
  rw[i,j,Ey f.2 (by simpa using h)]
def wD(f:Str->Str)(d:ao):ao:=⟨f d.a,d.sg,f d.b⟩
theorem Le{h g:Zb}{f:Str->Str}(l:h.map f=g)(n:g.Nodup){a b:Str}(o:a∈h)(p:b∈h)(e:f a=f b):a=b:=by
 obtain⟨i,m⟩:=gK o;obtain⟨j,k⟩:=gK p;have q:g[i]?=some (f a):=by rw[<-l,cH,m];rfl
 have r:g[j]?=some (f a):=by rw[<-l,cH,k,e];rfl
 have:=t5 n q r;subst this;rw[m]at k;exact fM k
theorem FE{k:Zb}{f:Str->Str}{ds:List ao}(inj:∀a∈k,∀b∈k,f a=f b->a=b)(g:∀d∈ds,d.a∈k/\d.b∈k)(h:Reach (ds.map (wD f)) x y):
  ∃a∈k,∃b∈k,x=f a/\y=f b/\Reach ds a b:=by
 have j:∀{u v:Str},(⟨u,aF,v⟩:ao)∈ds.map (wD f)->∃a b,(⟨a,aF,b⟩:ao)∈ds/\u=f a/\v=f b:=by
  intro u v e;obtain⟨⟨a,s,b⟩,i,e⟩:=aS.mp e;unfold wD at e;injection e with m l n;simp only at l;subst l;exact⟨a,b,i,m.symm,n.symm⟩
 induction h with
 |one e =>
  obtain⟨a,b,i,rfl,rfl⟩:=j e;exact⟨a,(g _ i).1,b,(g _ i).2,rfl,rfl,.one i⟩
 |step r e p =>
  obtain⟨a,q,b,t,m,l,w⟩:=p;obtain⟨o,z,i,n,rfl⟩:=j e;have:b=o:=inj b t o (g _ i).1 (l.symm.trans n);subst this;exact⟨a,q,z,(g _ i).2,m,rfl,.step w i⟩
theorem aQ.renamed{g:Zb}{f:Str->Str}(m:aQ G H k A)(l:lT B)(v:k.map f=B)(p:g.Perm B):aQ G H g (A.map (wD f)):=by
 have i:g.length=k.length:=by rw[p.length_eq,<-v,ah]
 have inj:∀a∈k,∀b∈k,f a=f b->a=b:=fun a o b x e=>Le v l.1 o x e;have h:∀d∈A,d.a∈k/\d.b∈k:=fun d q=>⟨(m.good d q).a,(m.good d q).b⟩;have j:∀a∈k,f a∈g:=fun a o=>p.mem_iff.mpr (by rw[<-v];exact oC o);refine{ m with okR:=⟨p.nodup_iff.mpr l.1,fun w I=>l.2 w (p.mem_iff.mp I)⟩,rooms0:=?_,rooms26:=by rw[i];exact m.rooms26,nodup:=?_,good:=?_,few:=by rw[ah];exact m.few,noround:=?_ }
 ·intro z;rw[z]at i;exact m.rooms0 (List.eq_nil_of_length_eq_zero i.symm)
 ·refine List.Pairwise.map _ ?_ (List.Pairwise.and_mem.mp m.nodup);rintro⟨a,s,b⟩ ⟨J,O,L⟩ ⟨C,D,y⟩ e;unfold wD at e;injection e with t u E;simp only at t u E;refine y ?_;rw[inj a (h _ C).1 J (h _ D).1 t,u,inj b (h _ C).2 L (h _ D).2 E]
 ·intro d q;obtain⟨M,n,rfl⟩:=aS.mp q;exact⟨j _ (h _ n).1,j _ (h _ n).2,(m.good M n).sg⟩
 ·intro r z;obtain⟨a,o,b,x,t,u,N⟩:=FE inj h z;have:=inj a o b x (t.symm.trans u);subst this;exact m.noround a N
theorem Gv(a:Zb){j k:Nat}(f:j<=k)(e:k<=a.length):fX (a.map V.str) (some (j:Int)) (some (k:Int))=((a.drop j).take (k-j)).map V.str:=by
 unfold fX;rw[HT.sIx_nat,HT.sIx_nat,ah,qQ e,qQ (aB f e),ul,yg]
theorem AQ(a:Zb)(n:Nat):(a.take 1++a.drop (1+n)++(a.drop 1).take (1+n-1)).Perm a:=by
 have e:a.drop (1+n)=(a.drop 1).drop n:=by rw[List.drop_drop]
 have f:1+n-1=n:=by omega
 rw[e,f,eV];have h:a=a.take 1++((a.drop 1).take n++(a.drop 1).drop n):=by rw[ye,ye]
 exact(List.Perm.append_left _ List.perm_append_comm).trans (by rw[<-h])
theorem t6(o:Str)(L:Zb):decide (gE o∈L.map gE)=decide (o∈L):=by
 by_cases c:o∈L
 ·rw[zzr1 (nL.mpr c),zzr1 c]
 ·rw[zzr0 (fun z=>c (nL.mp z)),zzr0 c]
theorem bP.same{K:Za}(S:ab H e)(h:bP K H a f):bP K e a f:=by
 rcases h with(h|⟨o,h⟩)|h
 ·exact .inl (.inl (S _ _ h))
 ·exact .inl (.inr ⟨o,S _ _ h⟩)
 ·exact .inr h
open Classical in
def closF(J2:Zb)(ds:List ao)(gs:Zb):List Str:=J2.filter fun r=>decide (iN ds gs r)
open Classical in
theorem nj{J2 F a:Zb}(e:∀w,w∈F↔iN f a w):J2.filter (fun r=>decide (r∈F))=closF J2 f a:=by
 unfold closF;refine List.filter_congr fun r _=>?_;by_cases c:r∈F
 ·rw[zzr1 c,zzr1 ((e r).mp c)]
 ·rw[zzr0 c,zzr0 fun z=>c ((e r).mpr z)]
open Classical in
theorem BS{f a:Zb}(h:∀g,g∈f↔g∈a):closF J2 i f=closF J2 i a:=by
 have:∀r,iN i f r↔iN i a r:=fun r=>⟨fun⟨g,j,e⟩=>⟨g,(h g).mp j,e⟩,fun⟨g,j,e⟩=>⟨g,(h g).mpr j,e⟩⟩;unfold closF;refine List.filter_congr fun r _=>?_;by_cases c:iN i f r
 ·rw[zzr1 c,zzr1 ((this r).mp c)]
 ·rw[zzr0 c,zzr0 fun z=>c ((this r).mpr z)]
theorem rX{a:Zb}:∀r∈closF J2 e a,r∈J2:=fun r h=>(fU.mp h).1
theorem kY{a:Zb}:(closF e f a).length<=e.length:=cQ _ _
def behF(J2:Zb)(ds:List ao)(J6 sg:Zb):List Str:=if sg=cC then J6.filter (fun r=>decide (r∉g8 ds))else closF J2 ds (dF ds sg J6)
theorem qG{J2 a:Zb}(e:∀r∈a,r∈J2):∀r∈behF J2 f a g,r∈J2:=by
 intro r h;unfold behF at h;split at h
 ·exact e r (fU.mp h).1
 ·exact rX r h
theorem f8{a e:Zb}(f:a.length<=1000)(g:e.length<=1000):(behF a h e i).length<=1000:=by
 unfold behF;split
 ·exact aB (cQ _ _) g
 ·exact aB kY f
theorem HG{f:Zb}{a:Zb}(e:∀r∈a,r∈f):(a.filter fun r=>decide (r∈f.filter (gU g)))=a.filter fun r=>decide (r∉g8 g):=by
 refine List.filter_congr fun r h=>?_;rw[<-Dh];cases q:gU g r with
 |true=>exact zzr1 (fU.mpr ⟨e r h,q⟩)
 |false=>exact zzr0 (fun z=>by rw[(fU.mp z).2]at q;cases q)
inductive tW(K:Za)(C:Addr)(vs:List V)(H:Hp)(Q:VK)(E:XK):Prop
 |mk (x t s:Addr) (J6 sg J0 J1 J2:Zb) (ds:List ao):(vs=[.ref x,.ref t,.ref s])->(bV C H x J0 J1 J2 ds)->(H t=some (.tup (J6.map V.str)))->(bP K H s (sg.map V.str))->((sg=cC∨H s=some (.tup (sg.map V.str))))->((∀r∈J6,r∈J2))->(J6.length<=1000)->(∀(t':Addr) (H':Hp),H' t'=some (.tup ((behF J2 ds J6 sg).map V.str))->ab H H'->Q (.ref t') H')->tW K C vs H Q E
theorem JA{K:Za}(g:∀H,bP K H U (cC.map V.str))(h:tW K C a H Q E):
  on K (sp_with_still C) C (jb C) U (jQ C) (bo Q) (start oz a) H:=by
 obtain⟨x,t,s,n,G,I,J,p,u,rfl,M,w,Y,y,j,hz,k⟩:=h;by_cases v:G=cC;rotate_left
 ·refine zS (E:=E) g ⟨x,t,s,n,G,I,J,p,u,rfl,M,w,y.resolve_left v,v,hz,fun z F e h1 hF S=>k z e ?_ S⟩;rw[h1,nj hF];unfold behF;rw[if_neg v]
 subst v;refine⟨_,rfl,iL cC,iL cC,aZ Y,aZ (g _),by rw[bL];decide,by rw[bL];decide,_,rfl,?_⟩;rw[zzr1 rfl];refine bT ?_;refine⟨_,rfl,t,rfl,⟨_,bP.of w⟩,fun f L=>?_⟩;refine vJ (xs:=n.map V.str) (fun i a e=>a=((n.take i).filter fun r=>decide (r∈p.filter (gU u))).map V.str/\ab H e/\e f=some (.lst a)) ⟨rfl,ab.new L,aa⟩ (fun i a e _ ⟨_,S,h'⟩=>⟨h',bP.of (S _ _ w)⟩) ?_ ?_
 ·rintro a e ⟨rfl,S,l⟩;rw[ah,bf]at l;refine⟨f,_,rfl,.inl ⟨aw.of l,fun z A=>k z _ ?_ (S.trans (ab.new A))⟩⟩;rw[aa,HG j];unfold behF;rw[if_pos rfl]
 ·rintro i a e x' B N ⟨rfl,S,l⟩;obtain⟨r,O,rfl⟩:=bJ B;have T:=M.same S;obtain⟨dx,fs,o1,o2,o3,o4,lv,qu,al,sl,ts,an,ap,as,g1,a1,_⟩:=T.at_;refine gN ?_;refine⟨_,rfl,x,dx,fs,rfl,g1,a1,_,rfl,x,r,I,J,p,u,rfl,T,_,rfl,?_⟩;have m:(((n.take i).filter fun r=>decide (r∈p.filter (gU u))).map V.str).length<aj:=by
   rw[ah];refine aq (aB (cQ _ _) ?_);rw[aJ];omega
  refine i7 (fun D=>?_) (fun D=>?_)
  ·refine⟨_,rfl,l,m,mY N ⟨?_,?_,aa⟩⟩
   ·rw[cw O,if_pos D,av];rfl
   ·intro b o q;rw[ai (ae q L)];exact S _ _ q
  ·refine mY N ⟨?_,S,l⟩;rw[cw O,if_neg D,dO]
theorem vG(a:List ao):DT.depths (a.map Ag)<=2:=by
 induction a with
 |nil=>exact dL _
 |cons x e f=>rw[bG];show max (DT.depth (Ag x)) (DT.depths _)<=2;rw[Af];omega
theorem xj(g:Cp j k l i):∃f a,i.sg=f::a/\(!decide (V.str f=V.str ("ask":Str)))=!m8 i:=by
 obtain⟨f,a,h⟩:∃f a,i.sg=f::a:=by
  rcases g.sg with⟨w,_,e⟩|⟨w,_,e⟩|e<;>exact⟨_,_,e⟩
 refine⟨f,a,h,?_⟩;unfold m8;rw[h];congr 1;show _=decide (f=("ask":Str));by_cases c:f=("ask":Str)
 ·rw[zzr1 c,zzr1 (by rw[c])]
 ·rw[zzr0 c,zzr0 (fun z=>c (by injection z))]
inductive rJ(K:Za)(vs:List V)(H:Hp)(Q:VK)(E:XK):Prop
 |mk (t ft s l1 l2 l3 l4:Addr) (ts:Ze) (J0 J1 J2 J6 sg:Zb) (ds:List ao):(vs=[.ref t,.ref ft,.ref s])->(hC H t l1 l2 l3 l4 ts J0 J1 J2 ds)->(aQ J0 J1 J2 ds)->(H ft=some (.tup (J6.map V.str)))->(bP K H s (sg.map V.str))->(J6.length<=1000)->(∀(t':Addr) (H':Hp),H' t'=some (.tup ((behF J2 ds J6 sg).map V.str))->ab H H'->Q (.ref t') H')->rJ K vs H Q E
abbrev ki(H:Hp)(us:Ze)(L:List (List Str)):Prop:=Paired (SignAt H) us L
theorem ki.kt(k:gF H a)(h:ki H e L):ki a e L:=Paired.mapP h fun _ _ r=>k _ _ r
def b0(J0 J1:Zb):List (List Str):=J0.map b9++J1.map gS++[cC]
theorem lS{K:Za}{H:Hp}{a l:Addr}{ws:Zb}{kd:Str}{Q:Hp->Prop}(s:H a=some (.lst (ws.map V.str)))(y:ws.length<=1000)(r:H l=none)
  (k:∀(f:Ze) (e:Hp),e l=some (.lst (f.map V.ref))->ki e f (ws.map fun w=>[kd,w])->ab H e->Q e) :
  eC 1 [] σ (IW K a) U0 iS (bg (aX (tC (.str kd)) V0)) H l Q:=by
 refine bY (xs:=ws.map V.str) (fun i g e=>∃f:List Addr,g=f.map V.ref/\ab H e/\e l=some (.lst g)/\ki e f ((ws.take i).map fun w=>[kd,w])) ⟨[],rfl,ab.new r,aa,.nil⟩ (fun i g e _ ⟨_,_,S,m,_⟩=>⟨m,aw.of (S _ _ s)⟩) ?_ ?_
 ·rintro g e ⟨f,rfl,S,m,h⟩;rw[ah,bf]at h;exact k f e m h S
 ·rintro i g e z n t ⟨f,rfl,S,p,h⟩;obtain⟨w,v,rfl⟩:=bJ n;refine gN (pL ?_);refine⟨_,rfl,(by show 2<=aj;decide),fun u j=>⟨kp p j,?_,mY t ⟨f++[u],by rw[av];rfl,?_,aa,?_⟩⟩⟩
  ·rw[ah,Paired.length h,ah,aJ];exact aq (by omega)
  ·intro b o q;rw[ai (ae q r)];exact kp (S _ _ q) j
  ·rw[take_snoc v,av];have x:gF e (upd (upd e u (.tup [.str kd,.str w])) l (.lst (f.map V.ref++[.ref u]))):=(ab.kt (ab.new j)).trans (fg (kp p j));exact gl (ki.kt x h) ((fg (kp p j)) _ _ aa)
theorem DO(a:List V)(k:Nat):fX a (some (k:Int)) none=a.drop k:=by
 unfold fX;rw[HT.sIx_none,HT.sIx_nat,um (by rw[dS];omega)];by_cases h:k<=a.length
 ·rw[qQ h]
 ·rw[Nat.min_eq_right (by omega),qX (by simp),qX (by omega)]
theorem Paired.takeP{α β:Type}{R:α->β->Prop}:∀(n:Nat) {a:List α}{e:List β},Paired R a e->Paired R (a.take n) (e.take n)
 |0,_,_,_=>by rw[yb,yb];exact .nil
 |_+1,_,_,.nil=>.nil
 |n+1,_,_,.cons r t=>.cons r (Paired.takeP n t)
theorem Paired.dropP{α β:Type}{R:α->β->Prop}:∀(n:Nat) {a:List α}{e:List β},Paired R a e->Paired R (a.drop n) (e.drop n)
 |0,_,_,h=>h
 |_+1,_,_,.nil=>.nil
 |n+1,_,_,.cons r t=>Paired.dropP n t
def uO(K:Za):TS :=
 aW (gP (dX K) (ay (fQ K V0 "own_asks")))
def vW:List Str:=["self"]
def uN(K:Za):TS :=
 aW (gP (dX K) (ay (fQ K V0 "own_says")))
def vV:List Str:=["self"]
theorem uW(h:bV C H x m n o p):∃(j:Addr) (fs:List (Str×V)) (f g i:Addr) (a:List (Str×Addr)),H x=some (.ins C j fs)/\lk "asks" fs=none/\lk "says" fs=none/\lk "doors_from" fs=none/\lk "is_quiet" fs=none/\lk "own_asks" fs=some (.ref f)/\lk "own_says" fs=some (.ref g)/\lk "leaving" fs=some (.ref i) /\
  H f=some (.lst (m.map V.str))/\H g=some (.lst (n.map V.str))/\a.map (·.1)=o/\H i=some (.dK (eB Sum.inr a))/\(∀x∈a,∃k,H x.2=some (.lst (k.map V.ref))/\c6 H k (cK p x.1)):=by
 obtain⟨j,fs,f,g,I,J,i,M,N,O,Q,a,q,r,l,a1,a2,a3,T,s,t,U,Y,u,b6,b7,b8,L,v,w,y,c4,G,d1,d2,d3⟩:=h.at_;obtain⟨z,A,e,B,D,e3,E⟩:=h.more;rw[l]at e;cases e;exact⟨j,fs,f,g,i,a,l,B,D,E,a1,s,t,u,L.a1,L.a2,v,w,y⟩
inductive nI(C:Addr)(vs:List V)(H:Hp)(Q:VK)(E:XK):Prop
 |mk (x:Addr) (J0 J1 J2:Zb) (ds:List ao):(vs=[.ref x])->(bV C H x J0 J1 J2 ds)->(∀l,H l=none->Q (.ref l) (upd H l (.lst (J0.map V.str))))->nI C vs H Q E
theorem JC{K:Za}(M:MC K C)(h:nI C e H Q E):uO K (bo Q) (start vW e) H:=by
 obtain⟨x,m,n,o,p,rfl,h,k⟩:=h;obtain⟨f,fs,a,q,r,g,i,a1,a2,a3,s,j,t,u,l,v,_⟩:=uW h;exact⟨_,rfl,x,C,f,fs,.ref a,rfl,i,M.cls,M.a1,j,.inl ⟨a,_,rfl,.inl (aw.of l),k⟩⟩
inductive nE(C:Addr)(vs:List V)(H:Hp)(Q:VK)(E:XK):Prop
 |mk (x:Addr) (J0 J1 J2:Zb) (ds:List ao):(vs=[.ref x])->(bV C H x J0 J1 J2 ds)->(∀l,H l=none->Q (.ref l) (upd H l (.lst (J1.map V.str))))->nE C vs H Q E
theorem Ju{K:Za}(M:MC K C)(h:nE C e H Q E):uN K (bo Q) (start vV e) H:=by
 obtain⟨x,m,n,o,p,rfl,h,k⟩:=h;obtain⟨f,fs,q,a,r,g,i,a1,a2,a3,s,t,j,u,v,l,_⟩:=uW h;exact⟨_,rfl,x,C,f,fs,.ref a,rfl,i,M.cls,M.a2,j,.inl ⟨a,_,rfl,.inl (aw.of l),k⟩⟩

mutual
def DT.sm:DT->Bool
 |.k _=>true
 |.t l=>decide (l.length<=1000000) && DT.sms l
 |.s l=>decide (l.length<=1000000) && DT.sms l
def DT.sms:List DT->Bool
 |[]=>true
 |a::r=>DT.sm a && DT.sms r
end
theorem Lq:("\n":Str).length=1:=by decide +kernel
abbrev Mu:Str:="abcdefghijklmnopqrstuvwxyz"
theorem JT{n j:Nat}(h:j<n):GS n (j:Int)=some j:=by
 unfold GS;rw[if_pos (Int.natCast_nonneg j),if_pos (by omega)]
 rfl
theorem Reach.mono{f ds':List ao}(h:∀a b,(⟨a,aF,b⟩:ao)∈f->(⟨a,aF,b⟩:ao)∈ds'){a b:Str}(r:Reach f a b):Reach ds' a b:=by
 induction r with
 |one e=>exact .one (h _ _ e)
 |step _ e g=>exact .step g (h _ _ e)
theorem HZ{K:Za}{H:Hp}{l q:Addr}{e:Ze}{Q:VK}(f:H l=some (.lst (e.map V.ref)))(g:c6 H e a)(h:H q=some (.lst []))(i:a≠[]->Q (.bl true) H)(j:a=[]->Q (.bl false) H):wK K (.ref l) (.ref q) H Q:=by
 refine⟨.s (a.map Ag),.s [],(by unfold vY;exact⟨l,_,rfl,aw.of f,g.dIns⟩),(by unfold vY;exact⟨q,_,rfl,aw.of h,by unfold DIns;rfl⟩),?_,(by decide),?_⟩
 ·show DT.depths _+1<=8;have:=vG a;omega
 ·by_cases c:a=[]
  ·subst c;rw[zzr1 (show DT.s (([]:List ao).map Ag)=DT.s []from rfl)];exact j rfl
  ·rw[zzr0 (fun z=>c (by injection z with z;exact qS.mp z))];exact i c
abbrev Kw:List V->Hp->VK->Prop:=fun xs H Q=>(∃i,xs=[.int i]/\Q (.int i) H)∨∃k,xs=[.bl k]/\Q (.int (if k then 1 else 0)) H
def Ji(K:Za)(C_Machine:Addr)(sp_Machine_led_from:Sp)(sp_Machine_goals:Sp):TS :=
 aW (gP (rAny K) (am (cI 1 [0,2] (bO K (aH kf (c9 (ay V1)) (cq C_Machine "led_from" sp_Machine_led_from [] E0 V0 (ay V1)))) U0 (iS) (aH HE (gP (iH K) (am (cq C_Machine "goals" sp_Machine_goals [] E0 V1 (aX V0 (bg (am (tC (.str "ask")) (ay V2))))) bh)) (tC (.int 0)))) bh))
def Kl:List Str:=["I","room","ask"]
def wd(K:Za)(sp_law_put:Sp)(sp_law_take:Sp)(sp_law_still_on:Sp):TS :=
 ar (aN V1 (jM K 4 (bv U2 (bv U3 (bv U4 (bv U5 (jH)))))))
 (ar (aN (gP (dX K) (ay V5)) U5)
 (ar (dW (bO K V4) U6 (dW (bO K V2) U7 (ar (aN (aL sp_law_still_on (aX V5 (c9 (ay V6)))) U8)
 (cx (aU (aH (mU K) (cI 1 [8,7] (bO K V5) U0 (tF (aU (aH (qa K false) (aH (sH K) V0 (tC (.int 0))) V1)) (aU (aH (mU K) (aH (sH K) V0 (tC (.int 1))) (bg (aX (tC (.str "ask")) V2))))) V0) (c9 (bh)))) (ar (aN (aH (dY K) (c9 (am V6 (am (aH (dY K) V4 (aL sp_law_take (aX V0 (gP (iH K) (ay V4))))) bh))) (aL sp_law_take (aX V0 (tC (.int 2))))) U9)
 (cP (aL sp_law_put (am V5 (am (bg (cg V6 (bg (aX (tC (.str "ask")) V7)) V9)) bh))))) (bC)))))
 (aW (bg (am V2 (cg V3 V4 V5))))))
def wQ:List Str:=["pen","told","asks","says","rooms","doors","room","ask","there","other"]
def i4(ds:List ao)(r a:Str):Prop:=∃h,(h=r∨Reach ds r h)/\∃b,(⟨h,b9 a,b⟩:ao)∈ds
open Classical in
def takesB(ds:List ao)(r a:Str):Bool:=decide (i4 ds r a)
theorem mO:takesB e r a=true↔i4 e r a:=by unfold takesB;exact @decide_eq_true_iff _ (Classical.propDecidable _)
theorem y_:takesB e r a=false↔¬i4 e r a:=by unfold takesB;exact @decide_eq_false_iff_not _ (Classical.propDecidable _)
theorem sQ{h:Str}{e:Zb}:0<(bF f (h,e)).length↔∃b,(⟨h,e,b⟩:ao)∈f:=by
 rw[List.length_pos_iff_exists_mem];constructor
 ·rintro⟨b,a⟩;exact⟨b,e_.mp a⟩
 ·rintro⟨b,a⟩;exact⟨b,e_.mpr a⟩
theorem Fw{L:Zb}(i:∀w,w∈L↔Reach ds r w):((r::L).map fun h=>decide ((0:Int)<(bF ds (h,b9 a)).length)).any id=takesB ds r a:=by
 rw[wY,mO,List.any_eq_true];constructor
 ·rintro⟨b,f,e⟩;obtain⟨h,g,rfl⟩:=aS.mp f;have:=of_decide_eq_true e;refine⟨h,?_,sQ.mp (by omega)⟩;rcases cu.mp g with e|e
  ·exact .inl e
  ·exact .inr ((i h).mp e)
 ·rintro⟨h,g,f⟩;refine⟨true,aS.mpr ⟨h,?_,zzr1 (by have:=sQ.mpr f;omega)⟩,rfl⟩;rcases g with e|e
  ·rw[e];exact cW
  ·exact c_ _ ((i h).mpr e)
inductive kG(C:Addr)(vs:List V)(H:Hp)(Q:VK)(E:XK):Prop
 |mk (x:Addr) (r a:Str) (J0 J1 J2:Zb) (ds:List ao):(vs=[.ref x,.str r,.str a])->(bV C H x J0 J1 J2 ds)->(r∈J2)->(∀H',ab H H'->Q (.bl (takesB ds r a)) H')->kG C vs H Q E
theorem Hk{K:Za}(h:kG C j H Q E):Ji K C (iF C) (jb C) (bo Q) (start Kl j) H:=by
 obtain⟨x,r,a,J0,J1,t,p,rfl,M,hr,k⟩:=h;refine⟨_,rfl,(by show 1<=aj;decide),fun l u=>?_⟩;have v:ab H (upd H l (.lst [.str r])):=ab.new u;have e1:upd H l (.lst [.str r]) l=some (.lst [.str r]):=aa;generalize upd H l (.lst [.str r])=H1 at v e1 ⊢;have M1:=M.same v;obtain⟨z,fs,o1,o2,o3,o4,lv,qu,A,sl,ts,B,D,G,I,a1,a2,a3,a4,_⟩:=id M1.at_;refine⟨_,rfl,x,z,fs,rfl,I,a3,_,rfl,x,r,J0,J1,t,p,rfl,M1,hr,fun l2 L J e2 nd hL _ S2=>?_⟩;have N:∀w∈L,w∈t:=fun w O=>((hL w).mp O).in_ fun d hd=>(M.ok.good d hd).b;have zL:=mZ nd N;have z3:=M.ok.rooms26;refine⟨l,l2,_,_,rfl,rfl,S2 _ _ e1,e2,by rw[ah];show 1+L.length<=aj;exact cV (aq (by omega)),fun m T=>?_⟩;have eq:([.str r]++L.map V.str:List V)=(r::L).map V.str:=rfl;rw[eq];have U:ab H (upd J m (.lst ((r::L).map V.str))):=(v.trans S2).trans (ab.new T);have Y:upd J m (.lst ((r::L).map V.str)) m=some (.lst ((r::L).map V.str)):=aa;generalize upd J m (.lst ((r::L).map V.str))=H3 at U Y ⊢;refine⟨m,rfl,⟨_,aw.of Y⟩,fun q hq=>?_⟩;refine bY (xs:=(r::L).map V.str) (fun i j f=>j=(((r::L).take i).map fun h=>decide ((0:Int)<(bF p (h,b9 a)).length)).map V.bl/\ab H3 f/\f q=some (.lst j)) ⟨rfl,ab.new hq,aa⟩ (fun i j f _ ⟨_,S,h⟩=>⟨h,aw.of (S _ _ Y)⟩) ?_ ?_
 ·rintro j f ⟨rfl,S,h⟩;rw[ah,bf]at h;refine⟨q,_,rfl,aw.of h,?_⟩;rw[Fw hL];exact k f (U.trans S)
 ·rintro i j f y hy hi ⟨rfl,S,h⟩;obtain⟨w,O,rfl⟩:=bJ hy;refine gN (pL ?_);have M':=M.same (U.trans S);obtain⟨z,fs,o1,o2,o3,o4,lv,qu,A,sl,ts,B,D,G,I,a1,a2,a3,a4,_⟩:=id M'.at_;refine⟨_,rfl,x,z,fs,rfl,I,a2,_,rfl,_,rfl,(by show 2<=aj;decide),fun s hs=>?_⟩;have S4:ab f (upd f s (.tup ((b9 a).map V.str))):=ab.new hs;refine⟨x,s,w,b9 a,J0,J1,t,p,rfl,M'.same S4,aa,fun g H5 hg _ S5=>?_⟩;have n:=S4.trans S5;refine .inl ⟨g,_,rfl,.inl (aw.of hg),_,_,rfl,rfl,n _ _ h,?_,?_⟩
  ·rw[ah,ah,aJ];exact aq (by rw[fS];omega)
  refine mY hi ⟨?_,fun b o e=>?_,aa⟩
  ·rw[take_snoc O,av,av];show _++[V.bl (decide ((0:Int)<(((bF p (w,b9 a)).map V.str).length:Nat)))]=_;rw[ah];rfl
  ·rw[ai (ae e hq)];exact n _ _ (S _ _ e)
theorem ER{K:Za}{H:Hp}{l m:Addr}{a b:Zb}{Q:VK}(e:H l=some (.lst (a.map V.str)))(f:H m=some (.lst (b.map V.str)))(k:Q (.bl (!decide (a=b))) H):wK K (.ref l) (.ref m) H Q:=by
 refine⟨.s (a.map gE),.s (b.map gE),vH (aw.of e),vH (aw.of f),?_,?_,?_⟩
 ·show DT.depths _+1<=8;rw[fh];decide
 ·show DT.depths _+1<=8;rw[fh];decide
 ·rw[decide_eq_decide.mpr (show DT.s (a.map gE)=DT.s (b.map gE)↔a=b from⟨fun h=>iK (by injection h),fun h=>by rw[h]⟩)];exact k
def B_(F:Zb)(a:Str)(d:ao):Bool:=decide (d.a∈F) && decide (d.sg=b9 a)
theorem BZ{F:Zb}{r:Str}(f:∀w,w∈F↔iN i [r] w):i.filter (B_ F a)=[]↔takesB i r a=false:=by
 rw[y_,List.filter_eq_nil_iff];constructor
 ·rintro h ⟨w,j,b,k⟩;refine h _ k ?_;unfold B_;rw[zzr1,zzr1]
  ·rfl
  ·rfl
  ·exact(f w).mpr ⟨r,cW,j⟩
 ·intro n d hd q;unfold B_ at q;rw[yG]at q;have l:=of_decide_eq_true q.1;have m:=of_decide_eq_true q.2;obtain⟨g,o,e⟩:=(f _).mp l;have:g=r:=by simpa using o
  subst this;obtain⟨x,p,b⟩:=d;exact n ⟨x,e,b,by rw[<-m];exact hd⟩
theorem IP{K:Za}{σ:L2.St}{jt ja:Nat}{I f l:Addr}{B:Ze}{F:Zb}{a:Str}{m:Hp}{Q:Hp->Prop}(st:σ[jt]?=some (some (.ref f)))(N:σ[ja]?=some (some (.str a)))
  (O:m I=some (.lst (B.map V.ref))) (hd:c6 m B v) (T:m f=some (.lst (F.map V.str))) (z:v.length<=1000) (J:m l=none)
  (k:∀(g:Ze) (e:Hp),e l=some (.lst (g.map V.ref))->c6 e g (v.filter (B_ F a))->ab m e->Q e) :
  eC 1 [jt,ja] σ (IW K I) U0 (tF (aU (aH (qa K false) (aH (sH K) V0 (tC (.int 0))) V1)) (aU (aH (mU K) (aH (sH K) V0 (tC (.int 1))) (bg (aX (tC (.str "ask")) V2))))) V0 m l Q:=by
 have U:dH 1 [jt,ja] σ=[none,some (.ref f),some (.str a)]:=by simp[dH,st,N]
 refine bY (xs:=B.map V.ref) (fun i r e=>∃g:List Addr,r=g.map V.ref/\c6 e g ((v.take i).filter (B_ F a))/\ab m e/\e l=some (.lst r))
  ⟨[],rfl,.nil,ab.new J,aa⟩ (fun i r e _ ⟨_,_,_,S,n⟩=>⟨n,aw.of (S _ _ O)⟩) ?_ ?_
 ·rintro r e ⟨g,rfl,D,S,n⟩;rw[ah,Paired.length hd,bf]at D;exact k g e n D S
 ·rintro i r e y Y C ⟨g,rfl,D,S,n⟩;obtain⟨u,hu,rfl⟩:=bZ Y;obtain⟨w,j,E⟩:=Paired.getL hd hu;obtain⟨sb,p,t⟩:=E.kt (ab.kt S);have al:i<v.length:=(bN.mp j).1;have zu:g.length<=i:=by
   have:=Paired.length D;rw[this];refine aB (cQ _ _) ?_;rw[aJ];omega
  rw[U];refine gN ?_;refine⟨_,rfl,.inr (.inl ⟨u,_,0,_,rfl,rfl,bP.of p,rfl,_,rfl,gE w.a,F.map gE,f,_,ox _,rfl,.inl (aw.of (S _ _ T)),lR _,(by show 0<=8;decide),by rw[fh];decide,_,rfl,?_⟩)⟩;rw[if_neg iB,t6];by_cases x:w.a∈F;rotate_left
  ·rw[zzr0 x];refine bD (bD (mY C ⟨g,rfl,?_,S,n⟩));rw[lQ j,if_neg (by unfold B_;rw[zzr0 x,El];decide),dO];exact D
  rw[zzr1 x];refine bT ?_;refine⟨_,rfl,.inr (.inl ⟨u,_,1,_,rfl,rfl,bP.of p,rfl,_,rfl,(by show 2<=aj;decide),fun s hs=>?_⟩)⟩;have h:ab e (upd e s (.tup ((b9 a).map V.str))):=ab.new hs;have L:upd e s (.tup ((b9 a).map V.str)) s=some (.tup ((b9 a).map V.str)):=aa;have G:(.tup [.str "ask",.str a]:HO)=.tup ((b9 a).map V.str):=rfl;rw[G];generalize upd e s (.tup ((b9 a).map V.str))=H at h L ⊢;have M:=D.kt (ab.kt h);refine⟨iL w.sg,iL (b9 a),aZ (bP.of (h _ _ t)),aZ (bP.of L),by rw[bL];decide,by rw[bL];decide,_,rfl,?_⟩;rw[fI];by_cases A:w.sg=b9 a;rotate_left
  ·rw[zzr0 A];refine bD (mY C ⟨g,rfl,?_,S.trans h,h _ _ n⟩);rw[lQ j,if_neg (by unfold B_;rw[zzr0 A,yL];decide),dO];exact M
  rw[zzr1 A];refine bT ?_;have S3:ab m (upd H l (.lst (g.map V.ref++[.ref u]))):=fun b o q=>by
   rw[ai (ae q J)];exact h _ _ (S _ _ q)
  have kt:gF H (upd H l (.lst (g.map V.ref++[.ref u]))):=fun b xs q=>by
   rw[ai (fun z=>by rw[z,h _ _ n]at q;cases q)];exact q
  refine⟨_,rfl,h _ _ n,by rw[ah];exact aq (by omega),mY C ⟨g++[u],by rw[av];rfl,?_,S3,aa⟩⟩;rw[lQ j,if_pos (by unfold B_;rw[zzr1 x,zzr1 A];rfl)];exact gl (M.kt kt) ⟨sb,kt _ _ (h _ _ p),kt _ _ (h _ _ t)⟩
theorem Ix{K:Za}{H:Hp}{l q:Addr}{e:Ze}{Q:VK}(f:H l=some (.lst (e.map V.ref)))(g:c6 H e a)(i:H q=some (.lst []))(h:Q (.bl (decide (a=[]))) H):mU K (.ref l) (.ref q) H Q:=by
 refine⟨.s (a.map Ag),.s [],(by unfold vY;exact⟨l,_,rfl,aw.of f,g.dIns⟩),(by unfold vY;exact⟨q,_,rfl,aw.of i,by unfold DIns;rfl⟩),?_,(by decide),?_⟩
 ·show DT.depths _+1<=8;have:=vG a;omega
 ·rw[decide_eq_decide.mpr (show DT.s (a.map Ag)=DT.s []↔a=[]from⟨fun z=>qS.mp (by injection z),fun z=>by rw[z];rfl⟩)];exact h
theorem Reach.unask{ds:List ao}{d:ao}(n:d.sg≠aF)(r:Reach (ds++[d]) a b):Reach ds a b:=by
 have f:∀{x y:Str},(⟨x,aF,y⟩:ao)∈ds++[d]->(⟨x,aF,y⟩:ao)∈ds:=fun q=>by
  rcases bM.mp q with q|q
  ·exact q
  ·have e:=dR.mp q;exact absurd (by rw[<-e]) n
 induction r with
 |one q=>exact .one (f q)
 |step _ q g=>exact .step g (f q)
theorem i4.mono{ds e:List ao}(h:∀d∈ds,d∈e):i4 ds r a->i4 e r a:=fun⟨w,f,b,g⟩=>⟨w,f.imp id (Reach.mono fun x y=>h _),b,h _ g⟩
theorem mem_putD{x:ao}:x∈mV a d↔x∈a∨x=d:=by
 unfold mV;split
 ·rename_i h;exact⟨.inl,fun z=>z.elim id fun e=>by rw[e];exact h⟩
 ·simp
theorem aQ.putOne(m:aQ i j k f)(g:Cp i j k d)(n:d.sg≠aF)(z:f.length+1<=1000):aQ i j k (mV f d):=by
 refine⟨m.okA,m.okS,m.apart,m.okR,m.asks0,m.says0,m.rooms0,m.asks4,m.says4,m.rooms26,?_,fun x l=>?_,?_,fun r q=>?_⟩
 ·unfold mV;split
  ·exact m.nodup
  ·rename_i h;rw[dw];exact⟨m.nodup,by simp,fun a o b p e=>h (by rw[<-dR.1 p,<-e];exact o)⟩
 ·rcases mem_putD.mp l with h|h
  ·exact m.good x h
  ·rw[h];exact g
 ·have:=u7 f d;omega
 ·refine m.noround r ?_;unfold mV at q;split at q
  ·exact q
  ·exact q.unask n
theorem xV(a:Str):b9 a≠aF:=by unfold b9 aF;intro h;injection h with _ h;cases h
structure TX(H0:Hp)(p c l:Addr)(R:List ao->Prop)(H:Hp):Prop where
 pen:hW H p c
 ds:∃ts ds,H l=some (.lst (ts.map V.ref))/\c6 H ts ds/\R ds
 ex:bA p H0 H
 fr:H0 l=none
 pl:p≠l
 cl:c≠l
section
variable{H0 H H':Hp}{p c l:Addr}{R R':List ao->Prop}
theorem TX.took(h:TX H0 p c l R H)(a:hW H' p c)(e:bA p H H'):TX H0 p c l R H':=by
 obtain⟨f,g,i,j,k⟩:=h.ds;obtain⟨n,m⟩:=h.pen.lst;exact⟨a,⟨f,g,e _ _ i h.pl.symm,j.kt (e.kt m),k⟩,h.ex.trans e,h.fr,h.pl,h.cl⟩
theorem TX.same(h:TX H0 p c l R H)(S:ab H H'):TX H0 p c l R H':=h.took (h.pen.ex S) (ab.exB S)
theorem TX.imp(h:TX H0 p c l R H)(q:∀a,R a->R' a):TX H0 p c l R' H:=by
 obtain⟨e,a,f,g,i⟩:=h.ds;exact⟨h.pen,⟨e,a,f,g,q _ i⟩,h.ex,h.fr,h.pl,h.cl⟩
theorem TX.put{a:Ze}{e:List ao}(h:TX H0 p c l R H)(g:∃f,H l=some (.lst f))(i:c6 H a e)(r:R' e):TX H0 p c l R' (upd H l (.lst (a.map V.ref))):=by
 obtain⟨f,j⟩:=g;refine⟨h.pen.upd h.pl h.cl,⟨a,e,aa,i.kt fun b k q=>?_,r⟩,fun b o q n=>?_,h.fr,h.pl,h.cl⟩
 ·rw[ai (fun z=>by rw[z,j]at q;cases q)];exact q
 ·rw[ai (ae q h.fr)];exact h.ex _ _ q n
end
def WR(J0 J1 J2:Zb)(D:List (Str×Str))(n:Nat)(ds:List ao):Prop:=aQ J0 J1 J2 ds/\ds.length<=n/\∀x∈D,i4 ds x.1 x.2
theorem WR.up{a:Nat}(h:WR J0 e f D n g)(z:n<=a):WR J0 e f D a g:=⟨h.1,aB h.2.1 z,h.2.2⟩
inductive lr (vs:List V)(H:Hp)(Q:VK)(E:XK):Prop
 |mk (p c t l1 l2 l3 l4:Addr) (ts:Ze) (J0 J1 J2:Zb) (ds:List ao):(vs=[.ref p,.ref t])->(hW H p c)->(hC H t l1 l2 l3 l4 ts J0 J1 J2 ds)->(aQ J0 J1 J2 ds)->(J2.length<=26)->(ds.length<=800)->(∀(t' l4':Addr) (ts':Ze) (ds':List ao) (H':Hp),hC H' t' l1 l2 l3 l4' ts' J0 J1 J2 ds'->aQ J0 J1 J2 ds'->(∀r∈J2,∀a∈J0,i4 ds' r a)->ds'.length<=ds.length+4 * J2.length->hW H' p c->bA p H H'->Q (.ref t') H')->lr  vs H Q E
theorem C7{K:Za}(h:lr vs H Q E):wd K lC fD (dP K) (bo Q) (start wQ vs) H:=by
 obtain⟨p,c,t,l1,l2,N,l4,ts,J0,O,A,ds,rfl,hp,T,m,bS,z8,k⟩:=h;have a4:=m.asks4;refine⟨_,rfl,t,_,rfl,bP.of T.t,rfl,_,_,rfl,_,_,rfl,_,_,rfl,_,_,rfl,rfl,?_⟩;refine⟨_,rfl,.inl ⟨l4,_,rfl,.inl (aw.of T.a4),fun f hf=>?_⟩⟩;have B0:TX H p c f (WR J0 O A [] ds.length) (upd H f (.lst (ts.map V.ref))):=⟨hp.ex (ab.new hf),⟨ts,ds,aa,T.ds.kt (ab.kt (ab.new hf)),m,aD _,by simp⟩,bA.new hf,hf,hp.nep hf,hp.nec hf⟩;generalize upd H f (.lst (ts.map V.ref))=H1 at B0 ⊢;have keep:∀{G:Hp}{R:List ao->Prop},TX H p c f R G->G l1=some (.lst (J0.map V.str))/\G l2=some (.lst (O.map V.str))/\G N=some (.lst (A.map V.str)):=fun B =>
  ⟨B.ex _ _ T.a1 (hp.ne_strs T.a1),B.ex _ _ T.a2 (hp.ne_strs T.a2),B.ex _ _ T.a3 (hp.ne_strs T.a3)⟩
 refine⟨_,rfl,N,rfl,⟨_,aw.of (keep B0).2.2⟩,?_⟩;refine bR (xs:=A.map V.str) (fun i σ G=>NE4 fun(a6 U Y a9:Option V)=>σ=[some (.ref p),some (.ref t),some (.ref l1),some (.ref l2),some (.ref N),some (.ref f),a6,U,Y,a9]/\TX H p c f (WR J0 O A ((A.take i).flatMap fun r=>J0.map fun a=>(r,a)) (ds.length+4 * i)) G)
  ⟨_,_,_,_,rfl,B0⟩ (fun i σ G _ ⟨_,_,_,_,_,B⟩=>aw.of (keep B).2.2) ?_ ?_
 ·rintro i v σ H2 hi ⟨a6,U,Y,a9,rfl,J⟩;obtain⟨r,hr,rfl⟩:=bJ hi;have b1:i<A.length:=(bN.mp hr).1;have al:=bU hr;refine⟨_,rfl,l1,rfl,⟨_,aw.of (keep J).1⟩,?_⟩;refine bR (xs:=J0.map V.str) (fun j σ G=>Mb fun(U Y a9:Option V)=>σ=[some (.ref p),some (.ref t),some (.ref l1),some (.ref l2),some (.ref N),some (.ref f),some (.str r),U,Y,a9]/\TX H p c f (WR J0 O A ((A.take i).flatMap (fun r=>J0.map fun a=>(r,a))++(J0.take j).map fun a=>(r,a)) (ds.length+4 * i+j)) G)
   ⟨_,_,_,rfl,J.imp fun ds h=>by simpa using h⟩ (fun i σ G _ ⟨_,_,_,_,B⟩=>aw.of (keep B).1) ?_ ?_
  ·rintro j v σ H3 hj ⟨U,Y,a9,rfl,B3⟩;obtain⟨a,ha,rfl⟩:=bJ hj;have b2:j<J0.length:=(bN.mp ha).1;have bc:=bU ha;have an:∀C n,WR J0 O A ((A.take i).flatMap (fun r=>J0.map fun a=>(r,a))++(J0.take j).map fun a=>(r,a)) n C->i4 C r a->WR J0 O A ((A.take i).flatMap (fun r=>J0.map fun a=>(r,a))++(J0.take (j+1)).map fun a=>(r,a)) n C:=fun C n w tk=>by
    refine⟨w.1,w.2.1,fun x hx=>?_⟩;rw[take_snoc ha,av,<-eV]at hx;rcases bM.mp hx with h|h
    ·exact w.2.2 x h
    ·have:x=(r,a):=by simpa using h
     rw[this];exact tk
   refine⟨_,rfl,_,rfl,(by show 1<=aj;decide),fun q hq=>?_⟩;have B4:=B3.same (ab.new (o:=.lst [.str r]) hq);have q4:upd H3 q (.lst [.str r]) q=some (.lst [.str r]):=aa;generalize upd H3 q (.lst [.str r])=H4 at B4 q4 ⊢;obtain⟨us,C,g1,g2,D⟩:=B4.ds;refine⟨f,q,us,C,[r],A,rfl,g1,g2,q4,fun d hd=>(D.1.good d hd).b,by omega,(by show 1<=1000;decide),fun th F H5 bd hF _ _ S5=>?_⟩;have B5:=B4.same S5;have f5:=S5 _ _ g1;have d5:=g2.kt (ab.kt S5);refine⟨_,rfl,f,rfl,⟨_,aw.of f5⟩,fun l hl=>?_⟩;refine IP (K:=K) (jt:=8) (ja:=7) rfl rfl f5 d5 bd D.1.few hl fun vs H6 h6 D6 S6=>⟨(by show 0<=aj;decide),fun e he=>?_⟩;refine Ix (kp h6 he) (D6.kt (ab.kt (ab.new he))) aa ⟨_,rfl,?_⟩;have S7:ab H5 (upd H6 e (.lst [])):=S6.trans (ab.new he);generalize upd H6 e (.lst [])=H7 at S7 ⊢;have f7:=S7 _ _ f5;have d7:=d5.kt (ab.kt S7);have B7:TX H p c f (fun ap=>ap=C) H7:=by
    have B:=B5.same S7;exact⟨B.pen,⟨us,C,f7,d7,rfl⟩,B.ex,B.fr,B.pl,B.cl⟩
   cases q:takesB C r a with
   |true =>
    rw[zzr0 (fun z=>by rw[BZ hF,q]at z;cases z)];exact bD ⟨_,_,_,rfl,B7.imp fun ap e=>by rw[e];exact an _ _ (D.up (by omega)) (mO.mp q)⟩
   |false =>
    rw[zzr1 ((BZ hF).mpr q)];refine bT ?_;have bi:=(keep B7).2.2;refine⟨_,rfl,_,rfl,_,rfl,_,rfl,.inl ⟨N,_,rfl,.inl (aw.of bi),?_⟩⟩;rw[ah];refine dU B7.pen (by omega) (by omega) fun x H8 x0 x1 bl bm=>?_;obtain⟨n,rfl⟩:=j9 x0;have B8:=B7.took bl bm;obtain⟨w,hw⟩:∃w,A[n]?=some w:=⟨_,de (by omega)⟩;refine⟨N,_,(n:Int),.str w,rfl,rfl,aw.of (keep B8).2.2,ca (j:=n) (by rw[cH,hw];rfl),(by show 2<=aj;decide),fun u hu=>?_⟩;have B9:=B8.same (ab.new (o:=.lst [.str r,.str w]) hu);have u9:upd H8 u (.lst [.str r,.str w]) u=some (.lst ([r,w].map V.str)):=aa;generalize upd H8 u (.lst [.str r,.str w])=H9 at B9 u9 ⊢;refine⟨_,rfl,dU B9.pen (by decide) (by decide) fun y I y0 y1 as L=>?_⟩;have bn:=B9.took as L;obtain⟨g,hg,bu⟩:∃g,xU ([r,w].map V.str) y=some (.str g)/\g∈A:=by
     have:y=0∨y=1:=by omega
     rcases this with rfl|rfl
     ·exact⟨r,rfl,al⟩
     ·exact⟨w,rfl,bU hw⟩
    refine⟨u,_,y,.str g,rfl,rfl,aw.of (L _ _ u9 (B9.pen.ne_strs u9)),hg,?_⟩;refine⟨_,rfl,_,rfl,_,rfl,(by show 2<=aj;decide),fun s hs=>⟨_,rfl,(by show 3<=aj;decide),fun d hd=>?_⟩⟩;have aC:ab I (upd (upd I s (.tup [.str "ask",.str a])) d (.tup [.str r,.ref s,.str g])):=(ab.new hs).trans (ab.new hd);have M:ij (upd (upd I s (.tup [.str "ask",.str a])) d (.tup [.str r,.ref s,.str g])) d ⟨r,b9 a,g⟩:=⟨s,aa,kp aa hd⟩;generalize upd (upd I s (.tup [.str "ask",.str a])) d (.tup [.str r,.ref s,.str g])=b3 at aC M ⊢;have a0:=bn.same aC;obtain⟨bw,bz,k1,k2,rfl⟩:=id a0.ds;have zz:=D.2.1;have a5:Cp J0 O A ⟨r,b9 a,g⟩:=⟨al,bu,.inl ⟨a,bc,rfl⟩⟩;refine⟨f,d,bw,_,⟨r,b9 a,g⟩,rfl,k1,k2,M,D.1.few,fun b4 D2=>?_⟩;refine⟨_,_,_,rfl,a0.put ⟨_,k1⟩ D2 (an _ _ ⟨D.1.putOne a5 (xV a) (by omega),?_,fun x hx=>(D.2.2 x hx).mono fun y hy=>mem_putD.mpr (.inl hy)⟩ ⟨r,.inl rfl,g,mem_putD.mpr (.inr rfl)⟩)⟩;have:=u7 bz ⟨r,b9 a,g⟩;omega
  ·rintro σ H3 ⟨U,Y,a9,rfl,B3⟩;refine⟨_,_,_,_,rfl,B3.imp fun C h=>?_⟩;rw[ah]at h;refine⟨h.1,by have:=h.2.1;omega,fun x hx=>h.2.2 x ?_⟩;rw[take_snoc hr,List.flatMap_append]at hx;rw[bf];simpa using hx
 ·rintro σ H2 ⟨a6,U,Y,a9,rfl,J⟩;rw[ah,bf]at J;obtain⟨us,C,g1,g2,D⟩:=J.ds;obtain⟨q1,q2,q3⟩:=keep J;refine⟨_,rfl,_,rfl,_,rfl,_,rfl,(by show 4<=aj;decide),fun t' bI=>?_⟩;have S3:=ab.new (o:=.tup [.ref l1,.ref l2,.ref N,.ref f]) bI;exact k t' f us C _ ⟨aa,S3 _ _ q1,S3 _ _ q2,S3 _ _ q3,S3 _ _ g1,g2.kt (ab.kt S3)⟩ D.1 (fun r hr a ha=>D.2.2 (r,a) (List.mem_flatMap.mpr ⟨r,hr,aS.mpr ⟨a,ha,rfl⟩⟩)) D.2.1 (J.pen.ex S3) (J.ex.trans (ab.exB S3))
def rk(K:Za)(C_Machine:Addr)(sp_Machine_asks:Sp)(sp_Machine_says:Sp)(a_HUSH:Addr):TS :=
 aW (aH kf (aH kf (cI 1 [] (bO K (cq C_Machine "asks" sp_Machine_asks [] E0 V0 bh)) U0 (iS) (bg (aX (tC (.str "ask")) V0))) (cI 1 [] (bO K (cq C_Machine "says" sp_Machine_says [] E0 V0 bh)) U0 (iS) (bg (aX (tC (.str "say")) V0)))) (c9 (ay (tC (.ref a_HUSH)))))
def rZ:List Str:=["M"]
def CC(K:Za)(sp_signs_in_order:Sp)(sp_face_behind:Sp):TS :=
 ar (aN (lq) U2)
 (ar (dW (bO K (aL sp_signs_in_order (ay V0))) U3 (ar (aN (aL sp_face_behind (cg V0 V1 V3)) U4)
 (cx (aU (aH HE (gP (iH K) (ay V4)) (tC (.int 0)))) (Hh K V2 V3 V4) (bC))))
 (aW V2))
def DZ:List Str:=["M","face","steps","sign","behind"]
abbrev Sg:=List Str
def stepsF(J0 J1 J2:Zb)(ds:List ao)(J6:Zb):List (Sg×List Str):=((b0 J0 J1).map fun sg=>(sg,behF J2 ds J6 sg)).filter fun p=>decide (p.2≠[])
structure FMs where
 fs:List (List Str)
 ss:List (List Sg)
abbrev FMst:=FMs×List (List (Sg×Nat))
def Ki(hu:Addr)(H:Hp)(u:Addr)(sg:Zb):Prop:=H u=some (.tup (sg.map V.str))∨(u=hu/\sg=cC)
theorem Ki.same(h:Ki a H u e)(S:ab H f):Ki a f u e:=h.imp (S _ _) id
theorem Eu{K:Za}(h:∀H,bP K H a e)(H:Hp):cF K H a e:=by
 rcases h (fun _=>none)with(h|⟨o,h⟩)|h
 ·cases h
 ·cases h
 ·exact .inr h
section
variable{K:Za}{hu:Addr}(hh:∀H,bP K H hu (cC.map V.str))
include hh
theorem Ki.tup(h:Ki hu H u a):cF K H u (a.map V.str):=by
 rcases h with h|⟨rfl,rfl⟩
 ·exact .inl h
 ·exact Eu hh H
theorem Ki.sq(h:Ki hu H u a):bP K H u (a.map V.str):=by
 rcases h with h|⟨rfl,rfl⟩
 ·exact bP.of h
 ·exact hh H
end
inductive zN(C hu:Addr)(vs:List V)(H:Hp)(Q:VK)(E:XK):Prop
 |mk (x:Addr) (J0 J1 J2:Zb) (ds:List ao):(vs=[.ref x])->(bV C H x J0 J1 J2 ds)->(∀(l:Addr) (us:Ze) (H':Hp),H' l=some (.lst (us.map V.ref))->Paired (Ki hu H') us (b0 J0 J1)->ab H H'->Q (.ref l) H')->zN C hu vs H Q E
theorem KY{K:Za}(h:zN C j T H Q E):rk K C (nI C) (nE C) j (bo Q) (start rZ T) H:=by
 obtain⟨x,l,m,D,G,rfl,M,k⟩:=h;have z1:=M.ok.asks4;have z2:=M.ok.says4;obtain⟨n,fs,U,Y,lv,p,q,a1,a2,_⟩:=uW M;refine⟨_,rfl,x,n,fs,rfl,q,a1,x,l,m,D,G,rfl,M,fun I s=>⟨I,rfl,⟨_,aw.of aa⟩,fun la t=>?_⟩⟩;have J:ab H (upd H I (.lst (l.map V.str))):=ab.new s;refine lS (kd:="ask") (ws:=l) aa (by omega) t fun u L h1 a N=>?_;have M1:=M.same (J.trans N);obtain⟨n,fs,U,Y,lv,p,q,a1,a2,_⟩:=uW M1;refine⟨_,rfl,x,n,fs,rfl,q,a2,x,l,m,D,G,rfl,M1,fun O v=>⟨O,rfl,⟨_,aw.of aa⟩,fun ls w=>?_⟩⟩;have S2:ab L (upd L O (.lst (m.map V.str))):=ab.new v;refine lS (kd:="say") (ws:=m) aa (by omega) w fun y H2 h2 e S3=>?_;have f:=S2.trans S3;have z:=f _ _ h1;have g:=ki.kt (ab.kt f) a;refine⟨la,ls,_,_,rfl,rfl,z,h2,?_,fun c1 A=>?_⟩
 ·rw[ah,ah,Paired.length a,Paired.length e,ah,ah];exact cV (aq (by omega))
 refine⟨(by show 1<=aj;decide),fun hl i=>?_⟩;refine⟨c1,hl,_,_,rfl,rfl,kp aa i,aa,?_,fun r hr=>?_⟩
 ·rw[ba,ah,ah,Paired.length a,Paired.length e,ah,ah];exact cV (aq (by show _+1<=1000;omega))
 have B:=((ab.new (o:=.lst (u.map V.ref++y.map V.ref)) A).trans (ab.new (o:=.lst [.ref j]) i)).trans (ab.new (o:=.lst (u.map V.ref++y.map V.ref++[.ref j])) hr);refine k r (u++y++[j]) _ ?_ ?_ (((J.trans N).trans f).trans B)
 ·rw[aa,av,av];rfl
 ·exact Paired.app (Paired.app (Paired.mapP (ki.kt (ab.kt B) g) fun _ _ r=>.inl r) (Paired.mapP (ki.kt (ab.kt B) e) fun _ _ r=>.inl r)) (.cons (.inr ⟨rfl,rfl⟩) .nil)
theorem vn(m:aQ j k r s):(b0 j k).Nodup:=by
 unfold b0;have n:∀a b:Str,b9 a=b9 b->a=b:=fun a b h=>by unfold b9 at h;injection h with _ h;injection h
 have o:∀a b:Str,gS a=gS b->a=b:=fun a b h=>by unfold gS at h;injection h with _ h;injection h
 have i:∀{f:Str->List Str}{l:Zb},(∀a b,f a=f b->a=b)->l.Nodup->(l.map f).Nodup:=by
  intro f l p q;rw[yf,List.pairwise_map];exact(yf.1 q).imp fun h e=>h (p _ _ e)
 rw[dw,dw];refine⟨⟨i n m.okA.1,i o m.okS.1,?_⟩,by simp,?_⟩
 ·intro x hx y g e;obtain⟨a,_,rfl⟩:=aS.1 hx;obtain⟨b,_,rfl⟩:=aS.1 g;unfold b9 gS at e;injection e with e _;exact absurd e (by decide)
 ·intro x hx y g e;rw[dR.1 g]at e;rcases bM.1 hx with hx|hx
  ·obtain⟨a,_,rfl⟩:=aS.1 hx;unfold b9 cC at e;injection e with _ e;cases e
  ·obtain⟨a,_,rfl⟩:=aS.1 hx;unfold gS cC at e;injection e with _ e;cases e
abbrev kZ(H:Hp)(kvs:List (TK×V))(L:List (Sg×List Str)):Prop:=Paired (fun(kv:TK×V) (p:Sg×List Str)=>kv.1=eT p.1/\∃u,kv.2=.ref u/\H u=some (.tup (p.2.map V.str))) kvs L
theorem Je{κ:Type}[DecidableEq κ]{a:List (κ×V)}{k:κ}(h:∀e∈a,e.1≠k):be a k=none:=by
 unfold be;rw[List.find?_eq_none.2 fun e f=>by simpa using h e f]
 rfl
theorem fH(e:Zb):(eT e).depth<=8:=by
 have:∀l:List Str,TK.depths (l.map p7)=0:=by
  intro l
  induction l with
  |nil=>rfl
  |cons a l f=>show max (TK.depth (p7 a)) (TK.depths _)=0;rw[f];rfl
 show TK.depths (e.map p7)+1<=8;rw[this];decide
def stG(J2:Zb)(ds:List ao)(J6:Zb)(L:List (List Str)):List (Sg×List Str):=(L.map fun sg=>(sg,behF J2 ds J6 sg)).filter fun p=>decide (p.2≠[])
theorem Bc(a:Zb)(e:List ao)(f:Zb)(L:List (List Str))(g:Zb):stG a e f (L++[g])=stG a e f L++if behF a e f g=[]then[]else[(g,behF a e f g)]:=by
 unfold stG;rw[av,iP];congr 1;by_cases c:behF a e f g=[]
 ·rw[if_pos c];simp[c]
 ·rw[if_neg c];simp[c]
theorem Jp{p:Sg×List Str}(h:p∈stG e f g L):p.1∈L:=by
 obtain⟨i,a,rfl⟩:=aS.1 (fU.1 h).1;exact a
theorem Jq:(stG J2 ds J6 L).length<=L.length:=by
 unfold stG;exact aB (cQ _ _) (by rw[ah];exact aD _)
theorem kZ.kt(k:gF H f)(h:kZ H a L):kZ f a L:=Paired.mapP h fun _ _ ⟨e,u,g,r⟩=>⟨e,u,g,k _ _ r⟩
theorem kZ.no(h:kZ H f L){g:Sg}(n:∀p∈L,p.1≠g):be f (eT g)=none:=by
 refine Je ?_
 induction h with
 |nil=>intro i hk;exact nomatch hk
 |@cons a b l bs r t j =>
  intro i hk;rcases cu.1 hk with rfl|hk
  ·rw[r.1];exact fun e=>n b cW (eP e)
  ·exact j (fun p k=>n p (c_ _ k)) i hk
theorem zY{α:Type}{L:List α}(g:L.Nodup){i:Nat}{x:α}(e:L[i]?=some x):¬x∈L.take i:=by
 intro h;obtain⟨j,k,a⟩:=List.getElem_of_mem h;rw[aJ]at k;have f:i<L.length:=by rcases Nat.lt_or_ge i L.length with z|z;exact z;rw[yr z]at e;cases e
 rw[List.getElem_take]at a;rw[de f]at e;injection e with e;exact List.pairwise_iff_getElem.1 (yf.1 g) j i (by omega) f (by omega) (a.trans e.symm)
theorem KA{H:Hp}{d:Addr}{a:List (TK×V)}{o:HO}(h:H d=some (.dT a)):gF H (upd H d o):=fun b f e=>by rw[ai (fun z=>by rw[z,h]at e;cases e)];exact e
theorem ifQ{b:Bool}{P X Y:Prop}(h:b=true↔P)(a:P->X)(e:¬P->Y):if b=true then X else Y:=by
 cases b with
 |true=>exact a (h.1 rfl)
 |false=>exact e fun z=>by cases h.2 z
inductive lA(C:Addr)(vs:List V)(H:Hp)(Q:VK)(E:XK):Prop
 |mk (x t:Addr) (J6 J0 J1 J2:Zb) (ds:List ao):(vs=[.ref x,.ref t])->(bV C H x J0 J1 J2 ds)->(H t=some (.tup (J6.map V.str)))->((∀r∈J6,r∈J2))->(J6.length<=1000)->(∀(d:Addr) (kvs:List (TK×V)) (H':Hp),H' d=some (.dT kvs)->kZ H' kvs (stepsF J0 J1 J2 ds J6)->H d=none->ab H H'->Q (.ref d) H')->lA C vs H Q E
theorem C8{K:Za}(hh:∀H,bP K H hu (cC.map V.str))(h:lA C vs H Q E):CC K (zN C hu) (tW K C) (bo Q) (start DZ vs) H:=by
 obtain⟨x,t,J6,w,A,J2,ds,rfl,M,ht,B,hz,k⟩:=h;have z1:=M.ok.asks4;have z2:=M.ok.says4;have zl:(b0 w A).length<=9:=by unfold b0;rw[ba,ba,ah,ah];show _+1<=9;omega
 have nd:=vn M.ok;refine fun d T=>?_;have S0:ab H (upd H d (.dT [])):=ab.new T;refine⟨_,rfl,x,w,A,J2,ds,rfl,M.same S0,fun l us H1 U hP N=>⟨l,rfl,⟨_,aw.of U⟩,?_⟩⟩;refine bR (xs:=us.map V.ref) (fun i σ D=>Mb fun(g:List (TK×V)) (Y x4:Option V)=>Mc (σ=[some (.ref x),some (.ref t),some (.ref d),Y,x4]) (D d=some (.dT g)) (ab H D) ((∀b o,H1 b=some o->b≠d->D b=some o)) (kZ D g (stG J2 ds J6 ((b0 w A).take i))))
  ⟨[],_,_,rfl,N _ _ aa,S0.trans N,fun _ _ e _=>e,.nil⟩ (fun i σ D _ ⟨_,_,_,_,_,_,S,_⟩=>aw.of (S _ _ U fun e=>by subst e;have:=N _ _ (aa (H:=H) (a:=l) (o:=.dT []));rw[U]at this;cases this)) ?_ ?_
 ·rintro i y σ H2 hi ⟨g,Y,x4,rfl,h2,s,G,st⟩;obtain⟨u,al,rfl⟩:=bZ hi;obtain⟨m,q,an⟩:=Paired.getL hP al;have j:Ki hu H2 u m:=an.imp (fun e=>G _ _ e fun z=>by subst z;have:=N _ _ (aa (H:=H) (a:=u) (o:=.dT []));rw[e]at this;cases this) id;refine⟨_,rfl,_,rfl,_,rfl,x,t,u,J6,m,w,A,J2,ds,rfl,M.same s,s _ _ ht,j.sq hh,j.symm.imp (fun e=>e.2) id,B,hz,fun f H3 hf v=>?_⟩;have h3:=v _ _ h2;refine⟨_,rfl,.inl ⟨f,_,rfl,.inr (bP.of hf),_,_,rfl,rfl,?_⟩⟩;refine⟨_,rfl,?_⟩;have I:=j.same v;have J:∀b o,H1 b=some o->b≠d->H3 b=some o:=fun b o e n=>v _ _ (G b o e n);have r:=st.kt (ab.kt v);refine ifQ (P:=behF J2 ds J6 m≠[]) ?_ (fun c=>?_) (fun c=>?_)
  ·rw[ah];constructor
   ·intro h z;rw[z]at h;exact absurd h (by decide)
   ·intro h;exact zzr1 (by have:=List.length_pos_iff.mpr h;omega)
  rotate_left
  ·have c:=Classical.not_not.1 c;refine⟨g,_,_,rfl,h3,s.trans v,J,?_⟩;rw[take_snoc q,Bc,if_pos c,dO];exact r
  ·have no:be g (eT m)=none:=r.no fun p hp e=>by
    have O:=Jp hp;rw[e]at O;exact zY nd q O
   have ll:g.length<aj:=by
    rw[Paired.length st];refine aq ?_;have O:=Jq (J2:=J2) (ds:=ds) (J6:=J6) (L:=(b0 w A).take i);rw[aJ]at O;omega
   refine⟨_,rfl,_,rfl,_,rfl,d,u,g,eT m,rfl,rfl,h3,G9 (I.tup hh),fH m,ll,_,_,_,rfl,aa,?_,?_,?_⟩
   ·intro b o e;rw[ai (ae e T)];exact v _ _ (s _ _ e)
   ·intro b o e n;rw[ai n];exact J b o e n
   ·rw[iI _ no,take_snoc q,Bc,if_neg c];have kt:gF H3 (upd H3 d (.dT (g++[(eT m,.ref f)]))):=KA h3;exact gl (r.kt kt) ⟨rfl,f,rfl,kt _ _ hf⟩
 ·rintro σ H2 ⟨g,Y,x4,rfl,h2,s,_,st⟩;rw[ah,Paired.length hP,bf]at st;exact⟨_,rfl,k d g H2 h2 st T s⟩
abbrev d_(K:Za)(H:Hp)(w:Addr)(s:List Sg):Prop:=∃gs:List Addr,H w=some (.lst (gs.map V.ref))/\Paired (fun g (sg:Sg)=>cF K H g (sg.map V.str)) gs s
theorem cF.kt{K:Za}(k:gF H e)(h:cF K H a f):cF K e a f:=h.keeps k
theorem d_.kt{K:Za}{w:Addr}(k:gF H a)(e:∀o,H w=some o->a w=some o)(h:d_ K H w s):d_ K a w s:=by
 obtain⟨f,g,i⟩:=h;exact⟨f,e _ g,Paired.mapP i fun _ _ r=>cF.kt k r⟩
theorem xf{K:Za}:∀{e:Zb}{a:List V},TKCs K H (e.map p7) a->a=e.map V.str
 |[],a,h=>by rw[yI]at h;unfold TKCs at h;exact h
 |s::e,a,h=>by
  rw[bG]at h;unfold TKCs at h;obtain⟨v,i,rfl,f,g⟩:=h;unfold p7 sU at f;rw[f,xf g]
  rfl
theorem G6{K:Za}(h:sU K H (eT f) a):∃b,a=.ref b/\cF K H b (f.map V.str):=by
 unfold eT sU at h;obtain⟨b,i,rfl,e,g⟩:=h;rw[xf g]at e;exact⟨b,rfl,e⟩
theorem Ev{K:Za}{H:Hp}:∀a:List Str,TKIns K H (a.map p7) (a.map V.str)
 |[]=>by show TKIns K H [] [];unfold TKIns;rfl
 |x::a=>by
  rw[bG,bG];unfold TKIns;refine⟨_,_,rfl,?_,Ev a⟩;unfold p7 n6
  rfl
theorem cF.sq{K:Za}{H:Hp}{a:Addr}{e:List V}(h:cF K H a e):bP K H a e:=h.imp .inl id
theorem yY{K:Za}{H:Hp}{a:Addr}{f:Zb}(h:cF K H a (f.map V.str)):n6 K H (eT f) (.ref a):=by
 unfold eT n6;exact⟨a,_,rfl,cF.sq h,Ev f⟩
theorem Paired.rev{α β:Type}{R:α->β->Prop}:∀{a:List α}{b:List β},Paired R a b->Paired R a.reverse b.reverse
 |_,_,.nil=>.nil
 |_,_,.cons r t=>by
  rw[yM,yM];exact Paired.app (Paired.rev t) (.cons r .nil)
theorem Gx{l:Addr}{o:Obj}{u:HO}{n:Nat}{h:Nat->Hp->V->V->Prop}{g:TG}{q:TT}{r:Hp}{Q:Hp->Prop}(Pv:Nat->List V->Hp->Prop)(w:Pv 0 [] (upd r l (.lst [])))
  (m:∀i e H,i<=n->Pv i e H->H l=some (.lst e)/\H d=some (.frz o u)) (z:∀e H,Pv n e H->Q H)
  (A:∀i e H a b,i<n->Pv i e H->h i H a b->g a (dH k B σ) H fun σ2 C=>q σ2 C fun b s =>
   if b=true then D σ2 s fun v t=>t l=some (.lst e)/\e.length<aj/\∃j,j<n-i/\Wc n Pv (i+1) j (e++[v]) (upd t l (.lst (e++[v])))else ∃j,j<n-i/\Wc n Pv (i+1) j e s) :
  eC k B σ (Ly d o u n h) g q D r l Q:=by
 refine ni n Pv w (fun i e H f p=>(m i e H f p).1) (fun i e H f p=>⟨(m i e H (cV f) p).2,f⟩) (fun e H p=>⟨⟨(m n e H (aD _) p).2,aD _⟩,z e H p⟩) fun i e H x G f p y=>?_;obtain⟨rfl,b,E⟩:=y;exact A i e _ x b f p E
def wc(K:Za)(C_Machine:Addr)(sp_Machine_says:Sp)(sp_Machine_asks:Sp):TS :=
 cx (CK (aU (aH (wK K) (cq C_Machine "asks" sp_Machine_asks [] E0 V0 bh) (cq C_Machine "asks" sp_Machine_asks [] E0 V1 bh))) (aU (aH (wK K) (cq C_Machine "says" sp_Machine_says [] E0 V0 bh) (cq C_Machine "says" sp_Machine_says [] E0 V1 bh)))) (uP) (bC)
def wP:List Str:=["M","I"]
def lm(K:Za)(C_Machine:Addr)(sp_Machine_rooms:Sp)(sp_Machine_asks:Sp)(kG:Sp):TS :=
 dW (bO K (cq C_Machine "rooms" sp_Machine_rooms [] E0 V0 bh)) U1 (dW (bO K (cq C_Machine "asks" sp_Machine_asks [] E0 V0 bh)) U2 (cx (Jk (tB (aL kG (cg V0 V1 V2)))) (uP) (bC)))
def lU:List Str:=["I","room","ask"]
def wb(K:Za)(sp_need_all_asks_taken:Sp)(sp_need_match:Sp):TS :=
 ar (cP (aL sp_need_match (aX V0 V1)))
 (cP (aL sp_need_all_asks_taken (ay V1)))
def wO:List Str:=["M","I"]
def zf(K:Za)(sp_law_put:Sp)(sp_law_take:Sp)(sp_law_still_on:Sp):TS :=
 ar (aN V1 (jM K 4 (bv U2 (bv U3 (bv U4 (bv U5 (jH)))))))
 (ar (aN (gP (dX K) (ay V5)) U5)
 (ar (aN (aL sp_law_take (aX V0 (tC (.int 6)))) U6)
 (ar (aN (aL sp_law_take (am V0 (ay (gP LH (aX (tC (.int 1)) (gP (iH K) (ay V5))))))) U7)
 (ar (aN (aH (dY K) V4 (aL sp_law_take (aX V0 (gP (iH K) (ay V4))))) U8)
 (ar (aN (aH (dY K) V4 (aL sp_law_take (aX V0 (gP (iH K) (ay V4))))) U9)
 (ar (cx (aU (aH v5 V6 (tC (.int 0)))) (cP (aL sp_law_put (am V5 (am (bg (am V8 (am (bg (am (tC (.str "say")) (am (aH (dY K) V3 (aL sp_law_take (aX V0 (gP (iH K) (ay V3))))) bh))) (ay V9)))) bh)))) (cx (aU (aH v5 V6 (tC (.int 1)))) (cP (aL sp_law_put (am V5 (am (bg (am V8 (am (bg (am (tC (.str "ask")) (am (aH (dY K) V2 (aL sp_law_take (aX V0 (gP (iH K) (ay V2))))) bh))) (ay V9)))) bh)))) (cx (tF (aU (aH Dg V6 (tC (.int 4)))) (tF (aU (aH (wK K) V5 (c9 (bh)))) (aU (aH LG (aH (jy K) (aH (jy K) (aH (dY K) V5 V7) (tC (.int 1))) (tC (.int 0))) (tC (.str "still")))))) (ar (aN (Ex K "list" HC V5 (ay V7)) Lv)
 (cx (aU (aH v5 V6 (tC (.int 3)))) (cP (aL sp_law_put (am V5 (am (bg (cg (aH (jy K) GJ (tC (.int 0))) (aH (jy K) GJ (tC (.int 1))) V9)) bh)))) (bC))) (cx (tF (aU (aH v5 V6 (tC (.int 4)))) (aU (aH (qa K true) V8 (aL sp_law_still_on (aX V5 (c9 (ay V9))))))) (cP (aL sp_law_put (am V5 (am (bg (cg V8 (bg (ay (tC (.str "still")))) V9)) bh)))) (bC)))))
 (aW (bg (am V2 (cg V3 V4 V5))))))))))
def Au:List Str:=["pen","told","asks","says","rooms","doors","way","at","room","other","door"]
def CG(K:Za)(sp_law_take:Sp)(sp_law_renamed:Sp)(sp_law_willing:Sp)(sp_law_turned:Sp)(sp_law_anew:Sp):TS :=
 ar (cP (aL sp_law_anew (ay V0)))
 (ar (dW (vw (am (aL sp_law_take (aX V0 (aH dD V2 (tC (.int 1))))) bh)) U3 (aN (aL sp_law_turned (aX V0 V1)) U1))
 (ar (aN (aL sp_law_willing (aX V0 V1)) U1)
 (ar (cx (aU (aH v5 (aL sp_law_take (aX V0 (tC (.int 2)))) (tC (.int 0)))) (aN (aL sp_law_renamed (aX V0 V1)) U1) (bC))
 (aW V1))))
def Ea:List Str:=["pen","told","most","turn"]
inductive gR(C:Addr)(vs:List V)(H:Hp)(Q:VK)(E:XK):Prop
 |mk (x y:Addr) (J0 J1 J2 rooms':Zb) (ds ds':List ao):(vs=[.ref x,.ref y])->(bV C H x J0 J1 J2 ds)->(bV C H y J0 J1 rooms' ds')->(∀H',ab H H'->Q .non H')->gR C vs H Q E
theorem u4{K:Za}(h:gR C I H Q E):wc K C (nE C) (nI C) (bo Q) (start wP I) H:=by
 obtain⟨x,y,e,f,p,a,q,g,rfl,M,N,k⟩:=h;obtain⟨r,fs,s,a1,a2,_⟩:=id M.more;obtain⟨t,u,v,J,L,_⟩:=id N.more;refine⟨_,rfl,x,r,fs,rfl,s,a1,x,e,f,p,q,rfl,M,fun i O=>?_⟩;have j:ab H (upd H i (.lst (e.map V.str))):=ab.new O;have w:upd H i (.lst (e.map V.str)) i=some (.lst (e.map V.str)):=aa;generalize upd H i (.lst (e.map V.str))=z at j w ⊢;refine⟨_,rfl,y,t,u,rfl,j _ _ v,J,y,e,f,a,g,rfl,N.same j,fun A B=>?_⟩;have l:ab H (upd z A (.lst (e.map V.str))):=j.trans (ab.new B);refine ER (kp w B) aa ⟨_,rfl,?_⟩;generalize upd z A (.lst (e.map V.str))=o at l ⊢;rw[zzr1 rfl];refine bD ?_;refine⟨_,rfl,x,r,fs,rfl,l _ _ s,a2,x,e,f,p,q,rfl,M.same l,fun m T=>?_⟩;have n:ab H (upd o m (.lst (f.map V.str))):=l.trans (ab.new T);have D:upd o m (.lst (f.map V.str)) m=some (.lst (f.map V.str)):=aa;generalize upd o m (.lst (f.map V.str))=U at n D ⊢;refine⟨_,rfl,y,t,u,rfl,n _ _ v,L,y,e,f,a,g,rfl,N.same n,fun Y G=>?_⟩;have S4:ab H (upd U Y (.lst (f.map V.str))):=n.trans (ab.new G);refine ER (kp D G) aa ⟨_,rfl,?_⟩;rw[zzr1 rfl];exact bD (k _ S4)
inductive i5(C:Addr)(vs:List V)(H:Hp)(Q:VK)(E:XK):Prop
 |mk (x:Addr) (J0 J1 J2:Zb) (ds:List ao):(vs=[.ref x])->(bV C H x J0 J1 J2 ds)->((∀r∈J2,∀a∈J0,i4 ds r a))->(∀H',ab H H'->Q .non H')->i5 C vs H Q E
theorem zR{K:Za}(h:i5 C J H Q E):lm K C (kH C) (nI C) (kG C) (bo Q) (start lU J) H:=by
 obtain⟨x,e,s,f,t,rfl,M,tk,k⟩:=h;obtain⟨u,fs,o1,o2,o3,o4,lv,qu,L,sl,ts,N,O,T,w,a1,a2,a3,U,_⟩:=id M.at_;refine⟨_,rfl,x,u,fs,rfl,w,U,x,e,s,f,t,rfl,M,fun g Y=>?_⟩;have o:ab H (upd H g (.lst (f.map V.str))):=ab.new Y;have A:upd H g (.lst (f.map V.str)) g=some (.lst (f.map V.str)):=aa;generalize upd H g (.lst (f.map V.str))=G at o A ⊢;refine⟨g,rfl,⟨_,aw.of A⟩,?_⟩;refine bR (xs:=f.map V.str) (fun i σ l=>∃y z,σ=[some (.ref x),y,z]/\ab G l) ⟨_,_,rfl,ab.refl _⟩ (fun i σ l _ ⟨_,_,_,S⟩=>aw.of (S _ _ A)) ?_ ?_
 ·rintro i v σ m hi ⟨y,z,rfl,p⟩;obtain⟨r,I,rfl⟩:=bJ hi;have M2:=M.same (o.trans p);obtain⟨u,fs,w,a1,_⟩:=id M2.more;refine⟨_,rfl,x,u,fs,rfl,w,a1,x,e,s,f,t,rfl,M2,fun n h2=>?_⟩;have B:ab G (upd m n (.lst (e.map V.str))):=p.trans (ab.new h2);have D:upd m n (.lst (e.map V.str)) n=some (.lst (e.map V.str)):=aa;generalize upd m n (.lst (e.map V.str))=H3 at B D ⊢;refine⟨n,rfl,⟨_,aw.of D⟩,?_⟩;refine bR (xs:=e.map V.str) (fun j σ l=>∃z,σ=[some (.ref x),some (.str r),z]/\ab H3 l) ⟨_,rfl,ab.refl _⟩ (fun i σ l _ ⟨_,_,S⟩=>aw.of (S _ _ D)) ?_ ?_
  ·rintro j v σ H4 hj ⟨z,rfl,q⟩;obtain⟨a,ha,rfl⟩:=bJ hj;refine⟨_,rfl,_,rfl,_,rfl,x,r,a,e,s,f,t,rfl,M.same ((o.trans B).trans q),bU I,fun H5 S5=>⟨_,rfl,?_⟩⟩;rw[mO.2 (tk r (bU I) a (bU ha))];exact bD ⟨_,rfl,q.trans S5⟩
  ·rintro σ H4 ⟨z,rfl,q⟩;exact⟨_,_,rfl,B.trans q⟩
 ·rintro σ m ⟨y,z,rfl,p⟩;exact k m (o.trans p)
inductive gQ(C:Addr)(vs:List V)(H:Hp)(Q:VK)(E:XK):Prop
 |mk (x y:Addr) (J0 J1 J2 rooms':Zb) (ds ds':List ao):(vs=[.ref x,.ref y])->(bV C H x J0 J1 J2 ds)->(bV C H y J0 J1 rooms' ds')->((∀r∈rooms',∀a∈J0,i4 ds' r a))->(∀H',ab H H'->Q .non H')->gQ C vs H Q E
theorem u3{K:Za}(h:gQ C j H Q E):wb K (i5 C) (gR C) (bo Q) (start wO j) H:=by
 obtain⟨x,y,f,g,l,a,m,e,rfl,M,N,tk,k⟩:=h;exact⟨_,rfl,_,rfl,x,y,f,g,l,a,m,e,rfl,M,N,fun p i=>⟨_,rfl,y,f,g,a,e,rfl,N.same i,tk,fun n o=>k n (i.trans o)⟩⟩
theorem aQ.out(m:aQ a e f ds)(k:Nat):aQ a e f (ds.eraseIdx k):=by
 have sub:(ds.eraseIdx k).Sublist ds:=List.eraseIdx_sublist ds k;exact{ m with nodup:=m.nodup.sublist sub,good:=fun d g=>m.good d (sub.mem g),few:=aB sub.length_le m.few,noround:=fun r z=>m.noround r (z.mono fun x y h=>sub.mem h) }
theorem Paired.out{α β:Type}{R:α->β->Prop}:∀{a:List α}{bs:List β}(k:Nat),Paired R a bs->Paired R (a.eraseIdx k) (bs.eraseIdx k)
 |_,_,_,.nil=>.nil
 |_,_,0,.cons _ t=>t
 |_,_,k+1,.cons r t=>.cons r (Paired.out k t)
theorem xH{α β:Type}(f:α->β):∀(l:List α) (n:Nat),(l.map f).eraseIdx n=(l.eraseIdx n).map f
 |[],_=>rfl
 |_::_,0=>rfl
 |a::l,n+1=>by show f a::_=f a::_;rw[xH f l n]
def TR(J0 J1 J2:Zb)(n:Nat)(ds:List ao):Prop:=aQ J0 J1 J2 ds/\ds.length<=n
inductive nA (vs:List V)(H:Hp)(Q:VK)(E:XK):Prop
 |mk (p c t l1 l2 l3 l4:Addr) (ts:Ze) (J0 J1 J2:Zb) (ds:List ao):(vs=[.ref p,.ref t])->(hW H p c)->(hC H t l1 l2 l3 l4 ts J0 J1 J2 ds)->(aQ J0 J1 J2 ds)->(ds.length<=690)->(∀(t' l4':Addr) (ts':Ze) (ds':List ao) (H':Hp),hC H' t' l1 l2 l3 l4' ts' J0 J1 J2 ds'->aQ J0 J1 J2 ds'->ds'.length<=ds.length+1->hW H' p c->bA p H H'->Q (.ref t') H')->nA  vs H Q E
theorem FF{K:Za}(h:nA vs H Q E):zf K lC fD (dP K) (bo Q) (start Au vs) H:=by
 obtain⟨p,c,t,l1,l2,l3,l4,ts,J0,J1,J2,ds,rfl,hp,T,m,z8,k⟩:=h;have a4:=m.asks4;have s4:=m.says4;have r4:=m.rooms26;refine⟨_,rfl,t,_,rfl,bP.of T.t,rfl,_,_,rfl,_,_,rfl,_,_,rfl,_,_,rfl,rfl,?_⟩;refine⟨_,rfl,.inl ⟨l4,_,rfl,.inl (aw.of T.a4),fun f hf=>?_⟩⟩;have B0:TX H p c f (fun x=>x=ds) (upd H f (.lst (ts.map V.ref))):=⟨hp.ex (ab.new hf),⟨ts,ds,aa,T.ds.kt (ab.kt (ab.new hf)),rfl⟩,bA.new hf,hf,hp.nep hf,hp.nec hf⟩;generalize upd H f (.lst (ts.map V.ref))=H1 at B0 ⊢;have keep:∀{H':Hp}{R:List ao->Prop},TX H p c f R H'->H' l1=some (.lst (J0.map V.str))/\H' l2=some (.lst (J1.map V.str))/\H' l3=some (.lst (J2.map V.str)):=fun B =>
  ⟨B.ex _ _ T.a1 (hp.ne_strs T.a1),B.ex _ _ T.a2 (hp.ne_strs T.a2),B.ex _ _ T.a3 (hp.ne_strs T.a3)⟩
 refine⟨_,rfl,dU B0.pen (by decide) (by decide) fun U H2 w0 w1 as aC=>?_⟩;have B2:=B0.took as aC;obtain⟨v,es,A,G,rfl⟩:=id B2.ds;refine⟨_,rfl,_,rfl,.inl ⟨f,_,rfl,.inl (aw.of A),_,_,rfl,?_⟩⟩;have lu:v.length=es.length:=Paired.length G;refine dU B2.pen (by split<;>omega) (by rw[ah,lu];split<;>omega) fun I H3 n0 n1 a0 a5=>?_;have B3:=B2.took a0 a5;rw[ah,lu]at n1;refine jR (fun _ _ _ _ h=>h) rfl rfl B3.pen (keep B3).2.2 m.rooms0 (by omega) fun room r H4 a6 a7=>?_;have B4:=B3.took a6 a7;refine jR (fun _ _ _ _ h=>h) rfl rfl B4.pen (keep B4).2.2 m.rooms0 (by omega) fun other i H5 a8 a9=>?_;have N:=B4.took a8 a9;clear B0 B2 B3 B4 as a0 a6 a8 aC a5 a7 a9 A G;have J:∀{l:Hp}(C:Option V),TX H p c f (TR J0 J1 J2 (es.length+1)) l->(aW (bg (am V2 (cg V3 V4 V5)))) (bo Q) [some (.ref p),some (.ref t),some (.ref l1),some (.ref l2),some (.ref l3),some (.ref f),some (.int U),some (.int I),some (.str room),some (.str other),C] l:=fun C B=>by
  obtain⟨v,fs,A,G,g3⟩:=B.ds;obtain⟨q1,q2,q3⟩:=keep B;refine⟨_,rfl,_,rfl,_,rfl,_,rfl,(by show 4<=aj;decide),fun t' bu=>?_⟩;have Y:=ab.new (o:=.tup [.ref l1,.ref l2,.ref l3,.ref f]) bu;exact k t' f v fs _ ⟨aa,Y _ _ q1,Y _ _ q2,Y _ _ q3,Y _ _ A,G.kt (ab.kt Y)⟩ g3.1 g3.2 (B.pen.ex Y) (B.ex.trans (ab.exB Y))
 have put:∀{l:Hp}{fs:List ao}{d:Addr}{x:ao}(C:Option V),TX H p c f (fun y=>y=fs) l->fs.length<=es.length->ij l d x->aQ J0 J1 J2 (mV fs x)->lC [.ref f,.ref d] l (fun _ H'=>(aW (bg (am V2 (cg V3 V4 V5)))) (bo Q) [some (.ref p),some (.ref t),some (.ref l1),some (.ref l2),some (.ref l3),some (.ref f),some (.int U),some (.int I),some (.str room),some (.str other),C] H') E0:=fun C B le L ok=>by
  obtain⟨bw,b2,k1,k2,rfl⟩:=id B.ds;refine⟨f,_,bw,_,_,rfl,k1,k2,L,by omega,fun b3 D2=>J C (B.put ⟨_,k1⟩ D2 ⟨ok,?_⟩)⟩;exact aB (u7 _ _) (by omega)
 refine⟨_,rfl,rfl,_,rfl,?_⟩;refine i7 (fun _=>?_) (fun _=>?_)
 ·refine⟨_,rfl,_,rfl,jR (fun _ _ _ _ h=>h) rfl rfl N.pen (keep N).2.1 m.says0 (by omega) fun w hw l al an=>⟨(by show 2<=aj;decide),fun s hs=>⟨_,rfl,(by show 3<=aj;decide),fun d D=>?_⟩⟩⟩;have M:=N.took al an;have S:ab l (upd (upd l s (.tup [.str "say",.str w])) d (.tup [.str room,.ref s,.str other])):=(ab.new hs).trans (ab.new D);exact put (x:=⟨room,gS w,other⟩) _ (M.same S) (aD _) ⟨s,aa,kp aa D⟩ (m.putOne ⟨r,i,.inr (.inl ⟨w,hw,rfl⟩)⟩ (by unfold gS aF;intro h;injection h with _ h;cases h) (by omega))
 refine⟨_,rfl,rfl,_,rfl,?_⟩;refine i7 (fun _=>?_) (fun _=>?_)
 ·refine⟨_,rfl,_,rfl,jR (fun _ _ _ _ h=>h) rfl rfl N.pen (keep N).1 m.asks0 (by omega) fun w hw l al an=>⟨(by show 2<=aj;decide),fun s hs=>⟨_,rfl,(by show 3<=aj;decide),fun d D=>?_⟩⟩⟩;have M:=N.took al an;have S:ab l (upd (upd l s (.tup [.str "ask",.str w])) d (.tup [.str room,.ref s,.str other])):=(ab.new hs).trans (ab.new D);exact put (x:=⟨room,b9 w,other⟩) _ (M.same S) (aD _) ⟨s,aa,kp aa D⟩ (m.putOne ⟨r,i,.inl ⟨w,hw,rfl⟩⟩ (xV w) (by omega))
 have still:∀{l:Hp},TX H p c f (fun y=>y=es) l->(cx (tF (aU (aH v5 V6 (tC (.int 4)))) (aU (aH (qa K true) V8 (aL (dP K) (aX V5 (c9 (ay V9))))))) (cP (aL lC (am V5 (am (bg (cg V8 (bg (ay (tC (.str "still")))) V9)) bh)))) (bC)) { nx:=(aW (bg (am V2 (cg V3 V4 V5)))) (bo Q),rt:=Q } [some (.ref p),some (.ref t),some (.ref l1),some (.ref l2),some (.ref l3),some (.ref f),some (.int U),some (.int I),some (.str room),some (.str other),none] l:=fun{l} B=>by
  have bc:TX H p c f (TR J0 J1 J2 (es.length+1)) l:=B.imp fun y e=>by rw[e];exact⟨m,rh _⟩
  refine⟨_,rfl,rfl,_,rfl,?_⟩;refine i7 (fun _=>?_) (fun _=>bD (J _ bc));refine⟨_,rfl,_,rfl,_,rfl,(by show 1<=aj;decide),fun bl bz=>?_⟩;have B7:=B.same (ab.new (o:=.lst [.str other]) bz);have e7:upd l bl (.lst [.str other]) bl=some (.lst [.str other]):=aa;generalize upd l bl (.lst [.str other])=H7 at B7 e7 ⊢;obtain⟨v,fs,A,G,rfl⟩:=id B7.ds;refine⟨f,bl,v,fs,[other],J2,rfl,A,G,e7,fun d D=>(m.good d D).b,by omega,(by show 1<=1000;decide),fun g F H8 hg hF _ _ S8=>?_⟩;have B8:=B7.same S8;refine⟨gE room,F.map gE,g,_,ox room,rfl,.inl (aw.of hg),lR _,(by show 0<=8;decide),by rw[fh];decide,_,rfl,?_⟩;rw[if_pos rfl];by_cases c1:room∈F
  ·rw[zzr1 (nL.mpr c1)];exact bD (J _ (B8.imp fun y e=>by rw[e];exact⟨m,rh _⟩))
  rw[zzr0 (fun z=>c1 (nL.mp z))];refine bT ?_;refine⟨_,rfl,_,rfl,(by show 1<=aj;decide),fun s hs=>⟨_,rfl,(by show 3<=aj;decide),fun d D=>?_⟩⟩;have S:ab H8 (upd (upd H8 s (.tup [.str "still"])) d (.tup [.str room,.ref s,.str other])):=(ab.new hs).trans (ab.new D);exact put (x:=⟨room,aF,other⟩) _ (B8.same S) (aD _) ⟨s,aa,kp aa D⟩ (m.putStill r i (fun z=>c1 ((hF room).mpr z)) (by omega))
 refine⟨_,rfl,_,_,rfl,rfl,_,rfl,?_⟩;refine i7 (fun _=>?_) (fun _=>bD (still N));refine⟨_,rfl,(by show 0<=aj;decide),fun q hq=>?_⟩;have M:=N.same (ab.new (o:=.lst []) hq);have e6:upd H5 q (.lst []) q=some (.lst []):=aa;generalize upd H5 q (.lst [])=l at M e6 ⊢;obtain⟨v,fs,A,G,rfl⟩:=id M.ds;refine HZ A G e6 (fun c1=>⟨_,rfl,bT ?_⟩) (fun _=>⟨_,rfl,bD (bD (still M))⟩);have fl:0<fs.length:=List.length_pos_iff.2 c1;have n2:I<fs.length:=by split at n1<;>omega
 obtain⟨n,rfl⟩:=j9 n0;have n3:n<fs.length:=by omega
 have ap:fs[n]?=some fs[n]:=de n3;obtain⟨u,hu,L⟩:=Paired.get G ap;generalize fs[n]=O at ap L;have hm:=bU ap;obtain⟨sb,bd,bi⟩:=L;obtain⟨s0,b1,bm,_⟩:=xj (m.good O hm);have bI:xU (O.sg.map V.str) 0=some (.str s0):=by rw[bm];exact ca (j:=0) rfl
 have bn:(v.map V.ref)[n]?=some (.ref u):=by rw[cH,hu];rfl
 refine⟨_,rfl,_,rfl,f,_,_,_,rfl,rfl,aw.of A,ca bn,u,_,1,_,rfl,rfl,bP.of bd,rfl,sb,_,0,_,rfl,rfl,bP.of bi,bI,rfl,_,rfl,?_⟩;refine i7 (fun c2=>?_) (fun _=>still M);have ns:O.sg≠aF:=fun z=>by
  rw[bm]at z;injection z with z;rw[z]at c2;simp at c2
 have bS:yQ (n:Int) (v.map V.ref).length=some n:=(Ac (JT (by rw[ah,Paired.length G];exact n3))).1;refine⟨_,rfl,.inl ⟨rfl,_,aw.of A⟩,_,rfl,f,_,_,n,.ref u,rfl,rfl,A,by omega,by omega,bS,bn,?_⟩;have ee:(v.map V.ref).eraseIdx n=(v.eraseIdx n).map V.ref:=xH _ v n;rw[ee];have k6:gF l (upd l f (.lst ((v.eraseIdx n).map V.ref))):=fg A;have B7:TX H p c f (fun y=>y=fs.eraseIdx n) (upd l f (.lst ((v.eraseIdx n).map V.ref))):=M.put ⟨_,A⟩ (Paired.out n G) rfl;have t7:=k6 _ _ bd;have s7:=k6 _ _ bi;generalize upd l f (.lst ((v.eraseIdx n).map V.ref))=H7 at B7 t7 s7 ⊢;have m7:=m.out n;have l7:(fs.eraseIdx n).length<=fs.length:=(List.eraseIdx_sublist fs n).length_le;refine⟨_,rfl,rfl,_,rfl,?_⟩;refine i7 (fun _=>?_) (fun _=>J _ (B7.imp fun y e=>by rw[e];exact⟨m7,by omega⟩));refine⟨_,rfl,_,rfl,u,_,0,_,rfl,rfl,bP.of t7,rfl,_,rfl,u,_,1,_,rfl,rfl,bP.of t7,rfl,_,rfl,(by show 3<=aj;decide),fun d D=>?_⟩;have S:ab H7 (upd H7 d (.tup [.str O.a,.ref sb,.str other])):=ab.new D;exact put (x:=⟨O.a,O.sg,other⟩) _ (B7.same S) l7 ⟨sb,aa,S _ _ s7⟩ (m7.putOne ⟨(m.good O hm).a,i,(m.good O hm).sg⟩ ns (by omega))
theorem Reach.ren(h:Reach a x y):Reach (a.map (wD f)) (f x) (f y):=by
 induction h with
 |one e=>exact .one (aS.2 ⟨_,e,rfl⟩)
 |step _ e g=>exact .step g (aS.2 ⟨_,e,rfl⟩)
theorem i4.ren:i4 g r a->i4 (g.map (wD f)) (f r) a:=fun⟨w,h,b,i⟩ =>
 ⟨f w,h.imp (fun e=>by rw[e]) Reach.ren,f b,aS.2 ⟨_,i,rfl⟩⟩
inductive jO (vs:List V)(H:Hp)(Q:VK)(E:XK):Prop
 |mk (p c t l1 l2 l3 l4:Addr) (ts:Ze) (J0 J1 J2:Zb) (ds:List ao):(vs=[.ref p,.ref t])->(hW H p c)->(hC H t l1 l2 l3 l4 ts J0 J1 J2 ds)->(aQ J0 J1 J2 ds)->(J2.length<=26)->(∀(t' l3' l4':Addr) (ts':Ze) (rooms':Zb) (f:Str->Str) (H':Hp),hC H' t' l1 l2 l3' l4' ts' J0 J1 rooms' (ds.map (wD f))->aQ J0 J1 rooms' (ds.map (wD f))->rooms'.Perm (J2.map f)->hW H' p c->bA p H H'->Q (.ref t') H')->jO  vs H Q E
theorem Bh{K:Za}(h:jO G H Q E):we K fD mP (bo Q) (start wR G) H:=by
 obtain⟨p,c,t,l1,l2,l3,l4,ts,J0,J1,A,ds,rfl,hp,T,m,z3,k⟩:=h;have z4:=m.few;have ch:0<A.length:=by
  cases hq:A with
  |nil=>exact absurd hq m.rooms0
  |cons _ _=>simp
 refine⟨_,rfl,t,_,rfl,bP.of T.t,rfl,_,_,rfl,_,_,rfl,_,_,rfl,_,_,rfl,rfl,?_⟩;refine fun d hd=>?_;have dp:=hp.nep hd;have dc:=hp.nec hd;have T1:=T.same (ab.new (o:=.dK []) hd);have an:=hp.ex (ab.new (o:=.dK []) hd);have ap:upd H d (.dK []) d=some (.dK (GR [])):=aa;have a9:bA p H (upd H d (.dK [])):=bA.new hd;generalize upd H d (.dK [])=H1 at T1 an ap a9 ⊢;refine⟨_,rfl,_,rfl,_,rfl,.inl ⟨l3,_,rfl,.inl (aw.of T1.a3),p,c,(A.map V.str).length,rfl,an,by rw[ah];exact z3,fun lw l H2 bS v bc as bd aC=>?_⟩⟩;rw[ah]at v;have T2:=T1.ex an aC;have b1:=aC _ _ ap dp.symm;have b2:lw≠d:=fun z=>by rw[z,ap]at bc;cases bc
 have ci:=bd.ne_strs as;refine⟨l3,lw,rfl,.inl ⟨⟨_,aw.of T2.a3⟩,⟨_,aw.of as⟩,?_⟩⟩;have ez:(A.zip l).length=A.length:=by rw[List.length_zip,v,Nat.min_self]
 refine BK (xs:=A.map V.str) (ys:=l.map V.str) (by rw[ah,ah,v]) (fun i σ B=>Mz fun(x7 x8:Option V)=>Mc (σ=[some (.ref p),some (.ref t),some (.ref l1),some (.ref l2),some (.ref l3),some (.ref l4),some (.ref d),x7,x8,none,none]) (B d=some (.dK (GR ((A.zip l).take i)))) (B lw=some (.lst (l.map V.str))) (hW B p c) (bA p H B))
  ⟨_,_,rfl,b1,as,bd,a9.trans aC⟩ (fun i σ B _ ⟨_,_,_,_,h1,_,ex⟩=>⟨aw.of (ex _ _ T.a3 (hp.ne_strs T.a3)),aw.of h1⟩) ?_ ?_
 ·rintro i x y σ H3 q hx hy ⟨x7,x8,rfl,I,Y,a0,N⟩ hq;obtain⟨r,hr,rfl⟩:=bJ hx;obtain⟨w,hw,rfl⟩:=bJ hy;have hi:i<A.length:=(bN.mp hr).1;refine⟨q,_,rfl,bP.of aa,rfl,_,_,rfl,_,_,rfl,rfl,?_⟩;have bi:(GR ((A.zip l).take i)).length<aj:=by
   unfold GR;rw[ah,aJ];exact aq (by omega)
  refine⟨_,rfl,_,rfl,_,rfl,d,_,rfl,.inl ⟨_,.inr r,kp I hq,rfl,bi,rfl⟩,_,_,rfl,?_,?_,?_,?_⟩
  ·have hz:(A.zip l)[i]?=some (r,w):=by
    rw[List.getElem?_zip_eq_some];exact⟨hr,hw⟩
   have hn:r∉((A.zip l).take i).map (·.1):=by
    rw[ul,yV v];intro z;obtain⟨j,hj⟩:=gK z;have b3:j<i:=by
     have:=(bN.mp hj).1;rw[aJ]at this;omega
    rw[List.getElem?_take_of_lt b3]at hj;have:=t5 m.okR.1 hj hr;omega
   rw[aa,HX hn,take_snoc hz]
  ·rw[ai b2];exact kp Y hq
  ·exact(a0.ex (ab.new hq)).upd dp dc
  ·intro b o e n;rw[ai (ae e hd)];exact kp (N _ _ e n) hq
 rintro σ H3 ⟨x7,x8,rfl,I,Y,a0,N⟩;rw[ah,<-ez,bf]at I;have T3:=T.ex hp N;generalize hρ:IZ (A.zip l)=ρ;have J:A.map ρ=l:=by rw[<-hρ];exact Ey m.okR.1 v
 have L:∀r∈A,be (GR (A.zip l)) (.inr r:fR)=some (.str (ρ r)):=fun r hr=>by
  rw[<-hρ];exact EQ (by rw[yV v];exact hr)
 refine⟨_,rfl,l3,rfl,⟨_,aw.of T3.a3⟩,fun f hf=>?_⟩;refine bY (xs:=A.map V.str) (fun i G B=>G=((A.take i).map ρ).map V.str/\ab H3 B/\B f=some (.lst G)) ⟨rfl,ab.new hf,aa⟩ (fun i G B _ ⟨_,S,h'⟩=>⟨h',aw.of (S _ _ T3.a3)⟩) ?_ ?_;rotate_left
 ·rintro i G B x' a5 hi ⟨rfl,S,f'⟩;obtain⟨r,hr,rfl⟩:=bJ a5;refine gN (pL ?_);refine⟨_,rfl,_,rfl,d,.str (ρ r),rfl,.inl ⟨_,.inr r,.inl (S _ _ I),rfl,(L r (bU hr)).symm⟩,f',?_,mY hi ⟨?_,?_,aa⟩⟩
  ·rw[ah,ah,aJ];exact aq (by omega)
  ·rw[take_snoc hr,av,av];rfl
  ·intro b o q;rw[ai (ae q hf)];exact S _ _ q
 rintro G H4 ⟨rfl,S4,f4⟩;rw[ah,bf,J]at f4;have T4:=T3.same S4;have a6:=a0.ex S4;have b4:=S4 _ _ I;refine⟨_,rfl,_,rfl,.inl ⟨l3,_,rfl,.inl (aw.of T4.a3),dU (m:=((A.map V.str).length:Nat)) a6 (by rw[ah];omega) (by rw[ah];omega) fun r H5 r0 r1 b5 O=>⟨_,_,rfl,rfl,?_⟩⟩⟩;rw[ah]at r1;obtain⟨n,rfl⟩:=j9 r0;have T5:=T4.ex a6 O;have f5:=O _ _ f4 (a6.ne_strs f4);have b6:=O _ _ b4 dp.symm;have bl:bA p H H5:=(N.trans (ab.exB S4)).trans O;have c1:fX (l.map V.str) none (some 1)=(l.take 1).map V.str:=t_ l 1;have c2:fX (l.map V.str) (some (1+(n:Int))) none=(l.drop (1+n)).map V.str:=xM l (1+n);have c3:fX (l.map V.str) (some 1) (some (1+(n:Int)))=((l.drop 1).take (1+n-1)).map V.str:=Gv l (j:=1) (k:=1+n) (by omega) (by omega);refine⟨_,rfl,_,rfl,f,_,rfl,aw.of f5,fun q1 a7=>⟨_,rfl,_,rfl,_,rfl,f,_,rfl,aw.of (kp f5 a7),fun q2 a8=>⟨q1,q2,_,_,rfl,rfl,kp aa a8,aa,?_,fun q3 bm=>⟨_,rfl,_,rfl,_,rfl,_,rfl,f,_,rfl,aw.of (kp (kp (kp f5 a7) a8) bm),fun q4 bn=>⟨q3,q4,_,_,rfl,rfl,kp aa bn,aa,?_,fun q5 U=>?_⟩⟩⟩⟩⟩
 ·rw[c1,c2,ah,ah,aJ,dS];exact cV (aq (by omega))
 ·rw[c1,c2,c3,ba,ah,ah,ah,aJ,dS,aJ,dS];exact cV (aq (by omega))
 rw[c1,c2,c3]at U ⊢;have m1:(l.take 1).map V.str++(l.drop (1+n)).map V.str=(l.take 1++l.drop (1+n)).map V.str:=av.symm;have m2:(l.take 1++l.drop (1+n)).map V.str++((l.drop 1).take (1+n-1)).map V.str=(l.take 1++l.drop (1+n)++(l.drop 1).take (1+n-1)).map V.str:=av.symm;rw[m1]at U ⊢;rw[m2];have S6:=((((ab.new (o:=.lst ((l.take 1).map V.str)) a7).trans (ab.new (o:=.lst ((l.drop (1+n)).map V.str)) (by rw[<-c1];exact a8))).trans (ab.new (o:=.lst ((l.take 1++l.drop (1+n)).map V.str)) (by rw[<-c1,<-c2];exact bm))).trans (ab.new (o:=.lst (((l.drop 1).take (1+n-1)).map V.str)) (by rw[av,<-c1,<-c2];exact bn))).trans (ab.new (o:=.lst ((l.take 1++l.drop (1+n)++(l.drop 1).take (1+n-1)).map V.str)) U);have C:=AQ l n;generalize l.take 1++l.drop (1+n)++(l.drop 1).take (1+n-1)=s at S6 C U ⊢;have bu:(upd (upd (upd (upd (upd H5 q1 (.lst ((l.take 1).map V.str))) q2 (.lst ((l.drop (1+n)).map V.str))) q3 (.lst ((l.take 1++l.drop (1+n)).map V.str))) q4 (.lst (((l.drop 1).take (1+n-1)).map V.str))) q5 (.lst (s.map V.str))) q5=some (.lst (s.map V.str)):=aa;generalize(upd (upd (upd (upd (upd H5 q1 (.lst ((l.take 1).map V.str))) q2 (.lst ((l.drop (1+n)).map V.str))) q3 (.lst ((l.take 1++l.drop (1+n)).map V.str))) q4 (.lst (((l.drop 1).take (1+n-1)).map V.str))) q5 (.lst (s.map V.str)))=H6 at S6 bu ⊢;have T6:=T5.same S6;have bw:=S6 _ _ b6;refine⟨_,rfl,l4,rfl,⟨_,aw.of T6.a4⟩,fun g hg=>?_⟩;refine bY (xs:=ts.map V.ref) (fun i G B=>∃us:List Addr,G=us.map V.ref/\ab H6 B/\B g=some (.lst G)/\c6 B us ((ds.take i).map (wD ρ))) ⟨[],rfl,ab.new hg,aa,.nil⟩ (fun i G B _ ⟨_,_,S,h',_⟩=>⟨h',aw.of (S _ _ T6.a4)⟩) ?_ ?_;rotate_left
 ·rintro i G B x' a5 hi ⟨us,rfl,S,g',hP⟩;obtain⟨u,hu,rfl⟩:=bZ a5;obtain⟨M,bz,bI⟩:=Paired.getL T6.ds hu;obtain⟨sb,b7,b8⟩:=bI.kt (ab.kt S);have al:=bU bz;have cc:=L M.a (m.good M al).a;have cd:=L M.b (m.good M al).b;refine⟨u,_,rfl,bP.of b7,rfl,_,_,rfl,_,_,rfl,_,_,rfl,rfl,?_⟩;refine pL ?_;refine⟨_,rfl,_,rfl,d,.str (ρ M.a),rfl,.inl ⟨_,.inr M.a,.inl (S _ _ bw),rfl,cc.symm⟩,_,rfl,_,rfl,_,rfl,d,.str (ρ M.b),rfl,.inl ⟨_,.inr M.b,.inl (S _ _ bw),rfl,cd.symm⟩,(by show 3<=aj;decide),fun w hw=>⟨kp g' hw,?_,mY hi ⟨us++[w],by rw[av];rfl,?_,aa,?_⟩⟩⟩
  ·rw[ah,Paired.length hP,ah,aJ];exact aq (by omega)
  ·intro b o q;rw[ai (ae q hg)];exact kp (S _ _ q) hw
  ·rw[take_snoc bz,av];have hk:gF B (upd (upd B w (.tup [.str (ρ M.a),.ref sb,.str (ρ M.b)])) g (.lst (us.map V.ref++[.ref w]))):=(ab.kt (ab.new hw)).trans (fg (kp g' hw));refine gl (hP.kt hk) ⟨sb,?_,hk _ _ b8⟩;exact(fg (kp g' hw)) _ _ aa
 rintro G H7 ⟨us,rfl,S7,g7,hP⟩;rw[ah,Paired.length T.ds,bf]at hP;have T7:=T6.same S7;have ce:=(b5.ex S6).ex S7;have cf:bA p H H7:=bl.trans (ab.exB (S6.trans S7));refine⟨_,rfl,_,rfl,_,rfl,_,rfl,(by show 4<=aj;decide),fun t' D=>k t' q5 g us s ρ _ ⟨aa,kp T7.a1 D,kp T7.a2 D,kp (S7 _ _ bu) D,kp g7 D,hP.kt (ab.kt (ab.new D))⟩ (m.renamed bS J C) (by rw[J];exact C) (ce.ex (ab.new D)) (cf.trans (bA.new D))⟩
inductive tU (vs:List V)(H:Hp)(Q:VK)(E:XK):Prop
 |mk (p c t l1 l2 l3 l4:Addr) (ts:Ze) (J0 J1 J2:Zb) (ds:List ao) (n:Nat):(vs=[.ref p,.ref t,.int (n:Nat)])->(hW H p c)->(hC H t l1 l2 l3 l4 ts J0 J1 J2 ds)->(aQ J0 J1 J2 ds)->(J2.length<=26)->(ds.length<=650)->(n<=8)->(∀(t' l3' l4':Addr) (ts':Ze) (rooms':Zb) (ds':List ao) (H':Hp),hC H' t' l1 l2 l3' l4' ts' J0 J1 rooms' ds'->aQ J0 J1 rooms' ds'->(∀r∈rooms',∀a∈J0,i4 ds' r a)->rooms'.length=J2.length->ds'.length<=ds.length+n+4 * J2.length->hW H' p c->bA p H H'->Q (.ref t') H')->tU  vs H Q E
theorem Jw{K:Za}(h:tU vs H Q E):CG K fD jO lr nA tX (bo Q) (start Ea vs) H:=by
 obtain⟨p,c,t,Y,l2,G,l4,ts,I,J,C,ds,n,rfl,hp,T,m,z3,z4,zn,k⟩:=h;refine⟨_,rfl,p,c,rfl,hp,fun H1 L M=>?_⟩;have T1:=T.ex hp M;refine⟨_,rfl,_,rfl,_,_,rfl,rfl,dU L (by omega) (by omega) fun x H2 x0 x1 al N=>?_⟩;have T2:=T1.ex L N;refine⟨x,rfl,by omega,by omega,?_⟩;refine kQ (lo:=0) (n:=x.toNat) (fun i σ H'=>NE5 fun(D g:Addr) (j:Ze) (e:List ao) (x3:Option V)=>MB (σ=[some (.ref p),some (.ref D),some (.int (n:Nat)),x3]) (hC H' D Y l2 G g j I J C e) (aQ I J C e) (e.length<=ds.length+i) (hW H' p c) (bA p H H'))
  ⟨t,l4,ts,ds,_,rfl,T2,m,aD _,al,M.trans N⟩ ?_ ?_
 ·rintro i σ H3 hi ⟨D,g,j,e,x3,rfl,T3,m3,z,A,l⟩;refine⟨_,rfl,_,rfl,p,c,D,Y,l2,G,g,j,I,J,C,e,rfl,A,T3,m3,by omega,fun t2 o q s H4 T4 m4 z4 u v=>?_⟩;exact⟨t2,o,q,s,_,rfl,T4,m4,by omega,u,l.trans v⟩
 ·rintro σ H3 ⟨D,g,j,e,x3,rfl,T3,m3,z,A,l⟩;refine⟨_,rfl,_,rfl,p,c,D,Y,l2,G,g,j,I,J,C,e,rfl,A,T3,m3,z3,by omega,fun t2 o q s H4 T4 m4 O zw u v=>?_⟩;refine⟨_,rfl,dU u (by decide) (by decide) fun w H5 w0 w1 U B=>⟨rfl,_,rfl,?_⟩⟩;have T5:=T4.ex u B;refine i7 (fun _=>?_) (fun _=>?_)
  ·refine⟨_,rfl,_,rfl,p,c,t2,Y,l2,G,o,q,I,J,C,s,rfl,U,T5,m4,z3,fun t3 an ap as y f H6 T6 m6 pr aC a0=>⟨_,rfl,?_⟩⟩;refine k t3 an ap as y _ H6 T6 m6 (fun r hr a ha=>?_) (by rw[pr.length_eq,ah]) (by rw[ah];omega) aC (((l.trans v).trans B).trans a0);obtain⟨r0,a4,rfl⟩:=aS.1 (pr.mem_iff.1 hr);exact(O r0 a4 a ha).ren
  ·exact⟨_,rfl,k t2 G o q C s H5 T5 m4 O rfl (by omega) U ((l.trans v).trans B)⟩
theorem Paired.mapM{α β:Type}{F G:α->β->Prop}:∀{e:List α}{bs:List β},Paired F e bs->(∀a b,a∈e->F a b->G a b)->Paired G e bs
 |_,_,.nil,_=>.nil
 |_,_,.cons r t,h=>.cons (h _ _ cW r) (Mum.Paired.mapM t fun a b f=>h a b (c_ _ f))
theorem kZ.find{sg:Sg}:∀{a:List (TK×V)}{L:List (Sg×List Str)},kZ H a L->((∀p∈L,p.1≠sg)/\be a (eT sg)=none)∨∃p∈L,p.1=sg/\∃u,be a (eT sg)=some (.ref u)/\H u=some (.tup (p.2.map V.str))
 |_,_,.nil=>.inl ⟨fun _ h=>(nomatch h),rfl⟩
 |kv::_,p::_,.cons ⟨e,u,f,g⟩ t=>by
  by_cases c:p.1=sg
  ·refine .inr ⟨p,cW,c,u,?_,g⟩;rw[dC (by rw[e,c]),f]
  ·rw[dk (fun z=>c (eP (by rw[<-e,z])))];rcases kZ.find t with⟨i,j⟩|⟨q,k,h⟩
   ·exact .inl ⟨fun x l=>(cu.1 l).elim (fun z=>by rw[z];exact c) (i x),j⟩
   ·exact .inr ⟨q,c_ _ k,h⟩
theorem kZ.look(h:kZ H a (stepsF l m g i f)){sg:Sg}(n:sg∈b0 l m):
  (behF g i f sg=[]/\be a (eT sg)=none)∨(behF g i f sg≠[]/\∃u,be a (eT sg)=some (.ref u)/\H u=some (.tup ((behF g i f sg).map V.str))):=by
 rcases kZ.find (sg:=sg) h with⟨j,k⟩|⟨p,o,e,u,j,k⟩
 ·refine .inl ⟨?_,k⟩;refine Classical.not_not.1 fun z=>j (sg,behF g i f sg) ?_ rfl;exact fU.2 ⟨aS.2 ⟨sg,n,rfl⟩,zzr1 z⟩
 ·obtain⟨q,r⟩:=fU.1 o;obtain⟨s,_,rfl⟩:=aS.1 q;cases e;exact .inr ⟨of_decide_eq_true r,u,j,k⟩
def mr(K:Za):TS :=
 ar (mv K V0 V1 "machine")
 (mv K V0 (lq) "known")
def my:List Str:=["self","M"]
def kE(K:Za)(sp_steps_at:Sp):TS :=
 ar (cx (tB (ir K V1 (fQ K V0 "known"))) (jv (fQ K V0 "known") V1 (aL sp_steps_at (aX (fQ K V0 "machine") V1))) (bC))
 (aW (iD K (fQ K V0 "known") V1))
def k4:List Str:=["self","face"]
def ze(K:Za):TS :=
 cx (CK (aU (aH Dg V0 (tC (.int 0)))) (aU (aH HE V0 (tC (.int 4))))) (uP) (bC)
def At:List Str:=["d"]
def Fx(K:Za):TS :=
 ar (aN (tC (.int 1)) U1)
 (ar (dW (bO K V0) U2 (aN (aH oo V1 V2) U1))
 (aW V1))
def GL:List Str:=["numbers","whole","number"]
def tj(K:Za)(C_KnownSteps:Addr)(sp_KnownSteps_init:Sp)(C_Machine:Addr)(sp_Machine_says:Sp):TS :=
 ar (mv K V0 (cI 1 [] (bO K (cq C_Machine "says" sp_Machine_says [] E0 V1 bh)) U0 (iS) (bg (aX (tC (.str "say")) V0))) "says_signs")
 (ar (mv K V0 (uQ C_KnownSteps sp_KnownSteps_init [] E0 (ay V1)) "known_steps")
 (mv K V0 (lq) "known_counts"))
def tO:List Str:=["self","M"]
def pO(K:Za)(C_KnownSteps:Addr)(sp_KnownSteps_steps_from:Sp):TS :=
 aW (cq C_KnownSteps "steps_from" sp_KnownSteps_steps_from [] E0 (fQ K V0 "known_steps") (ay V1))
def qK:List Str:=["self","face"]
def sZ(K:Za)(a_HUSH:Addr)(C_Made:Addr)(sp_Made_steps_from:Sp):TS :=
 ar (aN (cI 1 [] (Ip K (cq C_Made "steps_from" sp_Made_steps_from [] E0 V0 (ay V1))) U0 (aU (aH v5 (aH (sH K) V0 (tC (.int 0))) (tC (.str "ask")))) V0) U2)
 (aW (aH kf (cI 1 [0] (bO K V2) U0 (iS) (aH kf (c9 (ay V0)) (fQ K V1 "says_signs"))) (c9 (am (aH kf (fQ K V0 "says_signs") (c9 (ay (tC (.ref a_HUSH))))) bh))))
def tL:List Str:=["self","face","asks"]
def s_(K:Za)(sp_product:Sp)(C_Made:Addr)(sp_Made_count_at:Sp)(sp_Made_steps_from:Sp):TS :=
 ar (aN (cq C_Made "steps_from" sp_Made_steps_from [] E0 V0 (ay V1)) U4)
 (aW (aL sp_product (am (cI 1 [0,2,4] (bO K V3) U0 (iS) (cq C_Made "count_at" sp_Made_count_at [] E0 V1 (aX (zM K V3 V0) (aH mS V2 (tC (.int 1)))))) bh)))
def tM:List Str:=["self","face","d","signs","steps"]
def tf(K:Za)(C_Made:Addr)(sp_Made_kinds_at:Sp)(sp_Made_count_of:Sp):TS :=
 ar (cx (CK (tB (CL V1)) (aU (aH v5 V2 (tC (.int 0))))) (aW (tC (.int 1))) (bC))
 (ar (cx (tB (ir K (bg (aX V1 V2)) (fQ K V0 "known_counts"))) (ar (aN (cI 1 [1,2,0] (bO K (cq C_Made "kinds_at" sp_Made_kinds_at [] E0 V0 (ay V1))) U0 (iS) (cq C_Made "count_of" sp_Made_count_of [] E0 V3 (cg V1 V2 V0))) U3)
 (jv (fQ K V0 "known_counts") (bg (aX V1 V2)) (aH dD (tC (.int 1)) (gP (Kt K) (ay V3))))) (bC))
 (aW (iD K (fQ K V0 "known_counts") (bg (aX V1 V2)))))
def tN:List Str:=["self","face","d","counts"]
def wj(K:Za)(sp_law_still_on:Sp):TS :=
 ar (aN V0 (jM K 4 (bv U3 (bv U4 (bv U5 (bv U6 (jH)))))))
 (ar (cx (aU (aH (mU K) V2 (bg (ay (tC (.str "hush")))))) (ar (aN (cI 1 [] (bO K V6) U0 (aU (aH LG (aH (jy K) (aH (jy K) V0 (tC (.int 1))) (tC (.int 0))) (tC (.str "ask")))) (aH (jy K) V0 (tC (.int 0)))) U7)
 (aW (gP (Bl K) (ay (cI 1 [7] (Gk K V1) U0 (aU (aH (qa K true) V0 V1)) V0))))) (bC))
 (ar (aN (aL sp_law_still_on (am V6 (am (cI 1 [1,2] (bO K V6) U0 (tF (aU (aH (qa K false) (aH (jy K) V0 (tC (.int 0))) V1)) (aU (aH (mU K) (aH (jy K) V0 (tC (.int 1))) V2))) (aH (jy K) V0 (tC (.int 2)))) bh))) U8)
 (aW (gP (Bl K) (ay (cI 1 [8] (bO K V5) U0 (aU (aH (qa K false) V0 V1)) V0))))))
def wT:List Str:=["told","face","sign","asks","says","rooms","doors","loud","there"]
def AX(K:Za)(sp_law_still_on:Sp):TS :=
 ar (aN (aL sp_law_still_on (am (aH (sH K) V0 (tC (.int 3))) (am (c9 (ay (aH (sH K) (aH (sH K) V0 (tC (.int 2))) (tC (.int 0))))) bh))) U1)
 (aW (gP (Bl K) (am (cI 1 [1] (bO K (aH (sH K) V0 (tC (.int 2)))) U0 (aU (aH (qa K false) V0 V1)) V0) bh)))
def Ci:List Str:=["told","there"]
def rm(K:Za):TS :=
 ar (aN (cI 1 [] (bO K (aH (sH K) V0 (tC (.int 1)))) U0 (iS) (bg (aX (tC (.str "say")) V0))) U2)
 (ar (cx (tB (CL V1)) (aW (aH kf V2 (c9 (ay (bg (ay (tC (.str "hush")))))))) (bC))
 (aW (aH kf (c9 (ay (bg (aX (tC (.str "ask")) V1)))) V2)))
def r8:List Str:=["told","ask","says"]
def AZ(K:Za)(sp_law_behind:Sp):TS :=
 ar (cx (tB (ir K (bg (aX V2 V3)) V1)) (jv V1 (bg (aX V2 V3)) (aL sp_law_behind (cg V0 V2 V3))) (bC))
 (aW (iD K V1 (bg (aX V2 V3))))
def Cn:List Str:=["told","known","face","sign"]
def AY(K:Za)(sp_law_after:Sp):TS :=
 aW (cI 1 [0,1,2] (bO K (aH (sH K) V0 (tC (.int 0)))) U0 (aU (aH (wK K) (aL sp_law_after (am V1 (cg V2 V3 (bg (aX (tC (.str "ask")) V0))))) (bg (bh)))) V0)
def Cj:List Str:=["told","known","face"]
def AT(K:Za)(sp_law_part_signs:Sp)(sp_law_count:Sp)(sp_law_after:Sp):TS :=
 ar (aN (c9 (bh)) U5)
 (ar (dW (bO K (aL sp_law_part_signs (aX V0 V3))) U6 (cP (Ex K "list" iz V5 (am (aL sp_law_count (am V0 (am V1 (aX (aL sp_law_after (am V0 (cg V1 V2 V6))) (aH mS V4 (tC (.int 1))))))) bh))))
 (aW V5))
def Cf:List Str:=["told","known","face","ask","deep","found","sign"]
def AS(K:Za):TS :=
 ar (aN (tC (.int 1)) U1)
 (ar (dW (bO K V0) U2 (aN (aH oo V1 V2) U1))
 (aW V1))
def Ce:List Str:=["numbers","found","number"]
def zj(K:Za)(sp_law_asked:Sp)(sp_law_times:Sp)(sp_law_sizes:Sp):TS :=
 ar (cx (CK (aU (aH (mU K) V2 (bg (bh)))) (aU (aH v5 V3 (tC (.int 0))))) (aW (tC (.int 1))) (bC))
 (ar (cx (tB (ir K (bg (aX V2 V3)) V1)) (ar (aN (tC (.int 1)) U4)
 (ar (dW (bO K (aH kf (aL sp_law_asked (cg V0 V1 V2)) (c9 (ay (tC .non))))) U5 (aN (aH dD V4 (aL sp_law_times (ay (aL sp_law_sizes (am V0 (am V1 (cg V2 V5 V3))))))) U4))
 (jv V1 (bg (aX V2 V3)) V4))) (bC))
 (aW (iD K V1 (bg (aX V2 V3)))))
def Ax:List Str:=["told","known","face","deep","many","ask"]
open Builtin.Int (intBits)
def kindsF(J0 J1 J2:Zb)(ds:List ao)(J6:Zb):List (List Sg) :=
 ((J0.filter fun a=>decide (behF J2 ds J6 (b9 a)≠[])).map fun a=>b9 a::J1.map gS)++[J1.map gS++[cC]]
def gB(l:List Int):Int:=l.foldl (· * ·) 1
def cntM(J0 J1 J2:Zb)(ds:List ao):Nat->List Str->Int
 |0,_=>1
 |d+1,J6=>if J6=[]then 1 else 1+((kindsF J0 J1 J2 ds J6).map fun k=>gB (k.map fun sg=>cntM J0 J1 J2 ds d (behF J2 ds J6 sg))).sum
theorem BR(a e f:Zb)(g:List ao):∀d,cntM a e f g d []=1
 |0=>by unfold cntM;rfl
 |d+1=>by unfold cntM;rw[if_pos rfl]
theorem u8(l:List Int)(x:Int):gB (l++[x])=gB l * x:=by unfold gB;rw[yd];rfl
def bB:Nat->Nat
 |0=>1
 |d+1=>5 * bB d+7
theorem xk{b:Nat}(l:List Int)(h:∀x∈l,intBits x<=b):intBits (gB l)<=1+l.length * b:=by
 have a:∀n,n<=l.length->intBits (gB (l.take n))<=1+n * b:=by
  intro n
  induction n with
  |zero=>intro _;show intBits 1<=1+0 * b;have:intBits 1<=1:=(by decide);omega
  |succ n f =>
   intro g;have e:l[n]?=some l[n]:=de g;rw[take_snoc e,u8];have i:=intBits_mul_le (f (by omega)) (h l[n] (List.getElem_mem _));rw[gJ];omega
 have:=a l.length (aD _);rw[bf]at this;exact this
theorem Ba{b:Nat}:∀(l:List Int),(∀x∈l,intBits x<=b)->intBits l.sum<=b+l.length
 |[],_=>by show intBits 0<=_;have:intBits 0<=0:=(by decide);omega
 |x::l,h=>by
  rw[qP,fS];have e:=intBits_add_le (h x cW) (Ba l fun y a=>h y (c_ _ a));omega
theorem xy{e:Zb}(f:e.length<=4):(kindsF e J1 J2 ds J6).length<=5:=by
 unfold kindsF;rw[ba,ah];have:=cQ (fun a=>decide (behF J2 ds J6 (b9 a)≠[])) e;show _+1<=5;omega
theorem rQ{k:List Sg}(h:k∈kindsF J0 f i j l):k.length=f.length+1/\∀e∈k,e∈b0 J0 f:=by
 unfold kindsF at h;unfold b0;rcases bM.1 h with h|h
 ·obtain⟨a,g,rfl⟩:=aS.1 h;refine⟨by rw[fS,ah],fun e hs=>?_⟩;rcases cu.1 hs with rfl|hs
  ·exact em _ (em _ (oC (fU.1 g).1))
  ·exact em _ (eU _ hs)
 ·rw[dR.1 h];refine⟨by rw[ba,ah];rfl,fun e hs=>?_⟩;rcases bM.1 hs with hs|hs
  ·exact em _ (eU _ hs)
  ·exact eU _ hs
theorem jI{J0 J1:Zb}(f:J0.length<=4)(g:J1.length<=4):∀(d:Nat) (J6:Zb),intBits (cntM J0 J1 J2 ds d J6)<=bB d
 |0,_=>by unfold cntM bB;decide
 |d+1,J6=>by
  unfold cntM bB;split
  ·have:intBits 1<=1:=by decide
   omega
  ·have h:∀x∈(kindsF J0 J1 J2 ds J6).map (fun k=>gB (k.map fun a=>cntM J0 J1 J2 ds d (behF J2 ds J6 a))),intBits x<=1+5 * bB d:=by
    intro x i;obtain⟨k,j,rfl⟩:=aS.1 i;have:=xk (b:=bB d) (k.map fun a=>cntM J0 J1 J2 ds d (behF J2 ds J6 a)) fun y l=>by
     obtain⟨a,_,rfl⟩:=aS.1 l;exact jI f g d _
    rw[ah,(rQ j).1]at this;have e:(J1.length+1) * bB d<=5 * bB d:=db _ (by omega);omega
   have e:=Ba _ h;rw[ah]at e;have m:=xy (J1:=J1) (J2:=J2) (ds:=ds) (J6:=J6) f;have n:=intBits_add_le (show intBits (1:Int)<=1 by decide) e;omega
theorem xT:∀d,d<=4->bB d<=2000:=by
 intro d a
 match d,a with
 |0,_=>decide
 |1,_=>decide
 |2,_=>decide
 |3,_=>decide
 |4,_=>decide
inductive sp_product(vs:List V)(H:Hp)(Q:VK)(E:XK):Prop
 |mk (l:Addr) (ns:List Int) (b:Nat):(vs=[.ref l])->(H l=some (.lst (ns.map V.int)))->(∀x∈ns,intBits x<=b)->(b<=10000)->(ns.length<=1000)->(Q (.int (gB ns)) H)->sp_product vs H Q E
theorem ints_get{a:List Int}{i:Nat}{x:V}(h:(a.map V.int)[i]?=some x):∃n,a[i]?=some n/\x=.int n:=by
 rw[cH]at h;obtain⟨n,e,rfl⟩:=k_.1 h;exact⟨n,e,rfl⟩
theorem uZ{K:Za}(h:sp_product q H Q E):Fx K (bo Q) (start GL q) H:=by
 obtain⟨l,a,b,rfl,m,o,r,z,k⟩:=h;refine⟨_,rfl,l,rfl,⟨_,aw.of m⟩,?_⟩;refine bR (xs:=a.map V.int) (fun i σ f=>∃g,σ=[some (.ref l),some (.int (gB (a.take i))),g]/\f=H) ⟨_,rfl,rfl⟩ (fun i σ f _ ⟨_,_,e⟩=>by rw[e];exact aw.of m) ?_ ?_
 ·rintro i y σ f s ⟨g,rfl,rfl⟩;obtain⟨n,j,rfl⟩:=ints_get s;have t:i<a.length:=(bN.1 j).1;have p:=xk (b:=b) (a.take i) fun x u=>o x (hZ u);rw[aJ,qQ (by omega)]at p;refine⟨_,rfl,_,rfl,_,_,rfl,rfl,oB p (o n (bU j)) ?_,?_⟩
  ·have:i * b<=1000 * 10000:=Nat.mul_le_mul (by omega) r;omega
  ·exact⟨_,by rw[take_snoc j,u8];rfl,rfl⟩
 ·rintro σ f ⟨g,rfl,rfl⟩;rw[ah,bf];exact⟨_,rfl,k⟩
theorem Hj{K:Za}(h:sp_product a H Q E):AS K (bo Q) (start Ce a) H:=uZ h
inductive eE(vs:List V)(H:Hp)(Q:VK)(E:XK):Prop
 |mk (d:Nat):(vs=[.int (d:Nat)])->(d<=4)->(Q .non H)->eE vs H Q E
theorem wG{K:Za}(h:eE a H Q E):ze K (bo Q) (start At a) H:=by
 obtain⟨d,rfl,e,k⟩:=h;refine⟨_,rfl,_,_,rfl,rfl,_,rfl,?_⟩;rw[zzr0 (by omega)];refine bD ⟨_,rfl,_,_,rfl,rfl,_,rfl,?_⟩;rw[zzr0 (by omega)];exact bD k
def K_:HO->Bool
 |.dT _=>false
 |.frz _ _=>false
 |_=>true
def Kp(H H':Hp):Prop:=∀b o,H b=some o->K_ o=true->H' b=some o
theorem Kp.trans(a:Kp H f)(b:Kp f g):Kp H g:=fun c o e n=>b c o (a c o e n) n
theorem Kp.kt(k:Kp H a):gF H a:=fun b f e=>k b _ e rfl
theorem ab.kp(S:ab H a):Kp H a:=fun b o e _=>S b o e
theorem Kp.upd{H:Hp}{d:Addr}{o x:HO}(h:H d=some x)(n:K_ x=false):Kp H (upd H d o):=fun b u e z=>by
 rw[ai (fun q:b=d=>by rw[q,h]at e;cases e;rw[n]at z;cases z)];exact e
theorem Kp.exB{H:Hp}{d:Addr}{x:HO}(h:H d=some x)(n:K_ x=false)(e:bA d H a):Kp H a:=fun b u q z=>e b u q fun w=>by
 rw[w,h]at q;cases q;rw[n]at z;cases z
theorem iw{H H':Hp}{d:Addr}(k:∀o,H d=some o->H' d=some o)(h:Rd H d x):Rd H' d x:=h.imp (k _) fun⟨o,e⟩=>⟨o,k _ e⟩
theorem fV{a:List (TK×V)}{k:TK}{v:V}(h:be a k=some v):(k,v)∈a:=by
 unfold be at h;obtain⟨p,e,rfl⟩:=k_.1 h;have f:=List.mem_of_find?_eq_some e;have g:decide (p.1=k)=true:=by have:=List.find?_some e;exact this
 rw[<-of_decide_eq_true g];exact f
def Gr(kv kv':List (TK×V)):Prop:=∀k v,be kv k=some v->be kv' k=some v
theorem Gr.refl(a:List (TK×V)):Gr a a:=fun _ _ h=>h
theorem Gr.trans(h:Gr a b)(k:Gr b c):Gr a c:=fun x v e=>k x v (h x v e)
theorem Gr.snoc{v:V}(h:be a k=none):Gr a (a++[(k,v)]):=fun x w e=>by
 rw[<-iI v h,iC,if_neg (fun z=>by rw[z,h]at e;cases e)];exact e
structure KC(K:Za)(C:Addr):Prop where
 cls:Cu K C
 a1:cZ K C "machine"
 a2:cZ K C "known"
structure Co(Cm Ck:Addr)(H0:Hp)(y M kd:Addr)(J0 J1 J2:Zb)(ds:List ao):Prop where
 mach:bV Cm H0 M J0 J1 J2 ds
 ob:∃(dy:Addr) (fs:List (Str×V)),H0 y=some (.ins Ck dy fs)/\lk "machine" fs=some (.ref M)/\lk "known" fs=some (.ref kd)/\lk "steps_from" fs=none
 kdn:H0 kd=none
structure fj(H0 H:Hp)(kd:Addr)(kv:List (TK×V))(J0 J1 J2:Zb)(ds:List ao)(n:Nat):Prop where
 same:ab H0 H
 hkd:H kd=some (.dT kv)
 kok:∀p∈kv,∃(J6:Zb) (d:Addr) (kvs:List (TK×V)),p=(eT J6,.ref d)/\d≠kd/\H0 d=none/\Rd H d (.dT kvs)/\kZ H kvs (stepsF J0 J1 J2 ds J6)
 len:kv.length<=n
theorem fj.up(h:fj g H i j k l m o n)(S:ab H q):fj g q i j k l m o n :=
 ⟨h.same.trans S,S _ _ h.hkd,fun p s=>by obtain⟨f,d,a,e,t,u,r,st⟩:=h.kok p s;exact⟨f,d,a,e,t,u,iw (S d) r,st.kt (ab.kt S)⟩,h.len⟩
theorem fj.more{m:Nat}(h:fj a H kd e f g i j n)(l:n<=m):fj a H kd e f g i j m:=⟨h.same,h.hkd,h.kok,aB h.len l⟩
theorem fj.frz{m H:Hp}{kd d:Addr}{o:Obj}{i a:List (TK×V)}{k:TK}{q s t:Zb}{w:List ao}{n:Nat}(h:fj m H kd i q s t w n)(v:be i k=some (.ref d))(j:H d=some (.dT a)):
  fj m (upd H d (.frz o (.dT a))) kd i q s t w n:=by
 obtain⟨_,D,_,g,y,z,_,_⟩:=h.kok _ (fV v);injection g with _ g;injection g with g;subst g;refine⟨fun b u e=>?_,by rw[ai y.symm];exact h.hkd,fun p A=>?_,h.len⟩
 ·rw[ai (ae e z)];exact h.same _ _ e
 ·obtain⟨f,x,l,e,B,C,r,st⟩:=h.kok p A;refine⟨f,x,l,e,B,C,?_,st.kt (KA j)⟩;by_cases c:x=d
  ·subst c;rcases r with r|⟨E,r⟩
   ·rw[j]at r;cases r;exact .inr ⟨o,aa⟩
   ·rw[j]at r;cases r
  ·exact iw (fun u e=>by rw[ai c];exact e) r
theorem fj.keep{a:Addr}{o:HO}(h:fj l H kd i m q s t n)(v:H a=some o)(B:a≠kd)(w:∀k,(k,V.ref a)∉i):fj (upd l a o) H kd i m q s t n:=by
 refine⟨fun b u e=>?_,h.hkd,fun p j=>?_,h.len⟩
 ·by_cases c:b=a
  ·subst c;rw[aa]at e;cases e;exact v
  ·rw[ai c]at e;exact h.same _ _ e
 ·obtain⟨f,x,g,e,y,A,r⟩:=h.kok p j;refine⟨f,x,g,e,y,?_,r⟩;rw[ai (fun z=>w (eT f) (by rw[<-z,<-e];exact j))];exact A
inductive kK(Cm Ck:Addr)(vs:List V)(H:Hp)(Q:VK)(E:XK):Prop
 |mk (H0:Hp) (y M kd u:Addr) (kv:List (TK×V)) (n:Nat) (J6 J0 J1 J2:Zb) (ds:List ao):(vs=[.ref y,.ref u])->(Co Cm Ck H0 y M kd J0 J1 J2 ds)->(fj H0 H kd kv J0 J1 J2 ds n)->(H u=some (.tup (J6.map V.str)))->(∀r∈J6,r∈J2)->(J6.length<=1000)->(n<=1000000) ->
  (∀(d:Addr) (kv' kvs:List (TK×V)) (H':Hp),fj H0 H' kd kv' J0 J1 J2 ds (n+1)->be kv' (eT J6)=some (.ref d)->Rd H' d (.dT kvs)->kZ H' kvs (stepsF J0 J1 J2 ds J6)->bA kd H H'->Gr kv kv'->Q (.ref d) H')->kK Cm Ck vs H Q E
theorem FO{K:Za}{L q:Addr}(c:KC K q){N:List V}{H:Hp}{Q:VK}{E:XK}(h:kK L q N H Q E):kE K (lA L) (bo Q) (start k4 N) H:=by
 obtain⟨H0,y,M,i,u,m,n,a,O,T,U,Y,rfl,St,j,z,s,hz,hn,k⟩:=h;obtain⟨t,fs,g0,l1,A,l3⟩:=St.ob;have g:=j.same _ _ g0;have tk:n6 K H (eT a) (.ref u):=cU.isIn 8 (fH a) (SignAt.tk z);have D:oh K H i (.ref u) (be m (eT a)):=.inr ⟨_,_,_,.inl j.hkd,rfl,tk,fH a,rfl⟩;refine⟨_,rfl,_,rfl,y,q,t,fs,.ref i,rfl,g,c.cls,c.a2,A,i,_,rfl,D,_,rfl,?_⟩;cases v:be m (eT a)with
 |some w =>
  obtain⟨f,d,l,e,n1,n2,r,st⟩:=j.kok _ (fV v);injection e with e1 e2;cases eP e1;subst e2;refine bD ?_;rw[v]at D;exact⟨_,rfl,y,q,t,fs,.ref i,rfl,g,c.cls,c.a2,A,_,rfl,i,_,rfl,D,k d m l H (j.more (by omega)) v r st (bA.refl _ _) (.refl _)⟩
 |none =>
  refine bT ?_;refine⟨_,rfl,y,q,t,fs,.ref M,rfl,g,c.cls,c.a1,l1,_,rfl,M,u,a,O,T,U,Y,rfl,St.mach.same j.same,z,s,hz,fun d l B hd st dn x=>?_⟩;have C:=j.up x;have G:d≠i:=(ae j.hkd dn).symm;refine⟨_,rfl,y,q,t,fs,.ref i,rfl,x _ _ g,c.cls,c.a2,A,_,rfl,i,_,rfl,.inr ⟨_,eT a,u,C.hkd,rfl,SignAt.tk (x _ _ z),fH a,?_,rfl⟩,?_⟩
  ·have:=j.len;rw[sv];omega
  rw[iI _ v];have kt:gF B (upd B i (.dT (m++[(eT a,.ref d)]))):=KA C.hkd;have v2:be (m++[(eT a,V.ref d)]) (eT a)=some (.ref d):=by rw[<-iI (.ref d) v,iC,if_pos rfl]
  have D2:fj H0 (upd B i (.dT (m++[(eT a,.ref d)]))) i (m++[(eT a,.ref d)]) O T U Y (n+1):=by
   refine⟨fun b o e=>?_,aa,fun p hp=>?_,?_⟩
   ·rw[ai (ae e St.kdn)];exact C.same _ _ e
   ·rcases bM.1 hp with hp|hp
    ·obtain⟨f,d2,I,e,q1,q2,r,J⟩:=C.kok p hp;exact⟨f,d2,I,e,q1,q2,iw (fun o e=>by rw[ai q1];exact e) r,J.kt kt⟩
    ·rw[dR.1 hp];exact⟨a,d,l,rfl,G,j.same.free dn,.inl (by rw[ai G];exact hd),st.kt kt⟩
   ·rw[ba];show _+1<=_;have:=j.len;omega
  have g5:oh K (upd B i (.dT (m++[(eT a,.ref d)]))) i (.ref u) (some (.ref d)):=.inr ⟨_,eT a,u,.inl aa,rfl,cU.isIn 8 (fH a) (SignAt.tk (kt _ _ (x _ _ z))),fH a,v2.symm⟩;exact⟨_,rfl,y,q,t,fs,.ref i,rfl,D2.same _ _ g0,c.cls,c.a2,A,_,rfl,i,_,rfl,g5,k d _ l _ D2 v2 (.inl (by rw[ai G];exact hd)) (st.kt kt) (fun b o e nb=>by rw[ai nb];exact x _ _ e) (.snoc v)⟩
inductive kJ(Ck:Addr)(vs:List V)(H:Hp)(Q:VK)(E:XK):Prop
 |mk (x dx M:Addr):(vs=[.ref x,.ref M])->(H x=some (.ins Ck dx []))->(∀(kd:Addr) (fs:List (Str×V)) (H':Hp),H' x=some (.ins Ck dx fs)->lk "machine" fs=some (.ref M)->lk "known" fs=some (.ref kd)->lk "steps_from" fs=none->H' kd=some (.dT [])->H kd=none->bA x H H'->Q .non H')->kJ Ck vs H Q E
theorem FN{K:Za}(c:KC K i)(h:kJ i t H Q E):mr K (bo Q) (start my t) H:=by
 obtain⟨x,l,M,rfl,m,k⟩:=h;refine⟨_,rfl,_,rfl,x,i,l,[],rfl,m,c.cls,c.a1,(by decide),?_⟩;obtain⟨y,u,f,p⟩:=ng "machine" (.ref M) m;rw[<-u];have q:(cR ("machine":Str) (.ref M) []).length<=1:=du _ _ _;refine fun g a=>⟨_,rfl,x,i,l,_,rfl,kp f a,c.cls,c.a2,by omega,?_⟩;obtain⟨v,w,j,r⟩:=ng "known" (.ref g) (kp (x:=.dT []) f a);rw[<-w];have s:g≠x:=(ae f a).symm;refine k g _ v j ?_ ?_ ?_ (r _ _ aa s) ?_ fun b o e n=>r _ _ (kp (p _ _ e n) a) n
 ·show fL _ _=_;repeat (rw[aV];first|rw[if_pos rfl] | rw[if_neg (by decide +kernel)])
 ·show fL _ _=_;repeat (rw[aV];first|rw[if_pos rfl] | rw[if_neg (by decide +kernel)])
 ·show fL _ _=_;repeat (rw[aV];first|rw[if_pos rfl] | rw[if_neg (by decide +kernel)])
  rfl
 ·cases e:H g with
  |none=>rfl
  |some o=>have:=p _ _ e s;rw[a]at this;cases this
def qF(J6:Zb)(d:Nat):TK:=.t [eT J6,.k (some (.inl (d:Int)))]
theorem Ff(h:qF f d=qF g e):f=g/\d=e:=by
 unfold qF at h;injection h with h;injection h with i a;injection a with a _;injection a with a;injection a with a;injection a with a;exact⟨eP i,by omega⟩
theorem eG(f:Zb)(d:Nat):(qF f d).depth<=8:=by
 show max (eT f).depth (max 0 0)+1<=8;rw[fA];decide
structure DC(K:Za)(C:Addr):Prop where
 cls:Cu K C
 a1:cZ K C "says_signs"
 a2:cZ K C "known_steps"
 a3:cZ K C "known_counts"
structure vX(Cm Ck Cd:Addr)(H0:Hp)(x sl y M kd cd:Addr)(us:Ze)(J0 J1 J2:Zb)(ds:List ao):Prop where
 ks:Co Cm Ck H0 y M kd J0 J1 J2 ds
 ob:∃(dx:Addr) (fs:List (Str×V)),H0 x=some (.ins Cd dx fs)/\lk "says_signs" fs=some (.ref sl)/\lk "known_steps" fs=some (.ref y)/\lk "known_counts" fs=some (.ref cd)/\∀f:Str,f≠"says_signs"->f≠"known_steps"->f≠"known_counts"->lk f fs=none
 hsl:H0 sl=some (.lst (us.map V.ref))
 sg:ki H0 us (J1.map gS)
 cdn:H0 cd=none
 ne:kd≠cd
structure dJ(H0 H:Hp)(kd cd:Addr)(kv cv:List (TK×V))(J0 J1 J2:Zb)(ds:List ao)(n:Nat):Prop where
 ks:fj H0 H kd kv J0 J1 J2 ds n
 ncd:∀k,(k,V.ref cd)∉kv
 hcd:H cd=some (.dT cv)
 cok:∀p∈cv,∃(J6:Zb) (d:Nat),p=(qF J6 d,.int (cntM J0 J1 J2 ds d J6))
 clen:cv.length<=n
section
variable{H0 H H1 H':Hp}{kd cd d:Addr}{o:Obj}{kv cv kvs:List (TK×V)}{k:TK}{J0 J1 J2:Zb}{ds:List ao}{n m:Nat}
theorem fj.weak(S:ab H0 H1)(h:fj H1 H kd kv J0 J1 J2 ds n):fj H0 H kd kv J0 J1 J2 ds n :=
 ⟨S.trans h.same,h.hkd,fun p a=>by obtain⟨f,d,kvs,e,g,i,r⟩:=h.kok p a;exact⟨f,d,kvs,e,g,S.free i,r⟩,h.len⟩
theorem dJ.up(h:dJ H0 H kd cd kv cv J0 J1 J2 ds n)(S:ab H H'):dJ H0 H' kd cd kv cv J0 J1 J2 ds n:=⟨h.ks.up S,h.ncd,S _ _ h.hcd,h.cok,h.clen⟩
theorem fj.cell{i ys:List V}(h:fj H0 H kd kv J0 J1 J2 ds n)(j:H0 f=none)(a:H f=some (.lst i)):fj H0 (L2.upd H f (.lst ys)) kd kv J0 J1 J2 ds n :=
 ⟨fun b o e=>by rw[ai (ae e j)];exact h.same _ _ e,by rw[ai (fun z=>by have:=h.hkd;rw[z,a]at this;cases this)];exact h.hkd,fun p l=>by
  obtain⟨g,d,kvs,e,q,s,r,st⟩:=h.kok p l;refine⟨g,d,kvs,e,q,s,iw (fun o e=>?_) r,st.kt (fg a)⟩;rw[ai (fun z=>by rw[z]at r;rcases r with r|⟨_,r⟩<;>(rw[a]at r;cases r))];exact e,h.len⟩
theorem dJ.cell{e ys:List V}(h:dJ H0 H kd cd kv cv J0 J1 J2 ds n)(g:H0 f=none)(a:H f=some (.lst e)):dJ H0 (L2.upd H f (.lst ys)) kd cd kv cv J0 J1 J2 ds n :=
 ⟨h.ks.cell g a,h.ncd,by rw[ai (fun z=>by have:=h.hcd;rw[z,a]at this;cases this)];exact h.hcd,h.cok,h.clen⟩
theorem dJ.more(h:dJ H0 H kd cd kv cv J0 J1 J2 ds n)(l:n<=m):dJ H0 H kd cd kv cv J0 J1 J2 ds m:=⟨h.ks.more l,h.ncd,h.hcd,h.cok,aB h.clen l⟩
theorem dJ.frz(h:dJ H0 H kd cd kv cv J0 J1 J2 ds n)(v:be kv k=some (.ref d))(a:H d=some (.dT kvs)):dJ H0 (upd H d (.frz o (.dT kvs))) kd cd kv cv J0 J1 J2 ds n :=
 ⟨h.ks.frz v a,h.ncd,by rw[ai (fun z=>h.ncd k (by rw[z];exact fV v))];exact h.hcd,h.cok,h.clen⟩
end
theorem d_.kp{K:Za}(k:Kp H a)(h:d_ K H w s):d_ K a w s:=by
 obtain⟨e,f,g⟩:=h;exact⟨e,k _ _ f rfl,Paired.mapP g fun _ _ r=>cF.kt k.kt r⟩
inductive jc(Cm Ck Cd:Addr)(vs:List V)(H:Hp)(Q:VK)(E:XK):Prop
 |mk (H0:Hp) (x sl y M kd cd u:Addr) (us:Ze) (kv cv:List (TK×V)) (n:Nat) (J6 J0 J1 J2:Zb) (ds:List ao):(vs=[.ref x,.ref u])->(vX Cm Ck Cd H0 x sl y M kd cd us J0 J1 J2 ds)->(dJ H0 H kd cd kv cv J0 J1 J2 ds n)->(H u=some (.tup (J6.map V.str)))->(∀r∈J6,r∈J2)->(J6.length<=1000)->(n<=1000000) ->
  (∀(d:Addr) (kv' kvs:List (TK×V)) (H':Hp),dJ H0 H' kd cd kv' cv J0 J1 J2 ds (n+1)->be kv' (eT J6)=some (.ref d)->Rd H' d (.dT kvs)->kZ H' kvs (stepsF J0 J1 J2 ds J6)->bA kd H H'->Gr kv kv'->Q (.ref d) H')->jc Cm Ck Cd vs H Q E
theorem FL{K:Za}(c:DC K w)(h:jc A i w T H Q E):pO K i (kK A i) (bo Q) (start qK T) H:=by
 obtain⟨g,x,sl,y,M,B,j,u,us,U,l,n,Y,C,D,G,I,rfl,St,a,hu,f,hz,hn,k⟩:=h;obtain⟨dx,fs,g0,l1,l2,l3,l4⟩:=St.ob;obtain⟨J,L,N,m1,m2,O⟩:=id St.ks.ob;have m:ab g (upd g j (.dT l)):=ab.new St.cdn;have o:Co A i (upd g j (.dT l)) y M B C D G I:=⟨St.ks.mach.same m,⟨J,L,m _ _ N,m1,m2,O⟩,by rw[ai St.ne];exact St.ks.kdn⟩;refine⟨_,rfl,x,w,dx,fs,.ref y,rfl,a.ks.same _ _ g0,c.cls,c.a2,l2,y,J,L,rfl,a.ks.same _ _ N,O,_,rfl,upd g j (.dT l),y,M,B,u,U,n,Y,C,D,G,I,rfl,o,a.ks.keep a.hcd St.ne.symm a.ncd,hu,f,hz,hn,fun d p s H' t v r st ex gr=>?_⟩;refine k d p s H' ⟨t.weak m,fun q hq=>?_,t.same _ _ aa,a.cok,by have:=a.clen;omega⟩ v r st ex gr;obtain⟨_,_,_,e,_,z,_⟩:=t.kok _ hq;injection e with _ e;injection e with e;rw[<-e,aa]at z;cases z
def jG(sg:Sg):Bool:=decide (sg.head?=some ("ask":Str))
theorem o6{g:Str->Sg}{b:Bool}(e:∀a,jG (g a)=b):∀A:List Str,((((A.map g).map fun h=>(h,behF J2 ds J6 h)).filter fun p=>decide (p.2≠[])).filter fun p=>jG p.1).map (·.1)=if b=true then(A.filter fun a=>decide (behF J2 ds J6 (g a)≠[])).map g else[]
 |[]=>by cases b<;>rfl
 |a::A=>by
  have f:=o6 (J2:=J2) (J6:=J6) (ds:=ds) e A;rw[bG,bG];by_cases c:behF J2 ds J6 (g a)=[]
  ·rw[ya (by simp[c]),f,ya (by simp[c])]
  ·rw[x_ (by simp[c]),x_ (p:=fun a=>decide (behF J2 ds J6 (g a)≠[])) (by simp[c])];cases b with
   |true=>rw[x_ (by exact e a),bG,f];rfl
   |false=>rw[ya (by show ¬jG (g a)=true;rw[e a];decide),f];rfl
def askS(J0 J2:Zb)(ds:List ao)(J6:Zb):List Sg:=(J0.filter fun a=>decide (behF J2 ds J6 (b9 a)≠[])).map b9
theorem Bb(i j e:Zb)(f:List ao)(g:Zb):((stepsF i j e f g).filter fun p=>jG p.1).map (·.1)=askS i e f g:=by
 unfold stepsF b0;rw[av,av,iP,iP,iP,iP,av,av,o6 (b:=true) (fun a=>by unfold jG b9;rfl),o6 (b:=false) (fun a=>by unfold jG gS;rfl)];rw[if_pos rfl,if_neg (by decide)];have:((([cC].map fun h=>(h,behF e f g h)).filter fun p=>decide (p.2≠[])).filter fun p=>jG p.1)=[]:=by
  rw[List.filter_eq_nil_iff];intro p k;obtain⟨h,l,rfl⟩:=aS.1 (fU.1 k).1;rw[dR.1 l];show ¬jG cC=true
  decide
 rw[this,dO];show _++[]=_;rw[dO];rfl
theorem Jr{f:Sg}(h:f∈b0 i j):∃g e,f=g::e:=by
 unfold b0 at h;rcases bM.1 h with h|h
 ·rcases bM.1 h with h|h
  ·obtain⟨a,_,rfl⟩:=aS.1 h;exact⟨_,_,rfl⟩
  ·obtain⟨a,_,rfl⟩:=aS.1 h;exact⟨_,_,rfl⟩
 ·rw[dR.1 h];exact⟨_,_,rfl⟩
theorem FC(m:aQ a e f g):(stepsF a e f g J6).length<=9:=by
 have h:=m.asks4;have i:=m.says4;unfold stepsF;refine aB (cQ _ _) ?_;unfold b0;rw[ah,ba,ba,ah,ah];show _+1<=9;omega
abbrev KL(K:Za)(H:Hp)(us:Ze)(L:List Sg):Prop:=Paired (fun s (sg:Sg)=>cF K H s (sg.map V.str)) us L
theorem KL.kt{K:Za}(k:gF H a)(h:KL K H e L):KL K a e L:=Paired.mapP h fun _ _ r=>cF.kt k r
theorem xN{K:Za}{H:Hp}{d l:Addr}{o:Obj}{h:List (TK×V)}{Q:Hp->Prop}(m:aQ v G w x)(U:H d=some (.frz o (.dT h)))(st:kZ H h (stepsF v G w x J6))(I:H l=none)
  (k:∀(g:Ze) (f:Hp),f l=some (.lst (g.map V.ref))->KL K f g (askS v w x J6)->ab H f->Q f) :
  eC 1 [] σ (Ly d o (.dT h) h.length (JZ K h)) U0 (aU (aH v5 (aH (sH K) V0 (tC (.int 0))) (tC (.str "ask")))) V0 H l Q:=by
 have zs:=FC (J6:=J6) m;refine Gx (fun i vs f=>∃g:List Addr,vs=g.map V.ref/\ab H f/\f l=some (.lst vs)/\KL K f g ((((stepsF v G w x J6).take i).filter fun p=>jG p.1).map (·.1))) ⟨[],rfl,ab.new I,aa,.nil⟩ (fun i vs f _ ⟨_,_,S,n,_⟩=>⟨n,S _ _ U⟩) ?_ ?_
 ·rintro vs f ⟨g,rfl,S,n,r⟩;rw[Paired.length st,bf,Bb]at r;exact k g f n r S
 ·rintro i vs f a b J ⟨g,rfl,S,n,r⟩ ⟨y,Y,t⟩;obtain⟨p,A,e,_⟩:=Paired.getL st Y;have e:y=eT p.1:=e;rw[e]at t;obtain⟨s,rfl,L⟩:=G6 t;obtain⟨sg,B,ep⟩:=aS.1 (fU.1 (bU A)).1;have M:p.1=sg:=by rw[<-ep]
  obtain⟨C,N,O⟩:=Jr B;have u:=L;rw[M,O]at u;have D:(decide (V.str C=V.str ("ask":Str)))=jG p.1:=by
   unfold jG;rw[M,O];by_cases c:C=("ask":Str)
   ·rw[c];simp
   ·rw[zzr0 (fun z=>c (by injection z)),zzr0 (fun z=>c (by simpa using z))]
  refine gN ?_;refine⟨_,rfl,.inr (.inl ⟨s,_,0,.str C,rfl,rfl,cF.sq u,ca (j:=0) rfl,rfl,_,rfl,?_⟩)⟩;rw[D];refine i7 (fun E=>?_) (fun E=>?_)
  ·refine⟨_,rfl,n,?_,mY J ⟨g++[s],by rw[av];rfl,?_,aa,?_⟩⟩
   ·rw[ah,Paired.length r,ah];refine aq (aB (cQ _ _) ?_);rw[aJ];omega
   ·intro b o q;rw[ai (ae q I)];exact S _ _ q
   ·rw[take_snoc A,iP,av,x_ (by exact E)];have T:gF f (upd f l (.lst (g.map V.ref++[.ref s]))):=fg n;exact gl (r.kt T) (cF.kt T L)
  ·refine mY J ⟨g,rfl,S,n,?_⟩;rw[take_snoc A,iP,av,ya (by exact E)];show KL K f g (_++[]);rw[dO];exact r
theorem vo{K:Za}(c:DC K Cd)(hh:∀H,bP K H m (cC.map V.str)){u al:Addr}{as:Ze}{Q:VK}{nx:L2.St->Hp->Prop}
  (St:vX Cm Ck Cd H0 x sl y M kd cd g N O T U) (S:ab H0 H) (an:H al=some (.lst (as.map V.ref))) (hA:KL K H as (askS N T U J6))
  (k:∀(l:Addr) (a:Ze) (j:Hp),j l=some (.lst (a.map V.ref))->Paired (d_ K j) a (kindsF N O T U J6)->ab H j->Q (.ref l) j) :
  (aW (aH kf (cI 1 [0] (bO K V2) U0 (iS) (aH kf (c9 (ay V0)) (fQ K V1 "says_signs"))) (c9 (am (aH kf (fQ K V0 "says_signs") (c9 (ay (tC (.ref m))))) bh)))) { nx:=nx,rt:=Q } [some (.ref x),some (.ref u),some (.ref al)] H:=by
 obtain⟨dx,fs,g0,l1,l2,l3,l4⟩:=St.ob;have mo:=St.ks.mach.ok;have z1:=mo.asks4;have z2:=mo.says4;have zu:g.length<=4:=by rw[Paired.length St.sg,ah];exact z2
 have za:(askS N T U J6).length<=4:=by unfold askS;rw[ah];exact aB (cQ _ _) z1
 have ap:∀{j:Hp},ab H0 j->KL K j g (O.map gS):=fun S'=>Paired.mapP (ki.kt (ab.kt S') St.sg) fun _ _ r=>.inl r;refine⟨_,rfl,al,rfl,⟨_,aw.of an⟩,fun D aC=>?_⟩;refine bY (xs:=as.map V.ref) (fun i vs j=>∃a:List Addr,vs=a.map V.ref/\ab H j/\j D=some (.lst vs)/\Paired (d_ K j) a (((askS N T U J6).take i).map fun sg=>sg::O.map gS)/\∀q∈a,q≠D) ⟨[],rfl,ab.new aC,aa,.nil,fun _ h=>by cases h⟩ (fun i vs j _ ⟨_,_,S',h',_⟩=>⟨h',aw.of (S' _ _ an)⟩) ?_ ?_;rotate_left
 ·rintro i vs t v hv hi ⟨a,rfl,E,h1,Y,nk⟩;obtain⟨s,hs,rfl⟩:=bZ hv;obtain⟨sg,a8,a9⟩:=Paired.getL hA hs;refine gN (pL ?_);refine⟨_,rfl,(by show 1<=aj;decide),fun ll bc=>?_⟩;have B:ab t (upd t ll (.lst [.ref s])):=ab.new bc;have a0:upd t ll (.lst [.ref s]) ll=some (.lst [.ref s]):=aa;generalize upd t ll (.lst [.ref s])=w at B a0 ⊢;have z:=(S.trans E).trans B;refine⟨_,rfl,x,Cd,dx,fs,.ref sl,rfl,z _ _ g0,c.cls,c.a1,l1,ll,sl,_,_,rfl,rfl,a0,z _ _ St.hsl,?_,fun C a4=>?_⟩
  ·rw[ah];exact cV (aq (by show 1+_<=1000;omega))
  have S3:ab w (upd w C (.lst ([V.ref s]++g.map V.ref))):=ab.new a4;have c3:upd w C (.lst ([V.ref s]++g.map V.ref)) C=some (.lst ((s::g).map V.ref)):=aa;have nc:C≠D:=(ae (B _ _ h1) a4).symm;generalize upd w C (.lst ([V.ref s]++g.map V.ref))=A at S3 c3 ⊢;have f:=B.trans S3;have bd:=(S.trans E).trans f;have a5:=f _ _ h1;have hk:gF A (upd A D (.lst (a.map V.ref++[.ref C]))):=fg a5;refine⟨a5,?_,mY hi ⟨a++[C],by rw[av];rfl,?_,aa,?_,fun q hq=>?_⟩⟩
  ·rw[ah,Paired.length Y,ah,aJ];exact aq (by omega)
  ·intro b o q;rw[ai (ae q aC)];exact f _ _ (E _ _ q)
  ·rw[take_snoc a8,av];have cell:∀{q:Addr}{L:List Sg},q≠D->d_ K A q L->d_ K (upd A D (.lst (a.map V.ref++[.ref C]))) q L:=fun n h=>h.kt hk fun o e=>by rw[ai n];exact e
   refine gl ?_ (cell nc ⟨s::g,c3,.cons (cF.kt (ab.kt (E.trans f)) a9) (ap bd)⟩);refine Paired.mapM Y fun q L hq r=>cell (nk q hq) (r.kt (ab.kt f) fun o e=>f _ _ e)
  ·rcases bM.1 hq with hq|hq
   ·exact nk q hq
   ·rw[dR.1 hq];exact nc
 ·rintro vs t ⟨a,rfl,E,h1,Y,_⟩;rw[ah,Paired.length hA,bf]at Y;have G:=S.trans E;refine⟨_,rfl,x,Cd,dx,fs,.ref sl,rfl,G _ _ g0,c.cls,c.a1,l1,(by show 1<=aj;decide),fun hl bi=>?_⟩;have B:ab t (upd t hl (.lst [.ref m])):=ab.new bi;have a6:upd t hl (.lst [.ref m]) hl=some (.lst [.ref m]):=aa;generalize upd t hl (.lst [.ref m])=w at B a6 ⊢;have z:=G.trans B;refine⟨sl,hl,_,_,rfl,rfl,z _ _ St.hsl,a6,?_,fun p bl=>?_⟩
  ·rw[ah];exact cV (aq (by show _+1<=1000;omega))
  have S3:ab w (upd w p (.lst (g.map V.ref++[.ref m]))):=ab.new bl;have c3:upd w p (.lst (g.map V.ref++[.ref m])) p=some (.lst ((g++[m]).map V.ref)):=by rw[aa,av];rfl
  generalize upd w p (.lst (g.map V.ref++[.ref m]))=A at S3 c3 ⊢;refine⟨(by show 1<=aj;decide),fun ol bm=>?_⟩;have S4:ab A (upd A ol (.lst [.ref p])):=ab.new bm;have a7:upd A ol (.lst [.ref p]) ol=some (.lst [.ref p]):=aa;generalize upd A ol (.lst [.ref p])=H4 at S4 a7 ⊢;have I:=(B.trans S3).trans S4;refine⟨D,ol,_,_,rfl,rfl,I _ _ h1,a7,?_,fun r hr=>?_⟩
  ·rw[ah,Paired.length Y,ah];exact cV (aq (by show _+1<=1000;omega))
  have S5:ab H4 (upd H4 r (.lst (a.map V.ref++[.ref p]))):=ab.new hr;refine k r (a++[p]) _ (by rw[aa,av];rfl) ?_ ((E.trans I).trans S5);have J:=I.trans S5;have e:kindsF N O T U J6=((askS N T U J6).map fun sg=>sg::O.map gS)++[O.map gS++[cC]]:=by
   unfold kindsF askS;rw[jg];rfl
  rw[e];refine gl (Paired.mapP Y fun _ _ h=>h.kt (ab.kt J) fun o e=>J _ _ e) ⟨g++[m],S5 _ _ (S4 _ _ c3),?_⟩;exact Paired.app (ap (G.trans J)) (.cons (Eu hh _) .nil)
inductive kI(K:Za)(Cm Ck Cd:Addr)(vs:List V)(H:Hp)(Q:VK)(E:XK):Prop
 |mk (H0:Hp) (x sl y M kd cd u:Addr) (us:Ze) (kv cv:List (TK×V)) (n:Nat) (J6 J0 J1 J2:Zb) (ds:List ao):(vs=[.ref x,.ref u])->(vX Cm Ck Cd H0 x sl y M kd cd us J0 J1 J2 ds)->(dJ H0 H kd cd kv cv J0 J1 J2 ds n)->(H u=some (.tup (J6.map V.str)))->(∀r∈J6,r∈J2)->(J6.length<=1000)->(n<=1000000) ->
  (∀(l:Addr) (ks:Ze) (kv':List (TK×V)) (H':Hp),H' l=some (.lst (ks.map V.ref))->Paired (d_ K H') ks (kindsF J0 J1 J2 ds J6)->dJ H0 H' kd cd kv' cv J0 J1 J2 ds (n+1)->Kp H H'->Gr kv kv'->Q (.ref l) H')->kI K Cm Ck Cd vs H Q E
theorem FI{K:Za}(c:DC K q)(N:∀H,bP K H Y (cC.map V.str))(h:kI K Cm Ck q vs H Q E):sZ K Y q (jc Cm Ck q) (bo Q) (start tL vs) H:=by
 obtain⟨H0,x,sl,y,M,kd,cd,u,us,kv,cv,n,J6,J0,J1,J2,ds,rfl,St,s,t,f,hz,hn,k⟩:=h;obtain⟨dx,fs,g0,l1,l2,l3,l4⟩:=St.ob;have O:=St.ks.mach.ok;refine⟨_,rfl,x,dx,fs,rfl,s.ks.same _ _ g0,l4 "steps_from" (by decide +kernel) (by decide +kernel) (by decide +kernel),_,rfl,H0,x,sl,y,M,kd,cd,u,us,kv,cv,n,J6,J0,J1,J2,ds,rfl,St,s,t,f,hz,hn,fun d g i v w v1 a j z T=>⟨d,i,rfl,?_⟩⟩;have m:Kp H v:=Kp.exB s.ks.hkd rfl z;rcases a with a|⟨o,a⟩
 ·refine .inl ⟨a,fun o l A=>?_⟩;have U:=w.frz (o:=o) v1 a;have B:Kp v (upd v d (.frz o (.dT i))):=Kp.upd a rfl;refine xN O aa (j.kt (KA a)) A fun as H2 C D e=>?_;exact vo c N St (U.ks.same.trans e) C D fun r G I J L p=>k r G g I J L ((U.up e).up p) ((m.trans B).trans (ab.kp (e.trans p))) T
 ·refine .inr ⟨o,a,fun l A=>?_⟩;refine xN O a j A fun as H2 C D e=>?_;exact vo c N St (w.ks.same.trans e) C D fun r G I J L p=>k r G g I J L ((w.up e).up p) (m.trans (ab.kp (e.trans p))) T
def nB:Nat->Nat
 |0=>0
 |d+1=>7+25 * nB d
def Mi(H:Hp)(v:V)(J6:Zb):Prop:=(v=.non/\J6=[])∨∃u,v=.ref u/\H u=some (.tup (J6.map V.str))
inductive iG(Cm Ck Cd:Addr)(D:Nat)(vs:List V)(H:Hp)(Q:VK)(E:XK):Prop
 |mk (H0:Hp) (x sl y M kd cd:Addr) (us:Ze) (v:V) (kv cv:List (TK×V)) (n d:Nat) (J6 J0 J1 J2:Zb) (ds:List ao):(vs=[.ref x,v,.int (d:Nat)])->(d<=D)->(vX Cm Ck Cd H0 x sl y M kd cd us J0 J1 J2 ds)->(dJ H0 H kd cd kv cv J0 J1 J2 ds n)->(Mi H v J6)->(v≠.non->J6≠[])->(∀r∈J6,r∈J2)->(J6.length<=1000)->(n+nB d<=1000000) ->
  (∀(kv' cv':List (TK×V)) (H':Hp),dJ H0 H' kd cd kv' cv' J0 J1 J2 ds (n+nB d)->Kp H H'->Gr kv kv'->Q (.int (cntM J0 J1 J2 ds d J6)) H')->iG Cm Ck Cd D vs H Q E
inductive js(K:Za)(Cm Ck Cd:Addr)(D:Nat)(vs:List V)(H:Hp)(Q:VK)(E:XK):Prop
 |mk (H0:Hp) (x sl y M kd cd u kl:Addr) (us:Ze) (kv cv:List (TK×V)) (n d:Nat) (kind:List Sg) (J6 J0 J1 J2:Zb) (ds:List ao):(vs=[.ref x,.ref u,.int ((d+1:Nat)),.ref kl])->(d<=D)->(d<=4)->(vX Cm Ck Cd H0 x sl y M kd cd us J0 J1 J2 ds)->(dJ H0 H kd cd kv cv J0 J1 J2 ds n)->(H u=some (.tup (J6.map V.str)))->(∀r∈J6,r∈J2)->(J6.length<=1000)->(d_ K H kl kind)->(∀sg∈kind,sg∈b0 J0 J1)->(kind.length<=5)->(n+1+5 * nB d<=1000000) ->
  (∀(kv' cv':List (TK×V)) (H':Hp),dJ H0 H' kd cd kv' cv' J0 J1 J2 ds (n+1+5 * nB d)->Kp H H'->Gr kv kv'->Q (.int (gB (kind.map fun sg=>cntM J0 J1 J2 ds d (behF J2 ds J6 sg)))) H')->js K Cm Ck Cd D vs H Q E
theorem Bk{K:Za}(h:js K Cm Ck Cd D t H Q E):s_ K sp_product Cd (iG Cm Ck Cd D) (jc Cm Ck Cd) (bo Q) (start tM t) H:=by
 obtain⟨H0,x,sl,y,M,kd,cd,u,kl,us,kv,cv,n,d,a,J6,J0,J1,J,L,rfl,hD,d4,St,Dy,hu,p,hz,hk,as,zk,hn,k⟩:=h;obtain⟨dx,fs,g0,l1,l2,l3,l4⟩:=St.ob;have mo:=St.ks.mach.ok;have z1:=mo.asks4;have z2:=mo.says4;have z3:=mo.rooms26;refine⟨_,rfl,x,dx,fs,rfl,Dy.ks.same _ _ g0,l4 "steps_from" (by decide +kernel) (by decide +kernel) (by decide +kernel),_,rfl,H0,x,sl,y,M,kd,cd,u,us,kv,cv,n,J6,J0,J1,J,L,rfl,St,Dy,hu,p,hz,by omega,fun sd O bl H1 D1 v1 _ _ aC a0=>?_⟩;have v:Kp H H1:=Kp.exB Dy.ks.hkd rfl aC;obtain⟨ss,a4,A⟩:=hk;have T:=v _ _ a4 rfl;refine⟨_,rfl,kl,rfl,⟨_,aw.of T⟩,fun f hf=>?_⟩;refine bY (xs:=ss.map V.ref) (fun i t H'=>∃(U a5:List (TK×V)),t=((a.take i).map fun g=>cntM J0 J1 J L d (behF J L J6 g)).map V.int/\H' f=some (.lst t)/\Kp H1 H'/\dJ H0 H' kd cd U a5 J0 J1 J L (n+1+i * nB d)/\Gr O U)
  ⟨O,cv,rfl,aa,ab.kp (ab.new hf),(D1.up (ab.new hf)).more (by omega),.refl _⟩ (fun i t H' _ ⟨_,_,_,h',a6,_⟩=>⟨h',aw.of (a6 _ _ T rfl)⟩) ?_ ?_
 rotate_left
 ·rintro i t H2 w hw hi ⟨B,C,rfl,f2,j,N,l⟩;obtain⟨s,hs,rfl⟩:=bZ hw;obtain⟨g,G,a7⟩:=Paired.getL A hs;have il:i<a.length:=(bN.1 G).1;have Y:=as g (bU G);have al:cF K H2 s (g.map V.str):=cF.kt (v.trans j).kt a7;obtain⟨f',bm,q,e',_,_,r2,an⟩:=N.ks.kok _ (fV (l _ _ v1));injection e' with I r;cases eP I;cases r;have gd:oh K H2 sd (.ref s) (be q (eT g)):=.inr ⟨_,eT g,s,r2,rfl,yY al,fH _,rfl⟩;have bn:(i+1) * nB d=i * nB d+nB d:=gJ _ _;have bi:(i+1) * nB d<=5 * nB d:=db _ (by omega);refine gN (pL ?_);refine⟨_,rfl,x,dx,fs,rfl,N.ks.same _ _ g0,l4 "count_at" (by decide +kernel) (by decide +kernel) (by decide +kernel),_,rfl,sd,rfl,.inr ⟨_,r2⟩,_,rfl,_,gd,_,rfl,_,_,rfl,rfl,H0,x,sl,y,M,kd,cd,us,(be q (eT g)).getD .non,B,C,_,d,behF J L J6 g,J0,J1,J,L,?_,hD,St,N,?_,?_,qG p,f8 (by omega) hz,by omega,fun a8 a9 H3 D3 ap bc=>?_⟩
  ·show[V.ref x,_,V.int (((d+1:Nat):Int)-1)]=_;rw[show(((d+1:Nat):Int)-1)=(d:Nat) by omega]
  ·rcases an.look Y with⟨I,r⟩|⟨I,u2,r,e3⟩
   ·rw[I,r];exact .inl ⟨rfl,rfl⟩
   ·rw[r];exact .inr ⟨u2,rfl,e3⟩
  ·rcases an.look Y with⟨I,r⟩|⟨I,u2,r,e3⟩
   ·rw[r];exact fun z=>absurd rfl z
   ·exact fun _=>I
  have f3:=ap _ _ f2 rfl;refine⟨f3,?_,mY hi ⟨a8,a9,?_,aa,?_,?_,l.trans bc⟩⟩
  ·rw[ah,ah,aJ];exact aq (by omega)
  ·rw[take_snoc G,av,av];rfl
  ·exact fun b o e no=>by rw[ai (ae e hf)];exact ap _ _ (j _ _ e no) no
  ·exact(D3.more (m:=n+1+(i+1) * nB d) (by omega)).cell (D1.ks.same.free hf) f3
 ·rintro t H2 ⟨B,C,rfl,f2,j,N,l⟩;rw[ah,Paired.length A,bf]at f2;rw[ah,Paired.length A]at N;have m5:a.length * nB d<=5 * nB d:=db _ zk;refine⟨f,_,bB d,rfl,f2,fun z bd=>?_,by have:=xT d d4;omega,by rw[ah];omega,k B C H2 (N.more (by omega)) (v.trans j) (a0.trans l)⟩;obtain⟨g,_,rfl⟩:=aS.1 bd;exact jI z1 z2 d _
theorem vj{p:TK×V}(h:p∈dq a k v):p∈a∨p=(k,v):=by
 unfold dq at h;split at h
 ·obtain⟨q,f,rfl⟩:=aS.1 h;split
  ·next e=>exact .inr (by rw[e])
  ·exact .inl f
 ·rcases bM.1 h with h|h
  ·exact .inl h
  ·exact .inr (dR.1 h)
theorem rW{H:Hp}{p u:Addr}{a:Zb}{d:Nat}(e:H p=some (.tup [.ref u,.int (d:Nat)]))(f:H u=some (.tup (a.map V.str))):cU H (qF a d) (.ref p):=by
 unfold qF cU;refine⟨p,_,rfl,e,?_⟩;unfold TKAts;refine⟨_,_,rfl,SignAt.tk f,?_⟩;unfold TKAts;refine⟨_,_,rfl,by unfold cU;rfl,by unfold TKAts;rfl⟩
section
variable{H0 H:Hp}{kd cd:Addr}{kv cv:List (TK×V)}{J0 J1 J2 J6:Zb}{ds:List ao}{n d:Nat}{w:V}
theorem dJ.val(h:dJ H0 H kd cd kv cv J0 J1 J2 ds n)(v:be cv (qF J6 d)=some w):w=.int (cntM J0 J1 J2 ds d J6):=by
 obtain⟨f,e,q⟩:=h.cok _ (fV v);injection q with a g;obtain⟨rfl,rfl⟩:=Ff a;exact g
theorem dJ.put(h:dJ H0 H kd cd kv cv J0 J1 J2 ds n)(i:H0 cd=none)(ne:kd≠cd):dJ H0 (upd H cd (.dT (dq cv (qF J6 d) (.int (cntM J0 J1 J2 ds d J6))))) kd cd kv (dq cv (qF J6 d) (.int (cntM J0 J1 J2 ds d J6))) J0 J1 J2 ds (n+1):=by
 refine⟨⟨fun b o e=>by rw[ai (ae e i)];exact h.ks.same _ _ e,by rw[ai ne];exact h.ks.hkd,fun p a=>?_,Nat.le_succ_of_le h.ks.len⟩,h.ncd,aa,fun p a=>?_,aB (ff _ _ _) (uE h.clen)⟩
 ·obtain⟨g,d,f,e,j,k,r,st⟩:=h.ks.kok p a;exact⟨g,d,f,e,j,k,iw (fun o q=>by rw[ai (fun z=>h.ncd (eT g) (by rw[<-z,<-e];exact a))];exact q) r,st.kt (KA h.hcd)⟩
 ·rcases vj a with a|rfl
  ·exact h.cok p a
  ·exact⟨_,_,rfl⟩
end
theorem Hv{K:Za}(c:DC K I){D:Nat}{al:Sp}(d5:D<=4)(hO:∀m,D=m+1->al=js K Cm Ck I m)(h:iG Cm Ck I D J H Q E):tf K I (kI K Cm Ck I) al (bo Q) (start tN J) H:=by
 obtain⟨H0,x,sl,y,M,kd,s,us,v,kv,cv,n,d,J6,j,J1,J2,ds,rfl,hD,St,Dy,hv,L,B,hz,hn,k⟩:=h;obtain⟨dx,fs,g0,l1,l2,l3,l4⟩:=St.ob;have mo:=St.ks.mach.ok;have z1:=mo.asks4;have z2:=mo.says4;have one:cntM j J1 J2 ds d J6=1->Q (.int 1) H:=fun e=>by
  have:=k kv cv H (Dy.more (by omega)) (fun _ _ e _=>e) (.refl _);rw[e]at this;exact this
 refine⟨_,rfl,_,rfl,?_⟩;rcases hv with⟨rfl,rfl⟩|⟨u,rfl,hu⟩
 ·refine bT ?_;refine bT ?_;exact one (BR _ _ _ _ _)
 have L:=L (by intro z;cases z);refine bD ?_;refine⟨_,rfl,rfl,_,rfl,?_⟩
 match d,hD,hn,k,one with
 |0,_,_,_,one =>
  refine bT ?_;exact one (by unfold cntM;rfl)
 |d+1,hD,hn,k,one =>
 rw[zzr0 (by intro z;injection z with z;omega)];refine bD ?_;obtain⟨m,rfl⟩:∃m,D=m+1:=⟨D-1,by omega⟩;cases hO m rfl;have eq:cntM j J1 J2 ds (d+1) J6=1+((kindsF j J1 J2 ds J6).map fun k=>gB (k.map fun sg=>cntM j J1 J2 ds d (behF J2 ds J6 sg))).sum:=by
  conv=>lhs;unfold cntM
  rw[if_neg L]
 have nb:nB (d+1)=7+25 * nB d:=rfl;have an:∀{g r:List (TK×V)}{H':Hp}{σ3:Option V},dJ H0 H' kd s g r j J1 J2 ds (n+nB (d+1))->Kp H H'->Gr kv g->be r (qF J6 (d+1))=some (.int (cntM j J1 J2 ds (d+1) J6))->(aW (iD K (fQ K V0 "known_counts") (bg (aX V1 V2)))) (bo Q) [some (.ref x),some (.ref u),some (.int ((d+1:Nat))),σ3] H':=by
  intro g r H' σ3 D' A a5 v';refine⟨_,rfl,x,I,dx,fs,.ref s,rfl,D'.ks.same _ _ g0,c.cls,c.a3,l3,_,rfl,_,rfl,(by show 2<=aj;decide),fun p hp=>?_⟩;have S:ab H' (upd H' p (.tup [.ref u,.int ((d+1:Nat))])):=ab.new hp;have tk:=rW (d:=d+1) (aa (H:=H') (a:=p)) (S _ _ (A _ _ hu rfl));refine⟨s,_,rfl,.inr ⟨_,qF J6 (d+1),p,.inl (S _ _ D'.hcd),rfl,cU.isIn 8 (eG _ _) tk,eG _ _,v'.symm⟩,k g r _ (D'.up S) (A.trans (ab.kp S)) a5⟩
 refine⟨_,rfl,_,rfl,(by show 2<=aj;decide),fun p hp=>?_⟩;have S:ab H (upd H p (.tup [.ref u,.int ((d+1:Nat))])):=ab.new hp;have tk:=rW (d:=d+1) (aa (H:=H) (a:=p)) (S _ _ hu);generalize upd H p (.tup [.ref u,.int ((d+1:Nat))])=H1 at S tk ⊢;have D1:=Dy.up S;refine⟨_,rfl,x,I,dx,fs,.ref s,rfl,D1.ks.same _ _ g0,c.cls,c.a3,l3,s,_,rfl,.inr ⟨_,qF J6 (d+1),p,.inl D1.hcd,rfl,cU.isIn 8 (eG _ _) tk,eG _ _,rfl⟩,_,rfl,?_⟩;cases C:be cv (qF J6 (d+1))with
 |some w =>
  refine bD ?_;exact an (D1.more (by omega)) (ab.kp S) (.refl _) (by rw[C,Dy.val C])
 |none =>
  refine bT ?_;refine⟨_,rfl,x,dx,fs,rfl,D1.ks.same _ _ g0,l4 "kinds_at" (by decide +kernel) (by decide +kernel) (by decide +kernel),_,rfl,H0,x,sl,y,M,kd,s,u,us,kv,cv,n,J6,j,J1,J2,ds,rfl,St,D1,S _ _ hu,B,hz,by omega,fun l ks ap H2 hl hK D2 as a6=>⟨l,rfl,⟨_,aw.of hl⟩,fun f hf=>?_⟩⟩;have u2:=as _ _ (S _ _ hu) rfl;have kl:=xy (J1:=J1) (J2:=J2) (ds:=ds) (J6:=J6) z1;refine bY (xs:=ks.map V.ref) (fun i J H'=>∃(g r:List (TK×V)),J=(((kindsF j J1 J2 ds J6).take i).map fun k=>gB (k.map fun sg=>cntM j J1 J2 ds d (behF J2 ds J6 sg))).map V.int/\H' f=some (.lst J)/\Kp H2 H'/\dJ H0 H' kd s g r j J1 J2 ds (n+1+i * (1+5 * nB d))/\Gr ap g)
   ⟨ap,cv,rfl,aa,ab.kp (ab.new hf),(D2.up (ab.new hf)).more (by omega),.refl _⟩ (fun i J H' _ ⟨_,_,_,h',A,_⟩=>⟨h',aw.of (A _ _ hl rfl)⟩) ?_ ?_
  rotate_left
  ·rintro i J N w hw hi ⟨O,T,rfl,f3,t,D3,U⟩;obtain⟨q,hq,rfl⟩:=bZ hw;obtain⟨aC,Y,a7⟩:=Paired.getL hK hq;have il:i<(kindsF j J1 J2 ds J6).length:=(bN.1 Y).1;obtain⟨e1,e2⟩:=rQ (bU Y);have bm:(i+1) * (1+5 * nB d)=i * (1+5 * nB d)+(1+5 * nB d):=gJ _ _;have bl:(i+1) * (1+5 * nB d)<=5 * (1+5 * nB d):=db _ (by omega);refine gN (pL ?_);refine⟨_,rfl,x,dx,fs,rfl,D3.ks.same _ _ g0,l4 "count_of" (by decide +kernel) (by decide +kernel) (by decide +kernel),_,rfl,_,rfl,_,rfl,H0,x,sl,y,M,kd,s,u,q,us,O,T,_,d,aC,J6,j,J1,J2,ds,rfl,by omega,by omega,St,D3,t _ _ u2 rfl,B,hz,a7.kp t,e2,by omega,by omega,fun a8 a9 H4 D4 a0 bc=>?_⟩;have f4:=a0 _ _ f3 rfl;refine⟨f4,?_,mY hi ⟨a8,a9,?_,aa,?_,?_,U.trans bc⟩⟩
   ·rw[ah,ah,aJ];exact aq (by omega)
   ·rw[take_snoc Y,av,av];rfl
   ·exact fun b o e no=>by rw[ai (ae e hf)];exact a0 _ _ (t _ _ e no) no
   ·exact(D4.more (m:=n+1+(i+1) * (1+5 * nB d)) (by omega)).cell (D2.ks.same.free hf) f4
  ·rintro J N ⟨O,T,rfl,f3,t,D3,U⟩;rw[ah,Paired.length hK,bf]at f3;rw[ah,Paired.length hK]at D3;have m5:(kindsF j J1 J2 ds J6).length * (1+5 * nB d)<=5 * (1+5 * nB d):=db _ kl;have bd:dJ H0 N kd s O T j J1 J2 ds (n+6+25 * nB d):=D3.more (by omega);have G:Kp H N:=(ab.kp S).trans (as.trans t);refine⟨_,rfl,f,_,rfl,aw.of f3,_,_,rfl,rfl,_,rfl,x,I,dx,fs,.ref s,rfl,D3.ks.same _ _ g0,c.cls,c.a3,l3,_,rfl,_,rfl,(by show 2<=aj;decide),fun p2 bi=>?_⟩;have S4:ab N (upd N p2 (.tup [.ref u,.int ((d+1:Nat))])):=ab.new bi;have a4:=rW (d:=d+1) (aa (H:=N) (a:=p2)) (S4 _ _ (G _ _ hu rfl));generalize upd N p2 (.tup [.ref u,.int ((d+1:Nat))])=H4 at S4 a4 ⊢;have D4:=bd.up S4;have cl:=D4.clen;refine⟨s,_,rfl,.inr ⟨_,qF J6 (d+1),p2,D4.hcd,rfl,a4,eG _ _,by rw[sv];omega,rfl⟩,?_⟩;dsimp only;rw[<-eq];have D5:=D4.put (J6:=J6) (d:=d+1) St.cdn St.ne;refine an (D5.more (by omega)) ((G.trans (ab.kp S4)).trans (Kp.upd D4.hcd rfl)) (a6.trans U) ?_;rw[iC,if_pos rfl]
def qt(H:Hp)(a:Addr):Hp:=fun b=>if b=a then none else H b
theorem rS(H:Hp)(a:Addr):qt H a a=none:=if_pos rfl
theorem lP{a b:Addr}(h:b≠a):qt H a b=H b:=if_neg h
theorem xC:ab (qt H a) H:=fun b o e=>by
 by_cases c:b=a
 ·rw[c,rS]at e;cases e
 ·rw[lP c]at e;exact e
theorem EX{a:Addr}(S:ab f H)(h:f a=none):ab f (qt H a):=fun b o e=>by rw[lP (ae e h)];exact S _ _ e
inductive nG(Cm Ck Cd:Addr)(vs:List V)(H:Hp)(Q:VK)(E:XK):Prop
 |mk (H0:Hp) (x dx M:Addr) (J0 J1 J2:Zb) (ds:List ao):(vs=[.ref x,.ref M])->(H x=some (.ins Cd dx []))->(bV Cm H0 M J0 J1 J2 ds)->(H0 x=none)->(ab H0 H) ->
  (∀(Hs:Hp) (sl y kd cd:Addr) (us:Ze) (H':Hp),vX Cm Ck Cd Hs x sl y M kd cd us J0 J1 J2 ds->dJ Hs H' kd cd [] [] J0 J1 J2 ds 0->ab H0 Hs->Q .non H')->nG Cm Ck Cd vs H Q E
theorem FK{K:Za}(c:DC K U)(h:nG Cm u U vs H Q E):tj K u (kJ u) Cm (nE Cm) (bo Q) (start tO vs) H:=by
 obtain⟨H0,x,Y,M,J0,J1,J2,ds,rfl,hx,MA,al,S0,k⟩:=h;have up:∀{H1 H2:Hp}{o:HO},ab H0 H1->H2=upd H1 x o->ab H0 H2:=fun S e b o q=>by rw[e,ai (ae q al)];exact S _ _ q
 have z2:=MA.ok.says4;have M0:=MA.same S0;obtain⟨dm,fm,o1,o2,lv,bw,g1,a1,a2,_⟩:=uW M0;refine⟨_,rfl,M,dm,fm,rfl,g1,a2,M,J0,J1,J2,ds,rfl,M0,fun w hw=>⟨w,rfl,⟨_,aw.of aa⟩,fun v an=>?_⟩⟩;have Sw:ab H (upd H w (.lst (J1.map V.str))):=ab.new hw;refine lS (kd:="say") (ws:=J1) aa (by omega) an fun us H2 h2 ap S2=>?_;have A:=Sw.trans S2;refine⟨_,rfl,x,U,Y,[],rfl,A _ _ hx,c.cls,c.a1,(by decide),?_⟩;obtain⟨t,e3,j,X3⟩:=ng "says_signs" (.ref v) (A _ _ hx);rw[<-e3];have S3:=up (S0.trans A) e3;have bn:(cR ("says_signs":Str) (.ref v) []).length<=1:=du _ _ _;have p:v≠x:=fun z=>by rw[z]at h2;rw[A _ _ hx]at h2;cases h2
 have as:=X3 _ _ h2 p;have aC:gF H2 t:=fun b xs e=>X3 _ _ e fun z=>by rw[z,A _ _ hx]at e;cases e
 have a0:=ki.kt aC ap;refine⟨_,rfl,fun y r hy a4 bz=>?_⟩;have S4:ab t (upd (upd t r (.own y)) y (.ins u r [])):=fun b o e=>by rw[ai (ae e hy)];exact kp e a4
 generalize a5:upd (upd t r (.own y)) y (.ins u r [])=H4 at S4 ⊢;have y4:H4 y=some (.ins u r []):=by rw[<-a5];exact aa
 refine⟨y,r,M,rfl,y4,fun kd fy H5 y5 m1 m2 m3 a6 B a7=>⟨rfl,?_⟩⟩;have n3:∀{b:Addr}{o:HO},t b=some o->H5 b=some o:=fun e=>a7 _ _ (S4 _ _ e) (ae e hy);have C:=n3 j;refine⟨_,rfl,x,U,Y,_,rfl,C,c.cls,c.a2,by omega,?_⟩;obtain⟨D,e6,l,X6⟩:=ng "known_steps" (.ref y) C;rw[<-e6];have S6:ab H0 D:=up (fun b o e=>n3 (S3 _ _ e)) e6;have bu:=du ("known_steps":Str) (.ref y) (cR ("says_signs":Str) (.ref v) []);have G:y≠x:=(ae j hy).symm;have s:kd≠x:=(ae (S4 _ _ j) B).symm;have y6:=X6 _ _ y5 G;have m:=X6 _ _ a6 s;have I:=X6 _ _ (n3 as) p;have a8:gF t D:=fun b xs e=>X6 _ _ (n3 e) fun z=>by rw[z,j]at e;cases e
 have a9:=ki.kt a8 a0;have bc:H0 kd=none:=(S3.trans S4).free B;refine fun g a=>⟨_,rfl,x,U,Y,_,rfl,kp l a,c.cls,c.a3,by omega,?_⟩;obtain⟨i,e8,bd,X8⟩:=ng "known_counts" (.ref g) (kp (x:=.dT []) l a);rw[<-e8];have S8:ab H0 i:=up (S6.trans (ab.new a)) e8;have J:g≠x:=(ae l a).symm;have bi:=X8 _ _ aa J;have n8:∀{b:Addr}{o:HO},D b=some o->b≠x->i b=some o:=fun e n=>X8 _ _ (kp e a) n;have bl:H0 g=none:=S6.free a;have L:kd≠g:=ae m a;have bm:gF D (qt (qt i kd) g):=fun b xs e=>by
  rw[lP (ae e a),lP (fun z=>by rw[z,m]at e;cases e)];exact n8 e fun z=>by rw[z,l]at e;cases e
 have nd:∀{b:Addr}{o:HO},i b=some o->b≠kd->b≠g->qt (qt i kd) g b=some o:=fun e n1 n2=>by rw[lP n2,lP n1];exact e
 have N:∀{b:Addr}{o:HO},D b=some o->K_ o=true->b≠kd/\b≠g:=fun e n=>⟨fun z=>(by rw[z,m]at e;cases e;cases n),ae e a⟩;have SH:ab H0 (qt (qt i kd) g):=EX (EX S8 bc) bl;have SS:ab (qt (qt i kd) g) i:=xC.trans xC;refine k (qt (qt i kd) g) v y kd g us i ⟨⟨MA.same SH,⟨r,fy,?_,m1,m2,m3⟩,?_⟩,⟨Y,_,nd bd s.symm J.symm,?_,?_,?_,?_⟩,?_,ki.kt bm a9,rS _ _,L⟩ ⟨⟨SS,n8 m s,fun _ h=>(by cases h),aD _⟩,fun _ h=>(by cases h),bi,fun _ h=>(by cases h),aD _⟩ SH
 ·obtain⟨O,T⟩:=N y6 rfl;exact nd (n8 y6 G) O T
 ·rw[lP L];exact rS _ _
 ·show fL _ _=_;repeat (rw[aV];first|rw[if_pos rfl] | rw[if_neg (by decide +kernel)])
 ·show fL _ _=_;repeat (rw[aV];first|rw[if_pos rfl] | rw[if_neg (by decide +kernel)])
 ·show fL _ _=_;repeat (rw[aV];first|rw[if_pos rfl] | rw[if_neg (by decide +kernel)])
 ·intro f O T q3;show fL _ _=_;rw[aV,if_neg q3,aV,if_neg T,aV,if_neg O];rfl
 ·obtain⟨O,T⟩:=N I rfl;exact nd (n8 I p) O T
open Classical in
theorem BT{a:Zb}(h:a≠[]):closF a ds (a.take 1)≠[]:=by
 cases a with
 |nil=>exact absurd rfl h
 |cons r e =>
  intro z;have:r∈closF (r::e) ds ((r::e).take 1):=fU.2 ⟨cW,zzr1 ⟨r,by simp,.inl rfl⟩⟩;rw[z]at this;cases this
theorem BP{K:Za}{H:Hp}{a n l:Addr}{g F:Zb}{Q:Hp->Prop}(e:dH 1 x σ=[none,some (.ref n)])(y:H a=some (.lst (g.map V.str)))(p:H n=some (.lst (F.map V.str)))(A:g.length<=1000)(u:H l=none)
  (k:∀f,f l=some (.lst ((g.filter fun r=>decide (r∈F)).map V.str))->ab H f->Q f) :
  eC 1 x σ (IW K a) U0 (aU (aH (qa K false) V0 V1)) V0 H l Q:=by
 refine bY (xs:=g.map V.str) (fun i h f=>h=((g.take i).filter fun r=>decide (r∈F)).map V.str/\ab H f/\f l=some (.lst h)) ⟨rfl,ab.new u,aa⟩ (fun i h f _ ⟨_,S,z⟩=>⟨z,aw.of (S _ _ y)⟩) ?_ ?_
 ·rintro h f ⟨rfl,S,j⟩;rw[ah,bf]at j;exact k f j S
 ·rintro i h f B s v ⟨rfl,S,j⟩;obtain⟨r,w,rfl⟩:=bJ s;rw[e];refine gN ?_;refine⟨_,rfl,_,rfl,gE r,F.map gE,n,_,ox r,rfl,.inl (aw.of (S _ _ p)),lR _,(by show 0<=8;decide),by rw[fh];decide,_,rfl,?_⟩;rw[if_neg iB,t6];have m:(((g.take i).filter fun r=>decide (r∈F)).map V.str).length<aj:=by
   rw[ah];refine aq (aB (cQ _ _) ?_);rw[aJ];omega
  refine i7 (fun t=>?_) (fun t=>?_)
  ·refine⟨_,rfl,j,m,mY v ⟨?_,?_,aa⟩⟩
   ·rw[cw w,if_pos t,av];rfl
   ·intro b o q;rw[ai (ae q u)];exact S _ _ q
  ·refine mY v ⟨?_,S,j⟩;rw[cw w,if_neg t,dO]
theorem JB{K:Za}(h:rJ K e H Q E):wj K (dP K) (bo Q) (start wT e) H:=by
 obtain⟨t,ft,s,l1,l2,l3,l4,O,J0,J1,J2,v,x,l,rfl,T,m,as,hs,hz,k⟩:=h;have z3:=m.rooms26;have z4:=m.few;refine⟨_,rfl,t,_,rfl,bP.of T.t,rfl,_,_,rfl,_,_,rfl,_,_,rfl,_,_,rfl,rfl,?_⟩;refine⟨_,rfl,(by show 1<=aj;decide),fun hh U=>⟨iL x,iL cC,aZ (bP.same (ab.new U) hs),aZ (bP.of aa),by rw[bL];decide,by rw[bL];decide,_,rfl,?_⟩⟩;rw[fI];have M:ab H (upd H hh (.tup [.str "hush"])):=ab.new U;generalize upd H hh (.tup [.str "hush"])=H1 at M ⊢;have I:=T.same M;have Y:=M _ _ as;have aC:=bP.same M hs;by_cases c:x=cC
 ·rw[zzr1 c];refine bT ?_;refine⟨_,rfl,l4,rfl,⟨_,aw.of I.a4⟩,fun f hf=>?_⟩;refine bY (xs:=O.map V.ref) (fun i e H'=>e=(g8 (l.take i)).map V.str/\ab H1 H'/\H' f=some (.lst e)) ⟨rfl,ab.new hf,aa⟩ (fun i e H' _ ⟨_,S,h'⟩=>⟨h',aw.of (S _ _ I.a4)⟩) ?_ ?_;rotate_left
  ·rintro i e H' x' y J ⟨rfl,S,A⟩;obtain⟨N,B,rfl⟩:=bZ y;obtain⟨w,n,a0⟩:=Paired.getL I.ds B;obtain⟨s',p,C⟩:=a0.kt (ab.kt S);obtain⟨s0,a7,a5,ea⟩:=xj (m.good w (bU n));unfold SignAt at C;rw[a5]at C;refine gN ?_;refine⟨_,rfl,N,_,1,_,rfl,rfl,bP.of p,rfl,s',_,0,.str s0,rfl,rfl,bP.of C,ca (j:=0) rfl,rfl,_,rfl,?_⟩;rw[ea];refine i7 (fun L=>?_) (fun L=>?_)
   ·refine⟨_,rfl,N,_,0,_,rfl,rfl,bP.of p,rfl,A,?_,mY J ⟨?_,?_,aa⟩⟩
    ·rw[ah];unfold g8;rw[ah];refine aq (aB (cQ _ _) ?_);rw[aJ];omega
    ·rw[xr n,if_pos L,av];rfl
    ·intro b o q;rw[ai (ae q hf)];exact S _ _ q
   ·refine mY J ⟨?_,S,A⟩;rw[xr n,if_neg L,dO]
  rintro e H2 ⟨rfl,S2,f2⟩;rw[ah,Paired.length I.ds,bf]at f2;have al:=S2 _ _ Y;refine⟨_,rfl,ft,rfl,⟨_,bP.of al⟩,fun g hg=>?_⟩;refine vJ (xs:=v.map V.str) (fun i e H'=>e=((v.take i).filter fun r=>decide (r∉g8 l)).map V.str/\ab H2 H'/\H' g=some (.lst e)) ⟨rfl,ab.new hg,aa⟩ (fun i e H' _ ⟨_,S,h'⟩=>⟨h',bP.of (S _ _ al)⟩) ?_ ?_
  ·rintro e H' ⟨rfl,S,A⟩;rw[ah,bf]at A;refine⟨g,_,rfl,.inl ⟨aw.of A,fun N B=>k N _ ?_ (((M.trans S2).trans S).trans (ab.new B))⟩⟩;rw[aa];unfold behF;rw[if_pos c]
  ·rintro i e H' x' y J ⟨rfl,S,A⟩;obtain⟨r,hr,rfl⟩:=bJ y;refine gN ?_;refine⟨_,rfl,_,rfl,gE r,(g8 l).map gE,f,_,ox r,rfl,.inl (aw.of (S _ _ f2)),lR _,(by show 0<=8;decide),by rw[fh];decide,_,rfl,?_⟩;rw[if_pos rfl,t6];have ed:(!decide (r∈g8 l))=decide (r∉g8 l):=by simp
   rw[ed];have an:(((v.take i).filter fun r=>decide (r∉g8 l)).map V.str).length<aj:=by
    rw[ah];refine aq (aB (cQ _ _) ?_);rw[aJ];omega
   refine i7 (fun L=>?_) (fun L=>?_)
   ·refine⟨_,rfl,A,an,mY J ⟨?_,?_,aa⟩⟩
    ·rw[cw hr,if_pos L,av];rfl
    ·intro b o q;rw[ai (ae q hg)];exact S _ _ q
   ·refine mY J ⟨?_,S,A⟩;rw[cw hr,if_neg L,dO]
 ·rw[zzr0 c];refine bD ?_;refine⟨_,rfl,_,rfl,l4,rfl,⟨_,aw.of I.a4⟩,fun f hf=>?_⟩;refine bY (xs:=O.map V.ref) (fun i e H'=>∃G:List Str,e=G.map V.str/\ab H1 H'/\H' f=some (.lst e)/\G.length<=i/\∀g,g∈G↔∃d∈l.take i,d.a∈v/\d.sg=x/\d.b=g)
   ⟨[],rfl,ab.new hf,aa,aD _,fun g=>⟨fun h=>(by cases h),fun⟨_,h,_⟩=>by simp at h⟩⟩ (fun i e H' _ ⟨_,_,S,h',_⟩=>⟨h',aw.of (S _ _ I.a4)⟩) ?_ ?_
  rotate_left
  ·rintro i e H' x' y J ⟨G,rfl,S,A,hl,hG⟩;obtain⟨u,hu,rfl⟩:=bZ y;obtain⟨w,n,ap⟩:=Paired.getL I.ds hu;obtain⟨sb,p,C⟩:=ap.kt (ab.kt S);have a8:i<l.length:=(bN.mp n).1;have D:∀g,(∃d∈l.take (i+1),d.a∈v/\d.sg=x/\d.b=g)↔((∃d∈l.take i,d.a∈v/\d.sg=x/\d.b=g)∨(w.a∈v/\w.sg=x/\w.b=g)):=by
    intro g;rw[take_snoc n];simp only[bM,dR,or_and_right,exists_or,exists_eq_left]
   have keep:¬(w.a∈v/\w.sg=x)->∃m',m'<(O.map V.ref).length-i/\Wc (O.map V.ref).length (fun i e H'=>∃G:List Str,e=G.map V.str/\ab H1 H'/\H' f=some (.lst e)/\G.length<=i/\∀g,g∈G↔∃d∈l.take i,d.a∈v/\d.sg=x/\d.b=g) (i+1) m' (G.map V.str) H':=by
    intro z;refine mY J ⟨G,rfl,S,A,by omega,fun g=>?_⟩;rw[D,hG];exact⟨.inl,fun h=>h.elim id fun h=>absurd ⟨h.1,h.2.1⟩ z⟩
   refine gN ?_;refine⟨_,rfl,u,_,0,_,rfl,rfl,bP.of p,rfl,_,rfl,gE w.a,v.map gE,ft,_,ox _,rfl,.inr (bP.of (S _ _ Y)),lR _,(by show 0<=8;decide),by rw[fh];decide,_,rfl,?_⟩;rw[if_neg iB,t6];by_cases c1:w.a∈v;rotate_left
   ·rw[zzr0 c1];exact bD (bD (keep fun z=>c1 z.1))
   rw[zzr1 c1];refine bT ?_;refine⟨_,rfl,u,_,1,_,rfl,rfl,bP.of p,rfl,_,rfl,iL w.sg,iL x,aZ (bP.of C),aZ (bP.same S aC),by rw[bL];decide,by rw[bL];decide,_,rfl,?_⟩;rw[fI];by_cases c2:w.sg=x;rotate_left
   ·rw[zzr0 c2];exact bD (keep fun z=>c2 z.2)
   rw[zzr1 c2];refine bT ?_;refine⟨_,rfl,u,_,2,_,rfl,rfl,bP.of p,rfl,A,by rw[ah];exact aq (by omega),mY J ⟨G++[w.b],by rw[av];rfl,?_,aa,by rw[ba];show G.length+1<=i+1;omega,fun g=>?_⟩⟩
   ·intro b o q;rw[ai (ae q hf)];exact S _ _ q
   ·rw[D,<-hG,bM];simp only[dR];exact⟨fun h=>h.imp id fun h=>⟨c1,c2,h.symm⟩,fun h=>h.imp id fun h=>h.2.2.symm⟩
  rintro e H2 ⟨G,rfl,S2,f2,hl,hG⟩;rw[ah,Paired.length T.ds]at hl;rw[ah,Paired.length T.ds,bf]at hG;have T2:=I.same S2;refine⟨l4,f,O,l,G,J2,rfl,T2.a4,T2.ds,f2,fun d hd=>(m.good d hd).b,by omega,by omega,fun th F H3 a6 hF a9 fr S3=>?_⟩;have T3:=T2.same S3;refine⟨_,rfl,l3,rfl,⟨_,aw.of T3.a3⟩,fun g hg=>?_⟩;refine BP rfl T3.a3 a6 (by omega) hg fun H4 h4 S4=>?_;refine⟨g,_,rfl,.inl ⟨aw.of h4,fun N B=>k N _ ?_ ((((M.trans S2).trans S3).trans S4).trans (ab.new B))⟩⟩;rw[aa,nj hF];unfold behF;rw[if_neg c]
  suffices e0:closF J2 l G=closF J2 l (dF l x v) by rw[e0]
  refine BS fun g=>?_;rw[hG,qk];constructor
  ·rintro⟨⟨a,bc,b⟩,hd,h1,h2,h3⟩;simp only at h1 h2 h3;subst h2 h3;exact⟨a,h1,hd⟩
  ·rintro⟨r,hr,h⟩;exact⟨_,h,hr,rfl,rfl⟩
inductive pZ(vs:List V)(H:Hp)(Q:VK)(E:XK):Prop
 |mk (t l1 l2 l3 l4:Addr) (ts:Ze) (J0 J1 J2:Zb) (ds:List ao):(vs=[.ref t])->(hC H t l1 l2 l3 l4 ts J0 J1 J2 ds)->(aQ J0 J1 J2 ds)->(∀(t':Addr) (H':Hp),H' t'=some (.tup ((closF J2 ds (J2.take 1)).map V.str))->ab H H'->Q (.ref t') H')->pZ vs H Q E
theorem Hw{K:Za}(h:pZ y H Q E):AX K (dP K) (bo Q) (start Ci y) H:=by
 obtain⟨t,U,Y,u,z,A,J0,J1,i,B,rfl,T,m,k⟩:=h;have z3:=m.rooms26;obtain⟨f,v,e⟩:∃f v,i=f::v:=by
  cases e:i with
  |nil=>exact absurd e m.rooms0
  |cons a b=>exact⟨a,b,rfl⟩
 have n:xU (i.map V.str) 0=some (.str f):=by rw[e];exact ca (j:=0) rfl
 have C:i.take 1=[f]:=by rw[e];rfl
 refine⟨_,rfl,.inr (.inl ⟨t,_,3,_,rfl,rfl,bP.of T.t,rfl,_,rfl,.inr (.inl ⟨t,_,2,_,rfl,rfl,bP.of T.t,rfl,.inl ⟨u,_,0,_,rfl,rfl,aw.of T.a3,n,(by show 1<=aj;decide),fun l D=>?_⟩⟩)⟩)⟩;have o:ab H (upd H l (.lst [.str f])):=ab.new D;have w:upd H l (.lst [.str f]) l=some (.lst ([f].map V.str)):=aa;generalize upd H l (.lst [.str f])=H1 at o w ⊢;have p:=T.same o;refine⟨z,l,A,B,[f],i,rfl,p.a4,p.ds,w,fun d G=>(m.good d G).b,by omega,by show 1<=1000;decide,fun th F H2 q I J fr x=>?_⟩;have r:=p.same x;refine⟨_,rfl,.inr (.inl ⟨t,_,2,_,rfl,rfl,bP.of r.t,rfl,u,rfl,⟨_,aw.of r.a3⟩,fun g L=>?_⟩)⟩;refine BP rfl r.a3 q (by omega) L fun H4 M N=>?_;refine⟨g,_,rfl,.inl ⟨aw.of M,fun O s=>k O _ ?_ (((o.trans x).trans N).trans (ab.new s))⟩⟩;rw[aa,nj I,C]
def oX(K:Za)(C_KnownSteps:Addr)(sp_KnownSteps_init:Sp)(C_Made:Addr)(sp_Made_init:Sp):TS :=
 ar (mv K V0 (uQ C_Made sp_Made_init [] E0 (ay V1)) "made")
 (ar (mv K V0 (uQ C_KnownSteps sp_KnownSteps_init [] E0 (ay V2)) "own_steps")
 (ar (mv K V0 (lq) "known_harmless")
 (mv K V0 (lq) "known_firsts")))
def pB:List Str:=["self","M","I"]
def rB(K:Za)(C_KnownSteps:Addr)(sp_KnownSteps_steps_from:Sp)(C_Made:Addr)(sp_Made_steps_from:Sp):TS :=
 ar (aN (cq C_Made "steps_from" sp_Made_steps_from [] E0 (fQ K V0 "made") (ay V1)) U4)
 (ar (aN (cq C_KnownSteps "steps_from" sp_KnownSteps_steps_from [] E0 (fQ K V0 "own_steps") (ay V2)) U5)
 (aW (cI 1 [4,5] (bO K V3) U0 (iS) (bg (aX (zM K V1 V0) (zM K V2 V0))))))
def sf:List Str:=["self","face","mine","signs","steps","own"]
def np:Option Str->V
 |none=>.non
 |some a=>.str a
def aR(J1:Zb):Option Str->List Sg
 |none=>J1.map gS++[cC]
 |some a=>b9 a::J1.map gS
inductive jr(vs:List V)(H:Hp)(Q:VK)(E:XK):Prop
 |mk (t l1 l2 l3 l4:Addr) (ts:Ze) (ask:Option Str) (J0 J1 J2:Zb) (ds:List ao):(vs=[.ref t,np ask])->(hC H t l1 l2 l3 l4 ts J0 J1 J2 ds)->(J1.length<=4)->(∀(l:Addr) (us:Ze) (H':Hp),H' l=some (.lst (us.map V.ref))->ki H' us (aR J1 ask)->ab H H'->Q (.ref l) H')->jr vs H Q E
theorem Hm{K:Za}(h:jr A H Q E):rm K (bo Q) (start r8 A) H:=by
 obtain⟨t,I,B,J,L,M,ask,N,C,O,U,rfl,T,D,k⟩:=h;refine⟨_,rfl,.inr (.inl ⟨t,_,1,_,rfl,rfl,bP.of T.t,rfl,B,rfl,⟨_,aw.of T.a2⟩,fun v w=>?_⟩)⟩;refine lS (kd:="say") (ws:=C) T.a2 (by omega) w fun p g y x z=>?_;have Y:p.length<=4:=by rw[Paired.length x,ah];exact D
 refine⟨_,rfl,_,rfl,?_⟩;cases ask with
 |none =>
  refine bT ⟨_,rfl,(by show 1<=aj;decide),fun e n=>⟨(by show 1<=aj;decide),fun f i=>?_⟩⟩;have l:ab g (upd (upd g e (.tup [.str "hush"])) f (.lst [.ref e])):=(ab.new n).trans (ab.new i);have j:upd (upd g e (.tup [.str "hush"])) f (.lst [.ref e]) e=some (.tup (cC.map V.str)):=kp aa i;have m:upd (upd g e (.tup [.str "hush"])) f (.lst [.ref e]) f=some (.lst [.ref e]):=aa;generalize upd (upd g e (.tup [.str "hush"])) f (.lst [.ref e])=q at l j m ⊢;refine⟨v,f,_,_,rfl,rfl,l _ _ y,m,by rw[ah];exact cV (aq (by show _+1<=1000;omega)),fun r s=>?_⟩;have o:ab q (upd q r (.lst (p.map V.ref++[.ref e]))):=ab.new s;exact k r (p++[e]) _ (by rw[aa,av];rfl) (Paired.app (ki.kt (ab.kt (l.trans o)) x) (.cons (o _ _ j) .nil)) ((z.trans l).trans o)
 |some a =>
  refine bD ⟨_,rfl,(by show 2<=aj;decide),fun e n=>⟨(by show 1<=aj;decide),fun f i=>?_⟩⟩;have l:ab g (upd (upd g e (.tup [.str "ask",.str a])) f (.lst [.ref e])):=(ab.new n).trans (ab.new i);have j:upd (upd g e (.tup [.str "ask",.str a])) f (.lst [.ref e]) e=some (.tup ((b9 a).map V.str)):=kp aa i;have m:upd (upd g e (.tup [.str "ask",.str a])) f (.lst [.ref e]) f=some (.lst [.ref e]):=aa;generalize u:upd (upd g e (.tup [.str "ask",.str a])) f (.lst [.ref e])=q at l j m;have G:=l;refine⟨_,rfl,f,v,_,_,rfl,rfl,(by show upd (upd g e (.tup [.str "ask",.str a])) f (.lst [.ref e]) f=_;exact aa),(by show upd (upd g e (.tup [.str "ask",.str a])) f (.lst [.ref e]) v=_;rw[u];exact l _ _ y),by rw[ah];exact cV (aq (by show 1+_<=1000;omega)),fun r s=>?_⟩
  change upd (upd g e (.tup [.str "ask",.str a])) f (.lst [.ref e]) r=none at s
  show Q (.ref r) (upd (upd (upd g e (.tup [.str "ask",.str a])) f (.lst [.ref e])) r (.lst ([.ref e]++p.map V.ref)));rw[u]at s ⊢;have o:ab q (upd q r (.lst ([.ref e]++p.map V.ref))):=ab.new s;exact k r (e::p) _ aa (.cons (o _ _ j) (ki.kt (ab.kt (l.trans o)) x)) ((z.trans l).trans o)
def xW(J6:Zb)(sg:Sg):TK:=.t [eT J6,eT sg]
theorem Kf(h:xW f a=xW g b):f=g/\a=b:=by
 unfold xW at h;injection h with h;injection h with i e;injection e with e _;exact⟨eP i,eP e⟩
theorem Fj(h:xW f a=qF g d):False:=by
 unfold xW qF eT at h;injection h with h;injection h with i e;injection e with e _;cases e
theorem kW(f:Zb)(a:Sg):(xW f a).depth<=8:=by
 show max (eT f).depth (max (eT a).depth 0)+1<=8;rw[fA,fA];decide
theorem DW{H:Hp}{p u s:Addr}{a:Zb}{e:Sg}(f:H p=some (.tup [.ref u,.ref s]))(g:H u=some (.tup (a.map V.str)))(h:H s=some (.tup (e.map V.str))):cU H (xW a e) (.ref p):=by
 unfold xW cU;refine⟨p,_,rfl,f,?_⟩;unfold TKAts;refine⟨_,_,rfl,SignAt.tk g,?_⟩;unfold TKAts;exact⟨_,_,rfl,SignAt.tk h,by unfold TKAts;rfl⟩
def Kg(X:TK×V->Prop):Prop:=∀p,X p->(∀f s,p.1≠xW f s)/\∀f d,p.1≠qF f d
structure df(X:TK×V->Prop)(H:Hp)(kd:Addr)(kv:List (TK×V))(J0 J1 J2:Zb)(ds:List ao)(n:Nat):Prop where
 hkd:H kd=some (.dT kv)
 kok:∀p∈kv,(∃(J6:Zb) (sg:Sg) (u:Addr),p=(xW J6 sg,.ref u)/\H u=some (.tup ((behF J2 ds J6 sg).map V.str)))∨(∃(J6:Zb) (d:Nat),p=(qF J6 d,.int (cntM J0 J1 J2 ds d J6)))∨X p
 len:kv.length<=n
section
variable{X:TK×V->Prop}{H H':Hp}{kd f:Addr}{kv:List (TK×V)}{J0 J1 J2 J6:Zb}{ds:List ao}{n m:Nat}
theorem df.kt(h:df X H kd kv J0 J1 J2 ds n)(e:H' kd=some (.dT kv))(k:gF H H'):df X H' kd kv J0 J1 J2 ds n:=⟨e,fun p a=>(h.kok p a).imp (fun⟨f,s,u,e,q⟩=>⟨f,s,u,e,k _ _ q⟩) id,h.len⟩
theorem df.up(h:df X H kd kv J0 J1 J2 ds n)(S:ab H H'):df X H' kd kv J0 J1 J2 ds n:=h.kt (S _ _ h.hkd) (ab.kt S)
theorem df.more(h:df X H kd kv J0 J1 J2 ds n)(l:n<=m):df X H kd kv J0 J1 J2 ds m:=⟨h.hkd,h.kok,aB h.len l⟩
theorem df.cell{e ys:List V}(h:df X H kd kv J0 J1 J2 ds n)(a:H f=some (.lst e)):df X (upd H f (.lst ys)) kd kv J0 J1 J2 ds n:=h.kt (by rw[ai (fun z=>by have:=h.hkd;rw[z,a]at this;cases this)];exact h.hkd) (fg a)
theorem df.put{k:TK}{v:V}(h:df X H kd kv J0 J1 J2 ds n)(q:(∃(J6:Zb) (g:Sg) (u:Addr),(k,v)=(xW J6 g,.ref u)/\H u=some (.tup ((behF J2 ds J6 g).map V.str)))∨(∃(J6:Zb) (d:Nat),(k,v)=(qF J6 d,.int (cntM J0 J1 J2 ds d J6)))∨X (k,v)):
  df X (upd H kd (.dT (dq kv k v))) kd (dq kv k v) J0 J1 J2 ds (n+1):=by
 have kt:gF H (upd H kd (.dT (dq kv k v))):=KA h.hkd;refine⟨aa,fun p a=>?_,aB (ff _ _ _) (uE h.len)⟩;rcases vj a with a|rfl
 ·exact(h.kok p a).imp (fun⟨f,s,u,e,q⟩=>⟨f,s,u,e,kt _ _ q⟩) id
 ·exact q.imp (fun⟨f,s,u,e,q⟩=>⟨f,s,u,e,kt _ _ q⟩) id
theorem df.val(i:Kg X){w:V}(h:df X H kd kv J0 J1 J2 ds n)(v:be kv (xW J6 g)=some w):∃u,w=.ref u/\H u=some (.tup ((behF J2 ds J6 g).map V.str)):=by
 rcases h.kok _ (fV v)with⟨f,s,u,e,q⟩|⟨f,d,e⟩|hx
 ·injection e with a j;obtain⟨rfl,rfl⟩:=Kf a;exact⟨u,j,q⟩
 ·injection e with a _;exact(Fj a).elim
 ·exact absurd rfl ((i _ hx).1 J6 g)
theorem df.cnt(g:Kg X){w:V}(h:df X H kd kv J0 J1 J2 ds n)(v:be kv (qF J6 d)=some w):w=.int (cntM J0 J1 J2 ds d J6):=by
 rcases h.kok _ (fV v)with⟨f,s,u,e,q⟩|⟨f,j,e⟩|hx
 ·injection e with a _;exact(Fj a.symm).elim
 ·injection e with a i;obtain⟨rfl,rfl⟩:=Ff a;exact i
 ·exact absurd rfl ((g _ hx).2 J6 d)
end
theorem bA.sameH{p:Addr}(S:ab H0 H)(h:H0 p=none)(e:bA p H a):ab H0 a:=fun b o q=>e b o (S b o q) (ae q h)
theorem ab.exBs(S:ab H a):bA p H a:=fun b o e _=>S b o e
theorem bA.trs(a:bA p H f)(b:bA p f g):bA p H g:=fun c o e n=>b c o (a c o e n) n
theorem bA.ktd{p:Addr}{H:Hp}{a:List (TK×V)}(h:H p=some (.dT a))(e:bA p H f):gF H f:=fun b g q=>e b _ q fun z=>by rw[z,h]at q;cases q
inductive ju(K:Za)(vs:List V)(H:Hp)(Q:VK)(E:XK):Prop
 |mk (X:TK×V->Prop) (hX:Kg X) (H0:Hp) (t l1 l2 l3 l4 kd fu su:Addr) (ts:Ze) (kv:List (TK×V)) (n:Nat) (sg:Sg) (J6 J0 J1 J2:Zb) (ds:List ao):(vs=[.ref t,.ref kd,.ref fu,.ref su])->(hC H0 t l1 l2 l3 l4 ts J0 J1 J2 ds)->(aQ J0 J1 J2 ds)->(H0 kd=none)->(ab H0 H)->(df X H kd kv J0 J1 J2 ds n)->(H fu=some (.tup (J6.map V.str)))->(H su=some (.tup (sg.map V.str)))->(J6.length<=1000)->(n<=8000000) ->
  (∀(u:Addr) (kv':List (TK×V)) (H':Hp),H' u=some (.tup ((behF J2 ds J6 sg).map V.str))->df X H' kd kv' J0 J1 J2 ds (n+1)->bA kd H H'->Q (.ref u) H')->ju K vs H Q E
theorem Hz{K:Za}(h:ju K vs H Q E):AZ K (rJ K) (bo Q) (start Cn vs) H:=by
 obtain⟨X,hX,H0,t,l1,l2,l3,l4,x,l,q,ts,kv,n,f,g,Y,J1,M,N,rfl,T,m,h0,S0,D,B,C,hz,hn,k⟩:=h;have z:∀{i:List (TK×V)}{H':Hp}{u:Addr},df X H' x i Y J1 M N (n+1)->bA x H H'->be i (xW g f)=some (.ref u)->H' u=some (.tup ((behF M N g f).map V.str))->(aW (iD K V1 (bg (aX V2 V3)))) (bo Q) [some (.ref t),some (.ref x),some (.ref l),some (.ref q)] H':=by
  intro i H' u D' ex v' y;refine⟨_,rfl,_,rfl,_,rfl,(by show 2<=aj;decide),fun p O=>?_⟩;have S:ab H' (upd H' p (.tup [.ref l,.ref q])):=ab.new O;have kt:=bA.ktd D.hkd ex;have tk:=DW (aa (H:=H') (a:=p)) (S _ _ (kt _ _ B)) (S _ _ (kt _ _ C));exact⟨x,_,rfl,.inr ⟨_,xW g f,p,.inl (S _ _ D'.hkd),rfl,cU.isIn 8 (kW _ _) tk,kW _ _,v'.symm⟩,k u i _ (S _ _ y) (D'.up S) (ex.trs (ab.exBs S))⟩
 refine⟨_,rfl,_,rfl,(by show 2<=aj;decide),fun p O=>?_⟩;have S:ab H (upd H p (.tup [.ref l,.ref q])):=ab.new O;have tk:=DW (aa (H:=H) (a:=p)) (S _ _ B) (S _ _ C);generalize upd H p (.tup [.ref l,.ref q])=H1 at S tk ⊢;have G:=D.up S;refine⟨_,rfl,x,_,rfl,.inr ⟨_,xW g f,p,.inl G.hkd,rfl,cU.isIn 8 (kW _ _) tk,kW _ _,rfl⟩,_,rfl,?_⟩;cases j:be kv (xW g f)with
 |some w =>
  obtain⟨u,rfl,y⟩:=G.val hX j;exact bD (z (G.more (by omega)) (ab.exBs S) j y)
 |none =>
  refine bT ?_;refine⟨_,rfl,_,rfl,_,rfl,t,l,q,l1,l2,l3,l4,ts,Y,J1,M,g,f,N,rfl,T.same (S0.trans S),m,S _ _ B,bP.of (S _ _ C),hz,fun u I y S2=>?_⟩;refine⟨_,rfl,_,rfl,_,rfl,(by show 2<=aj;decide),fun J U=>?_⟩;have r:ab I (upd I J (.tup [.ref l,.ref q])):=ab.new U;have s:=S.trans S2;have A:=DW (aa (H:=I) (a:=J)) (r _ _ (s _ _ B)) (r _ _ (s _ _ C));generalize upd I J (.tup [.ref l,.ref q])=H3 at r A ⊢;have L:=(G.up S2).up r;have cl:=L.len;refine⟨x,_,rfl,.inr ⟨_,xW g f,J,L.hkd,rfl,A,kW _ _,by rw[sv];omega,rfl⟩,?_⟩;have D4:=L.put (k:=xW g f) (v:=.ref u) (.inl ⟨g,f,u,rfl,r _ _ y⟩);exact z D4 ((ab.exBs (s.trans r)).trs fun b o e nb=>by rw[ai nb];exact e) (by rw[iC,if_pos rfl]) (KA L.hkd _ _ (r _ _ y))
def askedF(J0 J2:Zb)(ds:List ao)(J6:Zb):List Str:=J0.filter fun a=>decide (behF J2 ds J6 (b9 a)≠[])
inductive kL(K:Za)(vs:List V)(H:Hp)(Q:VK)(E:XK):Prop
 |mk (X:TK×V->Prop) (hX:Kg X) (H0:Hp) (t l1 l2 l3 l4 kd fu:Addr) (ts:Ze) (kv:List (TK×V)) (n:Nat) (J6 J0 J1 J2:Zb) (ds:List ao):(vs=[.ref t,.ref kd,.ref fu])->(hC H0 t l1 l2 l3 l4 ts J0 J1 J2 ds)->(aQ J0 J1 J2 ds)->(H0 kd=none)->(ab H0 H)->(df X H kd kv J0 J1 J2 ds n)->(H fu=some (.tup (J6.map V.str)))->(J6.length<=1000)->(n+4<=8000000) ->
  (∀(l:Addr) (kv':List (TK×V)) (H':Hp),H' l=some (.lst ((askedF J0 J2 ds J6).map V.str))->df X H' kd kv' J0 J1 J2 ds (n+4)->bA kd H H'->Q (.ref l) H')->kL K vs H Q E
theorem Hy{K:Za}(h:kL K f H Q E):AY K (ju K) (bo Q) (start Cj f) H:=by
 obtain⟨X,hX,H0,t,O,l2,l3,l4,kd,fu,ts,kv,n,A,B,J1,r,w,rfl,T,m,h0,S0,D,hf,hz,hn,k⟩:=h;have z1:=m.asks4;have T':=T.same S0;have a1:=T'.a1;have n1:O≠kd:=fun z=>by have:=D.hkd;rw[<-z,a1]at this;cases this
 refine⟨_,rfl,.inr (.inl ⟨t,_,0,_,rfl,rfl,bP.of T'.t,rfl,O,rfl,⟨_,aw.of a1⟩,fun l J=>?_⟩)⟩;have nl:l≠kd:=(ae D.hkd J).symm;refine bY (xs:=B.map V.str) (fun i f x=>∃g:List (TK×V),f=((B.take i).filter fun a=>decide (behF r w A (b9 a)≠[])).map V.str/\x l=some (.lst f)/\df X x kd g B J1 r w (n+i)/\bA kd H x)
  ⟨kv,rfl,aa,D.up (ab.new J),ab.exBs (ab.new J)⟩ (fun i f x _ ⟨_,_,L,_,ex⟩=>⟨L,aw.of (ex _ _ a1 n1)⟩) ?_ ?_
 ·rintro f x ⟨g,rfl,L,D',ex⟩;rw[ah,bf]at L;rw[ah]at D';exact k l g x L (D'.more (by omega)) ex
 ·rintro i f M v hv hi ⟨U,rfl,h1,D1,j⟩;obtain⟨a,Y,rfl⟩:=bJ hv;have il:i<B.length:=(bN.1 Y).1;refine gN ?_;refine⟨_,rfl,_,rfl,_,rfl,_,rfl,(by show 2<=aj;decide),fun s hs=>?_⟩;have y:ab M (upd M s (.tup [.str "ask",.str a])):=ab.new hs;have s2:upd M s (.tup [.str "ask",.str a]) s=some (.tup ((b9 a).map V.str)):=aa;generalize upd M s (.tup [.str "ask",.str a])=H2 at y s2 ⊢;have al:=bA.ktd D.hkd j;refine⟨X,hX,H0,t,O,l2,l3,l4,kd,fu,s,ts,U,n+i,b9 a,A,B,J1,r,w,rfl,T,m,h0,(bA.sameH S0 h0 j).trans y,D1.up y,y _ _ (al _ _ hf),s2,hz,by omega,fun u C H3 hu D3 G=>?_⟩;refine⟨(by show 0<=aj;decide),fun e he=>⟨iL (behF r w A (b9 a)),iL [],aZ (bP.of (kp hu he)),aZ (bP.of aa),by rw[bL];decide,by rw[bL];decide,_,rfl,?_⟩⟩;rw[fI];have N:ab H3 (upd H3 e (.tup [])):=ab.new he;generalize upd H3 e (.tup [])=H4 at N ⊢;have p:=N _ _ (G _ _ (y _ _ h1) nl);have D4:=D3.up N;have I:bA kd H H4:=(j.trs (ab.exBs y)).trs (G.trs (ab.exBs N));have ed:(!decide (behF r w A (b9 a)=[]))=decide (behF r w A (b9 a)≠[]):=by simp
  rw[ed];refine i7 (fun hq=>?_) (fun hq=>?_)
  ·refine⟨_,rfl,p,?_,mY hi ⟨C,?_,aa,D4.cell p,fun b o q nb=>?_⟩⟩
   ·rw[ah];refine aq (aB (cQ _ _) ?_);rw[aJ];omega
   ·rw[cw Y,if_pos hq,av];rfl
   ·rw[ai (ae q J)];exact I _ _ q nb
  ·refine mY hi ⟨C,?_,p,D4,I⟩;rw[cw Y,if_neg hq,dO]
def lB:Nat->Nat
 |0=>0
 |d+1=>30+25 * lB d
theorem jV(a e f:Zb)(g:List ao)(h:Zb):kindsF a e f g h=((askedF a f g h).map some++[none]).map (aR e):=by
 unfold kindsF askedF;rw[av,jg];rfl
inductive jP(K:Za)(D:Nat)(vs:List V)(H:Hp)(Q:VK)(E:XK):Prop
 |mk (X:TK×V->Prop) (hX:Kg X) (H0:Hp) (t l1 l2 l3 l4 kd fu:Addr) (ts:Ze) (kv:List (TK×V)) (n d:Nat) (J6 J0 J1 J2:Zb) (ds:List ao):(vs=[.ref t,.ref kd,.ref fu,.int (d:Nat)])->(d<=D)->(hC H0 t l1 l2 l3 l4 ts J0 J1 J2 ds)->(aQ J0 J1 J2 ds)->(H0 kd=none)->(ab H0 H)->(df X H kd kv J0 J1 J2 ds n)->(H fu=some (.tup (J6.map V.str)))->(J6.length<=1000)->(n+lB d<=8000000) ->
  (∀(kv':List (TK×V)) (H':Hp),df X H' kd kv' J0 J1 J2 ds (n+lB d)->bA kd H H'->Q (.int (cntM J0 J1 J2 ds d J6)) H')->jP K D vs H Q E
inductive iE(K:Za)(D:Nat)(vs:List V)(H:Hp)(Q:VK)(E:XK):Prop
 |mk (X:TK×V->Prop) (hX:Kg X) (H0:Hp) (t l1 l2 l3 l4 kd fu:Addr) (ts:Ze) (ask:Option Str) (kv:List (TK×V)) (n d:Nat) (J6 J0 J1 J2:Zb) (ds:List ao):(vs=[.ref t,.ref kd,.ref fu,np ask,.int ((d+1:Nat))])->(d<=D)->(hC H0 t l1 l2 l3 l4 ts J0 J1 J2 ds)->(aQ J0 J1 J2 ds)->(H0 kd=none)->(ab H0 H)->(df X H kd kv J0 J1 J2 ds n)->(H fu=some (.tup (J6.map V.str)))->(J6.length<=1000)->(n+5 * (1+lB d)<=8000000) ->
  (∀(l:Addr) (kv':List (TK×V)) (H':Hp),H' l=some (.lst (((aR J1 ask).map fun sg=>cntM J0 J1 J2 ds d (behF J2 ds J6 sg)).map V.int))->df X H' kd kv' J0 J1 J2 ds (n+5 * (1+lB d))->bA kd H H'->Q (.ref l) H')->iE K D vs H Q E
theorem eF(e:Zb)(ask:Option Str):(aR e ask).length=e.length+1:=by
 cases ask with
 |none=>unfold aR;rw[ba,ah];rfl
 |some a=>unfold aR;rw[fS,ah]
theorem Bg{K:Za}(h:iE K D vs H Q E):AT K jr (jP K D) (ju K) (bo Q) (start Cf vs) H:=by
 obtain⟨X,hX,H0,t,l1,l2,l3,l4,q,fu,ts,ask,kv,n,d,J6,B,j,r,w,rfl,hD,T,m,N,S0,Dy,hf,hz,hn,k⟩:=h;have z2:=m.says4;have z3:=m.rooms26;refine⟨(by show 0<=aj;decide),fun l O=>?_⟩;have S1:ab H (upd H l (.lst [])):=ab.new O;have nl:l≠q:=(ae Dy.hkd O).symm;have x:upd H l (.lst []) l=some (.lst []):=aa;generalize upd H l (.lst [])=H1 at S1 x ⊢;refine⟨_,rfl,_,rfl,t,l1,l2,l3,l4,ts,ask,B,j,r,w,rfl,(T.same S0).same S1,z2,fun pl us H2 a hP S2=>⟨pl,rfl,⟨_,aw.of a⟩,?_⟩⟩;have p:=S1.trans S2;have D2:=Dy.up p;have al:pl≠q:=fun z=>by have:=D2.hkd;rw[<-z,a]at this;cases this
 have zu:us.length=j.length+1:=by rw[Paired.length hP,eF]
 have C:pl≠l:=fun z=>by
  rw[z,S2 _ _ x]at a;injection a with a;injection a with a;rw[qS.1 a.symm]at zu;cases zu
 have l0:H0 l=none:=S0.free O;have G:=S2 _ _ x;have an:=S0.trans p;have f2:=p _ _ hf;refine bR (xs:=us.map V.ref) (fun i σ U=>∃(ap:List (TK×V)) (x6:Option V),σ=[some (.ref t),some (.ref q),some (.ref fu),some (np ask),some (.int ((d+1:Nat))),some (.ref l),x6]/\U l=some (.lst ((((aR j ask).take i).map fun Y=>cntM B j r w d (behF r w J6 Y)).map V.int))/\df X U q ap B j r w (n+i * (1+lB d))/\∀b o,H2 b=some o->b≠q->b≠l->U b=some o)
  ⟨kv,_,rfl,G,D2.more (by omega),fun _ _ e _ _=>e⟩ (fun i σ U _ ⟨_,_,_,_,_,ex⟩=>aw.of (ex _ _ a al C)) ?_ ?_
 ·rintro i v σ H3 hi ⟨y,x6,rfl,f,D3,g⟩;obtain⟨s,hs,rfl⟩:=bZ hi;obtain⟨Y,I,as⟩:=Paired.getL hP hs;have il:i<(aR j ask).length:=(bN.1 I).1;rw[eF]at il;have J:gF H2 H3:=fun b xs e=>g _ _ e (fun z=>by rw[z,D2.hkd]at e;cases e) (fun z=>by rw[z,G]at e;cases e);have L:ab H0 H3:=fun b o e=>g _ _ (an _ _ e) (ae e N) (ae e l0);have a5:(i+1) * (1+lB d)=i * (1+lB d)+(1+lB d):=gJ _ _;have a4:(i+1) * (1+lB d)<=5 * (1+lB d):=db _ (by omega);refine⟨_,rfl,.inl ⟨rfl,_,aw.of f⟩,_,rfl,_,rfl,_,rfl,_,rfl,_,rfl,_,rfl,X,hX,H0,t,l1,l2,l3,l4,q,fu,s,ts,y,_,Y,J6,B,j,r,w,rfl,T,m,N,L,D3,J _ _ f2,J _ _ as,hz,by omega,fun u aC H4 hu D4 A=>?_⟩;refine⟨_,rfl,_,_,rfl,rfl,X,hX,H0,t,l1,l2,l3,l4,q,u,ts,aC,_,d,behF r w J6 Y,B,j,r,w,?_,hD,T,m,N,bA.sameH L N A,D4,hu,f8 (by omega) hz,by omega,fun a0 H5 D5 M=>?_⟩
  ·show[V.ref t,V.ref q,V.ref u,V.int (((d+1:Nat):Int)-1)]=_;rw[show(((d+1:Nat):Int)-1)=(d:Nat) by omega]
  have l5:=M _ _ (A _ _ f nl) nl;refine⟨l,_,_,rfl,rfl,l5,?_,a0,_,rfl,?_,(D5.more (m:=n+(i+1) * (1+lB d)) (by omega)).cell l5,fun b o e n1 n2=>?_⟩
  ·rw[ah,ah,aJ];exact aq (by omega)
  ·rw[aa,take_snoc I,av,av];rfl
  ·rw[ai n2];exact M _ _ (A _ _ (g _ _ e n1 n2) n1) n1
 ·rintro σ H3 ⟨y,x6,rfl,f,D3,g⟩;rw[ah,Paired.length hP,bf]at f;rw[ah,zu]at D3;have m5:(j.length+1) * (1+lB d)<=5 * (1+lB d):=db _ (by omega);exact⟨_,rfl,k l y H3 f (D3.more (by omega)) fun b o e nb=>g _ _ (p _ _ e) nb (ae e O)⟩
theorem Jy{K:Za}{D:Nat}{spS:Sp}(d5:D<=4)(hS:∀m,D=m+1->spS=iE K m)(h:jP K D vs H Q E):zj K (kL K) sp_product spS (bo Q) (start Ax vs) H:=by
 obtain⟨X,hX,H0,t,l1,l2,l3,l4,kd,y,ts,kv,n,d,g,q,s,j,l,rfl,hD,T,m,h0,S0,Dy,hf,hz,hn,k⟩:=h;have z1:=m.asks4;have z2:=m.says4;refine⟨_,rfl,(by show 0<=aj;decide),fun e he=>⟨iL g,iL [],aZ (bP.of (kp hf he)),aZ (bP.of aa),by rw[bL];decide,by rw[bL];decide,_,rfl,?_⟩⟩;rw[fI];have M:ab H (upd H e (.tup [])):=ab.new he;generalize upd H e (.tup [])=G at M ⊢;have O:=Dy.up M;have one:cntM q s j l d g=1->Q (.int 1) G:=fun e=>by
  have:=k kv G (O.more (by omega)) (ab.exBs M);rw[e]at this;exact this
 by_cases B:g=[]
 ·rw[zzr1 B];refine bT ?_;refine bT ?_;exact one (by rw[B];exact BR _ _ _ _ _)
 rw[zzr0 B];refine bD ?_;refine⟨_,rfl,rfl,_,rfl,?_⟩
 match d,hD,hn,k,one with
 |0,_,_,_,one =>
  refine bT ?_;exact one (by unfold cntM;rfl)
 |d+1,hD,hn,k,one =>
 rw[zzr0 (by intro z;injection z with z;omega)];refine bD ?_;obtain⟨w,rfl⟩:∃w,D=w+1:=⟨D-1,by omega⟩;cases hS w rfl;have eq:cntM q s j l (d+1) g=1+((kindsF q s j l g).map fun k=>gB (k.map fun sg=>cntM q s j l d (behF j l g sg))).sum:=by
  conv=>lhs;unfold cntM
  rw[if_neg B]
 have nb:lB (d+1)=30+25 * lB d:=rfl;have U:=M _ _ hf;have Y:=S0.trans M;have an:∀{u:List (TK×V)}{H':Hp}{x4 N:Option V},df X H' kd u q s j l (n+lB (d+1))->bA kd G H'->be u (qF g (d+1))=some (.int (cntM q s j l (d+1) g))->(aW (iD K V1 (bg (aX V2 V3)))) (bo Q) [some (.ref t),some (.ref kd),some (.ref y),some (.int ((d+1:Nat))),x4,N] H':=by
  intro u H' x4 N D' ex v';refine⟨_,rfl,_,rfl,_,rfl,(by show 2<=aj;decide),fun p hp=>?_⟩;have S:ab H' (upd H' p (.tup [.ref y,.int ((d+1:Nat))])):=ab.new hp;have tk:=rW (d:=d+1) (aa (H:=H') (a:=p)) (S _ _ (bA.ktd O.hkd ex _ _ U));exact⟨kd,_,rfl,.inr ⟨_,qF g (d+1),p,.inl (S _ _ D'.hkd),rfl,cU.isIn 8 (eG _ _) tk,eG _ _,v'.symm⟩,k u _ (D'.up S) ((ab.exBs M).trs (ex.trs (ab.exBs S)))⟩
 refine⟨_,rfl,_,rfl,(by show 2<=aj;decide),fun p hp=>?_⟩;have S:ab G (upd G p (.tup [.ref y,.int ((d+1:Nat))])):=ab.new hp;have tk:=rW (d:=d+1) (aa (H:=G) (a:=p)) (S _ _ U);generalize upd G p (.tup [.ref y,.int ((d+1:Nat))])=H1 at S tk ⊢;have D1:=O.up S;refine⟨_,rfl,kd,_,rfl,.inr ⟨_,qF g (d+1),p,.inl D1.hkd,rfl,cU.isIn 8 (eG _ _) tk,eG _ _,rfl⟩,_,rfl,?_⟩;cases I:be kv (qF g (d+1))with
 |some w' =>
  refine bD ?_;exact an (D1.more (by omega)) (ab.exBs S) (by rw[I,D1.cnt hX I])
 |none =>
  refine bT ?_;refine⟨_,rfl,_,rfl,_,rfl,X,hX,H0,t,l1,l2,l3,l4,kd,y,ts,kv,n,g,q,s,j,l,rfl,T,m,h0,Y.trans S,D1,S _ _ U,hz,by omega,fun al a4 H2 a5 D2 a6=>⟨(by show 1<=aj;decide),fun nl a7=>?_⟩⟩;have za:(askedF q j l g).length<=4:=aB (cQ _ _) z1;have S3:ab H2 (upd H2 nl (.lst [.non])):=ab.new a7;have ap:upd H2 nl (.lst [.non]) nl=some (.lst [.non]):=aa;generalize upd H2 nl (.lst [.non])=H3 at S3 ap ⊢;refine⟨al,nl,_,_,rfl,rfl,S3 _ _ a5,ap,by rw[ah];exact cV (aq (by show _+1<=1000;omega)),fun L a8=>?_⟩;have S4:ab H3 (upd H3 L (.lst ((askedF q j l g).map V.str++[.non]))):=ab.new a8;have x:upd H3 L (.lst ((askedF q j l g).map V.str++[.non])) L=some (.lst (((askedF q j l g).map some++[none]).map np)):=by
   rw[aa,av,jg];rfl
  generalize upd H3 L (.lst ((askedF q j l g).map V.str++[.non]))=H4 at S4 x ⊢;have D4:=(D2.up S3).up S4;have as:bA kd G H4:=(ab.exBs S).trs (a6.trs (ab.exBs (S3.trans S4)));have a9:L≠kd:=fun z=>by have:=D4.hkd;rw[<-z,x]at this;cases this
  generalize hA:((askedF q j l g).map some++[none]:List (Option Str))=A at x;have zA:A.length<=5:=by rw[<-hA,ba,ah];show _+1<=5;omega
  have eA:kindsF q s j l g=A.map (aR s):=by rw[<-hA];exact jV _ _ _ _ _
  rw[eA,jg]at eq;refine⟨L,rfl,⟨_,aw.of x⟩,?_⟩;refine bR (xs:=A.map np) (fun i σ H'=>∃(u:List (TK×V)) (N:Option V),σ=[some (.ref t),some (.ref kd),some (.ref y),some (.int ((d+1:Nat))),some (.int (1+((A.take i).map ((fun k=>gB (k.map fun sg=>cntM q s j l d (behF j l g sg))) ∘ aR s)).sum)),N]/\df X H' kd u q s j l (n+4+i * (5 * (1+lB d)))/\bA kd H4 H')
   ⟨a4,_,rfl,D4.more (by omega),bA.refl _ _⟩ (fun i σ H' _ ⟨_,_,_,_,ex⟩=>aw.of (ex _ _ x a9)) ?_ ?_
  ·rintro i v σ H5 hi ⟨aC,N,rfl,D5,C⟩;rw[cH]at hi;obtain⟨ask,J,rfl⟩:=k_.1 hi;have il:i<A.length:=(bN.1 J).1;have r:=as.trs C;have bu:(i+1) * (5 * (1+lB d))=i * (5 * (1+lB d))+5 * (1+lB d):=gJ _ _;have bn:(i+1) * (5 * (1+lB d))<=5 * (5 * (1+lB d)):=db _ (by omega);refine⟨_,rfl,_,rfl,_,rfl,_,rfl,_,rfl,_,rfl,X,hX,H0,t,l1,l2,l3,l4,kd,y,ts,ask,aC,_,d,g,q,s,j,l,rfl,by omega,T,m,h0,bA.sameH Y h0 r,D5,bA.ktd O.hkd r _ _ U,hz,by omega,fun sl bc H6 bd D6 bi=>?_⟩;refine⟨sl,_,bB d,rfl,bd,fun z bl=>?_,by have:=xT d (by omega);omega,by rw[ah,eF];omega,_,_,rfl,rfl,bc,some (np ask),?_,D6.more (by omega),C.trs bi⟩
   ·obtain⟨sg,_,rfl⟩:=aS.1 bl;exact jI z1 z2 d _
   ·have es:∀(f:Option Str->Int),1+((A.take (i+1)).map f).sum=1+((A.take i).map f).sum+f ask:=fun f=>by
     rw[take_snoc J,av,List.sum_append,bG,yI,qP,List.sum_nil,Int.add_zero,Int.add_assoc]
    rw[es];rfl
  ·rintro σ H5 ⟨aC,N,rfl,D5,C⟩;rw[ah]at D5;rw[ah,bf,<-eq];have m5:A.length * (5 * (1+lB d))<=5 * (5 * (1+lB d)):=db _ zA;have r:=as.trs C;refine⟨_,rfl,_,rfl,_,rfl,_,rfl,(by show 2<=aj;decide),fun p2 bm=>?_⟩;have S6:ab H5 (upd H5 p2 (.tup [.ref y,.int ((d+1:Nat))])):=ab.new bm;have a0:=rW (d:=d+1) (aa (H:=H5) (a:=p2)) (S6 _ _ (bA.ktd O.hkd r _ _ U));generalize upd H5 p2 (.tup [.ref y,.int ((d+1:Nat))])=H6 at S6 a0 ⊢;have D6:=D5.up S6;have L:=D6.len;refine⟨kd,_,rfl,.inr ⟨_,qF g (d+1),p2,D6.hkd,rfl,a0,eG _ _,by rw[sv];omega,rfl⟩,?_⟩;have D7:=D6.put (k:=qF g (d+1)) (v:=.int (cntM q s j l (d+1) g)) (.inr (.inl ⟨_,_,rfl⟩));exact an (D7.more (by omega)) ((r.trs (ab.exBs S6)).trs fun b o e nb=>by rw[ai nb];exact e) (by rw[iC,if_pos rfl])
def CH(K:Za)(sp_law_sizes:Sp)(sp_law_nth:Sp)(sp_law_after:Sp)(sp_law_part_signs:Sp):TS :=
 ar (aN (c9 (bh)) U6)
 (ar (aN (aL sp_law_part_signs (aX V0 V3)) U7)
 (ar (dW (bO K (Hd K (Hf K (aX V7 (aL sp_law_sizes (am V0 (am V1 (cg V2 V3 V4)))))))) (jM K 2 (bv U8 (bv U9 (jH)))) (ar (cP (Ex K "list" iz V6 (am (aL sp_law_nth (am V0 (am V1 (am (aL sp_law_after (am V0 (cg V1 V2 V8))) (aX (aH mS V4 (tC (.int 1))) (aH jx V5 V9)))))) bh)))
 (aN (aH Kx V5 V9) U5)))
 (ar (cP (KU K "list" Bm V6))
 (ar (cx (tB (CL V3)) (aW (bg (am (tC (.str "wait")) (am (G_ K (am (aH (jy K) V0 (tC (.int 1))) (am (Cr (rK K) V6 (fC) (gM (Mt (rU fun i=>.int (-i)) (tC (.int 1))))) bh))) (ay (aH (dY K) V6 (Mt (rU fun i=>.int (-i)) (tC (.int 1))))))))) (bC))
 (aW (bg (am (tC (.str "tell")) (am V3 (am (aH (dY K) V6 (tC (.int 0))) (am (G_ K (aX (aH (jy K) V0 (tC (.int 1))) (Cr (rK K) V6 (gM (tC (.int 1))) (fC)))) bh))))))))))
def Eb:List Str:=["told","known","face","ask","deep","number","some","signs","sign","size"]
def Fz(K:Za)(sp_law_asked:Sp)(sp_law_times:Sp)(sp_law_laid:Sp)(sp_law_sizes:Sp):TS :=
 ar (cx (aU (aH (mU K) V2 (bg (bh)))) (aW (bg (ay (tC (.str "blame"))))) (bC))
 (ar (cx (aU (aH v5 V4 (tC (.int 0)))) (aW (bg (ay (tC (.str "end"))))) (bC))
 (ar (aN (aH mS V4 (tC (.int 1))) U4)
 (ar (dW (bO K (aH kf (aL sp_law_asked (cg V0 V1 V2)) (c9 (ay (tC .non))))) U5 (ar (aN (aL sp_law_sizes (am V0 (am V1 (cg V2 V5 V3)))) U6)
 (ar (cx (aU (aH Dg V4 (aL sp_law_times (ay V6)))) (aW (aL sp_law_laid (am V0 (am V1 (am V2 (cg V5 V3 V4)))))) (bC))
 (aN (aH mS V4 (aL sp_law_times (ay V6))) U4))))
 (aW (tC .non)))))
def GO:List Str:=["told","known","face","deep","number","ask","sizes"]
mutual
def tK(K:Za)(H:Hp):DT->V->Prop
 |.k a,v=>v=kV a
 |.t l,v=>∃b xs,v=.ref b/\cF K H b xs/\TrCs K H l xs
 |.s _,_=>False
def TrCs(K:Za)(H:Hp):List DT->List V->Prop
 |[],vs=>vs=[]
 |k::r,vs=>∃v us,vs=v::us/\tK K H k v/\TrCs K H r us
end
mutual
theorem tK.kt{K:Za}(k:gF H f):∀(d:DT) (v:V),tK K H d v->tK K f d v
 |.k _,_,h=>h
 |.t l,v,h=>by
  obtain⟨b,a,e,t,r⟩:=h;exact⟨b,a,e,cF.kt k t,TrCs.kt k l a r⟩
 |.s _,_,h=>h
theorem TrCs.kt{K:Za}(k:gF H g):∀(l:List DT) (a:List V),TrCs K H l a->TrCs K g l a
 |[],_,h=>h
 |d::r,a,h=>by
  obtain⟨v,f,e,t,q⟩:=h;exact⟨v,f,e,tK.kt k d v t,TrCs.kt k r f q⟩
end
abbrev nq(K:Za)(H:Hp)(vs:List V)(ps:List DT):Prop:=Paired (fun v d=>tK K H d v) vs ps
theorem nq.kt{K:Za}(k:gF H a)(h:nq K H e f):nq K a e f:=Paired.mapP h fun v d r=>tK.kt k d v r
theorem nq.all{K:Za}:∀{e:List V}{f:List DT},nq K H e f->TrCs K H f e
 |_,_,.nil=>rfl
 |_,_,.cons a r=>⟨_,_,rfl,a,nq.all r⟩
theorem pM{K:Za}(s:Str):tK K H (gE s) (.str s):=rfl
def ub:Sg:=["blame"]
def vD:Sg:=["end"]
theorem G5{K:Za}:∀{a:Sg},cF K H b (a.map V.str)->tK K H (iL a) (.ref b):=fun{a} h=>by
 refine⟨b,_,rfl,h,?_⟩;clear h
 induction a with
 |nil=>rfl
 |cons s r e=>exact⟨_,_,rfl,pM s,e⟩
def sK(w:Str)(d:DT):DT:=.t [gE w,d]
def mN(J1:Zb):Option Str->List DT->DT
 |none,ps=>.t [gE "wait",.t (mD sK J1 (ps.take J1.length)),(ps[J1.length]?).getD (iL vD)]
 |some a,ps=>.t [gE "tell",gE a,(ps[0]?).getD (iL vD),.t (mD sK J1 (ps.drop 1))]
def vF(c:Sg->Int)(f:Sg->Int->DT):List Sg->Int->List DT
 |[],_=>[]
 |sg::r,n=>f sg (n % c sg)::vF c f r (n / c sg)
def KW(c:Sg->Int):List Sg->Int->Int
 |[],n=>n
 |sg::r,n=>KW c r (n / c sg)
theorem xI(c:Sg->Int)(f:Sg->Int->DT)(x:Sg):∀(l:List Sg) (n:Int),vF c f (l++[x]) n=vF c f l n++[f x (KW c l n % c x)]
 |[],n=>rfl
 |sg::r,n=>by
  show f sg (n % c sg)::vF c f (r++[x]) (n / c sg)=_;rw[xI c f x r];rfl
theorem Be(c:Sg->Int)(x:Sg):∀(l:List Sg) (n:Int),KW c (l++[x]) n=KW c l n / c x
 |[],n=>rfl
 |sg::r,n=>by
  show KW c (r++[x]) (n / c sg)=_;rw[Be c x r];rfl
theorem vE(c:Sg->Int)(f:Sg->Int->DT):∀(l:List Sg) (n:Int),(vF c f l n).length=l.length
 |[],_=>rfl
 |sg::r,n=>by
  show(vF c f r (n / c sg)).length+1=r.length+1;rw[vE c f r]
def jT(c:Option Str->Int):List (Option Str)->Int->Option (Option Str×Int)
 |[],_=>none
 |a::r,n=>if n<c a then some (a,n)else jT c r (n-c a)
def prodA(J0 J1 J2:Zb)(ds:List ao)(d:Nat)(J6:Zb)(a:Option Str):Int:=gB ((aR J1 a).map fun sg=>cntM J0 J1 J2 ds d (behF J2 ds J6 sg))
def laidM(J0 J1 J2:Zb)(ds:List ao)(d:Nat)(nx:List Str->Int->DT)(J6:Zb)(a:Option Str)(m:Int):DT :=
 mN J1 a (vF (fun sg=>cntM J0 J1 J2 ds d (behF J2 ds J6 sg)) (fun sg=>nx (behF J2 ds J6 sg)) (aR J1 a).reverse m).reverse
def nthM(J0 J1 J2:Zb)(ds:List ao):Nat->List Str->Int->DT
 |0,J6,_=>if J6=[]then iL ub else iL vD
 |d+1,J6,n=>if J6=[]then iL ub else if n=0 then iL vD else
  match jT (prodA J0 J1 J2 ds d J6) ((askedF J0 J2 ds J6).map some++[none]) (n-1)with
  |none=>iL vD
  |some (a,m)=>laidM J0 J1 J2 ds d (nthM J0 J1 J2 ds d) J6 a m
theorem HS(a e f:Zb)(g:List ao)(n:Int):∀d,nthM a e f g d [] n=iL ub
 |0=>by unfold nthM;rw[if_pos rfl]
 |d+1=>by unfold nthM;rw[if_pos rfl]
theorem HU{a:Zb}(h:a≠[]):∀d,nthM e f g i d a 0=iL vD
 |0=>by unfold nthM;rw[if_neg h]
 |d+1=>by unfold nthM;rw[if_neg h,if_pos rfl]
theorem FX{J6:Zb}{n:Int}{a:Option Str}{m:Int}(h:J6≠[])(j:n≠0)(k:jT (prodA e i f g d J6) ((askedF e f g J6).map some++[none]) (n-1)=some (a,m)):
  nthM e i f g (d+1) J6 n=laidM e i f g d (nthM e i f g d) J6 a m:=by
 unfold nthM;rw[if_neg h,if_neg j,k]
theorem xm:∀(l:List Int),(∀x∈l,0<x)->0<gB l:=by
 have a:∀(l:List Int) (b:Int),0<b->(∀x∈l,0<x)->0<l.foldl (· * ·) b:=by
  intro l
  induction l with
  |nil=>intro b e _;exact e
  |cons x l f=>intro b e h;exact f _ (xZ e (h x cW)) fun y g=>h y (c_ _ g)
 exact fun l h=>a l 1 (by decide) h
theorem o5:∀(l:List Int),(∀x∈l,0<=x)->0<=l.sum
 |[],_=>yh _
 |x::l,h=>by
  rw[qP];have:=h x cW;have:=o5 l fun y a=>h y (c_ _ a);omega
theorem jY(f g a:Zb)(e:List ao):∀(d:Nat) (h:Zb),0<cntM f g a e d h
 |0,_=>by unfold cntM;decide
 |d+1,h=>by
  unfold cntM;split
  ·decide
  ·have:=o5 ((kindsF f g a e h).map fun k=>gB (k.map fun i=>cntM f g a e d (behF a e h i))) fun x j=>by
    obtain⟨k,_,rfl⟩:=aS.1 j;exact qN (xm _ fun y l=>by
     obtain⟨i,_,rfl⟩:=aS.1 l;exact jY f g a e d _)
   omega
theorem nK(e f g:Zb)(h:List ao)(d:Nat)(i:Zb)(a:Option Str):0<prodA e f g h d i a:=xm _ fun y j=>by
 obtain⟨k,_,rfl⟩:=aS.1 j;exact jY e f g h d _
theorem Fe{a:Zb}{d:Nat}(h:a≠[]):cntM e i f g (d+1) a=1+(((askedF e f g a).map some++[none]).map (prodA e i f g d a)).sum:=by
 conv=>lhs;unfold cntM
 rw[if_neg h,jV,jg];rfl
structure KM(c:Option Str->Int)(A:List (Option Str))(n:Int)(i:Nat)(left:Int):Prop where
 eq:jT c A n=jT c (A.drop i) left
 lo:0<=left
 hi:left<((A.drop i).map c).sum
theorem KM.at{A:List (Option Str)}(h:KM c A n i left):∃a,A[i]?=some a/\A.drop i=a::A.drop (i+1):=by
 cases e:A[i]? with
 |none =>
  have:=h.hi;rw[List.drop_eq_nil_of_le (List.getElem?_eq_none_iff.1 e)]at this;have l:=h.lo;have:left<0:=this;omega
 |some a =>
  obtain⟨f,rfl⟩:=bN.1 e;exact⟨_,rfl,j_ f⟩
theorem KM.stop{A:List (Option Str)}{a:Option Str}(h:KM c A n i left)(e:A[i]?=some a)(l:left<c a):jT c A n=some (a,left):=by
 obtain⟨b,f,g⟩:=h.at;rw[e]at f;cases f;rw[h.eq,g];show(if left<c a then _ else _)=_
 rw[if_pos l]
theorem KM.next{A:List (Option Str)}{a:Option Str}(h:KM c A n i left)(e:A[i]?=some a)(l:¬left<c a):KM c A n (i+1) (left-c a):=by
 obtain⟨b,f,g⟩:=h.at;rw[e]at f;cases f;refine⟨?_,by omega,?_⟩
 ·rw[h.eq,g];show(if left<c a then _ else _)=_
  rw[if_neg l]
 ·have:=h.hi;rw[g,bG,qP]at this;omega
theorem Gw(a:List V):fX a none (some (-1))=a.take (a.length-1):=by
 unfold fX;have e:HT.sIx a.length 0 none=0:=rfl;have f:HT.sIx a.length a.length (some (-1))=a.length-1:=by unfold HT.sIx;simp;omega
 rw[e,f];rfl
theorem Ke{a:List V}{n:Nat}{v:V}(f:n+1=a.length)(h:a[n]?=some v):xU a (-1)=some v:=by
 have e:a=a.take n++[v]:=by rw[<-take_snoc h,f,bf]
 rw[e];exact IN _ _
theorem sG{a:Zb}{e:List DT}{d:DT}(h:e[a.length]?=some d):mN a none e=.t [gE "wait",.t (mD sK a (e.take a.length)),d]:=by
 show DT.t [_,_,(e[a.length]?).getD _]=_;rw[h];rfl
theorem sF{e:List DT}{a:Str}{d:DT}(h:e[0]?=some d):mN f (some a) e=.t [gE "tell",gE a,d,.t (mD sK f (e.drop 1))]:=by
 show DT.t [_,_,(e[0]?).getD _,_]=_;rw[h];rfl
theorem L_{x:Int}{b:Nat}(a:0<x)(h:bQ.Int.intBits x<=b)(e:b<=9000):KQ i x:=by
 refine⟨a,?_⟩;unfold bQ.Int.intBits at h;rw[if_neg (by simp;omega)]at h;omega
theorem GH{a:Option Str}(h:a∈(askedF e J2 ds J6).map some++[none]):∀f∈aR J1 a,f∈b0 e J1:=by
 have g:aR J1 a∈kindsF e J1 J2 ds J6:=by rw[jV];exact oC h
 exact(rQ g).2
theorem nM{H:Hp}{a:Ze}(h:∀t∈a,H t=none):ab H (ii H a f g):=fun b o e=>by
 rw[jE (fun z=>by rw[h b z]at e;cases e)];exact e
theorem xn{α β:Type}{R:α->β->Prop}:∀{e:List α}{g:List β},e.length=g.length->(∀(i:Nat) x y,e[i]?=some x->g[i]?=some y->R x y)->Paired R e g
 |[],[],_,_=>.nil
 |[],_::_,h,_=>by cases h
 |_::_,[],h,_=>by cases h
 |x::e,y::g,h,f=>.cons (f 0 x y rfl rfl) (xn (Nat.succ.inj h) fun i a b j k=>f (i+1) a b j k)
theorem vm{K:Za}{H:Hp}{a:Ze}{J1:Zb}{e:List DT}(l:a.Nodup)(m:∀t∈a,H t=none)(r:a.length=J1.length)(s:J1.length=e.length)(n:nq K H o e):nq K (ii H a (J1.map V.str) o) (a.map V.ref) (mD sK J1 e):=by
 refine xn (by rw[ah,List.length_zipWith];omega) fun i x y p f=>?_;obtain⟨t,h,rfl⟩:=bZ p;have u:i<a.length:=(bN.1 h).1;obtain⟨d,j⟩:∃d,e[i]?=some d:=⟨_,de (by omega)⟩;obtain⟨w,k⟩:∃w,J1[i]?=some w:=⟨_,de (by omega)⟩;obtain⟨v,q,g⟩:=Paired.get n j;rw[List.getElem?_zipWith,k,j]at f;injection f with f;rw[<-f];exact⟨t,_,rfl,.inl (qq l h (by rw[cH,k];rfl) q),_,_,rfl,pM w,_,_,rfl,tK.kt (ab.kt (nM m)) _ _ g,rfl⟩
def uB:Nat->Nat
 |0=>0
 |d+1=>9+30 * (1+lB d)+5 * uB d
inductive lF(K:Za)(D:Nat)(vs:List V)(H:Hp)(Q:VK)(E:XK):Prop
 |mk (X:TK×V->Prop) (hX:Kg X) (H0:Hp) (t l1 l2 l3 l4 kd fu:Addr) (ts:Ze) (kv:List (TK×V)) (n d:Nat) (number:Int) (J6 J0 J1 J2:Zb) (ds:List ao):(vs=[.ref t,.ref kd,.ref fu,.int (d:Nat),.int number])->(d<=D)->(hC H0 t l1 l2 l3 l4 ts J0 J1 J2 ds)->(aQ J0 J1 J2 ds)->(H0 kd=none)->(ab H0 H)->(df X H kd kv J0 J1 J2 ds n)->(H fu=some (.tup (J6.map V.str)))->(J6.length<=1000)->(0<=number)->(number<cntM J0 J1 J2 ds d J6)->(n+uB d<=8000000) ->
  (∀(v:V) (kv':List (TK×V)) (H':Hp),tK K H' (nthM J0 J1 J2 ds d J6 number) v->df X H' kd kv' J0 J1 J2 ds (n+uB d)->bA kd H H'->Q v H')->lF K D vs H Q E
inductive mQ(K:Za)(D:Nat)(vs:List V)(H:Hp)(Q:VK)(E:XK):Prop
 |mk (X:TK×V->Prop) (hX:Kg X) (H0:Hp) (t l1 l2 l3 l4 kd fu:Addr) (ts:Ze) (ask:Option Str) (kv:List (TK×V)) (n d:Nat) (number:Int) (J6 J0 J1 J2:Zb) (ds:List ao):(vs=[.ref t,.ref kd,.ref fu,np ask,.int ((d+1:Nat)),.int number])->(d<=D)->(d<=4)->(hC H0 t l1 l2 l3 l4 ts J0 J1 J2 ds)->(aQ J0 J1 J2 ds)->(H0 kd=none)->(ab H0 H)->(df X H kd kv J0 J1 J2 ds n)->(H fu=some (.tup (J6.map V.str)))->(J6.length<=1000)->(n+5 * (1+lB d)+5 * (1+uB d)<=8000000) ->
  (∀(v:V) (kv':List (TK×V)) (H':Hp),tK K H' (laidM J0 J1 J2 ds d (nthM J0 J1 J2 ds d) J6 ask number) v->df X H' kd kv' J0 J1 J2 ds (n+5 * (1+lB d)+5 * (1+uB d))->bA kd H H'->Q v H')->mQ K D vs H Q E
theorem Hr{K:Za}(h:mQ K D vs H Q E):CH K (iE K 4) (lF K D) (ju K) jr (bo Q) (start Eb vs) H:=by
 obtain⟨X,hX,H0,t,l1,l2,l3,l4,kd,fu,ts,ask,kv,n,d,number,B,A,J1,g,l,rfl,hD,d4,T,m,h0,S0,Dy,hf,hz,hn,k⟩:=h;have z1:=m.asks4;have z2:=m.says4;have z3:=m.rooms26;refine⟨(by show 0<=aj;decide),fun sm ap=>?_⟩;have S1:ab H (upd H sm (.lst [])):=ab.new ap;have bi:sm≠kd:=(ae Dy.hkd ap).symm;have b4:upd H sm (.lst []) sm=some (.lst []):=aa;generalize upd H sm (.lst [])=H1 at S1 b4 ⊢;refine⟨_,rfl,_,rfl,t,l1,l2,l3,l4,ts,ask,A,J1,g,l,rfl,(T.same S0).same S1,z2,fun pl us H2 b5 hP S2=>?_⟩;have as:=S1.trans S2;have D2:=Dy.up as;have zk:=eF J1 ask;have zu:us.length=J1.length+1:=by rw[Paired.length hP,zk]
 have cm:pl≠kd:=fun z=>by have:=D2.hkd;rw[<-z,b5]at this;cases this
 have b6:=S0.trans as;refine⟨_,rfl,_,rfl,_,rfl,_,rfl,_,rfl,_,rfl,X,hX,H0,t,l1,l2,l3,l4,kd,fu,ts,ask,kv,n,d,B,A,J1,g,l,rfl,d4,T,m,h0,b6,D2,as _ _ hf,hz,by omega,fun zl co H3 cs D3 bl=>⟨pl,zl,_,_,rfl,aw.of (bl _ _ b5 cm),aw.of cs,fun Dl C ct cv nd L=>?_⟩⟩;have c0:=S2 _ _ b4;have b7:=bl _ _ c0 bi;have L:C.length=J1.length+1:=by
  rw[L,ah,ah,ah,zu,zk];omega
 have b8:=gp.1 nd;have S4:ab H3 (upd (ii H3 C (us.map V.ref) (((aR J1 ask).map fun sg=>cntM A J1 g l d (behF g l B sg)).map V.int)) Dl (.lst (C.map V.ref))):=fun b o e=>by
  rw[ai (ae e ct)];exact nM cv _ _ e
 have cc:∀(j:Nat) (z:Addr) (sg:Sg),C[j]?=some z->(aR J1 ask)[j]?=some sg->∃s,us[j]?=some s/\upd (ii H3 C (us.map V.ref) (((aR J1 ask).map fun sg=>cntM A J1 g l d (behF g l B sg)).map V.int)) Dl (.lst (C.map V.ref)) z=some (.tup [.ref s,.int (cntM A J1 g l d (behF g l B sg))]):=fun j z sg ez es=>by
  obtain⟨s,hs,_⟩:=Paired.get hP es;refine⟨s,hs,?_⟩;rw[ai (fun q:z=Dl=>b8.1 (by rw[<-q];exact bU ez))];exact qq b8.2 ez (by rw[cH,hs];rfl) (by rw[cH,cH,es];rfl)
 have cd:upd (ii H3 C (us.map V.ref) (((aR J1 ask).map fun sg=>cntM A J1 g l d (behF g l B sg)).map V.int)) Dl (.lst (C.map V.ref)) Dl=some (.lst (C.map V.ref)):=aa;generalize upd (ii H3 C (us.map V.ref) (((aR J1 ask).map fun sg=>cntM A J1 g l d (behF g l B sg)).map V.int)) Dl (.lst (C.map V.ref))=H4 at S4 cc cd ⊢;refine⟨Dl,_,rfl,aw.of cd,fun rl ce=>?_⟩;rw[<-List.map_reverse];have S5:ab H4 (upd H4 rl (.lst (C.reverse.map V.ref))):=ab.new ce;have a7:upd H4 rl (.lst (C.reverse.map V.ref)) rl=some (.lst (C.reverse.map V.ref)):=aa;generalize upd H4 rl (.lst (C.reverse.map V.ref))=H5 at S5 a7 ⊢;have bm:=S4.trans S5;have D5:=D3.up bm;have cf:=bm _ _ b7;have c2:rl≠kd:=fun z=>by have:=D5.hkd;rw[<-z,a7]at this;cases this
 have c3:rl≠sm:=(ae (S4 _ _ b7) ce).symm;have bn:bA kd H2 H5:=bl.trs (ab.exBs bm);have a9:gF H2 H5:=bA.ktd D2.hkd bn;have c4:H0 sm=none:=S0.free ap;refine⟨rl,rfl,⟨_,aw.of a7⟩,?_⟩;refine bR (xs:=C.reverse.map V.ref) (fun i σ H'=>∃(c5:List (TK×V)) (vs:List V) (x8 x9:Option V),σ=[some (.ref t),some (.ref kd),some (.ref fu),some (np ask),some (.int ((d+1:Nat))),some (.int (KW (fun sg=>cntM A J1 g l d (behF g l B sg)) ((aR J1 ask).reverse.take i) number)),some (.ref sm),some (.ref pl),x8,x9]/\H' sm=some (.lst vs)/\nq K H' vs (vF (fun sg=>cntM A J1 g l d (behF g l B sg)) (fun sg=>nthM A J1 g l d (behF g l B sg)) ((aR J1 ask).reverse.take i) number)/\df X H' kd c5 A J1 g l (n+5 * (1+lB d)+i * (1+uB d))/\∀b o,H5 b=some o->b≠kd->b≠sm->H' b=some o)
  ⟨co,[],_,_,rfl,cf,.nil,D5.more (by omega),fun _ _ e _ _=>e⟩ (fun i σ H' _ ⟨_,_,_,_,_,_,_,_,ex⟩=>aw.of (ex _ _ a7 c2 c3)) ?_ ?_
 ·rintro i w σ H6 hw ⟨a8,p,x8,x9,rfl,O,aC,D6,a0⟩;obtain⟨z,G,rfl⟩:=bZ hw;have il:i<C.length:=by have:=(bN.1 G).1;rw[eK]at this;exact this
  rw[qV il]at G;obtain⟨sg,bu⟩:∃sg,(aR J1 ask)[C.length-1-i]?=some sg:=⟨_,de (by omega)⟩;have bc:(aR J1 ask).reverse[i]?=some sg:=by
   rw[qV (by omega),zk,<-L];exact bu
  obtain⟨s,hs,ez⟩:=cc _ _ _ G bu;obtain⟨dr,bd,dc⟩:=Paired.getL hP hs;rw[bu]at bd;cases bd;have bw:gF H5 H6:=fun b xs e=>a0 _ _ e (fun z=>by rw[z,D5.hkd]at e;cases e) (fun z=>by rw[z,cf]at e;cases e);have dd:=bw _ _ (S5 _ _ ez);have s6:=bw _ _ (a9 _ _ dc);have f6:=bw _ _ (a9 _ _ (as _ _ hf));have ch:ab H0 H6:=fun b o e=>a0 _ _ (bn _ _ (b6 _ _ e) (ae e h0)) (ae e h0) (ae e c4);have dv:(i+1) * (1+uB d)=i * (1+uB d)+(1+uB d):=gJ _ _;have dp:(i+1) * (1+uB d)<=5 * (1+uB d):=db _ (by omega);have cp:=jY A J1 g l d (behF g l B sg);refine⟨z,_,rfl,bP.of dd,rfl,_,_,rfl,_,_,rfl,rfl,?_⟩;refine⟨_,rfl,.inl ⟨rfl,_,aw.of O⟩,_,rfl,_,rfl,_,rfl,_,rfl,_,rfl,_,rfl,X,hX,H0,t,l1,l2,l3,l4,kd,fu,s,ts,a8,_,sg,B,A,J1,g,l,rfl,T,m,h0,ch,D6,f6,s6,hz,by omega,fun u di H7 hu D7 I=>?_⟩;refine⟨_,rfl,_,_,rfl,rfl,_,rfl,_,rfl,_,_,rfl,rfl,cp,X,hX,H0,t,l1,l2,l3,l4,kd,u,ts,di,_,d,KW (fun sg=>cntM A J1 g l d (behF g l B sg)) ((aR J1 ask).reverse.take i) number % cntM A J1 g l d (behF g l B sg),behF g l B sg,A,J1,g,l,?_,hD,T,m,h0,bA.sameH ch h0 I,D7,hu,f8 (by omega) hz,oF _ (by omega),oE _ cp,by omega,fun v8 dm U t8 D8 bz=>?_⟩
  ·show[V.ref t,V.ref kd,V.ref u,V.int (((d+1:Nat):Int)-1),_]=_;rw[show(((d+1:Nat):Int)-1)=(d:Nat) by omega]
  have bI:=bz _ _ (I _ _ O bi) bi;have kt:gF U (upd U sm (.lst (p++[v8]))):=fg bI;have ci:gF H6 U:=fun b xs e=>bA.ktd D7.hkd bz _ _ (bA.ktd D6.hkd I _ _ e);have zv:p.length<=1000:=by
   rw[Paired.length aC,vE,aJ];omega
  refine⟨sm,_,_,rfl,rfl,bI,aq zv,?_⟩;refine⟨_,rfl,_,rfl,_,_,rfl,rfl,L_ cp (jI z1 z2 d _) (by have:=xT d d4;omega),dm,p++[v8],some (.ref s),some (.int (cntM A J1 g l d (behF g l B sg))),?_,aa,?_,(D8.more (m:=n+5 * (1+lB d)+(i+1) * (1+uB d)) (by omega)).cell bI,fun b o e n1 n2=>?_⟩
  ·rw[take_snoc bc,Be];rfl
  ·rw[take_snoc bc,xI];exact gl (nq.kt (fun b xs e=>kt _ _ (ci _ _ e)) aC) (tK.kt kt _ _ t8)
  ·rw[ai n2];exact bz _ _ (I _ _ (a0 _ _ e n1 n2) n1) n1
 ·rintro σ H6 ⟨a8,p,x8,x9,rfl,O,aC,D6,a0⟩;have el:(C.reverse.map V.ref).length=(aR J1 ask).reverse.length:=by rw[ah,eK,eK,L,zk]
  rw[el,bf]at aC;rw[ah,eK,L]at D6;have m5:(J1.length+1) * (1+uB d)<=5 * (1+uB d):=db _ (by omega);have D6:=D6.more (m:=n+5 * (1+lB d)+5 * (1+uB d)) (by omega);have zd:(vF (fun sg=>cntM A J1 g l d (behF g l B sg)) (fun sg=>nthM A J1 g l d (behF g l B sg)) (aR J1 ask).reverse number).length=J1.length+1:=by rw[vE,eK,zk]
  have dn:bA kd H H6:=fun b o e nb=>a0 _ _ (bn _ _ (as _ _ e) nb) nb (ae e ap);refine⟨_,rfl,.inl ⟨rfl,_,aw.of O⟩,sm,_,rfl,rfl,O,?_⟩;have kt:gF H6 (upd H6 sm (.lst p.reverse)):=fg O;have D7:=D6.cell (ys:=p.reverse) O;have an:upd H6 sm (.lst p.reverse) sm=some (.lst p.reverse):=aa;have I:bA kd H (upd H6 sm (.lst p.reverse)):=fun b o e nb=>by rw[ai (ae e ap)];exact dn _ _ e nb
  have cl:ab H0 (upd H6 sm (.lst p.reverse)):=bA.sameH S0 h0 I;have J:nq K (upd H6 sm (.lst p.reverse)) p.reverse _:=Paired.rev (nq.kt kt aC);generalize upd H6 sm (.lst p.reverse)=H7 at D7 an I cl J ⊢;have T7:=T.same cl;unfold laidM at k;generalize(vF (fun sg=>cntM A J1 g l d (behF g l B sg)) (fun sg=>nthM A J1 g l d (behF g l B sg)) (aR J1 ask).reverse number)=dg at zd J k;have zp:dg.reverse.length=J1.length+1:=by rw[eK,zd]
  have zv:p.reverse.length=J1.length+1:=by rw[Paired.length J,zp]
  generalize dg.reverse=ps at zp J k;generalize p.reverse=f at an J zv;refine⟨_,rfl,_,rfl,?_⟩;cases ask with
  |none =>
   refine bT ?_;obtain⟨v0,a4⟩:∃v,f[J1.length]?=some v:=⟨_,de (by omega)⟩;obtain⟨d0,bS,b1⟩:=Paired.getL J a4;refine⟨_,rfl,t,_,1,.ref l2,rfl,rfl,bP.of T7.t,rfl,_,rfl,_,rfl,_,rfl,sm,_,rfl,aw.of an,fun c1 b2=>?_⟩;rw[show fX f none (some (-1))=f.take J1.length by rw[Gw,zv];rfl];have S8:ab H7 (upd H7 c1 (.lst (f.take J1.length))):=ab.new b2;have c8:upd H7 c1 (.lst (f.take J1.length)) c1=some (.lst (f.take J1.length)):=aa;generalize upd H7 c1 (.lst (f.take J1.length))=U at S8 c8 ⊢;refine⟨l2,c1,_,_,rfl,aw.of (S8 _ _ T7.a2),aw.of c8,fun Y x a5 G b3 al=>?_⟩;have M:=gp.1 b3;have al:x.length=J1.length:=by rw[al,ah,aJ];omega
   have lp:=vm (K:=K) (J1:=J1) M.2 G al (by rw[aJ];omega) (Paired.takeP J1.length (nq.kt (ab.kt S8) J));have S9:ab U (upd (ii U x (J1.map V.str) (f.take J1.length)) Y (.tup (x.map V.ref))):=fun b o e=>by
    rw[ai (ae e a5)];exact nM G _ _ e
   have a6:nq K (upd (ii U x (J1.map V.str) (f.take J1.length)) Y (.tup (x.map V.ref))) (x.map V.ref) (mD sK J1 (ps.take J1.length)):=nq.kt (ab.kt (ab.new (by rw[jE M.1];exact a5))) lp;have d9:upd (ii U x (J1.map V.str) (f.take J1.length)) Y (.tup (x.map V.ref)) Y=some (.tup (x.map V.ref)):=aa;generalize upd (ii U x (J1.map V.str) (f.take J1.length)) Y (.tup (x.map V.ref))=H9 at S9 a6 d9 ⊢;have N:=S8.trans S9;refine⟨_,rfl,_,rfl,sm,_,-1,v0,rfl,rfl,aw.of (N _ _ an),Ke zv.symm a4,(by show 3<=aj;decide),fun r hr=>?_⟩;have y:ab H9 (upd H9 r (.tup [.str "wait",.ref Y,v0])):=ab.new hr;refine k _ a8 _ ?_ ((D7.up N).up y) (I.trs (ab.exBs (N.trans y)));rw[sG bS];exact⟨r,_,rfl,.inl aa,_,_,rfl,pM _,_,_,rfl,⟨Y,_,rfl,.inl (y _ _ d9),nq.all (nq.kt (ab.kt y) a6)⟩,_,_,rfl,tK.kt (ab.kt (N.trans y)) _ _ b1,rfl⟩
  |some a =>
   refine bD ?_;obtain⟨v0,a4⟩:∃v,f[0]?=some v:=⟨_,de (by omega)⟩;obtain⟨d0,bS,b1⟩:=Paired.getL J a4;refine⟨_,rfl,_,rfl,sm,_,0,v0,rfl,rfl,aw.of an,ca (j:=0) a4,_,rfl,t,_,1,.ref l2,rfl,rfl,bP.of T7.t,rfl,_,rfl,_,rfl,sm,_,rfl,aw.of an,fun c1 b2=>?_⟩;rw[show fX f (some 1) none=f.drop 1 from DO _ 1];have S8:ab H7 (upd H7 c1 (.lst (f.drop 1))):=ab.new b2;have c8:upd H7 c1 (.lst (f.drop 1)) c1=some (.lst (f.drop 1)):=aa;generalize upd H7 c1 (.lst (f.drop 1))=U at S8 c8 ⊢;refine⟨l2,c1,_,_,rfl,aw.of (S8 _ _ T7.a2),aw.of c8,fun Y x a5 G b3 al=>?_⟩;have M:=gp.1 b3;have al:x.length=J1.length:=by rw[al,ah,dS];omega
   have lp:=vm (K:=K) (J1:=J1) M.2 G al (by rw[dS];omega) (Paired.dropP 1 (nq.kt (ab.kt S8) J));have S9:ab U (upd (ii U x (J1.map V.str) (f.drop 1)) Y (.tup (x.map V.ref))):=fun b o e=>by
    rw[ai (ae e a5)];exact nM G _ _ e
   have a6:nq K (upd (ii U x (J1.map V.str) (f.drop 1)) Y (.tup (x.map V.ref))) (x.map V.ref) (mD sK J1 (ps.drop 1)):=nq.kt (ab.kt (ab.new (by rw[jE M.1];exact a5))) lp;have d9:upd (ii U x (J1.map V.str) (f.drop 1)) Y (.tup (x.map V.ref)) Y=some (.tup (x.map V.ref)):=aa;generalize upd (ii U x (J1.map V.str) (f.drop 1)) Y (.tup (x.map V.ref))=H9 at S9 a6 d9 ⊢;have N:=S8.trans S9;refine⟨(by show 4<=aj;decide),fun r hr=>?_⟩;have y:ab H9 (upd H9 r (.tup [.str "tell",.str a,v0,.ref Y])):=ab.new hr;refine k _ a8 _ ?_ ((D7.up N).up y) (I.trs (ab.exBs (N.trans y)));rw[sF bS];exact⟨r,_,rfl,.inl aa,_,_,rfl,pM _,_,_,rfl,pM _,_,_,rfl,tK.kt (ab.kt (N.trans y)) _ _ b1,_,_,rfl,⟨Y,_,rfl,.inl (y _ _ d9),nq.all (nq.kt (ab.kt y) a6)⟩,rfl⟩
open Builtin.Int (intBits)
theorem Jx{K:Za}{D:Nat}{O:Sp}(d5:D<=4)(hL:∀m,D=m+1->O=mQ K m)(h:lF K D vs H Q E):Fz K (kL K) sp_product O (iE K 4) (bo Q) (start GO vs) H:=by
 obtain⟨X,hX,H0,t,l1,l2,l3,l4,kd,fu,ts,kv,n,d,number,f,l,B,g,j,rfl,hD,T,m,U,S0,Dy,hf,hz,n0,nl,hn,k⟩:=h;have z1:=m.asks4;have z2:=m.says4;refine⟨_,rfl,(by show 0<=aj;decide),fun e he=>⟨iL f,iL [],aZ (bP.of (kp hf he)),aZ (bP.of aa),by rw[bL];decide,by rw[bL];decide,_,rfl,?_⟩⟩;rw[fI];have J:ab H (upd H e (.tup [])):=ab.new he;generalize upd H e (.tup [])=Y at J ⊢;have De:=Dy.up J;by_cases o:f=[]
 ·rw[zzr1 o];refine bT ⟨(by show 1<=aj;decide),fun r hr=>?_⟩;have S1:ab Y (upd Y r (.tup [.str "blame"])):=ab.new hr;refine k _ kv _ ?_ ((De.up S1).more (by omega)) (ab.exBs (J.trans S1));rw[o,HS];exact G5 (.inl aa)
 rw[zzr0 o];refine bD ?_;refine⟨_,rfl,rfl,_,rfl,?_⟩;by_cases x:number=0
 ·rw[zzr1 (by rw[x])];refine bT ⟨(by show 1<=aj;decide),fun r hr=>?_⟩;have S1:ab Y (upd Y r (.tup [.str "end"])):=ab.new hr;refine k _ kv _ ?_ ((De.up S1).more (by omega)) (ab.exBs (J.trans S1));rw[x,HU o];exact G5 (.inl aa)
 rw[zzr0 (by intro z;injection z with z;exact x z)];refine bD ?_
 match d,hD,hn,nl,k with
 |0,_,_,nl,_ =>
  unfold cntM at nl;omega
 |d+1,hD,hn,nl,k =>
 obtain⟨w,rfl⟩:∃w,D=w+1:=⟨D-1,by omega⟩;cases hL w rfl;rw[Fe o]at nl;have nb:uB (d+1)=9+30 * (1+lB d)+5 * uB d:=rfl;have fe:=J _ _ hf;have L:=S0.trans J;refine⟨_,rfl,_,_,rfl,rfl,?_⟩;refine⟨_,rfl,_,rfl,_,rfl,X,hX,H0,t,l1,l2,l3,l4,kd,fu,ts,kv,n,f,l,B,g,j,rfl,T,m,U,L,De,fe,hz,by omega,fun al a4 H2 a5 D2 a6=>⟨(by show 1<=aj;decide),fun p a7=>?_⟩⟩;have za:(askedF l g j f).length<=4:=aB (cQ _ _) z1;have S3:ab H2 (upd H2 p (.lst [.non])):=ab.new a7;have an:upd H2 p (.lst [.non]) p=some (.lst [.non]):=aa;generalize upd H2 p (.lst [.non])=H3 at S3 an ⊢;refine⟨al,p,_,_,rfl,rfl,S3 _ _ a5,an,by rw[ah];exact cV (aq (by show _+1<=1000;omega)),fun N a8=>?_⟩;have S4:ab H3 (upd H3 N (.lst ((askedF l g j f).map V.str++[.non]))):=ab.new a8;have q:upd H3 N (.lst ((askedF l g j f).map V.str++[.non])) N=some (.lst (((askedF l g j f).map some++[none]).map np)):=by
  rw[aa,av,jg];rfl
 generalize upd H3 N (.lst ((askedF l g j f).map V.str++[.non]))=H4 at S4 q ⊢;have D4:=(D2.up S3).up S4;have ap:bA kd Y H4:=a6.trs (ab.exBs (S3.trans S4));have a9:N≠kd:=fun z=>by have:=D4.hkd;rw[<-z,q]at this;cases this
 generalize hA:((askedF l g j f).map some++[none]:List (Option Str))=A at q nl;have zA:A.length<=5:=by rw[<-hA,ba,ah];show _+1<=5;omega
 refine⟨N,rfl,⟨_,aw.of q⟩,?_⟩;refine bR (xs:=A.map np) (fun i σ H'=>∃(bc:List (TK×V)) (left:Int) (x5 x6:Option V),σ=[some (.ref t),some (.ref kd),some (.ref fu),some (.int ((d+1:Nat))),some (.int left),x5,x6]/\KM (prodA l B g j d f) A (number-1) i left/\df X H' kd bc l B g j (n+4+i * (5 * (1+lB d)))/\bA kd H4 H')
  ⟨a4,number-1,_,_,rfl,⟨rfl,by omega,by show number-1<(A.map _).sum;omega⟩,D4.more (by omega),bA.refl _ _⟩ (fun i σ H' _ ⟨_,_,_,_,_,_,_,ex⟩=>aw.of (ex _ _ q a9)) ?_ ?_
 ·rintro i v σ H5 hi ⟨as,left,x5,x6,rfl,pk,D5,M⟩;rw[cH]at hi;obtain⟨ask,s,rfl⟩:=k_.1 hi;have il:i<A.length:=(bN.1 s).1;have C:=ap.trs M;have bw:(i+1) * (5 * (1+lB d))=i * (5 * (1+lB d))+5 * (1+lB d):=gJ _ _;have bu:(i+1) * (5 * (1+lB d))<=5 * (5 * (1+lB d)):=db _ (by omega);have bd:=bA.sameH L U C;refine⟨_,rfl,_,rfl,_,rfl,_,rfl,_,rfl,X,hX,H0,t,l1,l2,l3,l4,kd,fu,ts,ask,as,_,d,f,l,B,g,j,rfl,by omega,T,m,U,bd,D5,bA.ktd De.hkd C _ _ fe,hz,by omega,fun sl aC H6 a0 D6 bi=>?_⟩;have G:∀z∈(aR B ask).map (fun sg=>cntM l B g j d (behF g j f sg)),intBits z<=bB d:=fun z bl=>by
   obtain⟨sg,_,rfl⟩:=aS.1 bl;exact jI z1 z2 d _
  have b4:=xT d (by omega);have I:=M.trs bi;have u:=ap.trs I;refine⟨_,rfl,_,rfl,sl,_,bB d,rfl,a0,G,by omega,by rw[ah,eF];omega,_,_,rfl,rfl,_,rfl,?_⟩;by_cases y:left<prodA l B g j d f ask
  ·rw[zzr1 (by exact y)];refine bT ?_;have e:=pk.stop s y;rw[<-hA]at e;refine⟨_,rfl,_,rfl,_,rfl,_,rfl,_,rfl,_,rfl,X,hX,H0,t,l1,l2,l3,l4,kd,fu,ts,ask,aC,_,d,left,f,l,B,g,j,rfl,by omega,by omega,T,m,U,bA.sameH L U u,D6,bA.ktd De.hkd u _ _ fe,hz,by omega,fun v7 bm H7 t7 D7 bn=>?_⟩;refine k v7 bm H7 ?_ (D7.more (by omega)) ((ab.exBs J).trs (u.trs bn));rw[FX o x e];exact t7
  ·rw[zzr0 (by exact y)];refine bD ?_;exact⟨_,rfl,_,rfl,sl,_,bB d,rfl,a0,G,by omega,by rw[ah,eF];omega,_,_,rfl,rfl,aC,_,_,_,rfl,pk.next s y,D6.more (by omega),I⟩
 ·rintro σ H5 ⟨as,left,x5,x6,rfl,pk,D5,M⟩;obtain⟨a,ea,_⟩:=pk.at;have:=(bN.1 ea).1;rw[ah]at this;omega
inductive Tr where
 |bl
 |en
 |nd (a:Option Str) (ps:List Tr)
mutual
def Tr.dt(J1:Zb):Tr->DT
 |.bl=>iL ub
 |.en=>iL vD
 |.nd a ps=>mN J1 a (Tr.dts J1 ps)
def Tr.dts(J1:Zb):List Tr->List DT
 |[]=>[]
 |t::r=>Tr.dt J1 t::Tr.dts J1 r
end
theorem Tr.dts_map(a:Zb):∀l:List Tr,Tr.dts a l=l.map (Tr.dt a)
 |[]=>rfl
 |t::r=>by rw[Tr.dts,Tr.dts_map a r];rfl
mutual
def Tr.wf(J0 J1:Zb):Tr->Prop
 |.bl=>True
 |.en=>True
 |.nd a ps=>ps.length=J1.length+1/\(∀w,a=some w->w∈J0)/\Tr.wfs J0 J1 ps
def Tr.wfs(J0 J1:Zb):List Tr->Prop
 |[]=>True
 |t::r=>Tr.wf J0 J1 t/\Tr.wfs J0 J1 r
end
theorem Tr.wfs_mem{a e:Zb}:∀{l:List Tr},Tr.wfs a e l↔∀t∈l,Tr.wf a e t
 |[]=>by simp[Tr.wfs]
 |t::r=>by
  rw[Tr.wfs,Tr.wfs_mem (l:=r)];simp
mutual
def Tr.hgt:Tr->Nat
 |.bl=>0
 |.en=>0
 |.nd _ ps=>Tr.hgts ps+1
def Tr.hgts:List Tr->Nat
 |[]=>0
 |t::r=>max t.hgt (Tr.hgts r)
end
def kS(c:Sg->Int)(f:Sg->Int->Tr):List Sg->Int->List Tr
 |[],_=>[]
 |sg::r,n=>f sg (n % c sg)::kS c f r (n / c sg)
def nthT(J0 J1 J2:Zb)(ds:List ao):Nat->List Str->Int->Tr
 |0,J6,_=>if J6=[]then .bl else .en
 |d+1,J6,n=>if J6=[]then .bl else if n=0 then .en else
  match jT (prodA J0 J1 J2 ds d J6) ((askedF J0 J2 ds J6).map some++[none]) (n-1)with
  |none=>.en
  |some (a,m)=>.nd a (kS (fun sg=>cntM J0 J1 J2 ds d (behF J2 ds J6 sg)) (fun sg=>nthT J0 J1 J2 ds d (behF J2 ds J6 sg)) (aR J1 a).reverse m).reverse
theorem xJ(c:Sg->Int)(f:Sg->Int->Tr)(g:Tr->DT):∀(l:List Sg) (n:Int),(kS c f l n).map g=vF c (fun sg n=>g (f sg n)) l n
 |[],_=>rfl
 |sg::r,n=>by rw[kS,bG,xJ c f g r];rfl
theorem rV(c:Sg->Int)(f:Sg->Int->Tr):∀(l:List Sg) (n:Int),(kS c f l n).length=l.length
 |[],_=>rfl
 |sg::r,n=>by
  show(kS c f r (n / c sg)).length+1=r.length+1;rw[rV c f r]
theorem xK{f:Sg->Int->Tr}{P:Tr->Prop}(h:∀sg m,P (f sg m)):∀(l:List Sg) (n:Int),∀x∈kS c f l n,P x
 |[],_,x,hx=>by cases hx
 |sg::r,n,x,hx=>by
  rcases cu.1 hx with rfl|hx
  ·exact h _ _
  ·exact xK h r _ x hx
theorem EO(j f g:Zb)(h:List ao):∀(d:Nat) (i:Zb) (n:Int),(nthT j f g h d i n).dt f=nthM j f g h d i n
 |0,i,n=>by
  unfold nthT nthM;split<;>rfl
 |d+1,i,n=>by
  unfold nthT nthM;by_cases k:i=[]
  ·rw[if_pos k,if_pos k];rfl
  rw[if_neg k,if_neg k];by_cases l:n=0
  ·rw[if_pos l,if_pos l];rfl
  rw[if_neg l,if_neg l];cases jT (prodA j f g h d i) ((askedF j g h i).map some++[none]) (n-1)with
  |none=>rfl
  |some p =>
   obtain⟨a,m⟩:=p;show mN f a (Tr.dts f _)=laidM _ _ _ _ _ _ _ _ _;unfold laidM;rw[Tr.dts_map,List.map_reverse,xJ];have e:(fun(o:Sg) (n:Int)=>Tr.dt f (nthT j f g h d (behF g h i o) n))=fun o=>nthM j f g h d (behF g h i o):=by
    funext o m;exact EO j f g h d _ m
   rw[e]
theorem Bp:∀{A:List (Option Str)}{n:Int}{a:Option Str}{m:Int},jT c A n=some (a,m)->a∈A
 |[],_,_,_,h=>by cases h
 |b::r,n,a,m,h=>by
  unfold jT at h;split at h
  ·injection h with h;injection h with h _;rw[<-h];exact cW
  ·exact c_ _ (Bp h)
theorem GG{w:Str}(h:some w∈(askedF a g i j).map some++[none]):w∈a:=by
 rcases bM.1 h with h|h
 ·obtain⟨x,f,e⟩:=aS.1 h;injection e with e;rw[<-e];exact(fU.1 f).1
 ·cases dR.1 h
theorem EN(g f i:Zb)(j:List ao):∀(d:Nat) (k:Zb) (n:Int),(nthT g f i j d k n).wf g f/\(nthT g f i j d k n).hgt<=d
 |0,k,n=>by
  unfold nthT;split<;>exact⟨trivial,aD _⟩
 |d+1,k,n=>by
  unfold nthT;split
  ·exact⟨trivial,dL _⟩
  ·split
   ·exact⟨trivial,dL _⟩
   ·split
    ·exact⟨trivial,dL _⟩
    ·next a m e =>
     have o:∀t∈(kS (fun s=>cntM g f i j d (behF i j k s)) (fun s=>nthT g f i j d (behF i j k s)) (aR f a).reverse m).reverse,t.wf g f/\t.hgt<=d:=fun t p=>xK (P:=fun t=>t.wf g f/\t.hgt<=d) (fun s m=>EN g f i j d _ m) _ _ t (List.mem_reverse.1 p);have u:∀l:List Tr,(∀t∈l,t.hgt<=d)->Tr.hgts l<=d:=fun l=>by
      induction l with
      |nil=>exact fun _=>dL _
      |cons t r v =>
       intro h;have z:=h t cW;have A:=v fun q x=>h q (c_ _ x);show max t.hgt (Tr.hgts r)<=d;omega
     refine⟨⟨?_,fun w y=>?_,Tr.wfs_mem.2 fun t p=>(o t p).1⟩,?_⟩
     ·rw[eK,rV,eK,eF]
     ·rw[y]at e;exact GG (Bp e)
     ·exact uE (u _ fun t p=>(o t p).2)
theorem nq.of{K:Za}:∀{e:List DT}{a:List V},TrCs K H e a->nq K H a e
 |[],a,h=>by
  have h:a=[]:=h;rw[h];exact .nil
 |p::e,a,h=>by
  obtain⟨v,i,rfl,f,g⟩:=h;exact .cons f (nq.of g)
open Builtin.Int (intBits)
theorem Go{α:Type}(c:α->Int)(l:List α):l.foldl (fun b x=>b * c x) 1=gB (l.map c):=by unfold gB;rw[List.foldl_map]
theorem xO{a b:Int}{n:Nat}(e:0<=a)(f:a<=b)(h:intBits b<=n):intBits a<=n:=by
 rw[intBits_le_iff]at h ⊢;omega
open Builtin.Int (intBits)
def jL:Option Int->V
 |none=>.non
 |some i=>.int i
theorem BG:∀{l:List Tr}{t:Tr},t∈l->t.hgt<=Tr.hgts l
 |x::l,t,h=>by
  show t.hgt<=max x.hgt (Tr.hgts l);rcases cu.1 h with rfl|h
  ·omega
  ·have:=BG h;omega
def Dk(c:Sg->Int):List Sg->Int
 |[]=>1
 |sg::r=>Dk c r * c sg
theorem qd(c:Sg->Int)(l:List Sg):Dk c l.reverse=gB (l.map c):=by
 rw[<-Go];have a:∀l:List Sg,Dk c l=l.foldr (fun e b=>b * c e) 1:=fun l=>by
  induction l with
  |nil=>rfl
  |cons x r f=>rw[Dk,f];rfl
 rw[a,List.foldr_reverse]
theorem ED{c:Sg->Int}(a:∀sg,0<c sg):∀l,0<Dk c l
 |[]=>by show(0:Int)<1;decide
 |sg::r=>xZ (ED a r) (a sg)
theorem Bt(a e f:Zb)(g:List ao)(n:Int):∀d,nthT a e f g d [] n=.bl
 |0=>by unfold nthT;rw[if_pos rfl]
 |d+1=>by unfold nthT;rw[if_pos rfl]
theorem FW{e:Zb}{n:Int}{a:Option Str}{m:Int}(h:e≠[])(l:n≠0)(o:jT (prodA i j f g d e) ((askedF i f g e).map some++[none]) (n-1)=some (a,m)):
  nthT i j f g (d+1) e n=.nd a (kS (fun k=>cntM i j f g d (behF f g e k)) (fun k=>nthT i j f g d (behF f g e k)) (aR j a).reverse m).reverse:=by
 unfold nthT;rw[if_neg h,if_neg l,o]
open Builtin.Int (intBits)
def BH(a b:Zb)(d:Nat):TK:=.t [eT a,eT b,.k (some (.inl (d:Int)))]
theorem JV(h:BH a b d=BH g i j):a=g/\b=i/\d=j:=by
 unfold BH at h;injection h with h;injection h with k f;injection f with f e;injection e with e _;injection e with e;injection e with e;injection e with e;exact⟨eP k,eP f,by omega⟩
theorem kU(a b:Zb)(d:Nat):(BH a b d).depth<=8:=by
 show max (eT a).depth (max (eT b).depth (max 0 0))+1<=8;rw[fA,fA];decide
theorem DE{H:Hp}{p u w:Addr}{a b:Zb}{d:Nat}(e:H p=some (.tup [.ref u,.ref w,.int (d:Nat)]))(f:H u=some (.tup (a.map V.str)))(g:H w=some (.tup (b.map V.str))):cU H (BH a b d) (.ref p):=by
 unfold BH cU;refine⟨p,_,rfl,e,?_⟩;unfold TKAts;refine⟨_,_,rfl,SignAt.tk f,?_⟩;unfold TKAts;refine⟨_,_,rfl,SignAt.tk g,?_⟩;unfold TKAts;exact⟨_,_,rfl,by unfold cU;rfl,by unfold TKAts;rfl⟩
def exH(H:Hp)(P:Addr->Prop):Hp:=fun b=>open Classical in if P b then none else H b
theorem rT{P:Addr->Prop}{b:Addr}(h:P b):exH H P b=none:=by unfold exH;rw[if_pos h]
theorem qz{P:Addr->Prop}{b:Addr}(h:¬P b):exH H P b=H b:=by unfold exH;rw[if_neg h]
theorem BM:ab (exH H P) H:=fun b o e=>by
 by_cases c:P b
 ·rw[rT c]at e;cases e
 ·rw[qz c]at e;exact e
theorem vC{P:Addr->Prop}(S:ab a H)(h:∀b,P b->a b=none):ab a (exH H P):=fun b o e=>by
 rw[qz (fun c=>by rw[h b c]at e;cases e)];exact S _ _ e
def JS(kd:Addr)(kv:List (TK×V))(b:Addr):Prop:=b=kd∨∃k,(k,V.ref b)∈kv
def Ie(kd cd:Addr)(kv:List (TK×V))(b:Addr):Prop:=b=cd∨JS kd kv b
section
variable{Cm Ck Cd:Addr}{H0 H1 H:Hp}{x sl y M kd cd:Addr}{us:Ze}{kv cv:List (TK×V)}{J0 J1 J2:Zb}{ds:List ao}{n:Nat}
theorem Co.up(h:Co Cm Ck H0 y M kd J0 J1 J2 ds)(S:ab H0 H1)(e:H1 kd=none):Co Cm Ck H1 y M kd J0 J1 J2 ds:=by
 obtain⟨a,fs,g,r⟩:=h.ob;exact⟨h.mach.same S,⟨a,fs,S _ _ g,r⟩,e⟩
theorem vX.up(h:vX Cm Ck Cd H0 x sl y M kd cd us J0 J1 J2 ds)(S:ab H0 H1)(e:H1 kd=none)(a:H1 cd=none):vX Cm Ck Cd H1 x sl y M kd cd us J0 J1 J2 ds:=by
 obtain⟨f,fs,g,r⟩:=h.ob;exact⟨h.ks.up S e,⟨f,fs,S _ _ g,r⟩,S _ _ h.hsl,ki.kt (ab.kt S) h.sg,a,h.ne⟩
theorem fj.noneP(h:fj H0 H kd kv J0 J1 J2 ds n)(e:H0 kd=none):∀b,JS kd kv b->H0 b=none
 |_,.inl z=>by rw[z];exact e
 |_,.inr ⟨k,a⟩=>by
  obtain⟨_,_,_,q,_,r,_⟩:=h.kok _ a;injection q with _ q;injection q with q;rw[q];exact r
theorem dJ.noneP(h:dJ H0 H kd cd kv cv J0 J1 J2 ds n)(e:H0 kd=none)(a:H0 cd=none):∀b,Ie kd cd kv b->H0 b=none
 |_,.inl z=>by rw[z];exact a
 |_,.inr z=>h.ks.noneP e _ z
theorem fj.max(h:fj H0 H kd kv J0 J1 J2 ds n){P:Addr->Prop}(i:∀b,JS kd kv b->P b):fj (exH H P) H kd kv J0 J1 J2 ds n :=
 ⟨BM,h.hkd,fun p g=>by obtain⟨f,d,a,e,j,_,r⟩:=h.kok p g;exact⟨f,d,a,e,j,rT (i _ (.inr ⟨eT f,by rw[<-e];exact g⟩)),r⟩,h.len⟩
theorem dJ.max(h:dJ H0 H kd cd kv cv J0 J1 J2 ds n):dJ (exH H (Ie kd cd kv)) H kd cd kv cv J0 J1 J2 ds n:=⟨h.ks.max fun _ z=>.inr z,h.ncd,h.hcd,h.cok,h.clen⟩
theorem dJ.weak(S:ab H0 H1)(h:dJ H1 H kd cd kv cv J0 J1 J2 ds n):dJ H0 H kd cd kv cv J0 J1 J2 ds n:=⟨h.ks.weak S,h.ncd,h.hcd,h.cok,h.clen⟩
theorem fj.fresh(h:fj H0 H kd kv J0 J1 J2 ds n){k:TK}{b:Addr}(q:(k,V.ref b)∈kv):b≠kd/\H0 b=none/\∃a,Rd H b (.dT a):=by
 obtain⟨_,_,a,e,f,g,r,_⟩:=h.kok _ q;injection e with _ e;injection e with e;rw[e];exact⟨f,g,a,r⟩
end
structure BC(K:Za)(C:Addr):Prop where
 cls:Cu K C
 a1:cZ K C "made"
 a2:cZ K C "own_steps"
 a3:cZ K C "known_harmless"
 a4:cZ K C "known_firsts"
def KP(H:Hp)(v:V)(J6:Zb):Prop:=(v=.non/\J6=[])∨∃u,v=.ref u/\J6≠[]/\H u=some (.tup (J6.map V.str))
theorem KP.kt(k:gF H a)(h:KP H v f):KP a v f:=h.imp id fun⟨u,e,n,q⟩=>⟨u,e,n,k _ _ q⟩
def IS(H:Hp)(p:Addr)(q:List Str×List Str):Prop:=∃v w,H p=some (.tup [v,w])/\KP H v q.1/\KP H w q.2
theorem IS.kt(k:gF H a)(h:IS H p q):IS a p q:=by
 obtain⟨v,w,e,f,g⟩:=h;exact⟨v,w,k _ _ e,f.kt k,g.kt k⟩
theorem kZ.fcV(h:kZ H a (stepsF j k l m f)){e:Sg}(n:e∈b0 j k):KP H ((be a (eT e)).getD .non) (behF l m f e):=by
 rcases h.look n with⟨g,i⟩|⟨g,u,i,o⟩
 ·rw[i];exact .inl ⟨rfl,g⟩
 ·rw[i];exact .inr ⟨u,rfl,g,o⟩
theorem fj.find{d:Addr}(h:fj q H s g i j k l n)(v:be g (eT m)=some (.ref d)):∃a,Rd H d (.dT a)/\kZ H a (stepsF i j k l m):=by
 obtain⟨f,t,a,e,_,_,r,st⟩:=h.kok _ (fV v);injection e with o p;cases eP o;cases p;exact⟨a,r,st⟩
def hB:Nat->Nat
 |0=>0
 |d+1=>12+25 * hB d
def i0(fo:Option Int)(x:Int):Option Int:=match fo with
 |none=>some x
 |some b=>if x<b then some x else some b
def F_(l:List Int):Option Int:=l.foldl i0 none
theorem xE{m:Int}:∀{l:List Int}{e:Option Int},(m∈l∨e=some m)->(∀b∈l,m<=b)->(∀b,e=some b->m<=b)->l.foldl i0 e=some m
 |[],e,h,_,_=>by
  rcases h with h|h
  ·cases h
  ·exact h
 |x::l,e,h,f,g=>by
  rw[qR];have i:=f x cW;refine xE ?_ (fun b a=>f b (c_ _ a)) fun b a=>?_
  ·rcases h with h|h
   ·rcases cu.1 h with rfl|h
    ·right
     unfold i0;cases e with
     |none=>rfl
     |some b =>
      have:=g b rfl;show(if m<b then some m else some b)=some m
      by_cases c:m<b
      ·rw[if_pos c]
      ·rw[if_neg c,show b=m by omega]
    ·exact .inl h
   ·right
    rw[h];show(if x<m then some x else some m)=some m
    rw[if_neg (by omega)]
  ·unfold i0 at a;cases e with
   |none=>injection a with a;omega
   |some c =>
    have:=g c rfl;have a:(if x<c then some x else some c)=some b:=a
    split at a<;>(injection a with a;omega)
theorem JR{m:Int}{l:List Int}(h:m∈l)(a:∀b∈l,m<=b):F_ l=some m:=xE (.inl h) a fun b e=>by cases e
theorem BL:∀{l:List Int}{a:Option Int}{m:Int},l.foldl i0 a=some m->m∈l∨a=some m
 |[],a,m,h=>.inr h
 |x::l,a,m,h=>by
  rw[qR]at h;rcases BL h with h|h
  ·exact .inl (c_ _ h)
  ·unfold i0 at h;cases a with
   |none=>injection h with h;rw[h];exact .inl cW
   |some b =>
    have h:(if x<b then some x else some b)=some m:=h
    split at h
    ·injection h with h;rw[h];exact .inl cW
    ·exact .inr h
theorem qj{m:Int}(h:F_ l=some m):m∈l:=(BL h).elim id fun z=>by cases z
theorem fold_shift(s:Int):∀(l:List Int) (a:Option Int),l.foldl (fun a x=>i0 a (s+x)) (a.map (s+·))=(l.foldl i0 a).map (s+·)
 |[],a=>rfl
 |x::l,a=>by
  rw[qR,qR,<-fold_shift s l];congr 1;cases a with
  |none=>rfl
  |some b =>
   show(if s+x<s+b then some (s+x)else some (s+b))=(if x<b then some x else some b).map (s+·)
   by_cases c:x<b
   ·rw[if_pos c,if_pos (by omega)];rfl
   ·rw[if_neg c,if_neg (by omega)];rfl
theorem xF{s b:Int}(h:b<s):∀(l:List Int),(∀x∈l,0<=x)->l.foldl (fun e x=>i0 e (s+x)) (some b)=some b
 |[],_=>rfl
 |x::l,a=>by
  rw[qR];have:=a x cW;show l.foldl _ (if s+x<b then some (s+x)else some b)=some b
  rw[if_neg (by omega)];exact xF h l fun y f=>a y (c_ _ f)
def FT(f:Option Int)(w:Int):List Int:=match f with
 |none=>[]
 |some n=>[n * w]
def fW(c:Sg->Int)(f:Sg->Option Int):List Sg->Int->List Int
 |[],_=>[]
 |sg::r,w=>FT (f sg) w++fW c f r (w * c sg)
theorem vh(c:Sg->Int)(f:Sg->Option Int):∀(l:List Sg) (v w:Int),fW c f l (v * w)=(fW c f l v).map (· * w)
 |[],_,_=>rfl
 |sg::r,v,w=>by
  unfold fW;rw[show v * w * c sg=v * c sg * w by rw[uj,ui w,<-uj],vh c f r,av];congr 1;cases f sg with
  |none=>rfl
  |some n=>show[n * (v * w)]=[n * v * w];rw[uj]
theorem lK{c:Sg->Int}{f:Sg->Option Int}(a:∀sg,0<c sg)(i:∀sg n,f sg=some n->0<=n/\n<c sg):∀(l:List Sg) (w:Int),0<w->∀x∈fW c f l w,0<=x/\x<w * Dk c l
 |[],_,_,x,hx=>by cases hx
 |sg::r,w,g,x,hx=>by
  have o:=ED a r;have e:w * Dk c (sg::r)=(w * c sg) * Dk c r:=by
   show w * (Dk c r * c sg)=_;rw[ui (Dk c r),<-uj]
  rw[e];rcases bM.1 (show x∈FT (f sg) w++fW c f r (w * c sg)from hx)with hx|hx
  ·cases h:f sg with
   |none=>rw[h]at hx;cases hx
   |some n =>
    rw[h]at hx;rw[dR.1 (show x∈[n * w]from hx)];obtain⟨j,k⟩:=i sg n h;refine⟨Int.mul_nonneg j (qN g),?_⟩;have p:n * w<c sg * w:=Int.mul_lt_mul_of_pos_right k g;have m:w * c sg * 1<=w * c sg * Dk c r:=Int.mul_le_mul_of_nonneg_left (by omega) (qN (xZ g (a sg)));rw[Ek,ui w]at m;rw[ui w];omega
  ·exact lK a i r (w * c sg) (xZ g (a sg)) x hx
theorem Bs{c:Sg->Int}{f:Sg->Option Int}(h:∀sg,0<c sg)(i:∀sg n,f sg=some n->0<=n/\n<c sg):∀(l:List Sg) (x:Int),x∈fW c f l 1->∃(j:Nat) (sg:Sg) (n:Int),l[j]?=some sg/\f sg=some n/\(kS c g l x)[j]?=some (g sg n)
 |[],x,hx=>by cases hx
 |sg::r,x,hx=>by
  have t:=h sg;rcases bM.1 (show x∈FT (f sg) 1++fW c f r (1 * c sg)from hx)with hx|hx
  ·cases a:f sg with
   |none=>rw[a]at hx;cases hx
   |some n =>
    rw[a]at hx;have ex:x=n:=by rw[dR.1 (show x∈[n * 1]from hx),Ek]
    obtain⟨k,m⟩:=i sg n a;refine⟨0,sg,n,rfl,a,?_⟩;rw[kS,ex,Int.emod_eq_of_lt k m];rfl
  ·rw[vh]at hx;obtain⟨y,o,rfl⟩:=aS.1 hx;obtain⟨j,e,n,p,q,s⟩:=Bs (g:=g) h i r y o;refine⟨j+1,e,n,p,q,?_⟩;rw[kS,Int.mul_ediv_cancel _ (by omega)];exact s
def iM(kk:Option Str->Option Int)(cc:Option Str->Int):List (Option Str)->Int->Option Int
 |[],_=>none
 |a::r,acc=>match kk a with
  |some n=>some (acc+n)
  |none=>iM kk cc r (acc+cc a)
section
variable(J0 J1 J2 rooms':Zb)(ds ds':List ao)
def fstKf(d:Nat)(f:List Str->List Str->Option Int)(own J6:Zb)(kind:List Sg):Option Int:=F_ (fW (fun sg=>cntM J0 J1 J2 ds d (behF J2 ds J6 sg)) (fun sg=>f (behF rooms' ds' own sg) (behF J2 ds J6 sg)) kind.reverse 1)
def fstM:Nat->List Str->List Str->Option Int
 |0,own,J6=>if own=[]then none else if J6=[]then some 0 else none
 |d+1,own,J6=>if own=[]then none else if J6=[]then some 0 else iM (fun a=>fstKf J0 J1 J2 rooms' ds ds' d (fstM d) own J6 (aR J1 a)) (prodA J0 J1 J2 ds d J6) ((askedF J0 J2 ds J6).map some++[none]) 1
theorem nQ(d:Nat)(a:Zb):fstM J0 J1 J2 rooms' ds ds' d [] a=none:=by
 cases d<;>(unfold fstM;rw[if_pos rfl])
theorem qy(d:Nat){a:Zb}(h:a≠[]):fstM J0 J1 J2 rooms' ds ds' d a []=some 0:=by
 cases d<;>(unfold fstM;rw[if_neg h,if_pos rfl])
theorem qw{a e:Zb}(h:a≠[])(f:e≠[]):fstM J0 J1 J2 rooms' ds ds' 0 a e=none:=by
 unfold fstM;rw[if_neg h,if_neg f]
theorem qx(d:Nat){e f:Zb}(h:e≠[])(g:f≠[]):fstM J0 J1 J2 rooms' ds ds' (d+1) e f=iM (fun a=>fstKf J0 J1 J2 rooms' ds ds' d (fstM J0 J1 J2 rooms' ds ds' d) e f (aR J1 a)) (prodA J0 J1 J2 ds d f) ((askedF J0 J2 ds f).map some++[none]) 1:=by
 conv=>lhs;unfold fstM
 rw[if_neg h,if_neg g]
theorem jX{j:Option Str->Option Int}{g:Option Str->Int}(i:∀a,0<g a)(k:∀a n,j a=some n->0<=n/\n<g a):∀{A:List (Option Str)}{f n:Int},iM j g A f=some n->f<=n/\n<f+(A.map g).sum
 |[],_,_,h=>by cases h
 |a::r,f,n,h=>by
  have o:0<=(r.map g).sum:=o5 _ fun x l=>by
   obtain⟨y,_,rfl⟩:=aS.1 l;exact qN (i y)
  unfold iM at h;rw[bG,qP];split at h
  ·next m e =>
   injection h with h;have:=k a m e;omega
  ·have:=jX i k h;have:=i a;omega
theorem kP:∀(d:Nat) (f g:Zb) (n:Int),fstM J0 J1 J2 rooms' ds ds' d f g=some n->0<=n/\n<cntM J0 J1 J2 ds d g:=by
 intro d
 induction d with
 |zero =>
  intro f g n h;have:=jY J0 J1 J2 ds 0 g;by_cases c:f=[]
  ·rw[c,nQ]at h;cases h
  by_cases i:g=[]
  ·rw[i,qy _ _ _ _ _ _ 0 c]at h;injection h with h;omega
  ·rw[qw _ _ _ _ _ _ c i]at h;cases h
 |succ d k =>
  intro f g n h;have:=jY J0 J1 J2 ds (d+1) g;by_cases c:f=[]
  ·rw[c,nQ]at h;cases h
  by_cases i:g=[]
  ·rw[i,qy _ _ _ _ _ _ (d+1) c]at h;injection h with h;omega
  ·rw[qx _ _ _ _ _ _ d c i]at h;rw[Fe i];have:=jX (nK J0 J1 J2 ds d g) (fun a m e=>?_) h
   ·omega
   ·have l:=qj e;have:=lK (c:=fun j=>cntM J0 J1 J2 ds d (behF J2 ds g j)) (fun j=>jY J0 J1 J2 ds d _) (fun j n e=>k _ _ n e) (aR J1 a).reverse 1 (by decide) m l;rw[xY,qd]at this;exact this
end
def lN(nn:Option Str->List Int)(cc:Option Str->Int):List (Option Str)->Int->Option Int->Option Int
 |[],_,fo=>fo
 |a::r,s,fo=>lN nn cc r (s+cc a) ((nn a).foldl (fun fo x=>i0 fo (s+x)) fo)
theorem sP{f:Option Str->List Int}{e:Option Str->Int}(g:∀a,0<e a)(i:∀a,∀x∈f a,0<=x){b:Int}:∀(A:List (Option Str)) (s:Int),b<s->lN f e A s (some b)=some b
 |[],_,_=>rfl
 |a::r,s,h=>by
  unfold lN;rw[xF h _ (i a)];have:=g a;exact sP g i r (s+e a) (by omega)
theorem xw{f:Option Str->List Int}{g:Option Str->Int}(j:∀a,0<g a)(i:∀a,∀x∈f a,0<=x/\x<g a):∀(A:List (Option Str)) (s:Int),lN f g A s none=iM (fun a=>F_ (f a)) g A s
 |[],_=>rfl
 |a::r,s=>by
  unfold lN iM;have e:=fold_shift s (f a) none;have e:(f a).foldl (fun k x=>i0 k (s+x)) none=(F_ (f a)).map (s+·):=e;rw[e];cases h:F_ (f a)with
  |none=>exact xw j i r (s+g a)
  |some m =>
   have:=i a m (qj h);exact sP j (fun a x l=>(i a x l).1) r (s+g a) (show s+m<s+g a by omega)
mutual
def blB(J1 rooms':Zb)(ds':List ao)(own:Zb):Tr->Bool
 |.bl=>open Classical in decide (own≠[])
 |.en=>false
 |.nd a ps=>open Classical in decide (own≠[]) && blBs J1 rooms' ds' own (aR J1 a) ps
def blBs(J1 rooms':Zb)(ds':List ao)(own:Zb)(sgs:List Sg):List Tr->Bool
 |[]=>false
 |p::ps=>(match sgs with
  |[]=>false
  |sg::_=>blB J1 rooms' ds' (behF rooms' ds' own sg) p) || blBs J1 rooms' ds' own (sgs.drop 1) ps
end
theorem BY:∀{ps:List Tr}{sgs:List Sg}{j:Nat}{f:Sg}{p:Tr},sgs[j]?=some f->ps[j]?=some p->blB m a e (behF a e g f) p=true->blBs m a e g sgs ps=true
 |[],_,_,_,_,_,h,_=>by cases h
 |_::_,[],_,_,_,h,_,_=>by cases h
 |q::ps,x::sgs,0,f,p,i,k,l=>by
  injection i with i;injection k with k;unfold blBs;rw[i,k];show(blB m a e (behF a e g f) p || _)=true;rw[l];rfl
 |q::ps,x::sgs,j+1,f,p,i,k,l=>by
  unfold blBs;rw[show(x::sgs).drop 1=sgs from rfl,BY (ps:=ps) (sgs:=sgs) (j:=j) i k l,Bool.or_true]
theorem DH{J0:Zb}(N:J0.Nodup):∀(d:Nat) (q p:Zb) (n:Int),fstM J0 i l f o s d q p=some n->blB i f s q (nthT J0 i l o d p n)=true:=by
 intro d
 induction d with
 |zero =>
  intro q p n h;by_cases c:q=[]
  ·rw[c,nQ]at h;cases h
  by_cases u:p=[]
  ·rw[u,Bt];unfold blB;exact zzr1 c
  ·rw[qw _ _ _ _ _ _ c u]at h;cases h
 |succ d E =>
  intro q p n h;by_cases c:q=[]
  ·rw[c,nQ]at h;cases h
  by_cases u:p=[]
  ·rw[u,Bt];unfold blB;exact zzr1 c
  rw[qx _ _ _ _ _ _ d c u]at h;have B:∀sg,0<(fun sg=>cntM J0 i l o d (behF l o p sg)) sg:=fun sg=>jY J0 i l o d _;have C:∀(sg:Sg) (n:Int),(fun sg=>fstM J0 i l f o s d (behF f s q sg) (behF l o p sg)) sg=some n->0<=n/\n<(fun sg=>cntM J0 i l o d (behF l o p sg)) sg:=fun sg n e=>kP J0 i l f o s d _ _ n e;have v:∀a m,fstKf J0 i l f o s d (fstM J0 i l f o s d) q p (aR i a)=some m->0<=m/\m<prodA J0 i l o d p a:=fun a m e=>by
   have:=lK B C (aR i a).reverse 1 (by decide) m (qj e);rw[xY,qd]at this;exact this
  have G:∀{A:List (Option Str)}{t n:Int},iM (fun a=>fstKf J0 i l f o s d (fstM J0 i l f o s d) q p (aR i a)) (prodA J0 i l o d p) A t=some n->∃a m,fstKf J0 i l f o s d (fstM J0 i l f o s d) q p (aR i a)=some m/\jT (prodA J0 i l o d p) A (n-t)=some (a,m):=by
   intro A
   induction A with
   |nil=>intro t n h;cases h
   |cons a r w =>
    intro t n h;unfold iM at h;split at h
    ·next m e =>
     injection h with h;obtain⟨O,H⟩:=v a m e;refine⟨a,m,e,?_⟩;unfold jT;rw[show n-t=m by omega,if_pos H]
    ·next e =>
     obtain⟨b,m,x,y⟩:=w h;refine⟨b,m,x,?_⟩;have I:=jX (nK J0 i l o d p) v h;unfold jT;rw[if_neg (by omega),show n-t-prodA J0 i l o d p a=n-(t+prodA J0 i l o d p a) by omega];exact y
  obtain⟨a,m,x,y⟩:=G h;have I:=jX (nK J0 i l o d p) v h;rw[FW u (by omega) y];obtain⟨j,sg,k,z,J,L⟩:=Bs (g:=fun sg=>nthT J0 i l o d (behF l o p sg)) B C (aR i a).reverse m (qj x);have M:j<(aR i a).length:=by have:=(bN.1 z).1;rw[eK]at this;exact this
  rw[qV M]at z;unfold blB;rw[zzr1 c,qO];have D:(kS (fun sg=>cntM J0 i l o d (behF l o p sg)) (fun sg=>nthT J0 i l o d (behF l o p sg)) (aR i a).reverse m).length=(aR i a).length:=by rw[rV,eK]
  refine BY (j:=(aR i a).length-1-j) z ?_ (E _ _ k J);rw[qV (by rw[D];omega),D];rw[show(aR i a).length-1-((aR i a).length-1-j)=j by omega];exact L
def oW(K:Za)(C_Blamers:Addr)(sp_Blamers_first_of_kinds:Sp):TS :=
 ar (cx (tB (CL V2)) (aW (tC .non)) (bC))
 (ar (cx (tB (CL V1)) (aW (tC (.int 0))) (bC))
 (ar (cx (aU (aH v5 V3 (tC (.int 0)))) (aW (tC .non)) (bC))
 (ar (cx (tB (ir K (bg (cg V1 V2 V3)) (fQ K V0 "known_firsts"))) (jv (fQ K V0 "known_firsts") (bg (cg V1 V2 V3)) (cq C_Blamers "first_of_kinds" sp_Blamers_first_of_kinds [] E0 V0 (cg V1 V2 V3))) (bC))
 (aW (iD K (fQ K V0 "known_firsts") (bg (cg V1 V2 V3)))))))
def pA:List Str:=["self","face","mine","d"]
def kb(K:Za)(C_Made:Addr)(sp_Made_kinds_at:Sp)(sp_Made_count_of:Sp)(C_Blamers:Addr)(sp_Blamers_first_of_kind:Sp):TS :=
 ar (aN (tC (.int 1)) U4)
 (ar (dW (bO K (cq C_Made "kinds_at" sp_Made_kinds_at [] E0 (fQ K V0 "made") (ay V1))) U5 (ar (aN (cq C_Blamers "first_of_kind" sp_Blamers_first_of_kind [] E0 V0 (am V1 (cg V2 V3 V5))) U6)
 (ar (cx (tB (xh V6)) (aW (aH dD V4 V6)) (bC))
 (LB 4 (cq C_Made "count_of" sp_Made_count_of [] E0 (fQ K V0 "made") (cg V1 V3 V5)) (ipI fun i j=>i+j)))))
 (aW (tC .non)))
def kj:List Str:=["self","face","mine","d","ahead","signs","own"]
def kF(K:Za)(C_Blamers:Addr)(sp_Blamers_places:Sp)(C_Made:Addr)(sp_Made_count_at:Sp)(sp_Blamers_first_at:Sp):TS :=
 ar (aN (c9 (bh)) U5)
 (ar (aN (tC (.int 1)) U6)
 (ar (dW (LU K (ay (cq C_Blamers "places" sp_Blamers_places [] E0 V0 (cg V1 V2 V4)))) (jM K 2 (bv U7 (bv U8 (jH)))) (ar (aN (cq C_Blamers "first_at" sp_Blamers_first_at [] E0 V0 (cg V7 V8 (aH mS V3 (tC (.int 1))))) U9)
 (ar (cx (tB (xh V9)) (cP (Ex K "list" iz V5 (ay (aH oo V9 V6)))) (bC))
 (aN (aH oo V6 (cq C_Made "count_at" sp_Made_count_at [] E0 (fQ K V0 "made") (aX V7 (aH mS V3 (tC (.int 1)))))) U6))))
 (aW (Kq K (ay V5)))))
def k5:List Str:=["self","face","mine","d","signs","numbers","weight","there","own","first"]
def uM(K:Za)(C_Blamers:Addr)(sp_Blamers_init:Sp)(sp_Blamers_first_at:Sp)(dz:Sp)(eE:Sp)(sp_need_taker:Sp):TS :=
 ar (cP (aL sp_need_taker (aX V0 V2)))
 (ar (cP (aL eE (ay V1)))
 (aW (cq C_Blamers "first_at" sp_Blamers_first_at [] E0 (uQ C_Blamers sp_Blamers_init [] E0 (aX V0 V2)) (cg (aL dz (ay V0)) (aL dz (ay V2)) V1))))
def vU:List Str:=["M","d","I"]
def zh(K:Za):TS :=
 ar (cx (aU (aH v5 (aH (jy K) V0 (tC (.int 0))) (tC (.str "tell")))) (aW (bg (am (aH (jy K) V0 (tC (.int 1))) (am (aH kf (c9 (ay (aH (jy K) V0 (tC (.int 2))))) (cI 2 [] (Gk K (aH (jy K) V0 (tC (.int 3)))) (jM K 2 (bv U0 (bv U1 (jH)))) (iS) V1)) bh)))) (bC))
 (aW (bg (am (tC .non) (am (aH kf (cI 2 [] (Gk K (aH (jy K) V0 (tC (.int 1)))) (jM K 2 (bv U0 (bv U1 (jH)))) (iS) V1) (c9 (ay (aH (jy K) V0 (tC (.int 2)))))) bh))))
def Aw:List Str:=["trial"]
def zm(K:Za)(sp_law_part_signs:Sp)(sp_law_blamed:Sp)(sp_law_behind:Sp)(sp_law_pieces:Sp):TS :=
 ar (cx (CK (aU (aH (mU K) V1 (bg (bh)))) (aU (aH v5 (aH (jy K) V2 (tC (.int 0))) (tC (.str "end"))))) (aW (tC (.bl false))) (bC))
 (ar (cx (aU (aH v5 (aH (jy K) V2 (tC (.int 0))) (tC (.str "blame")))) (aW (tC (.bl true))) (bC))
 (ar (aN (aL sp_law_pieces (ay V2)) (jM K 2 (bv U3 (bv U4 (jH)))))
 (ar (dW (Io K (aX (aL sp_law_part_signs (am V0 (ay V3))) V4)) (jM K 2 (bv U5 (bv U6 (jH)))) (cx (tB (aL sp_law_blamed (cg V0 (aL sp_law_behind (am V0 (aX V1 V5))) V6))) (aW (tC (.bl true))) (bC)))
 (aW (tC (.bl false))))))
def Ay:List Str:=["other","own","trial","ask","some","sign","part"]
def AW(K:Za)(sp_law_asked:Sp)(sp_law_part_signs:Sp)(sp_law_count:Sp)(sp_law_first:Sp)(sp_law_behind:Sp)(sp_law_after:Sp):TS :=
 ar (cx (CK (aU (aH (mU K) V3 (bg (bh)))) (CK (aU (aH (mU K) V4 (bg (bh)))) (aU (aH v5 V5 (tC (.int 0)))))) (aW (aH (dY K) (c9 (aX (tC .non) (tC (.int 0)))) (gP Kw (ay (A_ (aH (wK K) V3 (bg (bh))) (aH (mU K) V4 (bg (bh)))))))) (bC))
 (ar (cx (tB (CV K (bg (am (tC (.str "first")) (cg V3 V4 V5))) V2)) (aW (iD K V2 (bg (am (tC (.str "first")) (cg V3 V4 V5))))) (bC))
 (ar (aN (tC (.int 1)) U6)
 (ar (aN (tC .non) U7)
 (ar (dW (bO K (aH kf (aL sp_law_asked (cg V0 V2 V4)) (c9 (ay (tC .non))))) U8 (ar (aN (tC (.int 1)) U9)
 (ar (dW (bO K (Hd K (aL sp_law_part_signs (aX V0 V8)))) Lv (ar (aN (aL sp_law_after (am V0 (cg V2 V4 GJ))) Mw)
 (ar (aN (aL sp_law_first (am V0 (am V1 (am V2 (cg (aL sp_law_behind (am V1 (aX V3 GJ))) Li (aH mS V5 (tC (.int 1)))))))) U12)
 (ar (cx (tF (tB (xh Lu)) (CK (tB (CL V7)) (aU (aH Dg (aH dD V6 (aH oo Lu V9)) V7)))) (aN (aH dD V6 (aH oo Lu V9)) U7) (bC))
 (aN (aH oo V9 (aL sp_law_count (am V0 (cg V2 Li (aH mS V5 (tC (.int 1))))))) U9)))))
 (aN (aH dD V6 V9) U6))))
 (ar (jv V2 (bg (am (tC (.str "first")) (cg V3 V4 V5))) V7)
 (aW V7))))))
def sV:List Str:=["told","other","known","own","face","deep","start","found","ask","weight","sign","behind","number"]
def Jj(K:Za)(sp_law_blamed:Sp)(sp_law_begin:Sp)(sp_law_nth:Sp)(sp_first_blamer:Sp)(sp_law_first:Sp)(sp_law_machine:Sp)(sp_law_near:Sp)(sp_law_model:Sp)(sp_law_take:Sp)(sp_law_open:Sp):TS :=
 ar (aN (aL sp_law_open (ay V0)) U1)
 (ar (dW (vw (ay (tC (.int 2)))) U2 (ar (aN (aL sp_law_model (am V1 (am (tC (.int 6)) (ay (aL sp_law_take (aX V1 (tC (.int 2)))))))) U3)
 (ar (aN (aL sp_law_near (cg V1 V3 (tC (.int 4)))) U4)
 (ar (aN (aL sp_law_machine (ay V3)) U5)
 (ar (aN (aL sp_law_machine (ay V4)) U6)
 (dW (bO K (c9 (am (tC (.int 4)) (am (tC (.int 3)) (cg (tC (.int 2)) (tC (.int 1)) (tC (.int 0))))))) U7 (ar (aN (lq) U8)
 (ar (aN (aL sp_law_first (am V3 (am V4 (am V8 (cg (aL sp_law_begin (ay V4)) (aL sp_law_begin (ay V3)) V7))))) U9)
 (ar (aN (aL sp_first_blamer (cg V5 V7 V6)) Lv)
 (ar (cx (CK (aU (aH LG GJ V9)) (tB (gP (rIsi K) (aX GJ (tC (.ty "bool")))))) (aW (tC (.bl false))) (bC))
 (cx (tB (xh V9)) (ar (aN (aL sp_law_nth (am V3 (am V8 (cg (aL sp_law_begin (ay V3)) V7 V9)))) Mw)
 (cx (Jk (tB (aL sp_law_blamed (cg V4 (aL sp_law_begin (ay V4)) Li)))) (aW (tC (.bl false))) (bC))) (bC))))))))))))
 (aW (tC (.bl true))))
def Fm:List Str:=["script","pen","turn","told","other","model","machine","deep","known","due","found","trial"]
def HI:List Str:=["script"]
structure tR(Cm Ck Cd Cb:Addr)(H0:Hp)(x mx sl y M kd cd y2 I kd2 hd:Addr)(us:Ze)(J0 J1 J2 rooms':Zb)(ds ds':List ao):Prop where
 md:vX Cm Ck Cd H0 mx sl y M kd cd us J0 J1 J2 ds
 ks:Co Cm Ck H0 y2 I kd2 J0 J1 rooms' ds'
 ob:∃(dx:Addr) (fs:List (Str×V)),H0 x=some (.ins Cb dx fs)/\lk "made" fs=some (.ref mx)/\lk "own_steps" fs=some (.ref y2)/\lk "known_firsts" fs=some (.ref hd)/\∀f:Str,f≠"made"->f≠"own_steps"->f≠"known_harmless"->f≠"known_firsts"->lk f fs=none
 hdn:H0 hd=none
 n1:kd2≠kd/\kd2≠cd
 n2:hd≠kd/\hd≠cd/\hd≠kd2
structure eS(H0 H:Hp)(kd cd kd2 hd:Addr)(kv cv kv2 hv:List (TK×V))(J0 J1 J2 rooms':Zb)(ds ds':List ao)(n:Nat):Prop where
 md:dJ H0 H kd cd kv cv J0 J1 J2 ds n
 ks:fj H0 H kd2 kv2 J0 J1 rooms' ds' n
 hhd:H hd=some (.dT hv)
 hok:∀p∈hv,∃(J6 own:Zb) (d:Nat),p=(BH J6 own d,jL (fstM J0 J1 J2 rooms' ds ds' d own J6))
 hlen:hv.length<=n
 d1:∀k b,(k,V.ref b)∈kv->b≠kd2/\b≠hd/\∀k',(k',V.ref b)∉kv2
 d2:∀k b,(k,V.ref b)∈kv2->b≠kd/\b≠cd/\b≠hd
section
variable{Cm Ck Cd Cb:Addr}{H0 H H':Hp}{x mx sl y M kd cd y2 I kd2 hd:Addr}{us:Ze}{kv cv kv2 hv kv' cv':List (TK×V)}{J0 J1 J2 rooms' J6 own:Zb}{ds ds':List ao}{n m d:Nat}
theorem eS.up(h:eS H0 H kd cd kd2 hd kv cv kv2 hv J0 J1 J2 rooms' ds ds' n)(S:ab H H'):eS H0 H' kd cd kd2 hd kv cv kv2 hv J0 J1 J2 rooms' ds ds' n:=⟨h.md.up S,h.ks.up S,S _ _ h.hhd,h.hok,h.hlen,h.d1,h.d2⟩
theorem eS.more(h:eS H0 H kd cd kd2 hd kv cv kv2 hv J0 J1 J2 rooms' ds ds' n)(l:n<=m):eS H0 H kd cd kd2 hd kv cv kv2 hv J0 J1 J2 rooms' ds ds' m:=⟨h.md.more l,h.ks.more l,h.hhd,h.hok,aB h.hlen l,h.d1,h.d2⟩
theorem eS.cell{g ys:List V}(h:eS H0 H kd cd kd2 hd kv cv kv2 hv J0 J1 J2 rooms' ds ds' n)(e:H0 f=none)(a:H f=some (.lst g)):eS H0 (upd H f (.lst ys)) kd cd kd2 hd kv cv kv2 hv J0 J1 J2 rooms' ds ds' n :=
 ⟨h.md.cell e a,h.ks.cell e a,by rw[ai (fun z=>by have:=h.hhd;rw[z,a]at this;cases this)];exact h.hhd,h.hok,h.hlen,h.d1,h.d2⟩
theorem eS.step(h:eS H0 H kd cd kd2 hd kv cv kv2 hv J0 J1 J2 rooms' ds ds' n)(St:tR Cm Ck Cd Cb H0 x mx sl y M kd cd y2 I kd2 hd us J0 J1 J2 rooms' ds ds')(D:dJ (exH H (Ie kd cd kv)) H' kd cd kv' cv' J0 J1 J2 ds m)(l:n<=m):eS H0 H' kd cd kd2 hd kv' cv' kv2 hv J0 J1 J2 rooms' ds ds' m:=by
 have i:ab H0 (exH H (Ie kd cd kv)):=vC h.md.ks.same (h.md.noneP St.md.ks.kdn St.md.cdn);have out:∀{b:Addr}{o:HO},H b=some o->b≠kd->b≠cd->(∀k,(k,V.ref b)∉kv)->exH H (Ie kd cd kv) b=some o:=fun e v A B=>by
  rw[qz (fun z=>z.elim A fun z=>z.elim v fun⟨k,q⟩=>B k q)];exact e
 have j:=out h.ks.hkd St.n1.1 St.n1.2 fun k q=>(h.d1 k _ q).1 rfl;have s:=out h.hhd St.n2.1 St.n2.2.1 fun k q=>(h.d1 k _ q).2.1 rfl;have own:∀{k:TK}{b:Addr},(k,V.ref b)∈kv2->∀o,H b=some o->exH H (Ie kd cd kv) b=some o:=fun q o e=>out e (h.d2 _ _ q).1 (h.d2 _ _ q).2.1 fun t g=>(h.d1 t _ g).2.2 _ q;have kt:gF H H':=fun b J e=>D.ks.same _ _ (out e (fun z=>by rw[z,h.md.ks.hkd]at e;cases e) (fun z=>by rw[z,h.md.hcd]at e;cases e) fun k q=>by obtain⟨_,_,a,r⟩:=h.md.ks.fresh q;rcases r with r|⟨_,r⟩<;>(rw[r]at e;cases e));refine⟨D.weak i,⟨i.trans D.ks.same,D.ks.same _ _ j,fun p u=>?_,aB h.ks.len l⟩,D.ks.same _ _ s,h.hok,aB h.hlen l,fun k b q=>?_,h.d2⟩
 ·obtain⟨f,d,a,e,C,E,r,st⟩:=h.ks.kok p u;exact⟨f,d,a,e,C,E,iw (fun o G=>D.ks.same _ _ (own (by rw[<-e];exact u) o G)) r,st.kt kt⟩
 ·obtain⟨_,z,_⟩:=D.ks.fresh q;refine⟨fun w=>(by rw[w,j]at z;cases z),fun w=>(by rw[w,s]at z;cases z),fun t g=>?_⟩;obtain⟨_,_,a,r⟩:=h.ks.fresh g;rcases r with r|⟨_,r⟩<;>(rw[own g _ r]at z;cases z)
theorem eS.stepK(h:eS H0 H kd cd kd2 hd kv cv kv2 hv J0 J1 J2 rooms' ds ds' n)(St:tR Cm Ck Cd Cb H0 x mx sl y M kd cd y2 I kd2 hd us J0 J1 J2 rooms' ds ds')(D:fj (exH H (JS kd2 kv2)) H' kd2 kv' J0 J1 rooms' ds' m)(l:n<=m):eS H0 H' kd cd kd2 hd kv cv kv' hv J0 J1 J2 rooms' ds ds' m:=by
 have g:ab H0 (exH H (JS kd2 kv2)):=vC h.ks.same (h.ks.noneP St.ks.kdn);have out:∀{b:Addr}{o:HO},H b=some o->b≠kd2->(∀k,(k,V.ref b)∉kv2)->exH H (JS kd2 kv2) b=some o:=fun e u v=>by
  rw[qz (fun z=>z.elim u fun⟨k,q⟩=>v k q)];exact e
 have i:=out h.md.ks.hkd St.n1.1.symm fun k q=>(h.d2 k _ q).1 rfl;have j:=out h.md.hcd St.n1.2.symm fun k q=>(h.d2 k _ q).2.1 rfl;have s:=out h.hhd St.n2.2.2 fun k q=>(h.d2 k _ q).2.2 rfl;have own:∀{k:TK}{b:Addr},(k,V.ref b)∈kv->∀o,H b=some o->exH H (JS kd2 kv2) b=some o:=fun q o e=>out e (h.d1 _ _ q).1 (h.d1 _ _ q).2.2;have kt:gF H H':=fun b G e=>D.same _ _ (out e (fun z=>by rw[z,h.ks.hkd]at e;cases e) fun k q=>by obtain⟨_,_,a,r⟩:=h.ks.fresh q;rcases r with r|⟨_,r⟩<;>(rw[r]at e;cases e));refine⟨⟨⟨g.trans D.same,D.same _ _ i,fun p t=>?_,aB h.md.ks.len l⟩,h.md.ncd,D.same _ _ j,h.md.cok,aB h.md.clen l⟩,D.weak g,D.same _ _ s,h.hok,aB h.hlen l,fun k b q=>⟨(h.d1 k b q).1,(h.d1 k b q).2.1,fun J A=>?_⟩,fun k b q=>?_⟩
 ·obtain⟨f,d,a,e,B,C,r,st⟩:=h.md.ks.kok p t;exact⟨f,d,a,e,B,C,iw (fun o E=>D.same _ _ (own (by rw[<-e];exact t) o E)) r,st.kt kt⟩
 ·obtain⟨_,z,_⟩:=D.fresh A;obtain⟨_,_,a,r⟩:=h.md.ks.fresh q;rcases r with r|⟨_,r⟩<;>(rw[own q _ r]at z;cases z)
 ·obtain⟨_,z,_⟩:=D.fresh q;exact⟨fun w=>(by rw[w,i]at z;cases z),fun w=>(by rw[w,j]at z;cases z),fun w=>by rw[w,s]at z;cases z⟩
theorem eS.val{w:V}(h:eS H0 H kd cd kd2 hd kv cv kv2 hv J0 J1 J2 rooms' ds ds' n)(v:be hv (BH J6 own d)=some w):w=jL (fstM J0 J1 J2 rooms' ds ds' d own J6):=by
 obtain⟨f,g,e,q⟩:=h.hok _ (fV v);injection q with a i;obtain⟨rfl,rfl,rfl⟩:=JV a;exact i
theorem eS.put(h:eS H0 H kd cd kd2 hd kv cv kv2 hv J0 J1 J2 rooms' ds ds' n)(St:tR Cm Ck Cd Cb H0 x mx sl y M kd cd y2 I kd2 hd us J0 J1 J2 rooms' ds ds'):
  eS H0 (upd H hd (.dT (dq hv (BH J6 own d) (jL (fstM J0 J1 J2 rooms' ds ds' d own J6))))) kd cd kd2 hd kv cv kv2 (dq hv (BH J6 own d) (jL (fstM J0 J1 J2 rooms' ds ds' d own J6))) J0 J1 J2 rooms' ds ds' (n+1):=by
 have kt:gF H (upd H hd (.dT (dq hv (BH J6 own d) (jL (fstM J0 J1 J2 rooms' ds ds' d own J6))))):=KA h.hhd;have j:∀{a:Addr}{g:List (TK×V)}{s:Zb}{t:List ao},fj H0 H a g J0 J1 s t n->hd≠a->(∀k b,(k,V.ref b)∈g->b≠hd)->fj H0 (upd H hd (.dT (dq hv (BH J6 own d) (jL (fstM J0 J1 J2 rooms' ds ds' d own J6))))) a g J0 J1 s t (n+1):=fun q u v =>
  ⟨fun b o e=>by rw[ai (ae e St.hdn)];exact q.same _ _ e,by rw[ai u.symm];exact q.hkd,fun p i=>by
   obtain⟨f,d,l,e,w,z,r,st⟩:=q.kok p i;exact⟨f,d,l,e,w,z,iw (fun o A=>by rw[ai (v (eT f) d (by rw[<-e];exact i))];exact A) r,st.kt kt⟩,Nat.le_succ_of_le q.len⟩
 refine⟨⟨j h.md.ks St.n2.1 fun k b q=>(h.d1 k b q).2.1,h.md.ncd,by rw[ai St.n2.2.1.symm];exact h.md.hcd,h.md.cok,Nat.le_succ_of_le h.md.clen⟩,j h.ks St.n2.2.2 fun k b q=>(h.d2 k b q).2.2,aa,fun p i=>?_,aB (ff _ _ _) (uE h.hlen),h.d1,h.d2⟩;rcases vj i with i|rfl
 ·exact h.hok p i
 ·exact⟨_,_,_,rfl⟩
theorem tR.mdM(St:tR Cm Ck Cd Cb H0 x mx sl y M kd cd y2 I kd2 hd us J0 J1 J2 rooms' ds ds')(h:eS H0 H kd cd kd2 hd kv cv kv2 hv J0 J1 J2 rooms' ds ds' n):vX Cm Ck Cd (exH H (Ie kd cd kv)) mx sl y M kd cd us J0 J1 J2 ds :=
 St.md.up (vC h.md.ks.same (h.md.noneP St.md.ks.kdn St.md.cdn)) (rT (.inr (.inl rfl))) (rT (.inl rfl))
theorem tR.ksM(St:tR Cm Ck Cd Cb H0 x mx sl y M kd cd y2 I kd2 hd us J0 J1 J2 rooms' ds ds')(h:eS H0 H kd cd kd2 hd kv cv kv2 hv J0 J1 J2 rooms' ds ds' n):Co Cm Ck (exH H (JS kd2 kv2)) y2 I kd2 J0 J1 rooms' ds' :=
 St.ks.up (vC h.ks.same (h.ks.noneP St.ks.kdn)) (rT (.inl rfl))
end
inductive lD(K:Za)(Cm Ck Cd Cb:Addr)(vs:List V)(H:Hp)(Q:VK)(E:XK):Prop
 |mk (H0:Hp) (x mx sl y M kd cd y2 I kd2 hd u w kl:Addr) (us:Ze) (kv cv kv2 hv:List (TK×V)) (n:Nat) (kind:List Sg) (J6 own J0 J1 J2 rooms':Zb) (ds ds':List ao):(vs=[.ref x,.ref u,.ref w,.ref kl])->(tR Cm Ck Cd Cb H0 x mx sl y M kd cd y2 I kd2 hd us J0 J1 J2 rooms' ds ds')->(eS H0 H kd cd kd2 hd kv cv kv2 hv J0 J1 J2 rooms' ds ds' n)->(H u=some (.tup (J6.map V.str)))->(∀r∈J6,r∈J2)->(J6.length<=1000)->(H w=some (.tup (own.map V.str)))->(∀r∈own,r∈rooms')->(own.length<=1000)->(d_ K H kl kind)->(∀sg∈kind,sg∈b0 J0 J1)->(kind.length<=5)->(n+2<=1000000) ->
  (∀(l:Addr) (ps:Ze) (kv' kv2':List (TK×V)) (H':Hp),H' l=some (.lst (ps.map V.ref))->Paired (IS H') ps (kind.map fun sg=>(behF J2 ds J6 sg,behF rooms' ds' own sg))->eS H0 H' kd cd kd2 hd kv' cv kv2' hv J0 J1 J2 rooms' ds ds' (n+2)->Kp H H'->Q (.ref l) H')->lD K Cm Ck Cd Cb vs H Q E
theorem C9{K:Za}(c:BC K Cb)(h:lD K Cm Ck Cd Cb A H Q E):rB K Ck (kK Cm Ck) Cd (jc Cm Ck Cd) (bo Q) (start sf A) H:=by
 obtain⟨H0,x,mx,sl,y,M,kd,cd,y2,I,L,hd,u,w,kl,us,kv,cv,N,hv,n,O,J6,T,J0,J1,J2,a,ds,U,rfl,St,J,hu,a5,a6,hw,a7,a8,hk,a9,zk,hn,k⟩:=h;obtain⟨dx,fs,g0,l1,l2,l3,l4⟩:=St.ob;obtain⟨dm,fm,gm,_,_,_,m4⟩:=St.md.ob;obtain⟨dy,fy,gy,_,_,y3⟩:=St.ks.ob;refine⟨_,rfl,x,Cb,dx,fs,.ref mx,rfl,J.ks.same _ _ g0,c.cls,c.a1,l1,mx,dm,fm,rfl,J.ks.same _ _ gm,m4 "steps_from" (by decide +kernel) (by decide +kernel) (by decide +kernel),_,rfl,exH H (Ie kd cd kv),mx,sl,y,M,kd,cd,u,us,kv,cv,n,J6,J0,J1,J2,ds,rfl,St.mdM J,J.md.max,hu,a5,a6,by omega,fun sd bc _ H1 D1 v1 _ _ bd _=>?_⟩;have e:=J.step St D1 (by omega);have Y:Kp H H1:=Kp.exB J.md.ks.hkd rfl bd;refine⟨_,rfl,x,Cb,dx,fs,.ref y2,rfl,e.ks.same _ _ g0,c.cls,c.a2,l2,y2,dy,fy,rfl,e.ks.same _ _ gy,y3,_,rfl,exH H1 (JS L N),y2,I,L,w,N,n+1,T,J0,J1,a,U,rfl,St.ksM e,e.ks.max fun _ z=>z,Y _ _ hw rfl,a7,a8,by omega,fun B bi _ H2 D2 v2 _ _ bl _=>?_⟩;have C:=e.stepK St D2 (by omega);have bm:Kp H1 H2:=Kp.exB e.ks.hkd rfl bl;have j:=Y.trans bm;obtain⟨l,r1,bn⟩:=C.md.ks.find v1;obtain⟨m,r2,bu⟩:=C.ks.find v2;obtain⟨ss,bw,al⟩:=hk;have an:=j _ _ bw rfl;refine⟨_,rfl,kl,rfl,⟨_,aw.of an⟩,fun f hf=>?_⟩;refine bY (xs:=ss.map V.ref) (fun i A H'=>∃D:List Addr,A=D.map V.ref/\ab H2 H'/\H' f=some (.lst A)/\Paired (IS H') D ((O.take i).map fun g=>(behF J2 ds J6 g,behF a U T g))) ⟨[],rfl,ab.new hf,aa,.nil⟩ (fun i A H' _ ⟨_,_,S,h',_⟩=>⟨h',aw.of (S _ _ an)⟩) ?_ ?_
 ·rintro A G ⟨D,rfl,t,f3,hP⟩;rw[ah,Paired.length al,bf]at hP;exact k f D bc bi G f3 hP (C.up t) (j.trans (ab.kp t))
 ·rintro i A G z hz hi ⟨D,rfl,t,f3,hP⟩;obtain⟨s,hs,rfl⟩:=bZ hz;obtain⟨g,ap,bz⟩:=Paired.getL al hs;have as:=a9 g (bU ap);have v:cF K G s (g.map V.str):=cF.kt (j.trans (ab.kp t)).kt bz;have aC:=iw (t sd) r1;have a0:=iw (t B) r2;have bI:oh K G sd (.ref s) (be l (eT g)):=.inr ⟨_,eT g,s,aC,rfl,yY v,fH _,rfl⟩;have bS:oh K G B (.ref s) (be m (eT g)):=.inr ⟨_,eT g,s,a0,rfl,yY v,fH _,rfl⟩;refine gN (pL ?_);refine⟨_,rfl,sd,rfl,.inr ⟨_,aC⟩,_,rfl,_,bI,_,rfl,B,rfl,.inr ⟨_,a0⟩,_,rfl,_,bS,(by show 2<=aj;decide),fun p hp=>⟨kp f3 hp,?_,mY hi ⟨D++[p],by rw[av];rfl,?_,aa,?_⟩⟩⟩
  ·rw[ah,Paired.length hP,ah,aJ];exact aq (by omega)
  ·intro b o q;rw[ai (ae q hf)];exact kp (t _ _ q) hp
  ·rw[take_snoc ap,av];have k1:gF G (upd G p (.tup [(be l (eT g)).getD .non,(be m (eT g)).getD .non])):=ab.kt (ab.new hp);have k2:=fg (o:=.lst (D.map V.ref++[.ref p])) (kp (x:=.tup [(be l (eT g)).getD .non,(be m (eT g)).getD .non]) f3 hp);have hk:=k1.trans k2;have a4:=(ab.kt t).trans hk;exact gl (Paired.mapP hP fun _ _ r=>r.kt hk) ⟨_,_,k2 _ _ aa,(bn.fcV as).kt a4,(bu.fcV as).kt a4⟩
open Builtin.Int (intBits)
def fB:Nat->Nat
 |0=>0
 |d+1=>17+25 * fB d+50 * nB d
inductive o7(Cm Ck Cd Cb:Addr)(D:Nat)(vs:List V)(H:Hp)(Q:VK)(E:XK):Prop
 |mk (H0:Hp) (x mx sl y M kd cd y2 I kd2 hd:Addr) (v w:V) (us:Ze) (kv cv kv2 hv:List (TK×V)) (n d:Nat) (J6 own J0 J1 J2 rooms':Zb) (ds ds':List ao):(vs=[.ref x,v,w,.int (d:Nat)])->(d<=D)->(tR Cm Ck Cd Cb H0 x mx sl y M kd cd y2 I kd2 hd us J0 J1 J2 rooms' ds ds')->(eS H0 H kd cd kd2 hd kv cv kv2 hv J0 J1 J2 rooms' ds ds' n)->(KP H v J6)->(∀r∈J6,r∈J2)->(J6.length<=1000)->(KP H w own)->(∀r∈own,r∈rooms')->(own.length<=1000)->(n+fB d<=1000000) ->
  (∀(kv' cv' kv2' hv':List (TK×V)) (H':Hp),eS H0 H' kd cd kd2 hd kv' cv' kv2' hv' J0 J1 J2 rooms' ds ds' (n+fB d)->Kp H H'->Q (jL (fstM J0 J1 J2 rooms' ds ds' d own J6)) H')->o7 Cm Ck Cd Cb D vs H Q E
inductive Bd(K:Za)(Cm Ck Cd Cb:Addr)(D:Nat)(vs:List V)(H:Hp)(Q:VK)(E:XK):Prop
 |mk (H0:Hp) (x mx sl y M kd cd y2 I kd2 hd u w kl:Addr) (us:Ze) (kv cv kv2 hv:List (TK×V)) (n d:Nat) (kind:List Sg) (J6 own J0 J1 J2 rooms':Zb) (ds ds':List ao):(vs=[.ref x,.ref u,.ref w,.int ((d+1:Nat)),.ref kl])->(d<=D)->(d<=4)->(tR Cm Ck Cd Cb H0 x mx sl y M kd cd y2 I kd2 hd us J0 J1 J2 rooms' ds ds')->(eS H0 H kd cd kd2 hd kv cv kv2 hv J0 J1 J2 rooms' ds ds' n)->(H u=some (.tup (J6.map V.str)))->(∀r∈J6,r∈J2)->(J6.length<=1000)->(H w=some (.tup (own.map V.str)))->(∀r∈own,r∈rooms')->(own.length<=1000)->(d_ K H kl kind)->(∀sg∈kind,sg∈b0 J0 J1)->(kind.length<=5)->(n+2+5 * (fB d+nB d)<=1000000) ->
  (∀(kv' cv' kv2' hv':List (TK×V)) (H':Hp),eS H0 H' kd cd kd2 hd kv' cv' kv2' hv' J0 J1 J2 rooms' ds ds' (n+2+5 * (fB d+nB d))->Kp H H'->Q (jL (fstKf J0 J1 J2 rooms' ds ds' d (fstM J0 J1 J2 rooms' ds ds' d) own J6 kind)) H')->Bd K Cm Ck Cd Cb D vs H Q E
inductive uX(K:Za)(Cm Ck Cd Cb:Addr)(D:Nat)(vs:List V)(H:Hp)(Q:VK)(E:XK):Prop
 |mk (H0:Hp) (x mx sl y M kd cd y2 I kd2 hd u w:Addr) (us:Ze) (kv cv kv2 hv:List (TK×V)) (n d:Nat) (J6 own J0 J1 J2 rooms':Zb) (ds ds':List ao):(vs=[.ref x,.ref u,.ref w,.int ((d+1:Nat))])->(d<=D)->(d<=4)->(tR Cm Ck Cd Cb H0 x mx sl y M kd cd y2 I kd2 hd us J0 J1 J2 rooms' ds ds')->(eS H0 H kd cd kd2 hd kv cv kv2 hv J0 J1 J2 rooms' ds ds' n)->(H u=some (.tup (J6.map V.str)))->(∀r∈J6,r∈J2)->(J6.length<=1000)->(H w=some (.tup (own.map V.str)))->(∀r∈own,r∈rooms')->(own.length<=1000)->(n+16+25 * fB d+50 * nB d<=1000000) ->
  (∀(kv' cv' kv2' hv':List (TK×V)) (H':Hp),eS H0 H' kd cd kd2 hd kv' cv' kv2' hv' J0 J1 J2 rooms' ds ds' (n+16+25 * fB d+50 * nB d)->Kp H H'->Q (jL (iM (fun a=>fstKf J0 J1 J2 rooms' ds ds' d (fstM J0 J1 J2 rooms' ds ds' d) own J6 (aR J1 a)) (prodA J0 J1 J2 ds d J6) ((askedF J0 J2 ds J6).map some++[none]) 1)) H')->uX K Cm Ck Cd Cb D vs H Q E
theorem LD{K:Za}(c:BC K Cb)(h:Bd K Cm Ck Cd Cb D vs H Q E):kF K Cb (lD K Cm Ck Cd Cb) Cd (iG Cm Ck Cd 4) (o7 Cm Ck Cd Cb D) (bo Q) (start k5 vs) H:=by
 obtain⟨H0,x,mx,sl,y,M,kd,cd,y2,I,N,hd,u,w,kl,us,kv,cv,b5,hv,n,d,g,A,s,J0,J1,J2,f,ds,ds',rfl,hD,d4,St,Dy,hu,a4,a5,hw,a9,bd,hk,b6,zk,hn,k⟩:=h;obtain⟨dx,fs,g0,l1,l2,l3,l4⟩:=St.ob;obtain⟨dm,fm,gm,_,_,_,m4⟩:=St.md.ob;have mo:=St.md.ks.mach.ok;have b7:=St.ks.mach.ok;have z1:=mo.asks4;have z2:=mo.says4;have z3:=mo.rooms26;have z4:=b7.rooms26;have b4:=xT d d4;refine⟨(by show 0<=aj;decide),fun nl a6=>?_⟩;have Sn:ab H (upd H nl (.lst [])):=ab.new a6;have Lq:upd H nl (.lst []) nl=some (.lst (([]:List Int).map V.int)):=aa;generalize upd H nl (.lst [])=Hn at Sn Lq ⊢;have bi:=Dy.up Sn;have b8:H0 nl=none:=Dy.ks.same.free a6;have cc:d_ K Hn kl g:=by
  obtain⟨gs,h1,h2⟩:=hk;exact⟨gs,Sn _ _ h1,Paired.mapP h2 fun _ _ r=>cF.kt (ab.kt Sn) r⟩
 refine⟨_,rfl,x,dx,fs,rfl,bi.ks.same _ _ g0,l4 "places" (by decide +kernel) (by decide +kernel) (by decide +kernel) (by decide +kernel),_,rfl,_,rfl,_,rfl,H0,x,mx,sl,y,M,kd,cd,y2,I,N,hd,u,w,kl,us,kv,cv,b5,hv,n,g,A,s,J0,J1,J2,f,ds,ds',rfl,St,bi,Sn _ _ hu,a4,a5,Sn _ _ hw,a9,bd,cc,b6,zk,by omega,fun l ps ce bl H1 hl hP cf O=>⟨l,_,rfl,aw.of hl,?_⟩⟩;have zp:ps.length=g.length:=by rw[Paired.length hP,ah]
 have ch:l≠nl∨ps=[]:=by
  by_cases e:l=nl
  ·right
   have:=O _ _ Lq rfl;rw[<-e,hl]at this;injection this with this;injection this with this;exact qS.1 this
  ·exact .inl e
 refine JY (xs:=ps.map V.ref) (fun i σ H'=>∃(B C j G:List (TK×V)) (v:List Int) (L:Int) (x7 x8 x9:Option V),σ=[some (.ref x),some (.ref u),some (.ref w),some (.int ((d+1:Nat))),some (.ref kl),some (.ref nl),some (.int L),x7,x8,x9]/\fW (fun sg=>cntM J0 J1 J2 ds d (behF J2 ds A sg)) (fun sg=>fstM J0 J1 J2 f ds ds' d (behF f ds' s sg) (behF J2 ds A sg)) g.reverse 1=v++fW (fun sg=>cntM J0 J1 J2 ds d (behF J2 ds A sg)) (fun sg=>fstM J0 J1 J2 f ds ds' d (behF f ds' s sg) (behF J2 ds A sg)) (g.reverse.drop i) L/\v.length<=i/\intBits L<=i * bB d+1/\H' nl=some (.lst (v.map V.int))/\(∀b o,H1 b=some o->K_ o=true->b≠nl->H' b=some o)/\eS H0 H' kd cd N hd B C j G J0 J1 J2 f ds ds' (n+2+i * (fB d+nB d)))
  ⟨ce,cv,bl,hv,[],1,_,_,_,rfl,rfl,aD _,by show intBits 1<=_;have:intBits 1<=1:=(by decide);omega,O _ _ Lq rfl,fun _ _ e _ _=>e,cf.more (by omega)⟩ (fun i σ H' hi ⟨_,_,_,_,v,_,_,_,_,_,_,zn,_,as,ex,_⟩=>?_) ?_ ?_
 ·rcases ch with q|q
  ·exact aw.of (ex _ _ hl rfl q)
  ·by_cases e:l=nl
   ·have:v=[]:=by
     rw[q]at hi;cases v with
     |nil=>rfl
     |cons a r=>exact absurd (aB zn hi) (by simp)
    rw[this]at as;rw[q,e];exact aw.of as
   ·exact aw.of (ex _ _ hl rfl e)
 ·rintro i z σ H2 hz hi ⟨B,C,j,G,v,L,x7,x8,x9,rfl,eN,zn,bw,T,an,U⟩;rw[ah]at hz hi;obtain⟨p,hp,rfl⟩:=bZ hz;obtain⟨q,hq,v1,w1,e,fv,fw⟩:=Paired.getL hP hp;rw[cH]at hq;obtain⟨sg,ci,rfl⟩:=k_.1 hq;have il:i<g.length:=by omega
  have bn:g.reverse[i]?=some sg:=by rw[qV il,<-zp];exact ci
  have ed:g.reverse.drop i=sg::g.reverse.drop (i+1):=by
   obtain⟨h1,h2⟩:=bN.1 bn;rw[j_ h1,h2]
  rw[ed]at eN;have c4:(i+1) * (fB d+nB d)=i * (fB d+nB d)+(fB d+nB d):=gJ _ _;have c2:(i+1) * (fB d+nB d)<=5 * (fB d+nB d):=db _ (by omega);have c3:(i+1) * bB d=i * bB d+bB d:=gJ _ _;have cl:i * bB d<=4 * bB d:=db _ (by omega);have ap:gF H1 H2:=fun b xs q=>an _ _ q rfl fun z=>by have:=O _ _ Lq rfl;rw[<-z,q]at this;cases this
  have bu:(((d+1:Nat):Int)-1)=(d:Nat):=by omega
  refine⟨p,_,rfl,bP.of (ap _ _ e),rfl,_,_,rfl,_,_,rfl,rfl,?_⟩;refine⟨_,rfl,x,dx,fs,rfl,U.ks.same _ _ g0,l4 "first_at" (by decide +kernel) (by decide +kernel) (by decide +kernel) (by decide +kernel),_,rfl,_,rfl,_,rfl,_,_,rfl,rfl,H0,x,mx,sl,y,M,kd,cd,y2,I,N,hd,v1,w1,us,B,C,j,G,_,d,behF J2 ds A sg,behF f ds' s sg,J0,J1,J2,f,ds,ds',?_,hD,St,U,fv.kt ap,qG a4,f8 (by omega) a5,fw.kt ap,qG a9,f8 (by omega) bd,by omega,fun a7 bz aC bI H3 bS a8=>?_⟩
  ·show[V.ref x,v1,w1,V.int (((d+1:Nat):Int)-1)]=_;rw[bu]
  have J:=a8 _ _ T rfl;have bc:=jI (J0:=J0) (J1:=J1) (J2:=J2) (ds:=ds) z1 z2 d (behF J2 ds A sg);have a0:∀(Y:List Int) (H4:Hp),v++FT (fstM J0 J1 J2 f ds ds' d (behF f ds' s sg) (behF J2 ds A sg)) L=Y->Y.length<=i+1->H4 nl=some (.lst (Y.map V.int))->(∀b o,H3 b=some o->b≠nl->H4 b=some o)->eS H0 H4 kd cd N hd a7 bz aC bI J0 J1 J2 f ds ds' (n+2+i * (fB d+nB d)+fB d) ->
    (aN (aH oo V6 (cq Cd "count_at" (iG Cm Ck Cd 4) [] E0 (fQ K V0 "made") (aX V7 (aH mS V3 (tC (.int 1)))))) U6) { nx:=fun σ H'=>∃(B C j G:List (TK×V)) (v:List Int) (L:Int) (x7 x8 x9:Option V),σ=[some (.ref x),some (.ref u),some (.ref w),some (.int ((d+1:Nat))),some (.ref kl),some (.ref nl),some (.int L),x7,x8,x9]/\fW (fun sg=>cntM J0 J1 J2 ds d (behF J2 ds A sg)) (fun sg=>fstM J0 J1 J2 f ds ds' d (behF f ds' s sg) (behF J2 ds A sg)) g.reverse 1=v++fW (fun sg=>cntM J0 J1 J2 ds d (behF J2 ds A sg)) (fun sg=>fstM J0 J1 J2 f ds ds' d (behF f ds' s sg) (behF J2 ds A sg)) (g.reverse.drop (i+1)) L/\v.length<=i+1/\intBits L<=(i+1) * bB d+1/\H' nl=some (.lst (v.map V.int))/\(∀b o,H1 b=some o->K_ o=true->b≠nl->H' b=some o)/\eS H0 H' kd cd N hd B C j G J0 J1 J2 f ds ds' (n+2+(i+1) * (fB d+nB d)),rt:=Q } [some (.ref x),some (.ref u),some (.ref w),some (.int ((d+1:Nat))),some (.ref kl),some (.ref nl),some (.int L),some v1,some w1,some (jL (fstM J0 J1 J2 f ds ds' d (behF f ds' s sg) (behF J2 ds A sg)))] H4:=by
   intro Y H4 en cm b1 b2 al;have co:gF H1 H4:=fun b xs q=>b2 _ _ (a8 _ _ (ap _ _ q) rfl) fun z=>by have:=O _ _ Lq rfl;rw[<-z,q]at this;cases this
   refine⟨_,rfl,_,rfl,x,Cb,dx,fs,.ref mx,rfl,al.ks.same _ _ g0,c.cls,c.a1,l1,mx,dm,fm,rfl,al.ks.same _ _ gm,m4 "count_at" (by decide +kernel) (by decide +kernel) (by decide +kernel),_,rfl,_,rfl,_,_,rfl,rfl,exH H4 (Ie kd cd a7),mx,sl,y,M,kd,cd,us,v1,a7,bz,_,d,behF J2 ds A sg,J0,J1,J2,ds,?_,d4,St.mdM al,al.md.max,?_,?_,qG a4,f8 (by omega) a5,by omega,fun cp cs H5 D5 b3 _=>?_⟩
   ·show[V.ref mx,v1,V.int (((d+1:Nat):Int)-1)]=_;rw[bu]
   ·exact(fv.kt co).imp id fun⟨u,e,_,q⟩=>⟨u,e,q⟩
   ·rcases fv with⟨rfl,_⟩|⟨u,rfl,q,_⟩
    ·exact fun z=>absurd rfl z
    ·exact fun _=>q
   have ct:=al.step St D5 (by omega);refine⟨_,_,rfl,rfl,oB bw bc (by omega),cp,cs,aC,bI,Y,_,_,_,_,rfl,?_,cm,?_,b3 _ _ b1 rfl,fun b o q no nb=>b3 _ _ (b2 _ _ (a8 _ _ (an _ _ q no nb) no) nb) no,ct.more (by omega)⟩
   ·rw[eN,<-en,eV];rfl
   ·have:=intBits_mul_le bw bc;omega
  refine⟨_,rfl,_,rfl,?_⟩;cases ef:fstM J0 J1 J2 f ds ds' d (behF f ds' s sg) (behF J2 ds A sg)with
  |none =>
   have t:=a0 v H3 (by rw[ef];exact dO _) (by omega) J (fun _ _ e _=>e) bS;rw[ef]at t;exact bD t
  |some m =>
   obtain⟨m0,m1⟩:=kP J0 J1 J2 f ds ds' d _ _ m ef;have bm:=xO m0 (qN m1) bc;refine bT ⟨_,rfl,.inl ⟨rfl,_,aw.of J⟩,_,rfl,_,rfl,_,_,rfl,rfl,oB bm bw (by omega),nl,_,_,rfl,rfl,J,by rw[ah];exact aq (by omega),?_⟩;have t:=a0 (v++[m * L]) (upd H3 nl (.lst (v.map V.int++[.int (m * L)]))) (by rw[ef];rfl) (by rw[ba];show _+1<=_;omega) (by rw[aa,av];rfl) (fun b o e nb=>by rw[ai nb];exact e) (bS.cell b8 J);rw[ef]at t;exact t
 ·rintro σ H2 ⟨B,C,j,G,v,L,x7,x8,x9,rfl,eN,zn,bw,T,an,U⟩;rw[ah,zp,<-eK,mE]at eN;have eN:_=v++[]:=eN;rw[dO]at eN;rw[ah,zp]at U;have m5:g.length * (fB d+nB d)<=5 * (fB d+nB d):=db _ zk;have c0:Kp H H2:=fun b o q no=>an _ _ (O _ _ (Sn _ _ q) no) no (ae q a6);have kk:=k B C j G H2 (U.more (by omega)) c0;unfold fstKf at kk;rw[eN]at kk;refine⟨_,rfl,nl,v,rfl,aw.of T,fun e=>?_,fun m hm c1=>?_⟩
  ·rw[e]at kk;exact kk
  ·rw[JR hm c1]at kk;exact kk
theorem K0{K:Za}(c:BC K Cb)(h:uX K Cm Ck Cd Cb D vs H Q E):kb K Cd (kI K Cm Ck Cd) (js K Cm Ck Cd 4) Cb (Bd K Cm Ck Cd Cb D) (bo Q) (start kj vs) H:=by
 obtain⟨H0,x,J,sl,y,M,kd,cd,y2,I,an,hd,u,w,us,kv,cv,a6,hv,n,d,J6,o,j,J1,J2,f,ds,g,rfl,hD,d4,St,Dy,hu,L,N,hw,a7,a8,hn,k⟩:=h;obtain⟨dx,fs,g0,l1,l2,l3,l4⟩:=St.ob;obtain⟨dm,fm,gm,_,_,_,m4⟩:=St.md.ob;have mo:=St.md.ks.mach.ok;have z1:=mo.asks4;have z2:=mo.says4;refine⟨_,rfl,x,Cb,dx,fs,.ref J,rfl,Dy.ks.same _ _ g0,c.cls,c.a1,l1,J,dm,fm,rfl,Dy.ks.same _ _ gm,m4 "kinds_at" (by decide +kernel) (by decide +kernel) (by decide +kernel),_,rfl,exH H (Ie kd cd kv),J,sl,y,M,kd,cd,u,us,kv,cv,n,J6,j,J1,J2,ds,rfl,St.mdM Dy,Dy.md.max,hu,L,N,by omega,fun l ks a9 H1 hl hK E1 C _=>⟨l,rfl,⟨_,aw.of hl⟩,?_⟩⟩;have D1:=Dy.step St E1 (by omega);have u1:=C _ _ hu rfl;have w1:=C _ _ hw rfl;rw[jV]at hK;generalize hA:((askedF j J2 ds J6).map some++[none]:List (Option Str))=A at hK k;have zA:A.length<=5:=by
  rw[<-hA,ba,ah];have:(askedF j J2 ds J6).length<=4:=aB (cQ _ _) z1;show _+1<=5;omega
 have O:ks.length=A.length:=by rw[Paired.length hK,ah]
 have ap:∀a∈A,∀sg∈aR J1 a,sg∈b0 j J1:=fun a ha=>GH (J2:=J2) (ds:=ds) (J6:=J6) (by rw[hA];exact ha);refine bR (xs:=ks.map V.ref) (fun i σ H'=>∃(bc bd as bi:List (TK×V)) (p:Int) (x5 x6:Option V),σ=[some (.ref x),some (.ref u),some (.ref w),some (.int ((d+1:Nat))),some (.int p),x5,x6]/\iM (fun a=>fstKf j J1 J2 f ds g d (fstM j J1 J2 f ds g d) o J6 (aR J1 a)) (prodA j J1 J2 ds d J6) A 1=iM (fun a=>fstKf j J1 J2 f ds g d (fstM j J1 J2 f ds g d) o J6 (aR J1 a)) (prodA j J1 J2 ds d J6) (A.drop i) p/\Kp H1 H'/\eS H0 H' kd cd an hd bc bd as bi j J1 J2 f ds g (n+1+i * (3+5 * fB d+10 * nB d)))
  ⟨a9,cv,a6,hv,1,_,_,rfl,rfl,fun _ _ e _=>e,D1.more (by omega)⟩ (fun i σ H' _ ⟨_,_,_,_,_,_,_,_,_,bl,_⟩=>aw.of (bl _ _ hl rfl)) ?_ ?_
 ·rintro i z σ H2 hz ⟨v,T,B,U,p,x5,x6,rfl,ea,t,D2⟩;obtain⟨q,hq,rfl⟩:=bZ hz;have il:i<A.length:=by rw[<-O];exact(bN.1 hq).1
  obtain⟨b,Y⟩:∃b,A[i]?=some b:=⟨_,de il⟩;obtain⟨bS,r,aC⟩:=Paired.getL hK hq;rw[cH,Y]at r;injection r with r;subst r;have ed:A.drop i=b::A.drop (i+1):=by
   obtain⟨h1,h2⟩:=bN.1 Y;rw[j_ h1,h2]
  rw[ed]at ea;have b1:(i+1) * (3+5 * fB d+10 * nB d)=i * (3+5 * fB d+10 * nB d)+(3+5 * fB d+10 * nB d):=gJ _ _;have bI:(i+1) * (3+5 * fB d+10 * nB d)<=5 * (3+5 * fB d+10 * nB d):=db _ (by omega);have a0:=ap b (bU Y);have zp:(aR J1 b).length<=5:=by rw[eF];omega
  refine⟨_,rfl,x,dx,fs,rfl,D2.ks.same _ _ g0,l4 "first_of_kind" (by decide +kernel) (by decide +kernel) (by decide +kernel) (by decide +kernel),_,rfl,_,rfl,_,rfl,_,rfl,H0,x,J,sl,y,M,kd,cd,y2,I,an,hd,u,w,q,us,v,T,B,U,_,d,aR J1 b,J6,o,j,J1,J2,f,ds,g,rfl,hD,d4,St,D2,t _ _ u1 rfl,L,N,t _ _ w1 rfl,a7,a8,aC.kp t,a0,zp,by omega,fun al a4 G a5 H3 D3 bm=>?_⟩;refine⟨_,rfl,_,rfl,?_⟩;have s:=t.trans bm;cases ef:fstKf j J1 J2 f ds g d (fstM j J1 J2 f ds g d) o J6 (aR J1 b)with
  |some m =>
   refine bT ⟨_,rfl,_,rfl,_,_,rfl,rfl,?_⟩;have kk:=k al a4 G a5 H3 (D3.more (by omega)) (C.trans s);rw[ea]at kk;have:iM (fun a=>fstKf j J1 J2 f ds g d (fstM j J1 J2 f ds g d) o J6 (aR J1 a)) (prodA j J1 J2 ds d J6) (b::A.drop (i+1)) p=some (p+m):=by
    unfold iM;rw[ef]
   rw[this]at kk;exact kk
  |none =>
   refine bD ?_;have bn:iM (fun a=>fstKf j J1 J2 f ds g d (fstM j J1 J2 f ds g d) o J6 (aR J1 a)) (prodA j J1 J2 ds d J6) A 1=iM (fun a=>fstKf j J1 J2 f ds g d (fstM j J1 J2 f ds g d) o J6 (aR J1 a)) (prodA j J1 J2 ds d J6) (A.drop (i+1)) (p+prodA j J1 J2 ds d J6 b):=by
    rw[ea];conv=>lhs;unfold iM
    rw[ef]
   refine⟨_,rfl,_,rfl,x,Cb,dx,fs,.ref J,rfl,D3.ks.same _ _ g0,c.cls,c.a1,l1,J,dm,fm,rfl,D3.ks.same _ _ gm,m4 "count_of" (by decide +kernel) (by decide +kernel) (by decide +kernel),_,rfl,_,rfl,_,rfl,exH H3 (Ie kd cd al),J,sl,y,M,kd,cd,u,q,us,al,a4,_,d,aR J1 b,J6,j,J1,J2,ds,rfl,by omega,by omega,St.mdM D3,D3.md.max,s _ _ u1 rfl,L,N,aC.kp s,a0,zp,by omega,fun bu bw H5 E5 bz _=>?_⟩;have D5:=D3.step St E5 (by omega);exact⟨_,_,rfl,rfl,bu,bw,G,a5,_,_,_,rfl,bn,s.trans bz,D5.more (by omega)⟩
 ·rintro σ H2 ⟨v,T,B,U,p,x5,x6,rfl,ea,t,D2⟩;rw[ah,O,mE]at ea;rw[ah,O]at D2;have m5:A.length * (3+5 * fB d+10 * nB d)<=5 * (3+5 * fB d+10 * nB d):=db _ zA;have kk:=k v T B U H2 (D2.more (by omega)) (C.trans t);rw[ea]at kk;exact kk
theorem K1{K:Za}(c:BC K G){D:Nat}{J:Sp}(d5:D<=4)(hO:∀m,D=m+1->J=uX K Cm Ck Cd G m)(h:o7 Cm Ck Cd G D vs H Q E):oW K G J (bo Q) (start pA vs) H:=by
 obtain⟨H0,x,mx,sl,y,M,kd,cd,y2,I,L,q,v,w,us,kv,cv,N,hv,n,d,J6,own,O,T,U,f,Y,i,rfl,hD,St,Dy,fv,ap,as,fw,aC,a0,hn,k⟩:=h;obtain⟨dx,fs,g0,l1,l2,l3,l4⟩:=St.ob;have g:∀r:Option Int,fstM O T U f Y i d own J6=r->Q (jL r) H:=fun r e=>by
  have:=k kv cv N hv H (Dy.more (by omega)) (fun _ _ e _=>e);rw[e]at this;exact this
 refine⟨_,rfl,_,rfl,?_⟩;rcases fw with⟨rfl,rfl⟩|⟨t,rfl,nw,hw⟩
 ·exact bT (g none (nQ _ _ _ _ _ _ _ _))
 refine bD ?_;refine⟨_,rfl,_,rfl,?_⟩;rcases fv with⟨rfl,rfl⟩|⟨u,rfl,nf,hu⟩
 ·exact bT (g (some 0) (qy _ _ _ _ _ _ _ nw))
 refine bD ?_;refine⟨_,rfl,rfl,_,rfl,?_⟩
 match d,hD,hn,k,g with
 |0,_,_,_,g =>
  exact bT (g none (qw _ _ _ _ _ _ nw nf))
 |d+1,hD,hn,k,g =>
 rw[zzr0 (by intro z;injection z with z;omega)];refine bD ?_;obtain⟨m,rfl⟩:∃m,D=m+1:=⟨D-1,by omega⟩;cases hO m rfl;have eq:=qx O T U f Y i d nw nf;have nb:fB (d+1)=17+25 * fB d+50 * nB d:=rfl;have al:∀{A B j o:List (TK×V)}{H':Hp},eS H0 H' kd cd L q A B j o O T U f Y i (n+fB (d+1))->Kp H H'->be o (BH J6 own (d+1))=some (jL (fstM O T U f Y i (d+1) own J6))->(aW (iD K (fQ K V0 "known_firsts") (bg (cg V1 V2 V3)))) (bo Q) [some (.ref x),some (.ref u),some (.ref t),some (.int ((d+1:Nat)))] H':=by
  intro A B j o H' D' C v';refine⟨_,rfl,x,G,dx,fs,.ref q,rfl,D'.ks.same _ _ g0,c.cls,c.a4,l3,_,rfl,_,rfl,_,rfl,(by show 3<=aj;decide),fun p hp=>?_⟩;have S:ab H' (upd H' p (.tup [.ref u,.ref t,.int ((d+1:Nat))])):=ab.new hp;have tk:=DE (d:=d+1) (aa (H:=H') (a:=p)) (S _ _ (C _ _ hu rfl)) (S _ _ (C _ _ hw rfl));exact⟨q,_,rfl,.inr ⟨_,BH J6 own (d+1),p,.inl (S _ _ D'.hhd),rfl,cU.isIn 8 (kU _ _ _) tk,kU _ _ _,v'.symm⟩,k A B j o _ (D'.up S) (C.trans (ab.kp S))⟩
 refine⟨_,rfl,_,rfl,_,rfl,(by show 3<=aj;decide),fun p hp=>?_⟩;have S:ab H (upd H p (.tup [.ref u,.ref t,.int ((d+1:Nat))])):=ab.new hp;have tk:=DE (d:=d+1) (aa (H:=H) (a:=p)) (S _ _ hu) (S _ _ hw);generalize upd H p (.tup [.ref u,.ref t,.int ((d+1:Nat))])=H1 at S tk ⊢;have D1:=Dy.up S;refine⟨_,rfl,x,G,dx,fs,.ref q,rfl,D1.ks.same _ _ g0,c.cls,c.a4,l3,q,_,rfl,.inr ⟨_,BH J6 own (d+1),p,.inl D1.hhd,rfl,cU.isIn 8 (kU _ _ _) tk,kU _ _ _,rfl⟩,_,rfl,?_⟩;cases s:be hv (BH J6 own (d+1))with
 |some w' =>
  refine bD ?_;exact al (D1.more (by omega)) (ab.kp S) (by rw[s,Dy.val s])
 |none =>
  refine bT ?_;refine⟨_,rfl,x,dx,fs,rfl,D1.ks.same _ _ g0,l4 "first_of_kinds" (by decide +kernel) (by decide +kernel) (by decide +kernel) (by decide +kernel),_,rfl,_,rfl,_,rfl,H0,x,mx,sl,y,M,kd,cd,y2,I,L,q,u,t,us,kv,cv,N,hv,n,d,J6,own,O,T,U,f,Y,i,rfl,by omega,by omega,St,D1,S _ _ hu,ap,as,S _ _ hw,aC,a0,by omega,fun a8 a9 a7 bc H3 D3 a5=>?_⟩;rw[<-eq];have l:Kp H H3:=(ab.kp S).trans a5;refine⟨_,rfl,x,G,dx,fs,.ref q,rfl,D3.ks.same _ _ g0,c.cls,c.a4,l3,_,rfl,_,rfl,_,rfl,(by show 3<=aj;decide),fun p2 a6=>?_⟩;have S4:ab H3 (upd H3 p2 (.tup [.ref u,.ref t,.int ((d+1:Nat))])):=ab.new a6;have an:=DE (d:=d+1) (aa (H:=H3) (a:=p2)) (S4 _ _ (l _ _ hu rfl)) (S4 _ _ (l _ _ hw rfl));generalize upd H3 p2 (.tup [.ref u,.ref t,.int ((d+1:Nat))])=H4 at S4 an ⊢;have D4:=D3.up S4;have cl:=D4.hlen;refine⟨q,_,rfl,.inr ⟨_,BH J6 own (d+1),p2,D4.hhd,rfl,an,kU _ _ _,by rw[sv];omega,rfl⟩,?_⟩;have D5:=D4.put (J6:=J6) (own:=own) (d:=d+1) St;exact al (D5.more (by omega)) ((l.trans (ab.kp S4)).trans (Kp.upd D4.hhd rfl)) (by rw[iC,if_pos rfl])
inductive nH(Cm Ck Cd Cb:Addr)(vs:List V)(H:Hp)(Q:VK)(E:XK):Prop
 |mk (H0:Hp) (x dx M I:Addr) (J0 J1 J2 rooms':Zb) (ds ds':List ao):(vs=[.ref x,.ref M,.ref I])->(H x=some (.ins Cb dx []))->(bV Cm H0 M J0 J1 J2 ds)->(bV Cm H0 I J0 J1 rooms' ds')->(H0 x=none)->(ab H0 H) ->
  (∀(Hs:Hp) (mx sl y kd cd y2 kd2 fd:Addr) (us:Ze) (H':Hp),tR Cm Ck Cd Cb Hs x mx sl y M kd cd y2 I kd2 fd us J0 J1 J2 rooms' ds ds'->eS Hs H' kd cd kd2 fd [] [] [] [] J0 J1 J2 rooms' ds ds' 0->ab H0 Hs->Q .non H')->nH Cm Ck Cd Cb vs H Q E
theorem FQ{K:Za}(c:BC K Cb)(h:nH Cm Ck Cd Cb vs H Q E):oX K Ck (kJ Ck) Cd (nG Cm Ck Cd) (bo Q) (start pB vs) H:=by
 obtain⟨H0,x,dx,M,I,J0,J1,J2,bm,ds,co,rfl,hx,MA,IA,bn,S0,k⟩:=h;have up:∀{H1 L:Hp}{o:HO},ab H0 H1->L=upd H1 x o->ab H0 L:=fun S e b o q=>by rw[e,ai (ae q bn)];exact S _ _ q
 refine⟨_,rfl,fun N dm ap bu cp=>?_⟩;have Sm:ab H (upd (upd H dm (.own N)) N (.ins Cd dm [])):=fun b o e=>by rw[ai (ae e ap)];exact kp e bu
 refine⟨H,N,dm,M,J0,J1,J2,ds,rfl,aa,MA.same S0,ap,Sm,fun bw sl y D G us H1 m a S1=>⟨rfl,?_⟩⟩;have as:ab H H1:=S1.trans a.ks.same;have p:=as _ _ hx;obtain⟨bz,bI,gm,p1,p2,p3,p4⟩:=m.ob;obtain⟨dy,fy,gy,q1,q2,q3⟩:=m.ks.ob;refine⟨_,rfl,x,Cb,dx,[],rfl,p,c.cls,c.a1,(by decide),?_⟩;obtain⟨L,e2,T,X2⟩:=ng "made" (.ref N) p;rw[<-e2];have S2:=up (S0.trans as) e2;have ch:(cR ("made":Str) (.ref N) []).length<=1:=du _ _ _;refine⟨_,rfl,fun A r U aC cs=>?_⟩;have S3:ab L (upd (upd L r (.own A)) A (.ins Ck r [])):=fun b o e=>by rw[ai (ae e U)];exact kp e aC
 generalize bS:upd (upd L r (.own A)) A (.ins Ck r [])=H3 at S3 ⊢;have b1:H3 A=some (.ins Ck r []):=by rw[<-bS];exact aa
 refine⟨A,r,I,rfl,b1,fun i b2 H4 b3 m1 m2 m3 O j b4=>⟨rfl,?_⟩⟩;have n4:∀{b:Addr}{o:HO},L b=some o->H4 b=some o:=fun e=>b4 _ _ (S3 _ _ e) (ae e U);have a0:=n4 T;refine⟨_,rfl,x,Cb,dx,_,rfl,a0,c.cls,c.a2,by omega,?_⟩;obtain⟨H5,e5,a5,X5⟩:=ng "own_steps" (.ref A) a0;rw[<-e5];have S5:ab H0 H5:=up (fun b o e=>n4 (S2 _ _ e)) e5;have ci:=du ("own_steps":Str) (.ref A) (cR ("made":Str) (.ref N) []);refine fun hd s=>⟨_,rfl,x,Cb,dx,_,rfl,kp a5 s,c.cls,c.a3,by omega,?_⟩;obtain⟨H7,e7,Y,X7⟩:=ng "known_harmless" (.ref hd) (kp (x:=.dT []) a5 s);rw[<-e7];have S7:ab H0 H7:=up (S5.trans (ab.new s)) e7;have cl:=du ("known_harmless":Str) (.ref hd) (cR ("own_steps":Str) (.ref A) (cR ("made":Str) (.ref N) []));refine fun t g=>⟨_,rfl,x,Cb,dx,_,rfl,kp Y g,c.cls,c.a4,by omega,?_⟩;obtain⟨w,e9,b5,X9⟩:=ng "known_firsts" (.ref t) (kp (x:=.dT []) Y g);rw[<-e9];have S9:ab H0 w:=up (S7.trans (ab.new g)) e9;have al:∀{b:Addr}{o:HO},H5 b=some o->b≠x->w b=some o:=fun e n=>X9 _ _ (kp (X7 _ _ (kp e s) n) g) n;have b6:∀{b:Addr}{o:HO},L b=some o->b≠x->w b=some o:=fun e n=>al (X5 _ _ (n4 e) n) n;have u:∀{b:Addr}{o:HO},H1 b=some o->b≠x->w b=some o:=fun e n=>b6 (X2 _ _ e n) n;have a6:A≠x:=(ae T U).symm;have J:i≠x:=(ae (S3 _ _ T) j).symm;have b7:t≠x:=(ae Y g).symm;have B:D≠x:=fun z=>by have:=a.ks.hkd;rw[z,p]at this;cases this
 have C:G≠x:=fun z=>by have:=a.hcd;rw[z,p]at this;cases this
 have a7:=u a.ks.hkd B;have a8:=u a.hcd C;have a9:=al (X5 _ _ O J) J;have bc:w t=some (.dT []):=X9 _ _ aa b7;have b8:=al (X5 _ _ b3 a6) a6;have cm:H0 i=none:=(S2.trans S3).free j;have ct:H0 t=none:=S7.free g;have e1:i≠D:=fun z=>by rw[z]at j;have:=S3 _ _ (X2 _ _ a.ks.hkd B);rw[j]at this;cases this
 have cc:i≠G:=fun z=>by rw[z]at j;have:=S3 _ _ (X2 _ _ a.hcd C);rw[j]at this;cases this
 have e3:t≠D:=fun z=>by rw[z]at g;have:=X7 _ _ (kp (X5 _ _ (n4 (X2 _ _ a.ks.hkd B)) B) s) B;rw[g]at this;cases this
 have e4:t≠G:=fun z=>by rw[z]at g;have:=X7 _ _ (kp (X5 _ _ (n4 (X2 _ _ a.hcd C)) C) s) C;rw[g]at this;cases this
 have ce:t≠i:=fun z=>by rw[z]at g;have:=X7 _ _ (kp (X5 _ _ O J) s) J;rw[g]at this;cases this
 have cv:H0 D=none:=(S0.trans S1).free m.ks.kdn;have c0:H0 G=none:=(S0.trans S1).free m.cdn;have SH:ab H0 (exH w fun b=>b=D∨b=G∨b=i∨b=t):=vC S9 fun b z=>by rcases z with rfl|rfl|rfl|rfl<;>assumption
 have st:∀{b:Addr}{o:HO},w b=some o->K_ o=true->exH w (fun b=>b=D∨b=G∨b=i∨b=t) b=some o:=fun e n=>by
  rw[qz (fun z=>?_)]
  ·exact e
  ·rcases z with rfl|rfl|rfl|rfl
   ·rw[a7]at e;cases e;cases n
   ·rw[a8]at e;cases e;cases n
   ·rw[a9]at e;cases e;cases n
   ·rw[bc]at e;cases e;cases n
 have SS:ab (exH w fun b=>b=D∨b=G∨b=i∨b=t) w:=BM;generalize cf:exH w (fun b=>b=D∨b=G∨b=i∨b=t)=Hs at SH st SS;have out:∀b,(b=D∨b=G∨b=i∨b=t)->Hs b=none:=fun b z=>by rw[<-cf];exact rT z
 have bd:∀{b C' d':Addr}{fs:List (Str×V)}{f:Str}{v:V},H1 b=some (.ins C' d' fs)->lk f fs=some v->b≠x:=fun e l z=>by
  rw[z,p]at e;cases e;cases l
 have kt:gF bw Hs:=fun b xs e=>st (u (a.ks.same _ _ e) fun z=>by have:=a.ks.same _ _ e;rw[z,p]at this;cases this) rfl;have bi:=a.ks.same _ _ gm;have bl:=a.ks.same _ _ gy;have an:=a.ks.same _ _ m.hsl;refine k Hs N sl y D G A i t us w ⟨⟨⟨MA.same SH,⟨dy,fy,st (u bl (bd bl q1)) rfl,q1,q2,q3⟩,out _ (.inl rfl)⟩,⟨bz,bI,st (u bi (bd bi p1)) rfl,p1,p2,p3,p4⟩,st (u an fun z=>by rw[z,p]at an;cases an) rfl,ki.kt kt m.sg,out _ (.inr (.inl rfl)),m.ne⟩,⟨IA.same SH,⟨r,b2,st b8 rfl,m1,m2,m3⟩,out _ (.inr (.inr (.inl rfl)))⟩,⟨dx,_,st b5 rfl,?_,?_,?_,?_⟩,out _ (.inr (.inr (.inr rfl))),⟨e1,cc⟩,⟨e3,e4,ce⟩⟩
  ⟨⟨⟨SS,a7,fun _ h=>(by cases h),aD _⟩,fun _ h=>(by cases h),a8,fun _ h=>(by cases h),aD _⟩,⟨SS,a9,fun _ h=>(by cases h),aD _⟩,bc,fun _ h=>(by cases h),aD _,fun _ _ h=>(by cases h),fun _ _ h=>(by cases h)⟩ SH
 ·show fL _ _=_;repeat (rw[aV];first|rw[if_pos rfl] | rw[if_neg (by decide +kernel)])
 ·show fL _ _=_;repeat (rw[aV];first|rw[if_pos rfl] | rw[if_neg (by decide +kernel)])
 ·show fL _ _=_;repeat (rw[aV];first|rw[if_pos rfl] | rw[if_neg (by decide +kernel)])
 ·intro f r1 r2 r3 r4;show fL _ _=_;rw[aV,if_neg r4,aV,if_neg r3,aV,if_neg r2,aV,if_neg r1];rfl
inductive pX(Cm:Addr)(vs:List V)(H:Hp)(Q:VK)(E:XK):Prop
 |mk (M I:Addr) (d:Nat) (J0 J1 J2 rooms':Zb) (ds ds':List ao):(vs=[.ref M,.int (d:Nat),.ref I])->(d<=4)->(bV Cm H M J0 J1 J2 ds)->(bV Cm H I J0 J1 rooms' ds')->(∀r∈rooms',∀a∈J0,i4 ds' r a)->(∀H',ab H H'->Q (jL (fstM J0 J1 J2 rooms' ds ds' d (closF rooms' ds' (rooms'.take 1)) (closF J2 ds (J2.take 1)))) H')->pX Cm vs H Q E
theorem LW:∀d,d<=4->fB d<=1000000:=by
 intro d a
 match d,a with
 |0,_=>decide
 |1,_=>decide
 |2,_=>decide
 |3,_=>decide
 |4,_=>decide
theorem Hu{K:Za}(h:pX m vs H Q E):uM K r (nH m Ck Cd r) (o7 m Ck Cd r 4) (dz m) eE (gQ m) (bo Q) (start vU vs) H:=by
 obtain⟨M,I,d,g,i,n,a,ds,f,rfl,s,p,q,tk,k⟩:=h;have z3:=p.ok.rooms26;have z4:=q.ok.rooms26;have b2:=LW d s;refine⟨_,rfl,_,rfl,M,I,g,i,n,a,ds,f,rfl,p,q,tk,fun u v=>?_⟩;refine⟨_,rfl,d,rfl,s,?_⟩;have M1:=p.same v;have I1:=q.same v;refine⟨_,rfl,_,rfl,fun x w O z ne=>?_⟩;have S2:ab u (upd (upd u w (.own x)) x (.ins r w [])):=fun b o e=>by rw[ai (ae e O)];exact kp e z
 refine⟨u,x,w,M,I,g,i,n,a,ds,f,rfl,aa,M1,I1,O,S2,fun Hs mx sl y kd cd y2 A B us H3 St C S3=>⟨rfl,?_⟩⟩;obtain⟨D,G,g1,l1,_,_,l4⟩:=St.ob;refine⟨x,D,G,rfl,C.ks.same _ _ g1,l4 "first_at" (by decide +kernel) (by decide +kernel) (by decide +kernel) (by decide +kernel),_,rfl,M,g,i,n,ds,rfl,St.md.ks.mach.same C.ks.same,fun t F H4 T hF S4=>?_⟩;rw[nj hF]at T;have j:=C.up S4;have J:=BT (ds:=ds) p.ok.rooms0;have L:=BT (ds:=f) q.ok.rooms0;refine⟨_,rfl,I,g,i,a,f,rfl,St.ks.mach.same j.ks.same,fun U F' H6 l N Y=>?_⟩;rw[nj N]at l;refine⟨_,rfl,Hs,x,mx,sl,y,M,kd,cd,y2,I,A,B,.ref t,.ref U,us,[],[],[],[],0,d,_,_,g,i,n,a,ds,f,rfl,s,St,j.up Y,.inr ⟨t,rfl,J,Y _ _ T⟩,rX,aB kY (by omega),.inr ⟨U,rfl,L,l⟩,rX,aB kY (by omega),by omega,fun an ap al as H7 D7 _=>k H7 ((v.trans S3).trans D7.ks.same)⟩
open Builtin.Int (intBits)
def BF(a b:Zb)(d:Nat):TK:=.t [.k (some (.inr "first")),eT a,eT b,.k (some (.inl (d:Int)))]
theorem JU(h:BF a b d=BF g i j):a=g/\b=i/\d=j:=by
 unfold BF at h;injection h with h;injection h with _ h;injection h with k f;injection f with f e;injection e with e _;injection e with e;injection e with e;injection e with e;exact⟨eP k,eP f,by omega⟩
theorem kT(a b:Zb)(d:Nat):(BF a b d).depth<=8:=by
 show max 0 (max (eT a).depth (max (eT b).depth (max 0 0)))+1<=8;rw[fA,fA];decide
theorem Dz{H:Hp}{p u w:Addr}{a b:Zb}{d:Nat}(e:H p=some (.tup [.str "first",.ref u,.ref w,.int (d:Nat)]))(f:H u=some (.tup (a.map V.str)))(g:H w=some (.tup (b.map V.str))):cU H (BF a b d) (.ref p):=by
 unfold BF cU;refine⟨p,_,rfl,e,?_⟩;unfold TKAts;refine⟨_,_,rfl,by unfold cU;rfl,?_⟩;unfold TKAts;refine⟨_,_,rfl,SignAt.tk f,?_⟩;unfold TKAts;refine⟨_,_,rfl,SignAt.tk g,?_⟩;unfold TKAts;exact⟨_,_,rfl,by unfold cU;rfl,by unfold TKAts;rfl⟩
def Fn(J0 J1 J2 rooms':Zb)(ds ds':List ao)(p:TK×V):Prop:=∃(own J6:Zb) (d:Nat),p=(BF own J6 d,jL (fstM J0 J1 J2 rooms' ds ds' d own J6))
theorem vB:Kg (Fn J0 J1 J2 rooms' ds ds'):=by
 rintro p ⟨a,g,d,rfl⟩;refine⟨fun f s e=>?_,fun f d e=>?_⟩
 ·have e:BF a g d=xW f s:=e;unfold BF xW at e;injection e with e;injection e with _ e;injection e with _ e;cases e
 ·rename_i h;have e:BF a g h=qF f d:=e;unfold BF qF at e;injection e with e;injection e with _ e;injection e with _ e;cases e
theorem Fn.val{w:V}(h:df (Fn J0 J1 J2 rooms' ds ds') H m j J0 J1 J2 ds n)(v:be j (BF a g d)=some w):w=jL (fstM J0 J1 J2 rooms' ds ds' d a g):=by
 have ok:=vB (J0:=J0) (J1:=J1) (J2:=J2) (rooms':=rooms') (ds:=ds) (ds':=ds') _ ⟨a,g,d,rfl⟩;rcases h.kok _ (fV v)with⟨f,s,u,e,_⟩|⟨f,i,e⟩|⟨o,p,i,e⟩
 ·injection e with e _;exact absurd e (ok.1 f s)
 ·injection e with e _;exact absurd e (ok.2 f i)
 ·injection e with k l;obtain⟨rfl,rfl,rfl⟩:=JU k;exact l
def jB:Nat->Nat
 |0=>0
 |d+1=>5+25 * (1+jB d+lB d)
inductive h_(K:Za)(D:Nat)(vs:List V)(H:Hp)(Q:VK)(E:XK):Prop
 |mk (H0:Hp) (t l1 l2 l3 l4 t' m1 m2 m3 m4 kd ow fu:Addr) (ts ts':Ze) (kv:List (TK×V)) (n d:Nat) (own J6 J0 J1 J2 rooms':Zb) (ds ds':List ao):(vs=[.ref t,.ref t',.ref kd,.ref ow,.ref fu,.int (d:Nat)])->(d<=D)->(hC H0 t l1 l2 l3 l4 ts J0 J1 J2 ds)->(aQ J0 J1 J2 ds)->(hC H0 t' m1 m2 m3 m4 ts' J0 J1 rooms' ds')->(aQ J0 J1 rooms' ds')->(H0 kd=none)->(ab H0 H)->(df (Fn J0 J1 J2 rooms' ds ds') H kd kv J0 J1 J2 ds n)->(H ow=some (.tup (own.map V.str)))->(own.length<=1000)->(H fu=some (.tup (J6.map V.str)))->(J6.length<=1000)->(n+jB d<=8000000) ->
  (∀(kv':List (TK×V)) (H':Hp),df (Fn J0 J1 J2 rooms' ds ds') H' kd kv' J0 J1 J2 ds (n+jB d)->bA kd H H'->Q (jL (fstM J0 J1 J2 rooms' ds ds' d own J6)) H')->h_ K D vs H Q E
theorem FM{K:Za}{D:Nat}{b8:Sp}(d5:D<=4)(hR:∀m,D=m+1->b8=h_ K m)(h:h_ K D vs H Q E):AW K (kL K) jr (jP K 4) b8 (rJ K) (ju K) (bo Q) (start sV vs) H:=by
 obtain⟨H0,t,l1,l2,l3,l4,t',m1,m2,m3,m4,kd,ow,U,ts,cc,kv,n,d,own,g,J0,J1,J2,f,ds,ds',rfl,hD,T,m,T',m',h0,S0,Dy,ho,cd,hf,a5,hn,k⟩:=h;have z1:=m.asks4;have z2:=m.says4;have z3:=m.rooms26;have z4:=m'.rooms26;have ret:∀Hx,ab H Hx->(own=[]∨g=[]∨d=0)->(aW (aH (dY K) (c9 (aX (tC .non) (tC (.int 0)))) (gP Kw (ay (A_ (aH (wK K) V3 (bg (bh))) (aH (mU K) V4 (bg (bh)))))))) (bo Q) (start sV [.ref t,.ref t',.ref kd,.ref ow,.ref U,.int (d:Nat)]) Hx:=by
  intro Hx Sx hc;refine⟨(by show 2<=aj;decide),fun ll dm=>?_⟩;have S1:ab Hx (upd Hx ll (.lst [.non,.int 0])):=ab.new dm;have a6:upd Hx ll (.lst [.non,.int 0]) ll=some (.lst [.non,.int 0]):=aa;generalize upd Hx ll (.lst [.non,.int 0])=Y at S1 a6 ⊢;have u:=Sx.trans S1;refine⟨_,rfl,(by show 0<=aj;decide),fun e1 an=>⟨iL own,iL [],aZ (bP.of (kp (u _ _ ho) an)),aZ (bP.of aa),by rw[bL];decide,by rw[bL];decide,_,rfl,?_⟩⟩;rw[fI];have M:ab Y (upd Y e1 (.tup [])):=ab.new an;generalize upd Y e1 (.tup [])=H2 at M ⊢;by_cases c:own=[]
  ·rw[zzr1 c];refine bD (.inr ⟨false,rfl,ll,_,0,.non,rfl,rfl,aw.of (M _ _ a6),rfl,?_⟩);have:=k kv H2 ((Dy.up (u.trans M)).more (by omega)) (ab.exBs (u.trans M));rw[c,nQ]at this;exact this
  ·rw[zzr0 c];refine bT ⟨_,rfl,(by show 0<=aj;decide),fun e2 ap=>⟨iL g,iL [],aZ (bP.of (kp ((u.trans M) _ _ hf) ap)),aZ (bP.of aa),by rw[bL];decide,by rw[bL];decide,?_⟩⟩;rw[fI];have S3:ab H2 (upd H2 e2 (.tup [])):=ab.new ap;generalize upd H2 e2 (.tup [])=H3 at S3 ⊢;have ce:=(u.trans M).trans S3;have kk:=k kv H3 ((Dy.up ce).more (by omega)) (ab.exBs ce);by_cases c':g=[]
   ·rw[zzr1 c'];refine .inr ⟨true,rfl,ll,_,1,.int 0,rfl,rfl,aw.of (S3 _ _ (M _ _ a6)),rfl,?_⟩;rw[c',qy _ _ _ _ _ _ d c]at kk;exact kk
   ·rw[zzr0 c'];refine .inr ⟨false,rfl,ll,_,0,.non,rfl,rfl,aw.of (S3 _ _ (M _ _ a6)),rfl,?_⟩;have d0:d=0:=hc.elim (fun z=>absurd z c) fun z=>z.elim (fun z=>absurd z c') id;rw[d0,qw _ _ _ _ _ _ c c']at kk;exact kk
 refine⟨_,rfl,(by show 0<=aj;decide),fun e1 an=>⟨iL own,iL [],aZ (bP.of (kp ho an)),aZ (bP.of aa),by rw[bL];decide,by rw[bL];decide,_,rfl,?_⟩⟩;rw[fI];have Sa:ab H (upd H e1 (.tup [])):=ab.new an;generalize upd H e1 (.tup [])=Ha at Sa ⊢;by_cases co:own=[]
 ·rw[zzr1 co];refine bT (bT ?_);exact ret Ha Sa (.inl co)
 rw[zzr0 co];refine bD ?_;refine⟨_,rfl,(by show 0<=aj;decide),fun e2 ap=>⟨iL g,iL [],aZ (bP.of (kp (Sa _ _ hf) ap)),aZ (bP.of aa),by rw[bL];decide,by rw[bL];decide,_,rfl,?_⟩⟩;rw[fI];have Sb:ab Ha (upd Ha e2 (.tup [])):=ab.new ap;generalize upd Ha e2 (.tup [])=Hb at Sb ⊢;have L:=Sa.trans Sb;by_cases cf:g=[]
 ·rw[zzr1 cf];refine bT (bT ?_);exact ret Hb L (.inr (.inl cf))
 rw[zzr0 cf];refine bD ?_;refine⟨_,rfl,rfl,_,rfl,?_⟩
 match d,hD,hn,k,ret with
 |0,_,_,_,ret =>
  refine bT ?_;exact ret Hb L (.inr (.inr rfl))
 |d+1,hD,hn,k,_ =>
 rw[zzr0 (by intro z;injection z with z;omega)];refine bD ?_;obtain⟨w,rfl⟩:∃w,D=w+1:=⟨D-1,by omega⟩;cases hR w rfl;have nb:jB (d+1)=5+25 * (1+jB d+lB d):=rfl;have b4:=xT d (by omega);have Db:=Dy.up L;have ob:=L _ _ ho;have fb:=L _ _ hf;have dn:=S0.trans L;refine⟨_,rfl,_,rfl,_,rfl,(by show 4<=aj;decide),fun p hp=>?_⟩;have I:ab Hb (upd Hb p (.tup [.str "first",.ref ow,.ref U,.int ((d+1:Nat))])):=ab.new hp
 have ch:=Dz (d:=d+1) (aa (H:=Hb) (a:=p)) (I _ _ ob) (I _ _ fb);generalize upd Hb p (.tup [.str "first",.ref ow,.ref U,.int ((d+1:Nat))])=Y at I ch ⊢
 have D1:=Db.up I;have S1:=L.trans I;have o1:=I _ _ ob;have f1:=I _ _ fb;have u:=dn.trans I;refine⟨_,rfl,kd,_,rfl,.inr ⟨_,BF own g (d+1),p,.inl D1.hkd,rfl,cU.isIn 8 (kT _ _ _) ch,kT _ _ _,rfl⟩,_,rfl,?_⟩;cases bi:be kv (BF own g (d+1))with
 |some w' =>
  refine bT ⟨_,rfl,_,rfl,_,rfl,_,rfl,(by show 4<=aj;decide),fun p2 b1=>?_⟩;have M:ab Y (upd Y p2 (.tup [.str "first",.ref ow,.ref U,.int ((d+1:Nat))])):=ab.new b1
  have dp:=Dz (d:=d+1) (aa (H:=Y) (a:=p2)) (M _ _ o1) (M _ _ f1);refine⟨kd,_,rfl,.inr ⟨_,BF own g (d+1),p2,.inl (M _ _ D1.hkd),rfl,cU.isIn 8 (kT _ _ _) dp,kT _ _ _,bi.symm⟩,?_⟩;rw[Fn.val Dy bi];exact k kv _ ((D1.up M).more (by omega)) (ab.exBs (S1.trans M))
 |none =>
  refine bD ?_;refine⟨_,rfl,_,rfl,_,rfl,Fn J0 J1 J2 f ds ds',vB,H0,t,l1,l2,l3,l4,kd,U,ts,kv,n,g,J0,J1,J2,ds,rfl,T,m,h0,u,D1,f1,a5,by omega,fun al dr H2 dv D2 dx=>⟨(by show 1<=aj;decide),fun as dy=>?_⟩⟩;have za:(askedF J0 J2 ds g).length<=4:=aB (cQ _ _) z1;have S3:ab H2 (upd H2 as (.lst [.non])):=ab.new dy;have ci:upd H2 as (.lst [.non]) as=some (.lst [.non]):=aa;generalize upd H2 as (.lst [.non])=H3 at S3 ci ⊢;refine⟨al,as,_,_,rfl,rfl,S3 _ _ dv,ci,by rw[ah];exact cV (aq (by show _+1<=1000;omega)),fun cl dK=>?_⟩;have S4:ab H3 (upd H3 cl (.lst ((askedF J0 J2 ds g).map V.str++[.non]))):=ab.new dK;have aC:upd H3 cl (.lst ((askedF J0 J2 ds g).map V.str++[.non])) cl=some (.lst (((askedF J0 J2 ds g).map some++[none]).map np)):=by
   rw[aa,av,jg];rfl
  generalize upd H3 cl (.lst ((askedF J0 J2 ds g).map V.str++[.non]))=H4 at S4 aC ⊢;have D4:=(D2.up S3).up S4;have cm:bA kd Y H4:=dx.trs (ab.exBs (S3.trans S4));have dT:cl≠kd:=fun z=>by have:=D4.hkd;rw[<-z,aC]at this;cases this
  have dV:∀sg,0<(fun sg=>cntM J0 J1 J2 ds d (behF J2 ds g sg)) sg:=fun sg=>jY J0 J1 J2 ds d _;have cp:lN (fun a=>fW (fun sg=>cntM J0 J1 J2 ds d (behF J2 ds g sg)) (fun sg=>fstM J0 J1 J2 f ds ds' d (behF f ds' own sg) (behF J2 ds g sg)) (aR J1 a).reverse 1) (prodA J0 J1 J2 ds d g) ((askedF J0 J2 ds g).map some++[none]) 1 none=fstM J0 J1 J2 f ds ds' (d+1) own g:=by
   rw[qx _ _ _ _ _ _ d co cf];exact xw (nK J0 J1 J2 ds d g) (fun a x hx=>by
    have:=lK dV (fun sg n e=>kP J0 J1 J2 f ds ds' d _ _ n e) (aR J1 a).reverse 1 (by decide) x hx;rw[xY,qd]at this;exact this) _ 1
  generalize hA:((askedF J0 J2 ds g).map some++[none]:List (Option Str))=A at aC cp;have zA:A.length<=5:=by rw[<-hA,ba,ah];show _+1<=5;omega
  refine⟨cl,rfl,⟨_,aw.of aC⟩,?_⟩;refine bR (xs:=A.map np) (fun i σ H'=>∃(a0:List (TK×V)) (s:Int) (y:Option Int) (x8 x9 B C G:Option V),σ=[some (.ref t),some (.ref t'),some (.ref kd),some (.ref ow),some (.ref U),some (.int ((d+1:Nat))),some (.int s),some (jL y),x8,x9,B,C,G]/\lN (fun a=>fW (fun sg=>cntM J0 J1 J2 ds d (behF J2 ds g sg)) (fun sg=>fstM J0 J1 J2 f ds ds' d (behF f ds' own sg) (behF J2 ds g sg)) (aR J1 a).reverse 1) (prodA J0 J1 J2 ds d g) A 1 none=lN (fun a=>fW (fun sg=>cntM J0 J1 J2 ds d (behF J2 ds g sg)) (fun sg=>fstM J0 J1 J2 f ds ds' d (behF f ds' own sg) (behF J2 ds g sg)) (aR J1 a).reverse 1) (prodA J0 J1 J2 ds d g) (A.drop i) s y/\df (Fn J0 J1 J2 f ds ds') H' kd a0 J0 J1 J2 ds (n+4+i * (5 * (1+jB d+lB d)))/\bA kd H4 H')
   ⟨dr,1,none,_,_,_,_,_,rfl,rfl,D4.more (by omega),bA.refl _ _⟩ (fun i σ H' _ ⟨_,_,_,_,_,_,_,_,_,_,_,ex⟩=>aw.of (ex _ _ aC dT)) ?_ ?_
  ·rintro i v σ H5 hi ⟨cs,s,y,x8,x9,B,C,G,rfl,el,D5,a7⟩;rw[cH]at hi;obtain⟨ask,bl,rfl⟩:=k_.1 hi;have il:i<A.length:=(bN.1 bl).1;have ed:A.drop i=ask::A.drop (i+1):=by
    obtain⟨h1,h2⟩:=bN.1 bl;rw[j_ h1,h2]
   rw[ed]at el;have ew:(i+1) * (5 * (1+jB d+lB d))=i * (5 * (1+jB d+lB d))+5 * (1+jB d+lB d):=gJ _ _;have et:(i+1) * (5 * (1+jB d+lB d))<=5 * (5 * (1+jB d+lB d)):=db _ (by omega);have J:=cm.trs a7;have d1:=bA.sameH u h0 J;refine⟨_,rfl,_,rfl,t,l1,l2,l3,l4,ts,ask,J0,J1,J2,ds,rfl,T.same d1,z2,fun pl us H6 d2 hP S6=>⟨pl,_,rfl,aw.of d2,fun rl d3=>?_⟩⟩;rw[<-List.map_reverse];have S7:ab H6 (upd H6 rl (.lst (us.reverse.map V.ref))):=ab.new d3;have a8:upd H6 rl (.lst (us.reverse.map V.ref)) rl=some (.lst (us.reverse.map V.ref)):=aa;generalize upd H6 rl (.lst (us.reverse.map V.ref))=H7 at S7 a8 ⊢;have b2:=S6.trans S7;have D7:=D5.up b2;have d4:rl≠kd:=fun z=>by have:=D7.hkd;rw[<-z,a8]at this;cases this
   have zk:=eF J1 ask;have zu:us.length=J1.length+1:=by rw[Paired.length hP,zk]
   have d7:ki H7 us.reverse (aR J1 ask).reverse:=ki.kt (ab.kt S7) (Paired.rev hP);have ct:bA kd Y H7:=J.trs (ab.exBs b2);refine⟨rl,rfl,⟨_,aw.of a8⟩,?_⟩;refine bR (xs:=us.reverse.map V.ref) (fun j σ H'=>∃(a0:List (TK×V)) (r:Int) (l:Option Int) (B C G:Option V),σ=[some (.ref t),some (.ref t'),some (.ref kd),some (.ref ow),some (.ref U),some (.int ((d+1:Nat))),some (.int s),some (jL l),some (np ask),some (.int r),B,C,G]/\(fW (fun sg=>cntM J0 J1 J2 ds d (behF J2 ds g sg)) (fun sg=>fstM J0 J1 J2 f ds ds' d (behF f ds' own sg) (behF J2 ds g sg)) (aR J1 ask).reverse 1).foldl (fun y x=>i0 y (s+x)) y=(fW (fun sg=>cntM J0 J1 J2 ds d (behF J2 ds g sg)) (fun sg=>fstM J0 J1 J2 f ds ds' d (behF f ds' own sg) (behF J2 ds g sg)) ((aR J1 ask).reverse.drop j) r).foldl (fun y x=>i0 y (s+x)) l/\r * Dk (fun sg=>cntM J0 J1 J2 ds d (behF J2 ds g sg)) ((aR J1 ask).reverse.drop j)=prodA J0 J1 J2 ds d g ask/\intBits r<=j * bB d+1/\df (Fn J0 J1 J2 f ds ds') H' kd a0 J0 J1 J2 ds (n+4+i * (5 * (1+jB d+lB d))+j * (1+jB d+lB d))/\bA kd H7 H')
    ⟨cs,1,y,_,_,_,rfl,rfl,by rw[xY];exact qd _ _,by show intBits 1<=_;have:intBits 1<=1:=(by decide);omega,D7.more (by omega),bA.refl _ _⟩ (fun j σ H' _ ⟨_,_,_,_,_,_,_,_,_,_,_,ex⟩=>aw.of (ex _ _ a8 d4)) ?_ ?_
   ·rintro j z σ H8 hj ⟨b3,r,l,B,C,G,rfl,en,ep,bw,D8,a4⟩;obtain⟨su,d8,rfl⟩:=bZ hj;obtain⟨sg,cv,c0⟩:=Paired.getL d7 d8;have jl:j<(aR J1 ask).reverse.length:=(bN.1 cv).1;rw[eK,zk]at jl;have d9:(aR J1 ask).reverse.drop j=sg::(aR J1 ask).reverse.drop (j+1):=by
     obtain⟨h1,h2⟩:=bN.1 cv;rw[j_ h1,h2]
    rw[d9]at en ep;have eu:(j+1) * (1+jB d+lB d)=j * (1+jB d+lB d)+(1+jB d+lB d):=gJ _ _;have ea:(j+1) * (1+jB d+lB d)<=5 * (1+jB d+lB d):=db _ (by omega);have ev:(j+1) * bB d=j * bB d+bB d:=gJ _ _;have eb:j * bB d<=4 * bB d:=db _ (by omega);have bn:=ct.trs a4;have b5:=bA.sameH u h0 bn;have c1:gF H7 H8:=bA.ktd D7.hkd a4;have bz:gF Y H8:=bA.ktd D1.hkd bn;have c2:(((d+1:Nat):Int)-1)=(d:Nat):=by omega
    refine⟨_,rfl,_,rfl,_,rfl,_,rfl,Fn J0 J1 J2 f ds ds',vB,H0,t,l1,l2,l3,l4,kd,U,su,ts,b3,_,sg,g,J0,J1,J2,ds,rfl,T,m,h0,b5,D8,bz _ _ f1,c1 _ _ c0,a5,by omega,fun bu ec H9 c3 D9 a9=>?_⟩;have c4:=bA.sameH b5 h0 a9;have c5:gF Y H9:=fun b xs q=>bA.ktd D8.hkd a9 _ _ (bz _ _ q);have c8:gF H7 H9:=fun b xs q=>bA.ktd D8.hkd a9 _ _ (c1 _ _ q);refine⟨_,rfl,_,rfl,_,rfl,_,rfl,_,rfl,_,rfl,t',ow,su,m1,m2,m3,m4,cc,J0,J1,f,own,sg,ds',rfl,T'.same c4,m',c5 _ _ o1,bP.of (c8 _ _ c0),cd,fun ou Ha ee O=>?_⟩;refine⟨_,rfl,_,rfl,_,_,rfl,rfl,H0,t,l1,l2,l3,l4,t',m1,m2,m3,m4,kd,ou,bu,ts,cc,ec,_,d,behF f ds' own sg,behF J2 ds g sg,J0,J1,J2,f,ds,ds',?_,by omega,T,m,T',m',h0,c4.trans O,D9.up O,ee,f8 (by omega) cd,O _ _ c3,f8 (by omega) a5,by omega,fun ei b6 ej dc=>?_⟩
    ·show[V.ref t,V.ref t',V.ref kd,V.ref ou,V.ref bu,V.int (((d+1:Nat):Int)-1)]=_;rw[c2]
    have bI:bA kd H8 b6:=a9.trs ((ab.exBs O).trs dc);have ek:=bA.sameH b5 h0 bI;have bc:=jI (J0:=J0) (J1:=J1) (J2:=J2) (ds:=ds) z1 z2 d (behF J2 ds g sg);have dd:b6 bu=some (.tup ((behF J2 ds g sg).map V.str)):=bA.ktd (D9.up O).hkd dc _ _ (O _ _ c3);have N:∀bd:Option Int,(FT (fstM J0 J1 J2 f ds ds' d (behF f ds' own sg) (behF J2 ds g sg)) r).foldl (fun y x=>i0 y (s+x)) l=bd ->
      (aN (aH oo V9 (aL (jP K 4) (am V0 (cg V2 Li (aH mS V5 (tC (.int 1))))))) U9) { nx:=fun σ H'=>∃(a0:List (TK×V)) (r:Int) (l:Option Int) (B C G:Option V),σ=[some (.ref t),some (.ref t'),some (.ref kd),some (.ref ow),some (.ref U),some (.int ((d+1:Nat))),some (.int s),some (jL l),some (np ask),some (.int r),B,C,G]/\(fW (fun sg=>cntM J0 J1 J2 ds d (behF J2 ds g sg)) (fun sg=>fstM J0 J1 J2 f ds ds' d (behF f ds' own sg) (behF J2 ds g sg)) (aR J1 ask).reverse 1).foldl (fun y x=>i0 y (s+x)) y=(fW (fun sg=>cntM J0 J1 J2 ds d (behF J2 ds g sg)) (fun sg=>fstM J0 J1 J2 f ds ds' d (behF f ds' own sg) (behF J2 ds g sg)) ((aR J1 ask).reverse.drop (j+1)) r).foldl (fun y x=>i0 y (s+x)) l/\r * Dk (fun sg=>cntM J0 J1 J2 ds d (behF J2 ds g sg)) ((aR J1 ask).reverse.drop (j+1))=prodA J0 J1 J2 ds d g ask/\intBits r<=(j+1) * bB d+1/\df (Fn J0 J1 J2 f ds ds') H' kd a0 J0 J1 J2 ds (n+4+i * (5 * (1+jB d+lB d))+(j+1) * (1+jB d+lB d))/\bA kd H7 H',rt:=Q } [some (.ref t),some (.ref t'),some (.ref kd),some (.ref ow),some (.ref U),some (.int ((d+1:Nat))),some (.int s),some (jL bd),some (np ask),some (.int r),some (.ref su),some (.ref bu),some (jL (fstM J0 J1 J2 f ds ds' d (behF f ds' own sg) (behF J2 ds g sg)))] b6:=by
     intro bd e2;refine⟨_,rfl,_,rfl,_,rfl,_,rfl,_,rfl,_,_,rfl,rfl,Fn J0 J1 J2 f ds ds',vB,H0,t,l1,l2,l3,l4,kd,bu,ts,ei,_,d,behF J2 ds g sg,J0,J1,J2,ds,?_,by omega,T,m,h0,ek,ej,dd,f8 (by omega) a5,by omega,fun eo Hc er es=>?_⟩
     ·show[V.ref t,V.ref kd,V.ref bu,V.int (((d+1:Nat):Int)-1)]=_;rw[c2]
     refine⟨_,_,rfl,rfl,oB bw bc (by omega),eo,_,bd,_,_,_,rfl,?_,?_,?_,er.more (by omega),a4.trs (bI.trs es)⟩
     ·rw[en,<-e2];show(FT _ r++fW _ _ _ _).foldl _ l=_;rw[yd]
     ·rw[<-ep];show _=r * (Dk _ _ * _);rw[uj,ui (Dk _ _)]
     ·have:=intBits_mul_le bw bc;omega
    refine⟨_,rfl,_,rfl,?_⟩;cases ef:fstM J0 J1 J2 f ds ds' d (behF f ds' own sg) (behF J2 ds g sg)with
    |none =>
     refine bD ?_;have tt:=N l (by rw[ef];rfl);rw[ef]at tt;exact bD tt
    |some nn =>
     obtain⟨n0,n1⟩:=kP J0 J1 J2 f ds ds' d _ _ nn ef;have bm:=xO n0 (qN n1) bc;refine bT ⟨_,rfl,_,rfl,?_⟩;cases b7:l with
     |none =>
      refine bT ?_;have tt:=N (some (s+nn * r)) (by rw[ef,b7];rfl);rw[ef]at tt;refine bT ⟨_,rfl,_,rfl,_,rfl,_,_,rfl,rfl,oB bm bw (by omega),_,_,rfl,rfl,tt⟩
     |some b =>
      refine bD ⟨_,rfl,_,rfl,_,rfl,_,_,rfl,rfl,oB bm bw (by omega),_,_,rfl,rfl,_,rfl,_,_,rfl,rfl,_,rfl,?_⟩;by_cases cl:s+nn * r<b
      ·have tt:=N (some (s+nn * r)) (by rw[ef,b7];show(if s+nn * r<b then _ else _)=_;rw[if_pos cl])
       rw[ef]at tt;rw[zzr1 (by exact cl)];refine bT ⟨_,rfl,_,rfl,_,rfl,_,_,rfl,rfl,oB bm bw (by omega),_,_,rfl,rfl,tt⟩
      ·have tt:=N (some b) (by rw[ef,b7];show(if s+nn * r<b then _ else _)=_;rw[if_neg cl])
       rw[ef]at tt;rw[zzr0 (by exact cl)];exact bD tt
   ·rintro σ H8 ⟨b3,r,l,B,C,G,rfl,en,ep,bw,D8,a4⟩;have dg:(us.reverse.map V.ref).length=(aR J1 ask).reverse.length:=by rw[ah,eK,eK,zu,zk]
    rw[dg,mE]at en ep;rw[dg,eK,zk]at D8;have ep:r * 1=_:=ep;rw[Ek]at ep;have m5:(J1.length+1) * (1+jB d+lB d)<=5 * (1+jB d+lB d):=db _ (by omega);refine⟨_,rfl,_,rfl,_,_,rfl,rfl,b3,_,l,_,_,_,_,_,rfl,?_,D8.more (by omega),a7.trs ((ab.exBs b2).trs a4)⟩;rw[el]
    conv=>lhs;unfold lN
    rw[en,ep];rfl
  ·rintro σ H5 ⟨cs,s,y,x8,x9,B,C,G,rfl,el,D5,a7⟩;rw[ah,mE]at el;rw[ah]at D5;have el:_=y:=el;rw[cp]at el;have m5:A.length * (5 * (1+jB d+lB d))<=5 * (5 * (1+jB d+lB d)):=db _ zA;have J:=cm.trs a7;have bS:gF Y H5:=bA.ktd D1.hkd J;refine⟨_,rfl,_,rfl,_,rfl,_,rfl,_,rfl,(by show 4<=aj;decide),fun p2 b1=>?_⟩;have S6:ab H5 (upd H5 p2 (.tup [.str "first",.ref ow,.ref U,.int ((d+1:Nat))])):=ab.new b1
   have di:=Dz (d:=d+1) (aa (H:=H5) (a:=p2)) (S6 _ _ (bS _ _ o1)) (S6 _ _ (bS _ _ f1));generalize upd H5 p2 (.tup [.str "first",.ref ow,.ref U,.int ((d+1:Nat))])=H6 at S6 di ⊢
   have D6:=D5.up S6;have cl:=D6.len;refine⟨kd,_,rfl,.inr ⟨_,BF own g (d+1),p2,D6.hkd,rfl,di,kT _ _ _,by rw[sv];omega,rfl⟩,?_⟩;have D7:=D6.put (k:=BF own g (d+1)) (v:=jL y) (.inr (.inr ⟨own,g,d+1,by rw[el]⟩));have kk:=k _ _ (D7.more (m:=n+jB (d+1)) (by omega)) ((ab.exBs S1).trs ((J.trs (ab.exBs S6)).trs fun b o e nb=>by rw[ai nb];exact e));rw[el]at kk;exact⟨_,rfl,kk⟩
theorem vK{K:Za}{l:Addr}{ws:Zb}{ps:List DT}{Q:Hp->Prop}(B:cF K H b xs)(s:nq K H xs (mD sK ws ps))(O:ws.length=ps.length)(z:ws.length<=1000)(t:H l=none)
  (k:∀(f:List V) (a:Hp),a l=some (.lst f)->nq K a f ps->ab H a->Q a):eC 2 [] σ (KO K b) (jM K 2 (bv U0 (bv U1 (jH)))) (iS) V1 H l Q:=by
 have C:=Paired.length s;rw[List.length_zipWith]at C;refine vJ (xs:=xs) (fun i f a=>ab H a/\a l=some (.lst f)/\nq K a f (ps.take i)) ⟨ab.new t,aa,.nil⟩ (fun i f a _ ⟨S,m,_⟩=>⟨m,cF.sq (cF.kt (ab.kt S) B)⟩) ?_ ?_
 ·rintro f a ⟨S,m,g⟩;have D:xs.length=ps.length:=by omega
  rw[D,bf]at g;exact k f a m g S
 ·rintro i f u x n E ⟨S,v,g⟩;obtain⟨d,A⟩:∃d,ps[i]?=some d:=⟨_,de (by omega)⟩;obtain⟨w,G⟩:∃w,ws[i]?=some w:=⟨_,de (by omega)⟩;obtain⟨y,j,h⟩:=Paired.getL s n;rw[List.getElem?_zipWith,G,A]at j;injection j with j;rw[<-j]at h;obtain⟨c,I,rfl,J,T,L,rfl,M,N,p,rfl,q,r⟩:=h;have r:p=[]:=r;subst r;refine⟨c,_,rfl,cF.sq (cF.kt (ab.kt S) J),rfl,_,_,rfl,_,_,rfl,rfl,pL ?_⟩;have kt:gF u (upd u l (.lst (f++[N]))):=fg v;refine⟨_,rfl,v,?_,mY E ⟨fun b o e=>?_,aa,?_⟩⟩
  ·rw[Paired.length g,aJ];exact aq (by omega)
  ·rw[ai (ae e t)];exact S _ _ e
  ·rw[take_snoc A];exact gl (nq.kt kt g) (tK.kt (fun b xs e=>kt _ _ (ab.kt S _ _ e)) _ _ q)
inductive nF(K:Za)(vs:List V)(H:Hp)(Q:VK)(E:XK):Prop
 |mk (v:V) (a:Option Str) (ps:List Tr) (J1:Zb):(vs=[v])->(tK K H ((Tr.nd a ps).dt J1) v)->(ps.length=J1.length+1)->(J1.length<=4)->(∀(q l:Addr) (us:List V) (H':Hp),H' q=some (.tup [np a,.ref l])->H' l=some (.lst us)->nq K H' us (Tr.dts J1 ps)->ab H H'->Q (.ref q) H')->nF K vs H Q E
theorem FH{K:Za}(h:nF K vs H Q E):zh K (bo Q) (start Aw vs) H:=by
 obtain⟨v,a,ps,n,rfl,s,ok,z4,k⟩:=h;have zd:(Tr.dts n ps).length=n.length+1:=by rw[Tr.dts_map,ah,ok]
 have s:tK K H (mN n a (Tr.dts n ps)) v:=s;generalize Tr.dts n ps=f at zd s k;cases a with
 |some a =>
  obtain⟨d0,g⟩:∃d,f[0]?=some d:=⟨_,de (by omega)⟩;rw[sF g]at s;have ec:f=d0::f.drop 1:=by
   cases f with
   |nil=>cases g
   |cons x r=>injection g with g;rw[g];rfl
  obtain⟨b,xs,rfl,p,x0,al,rfl,t,x1,an,rfl,J,e,L,rfl,e2,x3,ap,rfl,e3,u⟩:=s;have u:ap=[]:=u;subst u;have t:x0=V.str "tell":=t;have J:x1=V.str a:=J;subst t J;refine⟨_,rfl,b,_,0,_,rfl,rfl,cF.sq p,ca (j:=0) rfl,rfl,_,rfl,?_⟩;rw[zzr1 rfl];refine bT ?_;refine⟨_,rfl,b,_,1,_,rfl,rfl,cF.sq p,ca (j:=1) rfl,_,rfl,b,_,2,e,rfl,rfl,cF.sq p,ca (j:=2) rfl,(by show 1<=aj;decide),fun l w=>?_⟩;have y:ab H (upd H l (.lst [e])):=ab.new w;have M:upd H l (.lst [e]) l=some (.lst [e]):=aa;generalize upd H l (.lst [e])=H1 at y M ⊢;obtain⟨b3,a0,rfl,N,as⟩:=e3;refine⟨_,rfl,b,_,3,.ref b3,rfl,rfl,cF.sq (cF.kt (ab.kt y) p),ca (j:=3) rfl,b3,rfl,⟨_,cF.sq (cF.kt (ab.kt y) N)⟩,fun cl A=>?_⟩;refine vK (ws:=n) (ps:=f.drop 1) (cF.kt (ab.kt y) N) (nq.kt (ab.kt y) (nq.of as)) (by rw[dS];omega) (by omega) A fun i m h2 O G=>?_;have zu:i.length<=4:=by rw[Paired.length O,dS];omega
  refine⟨l,cl,_,_,rfl,rfl,G _ _ M,h2,cV (aq (by show 1+_<=1000;omega)),fun r hr=>⟨(by show 2<=aj;decide),fun q B=>?_⟩⟩;have C:ab m (upd m r (.lst ([e]++i))):=ab.new hr;have r3:upd m r (.lst ([e]++i)) r=some (.lst (e::i)):=aa
  change upd m r (.lst ([e]++i)) q=none at B
  show Q (.ref q) (upd (upd m r (.lst ([e]++i))) q (.tup [.str a,.ref r]));generalize upd m r (.lst ([e]++i))=o at C r3 B ⊢;have I:ab o (upd o q (.tup [.str a,.ref r])):=ab.new B;have T:=G.trans (C.trans I);refine k q r (e::i) _ aa (I _ _ r3) ?_ (y.trans T);rw[ec];exact .cons (tK.kt (ab.kt (y.trans T)) _ _ e2) (nq.kt (ab.kt (C.trans I)) O)
 |none =>
  obtain⟨d0,g⟩:∃d,f[n.length]?=some d:=⟨_,de (by omega)⟩;rw[sG g]at s;have ec:f=f.take n.length++[d0]:=by rw[<-take_snoc g,<-zd,bf]
  obtain⟨b,xs,rfl,p,x0,al,rfl,t,x1,an,rfl,J,e,L,rfl,e2,u⟩:=s;have u:L=[]:=u;subst u;have t:x0=V.str "wait":=t;subst t;refine⟨_,rfl,b,_,0,_,rfl,rfl,cF.sq p,ca (j:=0) rfl,rfl,_,rfl,?_⟩;rw[zzr0 (by intro z;injection z with z;exact absurd z (by decide))];refine bD ?_;obtain⟨b1,a4,rfl,U,aC⟩:=J;refine⟨_,rfl,b,_,1,.ref b1,rfl,rfl,cF.sq p,ca (j:=1) rfl,b1,rfl,⟨_,cF.sq U⟩,fun cl A=>?_⟩;refine vK (ws:=n) (ps:=f.take n.length) U (nq.of aC) (by rw[aJ];omega) (by omega) A fun i m h2 O G=>?_;have zu:i.length<=4:=by rw[Paired.length O,aJ];omega
  refine⟨_,rfl,b,_,2,e,rfl,rfl,cF.sq (cF.kt (ab.kt G) p),ca (j:=2) rfl,(by show 1<=aj;decide),fun l w=>?_⟩;have C:ab m (upd m l (.lst [e])):=ab.new w;have Y:upd m l (.lst [e]) l=some (.lst [e]):=aa;generalize upd m l (.lst [e])=o at C Y ⊢;refine⟨cl,l,_,_,rfl,rfl,C _ _ h2,Y,cV (aq (by show _+1<=1000;omega)),fun r hr=>⟨(by show 2<=aj;decide),fun q B=>?_⟩⟩;have I:ab o (upd o r (.lst (i++[e]))):=ab.new hr;have r4:upd o r (.lst (i++[e])) r=some (.lst (i++[e])):=aa
  change upd o r (.lst (i++[e])) q=none at B
  show Q (.ref q) (upd (upd o r (.lst (i++[e]))) q (.tup [.non,.ref r]));generalize upd o r (.lst (i++[e]))=H4 at I r4 B ⊢;have S5:ab H4 (upd H4 q (.tup [.non,.ref r])):=ab.new B;have D:=C.trans (I.trans S5);refine k q r (i++[e]) _ aa (S5 _ _ r4) ?_ (G.trans D);rw[ec];exact gl (nq.kt (ab.kt D) O) (tK.kt (ab.kt (G.trans D)) _ _ e2)
inductive ia(K:Za)(D:Nat)(vs:List V)(H:Hp)(Q:VK)(E:XK):Prop
 |mk (t l1 l2 l3 l4 ou:Addr) (ts:Ze) (v:V) (T:Tr) (own J0 J1 J2:Zb) (ds:List ao):(vs=[.ref t,.ref ou,v])->(T.hgt<=D)->(hC H t l1 l2 l3 l4 ts J0 J1 J2 ds)->(aQ J0 J1 J2 ds)->(H ou=some (.tup (own.map V.str)))->(own.length<=1000)->(tK K H (T.dt J1) v)->(T.wf J0 J1)->(∀H',ab H H'->Q (.bl (blB J1 J2 ds own T)) H')->ia K D vs H Q E
theorem FP{K:Za}{D:Nat}{O:Sp}(d5:D<=4)(hR:∀m,D=m+1->O=ia K m)(h:ia K D vs H Q E):zm K jr O (rJ K) (nF K) (bo Q) (start Ay vs) H:=by
 obtain⟨t,l1,l2,l3,l4,ou,ts,v,T,e,J0,f,g,l,rfl,hg,Tt,m,ho,hz,hv,wf,k⟩:=h;have z2:=m.says4;have z3:=m.rooms26;refine⟨_,rfl,(by show 0<=aj;decide),fun e1 U=>⟨iL e,iL [],aZ (bP.of (kp ho U)),aZ (bP.of aa),by rw[bL];decide,by rw[bL];decide,_,rfl,?_⟩⟩;rw[fI];have M:ab H (upd H e1 (.tup [])):=ab.new U;generalize upd H e1 (.tup [])=Ha at M ⊢;have A:e=[]->blB f g l e T=false:=fun c=>by
  cases T with
  |bl=>unfold blB;exact zzr0 (fun z=>z c)
  |en=>unfold blB;rfl
  |nd a ps=>unfold blB;rw[zzr0 (fun z=>z c)];rfl
 by_cases Y:e=[]
 ·rw[zzr1 Y];refine bT (bT ?_);have:=k Ha M;rw[A Y]at this;exact this
 rw[zzr0 Y];refine bD ?_;have B:=tK.kt (ab.kt M) _ _ hv;cases T with
 |bl =>
  obtain⟨b,xs,rfl,C,x0,o,rfl,n,G⟩:=B;have G:o=[]:=G;subst G;have n:x0=V.str "blame":=n;subst n;refine⟨_,rfl,b,_,0,_,rfl,rfl,cF.sq C,ca (j:=0) rfl,rfl,_,rfl,?_⟩;rw[zzr0 (by intro z;injection z with z;exact absurd z (by decide))];refine bD ?_;refine⟨_,rfl,b,_,0,_,rfl,rfl,cF.sq C,ca (j:=0) rfl,rfl,_,rfl,?_⟩;rw[zzr1 rfl];refine bT ?_;have:=k Ha M;unfold blB at this;rw[zzr1 Y]at this;exact this
 |en =>
  obtain⟨b,xs,rfl,C,x0,o,rfl,n,G⟩:=B;have G:o=[]:=G;subst G;have n:x0=V.str "end":=n;subst n;refine⟨_,rfl,b,_,0,_,rfl,rfl,cF.sq C,ca (j:=0) rfl,rfl,_,rfl,?_⟩;rw[zzr1 rfl];refine bT ?_;have:=k Ha M;unfold blB at this;exact this
 |nd a ps =>
  obtain⟨w1,w2,w3⟩:=wf;have w3:=Tr.wfs_mem.1 w3;have hg:Tr.hgts ps+1<=D:=hg;obtain⟨w,rfl⟩:∃w,D=w+1:=⟨D-1,by omega⟩;cases hR w rfl;have hd:∃(s0:Str) (r:List DT),mN f a (Tr.dts f ps)=.t (gE s0::r)/\s0≠("end":Str)/\s0≠("blame":Str):=by
   cases a with
   |none=>exact⟨_,_,rfl,by decide,by decide⟩
   |some w=>exact⟨_,_,rfl,by decide,by decide⟩
  obtain⟨s0,r,es,n1,n2⟩:=hd;have al:tK K Ha (mN f a (Tr.dts f ps)) v:=B;have an:=al;rw[es]at an;obtain⟨b,xs,rfl,C,x0,o,rfl,n,_⟩:=an;have n:x0=V.str s0:=n;subst n;refine⟨_,rfl,b,_,0,_,rfl,rfl,cF.sq C,ca (j:=0) rfl,rfl,_,rfl,?_⟩;rw[zzr0 (fun z=>n1 (by injection z))];refine bD ?_;refine⟨_,rfl,b,_,0,_,rfl,rfl,cF.sq C,ca (j:=0) rfl,rfl,_,rfl,?_⟩;rw[zzr0 (fun z=>n2 (by injection z))];refine bD ?_;refine⟨_,rfl,.ref b,a,ps,f,rfl,al,w1,z2,fun q pl us H1 hq ap hU S1=>?_⟩;refine⟨q,_,rfl,bP.of hq,rfl,_,_,rfl,_,_,rfl,rfl,?_⟩;have as:=M.trans S1;refine⟨_,rfl,_,rfl,t,l1,l2,l3,l4,ts,a,J0,f,g,l,rfl,Tt.same as,z2,fun sl ss H2 aC hS S2=>?_⟩;refine⟨_,rfl,sl,pl,rfl,.inl ⟨⟨_,aw.of aC⟩,⟨_,aw.of (S2 _ _ ap)⟩,?_⟩⟩;have zk:=eF f a;have zs:ss.length=ps.length:=by rw[Paired.length hS,zk,w1]
  have zu:us.length=ps.length:=by rw[Paired.length hU,Tr.dts_map,ah]
  have a0:=as.trans S2;have eb:blB f g l e (.nd a ps)=blBs f g l e (aR f a) ps:=by unfold blB;rw[zzr1 Y];rfl
  rw[eb]at k;refine BK (xs:=ss.map V.ref) (ys:=us) (by rw[ah];omega) (fun i σ H'=>∃x5 x6:Option V,σ=[some (.ref t),some (.ref ou),some (.ref b),some (np a),some (.ref pl),x5,x6]/\blBs f g l e (aR f a) ps=blBs f g l e ((aR f a).drop i) (ps.drop i)/\ab H2 H') ⟨_,_,rfl,rfl,ab.refl _⟩ (fun i σ H' _ ⟨_,_,_,_,S⟩=>⟨aw.of (S _ _ aC),aw.of (S _ _ (S2 _ _ ap))⟩) ?_ ?_
  ·rintro i x y σ N p hx hy ⟨x5,x6,rfl,s,S3⟩ hp;obtain⟨su,a8,rfl⟩:=bZ hx;obtain⟨sg,a9,bc⟩:=Paired.getL hS a8;obtain⟨dd,a4,bd⟩:=Paired.getL hU hy;rw[Tr.dts_map,cH]at a4;obtain⟨pt,I,rfl⟩:=k_.1 a4;have bi:(aR f a).drop i=sg::(aR f a).drop (i+1):=by
    obtain⟨h1,h2⟩:=bN.1 a9;rw[j_ h1,h2]
   have bm:ps.drop i=pt::ps.drop (i+1):=by
    obtain⟨h1,h2⟩:=bN.1 I;rw[j_ h1,h2]
   rw[bi,bm]at s;have s:_=(blB f g l (behF g l e sg) pt || blBs f g l e ((aR f a).drop (i+1)) (ps.drop (i+1))):=s;have S4:ab N (upd N p (.tup [.ref su,y])):=ab.new hp;have p4:upd N p (.tup [.ref su,y]) p=some (.tup [.ref su,y]):=aa;generalize upd N p (.tup [.ref su,y])=H4 at S4 p4 ⊢;have J:=S3.trans S4;have L:=a0.trans J;refine⟨p,_,rfl,bP.of p4,rfl,_,_,rfl,_,_,rfl,rfl,?_⟩;refine⟨_,rfl,_,rfl,_,rfl,_,rfl,t,ou,su,l1,l2,l3,l4,ts,J0,f,g,e,sg,l,rfl,Tt.same L,m,L _ _ ho,bP.of (J _ _ bc),hz,fun u H5 hu S5=>?_⟩;have a5:=J.trans S5;have a6:=L.trans S5;have bn:pt.hgt<=w:=by have:=BG (bU I);omega
   refine⟨_,rfl,t,l1,l2,l3,l4,u,ts,y,pt,behF g l e sg,J0,f,g,l,rfl,bn,Tt.same a6,m,hu,f8 (by omega) hz,tK.kt (ab.kt (S2.trans a5)) _ _ bd,w3 pt (bU I),fun H6 S6=>⟨_,rfl,?_⟩⟩;cases a7:blB f g l (behF g l e sg) pt with
   |true =>
    refine bT ?_;have:=k H6 (a6.trans S6);rw[s,a7]at this;exact this
   |false =>
    refine bD ⟨_,_,rfl,?_,a5.trans S6⟩;rw[s,a7];rfl
  ·rintro σ N ⟨x5,x6,rfl,s,S3⟩;rw[ah,zs]at s;have:=k N (a0.trans S3);rw[s,mE]at this;exact this
def DK:List Nat:=[4,3,2,1,0]
theorem LQ:∀d,d<=4->jB d+uB d<=8000000:=by
 intro d a
 match d,a with
 |0,_=>decide
 |1,_=>decide
 |2,_=>decide
 |3,_=>decide
 |4,_=>decide
inductive sp_law47(K:Za)(vs:List V)(H:Hp)(Q:VK)(E:XK):Prop
 |mk (a:Addr) (ns:List Int):(vs=[.ref a])->(aw K H a (ns.map V.int))->(ns.length<=63)->(∀H',Q (.bl true) H')->sp_law47 K vs H Q E
theorem Ht{K:Za}(h:sp_law47 K vs H Q E):Jj K (ia K 4) pZ (lF K 4) (pX C) (h_ K 4) (lE C) tU pV fD (tT K) (bo Q) (start Fm vs) H:=by
 obtain⟨a,ns,rfl,hs,hn,k⟩:=h;refine⟨_,rfl,a,ns,rfl,hs,hn,fun p c H1 _ bn S1=>?_⟩;refine⟨2,rfl,by decide,by decide,?_⟩;refine kQ (lo:=0) (n:=Int.toNat 2) (fun i σ H'=>∃(x2 x3 x4 x5 x6 x7 x8 x9 J L:Option V),σ=[some (.ref a),some (.ref p),x2,x3,x4,x5,x6,x7,x8,x9,J,L]/\hW H' p c) ⟨_,_,_,_,_,_,_,_,_,_,rfl,bn⟩ ?_ ?_;rotate_left
 ·rintro σ H2 ⟨_,_,_,_,_,_,_,_,_,_,rfl,_⟩;exact k H2
 rintro i σ H2 hi ⟨x2,x3,x4,x5,x6,x7,x8,x9,J,L,rfl,bu⟩;refine⟨_,rfl,_,rfl,p,c,2,rfl,bu,by decide,by decide,fun r H3 r0 r2 bw cl=>?_⟩;refine⟨p,c,6,r,rfl,bw,by decide,by decide,r0,by omega,fun t w y l3 l4 ts e o l q H4 T4 m bz cm a5 co=>?_⟩;have zr:l.length<=6:=bz;have bI:e.Nodup:=m.okA.1;refine⟨_,rfl,_,rfl,p,c,t,w,y,l3,l4,ts,e,o,l,q,4,rfl,a5,T4,m,by omega,by omega,by omega,fun t1 n3 n4 A s v H5 T5 m1 bS _ _ b1 b2=>?_⟩;have a6:=T4.ex a5 b2;have z1:=m1.rooms26;refine⟨_,rfl,t,w,y,l3,l4,ts,e,o,l,q,rfl,a6,m,fun M H6 M6 S6=>?_⟩;refine⟨_,rfl,t1,w,y,n3,n4,A,e,o,s,v,rfl,T5.same S6,m1,fun I H7 I7 S7=>?_⟩;have Y:=S6.trans S7;have T7:=a6.same Y;have O7:=T5.same Y;have M7:=M6.same S7;have b3:=b1.ex Y;refine⟨(by show 5<=aj;decide),fun dl b4=>?_⟩;have S8:ab H7 (upd H7 dl (.lst [.int 4,.int 3,.int 2,.int 1,.int 0])):=ab.new b4;have al:upd H7 dl (.lst [.int 4,.int 3,.int 2,.int 1,.int 0]) dl=some (.lst (DK.map fun d=>V.int (d:Nat))):=aa;generalize upd H7 dl (.lst [.int 4,.int 3,.int 2,.int 1,.int 0])=H8 at S8 al ⊢;have T8:=T7.same S8;have O8:=O7.same S8;have M8:=M7.same S8;have I8:=I7.same S8;have b5:=b3.ex S8;have an:(closF l q (l.take 1)).length<=1000:=aB kY (by omega);have ap:(closF s v (s.take 1)).length<=1000:=aB kY (by omega);generalize hF:closF l q (l.take 1)=F at an;generalize hG:closF s v (s.take 1)=G at ap;refine⟨dl,rfl,⟨_,aw.of al⟩,?_⟩;refine bR (xs:=DK.map fun d=>V.int (d:Nat)) (fun j σ H'=>∃(x7 x8 x9 J L:Option V),σ=[some (.ref a),some (.ref p),some (.int (0+(i:Nat))),some (.ref t),some (.ref t1),some (.ref M),some (.ref I),x7,x8,x9,J,L]/\ab H8 H') ⟨_,_,_,_,_,rfl,ab.refl _⟩ (fun j σ H' _ ⟨_,_,_,_,_,_,S⟩=>aw.of (S _ _ al)) ?_ ?_
 ·rintro j z σ H9 hj ⟨y7,y8,y9,b6,b7,rfl,O⟩;rw[cH]at hj;obtain⟨d,hd,rfl⟩:=k_.1 hj;have d4:d<=4:=(show ∀d∈DK,d<=4 by decide) d (bU hd);have bd:=LQ d d4;refine fun kd hkd=>?_;have N:ab H9 (upd H9 kd (.dT [])):=ab.new hkd;have T:upd H9 kd (.dT []) kd=some (.dT []):=aa;generalize upd H9 kd (.dT [])=cp at N T ⊢;have T9:=T8.same O;have O9:=O8.same O;refine⟨_,rfl,_,rfl,_,rfl,_,rfl,t1,w,y,n3,n4,A,e,o,s,v,rfl,O9.same N,m1,fun g cs hg as=>?_⟩;refine⟨_,rfl,t,w,y,l3,l4,ts,e,o,l,q,rfl,T9.same (N.trans as),m,fun f b8 hf aC=>?_⟩;rw[hG]at hg;rw[hF]at hf;have U:=N.trans (as.trans aC);have cc:df (Fn e o l s q v) b8 kd [] e o l q 0:=⟨aC _ _ (as _ _ T),fun _ h=>(by cases h),dL _⟩;refine⟨_,rfl,H9,t,w,y,l3,l4,t1,w,y,n3,n4,kd,g,f,ts,A,[],0,d,G,F,e,o,l,s,q,v,rfl,d4,T9,m,O9,m1,hkd,U,cc,aC _ _ hg,ap,hf,an,by omega,fun a7 ct cd a8=>?_⟩;have B:=bA.sameH U hkd a8;refine⟨_,rfl,_,rfl,_,rfl,M,I,d,e,o,l,s,q,v,rfl,d4,(M8.same O).same B,(I8.same O).same B,bS,fun cv a9=>?_⟩;rw[hF,hG];have u:=B.trans a9;have ce:=cd.up a9;cases ef:fstM e o l s q v d G F with
  |none =>
   refine⟨_,rfl,_,rfl,rfl,_,rfl,?_⟩;rw[zzr1 rfl];refine bD ?_;refine⟨_,rfl,.non,"bool",_,false,rfl,.inl pd.non,rfl,_,rfl,?_⟩;refine bD ?_;refine⟨_,rfl,_,rfl,?_⟩;exact bD ⟨_,_,_,_,_,rfl,O.trans u⟩
  |some x =>
   obtain⟨x0,x1⟩:=kP e o l s q v d G F x ef;refine⟨_,rfl,_,rfl,rfl,_,rfl,?_⟩;rw[zzr1 rfl];refine bD ?_;refine⟨_,rfl,.int _,"bool",_,false,rfl,.inl (pd.int _),rfl,_,rfl,?_⟩;refine bD ?_;refine⟨_,rfl,_,rfl,?_⟩;refine bT ?_;refine⟨_,rfl,_,rfl,_,rfl,t,w,y,l3,l4,ts,e,o,l,q,rfl,T9.same u,m,fun f2 c0 bc a0=>?_⟩;rw[hF]at bc;refine⟨_,rfl,_,rfl,Fn e o l s q v,vB,H9,t,w,y,l3,l4,kd,f2,ts,a7,_,d,x,F,e,o,l,q,rfl,d4,T9,m,hkd,u.trans a0,ce.up a0,bc,an,x0,x1,by omega,fun cf ci c1 bi c2 bl=>?_⟩;have D:=bA.sameH (u.trans a0) hkd bl;rw[<-EO]at bi;obtain⟨wf,c3⟩:=EN e o l q d F x;refine⟨_,rfl,_,rfl,t1,w,y,n3,n4,A,e,o,s,v,rfl,O9.same D,m1,fun g2 c4 bm a4=>?_⟩;rw[hG]at bm;refine⟨_,rfl,t1,w,y,n3,n4,g2,A,cf,nthT e o l q d F x,G,e,o,s,v,rfl,by omega,O9.same (D.trans a4),m1,bm,ap,tK.kt (ab.kt a4) _ _ bi,wf,fun c5 ch=>⟨_,rfl,?_⟩⟩;rw[DH bI d G F x ef];exact bD ⟨_,_,_,_,_,rfl,O.trans (D.trans (a4.trans ch))⟩
 ·rintro σ H9 ⟨y7,y8,y9,b6,b7,rfl,O⟩;exact⟨_,_,_,_,_,_,_,_,_,_,rfl,b5.ex O⟩
def eR(i:Nat):Stmt:=PySem.Challenge.pw_mumtrial_k47_the_first_blamer.main.body.getD i (.Pass ⟨0,0,0,0⟩)
local macro_rules | `(tactic| walk_at "s")=>`(tactic| exact⟨rfl,rfl,rfl,by decide +kernel,rfl,by decide +kernel,by decide +kernel⟩)
local macro_rules | `(tactic| walk_at "l")=>`(tactic| (intro _ _ _ _ h;first|exact len_h h|exact len_g h|(cases h;subst_vars;rfl)|(obtain⟨_,_,h,_⟩:=h;subst h;rfl)|((repeat obtain⟨_,h⟩:=h);subst_vars;rfl)))
theorem zzlS{e:List Value}{n:Nat}(h:e.length=n+1):∃ a t,e=a::t∧t.length=n:=by
  cases e with
  |nil=>cases h
  |cons a t=>exact⟨a,t,rfl,Nat.succ.inj h⟩
local macro_rules | `(tactic| walk_at "b")=>`(tactic| (intro _ _ _ _ _ _ us hl;(repeat (have h:=zzlS hl;clear hl;obtain⟨_,_,e,hl⟩:=h;subst e));cases List.eq_nil_of_length_eq_zero hl;rfl))
def Mh(K:Za)(x qual:Str)(st:Stmt)(f:Addr):Prop:=∃(oc:Value) (od an:Option Addr) (sl:Array (Option Value)) (kV dc pm cd ct:Value),
 K.lookup f=some ⟨oc,od,.func (jp x qual (i8 st) (g9 st) (cr st) .none kV dc pm an cd ct),sl⟩/\oP K cd qual=true/\gG K (.ref f)=true
theorem Iw{K:Za}{x a:Str}{st:Stmt}{f:Addr}{g:Value}{h i:Option Addr}{j:Array (Option Value)}{kV m n e o:Value}(l:K.lookup f=some ⟨g,h,.func (jp x a (i8 st) (g9 st) (cr st) .none kV m n i e o),j⟩)
  (c:oP K e a=true) (k:gG K (.ref f)=true):Mh K x a st f:=⟨g,h,i,j,kV,m,n,e,o,l,c,k⟩
def iA(K:Za)(x:Str)(st:Stmt):Prop:=∃f,ck K bW x=some (some (.ref f))/\Mh K x x st f
theorem fnG_mk{K:Za}{x:Str}{st:Stmt}{f:Addr}{g:Value}{h i:Option Addr}{j:Array (Option Value)}{kV m n e o:Value}(a:ck K bW x=some (some (.ref f)))(l:K.lookup f=some ⟨g,h,.func (jp x x (i8 st) (g9 st) (cr st) .none kV m n i e o),j⟩)
  (c:oP K e x=true) (k:gG K (.ref f)=true):iA K x st:=⟨f,a,Iw l c k⟩
def v6(K:Za)(C:Addr)(m qual:Str)(st:Stmt):Prop:=∃f,cO K (.ref C) m=some (some (.ref f))/\AI K (.ref f)=true/\Mh K m qual st f
theorem fnM_mk{K:Za}{C:Addr}{m e:Str}{st:Stmt}{f:Addr}{h:Value}{j n:Option Addr}{o:Array (Option Value)}{kV p q g r:Value}(a:cO K (.ref C) m=some (some (.ref f)))(i:AI K (.ref f)=true)
  (l:K.lookup f=some ⟨h,j,.func (jp m e (i8 st) (g9 st) (cr st) .none kV p q n g r),o⟩) (c:oP K g e=true) (k:gG K (.ref f)=true):v6 K C m e st:=⟨f,a,i,Iw l c k⟩
theorem Mh.fun_{K:Za}{x a:Str}{st:Stmt}{f:Addr}(T:Mh K x a st f):∃e,Lz K x a st f e:=by
 obtain⟨g,h,i,j,kV,m,n,o,p,l,c,k⟩:=T;exact⟨_,Iv (st:=st) l c k⟩
def CY:Sp:=fun _ _ _ _=>False
theorem xp{P:cn}{w:World}{K:Za}{a:Str->Option Value}{base:Heap}{k:Nat}{f:Addr}{e:mh}{g:Zb}:nu P w K a base CX0 k f e g CY:=⟨fun _ _ _ _ h=>h.elim,fun _ _ _ _ _ _ _ _ _ _ _ _ _ h=>h.elim⟩
def Lj(K:Za)(a:Addr)(ws:Zb):Prop:=∀H,bP K H a (ws.map V.str)
theorem Et{K:Za}{a:Addr}{f:Zb}{o:Obj}{e:Array Value}{n:Nat}(l:K.lookup a=some o)(c:o.cls=.type "tuple")(d:o.data=.seq e n)(z:e.size<=aj)(v:bb (f.map V.str) e.toList):Lj K a f :=
 fun _=>.inr ⟨o,e,n,l,c,d,z,v⟩
section
variable{P:cn}{w:World}{K:Za}{mg:Str->Option Value}{base h:Heap}{C:Addr}{x qual:Str}{st:Stmt}{N ps:Zb}{k:Nat}{sp:Sp}
abbrev IU(ps:Zb)(sp:Sp):Prop:=∀vs H Q E,sp vs H Q E->vs.length=ps.length
abbrev BodyOk(CX:GV)(P:cn)(w:World)(K:Za)(mg:Str->Option Value)(base:Heap)(qual:Str)(st:Stmt)(N:Zb)(k:Nat)(sp:Sp)(nox:Cx->Cx):Prop:=N.Nodup->∀(f:Addr) (cdv:Value) (A:Around) (outer:List Env) (s:Shared) (H:Hp) (vs:List V) (Q:VK) (E:XK),fJ k (A.deeper (envOfC qual (cr st) s.heap.objs.size f cdv))->(A.deeper (envOfC qual (cr st) s.heap.objs.size f cdv)).units+16<cLine->sp vs H Q E ->
 ∃t,Ct (nox (DN CX P w K mg base N qual (cr st) f cdv A outer s H E)) (g9 st) t/\t (bo Q) (start N vs) H
abbrev Ee(x qual:Str)(st:Stmt)(ps:Zb):Prop:=∀(kV doc pm:Value) (an:Option Addr) (cdv ct:Value) (us:Zf),us.length=ps.length->bindArgs (jp x qual (i8 st) (g9 st) (cr st) .none kV doc pm an cdv ct) ⟨us,[]⟩=pure (ps.zip us)
theorem dG(X:K.In h)(G:h.Ns bW mg)(T:iA K x st)(b:BodyOk CX0 P w K mg base x st N k sp Cx.nox)(i:Ee x x st ps)(S:lV N ps (cr st):=by walk_at "s")(l:IU ps sp:=by walk_at "l"):fK P w K mg base x ps (k+1) sp:=by
 obtain⟨f,a,t⟩:=T;obtain⟨j,F⟩:=t.fun_;exact⟨f,j,F.ok S l fun e A outer s H m Q E g h=>b S.nd f e A outer s H m Q E g (EW g) h,eI X G a,F.kp,F.binds i⟩
theorem dM(j:Cu K C)(T:v6 K C x qual st)(b:BodyOk CX0 P w K mg base qual st N k sp Cx.nox)(m:Ee x qual st ps)(S:lV N ps (cr st):=by walk_at "s")(l:IU ps sp:=by walk_at "l"):pF P w K mg base C x ps (k+1) sp:=by
 obtain⟨f,a,i,t⟩:=T;obtain⟨n,F⟩:=t.fun_;exact⟨f,n,F.ok S l fun e A outer s H o Q E g h=>b S.nd f e A outer s H o Q E g (EW g) h,j,⟨a,i,F.kp⟩,F.binds m⟩
theorem dN{y:Str}(j:mg y=some (.ref C))(m:mz K C=true)(n:gG K (.ref C)=true)(T:v6 K C "__init__" qual st)(b:BodyOk CX0 P w K mg base qual st N k sp Cx.nox)(o:Ee "__init__" qual st ps)(S:lV N ps (cr st):=by walk_at "s")(l:IU ps sp:=by walk_at "l"):Lw P w K mg base y C ps (k+1) sp:=by
 obtain⟨f,a,i,t⟩:=T;obtain⟨p,F⟩:=t.fun_;exact⟨f,p,F.ok S l fun e A outer s H q Q E g h=>b S.nd f e A outer s H q Q E g (EW g) h,j,⟨m,a,i,n⟩,F.binds o⟩
end
structure Zs(mg:Str->Option Value):Prop where
 all:mg "all"=none
 any:mg "any"=none
 bool:mg "bool"=none
 dict:mg "dict"=none
 enumerate:mg "enumerate"=none
 int:mg "int"=none
 isinstance:mg "isinstance"=none
 len:mg "len"=none
 list:mg "list"=none
 max:mg "max"=none
 min:mg "min"=none
 range:mg "range"=none
 reversed:mg "reversed"=none
 sum:mg "sum"=none
 tuple:mg "tuple"=none
 zip:mg "zip"=none
structure Cs(K:Za)(mg:Str->Option Value)(C Ck Cd Cb a_STILL a_HUSH:Addr):Prop where
 LETTERS:Gc mg "LETTERS" (.str "abcdefghijklmnopqrstuvwxyz")
 LONGEST_NAME:Gc mg "LONGEST_NAME" (.int 8)
 MOST_WORDS:Gc mg "MOST_WORDS" (.int 4)
 MOST_ROOMS:Gc mg "MOST_ROOMS" (.int 150)
 MOST_DOORS:Gc mg "MOST_DOORS" (.int 2000)
 DEEPEST:Gc mg "DEEPEST" (.int 4)
 STILL:Gc mg "STILL" (.ref a_STILL)
 HUSH:Gc mg "HUSH" (.ref a_HUSH)
 still:Lj K a_STILL aF
 hush:Lj K a_HUSH cC
 mc:MC K C
 cm:mg "Machine"=some (.ref C)
 makes:mz K C=true
 kc:gG K (.ref C)=true
 ksc:KC K Ck
 cmksc:mg "KnownSteps"=some (.ref Ck)
 makesksc:mz K Ck=true
 kcksc:gG K (.ref Ck)=true
 dc:DC K Cd
 cmdc:mg "Made"=some (.ref Cd)
 makesdc:mz K Cd=true
 kcdc:gG K (.ref Cd)=true
 bc:BC K Cb
 cmbc:mg "Blamers"=some (.ref Cb)
 makesbc:mz K Cb=true
 kcbc:gG K (.ref Cb)=true
structure Ts(K:Za)(C Ck Cd Cb:Addr):Prop where
 f_law_spread:iA K "_law_spread" (eR 49)
 f_law_open:iA K "_law_open" (eR 50)
 f_law_anew:iA K "_law_anew" (eR 51)
 f_law_take:iA K "_law_take" (eR 52)
 f_law_names:iA K "_law_names" (eR 53)
 f_law_put:iA K "_law_put" (eR 55)
 f_law_draw_doors:iA K "_law_draw_doors" (eR 56)
 f_law_model:iA K "_law_model" (eR 57)
 f_is_name:iA K "is_name" (eR 22)
 f_as_keys:iA K "as_keys" (eR 23)
 f_first_wrong_name:iA K "first_wrong_name" (eR 24)
 f_door_signs:iA K "door_signs" (eR 25)
 f_first_wrong_door:iA K "first_wrong_door" (eR 26)
 f_goals_by_start_and_sign:iA K "goals_by_start_and_sign" (eR 27)
 f_led_by_still:iA K "led_by_still" (eR 28)
 f_first_led_round:iA K "first_led_round" (eR 29)
 f_need_none:iA K "need_none" (eR 30)
 f_need_parts:iA K "need_parts" (eR 31)
 f_doors_by_start:iA K "doors_by_start" (eR 32)
 f_has_asks_alone:iA K "has_asks_alone" (eR 33)
 f_Machine___init__:v6 K C "__init__" "Machine.__init__" (cT (eR 34) 0)
 f_law_machine:iA K "_law_machine" (eR 70)
 f_Machine_rooms:v6 K C "rooms" "Machine.rooms" (cT (eR 34) 3)
 f_Machine_led_from:v6 K C "led_from" "Machine.led_from" (cT (eR 34) 8)
 f_with_still:iA K "with_still" (eR 10)
 f_Machine_goals:v6 K C "goals" "Machine.goals" (cT (eR 34) 7)
 f_Machine_is_quiet:v6 K C "is_quiet" "Machine.is_quiet" (cT (eR 34) 5)
 f_law_still_on:iA K "_law_still_on" (eR 54)
 f_Machine_asks:v6 K C "asks" "Machine.asks" (cT (eR 34) 1)
 f_Machine_says:v6 K C "says" "Machine.says" (cT (eR 34) 2)
 f_first_face:iA K "first_face" (eR 11)
 f_face_behind:iA K "face_behind" (eR 12)
 f_signs_in_order:iA K "signs_in_order" (eR 9)
 f_steps_at:iA K "steps_at" (eR 13)
 f_KnownSteps___init__:v6 K Ck "__init__" "KnownSteps.__init__" (cT (eR 14) 0)
 f_KnownSteps_steps_from:v6 K Ck "steps_from" "KnownSteps.steps_from" (cT (eR 14) 1)
 f_need_depth:iA K "need_depth" (eR 42)
 f_product:iA K "product" (eR 43)
 f_Made___init__:v6 K Cd "__init__" "Made.__init__" (cT (eR 44) 0)
 f_Made_steps_from:v6 K Cd "steps_from" "Made.steps_from" (cT (eR 44) 1)
 f_Made_kinds_at:v6 K Cd "kinds_at" "Made.kinds_at" (cT (eR 44) 2)
 f_Made_count_at:v6 K Cd "count_at" "Made.count_at" (cT (eR 44) 3)
 f_Made_count_of:v6 K Cd "count_of" "Made.count_of" (cT (eR 44) 4)
 f_takes:iA K "takes" (eR 37)
 f_need_match:iA K "need_match" (eR 36)
 f_need_all_asks_taken:iA K "need_all_asks_taken" (eR 38)
 f_need_taker:iA K "need_taker" (eR 39)
 f_Blamers___init__:v6 K Cb "__init__" "Blamers.__init__" (cT (eR 46) 0)
 f_Blamers_places:v6 K Cb "places" "Blamers.places" (cT (eR 46) 1)
 f_Blamers_first_of_kinds:v6 K Cb "first_of_kinds" "Blamers.first_of_kinds" (cT (eR 46) 5)
 f_Blamers_first_of_kind:v6 K Cb "first_of_kind" "Blamers.first_of_kind" (cT (eR 46) 6)
 f_Blamers_first_at:v6 K Cb "first_at" "Blamers.first_at" (cT (eR 46) 4)
 f_first_blamer:iA K "first_blamer" (eR 47)
 f_law_willing:iA K "_law_willing" (eR 58)
 f_law_turned:iA K "_law_turned" (eR 59)
 f_law_renamed:iA K "_law_renamed" (eR 60)
 f_law_near:iA K "_law_near" (eR 61)
 f_law_behind:iA K "_law_behind" (eR 62)
 f_law_begin:iA K "_law_begin" (eR 63)
 f_law_part_signs:iA K "_law_part_signs" (eR 64)
 f_law_after:iA K "_law_after" (eR 73)
 f_law_asked:iA K "_law_asked" (eR 74)
 f_law_times:iA K "_law_times" (eR 66)
 f_law_count:iA K "_law_count" (eR 67)
 f_law_sizes:iA K "_law_sizes" (eR 65)
 f_law_laid:iA K "_law_laid" (eR 69)
 f_law_nth:iA K "_law_nth" (eR 68)
 f_law_pieces:iA K "_law_pieces" (eR 72)
 f_law_blamed:iA K "_law_blamed" (eR 71)
 f_law_first:iA K "_law_first" (eR 75)
 f_law47:iA K "law" (eR 76)
section
variable{P:cn}{w:World}{K:Za}{mg:Str->Option Value}{base h:Heap}{C Ck Cd Cb a_STILL a_HUSH:Addr}
section
variable(P:cn)(w:World)(K:Za)(mg:Str->Option Value)(C Ck Cd Cb a_STILL a_HUSH:Addr)
abbrev l9:Prop:=∀base,fK P w K mg base "_law_spread" ["cell","at"] 1 nC
abbrev vZ:Prop:=∀base,fK P w K mg base "_law_open" ["script"] 1 (tT K)
abbrev ma:Prop:=∀base,fK P w K mg base "_law_anew" ["pen"] 1 tX
abbrev eg:Prop:=∀base,fK P w K mg base "_law_take" ["pen","many"] 2 fD
abbrev j5:Prop:=∀base,fK P w K mg base "_law_names" ["pen","many"] 3 mP
abbrev k7:Prop:=∀base,fK P w K mg base "_law_put" ["doors","door"] 1 lC
abbrev im:Prop:=∀base,fK P w K mg base "_law_draw_doors" ["pen","asks","says","rooms","full"] 3 iu
abbrev sW:Prop:=∀base,fK P w K mg base "_law_model" ["pen","most","full"] 4 pV
abbrev sj:Prop:=∀base,fK P w K mg base "is_name" ["text"] 1 sp_is_name
abbrev k9:Prop:=∀base,fK P w K mg base "as_keys" ["things"] 1 (sp_as_keys K)
abbrev gq:Prop:=∀base,fK P w K mg base "first_wrong_name" ["names","most","taken"] 2 (sp_first_wrong_name K)
abbrev mf:Prop:=∀base,fK P w K mg base "door_signs" ["asks","says"] 1 (sp_door_signs K)
abbrev gu:Prop:=∀base,fK P w K mg base "first_wrong_door" ["doors","rooms","signs"] 2 (sp_first_wrong_door K)
abbrev dh:Prop:=∀base,fK P w K mg base "goals_by_start_and_sign" ["doors"] 1 pW
abbrev jJ:Prop:=∀base,fK P w K mg base "led_by_still" ["goals","room"] 1 zO
abbrev hV:Prop:=∀base,fK P w K mg base "first_led_round" ["rooms","led"] 1 sp_first_led_round
abbrev j3:Prop:=∀base,fK P w K mg base "need_none" ["part","number"] 1 sp_need_none
abbrev lX:Prop:=∀base,fK P w K mg base "need_parts" ["asks","says","rooms","doors"] 3 sp_need_parts
abbrev ip:Prop:=∀base,fK P w K mg base "doors_by_start" ["rooms","doors"] 1 sp_doors_by_start
abbrev io:Prop:=∀base,fK P w K mg base "has_asks_alone" ["doors"] 1 sp_has_asks_alone
abbrev sk:Prop:=∀base,Lw P w K mg base "Machine" C ["self","asks","says","rooms","doors"] 4 (tV C)
abbrev oA:Prop:=∀base,fK P w K mg base "_law_machine" ["told"] 6 (lE C)
abbrev eD:Prop:=∀base,pF P w K mg base C "rooms" ["self"] 1 (kH C)
abbrev eh:Prop:=∀base,pF P w K mg base C "led_from" ["self","room"] 1 (iF C)
abbrev i9:Prop:=∀base,fK P w K mg base "with_still" ["M","rooms"] 2 (sp_with_still C)
abbrev gk:Prop:=∀base,pF P w K mg base C "goals" ["self","room","sign"] 1 (jb C)
abbrev gv:Prop:=∀base,pF P w K mg base C "is_quiet" ["self","room"] 1 (jQ C)
abbrev dI:Prop:=∀base,fK P w K mg base "_law_still_on" ["doors","rooms"] 1 (dP K)
abbrev fz:Prop:=∀base,pF P w K mg base C "asks" ["self"] 1 (nI C)
abbrev fx:Prop:=∀base,pF P w K mg base C "says" ["self"] 1 (nE C)
abbrev me:Prop:=∀base,fK P w K mg base "first_face" ["M"] 3 (dz C)
abbrev ko:Prop:=∀base,fK P w K mg base "face_behind" ["M","face","sign"] 3 (tW K C)
abbrev ik:Prop:=∀base,fK P w K mg base "signs_in_order" ["M"] 2 (zN C a_HUSH)
abbrev pE:Prop:=∀base,fK P w K mg base "steps_at" ["M","face"] 4 (lA C)
abbrev i_:Prop:=∀base,Lw P w K mg base "KnownSteps" Ck ["self","M"] 1 (kJ Ck)
abbrev cM:Prop:=∀base,pF P w K mg base Ck "steps_from" ["self","face"] 5 (kK C Ck)
abbrev lZ:Prop:=∀base,fK P w K mg base "need_depth" ["d"] 1 eE
abbrev nT:Prop:=∀base,fK P w K mg base "product" ["numbers"] 1 sp_product
abbrev Ef:Prop:=∀base,Lw P w K mg base "Made" Cd ["self","M"] 3 (nG C Ck Cd)
abbrev cL:Prop:=∀base,pF P w K mg base Cd "steps_from" ["self","face"] 6 (jc C Ck Cd)
abbrev gh:Prop:=∀base,pF P w K mg base Cd "kinds_at" ["self","face"] 7 (kI K C Ck Cd)
abbrev gj:Prop:=∀base,pF P w K mg base Cd "count_at" ["self","face","d"] 16 (iG C Ck Cd 4)
abbrev iV:Prop:=∀base,pF P w K mg base Cd "count_of" ["self","face","d","signs"] 17 (js K C Ck Cd 4)
abbrev AE:Prop:=∀base,fK P w K mg base "takes" ["I","room","ask"] 2 (kG C)
abbrev lY:Prop:=∀base,fK P w K mg base "need_match" ["M","I"] 2 (gR C)
abbrev eL:Prop:=∀base,fK P w K mg base "need_all_asks_taken" ["I"] 4 (i5 C)
abbrev lW:Prop:=∀base,fK P w K mg base "need_taker" ["M","I"] 5 (gQ C)
abbrev sn:Prop:=∀base,Lw P w K mg base "Blamers" Cb ["self","M","I"] 5 (nH C Ck Cd Cb)
abbrev iq:Prop:=∀base,pF P w K mg base Cb "places" ["self","face","mine","signs"] 7 (lD K C Ck Cd Cb)
abbrev gw:Prop:=∀base,pF P w K mg base Cb "first_at" ["self","face","mine","d"] 30 (o7 C Ck Cd Cb 4)
abbrev nz:Prop:=∀base,fK P w K mg base "first_blamer" ["M","d","I"] 31 (pX C)
abbrev km:Prop:=∀base,fK P w K mg base "_law_willing" ["pen","told"] 3 lr
abbrev l6:Prop:=∀base,fK P w K mg base "_law_turned" ["pen","told"] 3 nA
abbrev kn:Prop:=∀base,fK P w K mg base "_law_renamed" ["pen","told"] 4 jO
abbrev v3:Prop:=∀base,fK P w K mg base "_law_near" ["pen","told","most"] 5 tU
abbrev hJ:Prop:=∀base,fK P w K mg base "_law_behind" ["told","face","sign"] 2 (rJ K)
abbrev sY:Prop:=∀base,fK P w K mg base "_law_begin" ["told"] 2 pZ
abbrev cD:Prop:=∀base,fK P w K mg base "_law_part_signs" ["told","ask"] 1 jr
abbrev fq:Prop:=∀base,fK P w K mg base "_law_after" ["told","known","face","sign"] 3 (ju K)
abbrev iO:Prop:=∀base,fK P w K mg base "_law_asked" ["told","known","face"] 4 (kL K)
abbrev j4:Prop:=∀base,fK P w K mg base "_law_times" ["numbers"] 1 sp_product
abbrev j6:Prop:=∀base,fK P w K mg base "_law_count" ["told","known","face","deep"] 13 (jP K 4)
abbrev ny:Prop:=∀base,fK P w K mg base "_law_sizes" ["told","known","face","ask","deep"] 14 (iE K 4)
abbrev xX:Prop:=∀base,fK P w K mg base "_law_nth" ["told","known","face","deep","number"] 23 (lF K 4)
abbrev l_:Prop:=∀base,fK P w K mg base "_law_pieces" ["trial"] 1 (nF K)
abbrev qM:Prop:=∀base,fK P w K mg base "_law_blamed" ["other","own","trial"] 7 (ia K 4)
abbrev sX:Prop:=∀base,fK P w K mg base "_law_first" ["told","other","known","own","face","deep"] 18 (h_ K 4)
end
section
variable(X:K.In h)(G:h.Ns bW mg)(z:Zs mg)(c:Cs K mg C Ck Cd Cb a_STILL a_HUSH)(T:Ts K C Ck Cd Cb)
include X G z c T
theorem wr:l9 P w K mg:=fun base=>dG X G T.f_law_spread (fun S _ _ _ _ _ _ _ _ _ a e h=>bK (FG (K:=K) h) (ac (bq (iZ LM (pv 0) (az HQ ag ag)) (af (au (pv 0))) aK) (ac (qs 2 S (az gZ (az cB (az cB (az jC (az gZ (pv 0) ag) ag) (az jC (pv 1) ag)) ag) ag)) (ac (qs 3 S (az gZ (az cB (az cB (az jC (pv 2) (pv 2)) (az jC (pv 1) ag)) (az gZ (pv 0) ag)) ag)) (ac (qs 4 S (az gZ (az cB (az cB (az jC (pv 3) (pv 3)) (az jC (pv 2) ag)) ag) ag)) (af (au (az cB (az jC (az cB (az jC (pv 2) ag) (pv 3)) ag) (pv 4))))))))) (by walk_at "b")
theorem A7:vZ P w K mg:=fun base=>dG X G T.f_law_open (fun S _ _ _ _ _ _ _ _ _ a e h=>bK (Jv h) (ac (qs 1 S (qL rfl z.list (a1 (cX gb (pv 0) gf (c7 ag))))) (ac (bE bp rfl (qe rfl z.enumerate (a1 (cX gb (pv 0) (c7 ag) (c7 ag)))) (dZ rfl (ax (gn 2 S) (ax (gn 3 S) cS))) (af (kg (az cB (xl (pv 1) (az gZ (pv 2) ag)) (pv 3)) (vb (pv 1) (az gZ (pv 2) ag) mR)))) (af (au (br (a3 (pv 1) ag ag))))))) (by walk_at "b")
theorem A9:ma P w K mg:=fun base=>dG X G T.f_law_anew (fun S _ _ _ _ _ _ _ _ _ a e h=>bK (JD (K:=K) h) (ac (kg ag (vb (pv 0) ag mR)) (af (au (pv 0))))) (by walk_at "b")
theorem A6(a:l9 P w K mg):eg P w K mg:=fun base=>dG X G T.f_law_take (fun S _ _ _ _ _ _ _ _ _ e f h=>bK (Jt h) (ac (bq (iZ vf (xl (pv 0) ag) (pv 1)) (ac (qs 2 S (xl (pv 0) ag)) (ac (qs 3 S ag) (ac (bq (iZ vf (pv 2) (ql z.len (a1 (xl (pv 0) ag)))) (af (qs 3 S (xl (xl (pv 0) ag) (pv 2)))) (af (bq (iZ Br (ql z.len (a1 (xl (pv 0) ag))) ag) (af (qs 3 S (az gZ (xl (xl (pv 0) ag) (az gZ (az cB (az jC (pv 2) ag) ag) (ql z.len (a1 (xl (pv 0) ag))))) (az cB (az HQ ag ag) (pv 2))))) aK))) (ac (kg (az cB (pv 2) ag) (vb (pv 0) ag mR)) (af (kg (qf e (a base) (a2 (pv 3) (pv 2))) (vb (pv 0) ag mR))))))) aK) (ac (qs 4 S (az gZ (xl (pv 0) ag) (pv 1))) (ac (kg (az EM (xl (pv 0) ag) (pv 1)) (vb (pv 0) ag mR)) (af (au (pv 4))))))) (by walk_at "b")
theorem zD(a:eg P w K mg):j5 P w K mg:=fun base=>dG X G T.f_law_names (fun S _ _ _ _ _ _ _ _ _ e f h=>bK (Ho h) (ac (qs 2 S bj) (ac (qs 3 S (jU PySem.F.plainAttrs_str PySem.F.slot_str_join PySem.F.type_str_join JQ bj (a1 (qc (jd rfl z.range (a1 ag)) (aT (by decide)) fun _ _ _ _ _ _=>⟨gc 0,cj,xs' (pv 1) (qf e (a base) (a2 (pv 2) ag))⟩)))) (ac (qs 4 S (qf e (a base) (a2 (pv 0) ag))) (ac (qs 5 S (qf e (a base) (a2 (pv 0) ag))) (ac (qs 6 S (qf e (a base) (a2 (pv 0) ag))) (ac (qs 7 S (br cA)) (ac (bE bp rfl (jd rfl z.range (a1 (pv 1))) (gn 8 S) (ac (qs 9 S (xs' (pv 2) (az gZ (az cB (pv 5) (az jC ag (pv 8))) ag))) (ac (qs 10 S (cX CZ (pv 3) gf (c7 (az gZ (az cB (pv 6) (az jC (pv 8) (az gZ (pv 4) ag))) ag)))) (ac (qs 11 S (xl (br (a3 ag (ql z.len (a1 (pv 10))) (az EM (ql z.len (a1 (pv 10))) ag))) (pv 4))) (af (bt (jU gH j8 j7 dE (pv 7) (a1 (az vg (az vg (cX CZ (pv 10) gf (c7 (pv 11))) (pv 9)) (cX CZ (pv 10) (c7 (pv 11)) gf)))))))))) (af (au (pv 7))))))))))) (by walk_at "b")
theorem CO:k7 P w K mg:=fun base=>dG X G T.f_law_put (fun S _ _ _ _ _ _ _ _ _ e a h=>bK (KZ h) (af (bq (Jh (kN a) (pv 1) (pv 0)) (af (bt (jU gH j8 j7 dE (pv 0) (a1 (pv 1))))) aK))) (by walk_at "b")
theorem pS(a:eg P w K mg)(e:k7 P w K mg):im P w K mg:=fun base=>dG X G T.f_law_draw_doors (fun S _ _ _ _ _ _ _ _ _ f g h=>bK (wI h) (ac (qs 5 S (br cA)) (ac (qs 6 S (qf f (a base) (a2 (pv 0) ag))) (ac (bE bp rfl (qe rfl z.enumerate (a1 (pv 3))) (dZ rfl (ax (gn 7 S) (ax (gn 8 S) cS))) (ac (bE bp rfl (jd rfl z.range (a1 (xl (br (aG ag (a3 ag ag ag))) (qf f (a base) (a2 (pv 0) ag))))) (gn 9 S) (ac (qs 10 S (aA (a2 bj (xl (pv 2) (qf f (a base) (a2 (pv 0) (ql z.len (a1 (pv 2))))))))) (af (bt (qf f (e base) (a2 (pv 5) (aA (a3 (pv 8) (pv 10) (xl (pv 3) (qf f (a base) (a2 (pv 0) (ql z.len (a1 (pv 3)))))))))))))) (ac (bE bp rfl (aO (pv 1)) (gn 11 S) (af (bE bp rfl (jd rfl z.range (a1 (xl (br (aG (pv 4) (a3 ag ag ag))) (qf f (a base) (a2 (pv 0) ag))))) (gn 9 S) (af (bt (qf f (e base) (a2 (pv 5) (aA (a3 (pv 8) (aA (a2 bj (pv 11))) (xl (pv 3) (qf f (a base) (a2 (pv 0) (ql z.len (a1 (pv 3))))))))))))))) (ac (qs 12 S (xl (br (a2 (cX gb (pv 3) (c7 (az cB (pv 7) ag)) gf) (cX gb (pv 3) gf (c7 (pv 7))))) (pv 6))) (af (bq (PW.pt (lH (iZ (rN g) (pv 12) (br cA)) (lG (iZ g6 (qf f (a base) (a2 (pv 0) ag)) ag)))) (af (bt (qf f (e base) (a2 (pv 5) (aA (a3 (pv 8) (aA (a1 bj)) (xq (pv 12) (qf f (a base) (a2 (pv 0) (ql z.len (a1 (pv 12)))))))))))) aK)))))) (af (au (pv 5))))))) (by walk_at "b")
theorem zE(g:ma P w K mg)(a:eg P w K mg)(e:j5 P w K mg)(f:im P w K mg):sW P w K mg:=fun base=>dG X G T.f_law_model (fun S _ _ _ _ _ _ _ _ _ i j h=>bK (Hq h) (ac (bt (qf i (g base) (a1 (pv 0)))) (ac (qs 3 S (qf i (e base) (a2 (pv 0) ag))) (ac (qs 4 S (cX gb (pv 3) gf (c7 (az cB ag (xl (br (aG ag (aG ag (aG ag (a3 ag ag ag))))) (qf i (a base) (a2 (pv 0) ag))))))) (ac (qs 5 S (cX gb (pv 3) (c7 ag) (c7 (az cB ag (xl (br (aG ag (aG ag (aG ag (a3 ag ag ag))))) (qf i (a base) (a2 (pv 0) ag))))))) (ac (qs 6 S (qf i (e base) (a2 (pv 0) (az cB ag (qf i (a base) (a2 (pv 0) (pv 1))))))) (ac (qs 7 S (qf i (f base) (aG (pv 0) (aG (pv 4) (a3 (pv 5) (pv 6) (pv 2)))))) (af (au (aA (aG (pv 4) (a3 (pv 5) (pv 6) (pv 7))))))))))))) (by walk_at "b")
theorem CQ:sj P w K mg:=fun base=>dG X G T.f_is_name (fun S _ _ _ _ _ _ _ _ _ a e h=>bK (Dc h) (af (au (Do (Ls EL (pv 0) bj) (Do (Ls LK (ql z.len (a1 (pv 0))) (mn rfl c.LONGEST_NAME)) (HL (qB (sT rfl) z.all boot_all (a1 (qc (K4 (pv 0)) (aT (by decide)) fun _ _ _ _ _ _=>⟨gc 0,cj,eci Dp (pv 0) (mn rfl c.LETTERS)⟩))))))))) (by walk_at "b")
theorem CS:k9 P w K mg:=fun base=>dG X G T.f_as_keys (fun S _ _ _ _ _ _ _ _ _ e a h=>bK (Dd h) (ac (qs 1 S mW) (ac (bE bp rfl (aO (pv 0)) (gn 2 S) (af (eO a (pv 1) (pv 2) kM rfl))) (af (au (pv 1)))))) (by walk_at "b")
theorem nX(a:sj P w K mg)(e:k9 P w K mg):gq P w K mg:=fun base=>dG X G T.f_first_wrong_name (fun S _ _ _ _ _ _ _ _ _ f g h=>bK (nZ h) (ac (bq (iZ g6 (ql z.len (a1 (pv 0))) ag) (af (au ag)) aK) (ac (qs 3 S (qf f (e base) (a1 (pv 2)))) (ac (bE bp rfl (qe rfl z.enumerate (a1 (pv 0))) (dZ rfl (ax (gn 4 S) (ax (gn 5 S) cS))) (ac (bq (PW.pt (jS (iZ g6 (pv 4) (pv 1)) (jS (cN (rM g (pv 5) (pv 3))) (jz (Di (o9 (qf f (a base) (a1 (pv 5))))))))) (af (au (pv 4))) aK) (af (eO g (pv 3) (pv 5) kM rfl)))) (af (au gX)))))) (by walk_at "b")
theorem wz:mf P w K mg:=fun base=>dG X G T.f_door_signs (fun S _ _ _ _ _ _ _ _ _ a e h=>bK (wJ c.still h) (af (au (az eZ (az eZ (qc (aO (pv 0)) (aT (by decide)) fun _ _ _ _ _ _=>⟨gc 0,cj,aA (a2 bj (pv 0))⟩) (qc (aO (pv 1)) (aT (by decide)) fun _ _ _ _ _ _=>⟨gc 0,cj,aA (a2 bj (pv 0))⟩)) (br (a1 (mn rfl c.STILL))))))) (by walk_at "b")
theorem nY(a:k9 P w K mg):gu P w K mg:=fun base=>dG X G T.f_first_wrong_door (fun S _ _ _ _ _ _ _ _ _ f e h=>bK (n5 h) (ac (qs 3 S (qf f (a base) (a1 (pv 1)))) (ac (qs 4 S iJ) (ac (bE bp rfl (qe rfl z.enumerate (a1 (pv 0))) (dZ rfl (ax (gn 5 S) (ax (gn 6 S) cS))) (ac (bq (PW.pt (jS (iZ g6 (pv 5) (mn rfl c.MOST_DOORS)) (jz (cN (rM e (pv 6) (pv 4)))))) (af (au (pv 5))) aK) (ac (bq (PW.pt (jS (cN (fE e (xq (pv 6) ag) (pv 3))) (jS (Jh (kN e) (xq (pv 6) ag) (pv 2)) (jz (cN (fE e (xq (pv 6) ag) (pv 3))))))) (af (au (pv 5))) aK) (af (eO e (pv 4) (pv 6) kM rfl))))) (af (au gX)))))) (by walk_at "b")
theorem jq:dh P w K mg:=fun base=>dG X G T.f_goals_by_start_and_sign (fun S _ _ _ _ _ _ _ _ _ e a h=>bK (jw h) (ac (qs 1 S iJ) (ac (bE bp rfl (aO (pv 0)) (dZ rfl (ax (gn 2 S) (ax (gn 3 S) (ax (gn 4 S) cS)))) (af (bt (jU gH j8 j7 dE (jU PySem.F.plainAttrs_dict PySem.F.slot_dict_setdefault PySem.F.type_dict_setdefault (FY a) (pv 1) (a2 (aA (a2 (pv 2) (pv 3))) (br cA))) (a1 (pv 4)))))) (af (au (pv 1)))))) (by walk_at "b")
theorem tw:jJ P w K mg:=fun base=>dG X G T.f_led_by_still (fun S _ _ _ _ _ _ _ _ _ e a h=>bK (tG c.still h) (ac (qs 2 S mW) (ac (qs 3 S (br (a1 (pv 1)))) (ac (Bo bp (iZ Br (ql z.len (a1 (pv 3))) ag) (ac (qs 4 S (HP gH PySem.F.slot_list_pop PySem.F.type_list_pop La (pv 3))) (af (bE bp rfl (K5 (vd a (pv 0) (aA (a2 (pv 4) (mn rfl c.STILL))) (aA cA) ⟨rfl,rfl,rfl,rfl⟩)) (gn 5 S) (af (bq (cN (fE a (pv 5) (pv 2))) (ac (eO a (pv 2) (pv 5) kM rfl) (af (bt (jU gH j8 j7 dE (pv 3) (a1 (pv 5)))))) aK)))))) (af (au (pv 2))))))) (by walk_at "b")
theorem o0:hV P w K mg:=fun base=>dG X G T.f_first_led_round (fun S _ _ _ _ _ _ _ _ _ e a h=>bK (o8 h) (ac (bE bp rfl (qe rfl z.enumerate (a1 (pv 0))) (dZ rfl (ax (gn 2 S) (ax (gn 3 S) cS))) (af (bq (cN (rM a (pv 3) (gg a (pv 1) (pv 3) (fun _ _=>rfl)))) (af (au (pv 2))) aK))) (af (au gX)))) (by walk_at "b")
theorem zt:j3 P w K mg:=fun base=>dG X G T.f_need_none (fun S _ _ _ _ _ _ _ _ _ a e h=>bK (zQ (K:=K) h) (af (bq (cN (qh (pv 1))) (af (qb)) aK))) (by walk_at "b")
theorem wm(a:gq P w K mg)(g:mf P w K mg)(f:gu P w K mg)(e:j3 P w K mg):lX P w K mg:=fun base=>dG X G T.f_need_parts (fun S _ _ _ _ _ _ _ _ _ i j h=>bK (wF (K:=K) h) (ac (bt (qf i (e base) (a2 bj (qf i (a base) (a3 (pv 0) (mn rfl c.MOST_WORDS) (br cA)))))) (ac (bt (qf i (e base) (a2 bj (qf i (a base) (a3 (pv 1) (mn rfl c.MOST_WORDS) (pv 0)))))) (ac (bt (qf i (e base) (a2 bj (qf i (a base) (a3 (pv 2) (mn rfl c.MOST_ROOMS) (br cA)))))) (af (bt (qf i (e base) (a2 bj (qf i (f base) (a3 (pv 3) (pv 2) (qf i (g base) (a2 (pv 0) (pv 1))))))))))))) (by walk_at "b")
theorem pU:ip P w K mg:=fun base=>dG X G T.f_doors_by_start (fun S _ _ _ _ _ _ _ _ _ e a h=>bK (p_ h) (ac (qs 2 S mW) (ac (bE bp rfl (aO (pv 0)) (gn 3 S) (af (eO a (pv 2) (pv 3) (br cA) rfl))) (ac (bE bp rfl (aO (pv 1)) (gn 4 S) (af (bt (jU gH j8 j7 dE (gg a (pv 2) (xq (pv 4) ag) (fun _ _=>rfl)) (a1 (pv 4)))))) (af (au (pv 2))))))) (by walk_at "b")
theorem pT:io P w K mg:=fun base=>dG X G T.f_has_asks_alone (fun S _ _ _ _ _ _ _ _ _ a e h=>bK (p9 h) (af (au (qB (sT rfl) z.all boot_all (a1 (qc (aO (pv 0)) (aT (by decide)) fun _ _ _ _ _ _=>⟨gc 0,cj,Ls g6 (xq (xq (pv 0) ag) ag) bj⟩)))))) (by walk_at "b")
theorem CT(l:k9 P w K mg)(a:dh P w K mg)(i:jJ P w K mg)(e:hV P w K mg)(k:j3 P w K mg)(j:lX P w K mg)(f:ip P w K mg)(g:io P w K mg):sk P w K mg C:=fun base=>dN c.cm c.makes c.kc T.f_Machine___init__ (fun S _ _ _ _ _ _ _ _ _ m n h=>bK (Jz c.mc h) (ac (bt (qf m (j base) (aG (pv 1) (a3 (pv 2) (pv 3) (pv 4))))) (ac (eX (pv 0) (qL rfl z.list (a1 (pv 1))) rfl) (ac (eX (pv 0) (qL rfl z.list (a1 (pv 2))) rfl) (ac (eX (pv 0) (qL rfl z.list (a1 (pv 3))) rfl) (ac (eX (pv 0) (qL rfl z.list (a1 (pv 4))) rfl) (ac (eX (pv 0) (qf m (f base) (a2 (pv 3) (pv 4))) rfl) (ac (eX (pv 0) (qf m (l base) (a1 (qc (aO (pv 3)) (aT (by decide)) fun _ _ _ _ _ _=>⟨gc 0,gW (o9 (qf m (g base) (a1 (gg n (cz (pv 1) rfl) (pv 0) (fun _ _=>rfl))))),pv 0⟩))) rfl) (ac (eX (pv 0) (qf m (a base) (a1 (pv 4))) rfl) (ac (eX (pv 0) (gC (Am rfl) rfl z.dict DU (a1 (qc (aO (pv 3)) (aT (by decide)) fun _ _ _ _ _ _=>⟨gc 0,cj,aA (a2 (pv 0) (qf m (i base) (a2 (cz (pv 1) rfl) (pv 0))))⟩))) rfl) (af (bt (qf m (k base) (a2 bj (qf m (e base) (a2 (pv 3) (cz (pv 0) rfl))))))))))))))))) (by walk_at "b")
theorem uT(a:sk P w K mg C):oA P w K mg C:=fun base=>dG X G T.f_law_machine (fun S _ _ _ _ _ _ _ _ _ e f h=>bK (C_ h) (af (au (vc (a base) (e.mono (by decide)) rfl (aG (qL rfl z.list (a1 (xq (pv 0) ag))) (a3 (qL rfl z.list (a1 (xq (pv 0) ag))) (qL rfl z.list (a1 (xq (pv 0) ag))) (qL rfl z.list (a1 (xq (pv 0) ag))))))))) (by walk_at "b")
theorem rF:eD P w K mg C:=fun base=>dM c.mc.cls T.f_Machine_rooms (fun S _ _ _ _ _ _ _ _ _ a e h=>bK (Hl c.mc h) (af (au (qL rfl z.list (a1 (cz (pv 0) rfl)))))) (by walk_at "b")
theorem nU:eh P w K mg C:=fun base=>dM c.mc.cls T.f_Machine_led_from (fun S _ _ _ _ _ _ _ _ _ e a h=>bK (Bi c.mc h) (af (au (qL rfl z.list (a1 (vd a (cz (pv 0) rfl) (pv 1) (aA cA) ⟨rfl,rfl,rfl,rfl⟩)))))) (by walk_at "b")
theorem wk(e:eD P w K mg C)(a:eh P w K mg C):i9 P w K mg C:=fun base=>dG X G T.f_with_still (fun S _ _ _ _ _ _ _ _ _ g f h=>bK (wE h) (ac (qs 2 S mW) (ac (bE bp rfl (aO (pv 1)) (gn 3 S) (af (bq (cN (fE f (pv 3) (pv 2))) (ac (eO f (pv 2) (pv 3) kM rfl) (af (bE bp rfl (aO (qm g (a base) (pv 0) (a1 (pv 3)))) (gn 4 S) (af (eO f (pv 2) (pv 4) kM rfl))))) aK))) (af (au (gC fZ rfl z.tuple gD (a1 (qc (aO (HH g (e base) (pv 0))) (aT (by decide)) fun _ _ _ _ _ _=>⟨gc 0,gW (cN (rM f (pv 0) (pv 1))),pv 0⟩)))))))) (by walk_at "b")
theorem rG:gk P w K mg C:=fun base=>dM c.mc.cls T.f_Machine_goals (fun S _ _ _ _ _ _ _ _ _ e a h=>bK (FJ c.mc h) (af (au (qL rfl z.list (a1 (vd a (cz (pv 0) rfl) (aA (a2 (pv 1) (pv 2))) (aA cA) ⟨rfl,rfl,rfl,rfl⟩)))))) (by walk_at "b")
theorem nV:gv P w K mg C:=fun base=>dM c.mc.cls T.f_Machine_is_quiet (fun S _ _ _ _ _ _ _ _ _ e a h=>bK (Bj c.mc h) (af (au (K9 (rM a (pv 1) (cz (pv 0) rfl)))))) (by walk_at "b")
theorem tD:dI P w K mg:=fun base=>dG X G T.f_law_still_on (fun S _ _ _ _ _ _ _ _ _ e a h=>bK (Bf h) (ac (qs 2 S (qL rfl z.list (a1 (pv 1)))) (ac (qs 3 S ag) (ac (Bo bp (iZ vf (pv 3) (ql z.len (a1 (pv 2)))) (ac (bE bp rfl (aO (pv 0)) (dZ rfl (ax (gn 4 S) (ax (gn 5 S) (ax (gn 6 S) cS)))) (af (bq (PW.pt (lH (iZ (ie a) (pv 4) (xq (pv 2) (pv 3))) (lH (iZ (ie a) (pv 5) (aA (a1 bj))) (lG (Jh (kN a) (pv 6) (pv 2)))))) (af (bt (jU gH j8 j7 dE (pv 2) (a1 (pv 6))))) aK))) (af (qs 3 S (az cB (pv 3) ag))))) (af (au (pv 2))))))) (by walk_at "b")
theorem tu:fz P w K mg C:=fun base=>dM c.mc.cls T.f_Machine_asks (fun S _ _ _ _ _ _ _ _ _ a e h=>bK (JC c.mc h) (af (au (qL rfl z.list (a1 (cz (pv 0) rfl)))))) (by walk_at "b")
theorem tq:fx P w K mg C:=fun base=>dM c.mc.cls T.f_Machine_says (fun S _ _ _ _ _ _ _ _ _ a e h=>bK (Ju c.mc h) (af (au (qL rfl z.list (a1 (cz (pv 0) rfl)))))) (by walk_at "b")
theorem wx(a:eD P w K mg C)(e:i9 P w K mg C):me P w K mg C:=fun base=>dG X G T.f_first_face (fun S _ _ _ _ _ _ _ _ _ f g h=>bK (wH h) (af (au (qf f (e base) (a2 (pv 0) (cX gb (HH f (a base) (pv 0)) gf (c7 ag))))))) (by walk_at "b")
theorem uU(f:i9 P w K mg C)(e:gk P w K mg C)(a:gv P w K mg C):ko P w K mg C:=fun base=>dG X G T.f_face_behind (fun S _ _ _ _ _ _ _ _ _ g i h=>bK (JA c.hush h) (ac (bq (iZ (ie i) (pv 2) (mn rfl c.HUSH)) (af (au (gC fZ rfl z.tuple gD (a1 (qc (va (pv 1)) (aT (by decide)) fun _ _ _ _ _ _=>⟨gc 0,gW (o9 (qm g (a base) (pv 1) (a1 (pv 0)))),pv 0⟩))))) aK) (ac (qs 3 S (br cA)) (ac (bE bp rfl (va (pv 1)) (gn 4 S) (af (bt (jU gH PySem.F.slot_list_extend PySem.F.type_list_extend FZ (pv 3) (a1 (qm g (e base) (pv 0) (a2 (pv 4) (pv 2)))))))) (af (au (qf g (f base) (a2 (pv 0) (pv 3))))))))) (by walk_at "b")
theorem pQ(a:fz P w K mg C)(e:fx P w K mg C):ik P w K mg C a_HUSH:=fun base=>dG X G T.f_signs_in_order (fun S _ _ _ _ _ _ _ _ _ f g h=>bK (KY h) (af (au (az eZ (az eZ (qc (aO (HH f (a base) (pv 0))) (aT (by decide)) fun _ _ _ _ _ _=>⟨gc 0,cj,aA (a2 bj (pv 0))⟩) (qc (aO (HH f (e base) (pv 0))) (aT (by decide)) fun _ _ _ _ _ _=>⟨gc 0,cj,aA (a2 bj (pv 0))⟩)) (br (a1 (mn rfl c.HUSH))))))) (by walk_at "b")
theorem A5(e:ko P w K mg C)(a:ik P w K mg C a_HUSH):pE P w K mg C:=fun base=>dG X G T.f_steps_at (fun S _ _ _ _ _ _ _ _ _ f g h=>bK (C8 c.hush h) (ac (qs 2 S iJ) (ac (bE bp rfl (aO (qf f (a base) (a1 (pv 0)))) (gn 3 S) (ac (qs 4 S (qf f (e base) (a3 (pv 0) (pv 1) (pv 3)))) (af (bq (iZ Br (ql z.len (a1 (pv 4))) ag) (af (HJ g (pv 2) (pv 3) (pv 4) rfl)) aK)))) (af (au (pv 2)))))) (by walk_at "b")
theorem wA:i_ P w K mg Ck:=fun base=>dN c.cmksc c.makesksc c.kcksc T.f_KnownSteps___init__ (fun S _ _ _ _ _ _ _ _ _ a e h=>bK (FN c.ksc h) (ac (eX (pv 0) (pv 1) rfl) (af (eX (pv 0) iJ rfl)))) (by walk_at "b")
theorem ke(a:pE P w K mg C):cM P w K mg C Ck:=fun base=>dM c.ksc.cls T.f_KnownSteps_steps_from (fun S _ _ _ _ _ _ _ _ _ f e h=>bK (FO c.ksc h) (ac (bq (cN (fE e (pv 1) (cz (pv 0) rfl))) (af (eO e (cz (pv 0) rfl) (pv 1) (qf f (a base) (a2 (cz (pv 0) rfl) (pv 1))) rfl)) aK) (af (au (gg e (cz (pv 0) rfl) (pv 1) (fun _ _=>rfl)))))) (by walk_at "b")
theorem wo:lZ P w K mg:=fun base=>dG X G T.f_need_depth (fun S _ _ _ _ _ _ _ _ _ a e h=>bK (wG (K:=K) h) (af (bq (PW.pt (jS (iZ vf (pv 0) ag) (jz (iZ Br (pv 0) (mn rfl c.DEEPEST))))) (af (qb)) aK))) (by walk_at "b")
theorem CN:nT P w K mg:=fun base=>dG X G T.f_product (fun S _ _ _ _ _ _ _ _ _ a e h=>bK (uZ h) (ac (qs 1 S ag) (ac (bE bp rfl (aO (pv 0)) (gn 2 S) (af (qs 1 S (az lJ (pv 1) (pv 2))))) (af (au (pv 1)))))) (by walk_at "b")
theorem Jl(a:fx P w K mg C)(e:i_ P w K mg Ck):Ef P w K mg C Ck Cd:=fun base=>dN c.cmdc c.makesdc c.kcdc T.f_Made___init__ (fun S _ _ _ _ _ _ _ _ _ f g h=>bK (FK c.dc h) (ac (eX (pv 0) (qc (aO (HH f (a base) (pv 1))) (aT (by decide)) fun _ _ _ _ _ _=>⟨gc 0,cj,aA (a2 bj (pv 0))⟩) rfl) (ac (eX (pv 0) (vc (e base) (f.mono (by decide)) rfl (a1 (pv 1))) rfl) (af (eX (pv 0) iJ rfl))))) (by walk_at "b")
theorem oZ(a:cM P w K mg C Ck):cL P w K mg C Ck Cd:=fun base=>dM c.dc.cls T.f_Made_steps_from (fun S _ _ _ _ _ _ _ _ _ e f h=>bK (FL c.dc h) (af (au (qm e (a base) (cz (pv 0) rfl) (a1 (pv 1)))))) (by walk_at "b")
theorem rC(a:cL P w K mg C Ck Cd):gh P w K mg C Ck Cd:=fun base=>dM c.dc.cls T.f_Made_kinds_at (fun S _ _ _ _ _ _ _ _ _ e f h=>bK (FI c.dc c.hush h) (ac (LJ 2 S (HK (qm e (a base) (pv 0) (a1 (pv 1)))) (aT (by decide)) fun _ _ _ _ _ _=>⟨gc 0,gW (iZ g6 (xq (pv 0) ag) bj),pv 0⟩) (af (au (az eZ (qc (aO (pv 2)) (aT (by decide)) fun _ _ _ _ _ _=>⟨gc 0,cj,az eZ (br (a1 (pv 0))) (cz (pv 1) rfl)⟩) (br (a1 (az eZ (cz (pv 0) rfl) (br (a1 (mn rfl c.HUSH))))))))))) (by walk_at "b")
theorem rE(k:nT P w K mg)(g:cL P w K mg C Ck Cd)(j:gh P w K mg C Ck Cd):gj P w K mg C Ck Cd:=fun base=>by
  have E0:pF P w K mg base Cd "count_of" ["self","face","d","signs"] 7 CY:=by
   obtain⟨f,a,i,t⟩:=T.f_Made_count_of;obtain⟨v,F⟩:=t.fun_;exact⟨f,v,xp,c.dc.cls,⟨a,i,F.kp⟩,F.binds (ps:=["self","face","d","signs"]) (by walk_at "b")⟩
  have o:∀(n D:Nat) (s:Sp),7<=n->D<=4->(∀m,D=m+1->s=(js K C Ck Cd m))->pF P w K mg base Cd "count_of" ["self","face","d","signs"] n s->pF P w K mg base Cd "count_at" ["self","face","d"] (n+1) (iG C Ck Cd D):=fun n D s q x y u=>dM c.dc.cls T.f_Made_count_at (fun S _ _ _ _ _ _ _ _ _ l p h=>bK (Hv c.dc x y h) (ac (bq (PW.pt (jS (cN (rL (pv 1))) (jz (iZ g6 (pv 2) ag)))) (af (au ag)) aK) (ac (bq (cN (fE p (aA (a2 (pv 1) (pv 2))) (cz (pv 0) rfl))) (ac (LJ 3 S (aO (qm (k0:=7) (l.mono (aB (by decide) q)) (j base) (pv 0) (a1 (pv 1)))) (aT (by decide)) fun _ _ _ _ _ _=>⟨gc 0,cj,qm (hk:=aD _) l u (pv 3) (a3 (pv 1) (pv 2) (pv 0))⟩) (af (eO p (cz (pv 0) rfl) (aA (a2 (pv 1) (pv 2))) (az cB ag (qB (Gz rfl) z.sum boot_sum (a1 (pv 3)))) rfl))) aK) (af (au (gg p (cz (pv 0) rfl) (aA (a2 (pv 1) (pv 2))) (fun _ _=>rfl))))))) (by walk_at "b");have r:∀n D:Nat,7<=n->pF P w K mg base Cd "count_at" ["self","face","d"] n (iG C Ck Cd D)->pF P w K mg base Cd "count_of" ["self","face","d","signs"] (n+1) (js K C Ck Cd D):=fun n D q u=>dM c.dc.cls T.f_Made_count_of (fun S _ _ _ _ _ _ _ _ _ l p h=>bK (Bk h) (ac (qs 4 S (qm (k0:=6) (l.mono (aB (by decide) q)) (g base) (pv 0) (a1 (pv 1)))) (af (au (qf (k0:=1) (l.mono (aB (by decide) q)) (k base) (a1 (qc (aO (pv 3)) (aT (by decide)) fun _ _ _ _ _ _=>⟨gc 0,cj,qm (hk:=aD _) l u (pv 1) (a2 (qg p (pv 3) (pv 0) ⟨rfl,rfl,rfl,rfl⟩) (az jA (pv 2) ag))⟩))))))) (by walk_at "b");have A:=o 7 0 _ (by decide) (by decide) (fun m e=>by cases e) E0;have B:=r 8 0 (by decide) A;have E:=o 9 1 _ (by decide) (by decide) (fun m e=>by cases e;rfl) B;have H:=r 10 1 (by decide) E;have I:=o 11 2 _ (by decide) (by decide) (fun m e=>by cases e;rfl) H;have J:=r 12 2 (by decide) I;have L:=o 13 3 _ (by decide) (by decide) (fun m e=>by cases e;rfl) J;have M:=r 14 3 (by decide) L;have N:=o 15 4 _ (by decide) (by decide) (fun m e=>by cases e;rfl) M;exact N
theorem rD(f:nT P w K mg)(a:cL P w K mg C Ck Cd)(e:gj P w K mg C Ck Cd):iV P w K mg C Ck Cd:=fun base=>dM c.dc.cls T.f_Made_count_of (fun S _ _ _ _ _ _ _ _ _ g i h=>bK (Bk h) (ac (qs 4 S (qm g (a base) (pv 0) (a1 (pv 1)))) (af (au (qf g (f base) (a1 (qc (aO (pv 3)) (aT (by decide)) fun _ _ _ _ _ _=>⟨gc 0,cj,qm g (e base) (pv 1) (a2 (qg i (pv 3) (pv 0) ⟨rfl,rfl,rfl,rfl⟩) (az jA (pv 2) ag))⟩))))))) (by walk_at "b")
theorem Hg(a:eh P w K mg C)(e:gk P w K mg C):AE P w K mg C:=fun base=>dG X G T.f_takes (fun S _ _ _ _ _ _ _ _ _ f g h=>bK (Hk h) (af (au (qB (BX rfl) z.any boot_any (a1 (qc (aO (az eZ (br (a1 (pv 1))) (qm f (a base) (pv 0) (a1 (pv 1))))) (aT (by decide)) fun _ _ _ _ _ _=>⟨gc 0,cj,Ls Br (ql z.len (a1 (qm f (e base) (pv 1) (a2 (pv 0) (aA (a2 bj (pv 2))))))) ag⟩)))))) (by walk_at "b")
theorem wn(a:fz P w K mg C)(e:fx P w K mg C):lY P w K mg C:=fun base=>dG X G T.f_need_match (fun S _ _ _ _ _ _ _ _ _ f g h=>bK (u4 h) (af (bq (PW.pt (jS (iZ (rN g) (HH f (a base) (pv 0)) (HH f (a base) (pv 1))) (jz (iZ (rN g) (HH f (e base) (pv 0)) (HH f (e base) (pv 1)))))) (af (qb)) aK))) (by walk_at "b")
theorem ln(a:eD P w K mg C)(e:fz P w K mg C)(f:AE P w K mg C):eL P w K mg C:=fun base=>dG X G T.f_need_all_asks_taken (fun S _ _ _ _ _ _ _ _ _ g i h=>bK (zR h) (af (bE bp rfl (aO (HH g (a base) (pv 0))) (gn 1 S) (af (bE bp rfl (aO (HH g (e base) (pv 0))) (gn 2 S) (af (bq (Di (o9 (qf g (f base) (a3 (pv 0) (pv 1) (pv 2))))) (af (qb)) aK))))))) (by walk_at "b")
theorem wl(e:lY P w K mg C)(a:eL P w K mg C):lW P w K mg C:=fun base=>dG X G T.f_need_taker (fun S _ _ _ _ _ _ _ _ _ f g h=>bK (u3 (K:=K) h) (ac (bt (qf f (e base) (a2 (pv 0) (pv 1)))) (af (bt (qf f (a base) (a1 (pv 1))))))) (by walk_at "b")
theorem CU(a:i_ P w K mg Ck)(e:Ef P w K mg C Ck Cd):sn P w K mg C Ck Cd Cb:=fun base=>dN c.cmbc c.makesbc c.kcbc T.f_Blamers___init__ (fun S _ _ _ _ _ _ _ _ _ f g h=>bK (FQ c.bc h) (ac (eX (pv 0) (vc (e base) (f.mono (by decide)) rfl (a1 (pv 1))) rfl) (ac (eX (pv 0) (vc (a base) (f.mono (by decide)) rfl (a1 (pv 2))) rfl) (ac (eX (pv 0) iJ rfl) (af (eX (pv 0) iJ rfl)))))) (by walk_at "b")
theorem pP(a:cM P w K mg C Ck)(e:cL P w K mg C Ck Cd):iq P w K mg C Ck Cd Cb:=fun base=>dM c.bc.cls T.f_Blamers_places (fun S _ _ _ _ _ _ _ _ _ f g h=>bK (C9 c.bc h) (ac (qs 4 S (qm f (e base) (cz (pv 0) rfl) (a1 (pv 1)))) (ac (qs 5 S (qm f (a base) (cz (pv 0) rfl) (a1 (pv 2)))) (af (au (qc (aO (pv 3)) (aT (by decide)) fun _ _ _ _ _ _=>⟨gc 0,cj,aA (a2 (qg g (pv 1) (pv 0) ⟨rfl,rfl,rfl,rfl⟩) (qg g (pv 2) (pv 0) ⟨rfl,rfl,rfl,rfl⟩))⟩)))))) (by walk_at "b")
theorem nW(j:gh P w K mg C Ck Cd)(k:gj P w K mg C Ck Cd)(l:iV P w K mg C Ck Cd)(g:iq P w K mg C Ck Cd Cb):gw P w K mg C Ck Cd Cb:=fun base=>by
  have E0:pF P w K mg base Cb "first_of_kinds" ["self","face","mine","d"] 17 CY:=by
   obtain⟨f,a,i,t⟩:=T.f_Blamers_first_of_kinds;obtain⟨y,F⟩:=t.fun_;exact⟨f,y,xp,c.bc.cls,⟨a,i,F.kp⟩,F.binds (ps:=["self","face","mine","d"]) (by walk_at "b")⟩
  have q:∀(n D:Nat) (x:Sp),17<=n->D<=4->(∀m,D=m+1->x=(uX K C Ck Cd Cb m))->pF P w K mg base Cb "first_of_kinds" ["self","face","mine","d"] n x->pF P w K mg base Cb "first_at" ["self","face","mine","d"] (n+1) (o7 C Ck Cd Cb D):=fun n D x p A B r=>dM c.bc.cls T.f_Blamers_first_at (fun S _ _ _ _ _ _ _ _ _ o s h=>bK (K1 c.bc A B h) (ac (bq (cN (rL (pv 2))) (af (au gX)) aK) (ac (bq (cN (rL (pv 1))) (af (au ag)) aK) (ac (bq (iZ g6 (pv 3) ag) (af (au gX)) aK) (ac (bq (cN (fE s (aA (a3 (pv 1) (pv 2) (pv 3))) (cz (pv 0) rfl))) (af (eO s (cz (pv 0) rfl) (aA (a3 (pv 1) (pv 2) (pv 3))) (qm (hk:=aD _) o r (pv 0) (a3 (pv 1) (pv 2) (pv 3))) rfl)) aK) (af (au (gg s (cz (pv 0) rfl) (aA (a3 (pv 1) (pv 2) (pv 3))) (fun _ _=>rfl))))))))) (by walk_at "b");have u:∀n D:Nat,17<=n->pF P w K mg base Cb "first_at" ["self","face","mine","d"] n (o7 C Ck Cd Cb D)->pF P w K mg base Cb "first_of_kind" ["self","face","mine","d","signs"] (n+1) (Bd K C Ck Cd Cb D):=fun n D p r=>dM c.bc.cls T.f_Blamers_first_of_kind (fun S _ _ _ _ _ _ _ _ _ o s h=>bK (LD c.bc h) (ac (qs 5 S (br cA)) (ac (qs 6 S ag) (ac (bE bp rfl (K6 rfl z.reversed (a1 (qm (k0:=7) (o.mono (aB (by decide) p)) (g base) (pv 0) (a3 (pv 1) (pv 2) (pv 4))))) (dZ rfl (ax (gn 7 S) (ax (gn 8 S) cS))) (ac (qs 9 S (qm (hk:=aD _) o r (pv 0) (a3 (pv 7) (pv 8) (az jA (pv 3) ag)))) (ac (bq (cN (qh (pv 9))) (af (bt (jU gH j8 j7 dE (pv 5) (a1 (az lJ (pv 9) (pv 6)))))) aK) (af (qs 6 S (az lJ (pv 6) (qm (k0:=16) (o.mono (aB (by decide) p)) (k base) (cz (pv 0) rfl) (a2 (pv 7) (az jA (pv 3) ag))))))))) (af (au (JH rfl rfl z.min (a1 (pv 5)) gX))))))) (by walk_at "b");have v:∀n D:Nat,17<=n->pF P w K mg base Cb "first_of_kind" ["self","face","mine","d","signs"] n (Bd K C Ck Cd Cb D)->pF P w K mg base Cb "first_of_kinds" ["self","face","mine","d"] (n+1) (uX K C Ck Cd Cb D):=fun n D p r=>dM c.bc.cls T.f_Blamers_first_of_kinds (fun S _ _ _ _ _ _ _ _ _ o s h=>bK (K0 c.bc h) (ac (qs 4 S ag) (ac (bE bp rfl (aO (qm (k0:=7) (o.mono (aB (by decide) p)) (j base) (cz (pv 0) rfl) (a1 (pv 1)))) (gn 5 S) (ac (qs 6 S (qm (hk:=aD _) o r (pv 0) (aG (pv 1) (a3 (pv 2) (pv 3) (pv 5))))) (ac (bq (cN (qh (pv 6))) (af (au (az cB (pv 4) (pv 6)))) aK) (af (K3 (i:=4) S rfl (Or.inl rfl) (qm (k0:=17) (o.mono (aB (by decide) p)) (l base) (cz (pv 0) rfl) (a3 (pv 1) (pv 3) (pv 5))) Ld))))) (af (au gX))))) (by walk_at "b");have E:=q 17 0 _ (by decide) (by decide) (fun m e=>by cases e) E0;have H:=u 18 0 (by decide) E;have I:=v 19 0 (by decide) H;have J:=q 20 1 _ (by decide) (by decide) (fun m e=>by cases e;rfl) I;have L:=u 21 1 (by decide) J;have M:=v 22 1 (by decide) L;have N:=q 23 2 _ (by decide) (by decide) (fun m e=>by cases e;rfl) M;have O:=u 24 2 (by decide) N;have Q:=v 25 2 (by decide) O;have U:=q 26 3 _ (by decide) (by decide) (fun m e=>by cases e;rfl) Q;have Y:=u 27 3 (by decide) U;have B3:=v 28 3 (by decide) Y;have A4:=q 29 4 _ (by decide) (by decide) (fun m e=>by cases e;rfl) B3;exact A4
theorem tE(e:me P w K mg C)(f:lZ P w K mg)(g:lW P w K mg C)(i:sn P w K mg C Ck Cd Cb)(a:gw P w K mg C Ck Cd Cb):nz P w K mg C:=fun base=>dG X G T.f_first_blamer (fun S _ _ _ _ _ _ _ _ _ j k h=>bK (Hu (K:=K) (Cd:=Cd) h) (ac (bt (qf j (g base) (a2 (pv 0) (pv 2)))) (ac (bt (qf j (f base) (a1 (pv 1)))) (af (au (qm j (a base) (vc (i base) (j.mono (by decide)) rfl (a2 (pv 0) (pv 2))) (a3 (qf j (e base) (a1 (pv 0))) (qf j (e base) (a1 (pv 2))) (pv 1)))))))) (by walk_at "b")
theorem uR(a:eg P w K mg)(f:k7 P w K mg)(e:dI P w K mg):km P w K mg:=fun base=>dG X G T.f_law_willing (fun S _ _ _ _ _ _ _ _ _ g i h=>bK (C7 h) (ac (kg (pv 1) (dZ rfl (ax (gn 2 S) (ax (gn 3 S) (ax (gn 4 S) (ax (gn 5 S) cS)))))) (ac (qs 5 S (qL rfl z.list (a1 (pv 5)))) (ac (bE bp rfl (aO (pv 4)) (gn 6 S) (af (bE bp rfl (aO (pv 2)) (gn 7 S) (ac (qs 8 S (qf g (e base) (a2 (pv 5) (br (a1 (pv 6)))))) (af (bq (iZ (ie i) (qc (aO (pv 5)) (aT (by decide)) fun _ _ _ _ _ _=>⟨gc 0,gW (PW.pt (lH (Jh (zU i) (xq (pv 0) ag) (pv 1)) (lG (iZ (ie i) (xq (pv 0) ag) (aA (a2 bj (pv 2))))))),pv 0⟩) (br cA)) (ac (qs 9 S (xl (br (a2 (pv 6) (xl (pv 4) (qf g (a base) (a2 (pv 0) (ql z.len (a1 (pv 4)))))))) (qf g (a base) (a2 (pv 0) ag)))) (af (bt (qf g (f base) (a2 (pv 5) (aA (a3 (pv 6) (aA (a2 bj (pv 7))) (pv 9)))))))) aK)))))) (af (au (aA (aG (pv 2) (a3 (pv 3) (pv 4) (pv 5)))))))))) (by walk_at "b")
theorem wq(a:eg P w K mg)(e:k7 P w K mg)(f:dI P w K mg):l6 P w K mg:=fun base=>dG X G T.f_law_turned (fun S _ _ _ _ _ _ _ _ _ g i h=>bK (FF h) (ac (kg (pv 1) (dZ rfl (ax (gn 2 S) (ax (gn 3 S) (ax (gn 4 S) (ax (gn 5 S) cS)))))) (ac (qs 5 S (qL rfl z.list (a1 (pv 5)))) (ac (qs 6 S (qf g (a base) (a2 (pv 0) ag))) (ac (qs 7 S (qf g (a base) (a2 (pv 0) (qB (GB rfl) z.max PyProof.Rows.boot_max (a2 ag (ql z.len (a1 (pv 5)))))))) (ac (qs 8 S (xl (pv 4) (qf g (a base) (a2 (pv 0) (ql z.len (a1 (pv 4))))))) (ac (qs 9 S (xl (pv 4) (qf g (a base) (a2 (pv 0) (ql z.len (a1 (pv 4))))))) (ac (bq (iZ g6 (pv 6) ag) (af (bt (qf g (e base) (a2 (pv 5) (aA (a3 (pv 8) (aA (a2 bj (xl (pv 3) (qf g (a base) (a2 (pv 0) (ql z.len (a1 (pv 3)))))))) (pv 9))))))) (af (bq (iZ g6 (pv 6) ag) (af (bt (qf g (e base) (a2 (pv 5) (aA (a3 (pv 8) (aA (a2 bj (xl (pv 2) (qf g (a base) (a2 (pv 0) (ql z.len (a1 (pv 2)))))))) (pv 9))))))) (af (bq (PW.pt (lH (iZ vf (pv 6) ag) (lH (iZ (rN i) (pv 5) (br cA)) (lG (iZ EL (xt (xt (xl (pv 5) (pv 7)) ag) ag) bj))))) (ac (qs 10 S (jU gH PySem.F.slot_list_pop PySem.F.type_list_pop Ib (pv 5) (a1 (pv 7)))) (af (bq (iZ g6 (pv 6) ag) (af (bt (qf g (e base) (a2 (pv 5) (aA (a3 (xt (pv 10) ag) (xt (pv 10) ag) (pv 9))))))) aK))) (af (bq (PW.pt (lH (iZ g6 (pv 6) ag) (lG (Jh (kN i) (pv 8) (qf g (f base) (a2 (pv 5) (br (a1 (pv 9))))))))) (af (bt (qf g (e base) (a2 (pv 5) (aA (a3 (pv 8) (aA (a1 bj)) (pv 9))))))) aK))))))) (af (au (aA (aG (pv 2) (a3 (pv 3) (pv 4) (pv 5)))))))))))))) (by walk_at "b")
theorem uS(e:eg P w K mg)(a:j5 P w K mg):kn P w K mg:=fun base=>dG X G T.f_law_renamed (fun S _ _ _ _ _ _ _ _ _ g f h=>bK (Bh h) (ac (kg (pv 1) (dZ rfl (ax (gn 2 S) (ax (gn 3 S) (ax (gn 4 S) (ax (gn 5 S) cS)))))) (ac (qs 6 S mW) (ac (bE bp rfl (EE rfl z.zip (a2 (pv 4) (qf g (a base) (a2 (pv 0) (ql z.len (a1 (pv 4))))))) (dZ rfl (ax (gn 7 S) (ax (gn 8 S) cS))) (af (eO f (pv 6) (pv 7) (pv 8) rfl))) (ac (LJ 9 S (aO (pv 4)) (aT (by decide)) fun _ _ _ _ _ _=>⟨gc 0,cj,gg f (pv 1) (pv 0) (fun _ _=>rfl)⟩) (ac (qs 10 S (az cB ag (qf g (e base) (a2 (pv 0) (ql z.len (a1 (pv 4))))))) (ac (qs 9 S (az eZ (az eZ (cX gb (pv 9) gf (c7 ag)) (cX gb (pv 9) (c7 (pv 10)) gf)) (cX gb (pv 9) (c7 ag) (c7 (pv 10))))) (ac (LJ 5 S (aO (pv 5)) (zT (ic (aT (by decide)) dj (ic (aT (by decide)) dj (ic (aT (by decide)) dj (ve) (ig)) (jD dj (ig))) (jD dj (jD dj (ig))))) fun _ _ _ _ _ _=>⟨dZ rfl (ax (gc 0) (ax (gc 1) (ax (gc 2) cS))),cj,aA (a3 (gg f (pv 3) (pv 0) (fun _ _=>rfl)) (pv 1) (gg f (pv 3) (pv 2) (fun _ _=>rfl)))⟩) (af (au (aA (aG (pv 2) (a3 (pv 3) (pv 9) (pv 5)))))))))))))) (by walk_at "b")
theorem A8(i:ma P w K mg)(a:eg P w K mg)(e:km P w K mg)(g:l6 P w K mg)(f:kn P w K mg):v3 P w K mg:=fun base=>dG X G T.f_law_near (fun S _ _ _ _ _ _ _ _ _ j k h=>bK (Jw (K:=K) h) (ac (bt (qf j (i base) (a1 (pv 0)))) (ac (bE bp rfl (jd rfl z.range (a1 (qf j (a base) (a2 (pv 0) (az cB (pv 2) ag))))) (gn 3 S) (af (qs 1 S (qf j (g base) (a2 (pv 0) (pv 1)))))) (ac (qs 1 S (qf j (e base) (a2 (pv 0) (pv 1)))) (ac (bq (iZ g6 (qf j (a base) (a2 (pv 0) ag)) ag) (af (qs 1 S (qf j (f base) (a2 (pv 0) (pv 1))))) aK) (af (au (pv 1)))))))) (by walk_at "b")
theorem ww(a:dI P w K mg):hJ P w K mg:=fun base=>dG X G T.f_law_behind (fun S _ _ _ _ _ _ _ _ _ f e h=>bK (JB h) (ac (kg (pv 0) (dZ rfl (ax (gn 3 S) (ax (gn 4 S) (ax (gn 5 S) (ax (gn 6 S) cS)))))) (ac (bq (iZ (ie e) (pv 2) (aA (a1 bj))) (ac (qs 7 S (qc (aO (pv 6)) (aT (by decide)) fun _ _ _ _ _ _=>⟨gc 0,gW (iZ EL (xt (xt (pv 0) ag) ag) bj),xt (pv 0) ag⟩)) (af (au (gC fZ rfl z.tuple gD (a1 (qc (va (pv 1)) (aT (by decide)) fun _ _ _ _ _ _=>⟨gc 0,gW (Jh (kN e) (pv 0) (pv 1)),pv 0⟩)))))) aK) (ac (qs 8 S (qf f (a base) (a2 (pv 6) (qc (aO (pv 6)) (aT (by decide)) fun _ _ _ _ _ _=>⟨gc 0,gW (PW.pt (lH (Jh (zU e) (xt (pv 0) ag) (pv 1)) (lG (iZ (ie e) (xt (pv 0) ag) (pv 2))))),xt (pv 0) ag⟩)))) (af (au (gC fZ rfl z.tuple gD (a1 (qc (aO (pv 5)) (aT (by decide)) fun _ _ _ _ _ _=>⟨gc 0,gW (Jh (zU e) (pv 0) (pv 1)),pv 0⟩))))))))) (by walk_at "b")
theorem zH(a:dI P w K mg):sY P w K mg:=fun base=>dG X G T.f_law_begin (fun S _ _ _ _ _ _ _ _ _ e f h=>bK (Hw h) (ac (qs 1 S (qf e (a base) (a2 (xq (pv 0) ag) (br (a1 (xq (xq (pv 0) ag) ag)))))) (af (au (gC fZ rfl z.tuple gD (a1 (qc (aO (xq (pv 0) ag)) (aT (by decide)) fun _ _ _ _ _ _=>⟨gc 0,gW (Jh (zU f) (pv 0) (pv 1)),pv 0⟩))))))) (by walk_at "b")
theorem pR:cD P w K mg:=fun base=>dG X G T.f_law_part_signs (fun S _ _ _ _ _ _ _ _ _ a e h=>bK (Hm h) (ac (LJ 2 S (aO (xq (pv 0) ag)) (aT (by decide)) fun _ _ _ _ _ _=>⟨gc 0,cj,aA (a2 bj (pv 0))⟩) (ac (bq (cN (rL (pv 1))) (af (au (az eZ (pv 2) (br (a1 (aA (a1 bj))))))) aK) (af (au (az eZ (br (a1 (aA (a2 bj (pv 1))))) (pv 2))))))) (by walk_at "b")
theorem zJ(a:hJ P w K mg):fq P w K mg:=fun base=>dG X G T.f_law_after (fun S _ _ _ _ _ _ _ _ _ f e h=>bK (Hz h) (ac (bq (cN (fE e (aA (a2 (pv 2) (pv 3))) (pv 1))) (af (eO e (pv 1) (aA (a2 (pv 2) (pv 3))) (qf f (a base) (a3 (pv 0) (pv 2) (pv 3))) rfl)) aK) (af (au (gg e (pv 1) (aA (a2 (pv 2) (pv 3))) (fun _ _=>rfl)))))) (by walk_at "b")
theorem zI(a:fq P w K mg):iO P w K mg:=fun base=>dG X G T.f_law_asked (fun S _ _ _ _ _ _ _ _ _ e f h=>bK (Hy h) (af (au (qc (aO (xq (pv 0) ag)) (aT (by decide)) fun _ _ _ _ _ _=>⟨gc 0,gW (iZ (rN f) (qf e (a base) (aG (pv 1) (a3 (pv 2) (pv 3) (aA (a2 bj (pv 0)))))) (aA cA)),pv 0⟩)))) (by walk_at "b")
theorem zB:j4 P w K mg:=fun base=>dG X G T.f_law_times (fun S _ _ _ _ _ _ _ _ _ a e h=>bK (Hj h) (ac (qs 1 S ag) (ac (bE bp rfl (aO (pv 0)) (gn 2 S) (af (qs 1 S (az lJ (pv 1) (pv 2))))) (af (au (pv 1)))))) (by walk_at "b")
theorem zG(g:cD P w K mg)(i:fq P w K mg)(j:iO P w K mg)(k:j4 P w K mg):j6 P w K mg:=fun base=>by
  have E0:fK P w K mg base "_law_sizes" ["told","known","face","ask","deep"] 4 CY:=by
   obtain⟨f,a,t⟩:=T.f_law_sizes;obtain⟨v,F⟩:=t.fun_;exact⟨f,v,xp,eI X G a,F.kp,F.binds (ps:=["told","known","face","ask","deep"]) (by walk_at "b")⟩
  have o:∀(n D:Nat) (s:Sp),4<=n->D<=4->(∀m,D=m+1->s=(iE K m))->fK P w K mg base "_law_sizes" ["told","known","face","ask","deep"] n s->fK P w K mg base "_law_count" ["told","known","face","deep"] (n+1) (jP K D):=fun n D s p x y u=>dG X G T.f_law_count (fun S _ _ _ _ _ _ _ _ _ l q h=>bK (Jy x y h) (ac (bq (PW.pt (jS (iZ (ie q) (pv 2) (aA cA)) (jz (iZ g6 (pv 3) ag)))) (af (au ag)) aK) (ac (bq (cN (fE q (aA (a2 (pv 2) (pv 3))) (pv 1))) (ac (qs 4 S ag) (ac (bE bp rfl (aO (az eZ (qf (k0:=4) (l.mono (aB (by decide) p)) (j base) (a3 (pv 0) (pv 1) (pv 2))) (br (a1 gX)))) (gn 5 S) (af (qs 4 S (az cB (pv 4) (qf (k0:=1) (l.mono (aB (by decide) p)) (k base) (a1 (qf (hk:=aD _) l u (aG (pv 0) (aG (pv 1) (a3 (pv 2) (pv 5) (pv 3))))))))))) (af (eO q (pv 1) (aA (a2 (pv 2) (pv 3))) (pv 4) rfl)))) aK) (af (au (gg q (pv 1) (aA (a2 (pv 2) (pv 3))) (fun _ _=>rfl))))))) (by walk_at "b");have r:∀n D:Nat,4<=n->fK P w K mg base "_law_count" ["told","known","face","deep"] n (jP K D)->fK P w K mg base "_law_sizes" ["told","known","face","ask","deep"] (n+1) (iE K D):=fun n D p u=>dG X G T.f_law_sizes (fun S _ _ _ _ _ _ _ _ _ l q h=>bK (Bg h) (ac (qs 5 S (br cA)) (ac (bE bp rfl (aO (qf (k0:=1) (l.mono (aB (by decide) p)) (g base) (a2 (pv 0) (pv 3)))) (gn 6 S) (af (bt (jU gH j8 j7 dE (pv 5) (a1 (qf (hk:=aD _) l u (aG (pv 0) (a3 (pv 1) (qf (k0:=3) (l.mono (aB (by decide) p)) (i base) (aG (pv 0) (a3 (pv 1) (pv 2) (pv 6)))) (az jA (pv 4) ag))))))))) (af (au (pv 5)))))) (by walk_at "b");have A:=o 4 0 _ (by decide) (by decide) (fun m e=>by cases e) E0;have B:=r 5 0 (by decide) A;have E:=o 6 1 _ (by decide) (by decide) (fun m e=>by cases e;rfl) B;have H:=r 7 1 (by decide) E;have I:=o 8 2 _ (by decide) (by decide) (fun m e=>by cases e;rfl) H;have J:=r 9 2 (by decide) I;have L:=o 10 3 _ (by decide) (by decide) (fun m e=>by cases e;rfl) J;have M:=r 11 3 (by decide) L;have N:=o 12 4 _ (by decide) (by decide) (fun m e=>by cases e;rfl) M;exact N
theorem zC(a:cD P w K mg)(e:fq P w K mg)(f:j6 P w K mg):ny P w K mg:=fun base=>dG X G T.f_law_sizes (fun S _ _ _ _ _ _ _ _ _ g i h=>bK (Bg h) (ac (qs 5 S (br cA)) (ac (bE bp rfl (aO (qf g (a base) (a2 (pv 0) (pv 3)))) (gn 6 S) (af (bt (jU gH j8 j7 dE (pv 5) (a1 (qf g (f base) (aG (pv 0) (a3 (pv 1) (qf g (e base) (aG (pv 0) (a3 (pv 1) (pv 2) (pv 6)))) (az jA (pv 4) ag))))))))) (af (au (pv 5)))))) (by walk_at "b")
theorem CP(g:cD P w K mg)(k:fq P w K mg)(l:iO P w K mg)(i:j4 P w K mg)(j:ny P w K mg):xX P w K mg:=fun base=>by
  have E0:fK P w K mg base "_law_laid" ["told","known","face","ask","deep","number"] 14 CY:=by
   obtain⟨f,a,t⟩:=T.f_law_laid;obtain⟨x,F⟩:=t.fun_;exact⟨f,x,xp,eI X G a,F.kp,F.binds (ps:=["told","known","face","ask","deep","number"]) (by walk_at "b")⟩
  have q:∀(n D:Nat) (s:Sp),14<=n->D<=4->(∀m,D=m+1->s=(mQ K m))->fK P w K mg base "_law_laid" ["told","known","face","ask","deep","number"] n s->fK P w K mg base "_law_nth" ["told","known","face","deep","number"] (n+1) (lF K D):=fun n D s p y A u=>dG X G T.f_law_nth (fun S _ _ _ _ _ _ _ _ _ o v h=>bK (Jx y A h) (ac (bq (iZ (ie v) (pv 2) (aA cA)) (af (au (aA (a1 bj)))) aK) (ac (bq (iZ g6 (pv 4) ag) (af (au (aA (a1 bj)))) aK) (ac (qs 4 S (az jA (pv 4) ag)) (ac (bE bp rfl (aO (az eZ (qf (k0:=4) (o.mono (aB (by decide) p)) (l base) (a3 (pv 0) (pv 1) (pv 2))) (br (a1 gX)))) (gn 5 S) (ac (qs 6 S (qf (k0:=14) (o.mono (aB (by decide) p)) (j base) (aG (pv 0) (aG (pv 1) (a3 (pv 2) (pv 5) (pv 3)))))) (ac (bq (iZ vf (pv 4) (qf (k0:=1) (o.mono (aB (by decide) p)) (i base) (a1 (pv 6)))) (af (au (qf (hk:=aD _) o u (aG (pv 0) (aG (pv 1) (aG (pv 2) (a3 (pv 5) (pv 3) (pv 4)))))))) aK) (af (qs 4 S (az jA (pv 4) (qf (k0:=1) (o.mono (aB (by decide) p)) (i base) (a1 (pv 6))))))))) (af (au gX))))))) (by walk_at "b");have r:∀n D:Nat,14<=n->fK P w K mg base "_law_nth" ["told","known","face","deep","number"] n (lF K D)->fK P w K mg base "_law_laid" ["told","known","face","ask","deep","number"] (n+1) (mQ K D):=fun n D p u=>dG X G T.f_law_laid (fun S _ _ _ _ _ _ _ _ _ o v h=>bK (Hr h) (ac (qs 6 S (br cA)) (ac (qs 7 S (qf (k0:=1) (o.mono (aB (by decide) p)) (g base) (a2 (pv 0) (pv 3)))) (ac (bE bp rfl (aO (EH (Dn rfl rfl z.list rfl z.zip (a2 (pv 7) (qf (k0:=14) (o.mono (aB (by decide) p)) (j base) (aG (pv 0) (aG (pv 1) (a3 (pv 2) (pv 3) (pv 4))))))) (EG yW ag))) (dZ rfl (ax (gn 8 S) (ax (gn 9 S) cS))) (ac (bt (jU gH j8 j7 dE (pv 6) (a1 (qf (hk:=aD _) o u (aG (pv 0) (aG (pv 1) (a3 (qf (k0:=3) (o.mono (aB (by decide) p)) (k base) (aG (pv 0) (a3 (pv 1) (pv 2) (pv 8)))) (az jA (pv 4) ag) (az gZ (pv 5) (pv 9))))))))) (af (qs 5 S (az HR (pv 5) (pv 9)))))) (ac (bt (HP gH PySem.F.slot_list_reverse PySem.F.type_list_reverse Dq (pv 6))) (ac (bq (cN (rL (pv 3))) (af (au (aA (a3 bj (sJ rfl rfl z.tuple rfl z.zip (a2 (xt (pv 0) ag) (cX gb (pv 6) gf (c7 (EG yW ag))))) (xl (pv 6) (EG yW ag)))))) aK) (af (au (aA (aG bj (a3 (pv 3) (xl (pv 6) ag) (sJ rfl rfl z.tuple rfl z.zip (a2 (xt (pv 0) ag) (cX gb (pv 6) (c7 ag) gf)))))))))))))) (by walk_at "b");have B:=q 14 0 _ (by decide) (by decide) (fun m e=>by cases e) E0;have E:=r 15 0 (by decide) B;have H:=q 16 1 _ (by decide) (by decide) (fun m e=>by cases e;rfl) E;have I:=r 17 1 (by decide) H;have J:=q 18 2 _ (by decide) (by decide) (fun m e=>by cases e;rfl) I;have L:=r 19 2 (by decide) J;have M:=q 20 3 _ (by decide) (by decide) (fun m e=>by cases e;rfl) L;have N:=r 21 3 (by decide) M;have O:=q 22 4 _ (by decide) (by decide) (fun m e=>by cases e;rfl) N;exact O
theorem wu:l_ P w K mg:=fun base=>dG X G T.f_law_pieces (fun S _ _ _ _ _ _ _ _ _ a e h=>bK (FH h) (ac (bq (iZ g6 (xt (pv 0) ag) bj) (af (au (aA (a2 (xt (pv 0) ag) (az eZ (br (a1 (xt (pv 0) ag))) (qc (va (xt (pv 0) ag)) (zT (ic (aT (by decide)) dj (ic (aT (by decide)) dj (ve) (ig)) (jD dj (ig)))) fun _ _ _ _ _ _=>⟨dZ rfl (ax (gc 0) (ax (gc 1) cS)),cj,pv 1⟩)))))) aK) (af (au (aA (a2 gX (az eZ (qc (va (xt (pv 0) ag)) (zT (ic (aT (by decide)) dj (ic (aT (by decide)) dj (ve) (ig)) (jD dj (ig)))) fun _ _ _ _ _ _=>⟨dZ rfl (ax (gc 0) (ax (gc 1) cS)),cj,pv 1⟩) (br (a1 (xt (pv 0) ag)))))))))) (by walk_at "b")
theorem wv(i:hJ P w K mg)(g:cD P w K mg)(j:l_ P w K mg):qM P w K mg:=fun base=>by
  have E0:fK P w K mg base "_law_blamed" ["other","own","trial"] 2 CY:=by
   obtain⟨f,a,t⟩:=T.f_law_blamed;obtain⟨q,F⟩:=t.fun_;exact⟨f,q,xp,eI X G a,F.kp,F.binds (ps:=["other","own","trial"]) (by walk_at "b")⟩
  have k:∀(n D:Nat) (o:Sp),2<=n->D<=4->(∀m,D=m+1->o=(ia K m))->fK P w K mg base "_law_blamed" ["other","own","trial"] n o->fK P w K mg base "_law_blamed" ["other","own","trial"] (n+1) (ia K D):=fun n D o p r s u=>dG X G T.f_law_blamed (fun S _ _ _ _ _ _ _ _ _ l v h=>bK (FP r s h) (ac (bq (PW.pt (jS (iZ (ie v) (pv 1) (aA cA)) (jz (iZ g6 (xt (pv 2) ag) bj)))) (af (au kM)) aK) (ac (bq (iZ g6 (xt (pv 2) ag) bj) (af (au kM)) aK) (ac (kg (qf (k0:=1) (l.mono (aB (by decide) p)) (j base) (a1 (pv 2))) (dZ rfl (ax (gn 3 S) (ax (gn 4 S) cS)))) (ac (bE bp rfl (EE rfl z.zip (a2 (qf (k0:=1) (l.mono (aB (by decide) p)) (g base) (a2 (pv 0) (pv 3))) (pv 4))) (dZ rfl (ax (gn 5 S) (ax (gn 6 S) cS))) (af (bq (o9 (HN u l rfl (a3 (pv 0) (qf (k0:=2) (l.mono (aB (by decide) p)) (i base) (a3 (pv 0) (pv 1) (pv 5))) (pv 6)))) (af (au kM)) aK))) (af (au kM))))))) (by walk_at "b");have x:=k 2 0 _ (by decide) (by decide) (fun m e=>by cases e) E0;have y:=k 3 1 _ (by decide) (by decide) (fun m e=>by cases e;rfl) x;have A:=k 4 2 _ (by decide) (by decide) (fun m e=>by cases e;rfl) y;have B:=k 5 3 _ (by decide) (by decide) (fun m e=>by cases e;rfl) A;have E:=k 6 4 _ (by decide) (by decide) (fun m e=>by cases e;rfl) B;exact E
theorem zF(i:hJ P w K mg)(g:cD P w K mg)(j:fq P w K mg)(k:iO P w K mg)(l:j6 P w K mg):sX P w K mg:=fun base=>by
  have E0:fK P w K mg base "_law_first" ["told","other","known","own","face","deep"] 13 CY:=by
   obtain⟨f,a,t⟩:=T.f_law_first;obtain⟨u,F⟩:=t.fun_;exact⟨f,u,xp,eI X G a,F.kp,F.binds (ps:=["told","other","known","own","face","deep"]) (by walk_at "b")⟩
  have q:∀(n D:Nat) (s:Sp),13<=n->D<=4->(∀m,D=m+1->s=(h_ K m))->fK P w K mg base "_law_first" ["told","other","known","own","face","deep"] n s->fK P w K mg base "_law_first" ["told","other","known","own","face","deep"] (n+1) (h_ K D):=fun n D s r v x y=>dG X G T.f_law_first (fun S _ _ _ _ _ _ _ _ _ p o h=>bK (FM v x h) (ac (bq (PW.pt (jS (iZ (ie o) (pv 3) (aA cA)) (jS (iZ (ie o) (pv 4) (aA cA)) (jz (iZ g6 (pv 5) ag))))) (af (au (xl (br (a2 gX ag)) (gC GD rfl z.int GF (a1 (Do (Ls (rN o) (pv 3) (aA cA)) (HL (Ls (ie o) (pv 4) (aA cA))))))))) aK) (ac (bq (cN (rM o (aA (aG bj (a3 (pv 3) (pv 4) (pv 5)))) (pv 2))) (af (au (gg o (pv 2) (aA (aG bj (a3 (pv 3) (pv 4) (pv 5)))) (fun _ _=>rfl)))) aK) (ac (qs 6 S ag) (ac (qs 7 S gX) (ac (bE bp rfl (aO (az eZ (qf (k0:=4) (p.mono (aB (by decide) r)) (k base) (a3 (pv 0) (pv 2) (pv 4))) (br (a1 gX)))) (gn 8 S) (ac (qs 9 S ag) (ac (bE bp rfl (aO (EH (qf (k0:=1) (p.mono (aB (by decide) r)) (g base) (a2 (pv 0) (pv 8))) (EG yW ag))) (gn 10 S) (ac (qs 11 S (qf (k0:=3) (p.mono (aB (by decide) r)) (j base) (aG (pv 0) (a3 (pv 2) (pv 4) (pv 10))))) (ac (qs 12 S (HN y p rfl (aG (pv 0) (aG (pv 1) (aG (pv 2) (a3 (qf (k0:=2) (p.mono (aB (by decide) r)) (i base) (a3 (pv 1) (pv 3) (pv 10))) (pv 11) (az jA (pv 5) ag))))))) (ac (bq (PW.pt (lH (cN (qh (pv 12))) (lG (PW.pt (jS (cN (rL (pv 7))) (jz (iZ vf (az cB (pv 6) (az lJ (pv 12) (pv 9))) (pv 7)))))))) (af (qs 7 S (az cB (pv 6) (az lJ (pv 12) (pv 9))))) aK) (af (qs 9 S (az lJ (pv 9) (qf (k0:=13) (p.mono (aB (by decide) r)) (l base) (aG (pv 0) (a3 (pv 2) (pv 11) (az jA (pv 5) ag))))))))))) (af (qs 6 S (az cB (pv 6) (pv 9))))))) (ac (eO o (pv 2) (aA (aG bj (a3 (pv 3) (pv 4) (pv 5)))) (pv 7) rfl) (af (au (pv 7)))))))))) (by walk_at "b");have A:=q 13 0 _ (by decide) (by decide) (fun m e=>by cases e) E0;have B:=q 14 1 _ (by decide) (by decide) (fun m e=>by cases e;rfl) A;have E:=q 15 2 _ (by decide) (by decide) (fun m e=>by cases e;rfl) B;have H:=q 16 3 _ (by decide) (by decide) (fun m e=>by cases e;rfl) E;have I:=q 17 4 _ (by decide) (by decide) (fun m e=>by cases e;rfl) H;exact I
end
theorem Lb(X:K.In h)(G:h.Ns bW mg)(z:Zs mg)(c:Cs K mg C Ck Cd Cb a_STILL a_HUSH)(T:Ts K C Ck Cd Cb):∃f fd,mg "law"=some (.ref f)/\(∀(s:Shared) (v:Value),ue s fd ⟨[v],[]⟩ [("script",v)])/\∀base:Heap,nu P w K mg base CX0 32 f fd ["script"] (sp_law47 K):=by
 have bw:l9 P w K mg:=wr X G z c T;have ce:vZ P w K mg:=A7 X G z c T;have bc:ma P w K mg:=A9 X G z c T;have g:eg P w K mg:=A6 X G z c T bw;have ap:j5 P w K mg:=zD X G z c T g;have U:k7 P w K mg:=CO X G z c T;have as:im P w K mg:=pS X G z c T g U;have b7:sW P w K mg:=zE X G z c T bc g ap as;have ci:sj P w K mg:=CQ X G z c T;have Y:k9 P w K mg:=CS X G z c T;have J:gq P w K mg:=nX X G z c T ci Y;have bz:mf P w K mg:=wz X G z c T;have L:gu P w K mg:=nY X G z c T Y;have x:dh P w K mg:=jq X G z c T;have bd:jJ P w K mg:=tw X G z c T;have al:hV P w K mg:=o0 X G z c T;have aC:j3 P w K mg:=zt X G z c T;have bI:lX P w K mg:=wm X G z c T J bz L aC;have a0:ip P w K mg:=pU X G z c T;have a4:io P w K mg:=pT X G z c T;have cl:sk P w K mg C:=CT X G z c T Y x bd al aC bI a0 a4;have I:oA P w K mg C:=uT X G z c T cl;have o:eD P w K mg C:=rF X G z c T;have r:eh P w K mg C:=nU X G z c T;have O:i9 P w K mg C:=wk X G z c T o r
 have A:gk P w K mg C:=rG X G z c T;have M:gv P w K mg C:=nV X G z c T;have m:dI P w K mg:=tD X G z c T;have p:fz P w K mg C:=tu X G z c T;have q:fx P w K mg C:=tq X G z c T;have bS:me P w K mg C:=wx X G z c T o O;have bl:ko P w K mg C:=uU X G z c T O A M;have a5:ik P w K mg C a_HUSH:=pQ X G z c T p q;have cf:pE P w K mg C:=A5 X G z c T bl a5;have Q:i_ P w K mg Ck:=wA X G z c T;have j:cM P w K mg C Ck:=ke X G z c T cf;have b1:lZ P w K mg:=wo X G z c T;have bm:nT P w K mg:=CN X G z c T;have cs:Ef P w K mg C Ck Cd:=Jl X G z c T q Q;have i:cL P w K mg C Ck Cd:=oZ X G z c T j
 have B:gh P w K mg C Ck Cd:=rC X G z c T i
 have D:gj P w K mg C Ck Cd:=rE X G z c T bm i B;have a9:iV P w K mg C Ck Cd:=rD X G z c T bm i D;have cp:AE P w K mg C:=Hg X G z c T r A;have b2:lY P w K mg C:=wn X G z c T p q;have E:eL P w K mg C:=ln X G z c T o p cp;have b3:lW P w K mg C:=wl X G z c T b2 E;have cm:sn P w K mg C Ck Cd Cb:=CU X G z c T Q cs;have a6:iq P w K mg C Ck Cd Cb:=pP X G z c T j i
 have N:gw P w K mg C Ck Cd Cb:=nW X G z c T B D a9 a6;have bi:nz P w K mg C:=tE X G z c T bS b1 b3 cm N;have bn:km P w K mg:=uR X G z c T g U m;have b4:l6 P w K mg:=wq X G z c T g U m;have bu:kn P w K mg:=uS X G z c T g ap;have ch:v3 P w K mg:=A8 X G z c T bc g bn b4 bu;have y:hJ P w K mg:=ww X G z c T m;have u:sY P w K mg:=zH X G z c T m;have e:cD P w K mg:=pR X G z c T;have n:fq P w K mg:=zJ X G z c T y;have H:iO P w K mg:=zI X G z c T n;have a7:j4 P w K mg:=zB X G z c T;have a8:j6 P w K mg:=zG X G z c T e n H a7;have b8:ny P w K mg:=zC X G z c T e n a8;have co:xX P w K mg:=CP X G z c T e n H a7 b8;have b5:l_ P w K mg:=wu X G z c T;have b6:qM P w K mg:=wv X G z c T y e b5;have cc:sX P w K mg:=zF X G z c T y e n H a8;obtain⟨f,a,t⟩:=T.f_law47;obtain⟨oc,od,an,sl,kV,dc,pm,cd,ct,l,c1,k1⟩:=t;have F:=Iv (st:=(eR 76)) l c1 k1;have sc:lV Fm HI (cr (eR 76)):=by walk_at "s"
 have S:=sc.nd;exact⟨f,_,eI X G a,fun s v=>.of_eq rfl,fun base=>F.ok (k:=31) sc (by walk_at "l") (fun _ _ _ _ _ _ _ _ hr h=>by have hu:=EW hr;exact bK (Ht (C:=C) h) (ac (qs 1 S (qf hr (ce base) (a1 (pv 0)))) (ac (bE bp rfl (jd rfl z.range (a1 ag)) (gn 2 S) (ac (qs 3 S (qf hr (b7 base) (a3 (pv 1) ag (qf hr (g base) (a2 (pv 1) ag))))) (ac (qs 4 S (qf hr (ch base) (a3 (pv 1) (pv 3) ag))) (ac (qs 5 S (qf hr (I base) (a1 (pv 3)))) (ac (qs 6 S (qf hr (I base) (a1 (pv 4)))) (af (bE bp rfl (aO (br (aG ag (aG ag (a3 ag ag ag))))) (gn 7 S) (ac (qs 8 S iJ) (ac (qs 9 S (qf hr (cc base) (aG (pv 3) (aG (pv 4) (aG (pv 8) (a3 (qf hr (u base) (a1 (pv 4))) (qf hr (u base) (a1 (pv 3))) (pv 7))))))) (ac (qs 10 S (qf hr (bi base) (a3 (pv 5) (pv 7) (pv 6)))) (ac (bq (PW.pt (jS (iZ EL (pv 10) (pv 9)) (jz (o9 (qB IK z.isinstance IL (a2 (pv 10) (Dm rfl z.bool))))))) (af (au kM)) aK) (af (bq (cN (qh (pv 9))) (ac (qs 11 S (qf hr (co base) (aG (pv 3) (aG (pv 8) (a3 (qf hr (u base) (a1 (pv 3))) (pv 7) (pv 9)))))) (af (bq (Di (o9 (qf hr (b6 base) (a3 (pv 4) (qf hr (u base) (a1 (pv 4))) (pv 11))))) (af (au kM)) aK))) aK))))))))))))) (af (au kM)))))⟩
theorem all_mk{l:PySem.W.OpenLaw}{fa:Addr}{o:Value}{a:Value}{g:Value}{i:Value}{j:Value}{p:Value}{q:Obj}{r:Array Value}{Q:Nat}{E:Obj}{H:Array Value}{a5:Nat}(X:K.In h)(G:h.Ns bW mg)(dd:mg "law"=some (.ref fa))
  (aC:ck K bW "Machine"=some (some (.ref C)))
  (pg:sr K C AH=true)
  (hd:uf K C=true)
  (po:wX K C=true)
  (sa:cO K (.ref C) "__setattr__"=some (some (.builtin "object.__setattr__")))
  (mk:mz K C=true)
  (kc:gG K (.ref C)=true)
  (dg:cO K (.ref C) "own_asks"=some none)
  (di:cO K (.ref C) "own_says"=some none)
  (dm:cO K (.ref C) "own_rooms"=some none)
  (dn:cO K (.ref C) "own_doors"=some none)
  (dp:cO K (.ref C) "leaving"=some none)
  (dr:cO K (.ref C) "quiet"=some none)
  (ds:cO K (.ref C) "sign_goals"=some none)
  (dv:cO K (.ref C) "still_led"=some none)
  (cd:ck K bW "KnownSteps"=some (some (.ref Ck)))
  (bn:sr K Ck AH=true)
  (bu:uf K Ck=true)
  (bw:wX K Ck=true)
  (bz:cO K (.ref Ck) "__setattr__"=some (some (.builtin "object.__setattr__")))
  (bI:mz K Ck=true)
  (kcksc:gG K (.ref Ck)=true)
  (bS:cO K (.ref Ck) "machine"=some none)
  (b1:cO K (.ref Ck) "known"=some none)
  (dx:ck K bW "Made"=some (some (.ref Cd)))
  (ce:sr K Cd AH=true)
  (cf:uf K Cd=true)
  (ch:wX K Cd=true)
  (ci:cO K (.ref Cd) "__setattr__"=some (some (.builtin "object.__setattr__")))
  (cl:mz K Cd=true)
  (cm:gG K (.ref Cd)=true)
  (co:cO K (.ref Cd) "says_signs"=some none)
  (cp:cO K (.ref Cd) "known_steps"=some none)
  (cs:cO K (.ref Cd) "known_counts"=some none)
  (Mu:ck K bW "Blamers"=some (some (.ref Cb)))
  (ct:sr K Cb AH=true)
  (cv:uf K Cb=true)
  (c0:wX K Cb=true)
  (c1:cO K (.ref Cb) "__setattr__"=some (some (.builtin "object.__setattr__")))
  (c2:mz K Cb=true)
  (c3:gG K (.ref Cb)=true)
  (c4:cO K (.ref Cb) "made"=some none)
  (c5:cO K (.ref Cb) "own_steps"=some none)
  (c8:cO K (.ref Cb) "known_harmless"=some none)
  (dc:cO K (.ref Cb) "known_firsts"=some none)
  (b2:ck K bW "all"=some none)
  (b3:ck K bW "any"=some none)
  (a6:ck K bW "bool"=some none)
  (a7:ck K bW "dict"=some none)
  (I:ck K bW "enumerate"=some none)
  (b4:ck K bW "int"=some none)
  (t:ck K bW "isinstance"=some none)
  (b5:ck K bW "len"=some none)
  (a8:ck K bW "list"=some none)
  (b6:ck K bW "max"=some none)
  (b7:ck K bW "min"=some none)
  (U:ck K bW "range"=some none)
  (J:ck K bW "reversed"=some none)
  (b8:ck K bW "sum"=some none)
  (Y:ck K bW "tuple"=some none)
  (cc:ck K bW "zip"=some none)
  (L:ck K bW "LETTERS"=some (some o))
  (M:RelV (.str "abcdefghijklmnopqrstuvwxyz") o)
  (m:ck K bW "LONGEST_NAME"=some (some a))
  (n:RelV (.int 8) a)
  (u:ck K bW "MOST_WORDS"=some (some g))
  (x:RelV (.int 4) g)
  (y:ck K bW "MOST_ROOMS"=some (some i))
  (A:RelV (.int 150) i)
  (B:ck K bW "MOST_DOORS"=some (some j))
  (D:RelV (.int 2000) j)
  (N:ck K bW "DEEPEST"=some (some p))
  (O:RelV (.int 4) p)
  (al:ck K bW "STILL"=some (some (.ref a_STILL)))
  (an:K.lookup a_STILL=some q)
  (ap:q.cls=.type "tuple")
  (as:q.data=.seq r Q)
  (a0:r.size<=aj)
  (a4:bb (aF.map V.str) r.toList)
  (a9:ck K bW "HUSH"=some (some (.ref a_HUSH)))
  (bc:K.lookup a_HUSH=some E)
  (bd:E.cls=.type "tuple")
  (bi:E.data=.seq H a5)
  (bl:H.size<=aj)
  (bm:bb (cC.map V.str) H.toList)
  (T:Ts K C Ck Cd Cb)
 :∃fd:mh,(∀(s:Shared) (v:Value),ue s fd ⟨[v],[]⟩ [("script",v)])/\∀base:Heap,K.In base->base.Ns bW mg->nu l.prog w K mg base CX0 32 fa fd ["script"] (sp_law47 K):=by
 have z:Zs mg:=⟨fN X G b2,fN X G b3,fN X G a6,fN X G a7,fN X G I,fN X G b4,fN X G t,fN X G b5,fN X G a8,fN X G b6,fN X G b7,fN X G U,fN X G J,fN X G b8,fN X G Y,fN X G cc⟩;have c:Cs K mg C Ck Cd Cb a_STILL a_HUSH:=⟨⟨_,eI X G L,M⟩,⟨_,eI X G m,n⟩,⟨_,eI X G u,x⟩,⟨_,eI X G y,A⟩,⟨_,eI X G B,D⟩,⟨_,eI X G N,O⟩,⟨_,eI X G al,rfl⟩,⟨_,eI X G a9,rfl⟩,Et an ap as a0 a4,Et bc bd bi bl bm,⟨⟨pg,hd,po,sa⟩,dg,di,dm,dn,dp,dr,ds,dv⟩,eI X G aC,mk,kc,⟨⟨bn,bu,bw,bz⟩,bS,b1⟩,eI X G cd,bI,kcksc,⟨⟨ce,cf,ch,ci⟩,co,cp,cs⟩,eI X G dx,cl,cm,⟨⟨ct,cv,c0,c1⟩,c4,c5,c8,dc⟩,eI X G Mu,c2,c3⟩;obtain⟨f,fd,e,b,k⟩:=Lb (P:=l.prog) (w:=w) X G z c T;have e0:=dd.symm.trans e;cases e0;exact⟨fd,b,fun base _ _=>k base⟩
end
end Mum
namespace PySem.W.Fast
def tw491435058787813520:=0
def tw7656879066372549873:=0
def tw18418258166193723844:=0
def tw171637262107330047:=0
def tw14790083723171722941:=0
def tw18273370405477404988:=0
def tw16747071612343296268:=0
def tw12472255942035857623:=0
def tw1190002713449857936:=0
def tw4838215188082655968:=0
def tw4768893831485137704:=0
def tw2239158434538585412:=0
def tw10297736969756350610:=0
def tw12795573244989168298:=0
def tw16811262967078831540:=0
def tw12940432408645037494:=0
def tw18172784826139713164:=0
def tw17633618430804562260:=0
def tw8244474179927023622:=0
def tw15810075858698805399:=0
def tw2829703327080396801:=0
def tw5107561794417867186:=0
def tw11206263783524655172:=0
def tw15551217989662249388:=0
def tw6144055278696057543:=0
def tw1303596163997511828:=0
def tw16975304126151262086:=0
def tw12740147428108190706:=0
def tw13958680791287740733:=0
def tw17397133110965332657:=0
def tw4615237700417569502:=0
def tw14393068094317159762:=0
def tw16202998285317370700:=0
def tw3547046846040935265:=0
def tw9115645157218086160:=0
def tw15821994590913362515:=0
def tw7173106884411212843:=0
def tw17113942029781293681:=0
def tw17000792660558720032:=0
def tw615799707455625421:=0
def tw11581177802531114366:=0
def tw9005949456769251980:=0
def tw4845136693591930970:=0
def tw960067358635559011:=0
def tw9318478148840565104:=0
def tw1831784485281255011:=0
def tw16466202657126699070:=0
def tw12658696040295154018:=0
def tw11512739595707998024:=0
def tw8989303299529926628:=0
def tw6063689789943064178:=0
def tw9261060634939540966:=0
def tw2020476466244409297:=0
def tw15652354379577371842:=0
def tw17845509830228761122:=0
def tw17473691849787744297:=0
def tw17122666021604680727:=0
def tw6414309730200388564:=0
def tw3128299695326502496:=0
def tw15108497055595823184:=0
def tw16944128829453166902:=0
def tw8229585333458170840:=0
def tw15794479073684930220:=0
def tw9218045545817067155:=0
def tw7497387608678733186:=0
def tw2196552186372726496:=0
def tw12742223180413796823:=0
def tw556897116325729532:=0
def tw12866800746819935024:=0
def tw10014958598302230858:=0
def tw606151259674555427:=0
def tw17798285776132112179:=0
def tw10050485138939714487:=0
def tw12655080637371840405:=0
def tw7717151899379901510:=0
def tw17960047139203734748:=0
def tw5594298740832427904:=0
def tw1951803134594421291:=0
def tw14313831640201180491:=0
def tw843810240855933131:=0
def tw9212517494527967478:=0
def tw16891582239153392079:=0
def tw2656067166292958831:=0
def tw11814108428411573137:=0
def tw16518009882243699884:=0
def tw1944385746773989064:=0
def tw3479664375961310752:=0
def tw12176729480360933329:=0
def tw15091077670047351930:=0
def tw17244812864709097415:=0
def tw4234271826995460394:=0
def tw3376164085004164465:=0
def tw11787736095558425671:=0
def tw8197962251769874721:=0
def tw12800841689395597519:=0
def tw5813511497978829160:=0
def tw1178342945634225171:=0
def tw2762480140022958505:=0
def tw10327184163997159997:=0
def tw14435691030254273065:=0
def tw17146700935878145524:=0
def tw14363152115259095069:=0
def tw4646999439327651624:=0
def tw17926322325242003517:=0
def tw10151173129580526865:=0
def tw6281726716835209979:=0
def tw5973696564283271446:=0
def tw6194234588479083220:=0
def tw16386913936847898756:=0
def tw14633452327162287393:=0
def tw18314747288369066644:=0
def tw147211827358449020:=0
def tw538032794435833921:=0
def tw15089974778367285009:=0
def tw16329371647582427292:=0
def tw707151137043041717:=0
def tw3977259574315339213:=0
def tw13142887116212456534:=0
def tw10292778417051898962:=0
def tw14401576491193896177:=0
def tw1387271170456267965:=0
def tw15328627115920911402:=0
def tw18002309383768127207:=0
def tw14934790765214602783:=0
def tw10170485305601377162:=0
def tw17170109988140740869:=0
def tw1697279641779310985:=0
def tw11305571581900367004:=0
def tw8336001123905521989:=0
def tw909392865265571063:=0
def tw8308433332080268797:=0
def tw9888612879893900177:=0
def tw110227912772665135:=0
def tw17921219546503055960:=0
def tw7406372078848260744:=0
def tw13827281578548282460:=0
def tw9876046273313590767:=0
def tw3964942963793156867:=0
def tw544763493091398629:=0
def tw16839011772390213237:=0
def tw9686680177885457153:=0
def tw13648476805544571998:=0
def tw873899651611002477:=0
def tw10040689105811592217:=0
def tw2505027839417327467:=0
def tw5675007571726586859:=0
def tw17146632794864207174:=0
def tw2110326446529354734:=0
def tw5840889654513418113:=0
def tw12067877529347878141:=0
def tw3630051665393153954:=0
def tw2012570255382027428:=0
def tw7789757087855288851:=0
def tw15565860142999270310:=0
def tw3226529668767798064:=0
def tw17083315875746498020:=0
def tw11521981325112370023:=0
def tw566594317654574:=0
def tw10138613515512194998:=0
def tw2808643711302053549:=0
def tw3537479505827287988:=0
def tw5569945004415417076:=0
def tw823834053448418434:=0
def tw2945222467293848844:=0
def tw12685662561520760006:=0
def tw7306135365124964709:=0
def tw12789623327969323440:=0
def tw16549834253038277250:=0
def tw6492877721327181293:=0
def tw8342894104871391258:=0
def tw9408422872524351738:=0
def tw3019500361212355944:=0
def tw11960133403898142808:=0
def tw13745576952485213475:=0
def tw11392149757825863607:=0
def tw13124675122593884719:=0
def tw16874855119062211621:=0
def tw15919466873299179511:=0
def tw16960950599916529090:=0
def tw3807596615934737078:=0
def tw11423194137131536006:=0
def tw17151003663482070889:=0
def tw18002483819339685078:=0
def tw7355128153513190623:=0
def tw18136773149862168959:=0
def tw7518931514910898339:=0
def tw13108724970329128906:=0
def tw12324092549586196552:=0
def tw2068814208784944806:=0
def tw13598798794853096579:=0
def tw12302045994283853397:=0
def tw5857245696054285700:=0
def tw6085773805537324563:=0
def tw3795734701910767068:=0
def tw8801875446641034:=0
def tw10339942817747158471:=0
def tw1563001314412002450:=0
def tw26180868172292968:=0
def tw16147402420380596133:=0
def tw12170054551065042211:=0
def tw4592620849277505626:=0
def tw16008300383108005657:=0
def tw17518455216094904445:=0
def tw4510898673251371891:=0
def tw14914929000535257891:=0
def tw16593942953791377749:=0
def tw3192646397121551666:=0
def tw10137161273914378260:=0
def tw16586742929896987992:=0
def tw14424630285212382653:=0
def tw361092071243453995:=0
def tw9237371376755215507:=0
def tw12099088074053830739:=0
def tw11676345293894255372:=0
def tw17221073562176210654:=0
def tw12115424240262513523:=0
def tw17548919201859126792:=0
def tw7543703212863870249:=0
def tw14301614536743638339:=0
def tw10480905999175224492:=0
def tw1141275741448648806:=0
def tw2127821933097624103:=0
def tw11948813666150168737:=0
def tw11930191790370273686:=0
def tw17595137763953902591:=0
def tw15352814142028390898:=0
def tw425855734419756597:=0
def tw8342355873173753457:=0
def tw17849917671353260802:=0
def tw4043322199572376231:=0
def tw347296401298328183:=0
def tw2352735172370623283:=0
def tw1030120701539021136:=0
def tw9066120842522225727:=0
def tw11872823595322626172:=0
def tw8434447740784654038:=0
def tw10763546949810384832:=0
def tw4515176873449579568:=0
def tw9869452427062798402:=0
def tw5671884551871928571:=0
def tw7836729979786168641:=0
def tw17195355819295418303:=0
def tw2349261087026827637:=0
def tw16968159522151823746:=0
def tw1957599214135716659:=0
def tw4138636873414855497:=0
def tw12710494226018962036:=0
def tw827837357473031882:=0
def tw18016611290738297149:=0
def tw3271044964501815124:=0
def tw1281005596987407452:=0
def tw4661465041519115291:=0
def tw16163394369514213421:=0
def tw12105057280817887300:=0
def tw12886740850846022946:=0
def tw8318047119779248018:=0
def tw9528086281533211754:=0
def tw9115381599902163884:=0
def tw10603473696520083218:=0
def tw1869644247381002967:=0
end PySem.W.Fast
open PySem PySem.W PyProof.Rows
set_option maxRecDepth 100000 in
set_option maxHeartbeats 0 in
theorem PySem.Challenge.cw_mumtrial_k47_the_first_blamer_holds : PySem.Challenge.rw_mumtrial_k47_the_first_blamer.Holds := by
 w_on;o_law;k_head;(case hw=>w_witness2)
 k_fill
 refine L2.walk_ofK (l:=PySem.Challenge.rw_mumtrial_k47_the_first_blamer) (n:=63) (k:=32) (x:="script") (CX:=L2.CX0) (sp:=Mum.sp_law47) rfl (by decide) rfl ⟨rfl,by decide,by decide⟩ (fun w h Y=>PySem.W.kIn_of Y) ?F (fun _ _ a ns hl _ hS=>⟨a,ns,rfl,hS,hl,fun _=>rfl⟩) (fun _ _ _ _ z=>z)
 case F =>
  intro w mg fa h KX G hmg;refine' Mum.all_mk KX G hmg ?aC ?pg ?hd ?po ?sa ?mk ?kc ?na1 ?na2 ?na3 ?na4 ?na5 ?na6 ?na7 ?na8 ?aksc ?pgksc ?hdksc ?poksc ?saksc ?mkksc ?kcksc ?nksc1 ?nksc2 ?adc ?pgdc ?hddc ?podc ?sadc ?mkdc ?kcdc ?ndc1 ?ndc2 ?ndc3 ?Mu ?pgbc ?hdbc ?pobc ?sabc ?mkbc ?kcbc ?nbc1 ?nbc2 ?nbc3 ?nbc4 ?z_all ?z_any ?z_bool ?z_dict ?z_enumerate ?z_int ?z_isinstance ?z_len ?z_list ?z_max ?z_min ?z_range ?z_reversed ?z_sum ?z_tuple ?z_zip ?g_LETTERS ?r_LETTERS ?g_LONGEST_NAME ?r_LONGEST_NAME ?g_MOST_WORDS ?r_MOST_WORDS ?g_MOST_ROOMS ?r_MOST_ROOMS ?g_MOST_DOORS ?r_MOST_DOORS ?g_DEEPEST ?r_DEEPEST ?g_STILL ?l_STILL ?c_STILL ?d_STILL ?s_STILL ?v_STILL ?g_HUSH ?l_HUSH ?c_HUSH ?d_HUSH ?s_HUSH ?v_HUSH ?T
  (case aC|pg|hd|po|sa|mk|kc|na1|na2|na3|na4|na5|na6|na7|na8|aksc|pgksc|hdksc|poksc|saksc|mkksc|kcksc|nksc1|nksc2|adc|pgdc|hddc|podc|sadc|mkdc|kcdc|ndc1|ndc2|ndc3|Mu|pgbc|hdbc|pobc|sabc|mkbc|kcbc|nbc1|nbc2|nbc3|nbc4|z_all|z_any|z_bool|z_dict|z_enumerate|z_int|z_isinstance|z_len|z_list|z_max|z_min|z_range|z_reversed|z_sum|z_tuple|z_zip|g_LETTERS=>k_is)
  (case r_LETTERS=>exact⟨_,rfl⟩)
  (case g_LONGEST_NAME=>k_is)
  (case r_LONGEST_NAME=>exact⟨_,rfl⟩)
  (case g_MOST_WORDS=>k_is)
  (case r_MOST_WORDS=>exact⟨_,rfl⟩)
  (case g_MOST_ROOMS=>k_is)
  (case r_MOST_ROOMS=>exact⟨_,rfl⟩)
  (case g_MOST_DOORS=>k_is)
  (case r_MOST_DOORS=>exact⟨_,rfl⟩)
  (case g_DEEPEST=>k_is)
  (case r_DEEPEST=>exact⟨_,rfl⟩)
  (case g_STILL|l_STILL=>k_is)
  (case c_STILL|d_STILL=>rfl)
  (case s_STILL=>decide)
  (case v_STILL=>exact .cons ⟨_,rfl⟩ .nil)
  (case g_HUSH|l_HUSH=>k_is)
  (case c_HUSH|d_HUSH=>rfl)
  (case s_HUSH=>decide)
  (case v_HUSH=>exact .cons ⟨_,rfl⟩ .nil)
  (case T=>constructor<;>first|(refine' Mum.fnG_mk ?a ?l ?c ?k;(case a=>k_is);(case l=>k_is);(case c=>k_is);(case k=>k_is))|(refine' Mum.fnM_mk ?a ?i ?l ?c ?k;(case a=>k_is);(case i=>k_is);(case l=>k_is);(case c=>k_is);(case k=>k_is)))
