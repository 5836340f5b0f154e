
import PyProof.Rows.All
import Wide.All
import OpenK.AllK
import Wide.FinOn
import Lean
import PyProof.EqAt
import PyProof.EqKinds
import PyProof.TupleCall
import PyProof.NeKinds
import PyProof.RaisesMany
import PyProof.RulesAs
import PyProof.NsDelKeeps
import PyProof.InstStoreFacts
import PyProof.ExcClass3
import PyProof.ExcInit
import KE.KTryMore
import PyProof.AutoSeq1
import PyProof.WalkInts
import PyProof.DictIter
import PyProof.DictWalks
import PyProof.DictItems
import PyProof.DictItemsLoops
import KE.KPairComp
import PyProof.DictValues
import PyProof.SumAny
import PyProof.Rows.SumAny
import PyProof.Rows.RuleDivmod
import KE.KRevIter
import PyProof.TupleOfGen
import KE.KDictSum
import KE.KMinKey
import PyProof.Rows.CallKwBuiltin
import KE.IntBitsLaws
import PySem.Challenge.RW_mumtrial_k71_whole_joined_counted
def WA:Nat->Lean.TSyntax `term->Lean.MacroM (Lean.TSyntax `rcasesPat)
 |0,_=>Lean.Macro.throwUnsupported
 |n+1,p=>do match p with
  |`(⟨$x,*⟩)=>do let y<-x.getElems.mapM (WA n);`(rcasesPat|⟨$[$(y):rcasesPat],*⟩)
  |`($i:ident)=>`(rcasesPat|$i:ident)
  |`(_)=>`(rcasesPat|_)
  |_=>Lean.Macro.throwUnsupported
noncomputable section
local macro_rules|`(tactic|nofun)=>`(tactic|first|(with_reducible first|assumption|exact Nat.le_of_lt (by assumption)|exact Nat.le_succ_of_le (by assumption)|exact Nat.succ_le_succ (by assumption)|exact Nat.le_trans (by assumption) (by decide)|exact Nat.lt_of_le_of_lt (by assumption) (by decide)|exact Nat.le_trans (by assumption) (by assumption))|omega)
local macro_rules|`(⋯)=>`(by nofun)
local macro_rules|`(∅)=>`(by simp)
local macro_rules|`(‹$t›)=>`(by simpa using $t)
local macro_rules|`(↑$s)=>`(($s).heap.objs.size)
local macro_rules|`(tactic|apply ⟨$x,*⟩)=>`(tactic|refine ⟨$x,*⟩)
local macro_rules|`(tactic|let $p:term:=$e)=>do let q<-WA 9 p;`(tactic|obtain $q:rcasesPat:=$e)
open PySem renaming Program->bR,reduceHash->JL,wpAny_mono->sr,wpAny_bind->ai,wpAny_specialOf->HY,wpAny_call_entry->mo,wpAny_pure->ax,wpAny_rule->qk,Builtin->bx,wpAny_isInstance->wX,wpAny_holding->g7,wpAny_truthy_bool->vj,wpAny_seqItems->kS,sizeLine->ak,sysModules->fS,entryOfKey->GV,mainGlobals->cw,bootBuiltins->kR,spliced->wF,starEach->aR,compareOp->gm,behindInMarks->nS,standAt->vh,holding->nR,wpAny_execs_nil->GU,swapsWith->vg,assignEach->vf,wpAny_standAt->C8,wpAny_passesOwn->wE,letOwnedTupleGo->GS,wpAny_pyIter_list->zQ,wpAny_pyIter_tuple->GQ,foldedSetIterable->C7,binaryOp->ve,sizeLine_eq->GP,getMethod->vd,codeAny->D8,attributeBase->oo,FuncData->nO,BindsTo->wA,codeAny_mono->GK,wpAny_Call_Name_kw->zO,callWith->zN,backToKw->vc,keywordEach->oG,NameKind->iL,mem_of_lookup->xa,typeLookup->w_,getItem->qV,subscripted->Bv,sliceBounds->qS,wpAny_Call_method0_late->qR,evalArgs_none->w8,call_meets->Bu,valueAt->qP,storedH->qO,pairTrees->Br,callerA->oE,DictEntry->fH,wpAny_newObj_type->gL,ZipApart->iJ,wpAny_pyIter_zip->wV,wpAny_callSpecial?_slot->jG,wpAny_field->dC,wpAny_setField->qK,newTuple->Bl,firstArgMember->oA,wpAny_of_eq->Bk,raiseNew->Bj,wpAny_handled->Bi,wpAny_throw->Bh,wpAny_setField_rec->jF,wpAny_onRaise->Bg,wpAny_letGo->wT,wpAny_attempt->lL,isSubtype_stop->wS,wpAny_dictEntries->kf,wpAny_notOrdered_dict->uk,codeAny_builtin->qJ,wpAny_typeOf->wO,plainId_quiet->qH,IsItemIter->ke,wpAny_pyIter_slot->A7,wpAny_dictEpoch->lK,wpAny_typeNameOfWhole_itemiter->A6,wpAny_typeNameOf_itemiter->AZ,wpAny_fieldsOf->uh,setField->ug,wpAny_typeNameOfWhole_valiter->AV,wpAny_typeNameOf_valiter->AU,wpAny_typeNameOfWhole_keyiter->AS,wpAny_typeNameOf_keyiter->AR,updateSeq->wL,wpAny_updateSeq->wK
open PySem.Builtin.Tuple renaming tupleHashOf->ER
open Bool renaming false_ne_true->h9,not_true->GW,false_eq_true->kg,false_and->GR,eq_iff_iff->sn,and_false->Bs,and_eq_true->lQ,or_eq_true->Bo,true_and->t7
open Array renaming forIn_toList->Md,length_toList->nQ,getElem?_toList->wZ,getElem?_eq_getElem->kb,getElem?_eq_none->qG
open Nat renaming add_assoc->GX,le_refl->aF,lt_of_lt_of_le->eK,lt_irrefl->nU,ne_of_lt->cr,le_trans->bH,le_of_lt->cA,ne_of_gt->eU,zero_le->cH,le_succ->qZ,lt_trans->uu,lt_of_le_of_lt->qM,le_add_right->uq,min_self->um,sub_zero->A8,eq_zero_or_pos->ud,mod_lt->wJ,lt_trichotomy->wI,succ_mul->AO,mul_le_mul->t6,lt_or_ge->qD,zero_add->wG,pow_le_pow_right->AI
open List renaming append_nil->dj,range->oq,mem_filter->bW,mem_cons_self->cT,mem_cons_of_mem->eN,mem_cons->cq,mem_append->bt,mem_append_left->cE,getElem?_eq_some_iff->bY,mem_append_right->dh,length_cons->eT,lookup->nP,map_cons->bL,length_map->ag,nodup_cons->gj,replicate->qY,length_take->aS,getElem?_append_right->oF,getElem?_append_left->iK,getElem?_map->bV,getElem?_take_of_lt->qX,mem_of_getElem?->cj,length_append->aA,length_drop->lX,size_toArray->cx,length_singleton->Bt,find?_cons->uw,any_cons->uv,length_nil->lU,nodup_nil->qN,map_nil->ur,lookup_cons->kh,forIn_cons->oB,all_eq_true->Bp,mem_map->ar,not_mem_nil->mY,forIn_nil->wU,getElem?_eq_none->ig,any_toArray->Bc,map_congr_left->wR,length_range->Bb,drop_zero->ul,take_length->aX,getElem?_eq_getElem->bj,mem_singleton->bq,map_append->au,nodup_append->cQ,drop_of_length_le->wP,drop_eq_getElem_cons->A_,getElem?_of_mem->jE,mem_of_mem_take->gK,append_assoc->dQ,nodup_iff_pairwise_ne->qF,pairwise_map->jD,map_map->eZ,mem_map_of_mem->eC,getElem_mem->fR,foldl_append->mV,length_filter_le->b_,filter_append->gJ,filter_cons->lE,filter_eq_nil_iff->wH,flatMap_append->qE,mem_flatMap->fQ,filter_congr->ox,getD_eq_getElem?_getD->dP,getElem_of_mem->AN,pairwise_iff_getElem->qC,flatMap_singleton->AM,Nodup->qA,pairwise_flatMap->AL,exists_mem_of_ne_nil->ow,ne_nil_of_mem->AK,length_zip->AH
open Option.some renaming inj->gp
open PySem.W renaming instObj->vi,lookIn->GO,plainGet->zP,hasDictIn->C6,findIn->eM,isFn->C5,plainOver->GN,makesIn->wC,emptyDict->sk,keepIn->ka,kitOne->GL,kia_one->mn,fnOf->ki,codeIn->qW,nsIn->cI,mg_of->gH,mg_none_of->gE
open PySem.Heap renaming lt_size->aJ,SameBut->fB,get?_push_of_some->aT,get?_push_size->cv,size_push->kQ,get?_update_self->lV,get?_update_other->qU,ExtBut->Bm
open PyProof.Rows renaming AllBare->so,callWith_type1->wD,IntsAre->wW,boot_all->AG
open Ne renaming symm->dA
open False renaming elim->mq
open True renaming intro->jO
open PySem.Calls renaming spliced_nil->C4,spliced_cons->wB,callWith_builtin->qQ
open Option renaming isSome_iff_exists->Bw,map_some->wY,map_eq_some_iff->mU
open Int renaming toNat_natCast->gM,emod_nonneg->t_,emod_lt_of_pos->t8,eq_ofNat_of_zero_le->lH,ofNat->AJ
open PySem.Obj renaming mapSeq->ii,data_mapFields->uo,mapFields->AT
open PySem.Paired renaming snoc->eD
open ForInStep renaming yield->Bq
open PySem.NameKind renaming free->oC
open PySem.Builtin.SmallTypes renaming nextOf->jH,ownedTupleIsFree->oz
open PySem.Str renaming ofString->iI
open PySem.F renaming slot_tuple_iterator_next->Bn,slot_zip_next->oy,entry_zip_next->Bf,args_zip_next_1->Be,slot_dict_itemiterator_next->wN,plainAttrs_dict->AY,slot_dict_values->AX,slot_dict_values_iter->AW,slot_dict_valueiterator_next->ue,slot_dict_keyiterator_next->wM,plain_extend_loop->uc,plainAttrs_list->eO,slot_list_append->gG,type_list_append->gF,slot_list_extend->AF,type_list_extend->AE
open PySem.Heap.SameBut renaming update->lM
open PySem.Shared renaming heap->Bd,TypeIs->uj
open PySem.SeqAt renaming EqAt->bJ
open PySem.Builtin.Str renaming strSliceIndices->wQ
open PySem.Txt renaming join->Ba
open PySem.Around renaming under_plainId->qI
open PySem.Builtin.Dict renaming updateFrom->A9,showsAll->ui
open PySem.Builtin.Dict_items renaming ownsTuple->mW
open Prod renaming snd->AQ
open List.Pairwise renaming imp->qz,imp_of_mem->t5
open PySem.PassesOwn renaming never->bp
open Option renaming some->eH
open PySem renaming Addr->Wk,Shared->Wl,Value->Wm,World->Wn,Around->Wo,Heap->Wq,Expr->Wr,Str->Ws
theorem Wt{p:Prop}[Decidable p](h:decide p=true:=by rfl):p:=of_decide_eq_true h
theorem fj{α:Sort u}{a:α}:a=a:=.refl a
theorem Q0:0<=PySem.sizeLine:=by decide
theorem Q1:1<=PySem.sizeLine:=by decide
theorem Q2:2<=PySem.sizeLine:=by decide
theorem Q3:3<=PySem.sizeLine:=by decide
theorem Q4:4<=PySem.sizeLine:=by decide
theorem Q6:6<=PySem.sizeLine:=by decide
theorem hB[Decidable p](h:¬p):decide p=false:=decide_eq_false h
theorem hH[Decidable p](h:p):decide p=true:=decide_eq_true h
abbrev Za:=PySem.W.Frag
abbrev Zb:=List PySem.Str
abbrev Zc:=PySem.Value->PySem.Shared->Prop
abbrev Zd:=List<|PySem.Addr×PySem.Obj
abbrev Ze:=List PySem.Addr
abbrev Zf:=List PySem.Value
section
set_option Elab.async false
set_option linter.all false
set_option maxRecDepth 100000
set_option maxHeartbeats 4000000
namespace L2
open PySem Spec PyProof.Rows
open Sem (wp)
abbrev fK:=Sum Int Ws
def eo:fK->Wm->Bool
 |.inl k,v=>Value.isInt k v
 |.inr x,v=>Value.isStrOf x v
def O6(w:Wn):fK->Int
 |.inl k=>hashInt k
 |.inr x=>hashStr w x
theorem aH:∀{k:fK}{v:Wm},eo k v=true->(∃i t,k=Sum.inl i/\v=Value.int i t)∨(∃x t,k=Sum.inr x/\v=Value.str x t)
 |.inl i,v,h=>by
  let⟨t,e⟩:=Value.isInt_shape (k:=i) (v:=v) h;exact .inl ⟨i,t,fj,e⟩
 |.inr x,v,h=>by
  let⟨t,e⟩:=Value.isStrOf_shape (x:=x) (v:=v) h;exact .inr ⟨x,t,fj,e⟩
theorem pP(i:Int)(t:Tok):eo (.inl i) (.int i t)=true:=by simp[eo,Value.isInt]
theorem pO(x:Ws)(t:Tok):eo (.inr x) (.str x t)=true:=by simp[eo,Value.isStrOf]
theorem Cj(a b:Int):decide ((Sum.inl a:fK)=Sum.inl b)=(a==b):=by
 by_cases e:a=b
 .subst e;simp
 .have h:¬(Sum.inl a:fK)=Sum.inl b:=λq=>e<|Sum.inl.inj q;rw[hB h];exact(beq_eq_false_iff_ne.mpr e).symm
theorem Cg(a b:Ws):decide ((Sum.inr a:fK)=Sum.inr b)=decide (a=b):=by
 by_cases e:a=b
 .subst e;simp
 .have h:¬(Sum.inr a:fK)=Sum.inr b:=λq=>e<|Sum.inr.inj q;rw[hB h,hB e]
theorem Ci(a:Int)(b:Ws):decide ((Sum.inl a:fK)=Sum.inr b)=false:=hB<|λq=>nomatch q
theorem Ch(a:Ws)(b:Int):decide ((Sum.inr a:fK)=Sum.inl b)=false:=hB<|λq=>nomatch q
def cM(prog:bR)(w:Wn):PySem.KeyKind prog w fK where
 is:=eo
 hash:=O6 w
 inj:=λv a b ha hb=>by
  obtain⟨i,t,rfl,rfl⟩|⟨x,t,rfl,rfl⟩:=aH ha
  .obtain⟨j,u,rfl,e⟩|⟨y,u,rfl,e⟩:=aH hb
   .injection e with e1 _;rw[e1]
   .exact nomatch e
  .obtain⟨j,u,rfl,e⟩|⟨y,u,rfl,e⟩:=aH hb
   .exact nomatch e
   .injection e with e1 _;rw[e1]
 byValue:=λk v h=>by
  obtain⟨i,t,rfl,rfl⟩|⟨x,t,rfl,rfl⟩:=aH h<;>rfl
 pyHash:=λhv h=>by
  obtain⟨i,t,rfl,rfl⟩|⟨x,t,rfl,rfl⟩:=aH hv
  .exact wpAny_pyHash_int h
  .exact wpAny_pyHash_str h
 eqBool:=λhu hv h=>by
  obtain⟨i,t,rfl,rfl⟩|⟨x,t,rfl,rfl⟩:=aH hu
  .obtain⟨j,u,rfl,rfl⟩|⟨y,u,rfl,rfl⟩:=aH hv
   .rw[Cj]at h;exact wpAny_eqBool_int h
   .rw[Ci]at h;exact bJ.int_str i t y u _ _ _ _ h
  .obtain⟨j,u,rfl,rfl⟩|⟨y,u,rfl,rfl⟩:=aH hv
   .rw[Ch]at h;exact bJ.str_int x t j u _ _ _ _ h
   .rw[Cg]at h;exact wpAny_eqBool_str h
 «strs»:=λk x t v h=>by
  obtain⟨i,u,rfl,e⟩|⟨y,u,rfl,e⟩:=aH h
  .exact nomatch e
  .injection e with e1 _;subst e1;cases v<;>rfl
theorem DV(a:bR)(w:Wn)(i:Int)(t:Tok):(cM a w).is (.inl i) (.int i t)=true:=pP i t
theorem DU(a:bR)(w:Wn)(x:Ws)(t:Tok):(cM a w).is (.inr x) (.str x t)=true:=pO x t
end L2
namespace L2
open PySem Spec PyProof.Rows
open Sem (wp)
abbrev r6:=Option fK
def kH:r6->Wm->Bool
 |none,v=>match v with
  |.none=>true
  |_=>false
 |some k,v=>eo k v
def NS(w:Wn):r6->Int
 |none=>JL 4238894112
 |some k=>O6 w k
theorem cz:∀{k:r6}{v:Wm},kH k v=true->(∃i t,k=eH (Sum.inl i)/\v=Value.int i t)∨(∃x t,k=eH (Sum.inr x)/\v=Value.str x t)∨(k=none/\v=Value.none)
 |none,v,h=>by
  refine .inr<|.inr ⟨fj,?_⟩;cases v<;>first|rfl|cases h
 |some k,v,h=>by
  obtain⟨i,t,rfl,rfl⟩|⟨i,t,rfl,rfl⟩:=aH (show eo k v=true from h)
  .exact .inl ⟨i,t,fj,fj⟩
  .exact .inr<|.inl ⟨i,t,fj,fj⟩
theorem xV(f:kH a v=true)(g:kH b v=true):a=b:=by
 obtain⟨i,t,rfl,rfl⟩|⟨i,t,rfl,rfl⟩|⟨rfl,rfl⟩:=cz f<;>obtain⟨j,u,rfl,e⟩|⟨j,u,rfl,e⟩|⟨rfl,e⟩:=cz g<;>first|rfl|(cases e;rfl)|cases e
def DR(prog:bR)(w:Wn):PySem.KeyKind prog w r6 where
 is:=kH
 hash:=NS w
 inj:=λv a b ha hb=>xV ha hb
 byValue:=λk v h=>by
  obtain⟨i,t,rfl,rfl⟩|⟨x,t,rfl,rfl⟩|⟨rfl,rfl⟩:=cz h<;>rfl
 pyHash:=fun{A E s k v Q} hv h=>by
  obtain⟨i,t,rfl,rfl⟩|⟨x,t,rfl,rfl⟩|⟨rfl,rfl⟩:=cz hv
  .exact wpAny_pyHash_int h
  .exact wpAny_pyHash_str h
  .refine PySem.W.pyHash_slot (T:="NoneType") rfl F.slot_NoneType_hash F.entry_NoneType_hash (F.args_NoneType_hash_1 _) (by rw[beq_builtin_none]) (.inl rfl) ?_;show wpAny _ _ (retInt 4238894112) _ _ _;refine sr (wpAny_ret_mkInt (Q:=λv s'=>∃n t,v=Value.int n t/\Q (JL n) s') ⟨_,_,fj,h⟩) (λfin s' ⟨v,e,n,t,e2,q⟩=>⟨n,t,by rw[e,e2],q⟩)<|λ_ _ z=>z
 eqBool:=fun{A E s a b u v Q} hu hv h=>by
  obtain⟨i,t,rfl,rfl⟩|⟨x,t,rfl,rfl⟩|⟨rfl,rfl⟩:=cz hu
  .obtain⟨j,u,rfl,rfl⟩|⟨y,u,rfl,rfl⟩|⟨rfl,rfl⟩:=cz hv
   .exact(cM prog w).eqBool (a:=.inl i) (b:=.inl j) (pP i t) (pP j u) (by rw[show decide ((Sum.inl i:fK)=Sum.inl j)=decide ((eH (Sum.inl i):r6)=eH (Sum.inl j))from decide_eq_decide.mpr ⟨λz=>by rw[z],λz=>by injection z⟩];exact h)
   .rw[hB (by intro z;injection z with z;cases z)]at h;exact bJ.int_str i t y u _ _ _ _ h
   .rw[hB (by intro z;cases z)]at h;exact bJ.int_none i t _ _ _ _ h
  .obtain⟨j,u,rfl,rfl⟩|⟨y,u,rfl,rfl⟩|⟨rfl,rfl⟩:=cz hv
   .rw[hB (by intro z;injection z with z;cases z)]at h;exact bJ.str_int x t j u _ _ _ _ h
   .exact(cM prog w).eqBool (a:=.inr x) (b:=.inr y) (pO x t) (pO y u) (by rw[show decide ((Sum.inr x:fK)=Sum.inr y)=decide ((eH (Sum.inr x):r6)=eH (Sum.inr y))from decide_eq_decide.mpr ⟨λz=>by rw[z],λz=>by injection z⟩];exact h)
   .rw[hB (by intro z;cases z)]at h;exact bJ.str_none x t _ _ _ _ h
  .obtain⟨j,u,rfl,rfl⟩|⟨y,u,rfl,rfl⟩|⟨rfl,rfl⟩:=cz hv
   .rw[hB (by intro z;cases z)]at h;exact bJ.none_int j u _ _ _ _ h
   .rw[hB (by intro z;cases z)]at h;exact bJ.none_str y u _ _ _ _ h
   .rw[hH rfl]at h;exact bJ.same _ _ _ _ _ h
 «strs»:=λk x t v h=>by
  obtain⟨i,u,rfl,e⟩|⟨y,u,rfl,e⟩|⟨rfl,e⟩:=cz h
  .exact nomatch e
  .injection e with e1 _;subst e1;cases v<;>rfl
  .exact nomatch e
inductive TK where
 |k (a:r6)
 |t (l:List TK)
mutual
def N0:(x y:TK)->Decidable (x=y)
 |.k a,.k b=>if h:a=b then Decidable.isTrue (by rw[h])else Decidable.isFalse λe=>h (by injection e)
 |.t l,.t m=>match Tu l m with
  |Decidable.isTrue h=>Decidable.isTrue (by rw[h])
  |Decidable.isFalse h=>Decidable.isFalse λe=>h (by injection e)
 |.k _,.t _=>Decidable.isFalse nofun
 |.t _,.k _=>Decidable.isFalse nofun
def Tu:(x y:List TK)->Decidable (x=y)
 |[],[]=>Decidable.isTrue rfl
 |[],_::_=>Decidable.isFalse nofun
 |_::_,[]=>Decidable.isFalse nofun
 |a::l,b::m=>match N0 a b with
  |Decidable.isTrue h=>match Tu l m with
   |Decidable.isTrue h'=>Decidable.isTrue (by rw[h,h'])
   |Decidable.isFalse h'=>Decidable.isFalse λe=>h' (by injection e)
  |Decidable.isFalse h=>Decidable.isFalse λe=>h (by injection e)
end
instance:DecidableEq TK:=N0
mutual
def TK.depth:TK->Nat
 |.k _=>0
 |.t l=>TK.gg l+1
def TK.gg:List TK->Nat
 |[]=>0
 |a::r=>max (TK.depth a)<|TK.gg r
end
mutual
def TK.hash(w:Wn):TK->Int
 |.k a=>NS w a
 |.t l=>JL<|ER<|TK.P6 w l
def TK.P6(w:Wn):List TK->List Int
 |[]=>[]
 |a::r=>TK.hash w a::TK.P6 w r
end
mutual
def TK.draws:TK->Nat
 |.k _=>1
 |.t l=>TK.P_ l+1
def TK.P_:List TK->Nat
 |[]=>0
 |a::r=>TK.draws a+TK.P_ r
end
mutual
def pV(h:Wq):TK->Wm->Prop
 |.k a,v=>kH a v=true
 |.t l,v=>∃a o items n,v=.ref a/\h.get? a=eH o/\o.cls=.type "tuple"/\o.data=.seq items n/\QG h l items.toList
def QG(h:Wq):List TK->List Wm->Prop
 |[],vs=>vs=[]
 |k::r,vs=>∃v us,vs=v::us/\pV h k v/\QG h r us
end
theorem pV.inj:∀(d:Nat) {x y:TK}{v:Wm},x.depth<=d->pV h x v->pV h y v->x=y:=by
 have z:∀(d:Nat) (u:∀{x y:TK}{v:Wm},x.depth<=d->pV h x v->pV h y v->x=y) (m i:List TK) (p:Zf),TK.gg m<=d->QG h m p->QG h i p->m=i:=by
  intro d u m
  induction m with
  |nil =>
   intro i p _ hx f;have A:p=[]:=hx;subst A;cases i with
   |nil=>rfl
   |cons y i=>let⟨_,_,e,_⟩:=f;cases e
  |cons x m B =>
   intro i p q hx f;let⟨v,M,rfl,C,D⟩:=hx;cases i with
   |nil=>have E:v::M=[]:=f;cases E
   |cons y i =>
    let⟨v',O,e,G,H⟩:=f;cases e;have Q:max x.depth (TK.gg m)<=d:=q;rw[u ⋯ C G,B i M ⋯ D H]
 have g:∀(a:r6) (l:List TK) (v:Wm),pV h (.k a) v->pV h (.t l) v->False:=by
  intro a l v r I;let⟨b,o,items,n,rfl,_⟩:=I;obtain⟨_,_,_,e⟩|⟨_,_,_,e⟩|⟨_,e⟩:=cz (show kH a (.ref b)=true from r)<;>cases e
 have N:∀(a b:r6) (v:Wm),kH a v=true->kH b v=true->a=b:=λa b v r I=>xV r I;intro d
 induction d with
 |zero =>
  intro x y v q hx f;cases x with
  |t l=>exact absurd q (by show ¬(TK.gg l+1<=0);nofun)
  |k a =>
   cases y with
   |k b=>rw[N a b v hx f]
   |t l=>exact(g a l v hx f).elim
 |succ d u =>
  intro x y v q hx f;cases x with
  |k a =>
   cases y with
   |k b=>rw[N a b v hx f]
   |t l=>exact(g a l v hx f).elim
  |t l =>
   cases y with
   |k b=>exact(g b l v f hx).elim
   |t T =>
    let⟨a,o,items,n,rfl,U,hc,J,hi⟩:=hx;let⟨a',o',w,n',e,s,Y,j,L⟩:=f;cases e;rw[U]at s;cases s;rw[J]at j;injection j with e1 _;subst e1;rw[z d (λr=>u r) l T items.toList (by have:TK.gg l+1<=d+1:=q;nofun) hi L]
theorem pV.mono(k:∀a o items n,h.get? a=eH o->o.cls=.type "tuple"->o.data=.seq items n->i.get? a=eH o):∀(d:Nat) {x:TK}{v:Wm},x.depth<=d->pV h x v->pV i x v:=by
 have p:∀(d:Nat) (j:∀{x:TK}{v:Wm},x.depth<=d->pV h x v->pV i x v) (e:List TK) (m:Zf),TK.gg e<=d->QG h e m->QG i e m:=by
  intro d j e
  induction e with
  |nil=>intro m _ hx;exact hx
  |cons x e q =>
   intro m f hx;let⟨v,u,rfl,r,s⟩:=hx;have y:max x.depth (TK.gg e)<=d:=f;exact⟨v,u,fj,j ⋯ r,q u ⋯ s⟩
 intro d
 induction d with
 |zero =>
  intro x v f hx;cases x with
  |t l=>exact absurd f (by show ¬(TK.gg l+1<=0);nofun)
  |k a=>exact hx
 |succ d j =>
  intro x v f hx;cases x with
  |k a=>exact hx
  |t l =>
   let⟨a,o,items,n,rfl,z,w,g,hi⟩:=hx;exact⟨a,o,items,n,fj,k a o items n z w g,w,g,p d (λA=>j A) l _ (by have:TK.gg l+1<=d+1:=f;nofun) hi⟩
section
variable{prog:bR}{w:Wn}
theorem Mm:∀(d:Nat) {A:Wo}{E:Zc}{s:Wl}{k:TK}{v:Wm}{Q:Int->Wl->Prop},k.depth<=d->A.units+d<cLine->pV s.heap k v->Q (k.hash w) {s with toks:=s.toks+k.draws} ->
  wpAny (model prog w) A (pyHash v) Q E s:=by
 intro d
 induction d with
 |zero =>
  intro A E s k v Q C hu u h;cases k with
  |t l=>exact absurd C (by show ¬(TK.gg l+1<=0);nofun)
  |k a=>exact(DR prog w).pyHash (k:=a) u h
 |succ d ih =>
  intro A E s k v Q C hu u h;cases k with
  |k a=>exact(DR prog w).pyHash (k:=a) u h
  |t l =>
   let⟨a,o,items,n,rfl,U,hc,D,hi⟩:=u;have y:s.TypeIs (.ref a) "tuple":=⟨o,U,hc⟩;have G:TK.gg l<=d:=by have:TK.gg l+1<=d+1:=C;nofun
   unfold pyHash
   first|unfold pyHashByItsType|skip
   first|refine ai (wpAny_cRoomFor_or (.inr ⋯) ?_)|skip
   refine ai<|HY y F.slot_tuple_hash.lookup ?_;show wpAny _ _ (if(eH (Value.builtin "tuple.__hash__")==eH Value.none)=true then _ else _) Q E s
   rw[if_neg (by rw[beq_builtin_none];exact h9)];refine ai<|HY y F.slot_tuple_hash.lookup ?_;show wpAny _ _ (callSpecialIfBoundUnlessNone? (.ref a) "__hash__" _ >>= _) Q E s;refine ai<|wpAny_callSpecialIfBoundUnlessNone?_slot y F.slot_tuple_hash<|mo F.slot_tuple_hash y F.entry_tuple_hash ?_<|F.args_tuple_hash_1 _;show wpAny _ _ (bx.Tuple.tupleItemsOf (.ref a) >>= _) _ _ s;refine ai<|wpAny_tupleItemsOf U D ?_;refine ai ?_;rw[<-Md];refine wpAny_forIn_list _
    (λg (b:Array Int) H=>∃done left,l=done++left/\QG s.heap left g/\b.toList=TK.P6 w done/\H={s with toks:=s.toks+TK.P_ done})
    _ ?_ ?_ _ _ ⟨[],l,fj,hi,fj,fj⟩
   .rintro x g b H ⟨done,left,e,z,j,rfl⟩;cases left with
    |nil=>have I:x::g=[]:=z;cases I
    |cons f left =>
     let⟨x',J,L,h1,Y⟩:=z;cases L;have M:f.depth<=d:=by
      have gen:∀(p:List TK),TK.gg (p++f::left)<=d->f.depth<=d:=by
       intro p
       induction p with
       |nil=>intro N;have O:max f.depth (TK.gg left)<=d:=N;nofun
       |cons q p i=>intro N;have O:max q.depth (TK.gg<|p++f::left)<=d:=N;exact i ⋯
      exact gen done (by rw[<-e];exact G)
     have T:TK.P6 w (done++[f])=TK.P6 w done++[f.hash w]:=by
      clear e j
      induction done with
      |nil=>rfl
      |cons q p i=>show _::TK.P6 w (p++[f])=_;rw[i];rfl
     have m:TK.P_ (done++[f])=TK.P_ done+f.draws:=by
      clear e j T
      induction done with
      |nil=>show f.draws+0=0+f.draws;nofun
      |cons q p i=>show q.draws+TK.P_ (p++[f])=q.draws+TK.P_ p+f.draws;rw[i];nofun
     refine ai (ih (k:=f) M (by show A.units+1+d<cLine;nofun) h1 ?_)
     first
      |exact ax ⟨done++[f],left,by rw[e];simp,Y,by rw[T];simp[j],by rw[m];simp[GX]⟩
      |exact ai (ax (ax ⟨done++[f],left,by rw[e];simp,Y,by rw[T];simp[j],by rw[m];simp[GX]⟩))
   .rintro b H ⟨done,left,e,z,j,rfl⟩;cases left with
    |cons f left=>let⟨_,_,L,_⟩:=z;cases L
    |nil =>
     rw[dj]at e;subst e;show wpAny _ _ (retInt<|ER b.toList) _ _ _;rw[j];refine wpAny_ret_mkInt ?_;have r:Q (JL<|ER<|TK.P6 w l) {s with toks:=s.toks+(TK.P_ l+1)}:=h;show wpAny _ _ (if(decide (-(2:Int) ^ 63<=ER (TK.P6 w l)) && decide (ER (TK.P6 w l)<2 ^ 63))=true then _ else _) Q E _
     unfold JL at r;by_cases B:(decide (-(2:Int) ^ 63<=ER (TK.P6 w l)) && decide (ER (TK.P6 w l)<2 ^ 63))=true
     .rw[if_pos B];rw[if_pos B]at r;exact ax (by simpa[GX]using r)
     .rw[if_neg B];rw[if_neg B]at r;exact ai (qk (ax (by simpa[GX]using r)))
theorem Ih(d:Nat)(ih:∀{A:Wo}{E:Zc}{s:Wl}{x y:TK}{u v:Wm}{Q:Bool->Wl->Prop},x.depth<=d->y.depth<=d->A.units+d<cLine->pV s.heap x u->pV s.heap y v->Q (decide (x=y)) s->wpAny (model prog w) A (eqBool u v) Q E s)(hx:TK.gg x<=d)(hy:TK.gg y<=d)(hu:A.units+d<cLine)(N:s.heap.get? a=eH oa)(O:oa.data=.seq q na)(T:QG s.heap x q.toList)(B:s.heap.get? b=eH L)(U:L.cls=.type "tuple")(Y:L.data=.seq t nb)(al:QG s.heap y t.toList)(h:P (.done<|.ret<|.bool<|decide (x=y)) s):wpAny (model prog w) A (bx.«tuple.__eq__» ⟨[.ref a,.ref b],[]⟩) P E s:=by
 have an:s.TypeIs (.ref b) "tuple":=⟨L,B,U⟩;show wpAny _ _ (isInstance (.ref b) (.type "tuple") >>= _) _ _ s;refine ai<|wX an isSubtype_tuple_tuple ?_;simp only[GW,kg,if_false];refine ai<|wpAny_tupleItemsOf N O ?_;refine ai<|wpAny_tupleItemsOf B Y ?_;refine ai ?_;refine wpAny_forIn_list _
  (λl r M=>r.1=none/\M=s/\∃n m QT f,l=List.zip QT f/\QG s.heap n QT/\QG s.heap m f/\TK.gg n<=d/\TK.gg m<=d/\decide (n=m)=decide (x=y)/\(QT.length==f.length)=(q.size==t.size))
  _ ?_ ?_ _ _ ⟨fj,fj,x,y,q.toList,t.toList,fj,T,al,hx,hy,fj,by simp⟩
 .rintro⟨u,v⟩ l r M ⟨hr,rfl,n,m,QT,f,z,j,g,dx,dy,i,k⟩;cases n with
  |nil =>
   have e:QT=[]:=j;subst e;simp at z
  |cons k1 o =>
   let⟨u',C,rfl,h1,D⟩:=j;cases m with
   |nil =>
    have e:f=[]:=g;subst e;simp at z
   |cons k2 p =>
    let⟨v',G,rfl,h2,H⟩:=g;simp only[List.zip_cons_cons,List.cons.injEq,Prod.mk.injEq]at z;let⟨⟨rfl,rfl⟩,rfl⟩:=z;have ap:max k1.depth (TK.gg o)<=d:=dx;have as:max k2.depth (TK.gg p)<=d:=dy;refine ai (ih (x:=k1) (y:=k2) ⋯ ⋯ hu h1 h2 ?_);by_cases hk:k1=k2
    .subst hk;rw[hH rfl];simp only[GW,kg,if_false];refine ax ⟨fj,fj,o,p,C,G,fj,D,H,by nofun,by nofun,?_,by simpa using k⟩;rw[<-i];by_cases I:o=p
     .simp[I]
     .simp[I]
    .rw[hB hk];simp only[Bool.not_false,if_true];have hf:decide (x=y)=false:=by rw[<-i];simp[hk]
     rw[hf]at h;exact ai<|ax<|ax<|ax h
 .rintro⟨r1,r2⟩ M ⟨hr,rfl,n,m,QT,f,z,j,g,dx,dy,i,k⟩;simp only at hr;subst hr;refine ax ?_;have J:(q.size==t.size)=decide (x=y):=by
   rw[<-i,<-k];cases n with
   |nil =>
    have e:QT=[]:=j;subst e;cases m with
    |nil=>have e:f=[]:=g;subst e;simp
    |cons _ _=>let⟨_,_,rfl,_⟩:=g;simp
   |cons _ _ =>
    let⟨_,_,rfl,_⟩:=j;cases m with
    |nil=>have e:f=[]:=g;subst e;simp
    |cons _ _=>let⟨_,_,rfl,_⟩:=g;simp at z
  show P (.done<|.ret<|.bool<|q.size==t.size) M;rw[J];exact h
theorem OX:∀(d:Nat) {A:Wo}{E:Zc}{s:Wl}{x y:TK}{u v:Wm}{Q:Bool->Wl->Prop},x.depth<=d->y.depth<=d->A.units+d<cLine->pV s.heap x u->pV s.heap y v->Q (decide (x=y)) s ->
  wpAny (model prog w) A (eqBool u v) Q E s:=by
 have g:∀{A:Wo}{E:Zc}{s:Wl}{a:r6}{l:List TK}{u v:Wm}{Q:Bool->Wl->Prop},A.units<cLine->pV s.heap (.k a) u->pV s.heap (.t l) v->Q false s->wpAny (model prog w) A (eqBool u v) Q E s:=by
  intro A E s a l u v Q j hx f h;let⟨b,o,items,n,rfl,L,M,q,hi⟩:=f;have r:s.heap.IsTuple b items:=⟨o,L,M,n,q⟩;obtain⟨i,t,rfl,rfl⟩|⟨i,t,rfl,rfl⟩|⟨rfl,rfl⟩:=cz (show kH a u=true from hx)
  .exact bJ.int_tuple i t r j prog w E Q h
  .exact bJ.str_tuple i t r j prog w E Q h
  .exact bJ.none_tuple r j prog w E Q h
 have p:∀{A:Wo}{E:Zc}{s:Wl}{a:r6}{l:List TK}{u v:Wm}{Q:Bool->Wl->Prop},A.units<cLine->pV s.heap (.t l) u->pV s.heap (.k a) v->Q false s->wpAny (model prog w) A (eqBool u v) Q E s:=by
  intro A E s a l u v Q j hx f h;let⟨b,o,items,n,rfl,L,M,q,hi⟩:=hx;have r:s.heap.IsTuple b items:=⟨o,L,M,n,q⟩;obtain⟨i,t,rfl,rfl⟩|⟨i,t,rfl,rfl⟩|⟨rfl,rfl⟩:=cz (show kH a v=true from f)
  .exact bJ.tuple_int i t r j prog w E Q h
  .exact bJ.tuple_str i t r j prog w E Q h
  .exact bJ.tuple_none r j prog w E Q h
 have Rh:∀{A:Wo}{E:Zc}{s:Wl}{a b:r6}{u v:Wm}{Q:Bool->Wl->Prop},pV s.heap (.k a) u->pV s.heap (.k b) v->Q (decide (TK.k a=TK.k b)) s->wpAny (model prog w) A (eqBool u v) Q E s:=by
  intro A E s a b u v Q hx f h;refine(DR prog w).eqBool (a:=a) (b:=b) hx f ?_;by_cases e:a=b
  .subst e;simpa using h
  .have:¬(TK.k a=TK.k b):=λz=>e (by injection z);rw[hB this]at h;rw[hB e];exact h
 intro d
 induction d with
 |zero =>
  intro A E s x y u v Q B C j hx f h;cases x with
  |t l=>exact absurd B (by show ¬(TK.gg l+1<=0);nofun)
  |k a =>
   cases y with
   |t l=>exact absurd C (by show ¬(TK.gg l+1<=0);nofun)
   |k b=>exact Rh hx f h
 |succ d ih =>
  intro A E s x y u v Q B C j hx f h;cases x with
  |k a =>
   cases y with
   |k b=>exact Rh hx f h
   |t l =>
    rw[hB (by intro z;cases z)]at h;exact g ⋯ hx f h
  |t l =>
   cases y with
   |k b =>
    rw[hB (by intro z;cases z)]at h;exact p ⋯ hx f h
   |t m =>
    have hl:TK.gg l<=d:=by have:TK.gg l+1<=d+1:=B;nofun
    have hm:TK.gg m<=d:=by have:TK.gg m+1<=d+1:=C;nofun
    have N:=hx;have O:=f;let⟨a,oa,xs,na,rfl,G,T,U,Y⟩:=hx;let⟨b,ob,ys,nb,rfl,H,I,al,an⟩:=f;have J:s.TypeIs (.ref a) "tuple":=⟨oa,G,T⟩;have ap:s.TypeIs (.ref b) "tuple":=⟨ob,H,I⟩;have as:decide (TK.t l=TK.t m)=decide (l=m):=by
     by_cases e:l=m
     .subst e;simp
     .have:¬(TK.t l=TK.t m):=λz=>e (by injection z);rw[hB this,hB e]
    unfold eqBool
    try with_reducible refine g7 ?_
    show wpAny _ _ (if(Value.ref a==Value.ref b)=true then _ else _) Q E s
    by_cases D:(Value.ref a==Value.ref b)=true
    .rw[if_pos D];have e:a=b:=by have:=eq_of_beq D;injection this
     subst e;have e2:TK.t l=TK.t m:=pV.inj _ (aF _) N O;rw[hH e2]at h;exact ai<|qk<|ax h
    .rw[if_neg D];rw[as]at h;exact ai (wpAny_richCompare_same_room (op:=.Eq) J ap F.slot_tuple_eq
      (mo F.slot_tuple_eq J F.entry_tuple_eq (Ih d (λh1 h2 h3 h4 h5 h6=>ih h1 h2 h3 h4 h5 h6) hl hm (by show A.units+1+d<cLine;nofun) G U Y H I al an ⟨_,fj,(λe=>nomatch e),vj h⟩)<|F.args_tuple_eq_2 _ _) ⋯)
theorem JY:∀(d:Nat) {A:Wo}{E:Zc}{s:Wl}{k:TK}{v:Wm}{Q:Bool->Wl->Prop},k.depth<=d->pV s.heap k v->Q true s->wpAny (model prog w) A (eqIsQuiet d v) Q E s:=by
 intro d
 induction d with
 |zero =>
  intro A E s k v Q j i h;cases k with
  |t l=>exact absurd j (by show ¬(TK.gg l+1<=0);nofun)
  |k a=>rw[eqIsQuiet_byValue _<|(DR prog w).byValue a v i];exact ax h
 |succ d D =>
  intro A E s k v Q j i h;cases k with
  |k a=>rw[eqIsQuiet_byValue _<|(DR prog w).byValue a v i];exact ax h
  |t l =>
   have G:TK.gg l<=d:=by have:TK.gg l+1<=d+1:=j;nofun
   let⟨a,o,items,n,rfl,y,H,m,hi⟩:=i;have z:s.TypeIs (.ref a) "tuple":=⟨o,y,H⟩;unfold eqIsQuiet;refine ai<|HY z F.slot_tuple_eq.lookup ?_;show wpAny _ _ (isInstance (.ref a) (.type "tuple") >>= _) _ _ s;refine ai<|wX z isSubtype_tuple_tuple ?_;simp only[GW,kg,if_false];refine ai<|kS y m ?_;refine ai ?_;show wpAny _ _ (forIn items _ _) _ _ s;rw[<-Md];refine wpAny_forIn_list _ (λf r p=>r.1=none/\p=s/\∃left,QG s.heap left f/\TK.gg left<=d) _ ?_ ?_ _ _ ⟨fj,fj,l,hi,G⟩
   .rintro v f r p ⟨q,rfl,left,g,u⟩;cases left with
    |nil=>have e:v::f=[]:=g;cases e
    |cons B left =>
     let⟨L,x,e,I,J⟩:=g;cases e;have C:max B.depth (TK.gg left)<=d:=u;refine ai (D (k:=B) ⋯ I ?_);simp only[GW,kg,if_false];exact ax ⟨fj,fj,left,J,by nofun⟩
   .rintro⟨M,N⟩ p ⟨q,rfl,_⟩;simp only at q;subst q;exact ax h
def bO(prog:bR)(w:Wn):HeapKind prog w TK where
 is:=λh k a=>pV h k (.ref a)/\k.depth<=8
 hash:=TK.hash w
 draws:=TK.draws
 room:=λA=>A.units+8<cLine
 inj:=λhx hy=>pV.inj 8 hx.2 hx.1 hy.1
 keeps:=fun{h h' k a d o es ep} x ho hd hs=>⟨pV.mono (λb ob items n hb _ VF=>(hs.2 b λe=>by
  subst e;rw[ho]at hb;cases hb;rw[hd]at VF;cases VF).trans hb) 8 x.2 x.1,x.2⟩
 pyHash:=λhu hk h=>Mm 8 hk.2 hu hk.1 h
 eqBool:=λhu hx hy h=>OX 8 hx.2 hy.2 hu hx.1 hy.1 h
 quiet:=λhk h=>JY 8 hk.2 hk.1 h
end
end L2
namespace L2
open PySem Spec PyProof.Rows
inductive V where
 |zr|bl (b:Bool)|int (i:Int)|str (x:Ws)|Tf (b:Array UInt8)|TZ (b:UInt64)|ref (a:Wk)|ty (n:String)
 deriving DecidableEq
def RelV:V->Wm->Prop
 |.zr,u=>u=Value.none
 |.bl b,u=>u=Value.bool b
 |.int i,u=>∃t,u=Value.int i t
 |.str x,u=>∃t,u=Value.str x t
 |.Tf b,u=>∃t,u=Value.bytes b t
 |.TZ b,u=>∃t,u=Value.float b t
 |.ref a,u=>u=Value.ref a
 |.ty n,u=>u=Value.type n
abbrev bG:List V->List Wm->Prop:=Paired RelV
theorem bG.length(r:bG a e):a.length=e.length:=Paired.length r
theorem bG.get:∀{a:List V}{f:Zf}{i:Nat}{x:V},bG a f->a[i]?=eH x->∃u,f[i]?=eH u/\RelV x u
 |_,_,_,_,.nil,e=>by simp at e
 |_,_,0,_,.cons r _,e=>by simp at e;subst e;exact⟨_,fj,r⟩
 |_,_,i+1,x,.cons _ t,e=>by
  let⟨u,g,h⟩:=bG.get (i:=i) (x:=x) t ‹e›;exact⟨u,by simpa using g,h⟩
theorem bG.set(r:RelV x u):∀{a:List V}{e:Zf}(i:Nat),bG a e->bG (a.set i x) (e.set i u)
 |_,_,_,.nil=>.nil
 |_,_,0,.cons _ t=>.cons r t
 |_,_,i+1,.cons q t=>.cons q<|bG.set r i t
theorem bG.append(h:bG a f)(s:bG e g):bG (a++e) (f++g):=by
 induction h with
 |nil=>exact s
 |cons r _ i=>exact .cons r i
theorem bG.take:∀{a:List V}{e:Zf}(n:Nat),bG a e->bG (a.take n) (e.take n)
 |_,_,0,_=>.nil
 |_,_,_+1,.nil=>.nil
 |_,_,n+1,.cons r t=>.cons r<|bG.take n t
theorem bG.drop:∀{a:List V}{e:Zf}(n:Nat),bG a e->bG (a.drop n) (e.drop n)
 |_,_,0,r=>r
 |_,_,_+1,.nil=>.nil
 |_,_,n+1,.cons _ t=>bG.drop n t
def og:Option V->Option Wm->Prop
 |some v,eH u=>RelV v u
 |none,none=>True
 |_,_=>False
def KV{κ:Type}:List (κ×V)->List (κ×Wm)->Prop:=Paired λ(p:κ×V) (q:κ×Wm)=>p.1=q.1/\RelV p.2 q.2
def kV:fK->V
 |.inl i=>.int i
 |.inr x=>.str x
def NT:r6->V
 |none=>.zr
 |some k=>kV k
inductive HO where
 |lst (xs:List V)
 |tup (xs:List V)
 |dK (kvs:List (fK×V))|dT (kvs:List (TK×V))
 |set (S:Int->Bool) (n:Nat)
 |ins (C dx:Wk) (fs:List (Ws×V))
 |own (x:Wk)
 |xd (fs:List (Ws×V))
 |met (f x:Wk)
 |UT (lo hi:Int)
 |oI (o:Obj) (u:HO)
 |T9 (ps:Array Wm)
 |ext (φ:Wq->Prop)
abbrev Hp:=Wk->Option HO
mutual
def fX(H:Hp):TK->V->Prop
 |.k a,v=>v=NT a
 |.t l,v=>∃b xs,v=.ref b/\H b=eH (.tup xs)/\ub H l xs
def ub(H:Hp):List TK->List V->Prop
 |[],vs=>vs=[]
 |k::r,vs=>∃v us,vs=v::us/\fX H k v/\ub H r us
end
def dg(K:Za)(H:Hp)(a:Wk)(xs:List V):Prop :=
 H a=eH (.tup xs)∨∃(o:Obj) (R5:Array Wm) (n:Nat),K.lookup a=eH o/\o.cls=.type "tuple"/\o.data=.seq R5 n/\R5.size<=ak/\bG xs R5.toList
theorem dg.keeps{K:Za}(h:dg K H a xs)(f:∀b xs,H b=eH (.tup xs)->e b=eH (.tup xs)):dg K e a xs:=h.imp (f a xs) id
mutual
def mO(K:Za)(H:Hp):TK->V->Prop
 |.k a,v=>v=NT a
 |.t l,v=>∃b xs,v=.ref b/\dg K H b xs/\PN K H l xs
def PN(K:Za)(H:Hp):List TK->List V->Prop
 |[],vs=>vs=[]
 |k::r,vs=>∃v us,vs=v::us/\mO K H k v/\PN K H r us
end
theorem mO.keeps{K:Za}(p:∀b xs,H b=eH (.tup xs)->f b=eH (.tup xs)):∀(d:Nat) {k:TK}{v:V},k.depth<=d->mO K H k v->mO K f k v:=by
 have i:∀(d:Nat) (g:∀{k:TK}{v:V},k.depth<=d->mO K H k v->mO K f k v) (xs:List TK) (h:List V),TK.gg xs<=d->PN K H xs h->PN K f xs h:=by
  intro d g xs
  induction xs with
  |nil=>intro h _ hx;exact hx
  |cons x xs j =>
   intro h e hx;let⟨v,o,rfl,m,n⟩:=hx;have q:max x.depth (TK.gg xs)<=d:=e;exact⟨v,o,fj,g ⋯ m,j o ⋯ n⟩
 intro d
 induction d with
 |zero =>
  intro k v e hx;cases k with
  |t l=>exact absurd e (by show ¬(TK.gg l+1<=0);nofun)
  |k a=>exact hx
 |succ d g =>
  intro k v e hx;cases k with
  |k a=>exact hx
  |t l =>
   let⟨b,xs,rfl,r,hi⟩:=hx;exact⟨b,xs,fj,r.keeps p,i d (λs=>g s) l xs (by have:TK.gg l+1<=d+1:=e;nofun) hi⟩
theorem fX.c{K:Za}:∀(d:Nat) {k:TK}{v:V},k.depth<=d->fX H k v->mO K H k v:=by
 have i:∀(d:Nat) (g:∀{k:TK}{v:V},k.depth<=d->fX H k v->mO K H k v) (e:List TK) (h:List V),TK.gg e<=d->ub H e h->PN K H e h:=by
  intro d g e
  induction e with
  |nil=>intro h _ hx;exact hx
  |cons x e j =>
   intro h f hx;let⟨v,o,rfl,m,n⟩:=hx;have p:max x.depth (TK.gg e)<=d:=f;exact⟨v,o,fj,g ⋯ m,j o ⋯ n⟩
 intro d
 induction d with
 |zero =>
  intro k v f hx;cases k with
  |t l=>exact absurd f (by show ¬(TK.gg l+1<=0);nofun)
  |k a=>exact hx
 |succ d g =>
  intro k v f hx;cases k with
  |k a=>exact hx
  |t l =>
   let⟨b,e,rfl,q,hi⟩:=hx;exact⟨b,e,fj,.inl q,i d (λr=>g r) l e (by have:TK.gg l+1<=d+1:=f;nofun) hi⟩
def upd(H:Hp)(a:Wk)(o:HO):Hp:=λb=>if b=a then eH o else H b
theorem aa:upd H a o a=eH o:=by unfold upd;rw[if_pos rfl]
theorem ah(h:b≠a):upd H a o b=H b:=by unfold upd;rw[if_neg h]
theorem v9:upd (upd H a o) a u=upd H a u:=by
 funext b;unfold upd;split<;>rfl
theorem Hm{H:Hp}{a b:Wk}{o u:HO}(h:H a=eH o)(f:H b=eH u)(d:o≠u):a≠b:=by
 intro e;subst e;rw[h]at f;exact d<|gp f
theorem ae{H:Hp}{a b:Wk}{o:HO}(h:H a=eH o)(f:H b=none):a≠b:=by
 intro e;subst e;rw[h]at f;cases f
section
variable(P:bR)(w:Wn)(K:Za)
def bA(H:Hp)(h:Wq)(a:Wk):HO->Prop
 |.lst xs=>xs.length<=ak/\∃(R5:Zf) (n:Nat),bG xs R5/\h.get? a=eH { cls:=.type "list",data:=.seq R5.toArray n}
 |.tup xs=>xs.length<=ak/\∃R5:List Wm,bG xs R5/\IsTup h a R5.toArray
 |.dK kvs=>kvs.length<=ak/\(a==fS)=false/\∃vs,KV kvs vs/\h.DictOf (cM P w) a vs
 |.dT kvs=>kvs.length<=ak/\(a==fS)=false/\∃xs:List<|TK×Wk×Wm,
   Paired (λ(p:TK×V) (q:TK×Wk×Wm)=>p.1=q.1/\mO K H p.1 (.ref q.2.1)/\p.1.depth<=8/\RelV p.2 q.2.2) kvs xs /\
   ∃o es ep,h.get? a=eH o/\o.ExactDict/\o.data=.dict es ep/\es.toList=xs.map (GV<|bO P w)/\(xs.map (·.1)).Nodup
 |.set S n=>h.SetOf (intKind P w) a S n
 |.ins C dx fs=>H dx=eH (.own a)/\fs.length<=1000/\dx≠a/\h.get? a=eH (vi C dx) /\
   ∃mA,h.Ns1 dx mA/\(∀f,og (fs.lookup f)<|mA f)/\PySem.Within mA (fs.map (·.1))
 |.own _=>∃o,h.get? a=eH o
 |.xd fs=>∃mA,h.Ns1 a mA/\∀f,og (fs.lookup f) (mA f)
 |.UT lo hi=>∃t u v,h.get? a=eH { cls:=.type "range",data:=.fields #[.int lo t,.int hi u,.int 1 v]}
 |.oI o u=>h.get? a=eH o/\bA H h a u
 |.T9 ps=>h.get? a=eH { cls:=.none,data:=.fields ps}
 |.met f x=>h.get? a=eH (PySem.W.methodObj (.ref f)<|.ref x)
 |.ext φ=>φ h/\(∃o,h.get? a=eH o)/\∀h1 h2:Wq,φ h1->(∀o,h1.get? a=eH o->h2.get? a=eH o)->φ h2
def om(H:Hp)(h:Wq):Prop:=∀a o,H a=eH o->bA P w K H h a o
end
section
variable{P:bR}{w:Wn}{K:Za}{H H':Hp}{h h':Wq}{a:Wk}{o:HO}
theorem bA.lt(x:bA P w K H h a o):a<h.objs.size:=by
 cases o with
 |lst i=>let⟨_,_,_,_,e⟩:=x;exact aJ e
 |tup i=>let⟨_,_,_,p⟩:=x;exact p.lt
 |dK g=>let⟨_,_,_,_,o,_,_,e,_⟩:=x;exact aJ e
 |dT g=>let⟨_,_,_,_,o,_,_,e,_⟩:=x;exact aJ e
 |set S n=>let⟨o,_,_,_,e,_⟩:=x;exact aJ e
 |ins C j fs=>let⟨_,_,_,e,_⟩:=x;exact aJ e
 |own y=>let⟨_,e⟩:=x;exact aJ e
 |xd fs=>let⟨_,⟨_,_,_,e,_⟩,_⟩:=x;exact aJ e
 |UT lo hi=>let⟨_,_,_,e⟩:=x;exact aJ e
 |oI k u=>let⟨e,_⟩:=x;exact aJ e
 |T9 l=>exact aJ<|show h.get? a=eH _ from x
 |met f y=>exact aJ<|show h.get? a=eH _ from x
 |ext φ=>let⟨_,⟨_,e⟩,_⟩:=x;exact aJ e
theorem Paired.i3(h:Paired F e g)(f:∀a b,F a b->G a b):Paired G e g:=by
 induction h with
 |nil=>exact .nil
 |cons r _ i=>exact .cons (f _ _ r) i
theorem bA.RI(x:bA P w K H h a o)(k:∀b u,(b=a∨H b=eH (.own a))->h.get? b=eH u->h'.get? b=eH u)
  (E:∀b,H b=eH (.own a)->H' b=eH (.own a)) (G:∀b m,H b=eH (.tup m)->H' b=eH (.tup m)):bA P w K H' h' a o:=by
 induction o with
 |lst m=>let⟨z,l,n,r,e⟩:=x;exact⟨z,l,n,r,k _ _ (.inl rfl) e⟩
 |tup m=>let⟨z,l,r,g,e,c⟩:=x;exact⟨z,l,r,g,k _ _ (.inl rfl) e,c⟩
 |dK s=>let⟨z,y,I,r,g,i,j,e,c⟩:=x;exact⟨z,y,I,r,g,i,j,k _ _ (.inl rfl) e,c⟩
 |dT s =>
  let⟨z,y,m,r,g,i,j,e,c⟩:=x;exact⟨z,y,m,Paired.i3 r λp q z=>⟨z.1,mO.keeps G 8 z.2.2.1 z.2.1,z.2.2⟩,g,i,j,k _ _ (.inl rfl) e,c⟩
 |set S n=>let⟨g,i,j,t,e,c⟩:=x;exact⟨g,i,j,t,k _ _ (.inl rfl) e,c⟩
 |ins C M fs =>
  let⟨d,z,ne,e,A,⟨B,i,j,J,c⟩,r⟩:=x;exact⟨E _ d,z,ne,k _ _ (.inl rfl) e,A,⟨B,i,j,k _ _ (.inr d) J,c⟩,r⟩
 |own y=>let⟨g,e⟩:=x;exact⟨g,k _ _ (.inl rfl) e⟩
 |xd fs=>let⟨A,⟨B,i,j,e,c⟩,r⟩:=x;exact⟨A,⟨B,i,j,k _ _ (.inl rfl) e,c⟩,r⟩
 |UT lo hi=>let⟨t,u,v,e⟩:=x;exact⟨t,u,v,k _ _ (.inl rfl) e⟩
 |oI g u L=>let⟨e,q⟩:=x;exact⟨k _ _ (.inl rfl) e,L q⟩
 |T9 D =>
  have e:h.get? a=eH { cls:=.none,data:=.fields D}:=x;show h'.get? a=eH { cls:=.none,data:=.fields D};exact k a _ (.inl rfl) e
 |met f y =>
  have e:h.get? a=eH (PySem.W.methodObj (.ref f)<|.ref y):=x;show h'.get? a=eH (PySem.W.methodObj (.ref f)<|.ref y);exact k a _ (.inl rfl) e
 |ext φ=>let⟨p,⟨o,e⟩,st⟩:=x;exact⟨st _ _ p λo q=>k _ _ (.inl rfl) q,⟨o,k _ _ (.inl rfl) e⟩,st⟩
theorem om.lt(x:om P w K H h)(e:H a=eH o):a<h.objs.size:=(x a o e).lt
theorem om.fresh(x:om P w K H h)(e:h.objs.size<=a):H a=none:=by
 cases q:H a with
 |none=>rfl
 |some u=>exact absurd (eK (x.lt q) e)<|nU _
theorem om.kept(x:om P w K H h)(k:∀b u,h.get? b=eH u->h'.get? b=eH u):om P w K H h':=λa o e =>
 (x a o e).RI (λb u _ q=>k b u q) (λ_ q=>q) λ_ _ q=>q
theorem om.laid(x:om P w K H h)(k:∀b u,h.get? b=eH u->h'.get? b=eH u)(i:h.objs.size<=a)(new:bA P w K (upd H a o) h' a o):om P w K (upd H a o) h':=λb u e=>by
 have f:=x.fresh i;by_cases g:b=a
 .subst g;rw[aa]at e;cases e;exact new
 .rw[ah g]at e;exact(x b u e).RI (λc v _ q=>k c v q) (λc q=>by rw[ah<|ae q f];exact q) λc j q=>by rw[ah<|ae q f];exact q
end
def Rd(H:Hp)(a:Wk)(u:HO):Prop:=H a=eH u∨∃o,H a=eH (.oI o u)
theorem Rd.ok{K:Za}(r:Rd H a u)(x:om P w K H h):bA P w K H h a u:=by
 obtain r|⟨o,r⟩:=r
 .exact x a u r
 .obtain⟨_,q⟩:=x a _ r;exact q
def Pg:Option HO->Prop
 |some (.lst _)=>True
 |some (.dK _)=>True
 |some (.dT _)=>True
 |some (.set _ _)=>True
 |some (.ins _ _ _)=>True
 |some (.ext _)=>True
 |_=>False
section
variable{P:bR}{w:Wn}{K:Za}{H:Hp}{h h':Wq}{x e:Wk}{o':HO}
theorem om.write(ok:om P w K H h)(i:Pg<|H x)(n:e=x∨H e=eH (.own x))(k:∀b u,b≠e->h.get? b=eH u->h'.get? b=eH u)(m:∃u,h'.get? e=eH u)
  (new:bA P w K (upd H x o') h' x o'):om P w K (upd H x o') h':=λb u q=>by
 have f:∀c y,H c=eH (.own y)->c≠x:=λc y r z=>by subst z;rw[r]at i;exact i
 have g:∀c j,H c=eH (.tup j)->c≠x:=λc j r z=>by subst z;rw[r]at i;exact i
 by_cases l:b=x
 .subst l;rw[aa]at q;cases q;exact new
 .rw[ah l]at q;by_cases a:b=e
  .have o:H b=eH (.own x):=by
    obtain z|z:=n
    .exact absurd (a.trans z) l
    .rw[a];exact z
   rw[q]at o;cases o;let⟨v,p⟩:=m;exact⟨v,by rw[a];exact p⟩
  .refine(ok b u q).RI (λc v hc r=>k c v ?_ r) (λc r=>by rw[ah<|f c b r];exact r) λc j r=>by rw[ah<|g c j r];exact r
   obtain rfl|hc:=hc
   .exact a
   .rintro rfl;obtain z|z:=n
    .exact f c b hc z
    .rw[hc]at z;cases z;exact l rfl
end
structure Un(fs ex:Ze)(H H':Hp)(h h':Wq):Prop where
 keep:∀b o,h.get? b=eH o->H b=none->b∉fs->b∉ex->h'.get? b=eH o
 slot:∀b o,h.get? b=eH o->H b=none->b∈fs->b∉ex->∃sl,h'.get? b=eH {o with slots:=sl}
 free:∀b o,h.get? b=eH o->H b=none->b∉ex->H' b=none
 there:∀b o,h.get? b=eH o->b∉ex->∃o',h'.get? b=eH o'
 SQ:∀b xs,H b=eH (.tup xs)->H' b=eH (.tup xs)
 So:∀b o u,H b=eH (.oI o u)->H' b=eH (.oI o u)
 SR:∀b ps,H b=eH (.T9 ps)->∃more,H' b=eH (.T9 (ps++more))
section
variable{fs V_ ex Wj:Ze}{H H1 H2:Hp}{h h1 h2 h':Wq}{a x e:Wk}{o:HO}
theorem Un.any(u:Un fs ex H H1 h h1)(q:h.get? b=eH ob)(n:H b=none)(hx:b∉ex):∃g,h1.get? b=eH {ob with slots:=g}:=by
 by_cases f:b∈fs
 .exact u.slot b ob q n f hx
 .exact⟨ob.slots,u.keep b ob q n f hx⟩
theorem Un.kept(k:∀b u,h.get? b=eH u->h'.get? b=eH u):Un fs ex H H h h' :=
 ⟨λb f q _ _ _=>k b f q,λb f q _ _ _=>⟨f.slots,k b f q⟩,λ_ _ _ n _=>n,λb f q _=>⟨f,k b f q⟩,λ_ _ q=>q,λ_ _ _ q=>q,λ_ g q=>⟨#[],by rw[q];simp⟩⟩
theorem Un.refl:Un fs ex H H h h:=Un.kept λ_ _ q=>q
theorem Un.laid(k:∀b u,h.get? b=eH u->h'.get? b=eH u)(g:h.objs.size<=a)(f:H a=none):Un fs ex H (upd H a o) h h' where
 keep:=λb u q _ _ _=>k b u q
 slot:=λb u q _ _ _=>⟨u.slots,k b u q⟩
 free:=λb u q n _=>by rw[ah<|cr<|eK (aJ q) g];exact n
 there:=λb u q _=>⟨u,k b u q⟩
 SQ:=λb i q=>by rw[ah<|ae q f];exact q
 So:=λb u i q=>by rw[ah<|ae q f];exact q
 SR:=λb j q=>⟨#[],by rw[ah<|ae q f,q];simp⟩
theorem Un.write(g:Pg<|H x)(m:e=x∨H e=eH (.own x))(k:∀b u,b≠e->h.get? b=eH u->h'.get? b=eH u)(i:∃u,h'.get? e=eH u):Un fs ex H (upd H x o) h h':=by
 have hx:∀b,H b=none->b≠x:=λb n z=>by subst z;rw[n]at g;exact g
 have l:∀b,H b=none->b≠e:=λb n z=>by
  subst z;obtain r|r:=m
  .exact hx b n r
  .rw[n]at r;cases r
 have j:∀b u,H b=eH u->¬Pg (eH u)->b≠x:=λb u q p z=>by subst z;rw[q]at g;exact p g
 apply⟨λb u q n _ _=>k b u (l b n) q,λb u q n _ _=>⟨u.slots,k b u (l b n) q⟩,λb u q n _=>by rw[ah<|hx b n];exact n,λb u q _=>?_,
  λb s q=>by rw[ah<|j b _ q λz=>z];exact q,λb u s q=>by rw[ah<|j b _ q λz=>z];exact q,λb t q=>⟨#[],by rw[ah<|j b _ q λz=>z,q];simp⟩⟩
 by_cases f:b=e
 .subst f;exact i
 .exact⟨u,k b u f q⟩
end
def Pt(h:Wq)(H:Hp):List Wk:=(oq h.objs.size).filter λa=>(H a).isSome
def Cq(h:Wq)(H:Hp):Wq:=PySem.W.hideAll h<|Pt h H
theorem Je(h:Wq)(H:Hp):(Cq h H).objs.size=h.objs.size:=PySem.W.hideAll_size _ _
theorem Lh(e:h.get? b=eH o)(n:H b=none):(Cq h H).get? b=eH o :=
 PySem.W.hideAll_get _ e λa=>by
  have q:(H b).isSome=true:=(bW.mp a).2;rw[n]at q;simp at q
theorem M_(e:(Cq h H).get? b=eH o):h.get? b=eH o/\H b=none:=by
 have a:h.get? b=eH o:=PySem.W.of_hideAll (Pt h H) e;apply⟨a,?_⟩;cases q:H b with
 |none=>rfl
 |some x =>
  have f:b∈Pt h H:=bW.mpr ⟨List.mem_range.mpr<|aJ a,by simp[q]⟩;have z:(Cq h H).get? b=none:=PySem.W.hideAll_none (Pt h H) f;rw[z]at e;cases e
end L2
namespace L2
open PySem Spec PyProof.Rows
structure Mod(K:Za)(mg:Ws->Option Wm)(base:Wq):Prop where
 Uy:K.In base
 glob:base.Ns cw mg
 blt:∃mb,base.Ns builtinsNs mb/\∀x:Ws,x≠"__name__"->mb x=kR x
 nolimit:base.NoLimit
structure Cx where
 prog:bR
 w:Wn
 K:Za
 mg:Ws->Option Wm
 base:Wq
 A:Wo
 N:List Ws
 s₀:Wl
 H₀:Hp
 env:Env
 outer:List Env
 stack:List Env
 ex:List Wk
 fn:Ws->Bool
 calm:Bool
 pn:List (Wk×Obj)
 xe:Wm->Wl->Prop
def JJ(l:List Env):List Wk:=l.filterMap (·.frame)
abbrev Cx.fs(X:Cx):List Wk:=JJ X.outer
def Vn(sc:Scope)(x:Ws):Prop:=sc.names.lookup x=eH .local∨sc.names.lookup x=eH .cell∨sc.names.lookup x=eH .free
def Loc(sc:Scope)(x:Ws):Prop:=sc.names.lookup x=eH .local∨sc.names.lookup x=eH .cell
def Look(env:Env)(h:Wq)(m:Ws->Option Wm)(x:Ws)(u:Wm):Prop :=
 (env.kindOf x=eH .local/\m x=eH u)∨((env.kindOf x=eH .cell∨env.kindOf x=eH .free)/\∃c,env.cells.lookup x=eH c/\h.IsCell c (eH u))
structure Cx.Ok(X:Cx):Prop where
 mod:Mod X.K X.mg X.base
 kind:X.env.scope.kind=.function
 glob:X.env.globals=cw
 blt:X.env.builtins=builtinsNs
 above:X.s₀.heap.objs.size<=X.env.locals
 inj:∀x y c,X.env.cells.lookup x=eH c->X.env.cells.lookup y=eH c->x=y
 has:∀x,(X.env.kindOf x=eH .cell∨X.env.kindOf x=eH .free)->∃c,X.env.cells.lookup x=eH c
 Um:∀x c,X.fn x=true->X.env.cells.lookup x=eH c->X.s₀.heap.objs.size<=c
 hd:X.calm=true->X.A.handled=none
 frames:X.A.frames=eH X.stack
 Us:X.stack=X.outer∨(X.stack=X.env::X.outer/\X.env.frame=eH X.env.locals)
 Vh:∀b∈X.ex,b≠X.env.locals/\∀x c,X.env.cells.lookup x=eH c->c≠b
 bs:∀b o,X.base.get? b=eH o->X.s₀.heap.get? b=eH o/\X.H₀ b=none
 TR:X.base.objs.size<=X.s₀.heap.objs.size
 SX:∀b o,X.base.get? b=eH o->b∉X.ex
 Tt:∀b∈X.ex,b∉X.fs
 QK:X.s₀.heap.FunFrames X.base X.outer
 TY:∀b∈X.fs,X.H₀ b=none
structure Inv(X:Cx)(J4:Zd)(σ:List (Option V))(H:Hp)(s:Wl):Prop where
 ok:X.Ok
 os:s.os=X.s₀.os
 bare:so s.gens
 base:Un X.fs X.ex X.H₀ H X.s₀.heap s.heap
 loc:∃m,s.heap.Ns X.env.locals m/\∀(i:Nat) (x:Ws) (v:V),X.N[i]?=eH x->σ[i]?=eH (eH v)->Vn X.env.scope x->∃u,RelV v u/\Look X.env s.heap m x u
 cell:∀x c,X.env.cells.lookup x=eH c->∃v,s.heap.IsCell c v
 free:H X.env.locals=none
 P7:∀x c,X.env.cells.lookup x=eH c->H c=none
 pin:∀p∈X.pn++J4,s.heap.get? p.1=eH p.2/\H p.1=none/\p.1≠X.env.locals/\p.1∉X.fs/\∀v,p.2.data≠.cell v
 kl:om X.prog X.w X.K H s.heap
 len:σ.length=X.N.length
section
variable{X:Cx}{J4:Zd}{σ:List (Option V)}{H H':Hp}{s:Wl}{h':Wq}
theorem Cx.Ok.U'(ok:X.Ok)(e:X.base.get? b=eH o):b∉X.fs:=λa=>by
 have:=(ok.QK.mem a).1;rw[e]at this;cases this
theorem Inv.bs(I:Inv X J4 σ H s):∀b o,X.base.get? b=eH o->s.heap.get? b=eH o/\H b=none:=λb o e =>
 ⟨I.base.keep b o (I.ok.bs b o e).1 (I.ok.bs b o e).2 (I.ok.U' e)<|I.ok.SX b o e,I.base.free b o (I.ok.bs b o e).1 (I.ok.bs b o e).2<|I.ok.SX b o e⟩
theorem Inv.bk(I:Inv X J4 σ H s):∀b o,X.base.get? b=eH o->s.heap.get? b=eH o:=λb o e=>(I.bs b o e).1
theorem Inv.mod(I:Inv X J4 σ H s):Mod X.K X.mg X.base:=I.ok.mod
theorem Inv.O'(I:Inv X J4 σ H s):X.K.In s.heap:=I.ok.mod.Uy.keeps I.bk
theorem Inv.lt(I:Inv X J4 σ H s):X.env.locals<↑s:=let⟨_,a,_⟩:=I.loc;a.lt
theorem Inv.sz(I:Inv X J4 σ H s):X.s₀.heap.objs.size<=↑s:=bH I.ok.above<|cA I.lt
theorem Inv.U_(I:Inv X J4 σ H s)(h:↑s<=a):a∉X.fs:=λe=>by
 let⟨_,o,f,_⟩:=I.ok.QK.mem e;exact absurd (eK (aJ f)<|bH I.sz h)<|nU _
theorem Inv.Uj(I:Inv X J4 σ H s):∀x c,X.env.cells.lookup x=eH c->c≠X.env.locals:=λx c e z=>by
 let⟨v,o,g,h⟩:=I.cell x c e;let⟨m,⟨i,j,k,a,f,_⟩,_⟩:=I.loc;rw[z,a]at g;cases g;rw[f]at h;cases h
theorem Inv.QK(I:Inv X J4 σ H s):s.heap.FunFrames X.base X.outer:=by
 have all:∀(l:List Env),(∀b∈JJ l,b∈X.fs)->X.s₀.heap.FunFrames X.base l->s.heap.FunFrames X.base l:=by
  intro l
  induction l with
  |nil=>intro _ _;trivial
  |cons h r i =>
   intro g j;let⟨k,⟨L,o,hf,m,n,p⟩,q⟩:=j;have a:L∈X.fs:=g L (by unfold JJ;rw[List.filterMap_cons,hf];exact cT);let⟨t,e⟩:=I.base.slot L o n (I.ok.TY L a) a λz=>I.ok.Tt L z a;exact⟨k,⟨L,_,hf,m,e,p⟩,i (λb f=>g b (by unfold JJ;rw[List.filterMap_cons,hf];exact eN _ f)) q⟩
 exact all X.outer (λ_ f=>f) I.ok.QK
theorem Inv.stack(I:Inv X J4 σ H s):s.heap.FunFrames X.base X.stack:=by
 obtain e|⟨e,hf⟩:=I.ok.Us
 .rw[e];exact I.QK
 .rw[e];let⟨m,a,_⟩:=I.loc;refine .cons (by rw[I.ok.kind];decide) hf a ?_ I.QK;exact Heap.get?_none_of_le<|bH I.ok.TR I.ok.above
theorem Inv.Ra(I:Inv X J4 σ H s):∀b∈JJ X.stack,b∈X.env.locals::X.fs:=λb a=>by
 obtain e|⟨e,hf⟩:=I.ok.Us
 .rw[e]at a;exact eN _ a
 .rw[e]at a;unfold JJ at a;rw[List.filterMap_cons,hf]at a;exact a
theorem Inv.SH(I:Inv X J4 σ H s):∀b∈JJ X.stack,H b=none:=λb hb=>by
 obtain e|hb:=cq.mp (I.Ra b hb)
 .rw[e];exact I.free
 .obtain⟨_,o,a,_⟩:=I.ok.QK.mem hb;exact I.base.free b o a (I.ok.TY b hb) λz=>I.ok.Tt b z hb
theorem Inv.step{g':Array GenState}{t':Nat}{d':Drawn}{ch:Ze}(I:Inv X J4 σ H s)
  (a:∀b∈ch,(b∈X.ex∨X.s₀.heap.objs.size<=b)/\b≠X.env.locals/\(∀x c,X.env.cells.lookup x=eH c->c≠b)/\∀p∈X.pn++J4,p.1≠b)
  (keep:∀b o,b≠X.env.locals->b∉X.fs->b∉ch->s.heap.get? b=eH o->H b=none->h'.get? b=eH o)
  (j:∀b o,b≠X.env.locals->b∈X.fs->b∉ch->s.heap.get? b=eH o->H b=none->∃N,h'.get? b=eH {o with slots:=N}) (free:∀b o,b∉ch->s.heap.get? b=eH o->H b=none->H' b=none)
  (there:∀b o,b∉ch->s.heap.get? b=eH o->∃B,h'.get? b=eH B)
  (C:∀b t,H b=eH (.tup t)->H' b=eH (.tup t)) (D:∀b o u,H b=eH (.oI o u)->H' b=eH (.oI o u)) (E:∀b M,H b=eH (.T9 M)->∃G,H' b=eH (.T9<|M++G))
  (ns:∀m,s.heap.Ns X.env.locals m->h'.Ns X.env.locals m) (O:om X.prog X.w X.K H' h') (hg:so g') :
  Inv X J4 σ H' {s with heap:=h',gens:=g',drawn:=d',toks:=t'}:=by
 have J:∀b o,X.s₀.heap.get? b=eH o->b≠X.env.locals:=λb o e=>cr<|eK (aJ e) I.ok.above;have g:∀b o,X.s₀.heap.get? b=eH o->b∉X.ex->b∉ch:=λb o e hx y=>by
  obtain z|z:=(a b y).1
  .exact hx z
  .exact absurd (eK (aJ e) z)<|nU _
 have cellK:∀x c,X.env.cells.lookup x=eH c->∀v,s.heap.IsCell c v->h'.IsCell c v:=λx c e v ⟨o,A,Q⟩=>by
  have f:c∉ch:=λz=>(a c z).2.2.1 x c e rfl;by_cases U:c∈X.fs
  .obtain⟨N,q⟩:=j c o (I.Uj x c e) U f A<|I.P7 x c e;exact⟨_,q,Q⟩
  .exact⟨o,keep c o (I.Uj x c e) U f A<|I.P7 x c e,Q⟩
 apply⟨I.ok,I.os,hg,⟨λb o e n y hx=>?_,λb o e n y hx=>?_,λb o e n hx=>?_,λb o e hx=>?_,λb t e=>C b t<|I.base.SQ b t e,λb o t e=>D b o t<|I.base.So b o t e,λb M e=>?_⟩,?_,λx c e=>?_,?_,λx c e=>?_,λp Y=>?_,O,I.len⟩
 .exact keep b o (J b o e) y (g b o e hx) (I.base.keep b o e n y hx)<|I.base.free b o e n hx
 .obtain⟨N,h⟩:=I.base.slot b o e n y hx;let⟨T,L⟩:=j b _ (J b o e) y (g b o e hx) h<|I.base.free b o e n hx;exact⟨T,L⟩
 .obtain⟨B,h⟩:=I.base.there b o e hx;exact free b B (g b o e hx) h<|I.base.free b o e n hx
 .obtain⟨B,h⟩:=I.base.there b o e hx;exact there b B (g b o e hx) h
 .obtain⟨m1,h⟩:=I.base.SR b M e;let⟨m2,L⟩:=E b _ h;exact⟨m1++m2,by rw[L,Array.append_assoc]⟩
 .obtain⟨m,hn,hl⟩:=I.loc;apply⟨m,ns m hn,λi x v h L e3=>?_⟩;let⟨u,r,l⟩:=hl i x v h L e3;apply⟨u,r,?_⟩;obtain l|⟨k,c,e,z⟩:=l
  .exact .inl l
  .exact .inr ⟨k,c,e,cellK x c e _ z⟩
 .obtain⟨v,z⟩:=I.cell x c e;exact⟨v,cellK x c e v z⟩
 .obtain⟨m,⟨o,_,_,A,_⟩,_⟩:=I.loc;exact free _ o (λz=>(a _ z).2.1 rfl) A I.free
 .obtain⟨v,o,A,Q⟩:=I.cell x c e;exact free c o (λz=>(a c z).2.2.1 x c e rfl) A<|I.P7 x c e
 .obtain⟨e,n,ne,nf,d⟩:=I.pin p Y;have f:p.1∉ch:=λz=>(a p.1 z).2.2.2 p Y rfl;exact⟨keep p.1 p.2 ne nf f e n,free p.1 p.2 f e n,ne,nf,d⟩
theorem Inv.un(I:Inv X J4 σ H s)(u:Un X.fs [] H H' s.heap h')(f:om X.prog X.w X.K H' h'):Inv X J4 σ H' {s with heap:=h',toks:=t'}:=by
 let⟨m,⟨o,q,t,j,r⟩,_⟩:=id I.loc;let⟨v,k⟩:=u.any j I.free ∅;exact I.step (g':=s.gens) (d':=s.drawn) (ch:=[]) (λ_ z=>nomatch z) (λb o _ g _ e n=>u.keep b o e n g ∅) (λb o _ g _ e n=>u.slot b o e n g ∅) (λb o _ e n=>u.free b o e n ∅) (λb o _ e=>u.there b o e ∅) u.SQ u.So u.SR (λx l=>by
  let⟨y,h,i,a,p⟩:=l;rw[j]at a;cases a;exact⟨_,h,i,k,p⟩) f I.bare
theorem Inv.call(I:Inv X J4 σ H s)(u:Un (JJ X.stack) ch H H' s.heap h')(h:om X.prog X.w X.K H' h')(q:so g')(f:∀b∈ch,(b∈X.ex∨X.s₀.heap.objs.size<=b)/\b≠X.env.locals/\(∀x c,X.env.cells.lookup x=eH c->c≠b)/\∀p∈X.pn++J4,p.1≠b) :
  Inv X J4 σ H' {s with heap:=h',gens:=g',drawn:=d',toks:=t'}:=by
 let⟨m,⟨o,A,B,l,r⟩,_⟩:=id I.loc;let⟨C,i⟩:=u.any l I.free λz=>(f _ z).2.1 rfl;exact I.step (ch:=ch) f (λb o i t a e n=>u.keep b o e n (λz=>(cq.mp<|I.Ra b z).elim i t) a) (λb o _ _ a e n=>u.any e n a) (λb o a e n=>u.free b o e n a) (λb o a e=>u.there b o e a) u.SQ u.So u.SR (λD v=>by
  let⟨E,j,k,g,y⟩:=v;rw[l]at g;cases g;exact⟨_,j,k,i,y⟩) h q
theorem Inv.turned(I:Inv X J4 σ H s)(k:∀b o,b≠it->s.heap.get? b=eH o->h'.get? b=eH o)(h:H it=none)(g:it≠X.env.locals)(i:it∈X.ex∨X.s₀.heap.objs.size<=it)(j:∀x c,X.env.cells.lookup x=eH c->c≠it)(l:∀p∈X.pn++J4,p.1≠it):Inv X J4 σ H {s with heap:=h',toks:=t'}:=by
 have f:∀b u,H b=eH u->b≠it:=λb u e z=>by rw[z,h]at e;cases e
 refine I.step (g':=s.gens) (d':=s.drawn) (ch:=[it]) (λb t=>?_) (λb o _ _ a e _=>k b o (λz=>a (by simp[z])) e) (λb o _ _ a e _=>⟨o.slots,k b o (λz=>a (by simp[z])) e⟩) (λ_ _ _ _ n=>n)
  (λb o a e=>⟨o,k b o (λz=>a (by simp[z])) e⟩) (λ_ _ e=>e) (λ_ _ _ e=>e) (λb C e=>⟨#[],by rw[e];simp⟩) (λm w=>?_) (λb u e=>?_) I.bare
 .have e:b=it:=by simpa using t
  subst e;exact⟨i,g,j,l⟩
 .obtain⟨o,y,A,B,r⟩:=w;exact⟨o,y,A,k _ o (dA g) B,r⟩
 .refine(I.kl b u e).RI (λc v a q=>k c v ?_ q) (λ_ q=>q) λ_ _ q=>q;obtain z|z:=a
  .rw[z];exact f b u e
  .exact f c _ z
theorem Inv.tok(I:Inv X J4 σ H s)(t:Nat):Inv X J4 σ H {s with toks:=t}:=I.un (h':=s.heap) (t':=t) Un.refl I.kl
theorem Inv.kept(I:Inv X J4 σ H s)(k:∀b u,s.heap.get? b=eH u->h'.get? b=eH u):Inv X J4 σ H {s with heap:=h',toks:=t'}:=I.un (Un.kept k)<|I.kl.kept k
theorem Inv.laid(I:Inv X J4 σ H s)(k:∀b u,s.heap.get? b=eH u->h'.get? b=eH u)(e:↑s<=a)(new:bA X.prog X.w X.K (upd H a o) h' a o):
  Inv X J4 σ (upd H a o) {s with heap:=h',toks:=t'}:=I.un (Un.laid k e<|I.kl.fresh e)<|I.kl.laid k e new
theorem Inv.write(I:Inv X J4 σ H s)(f:Pg<|H x)(g:e=x∨H e=eH (.own x))(k:∀b u,b≠e->s.heap.get? b=eH u->h'.get? b=eH u)(a:∃u,h'.get? e=eH u)(new:bA X.prog X.w X.K (upd H x o) h' x o):Inv X J4 σ (upd H x o) {s with heap:=h',toks:=t'}:=I.un (Un.write f g k a)<|I.kl.write f g k a new
theorem Inv.weak(I:Inv X J4 σ H s)(e:σ'.length=σ.length)(w:∀(i:Nat) v,σ'[i]?=eH (eH v)->σ[i]?=eH (eH v)):Inv X J4 σ' H s :=
 ⟨I.ok,I.os,I.bare,I.base,let⟨m,f,a⟩:=I.loc;⟨m,f,λi x v g h j=>a i x v g (w i v h) j⟩,I.cell,I.free,I.P7,I.pin,I.kl,e.trans I.len⟩
theorem Inv.SK(I:Inv X J4 σ H s)(h:∀p∈a,s.heap.get? p.1=eH p.2/\H p.1=none/\p.1≠X.env.locals/\p.1∉X.fs/\∀v,p.2.data≠.cell v):Inv X a σ H s :=
 ⟨I.ok,I.os,I.bare,I.base,I.loc,I.cell,I.free,I.P7,λp e=>(bt.mp e).elim (λz=>I.pin p<|cE _ z)<|h p,I.kl,I.len⟩
theorem DP{N:Zb}(e:N.Nodup){i j:Nat}{x:Ws}(a:N[i]?=eH x)(b:N[j]?=eH x):i=j:=by
 let⟨h,f⟩:=bY.mp a;let⟨k,g⟩:=bY.mp b;exact(List.getElem_inj e).mp<|f.trans g.symm
theorem z7(I:Inv X J4 σ H s)(hN:X.N.Nodup)(hi:X.N[i]?=eH x)(hx:Loc X.env.scope x)(r:RelV v u)(h:∀s',Inv X J4 (σ.set i<|some v) H s'->(∃a,fB a s.heap s'.heap/\(a=X.env.locals∨X.env.cells.lookup x=eH a))->Q () s')(hf:X.fn x=true∨X.env.scope.names.lookup x=eH .local:=by first|exact .inl rfl|exact .inr rfl|assumption):wpAny M A (storeName X.env x u) Q E s:=by
 let⟨m,hn,hl⟩:=id I.loc;have G:(X.env.scope.kind==.class || (X.env.scope.kind==.module && X.env.locals != X.env.globals))=false:=by rw[I.ok.kind];rfl
 have hiσ:i<σ.length:=by rw[I.len];exact(bY.mp hi).1
 have Uj:=I.Uj;have tracked:∀{a:Wk}{h':Wq},(∃o,s.heap.get? a=eH o/\H a=none)->fB a s.heap h'->om X.prog X.w X.K H h':=fun{a h'} ha f b ob e=>by
  let⟨_,_,l⟩:=ha;refine(I.kl b ob e).RI (λc U hc q=>(f.2 c ?_).trans q) (λ_ q=>q) λ_ _ q=>q;rintro rfl;obtain rfl|hc:=hc
  .rw[l]at e;cases e
  .rw[l]at hc;cases hc
 obtain hk|hk:=hx
 .refine wpAny_storeName_local hk hn (λh' al f=>?_) G;let⟨oL,_,_,an,_⟩:=id hn;refine h _ ⟨I.ok,I.os,I.bare,⟨λb o e n B hx=>?_,λb o e n B hx=>?_,I.base.free,λb o e hx=>?_,I.base.SQ,I.base.So,I.base.SR⟩,⟨_,al,λj y v' g t e3=>?_⟩,λy c e=>?_,I.free,I.P7,λp hp=>?_,tracked ⟨oL,an,I.free⟩ f,by simpa using I.len⟩ ⟨_,f,.inl rfl⟩
  .exact(f.2 b<|cr<|eK (aJ e) I.ok.above).trans<|I.base.keep b o e n B hx
  .obtain⟨sl,g⟩:=I.base.slot b o e n B hx;exact⟨sl,(f.2 b<|cr<|eK (aJ e) I.ok.above).trans g⟩
  .obtain⟨o',g⟩:=I.base.there b o e hx;exact⟨o',(f.2 b<|cr<|eK (aJ e) I.ok.above).trans g⟩
  .by_cases C:j=i
   .subst C;rw[hi]at g;cases g;rw[List.getElem?_set_self hiσ]at t;cases t;exact⟨u,r,.inl ⟨hk,by simp⟩⟩
   .rw[List.getElem?_set_ne<|dA C]at t;let⟨u',r',q⟩:=hl j y v' g t e3;apply⟨u',r',?_⟩;obtain⟨k,e⟩|⟨k,c,e,z⟩:=q
    .refine .inl ⟨k,?_⟩;have:y≠x:=λe=>C<|DP hN g<|e▸hi;simp[this,e]
    .exact .inr ⟨k,c,e,z.sameBut f<|Uj y c e⟩
  .obtain⟨U,z⟩:=I.cell y c e;exact⟨U,z.sameBut f<|Uj y c e⟩
  .obtain⟨e,n,ne,nf,d⟩:=I.pin p hp;exact⟨(f.2 p.1 ne).trans e,n,ne,nf,d⟩
 .have D:X.fn x=true:=by
   obtain z|z:=hf
   .exact z
   .rw[z]at hk;cases hk
  let⟨c,hc⟩:=I.ok.has x<|.inl hk;let⟨U,z⟩:=I.cell x c hc;refine wpAny_storeName_cell I.ok.kind hk hc z<|λh' J f=>?_;let⟨oc,L,O⟩:=id z;refine h {s with heap:=h'} ⟨I.ok,I.os,I.bare,⟨λb o e n B hx=>?_,λb o e n B hx=>?_,I.base.free,λb o e hx=>?_,I.base.SQ,I.base.So,I.base.SR⟩,⟨m,hn.sameBut f<|dA<|Uj x c hc,λj y v' g t e3=>?_⟩,λy Y e=>?_,I.free,I.P7,λp hp=>?_,tracked ⟨oc,L,I.P7 x c hc⟩ f,by simpa using I.len⟩ ⟨c,f,.inr hc⟩
  .exact(f.2 b<|cr<|eK (aJ e)<|I.ok.Um x c D hc).trans<|I.base.keep b o e n B hx
  .obtain⟨sl,g⟩:=I.base.slot b o e n B hx;exact⟨sl,(f.2 b<|cr<|eK (aJ e)<|I.ok.Um x c D hc).trans g⟩
  .obtain⟨o',g⟩:=I.base.there b o e hx;exact⟨o',(f.2 b<|cr<|eK (aJ e)<|I.ok.Um x c D hc).trans g⟩
  .by_cases C:j=i
   .subst C;rw[hi]at g;cases g;rw[List.getElem?_set_self hiσ]at t;cases t;exact⟨u,r,.inr ⟨.inl hk,c,hc,J⟩⟩
   .rw[List.getElem?_set_ne<|dA C]at t;let⟨u',r',q⟩:=hl j y v' g t e3;apply⟨u',r',?_⟩;obtain q|⟨k,Y,e,z'⟩:=q
    .exact .inl q
    .refine .inr ⟨k,Y,e,z'.sameBut f ?_⟩;rintro rfl;exact C<|DP hN g<|I.ok.inj _ _ _ e hc▸hi
  .by_cases T:Y=c
   .subst T;exact⟨_,J⟩
   .obtain⟨w2,z2⟩:=I.cell y Y e;exact⟨w2,z2.sameBut f T⟩
  .obtain⟨e,n,ne,nf,d⟩:=I.pin p hp;apply⟨(f.2 p.1 ?_).trans e,n,ne,nf,d⟩;intro q;rw[q,L]at e;have q':oc=p.2:=gp e;exact d U (by rw[<-q'];exact O)
theorem Du(I:Inv X J4 σ H s)(e:X.N.Nodup)(hi:X.N[i]?=eH x)(hx:Loc X.env.scope x)(r:RelV v u)(h:∀a,Inv X J4 (σ.set i<|some v) H a->Q () a)(hf:X.fn x=true∨X.env.scope.names.lookup x=eH .local:=by first|exact .inl rfl|exact .inr rfl|assumption):wpAny M A (storeName X.env x u) Q E s :=
 z7 I e hi hx r (λa f _=>h a f) hf
theorem Inv.UD(I:Inv X J4 σ H s)(i:a.os=s.os)(u:Un (JJ X.stack) h H H' s.heap a.heap)(f:om X.prog X.w X.K H' a.heap)(j:so a.gens)(g:∀b∈h,(b∈X.ex∨X.s₀.heap.objs.size<=b)/\b≠X.env.locals/\(∀x c,X.env.cells.lookup x=eH c->c≠b)/\∀p∈X.pn++J4,p.1≠b):Inv X J4 σ H' a:=by
 let⟨h',k,l,t',m⟩:=a;have e:m=s.os:=i;subst e;exact I.call (g':=k) (t':=t') (d':=l) u f j g
end
abbrev XK:=Wm->Option Wk->Hp->Prop
abbrev St:=List<|Option V
abbrev VK:=V->Hp->Prop
abbrev TE:=St->Hp->VK->Prop
abbrev TT:=St->Hp->(Bool->Hp->Prop)->Prop
abbrev TA:=St->Hp->(List V->Hp->Prop)->Prop
structure mQ where
 nx:St->Hp->Prop
 rt:VK
 bk:St->Hp->Prop:=λ_ _=>False
 ct:St->Hp->Prop:=λ_ _=>False
abbrev bT(Q:VK):mQ:={ nx:=λ_ H=>Q .zr H,rt:=Q}
abbrev TS:=mQ->St->Hp->Prop
def EP(X:Cx)(J4:Zd)(σ:St)(Q:VK)(u:Wm)(s':Wl):Prop:=∃v H',Inv X J4 σ H' s'/\RelV v u/\Q v H'
def TP(X:Cx)(J4:Zd)(σ:St)(Q:Bool->Hp->Prop)(b:Bool)(s':Wl):Prop:=∃H',Inv X J4 σ H' s'/\Q b H'
def AP(X:Cx)(J4:Zd)(σ:St)(Q:List V->Hp->Prop)(us:Zf)(s':Wl):Prop:=∃vs H',Inv X J4 σ H' s'/\bG vs us/\Q vs H'
def SP(X:Cx)(J4:Zd)(D:mQ)(f:Flow)(s':Wl):Prop :=
 match f with
 |.next=>∃σ' H',Inv X J4 σ' H' s'/\D.nx σ' H'
 |.brk=>∃σ' H',Inv X J4 σ' H' s'/\D.bk σ' H'
 |.cont=>∃σ' H',Inv X J4 σ' H' s'/\D.ct σ' H'
 |.ret u=>∃v σ' H',Inv X J4 σ' H' s'/\RelV v u/\D.rt v H'
def PE(X:Cx)(e:Wr)(t:TE):Prop :=
 ∀(J4:Zd) (s:Wl) (σ:St) (H:Hp) (Q:VK),Inv X J4 σ H s->t σ H Q->wpAny (model X.prog X.w) X.A (eval e X.env) (EP X J4 σ Q) X.xe s
def PT(X:Cx)(e:Wr)(t:TT):Prop :=
 ∀(J4:Zd) (s:Wl) (σ:St) (H:Hp) (Q:Bool->Hp->Prop),Inv X J4 σ H s->t σ H Q->wpAny (model X.prog X.w) X.A (isTrue e X.env<|eval e X.env) (TP X J4 σ Q) X.xe s
def PW(X:Cx)(e:Wr)(t:TT):Prop :=
 ∀(whole:Sem Wm) (J4:Zd) (s:Wl) (σ:St) (H:Hp) (Q:Bool->Hp->Prop),Inv X J4 σ H s->t σ H Q->wpAny (model X.prog X.w) X.A (isTrue e X.env whole) (TP X J4 σ Q) X.xe s
theorem PW.pt(h:PW X e t):PT X e t:=h _
def PA(X:Cx)(es:List Wr)(t:TA):Prop :=
 ∀(pos:Pos) (J4:Zd) (s:Wl) (σ:St) (H:Hp) (Q:List V->Hp->Prop),Inv X J4 σ H s->t σ H Q->wpAny (model X.prog X.w) X.A (wF<|backTo pos<|aR es X.env) (AP X J4 σ Q) X.xe s
def PS(X:Cx)(st:Stmt)(t:TS):Prop :=
 ∀(J4:Zd) (s:Wl) (σ:St) (H:Hp) (D:mQ),Inv X J4 σ H s->t D σ H->wpAny (model X.prog X.w) X.A (exec st X.env) (SP X J4 D) X.xe s
def EQ(X:Cx)(st:List Stmt)(t:TS):Prop :=
 ∀(J4:Zd) (s:Wl) (σ:St) (H:Hp) (D:mQ),Inv X J4 σ H s->t D σ H->wpAny (model X.prog X.w) X.A (execs st X.env) (SP X J4 D) X.xe s
theorem c7(h:wpAny M A t Q E s)(f:∀a s,Q a s->e a s):wpAny M A t e E s:=sr h f λ_ _ x=>x
end L2
namespace L2
open PySem Spec PyProof.Rows
section
variable{X:Cx}
def rm(i:Nat):TE:=fun σ H Q=>∃v,σ[i]?=eH (eH v)/\Q v H
abbrev V0:TE:=rm 0
abbrev V1:TE:=rm 1
abbrev V2:TE:=rm 2
abbrev V3:TE:=rm 3
abbrev V4:TE:=rm 4
abbrev V5:TE:=rm 5
abbrev V6:TE:=rm 6
abbrev V7:TE:=rm 7
abbrev V8:TE:=rm 8
abbrev V9:TE:=rm 9
abbrev Gp:TE:=rm 10
abbrev ED:TE:=rm 11
abbrev Vo:TE:=rm 12
def tC(v:V):TE:=λ_ H Q=>Q v H
theorem Oh(o:X.N[i]?=eH x)(p:Vn X.env.scope x)(j:(x==("__debug__":Ws))=false:=by decide)(k:(x==("__classdict__":Ws))=false:=by decide):PE X (.Name x g) (rm i):=by
 intro J4 s σ H Q I h;let⟨v,e,h⟩:=h;let⟨m,q,t⟩:=I.loc;let⟨u,r,l⟩:=t i x v o e p;have f:EP X J4 σ Q u s:=⟨v,H,I,r,h⟩;obtain⟨hk,w⟩|⟨hk,c,n,a⟩:=l
 .exact wpAny_Name (wpAny_loadName_local I.ok.kind hk q w f) j
 .obtain hk|hk:=hk
  .exact wpAny_Name (wpAny_loadName_cell I.ok.kind hk n a f) j
  .exact wpAny_Name (wpAny_loadName_free I.ok.kind hk n a f k) j
theorem aj{i j a}:PE X (.Constant (.int i) j a) (tC<|.int i):=λ_ _ _ H _ I h=>wpAny_Constant_int ⟨.int i,H,I.tok _,⟨_,fj⟩,h⟩
theorem jP{b j a}:PE X (.Constant (.bool b) j a) (tC<|.bl b):=λ_ _ _ H _ I h=>Constant_bool ⟨.bl b,H,I,fj,h⟩
theorem B1{j a}:PE X (.Constant .none j a) (tC .zr):=λ_ _ _ H _ I h=>Constant_none ⟨.zr,H,I,fj,h⟩
theorem cC{x j a}:PE X (.Constant (.str x) j a) (tC<|.str x):=λ_ _ _ H _ I h=>Calls.Constant_str ⟨.str x,H,I.tok _,⟨_,fj⟩,h⟩
def Gl(X:Cx)(x:Ws):Prop:=X.env.kindOf x=eH .globalImplicit
theorem Cb(I:Inv X e σ H s)(f:Gl X x)(g:X.mg x=eH u)(h:Q u s)(i:(x==("__debug__":Ws))=false:=by decide):wpAny (model X.prog X.w) X.A (eval (.Name x a) X.env) Q E s :=
 Calls.Name_function_global I.ok.kind f (Calls.loadGlobal_global (by rw[I.ok.glob];exact I.mod.glob.keeps I.bk) g h) i
theorem kG(I:Inv X e σ H s)(f:Gl X x)(g:X.mg x=none)(i:kR x=eH u)(h:Q u s)(j:x≠"__name__":=by decide)(k:(x==("__debug__":Ws))=false:=by decide):wpAny (model X.prog X.w) X.A (eval (.Name x a) X.env) Q E s:=by
 let⟨n,l,m⟩:=I.mod.blt;exact Calls.Name_function_global I.ok.kind f (Calls.loadGlobal_builtin (by rw[I.ok.glob];exact I.mod.glob.keeps I.bk) g (by rw[I.ok.blt];exact l.keeps I.bk) ((m x j).trans i) h) k
theorem MZ(e:Gl X x)(f:X.mg x=eH u)(r:RelV v u)(g:(x==("__debug__":Ws))=false:=by decide):PE X (.Name x a) (tC v) :=
 λ_ _ _ H _ I h=>Cb I e f ⟨v,H,I,r,h⟩ g
theorem tF(e:Gl X x)(f:X.mg x=none)(g:kR x=eH u)(r:RelV v u)(i:x≠"__name__":=by decide)(j:(x==("__debug__":Ws))=false:=by decide):PE X (.Name x a) (tC v) :=
 λ_ _ _ H _ I h=>kG I e f g ⟨v,H,I,r,h⟩ i j
variable{a b:Wr}{ta tb:TE}{pos:Pos}
def PC(X:Cx)(op:CmpOp)(a b:Wr)(t:TE):Prop :=
 ∀(J4:Zd) (s:Wl) (σ:St) (H:Hp) (Q:VK),Inv X J4 σ H s->t σ H Q ->
  wpAny (model X.prog X.w) X.A (eval a X.env) (λv s₁=>wpAny (model X.prog X.w) X.A (eval b X.env) (λu s₂=>wpAny (model X.prog X.w) X.A (gm op v u) (EP X J4 σ Q) X.xe s₂) X.xe s₁) X.xe s
theorem DQ(b:Wr)(h:e≠.In)(f:e≠.NotIn):nS e b=false:=by
 have g:(e==CmpOp.In)=false:=by cases e<;>first|rfl|exact absurd rfl h
 have i:(e==CmpOp.NotIn)=false:=by cases e<;>first|rfl|exact absurd rfl f
 cases b<;>simp[nS,g,i]
def Mq(ta:TE):TE:=fun σ H Q=>ta σ H λx H1=>Q (.bl<|decide (x=.zr)) H1
def NJ(ta:TE):TE:=fun σ H Q=>ta σ H λx H1=>Q (.bl (!decide (x=.zr))) H1
theorem RelV.R3(r:RelV x v):(v==Value.none)=decide (x=.zr):=by
 cases x with
 |zr=>cases r;rfl
 |bl _=>cases r;rfl
 |int _=>let⟨t,rfl⟩:=r;rfl
 |str _=>let⟨t,rfl⟩:=r;rfl
 |Tf _=>let⟨t,rfl⟩:=r;rfl
 |TZ _=>let⟨t,rfl⟩:=r;rfl
 |ref _=>cases r;rfl
 |ty _=>cases r;rfl
theorem FM{j e}(g:PE X a ta):PC X .Is a (.Constant .none j e) (Mq ta):=by
 intro i s σ H Q I h;refine c7 (g i s σ H _ I h) λv o f=>?_;let⟨x,k,l,m,n⟩:=f;exact Constant_none (is_none_gen ⟨.bl _,k,l,by rw[m.R3];rfl,n⟩)
theorem M7{j e}(g:PE X a ta):PC X .IsNot a (.Constant .none j e) (NJ ta):=by
 intro i s σ H Q I h;refine c7 (g i s σ H _ I h) λv o f=>?_;let⟨x,k,l,m,n⟩:=f;exact Constant_none (isnot_none_gen ⟨.bl _,k,l,by rw[m.R3];rfl,n⟩)
def tB(t:TE):TT:=fun σ H Q=>t σ H λx H1=>∃c,x=.bl c/\Q c H1
theorem K1(h:PC X e a b t)(f:nS e b=false:=by first|exact DQ _ Wt Wt|rfl):PE X (.Compare a [e] [b] pos) t:=λg s σ H Q I i=>wpAny_Compare1 (h g s σ H Q I i) f
theorem iR(h:PC X e a b t)(f:nS e b=false:=by first|exact DQ _ Wt Wt|rfl):PT X (.Compare a [e] [b] pos) (tB t):=by
 intro i s σ H Q I j;refine wpAny_isTrue_Compare1 (c7 (h i s σ H _ I j) λv p f=>c7 f λu r k=>c7 k λc w g=>?_) f;let⟨x,l,m,n,o⟩:=g;let⟨d,rfl,q⟩:=o;cases n;exact vj ⟨l,m,q⟩
theorem e_(h:PE X e t)(g:∀whole,isTrue e X.env whole=(do let v <- whole;vh e.pos;nR [v] (truthy v)):=by intro _;rfl):PT X e (tB t):=by
 intro i s σ H Q I j;refine isTrue_plain (c7 (h i s σ H _ I j) λv o f=>?_)<|g _;let⟨x,k,l,m,n⟩:=f;let⟨d,rfl,q⟩:=n;cases m;exact vj ⟨k,l,q⟩
variable{tA UJ:TT}{rest:List Wr}
def uN(t u:TT):TT:=fun σ H Q=>t σ H λc H1=>if c=true then u σ H1 Q else Q false H1
def C3(t u:TT):TT:=fun σ H Q=>t σ H λc H1=>if c=true then Q true H1 else u σ H1 Q
def oN(t:TT):TT:=fun σ H Q=>t σ H λc H1=>Q (!c) H1
theorem k6(f:PT X a tA):PW X (.BoolOp .And [a] pos) tA:=by
 intro i g s σ H Q I h;refine isTrue_and<|c7 (f g s σ H Q I h) λc j e=>?_;cases c with
 |true=>exact isTrue_and_nil e
 |false=>exact e
theorem l9(f:PT X a tA):PW X (.BoolOp .Or [a] pos) tA:=by
 intro i g s σ H Q I h;refine isTrue_or<|c7 (f g s σ H Q I h) λc j e=>?_;cases c with
 |false=>exact isTrue_or_nil e
 |true=>exact e
theorem l_(k:PT X a tA)(l:PW X (.BoolOp .And (b::rest) pos) UJ):PW X (.BoolOp .And (a::b::rest) pos) (uN tA UJ):=by
 intro m f s σ H Q I h;refine isTrue_and<|c7 (k f s σ H _ I h) λc n e=>?_;let⟨g,i,j⟩:=e;cases c with
 |true=>exact l m f n σ g Q i j
 |false=>exact⟨g,i,j⟩
theorem mD(k:PT X a tA)(l:PW X (.BoolOp .Or (b::rest) pos) UJ):PW X (.BoolOp .Or (a::b::rest) pos) (C3 tA UJ):=by
 intro m f s σ H Q I h;refine isTrue_or<|c7 (k f s σ H _ I h) λc n e=>?_;let⟨g,i,j⟩:=e;cases c with
 |true=>exact⟨g,i,j⟩
 |false=>exact l m f n σ g Q i j
theorem kC(e:PT X a tA):PT X (.UnaryOp .Not a pos) (oN tA):=by
 intro f s σ H Q I h;exact isTrue_not<|e f s σ H (λc g=>Q (!c) g) I h
def vk(ta tb:TE):TE:=fun σ H Q=>ta σ H λx H1=>∃c,x=.bl c/\if c=true then tb σ H1 Q else Q (.bl false) H1
def NI(ta:TE):TE:=fun σ H Q=>ta σ H λx H1=>∃c,x=.bl c/\Q (.bl (!c)) H1
theorem xM{e}(h:PE X a t):PE X (.BoolOp e [a] pos) t:=λf s σ H Q I g=>BoolOp_one<|h f s σ H Q I g
theorem rE(k:PE X a ta)(l:PE X (.BoolOp .And (b::rest) pos) tb):PE X (.BoolOp .And (a::b::rest) pos) (vk ta tb):=by
 intro g s σ H Q I h;refine BoolOp_and<|c7 (k g s σ H _ I h) λv m f=>?_;let⟨x,i,j,n,e⟩:=f;let⟨c,rfl,e⟩:=e;cases n;refine vj ?_;cases c with
 |true=>exact l g m σ i Q j e
 |false=>exact⟨.bl false,i,j,fj,e⟩
theorem Oi(g:PE X a ta):PE X (.UnaryOp .Not a pos) (NI ta):=by
 intro i s σ H Q I h;refine UnaryOp_<|c7 (g i s σ H _ I h) λv m e=>?_;let⟨x,j,k,l,f⟩:=e;let⟨c,rfl,f⟩:=f;cases l;exact not_of<|vj ⟨.bl (!c),j,k,fj,f⟩
def Vw(t:TT)(ta tb:TE):TE:=fun σ H Q=>t σ H λc H1=>if c=true then ta σ H1 Q else tb σ H1 Q
theorem K0(l:PT X c tA)(m:PE X a ta)(n:PE X b tb):PE X (.IfExp c a b pos) (Vw tA ta tb):=by
 intro e s σ H Q I h;refine wpAny_IfExp<|c7 (l e s σ H _ I h) λd g f=>?_;let⟨i,j,k⟩:=f;cases d with
 |true=>exact m e g σ i Q j k
 |false=>exact n e g σ i Q j k
end
end L2
namespace L2
open PySem Spec PyProof.Rows
def az(K:Za)(H:Hp)(a:Wk)(xs:List V):Prop :=
 Rd H a (.lst xs) ∨
  ∃(o:Obj) (R5:Array Wm) (n:Nat),K.lookup a=eH o/\o.cls=.type "list"/\o.dict=none/\o.data=.seq R5 n/\R5.size<=ak/\bG xs R5.toList
def bE(K:Za)(H:Hp)(a:Wk)(xs:List V):Prop :=
 Rd H a (.tup xs) ∨
  ∃(o:Obj) (R5:Array Wm) (n:Nat),K.lookup a=eH o/\o.cls=.type "tuple"/\o.data=.seq R5 n/\R5.size<=ak/\bG xs R5.toList
def Vm:Wm->Option V
 |.none=>eH .zr
 |.bool b=>eH<|.bl b
 |.int i _=>eH<|.int i
 |.str x _=>eH<|.str x
 |.bytes b _=>eH<|.Tf b
 |.float b _=>eH<|.TZ b
 |.ref a=>eH<|.ref a
 |.type n=>eH<|.ty n
 |_=>none
theorem RelV.abs(r:RelV x u):Vm u=eH x:=by
 cases x with
 |zr=>cases r;rfl
 |bl _=>cases r;rfl
 |int _=>let⟨t,rfl⟩:=r;rfl
 |str _=>let⟨t,rfl⟩:=r;rfl
 |Tf _=>let⟨t,rfl⟩:=r;rfl
 |TZ _=>let⟨t,rfl⟩:=r;rfl
 |ref _=>cases r;rfl
 |ty _=>cases r;rfl
theorem RelV.inj(r:RelV x u)(q:RelV y u):x=y:=gp<|r.abs.symm.trans q.abs
theorem bG.inj(h:bG e f)(g:bG a f):e=a:=by
 induction h generalizing a with
 |nil=>cases g;rfl
 |cons r _ i =>
  cases g with
  |cons j k=>rw[r.inj j,i k]
section
variable{X:Cx}{J4:Zd}{σ:St}{H:Hp}{s:Wl}{a:Wk}{xs ys:List V}
theorem az.of{K:Za}(h:H a=eH (.lst xs)):az K H a xs:=.inl<|.inl h
theorem bE.of{K:Za}(h:H a=eH (.tup xs)):bE K H a xs:=.inl<|.inl h
theorem Inv.list(I:Inv X J4 σ H s)(h:az X.K H a xs):∃f:List Wm,bG xs f/\PlainL s.heap a f.toArray/\xs.length<=ak:=by
 obtain h|⟨o,f,n,g,i,j,k,l,r⟩:=h
 .obtain⟨z,f,n,r,e⟩:=h.ok I.kl;exact⟨f,r,⟨_,n,e,fj,fj,fj⟩,z⟩
 .refine⟨f.toList,r,⟨o,n,I.O' a o g,i,j,by simpa using k⟩,?_⟩;have e:=r.length;simp only[nQ]at e;nofun
theorem Inv.tuple(I:Inv X J4 σ H s)(h:bE X.K H a xs):∃f:List Wm,bG xs f/\IsTup s.heap a f.toArray/\xs.length<=ak:=by
 obtain h|⟨o,f,n,g,i,j,k,r⟩:=h
 .obtain⟨z,f,r,p⟩:=h.ok I.kl;exact⟨f,r,p,z⟩
 .refine⟨f.toList,r,⟨o,I.O' a o g,i,n,by simpa using j⟩,?_⟩;have e:=r.length;simp only[nQ]at e;nofun
theorem Inv.QE(I:Inv X J4 σ H s)(h:az X.K H a xs)(k:az X.K H a ys):xs=ys:=by
 let⟨g,r,⟨o,n,e,_,_,d⟩,_⟩:=I.list h;let⟨f,l,⟨p,q,i,_,_,j⟩,_⟩:=I.list k;rw[e]at i;cases i;rw[d]at j;injection j with m _;have:g=f:=by simpa using congrArg Array.toList m
 subst this;exact r.inj l
theorem Inv.QH(I:Inv X J4 σ H s)(h:bE X.K H a xs)(k:bE X.K H a ys):xs=ys:=by
 let⟨g,r,⟨o,e,_,n,d⟩,_⟩:=I.tuple h;let⟨f,l,⟨p,i,_,q,j⟩,_⟩:=I.tuple k;rw[e]at i;cases i;rw[d]at j;injection j with m _;have:g=f:=by simpa using congrArg Array.toList m
 subst this;exact r.inj l
end
abbrev Cx.Rt(X:Cx)(E:Zc):Cx:={X with xe:=E}
abbrev Cx.Tz(X:Cx):Cx:=X.Rt λ_ _=>False
theorem Cx.Ok.Rt{X:Cx}(ok:X.Ok)(E:Zc):(X.Rt E).Ok :=
 ⟨ok.mod,ok.kind,ok.glob,ok.blt,ok.above,ok.inj,ok.has,ok.Um,ok.hd,ok.frames,ok.Us,ok.Vh,ok.bs,ok.TR,ok.SX,ok.Tt,ok.QK,ok.TY⟩
theorem Cx.Ok.PV{X:Cx}(ok:(X.Rt E).Ok):X.Ok :=
 ⟨ok.mod,ok.kind,ok.glob,ok.blt,ok.above,ok.inj,ok.has,ok.Um,ok.hd,ok.frames,ok.Us,ok.Vh,ok.bs,ok.TR,ok.SX,ok.Tt,ok.QK,ok.TY⟩
section
variable{X:Cx}{J4:Zd}{σ:St}{H:Hp}{s:Wl}{E:Zc}
theorem Inv.Rt(I:Inv X J4 σ H s)(E:Zc):Inv (X.Rt E) J4 σ H s:=⟨I.ok.Rt E,I.os,I.bare,I.base,I.loc,I.cell,I.free,I.P7,I.pin,I.kl,I.len⟩
theorem Inv.PV(I:Inv (X.Rt E) J4 σ H s):Inv X J4 σ H s:=⟨I.ok.PV,I.os,I.bare,I.base,I.loc,I.cell,I.free,I.P7,I.pin,I.kl,I.len⟩
theorem SP.PV(h:SP (X.Rt E) J4 D f e):SP X J4 D f e:=by
 cases f with
 |next=>obtain⟨σ',a,I,q⟩:=h;exact⟨σ',a,I.PV,q⟩
 |brk=>obtain⟨σ',a,I,q⟩:=h;exact⟨σ',a,I.PV,q⟩
 |cont=>obtain⟨σ',a,I,q⟩:=h;exact⟨σ',a,I.PV,q⟩
 |ret u=>obtain⟨v,σ',a,I,r,q⟩:=h;exact⟨v,σ',a,I.PV,r,q⟩
theorem EQ.Tz{st:List Stmt}{t:TS}(h:EQ X.Tz st t):EQ X st t:=λJ4 s σ H D I a =>
 sr (h J4 s σ H D (I.Rt _) a) (λ_ _ q=>q.PV) λ_ _ z=>mq z
end
section
variable{X:Cx}{st:Stmt}{rest:List Stmt}{t u:TS}{e:Wr}{te:TE}{pos:Pos}
def bC:TS:=λD σ H=>D.nx σ H
def aq(t u:TS):TS:=λD σ H=>t {D with nx:=u D} σ H
theorem aP:EQ X [] bC:=λ_ _ σ H _ I h=>GU ⟨σ,H,I,h⟩
theorem ac(g:PS X st t)(i:EQ X rest u):EQ X (st::rest) (aq t u):=by
 intro a s σ H D I h;refine wpAny_execs_cons<|c7 (g a s σ H {D with nx:=u D} I h) λf j q=>?_;cases f with
 |next =>
  obtain⟨σ',k,l,q⟩:=q;exact i a j σ' k D l q
 |ret v=>exact q
 |brk=>exact q
 |cont=>exact q
theorem af(a:PS X st t):EQ X [st] t:=by
 intro g s σ H D I h;refine wpAny_execs_cons<|c7 (a g s σ H D I h) λf i q=>?_;cases f with
 |next=>exact GU q
 |ret v=>exact q
 |brk=>exact q
 |cont=>exact q
theorem Inv.quiet(I:Inv X a σ H s):interactive X.env=false:=by simp[interactive,I.ok.kind]
def cY(te:TE):TS:=λD σ H=>te σ H λ_ H1=>D.nx σ H1
theorem bB(a:PE X e te)(f:vg e none pos.line X.env=pure false:=by rfl):PS X (.Expr e pos) (cY te):=by
 intro g s σ H D I h;exact wpAny_Expr_any (c7 (a g s σ H _ I h) λv l ⟨x,i,j,m,k⟩=>⟨σ,i,j,k⟩) I.quiet f
def bo(te:TE):TS:=λD σ H=>te σ H D.rt
theorem aw(a:PE X e te):PS X (.Return (eH e) pos) (bo te):=by
 intro f s σ H D I h;exact wpAny_Return_some<|c7 (a f s σ H _ I h) λv l ⟨x,g,i,j,k⟩=>⟨x,σ,g,i,j,k⟩
def cV(c:TT)(t u:TS):TS:=λD σ H=>c σ H λb H1=>if b=true then t D σ H1 else u D σ H1
theorem bX(n:PT X c i)(o:EQ X a t)(p:EQ X b u):PS X (.If c a b pos) (cV i t u):=by
 intro f s σ H D I h;refine wpAny_If<|c7 (n f s σ H _ I h) λd j g=>?_;let⟨k,l,m⟩:=g;cases d with
 |true=>exact o f j σ k D l m
 |false=>exact p f j σ k D l m
def oO:TS:=λ_ _ _=>False
theorem kD:PS X st oO:=λ_ _ _ _ _ _ h=>h.elim
end
abbrev TG:=V->St->Hp->(St->Hp->Prop)->Prop
abbrev HR:=List V->St->Hp->(St->Hp->Prop)->Prop
def PG(X:Cx)(target:Wr)(t:TG):Prop :=
 ∀(J4:Zd) (s:Wl) (σ:St) (H:Hp) (v:V) (u:Wm) (Q:St->Hp->Prop),Inv X J4 σ H s->RelV v u->t v σ H Q ->
  wpAny (model X.prog X.w) X.A (assign target X.env u) (λ_ s'=>∃σ' H',Inv X J4 σ' H' s'/\Q σ' H') X.xe s
def Pf(X:Cx)(ts:List Wr)(t:HR):Prop :=
 ∀(J4:Zd) (s:Wl) (σ:St) (H:Hp) (vs:List V) (us:Zf) (Q:St->Hp->Prop),Inv X J4 σ H s->bG vs us->t vs σ H Q ->
  wpAny (model X.prog X.w) X.A (assignInOrder ((vf ts X.env).map (·.2)) us) (λ_ s'=>∃σ' H',Inv X J4 σ' H' s'/\Q σ' H') X.xe s
abbrev OH:=V->V->V->Hp->(Hp->Prop)->Prop
def Pd(X:Cx)(t:OH):Prop :=
 ∀(J4:Zd) (s:Wl) (σ:St) (H:Hp) (o i v:V) (ov iv u:Wm) (Q:Hp->Prop),Inv X J4 σ H s->RelV o ov->RelV i iv->RelV v u->t o i v H Q ->
  wpAny (model X.prog X.w) X.A (setItem ov iv u) (λ_ s'=>∃H',Inv X J4 σ H' s'/\Q H') X.xe s
section
variable{X:Cx}{pos:Pos}
def eX(i:Nat):TG:=λv σ H Q=>Q (σ.set i<|some v) H
abbrev U0:TG:=eX 0
abbrev U1:TG:=eX 1
abbrev U2:TG:=eX 2
abbrev U3:TG:=eX 3
abbrev U4:TG:=eX 4
abbrev U5:TG:=eX 5
abbrev U6:TG:=eX 6
abbrev U7:TG:=eX 7
abbrev U8:TG:=eX 8
abbrev U9:TG:=eX 9
abbrev OQ:TG:=eX 10
abbrev OP:TG:=eX 11
abbrev Wh:TG:=eX 12
theorem He(a:X.N.Nodup)(hi:X.N[i]?=eH x)(hx:Loc X.env.scope x)(hf:X.fn x=true∨X.env.scope.names.lookup x=eH .local:=by first|exact .inl rfl|exact .inr rfl|assumption):PG X (.Name x pos) (eX i):=by
 intro f s σ H v u Q I r h;exact wpAny_assign_Name<|Du I a hi hx r (λg e=>⟨_,H,e,h⟩) hf
def gf:HR:=λvs σ H Q=>vs=[]/\Q σ H
def aY(t:TG)(u:HR):HR:=λvs σ H Q=>∃v r,vs=v::r/\t v σ H fun σ' H'=>u r σ' H' Q
theorem cG:Pf X [] gf:=by
 intro a s σ H f g Q I r h;let⟨e,h⟩:=h;subst e;cases r;exact assignInOrder_nil ⟨σ,H,I,h⟩
theorem ay(i:PG X e t)(j:Pf X a u)(k:(vf (e::a) X.env).map (·.2)=assign e X.env::(vf a X.env).map (·.2):=by rfl):Pf X (e::a) (aY t u):=by
 intro g s σ H w x Q I r h;let⟨v,y,l,h⟩:=h;subst l;cases r with
 |cons r m =>
  rw[k];refine assignInOrder_cons<|c7 (i g s σ H _ _ _ I r h) λ_ n f=>?_;obtain⟨σ1,o,p,q⟩:=f;exact j g n σ1 o _ _ Q p m q
def gR(K:Za)(n:Nat)(t:HR):TG:=λv σ H Q=>∃a xs,v=.ref a/\bE K H a xs/\xs.length=n/\t xs σ H Q
theorem dS(m:X.calm=true)(h:Pf X f t)(p:(vf f X.env).length=n:=by rfl)(g:(vf f X.env).findIdx? (·.1)=none:=by rfl):PG X (.Tuple f k pos) (gR X.K n t):=by
 intro j s σ H v u Q I r i;let⟨a,q,w,x,y,i⟩:=i;subst w;cases r;let⟨z,l,A,D⟩:=I.tuple x;refine assign_Tuple_tuple (I.ok.hd m) A (by simp[p,<-y,l.length]) g λB hx=>?_;have C:Inv X j σ H {s with heap:=B}:=I.kept (t':=s.toks) λb o e=>hx b o (cr<|aJ e) e;exact h j _ σ H q _ Q C ‹l› i
def Jg(to ti:TE)(t:OH):TG:=λv σ H Q=>to σ H λo H1=>ti σ H1 λi H2=>t o i v H2 λH3=>Q σ H3
theorem BZ{o i:Wr}{to j:TE}{t:OH}(k:PE X o to)(hi:PE X i j)(l:Pd X t)
  (m:∀v,assign (.Subscript o i pos) X.env v=(do
   let e <- nR [v] (eval o X.env)
   let f <- nR [v,e] (eval i X.env)
   vh pos
   nR [v,e,f] (setItem e f v)
   release [v,e,f] []):=by intro _;rfl):PG X (.Subscript o i pos) (Jg to j t):=by
 intro g s σ H v u Q I r h;rw[m];refine ai<|g7<|c7 (k g s σ H _ I h) λe n a=>?_;let⟨x,p,q,w,z⟩:=a;refine ai<|g7<|c7 (hi g n σ p _ q z) λf A a=>?_;let⟨y,B,C,D,E⟩:=a;refine ai<|C8<|ai<|g7<|c7 (l g A σ B x y v e f u _ C w D r E) λ_ M a=>?_;let⟨G,J,L⟩:=a;exact wpAny_release ⟨σ,G,J,L⟩
def aU(te:TE)(g:TG):TS:=λD σ H=>te σ H λx H1=>g x σ H1 D.nx
theorem ma(j:PE X e f)(k:PG X tg g)(l:swapsWithSole [tg] e pos.line X.env=pure false:=by rfl)(m:swappedStores [tg] e X.env=pure none:=by rfl)(n:(vf [tg] X.env).map (·.2)=[assign tg X.env]:=by rfl):PS X (.Assign [tg] e pos) (aU f g):=by
 intro i s σ H D I h;refine wpAny_Assign_stores (c7 (j i s σ H _ I h) λv o a=>?_) l m;let⟨x,p,r,t,u⟩:=a;rw[n];exact c7 (k i o σ p x v _ r t u) λ_ w q=>q
theorem KQ(j:X.N.Nodup)(hi:X.N[i]?=eH x)(hx:Loc X.env.scope x)(k:PE X e g)(l:vg e (eH<|.Name x a) pos.line X.env=pure false:=by rfl)(hf:X.fn x=true∨X.env.scope.names.lookup x=eH .local:=by first|exact .inl rfl|exact .inr rfl|assumption):
  PS X (.Assign [.Name x a] e pos) (aU g<|eX i):=by
 intro m s σ H D I h;refine wpAny_Assign_Name (c7 (k m s σ H _ I h) λv t f=>?_) l;let⟨y,n,o,p,q⟩:=f;exact Du o j hi hx p (λu r=>⟨_,n,r,q⟩) hf
end
section
variable{X:Cx}{pos:Pos}
def xo(c:TT)(tb:TS):TS:=λD σ H=>∃W:Nat->St->Hp->Prop,(∃m,W m σ H)/\∀m σ H,W m σ H ->
 c σ H λb H1=>if b=true then ∃N:St->Hp->Prop,(∀σ' H',N σ' H'->∃m',m'<m/\W m' σ' H')/\tb {D with nx:=N,ct:=N,bk:=D.nx} σ H1 else D.nx σ H1
theorem tE(t:PassesOwn (model X.prog X.w) X.A X.env X.xe)(C:PT X c q)(E:EQ X a r):PS X (.While c a [] pos) (xo q r):=by
 intro J4 s σ H D I h;let⟨W,⟨G,J⟩,turn⟩:=h;refine wpAny_While<|codeAny_whileLoop (λn L=>∃σ' u,Inv X J4 σ' u L/\W n σ' u) ?_ G ⟨σ,H,I,J⟩;rintro n M ⟨σ1,x,O,Q⟩;refine wE t<|c7 (C J4 M σ1 x _ O<|turn n σ1 x Q) λb T j=>?_;let⟨y,z,g⟩:=j;cases b with
 |true =>
  let⟨N,B,g⟩:=g;rw[if_pos rfl];refine wE t<|c7 (E J4 T σ1 y _ z g) λf U i=>?_;cases f with
  |next =>
   obtain⟨σ3,e,k,l⟩:=i;let⟨m,o,p⟩:=B σ3 e l;exact⟨m,o,σ3,e,k,p⟩
  |cont =>
   obtain⟨σ3,e,k,l⟩:=i;let⟨m,o,p⟩:=B σ3 e l;exact⟨m,o,σ3,e,k,p⟩
  |brk=>exact i
  |ret v=>exact i
 |false =>
  rw[if_neg h9];exact GU ⟨σ1,y,z,g⟩
end
structure It where
 go:Nat->Hp->Prop
 Se:Nat->Hp->V->Hp->Prop
 stop:Nat->Hp->Prop
def r9(X:Cx)(J4:Zd)(H:Hp)(b:Wk):Prop :=
 H b=none/\b≠X.env.locals/\b∉X.fs/\(b∈X.ex∨X.s₀.heap.objs.size<=b)/\(∀x c,X.env.cells.lookup x=eH c->c≠b)/\∀p∈X.pn++J4,p.1≠b
theorem Inv.Ri(I:Inv X f σ H s)(a:↑s<=b)(h:g b=none):r9 X f g b:=by
 apply⟨h,eU<|eK I.lt a,I.U_ a,.inr<|bH I.sz a,λx c e z=>?_,λp i z=>?_⟩
 .obtain⟨v,q⟩:=I.cell x c e;exact absurd (eK q.lt (by rw[z];exact a))<|nU _
 .exact absurd (eK (aJ (I.pin p i).1) (by rw[z];exact a))<|nU _
structure u1(P:bR)(w:Wn)(K:Za)(tg:Wr)(J:It)(fp:Ze)(it:Wk)(tn:Nat->Wq->Prop):Prop where
 mem:it∈fp
 obj:∀i h,tn i h->∀b∈fp,∃o,h.get? b=eH o/\∀v,o.data≠.cell v
 keep:∀i h h',tn i h->(∀b∈fp,∀o,h.get? b=eH o->h'.get? b=eH o)->tn i h'
 item:∀(X:Cx),X.prog=P->X.w=w->X.K=K->X.calm=true->∀(i:Nat) (J4:Zd) (s:Wl) (σ:St) (H:Hp) (E:Zc),Inv X J4 σ H s->(∀b∈fp,r9 X J4 H b)->tn i s.heap->J.go i H ->
  wpAny (model P w) X.A (pyNext (.ref it)) (λr s1=>∃u,r=eH u /\
   wpAny (model P w) X.A (GS tg (.ref it) u) (λ_ s2=>∃x H',Inv X J4 σ H' s2/\RelV x u/\J.Se i H x H'/\tn (i+1) s2.heap/\∀b∈fp,H' b=none) E s1) E s
 done:∀(X:Cx),X.prog=P->X.w=w->X.K=K->X.calm=true->∀(i:Nat) (J4:Zd) (s:Wl) (σ:St) (H:Hp) (E:Zc),Inv X J4 σ H s->(∀b∈fp,r9 X J4 H b)->tn i s.heap->J.stop i H ->
  wpAny (model P w) X.A (pyNext (.ref it)) (λr s1=>r=none/\Inv X J4 σ H s1) E s
 self:∀(A:Wo) (i:Nat) (s:Wl) (Q:Zc) (E:Zc),tn i s.heap->Q (.ref it) s->wpAny (model P w) A (pyIter (.ref it)) Q E s
abbrev TI:=St->Hp->(It->Hp->Prop)->Prop
def Pe(X:Cx)(J4:Zd)(σ:St)(tg:Wr)(R:It->Hp->Prop)(VT:Wm)(s2:Wl):Prop :=
 ∃(it:Wk) (fp:Ze) (tn:Nat->Wq->Prop) (J:It) (H':Hp),VT=.ref it/\Inv X J4 σ H' s2/\u1 X.prog X.w X.K tg J fp it tn/\tn 0 s2.heap/\(∀b∈fp,r9 X J4 H' b)/\R J H'
def PI(X:Cx)(tg iter:Wr)(wi:TI):Prop :=
 ∀(J4:Zd) (s:Wl) (σ:St) (H:Hp) (R:It->Hp->Prop),Inv X J4 σ H s->wi σ H R ->
  wpAny (model X.prog X.w) X.A (eval iter X.env) (λv s1=>wpAny (model X.prog X.w) X.A (pyIter v) (Pe X J4 σ tg R) X.xe s1) X.xe s
theorem x_(g:s.heap.get? it=eH o)(i:o.cls=.type n)(j:o.data=.fields f)(k:["enumerate","zip","dict_itemiterator","dict_reverseitemiterator","odict_iterator","itertools.zip_longest","itertools.pairwise"].contains n=false)(a:Q () s):wpAny M A (GS e (.ref it) u) Q E s:=by
  unfold GS;cases e<;>first
    |exact ax a
    | (cases u <;> first
        |exact ax a
        | (refine ai (wpAny_load g ?_)
           rw[i,j];show wpAny M A (if(["enumerate","zip","dict_itemiterator","dict_reverseitemiterator","odict_iterator","itertools.zip_longest","itertools.pairwise"].contains n && f[0]?==eH (rawInt _))=true then _ else _) Q E s
           rw[if_neg (by intro h;rw[k,GR]at h;cases h)];exact ax a))
def HW(K:Za)(a:Wk):It :=
 ⟨λi H=>∃xs x,az K H a xs/\xs[i]?=eH x,λi H x H'=>H'=H/\∀xs,az K H a xs->xs[i]?=eH x,λi H=>∃xs,az K H a xs/\xs.length<=i⟩
def OK(K:Za)(a:Wk):It :=
 ⟨λi H=>∃xs x,bE K H a xs/\xs[i]?=eH x,λi H x H'=>H'=H/\∀xs,bE K H a xs->xs[i]?=eH x,λi H=>∃xs,bE K H a xs/\xs.length<=i⟩
def OL(lo:Int)(n:Nat):It:=⟨λi _=>i<n,λi H x H'=>H'=H/\x=.int (lo+i),λi _=>n<=i⟩
theorem zX{P:bR}{w:Wn}{K:Za}{M:Wr}(a it:Wk):u1 P w K M (HW K a) [it] it (λi h=>h.IsListIter it a i) where
 mem:=by simp
 obj:=λi h st b f=>by
  have e:b=it:=by simpa using f
  subst e;let⟨o,e,c,d⟩:=st;exact⟨o,e,λv z=>by rw[d]at z;cases z⟩
 keep:=λi h j st k=>st.at λo e=>k it ∅ o e
 item:=by
  intro X m n q J i L s σ H E I hf st r;subst m n q;let⟨N,x,l,hx⟩:=r;let⟨t,y,p,O⟩:=I.list l;let⟨u,Q,T⟩:=y.get hx;let⟨A,B,U,C,D,G⟩:=hf it ∅;refine wpAny_pyNext_list_item st p.isList (x:=u) ‹Q› λj g Y=>?_;have I1:Inv X L σ H {s with heap:=j}:=I.turned (t':=s.toks) (λb o f e=>(Y.2 b f).trans e) A B C D G;let⟨o,e,c,d⟩:=id g;exact⟨u,fj,x_ (s:={s with heap:=j}) e c d Wt ⟨x,H,I1,T,⟨fj,λys hy=>by rw[I.QE hy l];exact hx⟩,g,λb f=>(hf b f).1⟩⟩
 done:=by
  intro X m n q J i L s σ H E I hf st r;subst m n q;let⟨N,l,hx⟩:=r;let⟨t,y,p,O⟩:=I.list l;let⟨A,B,U,C,D,G⟩:=hf it ∅;have hl:=y.length;exact wpAny_pyNext_list_end (I.ok.hd J) st p.isList (by simp;nofun) λj eb=>⟨fj,I.turned (t':=s.toks) (λb o f e=>eb b o f e) A B C D G⟩
 self:=λ_ _ _ _ _ st h=>wpAny_pyIter_listiter st h
theorem xc{P:bR}{w:Wn}{K:Za}{M:Wr}(a it:Wk):u1 P w K M (OK K a) [it] it (λi h=>h.IsTupleIter it a i) where
 mem:=by simp
 obj:=λi h st b f=>by
  have e:b=it:=by simpa using f
  subst e;let⟨o,e,c,d⟩:=st;exact⟨o,e,λv z=>by rw[d]at z;cases z⟩
 keep:=λi h l st k=>st.at λo e=>k it ∅ o e
 item:=by
  intro X n q r J i L s σ H E I hf st t;subst n q r;let⟨N,x,m,hx⟩:=t;let⟨g,y,p,O⟩:=I.tuple m;let⟨u,Q,T⟩:=y.get hx;let⟨A,B,U,C,D,G⟩:=hf it ∅;refine wpAny_pyNext_tuple_item st (show s.heap.IsTuple a g.toArray from p) (x:=u) ‹Q› λl j Y=>?_;have I1:Inv X L σ H {s with heap:=l}:=I.turned (t':=s.toks) (λb o f e=>(Y.2 b f).trans e) A B C D G;let⟨o,e,c,d⟩:=id j;exact⟨u,fj,x_ (s:={s with heap:=l}) e c d Wt ⟨x,H,I1,T,⟨fj,λys hy=>by rw[I.QH hy m];exact hx⟩,j,λb f=>(hf b f).1⟩⟩
 done:=by
  intro X n q r J i L s σ H E I hf st t;subst n q r;let⟨N,m,hx⟩:=t;let⟨g,y,p,O⟩:=I.tuple m;let⟨A,B,U,C,D,G⟩:=hf it ∅;have hl:=y.length;exact wpAny_pyNext_tuple_end (I.ok.hd J) st (show s.heap.IsTuple a g.toArray from p) (by simp;nofun) λl eb=>⟨fj,I.turned (t':=s.toks) (λb o f e=>eb b o f e) A B C D G⟩
 self:=λ_ _ _ _ _ st h=>wpAny_pyIter_tupleiter st h
theorem EV{P:bR}{w:Wn}{K:Za}{C:Wr}(it:Wk)(lo:Int)(n:Nat):u1 P w K C (OL lo n) [it] it (λi h=>IsRangeIter h it (lo+(i:Nat) * 1) ((n:Int)-(i:Nat)) 1) where
 mem:=by simp
 obj:=λi h st b a=>by
  have e:b=it:=by simpa using a
  subst e;exact⟨_,st,λv z=>by
   have D:Data.fields _=Data.cell v:=z;cases D⟩
 keep:=λi h g st k=>k it ∅ _ st
 item:=by
  intro X j l m p i B s σ H E I hf st q;subst j l m;let⟨r,u,G,x,y,A⟩:=hf it ∅;have W:=Walks.range (prog:=X.prog) (w:=X.w) (I.ok.hd p) it lo 1 n;refine W.item i s _ _ q st λv g tk J f L=>?_;let⟨t,rfl⟩:=J;have M:Inv X B σ H {s with heap:=g,toks:=tk}:=I.turned (λb o a e=>L b o ‹a› e) r u x y A;apply⟨_,fj,x_ (s:={s with heap:=g,toks:=tk}) (n:="range_iterator") f rfl rfl Wt ⟨.int<|lo+i,H,M,⟨t,?_⟩,⟨fj,fj⟩,f,λb a=>(hf b a).1⟩⟩;rw[Int.mul_one]
 done:=by
  intro X j l m p i B s σ H E I hf st q;subst j l m;let⟨r,u,G,x,y,A⟩:=hf it ∅;exact wpAny_pyNext_range_end (I.ok.hd p) st (by have:n<=i:=q;nofun) λg N=>⟨fj,I.turned (t':=s.toks) (λb o a e=>N b o a e) r u x y A⟩
 self:=λ_ _ _ _ _ st h=>wpAny_pyIter_rangeiter st h
end L2
namespace L2
open PySem Spec PyProof.Rows
section
variable{X:Cx}{tg:Wr}
def bU(K:Za)(tl:TE):TI:=fun σ H R=>tl σ H λx H1=>∃a,x=.ref a/\(∃xs,az K H1 a xs)/\R (HW K a) H1
def Ng(K:Za)(tl:TE):TI:=fun σ H R=>tl σ H λx H1=>∃a,x=.ref a/\(∃xs,bE K H1 a xs)/\R (OK K a) H1
theorem aQ(k:PE X l j):PI X tg l (bU X.K j):=by
 intro m s σ H R I h;refine c7 (k m s σ H _ I h) λv f i=>?_;let⟨x,n,g,r,t⟩:=i;let⟨a,e,⟨z,u⟩,q⟩:=t;subst e;cases r;let⟨w,A,p,B⟩:=g.list u;refine zQ p.isList ?_;apply⟨↑f,[↑f],_,_,n,fj,g.kept (t':=f.toks) λb o e=>aT _ e,zX a _,⟨_,cv _ rfl,fj,fj⟩,λb y=>?_,q⟩;have e:b=↑f:=by simpa using y
 subst e;exact g.Ri (aF _)<|g.kl.fresh<|aF _
theorem FK(m:PE X l k):PI X tg l (Ng X.K k):=by
 intro n s σ H R I h;refine c7 (m n s σ H _ I h) λv f i=>?_;let⟨x,r,g,t,u⟩:=i;let⟨a,e,⟨z,w⟩,q⟩:=u;subst e;cases t;let⟨j,A,p,B⟩:=g.tuple w;refine GQ (show f.heap.IsTuple a j.toArray from p) ?_;apply⟨↑f,[↑f],_,_,r,fj,g.kept (t':=f.toks) λb o e=>aT _ e,xc a _,⟨_,cv _ rfl,fj,fj⟩,λb y=>?_,q⟩;have e:b=↑f:=by simpa using y
 subst e;exact g.Ri (aF _)<|g.kl.fresh<|aF _
theorem KL{a:Zd}{σ:St}{H:Hp}{s:Wl}{R:It->Hp->Prop}{E:Zc}{lo hi:Int}{t u v:Tok}{tk:Nat}(I:Inv X a σ H s)(g:-(2 ^ 62)<=lo)(h:lo<2 ^ 62)(i:-(2 ^ 62)<=hi)(j:hi<2 ^ 62)
  (q:R (OL lo (hi-lo).toNat) H):wpAny (model X.prog X.w) X.A (pyIter<|.ref ↑s) (Pe X a σ tg R) E {s with heap:=s.heap.push { cls:=.type "range",data:=.fields #[.int lo t,.int hi u,.int 1 v]},toks:=tk}:=by
 refine wpAny_pyIter_range (IsRange.new ..) (small_one g h i j) ?_;have f:Inv X a σ H {s with heap:=s.heap.push { cls:=.type "range",data:=.fields #[.int lo t,.int hi u,.int 1 v]},toks:=tk}:=I.kept λb o e=>aT _ e;apply⟨(s.heap.push { cls:=.type "range",data:=.fields #[.int lo t,.int hi u,.int 1 v]}).objs.size,[(s.heap.push { cls:=.type "range",data:=.fields #[.int lo t,.int hi u,.int 1 v]}).objs.size],_,_,H,fj,
  f.kept (t':=tk) λb o e=>aT _ e,EV _ lo (hi-lo).toNat,?_,λb k=>?_,q⟩
 .have l:lo+((0:Nat):Int) * 1=lo:=by simp
  have m:(((hi-lo).toNat:Nat):Int)-((0:Nat):Int)=bx.Range.rangeSize lo hi 1:=by rw[rangeSize_one];split<;>nofun
  show IsRangeIter _ _ (lo+((0:Nat):Int) * 1) ((((hi-lo).toNat:Nat):Int)-((0:Nat):Int)) 1;rw[l,m];exact cv _ rfl
 .have e:b=(s.heap.push { cls:=.type "range",data:=.fields #[.int lo t,.int hi u,.int 1 v]}).objs.size:=by simpa using k
  subst e;exact f.Ri (aF _)<|f.kl.fresh<|aF _
def vA(ta:TA):TI:=fun σ H R=>ta σ H λvs H1=>∃j:Int,vs=[.int j]/\-(2 ^ 62)<=j/\j<2 ^ 62/\R (OL 0 j.toNat) H1
theorem iT(l:Gl X "range")(m:X.mg "range"=none)(n:PA X [a] k)(o:aR [a] X.env=[(false,eval a X.env)]:=by rfl):PI X tg (.Call (.Name "range" p) [a] [] f) (vA k):=by
 intro u s σ H R I h;refine Call_<|kG I l m boot_range<|wD (c7 (n f u s σ H _ I h) λz A g=>?_) o rfl;let⟨B,C,v,w,i⟩:=g;let⟨j,e,i,x,q⟩:=i;subst e;cases w with
 |cons r y =>
  cases y;let⟨t,rfl⟩:=r;exact call_range_1 (KL v ⋯ ⋯ i x ‹q›)
def ee(wi:TI)(g:TG)(tb:TS):TS:=λD σ H=>wi σ H λJ H1=>∃W:Nat->Nat->St->Hp->Prop,(∃m,W 0 m σ H1)/\∀i m σ H,W i m σ H ->
 (J.stop i H/\D.nx σ H)∨(J.go i H/\∃N:St->Hp->Prop,(∀σ' H',N σ' H'->∃m',m'<m/\W (i+1) m' σ' H')/\∀x H',J.Se i H x H'->g x σ H' fun σ2 H2=>tb {D with nx:=N,ct:=N,bk:=D.nx} σ2 H2)
def xK(fp:Ze)(h:Wq):List (Wk×Obj):=fp.filterMap λb=>(h.get? b).map λo=>(b,o)
theorem nr(a:b∈fp)(e:h.get? b=eH o):(b,o)∈xK fp h:=List.mem_filterMap.mpr ⟨b,a,by rw[e];rfl⟩
theorem IT(f:p∈xK a h):p.1∈a/\h.get? p.1=eH p.2:=by
 let⟨b,g,e⟩:=List.mem_filterMap.mp f;cases q:h.get? b with
 |none=>rw[q]at e;cases e
 |some o =>
  rw[q]at e;have i:(b,o)=p:=gp e;subst i;exact⟨g,q⟩
theorem Inv.pinned(I:Inv X a σ H s)(hf:∀b∈f,r9 X a H b)(i:∀b∈f,∃o,s.heap.get? b=eH o/\∀v,o.data≠.cell v):Inv X (a++xK f s.heap) σ H s :=
 I.SK λp j=>(bt.mp j).elim (λz=>I.pin p<|dh _ z) λz=>by
  let⟨g,e⟩:=IT z;let⟨k,l,m,_⟩:=hf p.1 g;let⟨o,h,d⟩:=i p.1 g;rw[e]at h;cases h;exact⟨e,k,l,m,d⟩
theorem Inv.Qw(I:Inv X (a++e) σ H s):Inv X a σ H s:=I.SK λp f=>I.pin p<|dh _<|cE _ f
theorem bD(E:PassesOwn (model X.prog X.w) X.A X.env X.xe)(hc:X.calm=true)(hi:PI X tg j wi)(hg:PG X tg g)(k:EQ X y tb)(hs:∀x,C7 j X.env x=pure x:=by intro _;rfl):PS X (.For tg j y [] U) (ee wi g tb):=by
 intro B s σ H D I h;refine wpAny_For (c7 (hi B s σ H _ I h) λv s1 h1=>c7 h1 λap s2 h2=>?_) hs;let⟨it,G,tn,J,H2,e,I2,T,Y,f2,W,⟨m0,w0⟩,turn⟩:=h2;subst e;have l:∀{t:Hp},(∀b∈G,t b=none)->∀b∈G,r9 X B t b:=λhn b k=>⟨hn b k,(f2 b k).2⟩;refine codeAny_forLoop_any (λn s'=>∃i σ' t,Inv X B σ' t s'/\tn i s'.heap/\(∀b∈G,t b=none)/\W i n σ' t) ?_ m0 ⟨0,σ,H2,I2,Y,λb k=>(f2 b k).1,w0⟩;rintro n s3 ⟨i,σ3,Q,I3,L,M,w3⟩;obtain⟨stop,qn⟩|⟨go,N,hN,step⟩:=turn i n σ3 Q w3
 .refine wE E<|c7 (T.done X rfl rfl rfl hc i B s3 σ3 Q X.xe I3 (l M) L stop) λr s4 a=>?_;let⟨hr,I4⟩:=a;subst hr;exact GU ⟨σ3,Q,I4,qn⟩
 .refine wE E<|c7 (T.item X rfl rfl rfl hc i B s3 σ3 Q X.xe I3 (l M) L go) λr s4 a=>?_;let⟨u,hr,h4⟩:=a;subst hr;refine wE E<|c7 h4 λ_ s5 a=>?_;let⟨x,H5,I5,r5,y5,C,al⟩:=a;have an:=I5.pinned (l al)<|T.obj _ _ C;refine wE E<|c7 (hg _ s5 σ3 H5 x u _ an r5<|step x H5 y5) λ_ s6 a=>?_;obtain⟨σ6,H6,I6,q6⟩:=a;refine wE E<|c7 (k _ s6 σ6 H6 _ I6 q6) λf s7 z=>?_;have again:∀{σ7:St}{p:Hp},Inv X (B++xK G s5.heap) σ7 p s7->N σ7 p->∃m,m<n/\∃i σ' t,Inv X B σ' t s7/\tn i s7.heap/\(∀b∈G,t b=none)/\W i m σ' t:=fun{σ7 p} q O=>by
   let⟨m',hm,w7⟩:=hN σ7 p O;apply⟨m',hm,i+1,σ7,p,q.Qw,T.keep _ _ _ C λb k o e=>(q.pin (b,o)<|dh _<|dh _<|nr k e).1,λb k=>?_,w7⟩;let⟨o,e,d⟩:=T.obj _ _ C b k;exact(q.pin (b,o)<|dh _<|dh _<|nr k e).2.1
  cases f with
  |next=>obtain⟨σ7,p,q,O⟩:=z;exact again q O
  |cont=>obtain⟨σ7,p,q,O⟩:=z;exact again q O
  |brk=>obtain⟨σ7,p,q,z⟩:=z;exact⟨σ7,p,q.Qw,z⟩
  |ret v=>obtain⟨x7,σ7,p,q,r7,z⟩:=z;exact⟨x7,σ7,p,q.Qw,r7,z⟩
end
theorem cb{K:Za}{a:Wk}{xs:List V}{g:TG}{k:TS}{D:mQ}{σ:St}{H:Hp}(Pv:Nat->St->Hp->Prop)(n:Pv 0 σ H)(o:∀i σ H,i<=xs.length->Pv i σ H->az K H a xs)
  (r:∀i x σ H,xs[i]?=eH x->Pv i σ H->g x σ H fun σ2 j=>k {D with nx:=Pv<|i+1,ct:=Pv<|i+1,bk:=D.nx} σ2 j) (s:∀σ H,Pv xs.length σ H->D.nx σ H) :
  ∃W:Nat->Nat->St->Hp->Prop,(∃m,W 0 m σ H)/\∀i m σ H,W i m σ H ->
   ((HW K a).stop i H/\D.nx σ H)∨((HW K a).go i H/\∃N:St->Hp->Prop,(∀σ' f,N σ' f->∃l,l<m/\W (i+1) l σ' f)/\∀x f,(HW K a).Se i H x f->g x σ f fun σ2 j=>k {D with nx:=N,ct:=N,bk:=D.nx} σ2 j):=by
 apply⟨λi m σ H=>m=xs.length-i/\i<=xs.length/\Pv i σ H,⟨xs.length,by simp,cH _,n⟩,?_⟩;rintro i m σ H ⟨rfl,hi,p⟩;have q:=o i σ H hi p;by_cases h:i<xs.length
 .refine .inr ⟨⟨xs,xs[i],q,by simp[h]⟩,Pv<|i+1,fun σ' f t=>⟨xs.length-(i+1),by nofun,fj,h,t⟩,λx f y=>?_⟩;let⟨e,y⟩:=y;subst e;exact r i x σ _ (y xs q) p
 .have e:i=xs.length:=by nofun
  subst e;exact .inl ⟨⟨xs,q,aF _⟩,s σ H p⟩
theorem HB{K:Za}{a:Wk}{xs:List V}{g:TG}{k:TS}{D:mQ}{σ:St}{H:Hp}(Pv:Nat->St->Hp->Prop)(n:Pv 0 σ H)(o:∀i σ H,i<=xs.length->Pv i σ H->bE K H a xs)
  (r:∀i x σ H,xs[i]?=eH x->Pv i σ H->g x σ H fun σ2 j=>k {D with nx:=Pv<|i+1,ct:=Pv<|i+1,bk:=D.nx} σ2 j) (s:∀σ H,Pv xs.length σ H->D.nx σ H) :
  ∃W:Nat->Nat->St->Hp->Prop,(∃m,W 0 m σ H)/\∀i m σ H,W i m σ H ->
   ((OK K a).stop i H/\D.nx σ H)∨((OK K a).go i H/\∃N:St->Hp->Prop,(∀σ' f,N σ' f->∃l,l<m/\W (i+1) l σ' f)/\∀x f,(OK K a).Se i H x f->g x σ f fun σ2 j=>k {D with nx:=N,ct:=N,bk:=D.nx} σ2 j):=by
 apply⟨λi m σ H=>m=xs.length-i/\i<=xs.length/\Pv i σ H,⟨xs.length,by simp,cH _,n⟩,?_⟩;rintro i m σ H ⟨rfl,hi,p⟩;have q:=o i σ H hi p;by_cases h:i<xs.length
 .refine .inr ⟨⟨xs,xs[i],q,by simp[h]⟩,Pv<|i+1,fun σ' f t=>⟨xs.length-(i+1),by nofun,fj,h,t⟩,λx f y=>?_⟩;let⟨e,y⟩:=y;subst e;exact r i x σ _ (y xs q) p
 .have e:i=xs.length:=by nofun
  subst e;exact .inl ⟨⟨xs,q,aF _⟩,s σ H p⟩
theorem j_{lo:Int}{n:Nat}{g:TG}{j:TS}{D:mQ}{σ:St}{H:Hp}(Pv:Nat->St->Hp->Prop)(l:Pv 0 σ H)
  (o:∀i σ H,i<n->Pv i σ H->g (.int<|lo+i) σ H fun σ2 h=>j {D with nx:=Pv<|i+1,ct:=Pv<|i+1,bk:=D.nx} σ2 h) (q:∀σ H,Pv n σ H->D.nx σ H) :
  ∃W:Nat->Nat->St->Hp->Prop,(∃m,W 0 m σ H)/\∀i m σ H,W i m σ H ->
   ((OL lo n).stop i H/\D.nx σ H)∨((OL lo n).go i H/\∃N:St->Hp->Prop,(∀σ' a,N σ' a->∃k,k<m/\W (i+1) k σ' a)/\∀x a,(OL lo n).Se i H x a->g x σ a fun σ2 h=>j {D with nx:=N,ct:=N,bk:=D.nx} σ2 h):=by
 apply⟨λi m σ H=>m=n-i/\i<=n/\Pv i σ H,⟨n,by simp,cH _,l⟩,?_⟩;rintro i m σ H ⟨rfl,hi,p⟩;by_cases f:i<n
 .refine .inr ⟨f,Pv<|i+1,fun σ' a r=>⟨n-(i+1),by nofun,fj,f,r⟩,λx a y=>?_⟩;let⟨e,y⟩:=y;subst e y;exact o i σ _ f p
 .have e:i=n:=by nofun
  subst e;exact .inl ⟨aF _,q σ H p⟩
end L2
namespace L2
open PySem Spec PyProof.Rows
abbrev R2:=V->V->Hp->VK->Prop
def tW(X:Cx)(f:Wm->Wm->Sem Wm)(r:R2):Prop :=
 ∀(J4:Zd) (s:Wl) (σ:St) (H:Hp) (x y:V) (v u:Wm) (Q:VK),Inv X J4 σ H s->RelV x v->RelV y u->r x y H Q ->
  wpAny (model X.prog X.w) X.A (f v u) (EP X J4 σ Q) X.xe s
def hZ(X:Cx)(f:Wm)(r:List V->Hp->VK->Prop):Prop :=
 ∀(J4:Zd) (s:Wl) (σ:St) (H:Hp) (xs:List V) (us:Zf) (Q:VK),Inv X J4 σ H s->bG xs us->r xs H Q ->
  wpAny (model X.prog X.w) X.A (call f us) (EP X J4 σ Q) X.xe s
def aI(r:R2)(ta tb:TE):TE:=fun σ H Q=>ta σ H λx H1=>tb σ H1 λy H2=>r x y H2 Q
def rI(C:Int->Int->Prop)(g:Int->Int->V):R2:=λx y H Q=>∃i j,x=.int i/\y=.int j/\C i j/\Q (g i j) H
def JH(g:Int->Int->V):R2:=λx y H Q=>∃i j,x=.int i/\y=.int j/\Q (g i j) H
section
variable{X:Cx}{a b c:Wr}{ta tb tc:TE}{pos:Pos}
theorem OD(n:PE X a ta)(o:PE X b tb){k:Zd}{s:Wl}{σ:St}{H:Hp}{R:V->V->Hp->Prop}(I:Inv X k σ H s)
  (h:ta σ H λx m=>tb σ m λy g=>R x y g) {Q:Zc}{f:Wm->Wm->Sem Wm}
  (hf:∀v u l x y g,Inv X k σ g l->RelV x v->RelV y u->R x y g->wpAny (model X.prog X.w) X.A (f v u) Q X.xe l) :
  wpAny (model X.prog X.w) X.A (eval a X.env) (λv i=>wpAny (model X.prog X.w) X.A (eval b X.env) (λu j=>wpAny (model X.prog X.w) X.A (f v u) Q X.xe j) X.xe i) X.xe s:=by
 refine c7 (n k s σ H _ I h) λv p e=>?_;let⟨x,m,q,r,t⟩:=e;refine c7 (o k p σ m _ q t) λu l e=>?_;let⟨y,g,z,B,C⟩:=e;exact hf v u l x y g z r B C
theorem aV(f:tW X (ve e) r)(g:PE X a ta)(i:PE X b tb):PE X (.BinOp a e b pos) (aI r ta tb):=by
 intro j s σ H Q I h;exact wpAny_BinOp<|OD g i I h λv u k x y l m n o q=>f j k σ l x y v u Q m n o q
theorem Px{f:Wm->Wm->Sem Wm}{C:Int->Int->Prop}{g:Int->Int->Int}
  (rule:∀(i j:Int) (t u:Tok) (s:Wl) (Q:Zc) (E:Zc),C i j->Q (.int (g i j) s.toks) {s with toks:=s.toks+1}->wpAny (model X.prog X.w) X.A (f (.int i t)<|.int j u) Q E s) :
  tW X f (rI C λi j=>.int<|g i j):=by
 intro n s σ H x y v u Q I e k h;let⟨i,j,rfl,rfl,l,q⟩:=h;let⟨t,rfl⟩:=e;let⟨m,rfl⟩:=k;exact rule i j t m s _ _ l ⟨.int<|g i j,H,I.tok _,⟨_,fj⟩,q⟩
theorem UZ{f:Wm->Wm->Sem Wm}{g:Int->Int->Int}
  (rule:∀(i j:Int) (t u:Tok) (s:Wl) (Q:Zc) (E:Zc),Q (.int (g i j) s.toks) {s with toks:=s.toks+1}->wpAny (model X.prog X.w) X.A (f (.int i t)<|.int j u) Q E s) :
  tW X f (JH λi j=>.int<|g i j):=by
 intro m s σ H x y v u Q I e k h;let⟨i,j,rfl,rfl,q⟩:=h;let⟨t,rfl⟩:=e;let⟨l,rfl⟩:=k;exact rule i j t l s _ _ ⟨.int<|g i j,H,I.tok _,⟨_,fj⟩,q⟩
theorem M8{f:Wm->Wm->Sem Wm}{g:Int->Int->Bool}
  (rule:∀(i j:Int) (t u:Tok) (s:Wl) (Q:Zc) (E:Zc),Q (.bool<|g i j) s->wpAny (model X.prog X.w) X.A (f (.int i t)<|.int j u) Q E s) :
  tW X f (JH λi j=>.bl<|g i j):=by
 intro m s σ H x y v u Q I e k h;let⟨i,j,rfl,rfl,q⟩:=h;let⟨t,rfl⟩:=e;let⟨l,rfl⟩:=k;exact rule i j t l s _ _ ⟨.bl<|g i j,H,I,fj,q⟩
def Po(i j:Int):Prop:=0<j/\j<1073741824
def Pm(i j:Int):Prop:=0<=j/\j<=1000000/\i.natAbs<2 ^ 64
def LU(i j:Int):Prop:=(-(2 ^ 64)<i/\i<2 ^ 64)∨(-(2 ^ 64)<j/\j<2 ^ 64)
theorem LU.ok(h:LU i j):IntMulOk i j:=by
 obtain⟨e,f⟩|⟨e,f⟩:=h
 .exact .of_left<|intBits_le_64 e f
 .exact .of_right<|intBits_le_64 e f
theorem dU:tW X (ve .Add) (JH λi j=>.int<|i+j):=UZ λ_ _ _ _ _ _ _ q=>add_int q
theorem iu:tW X (ve .Mult) (rI LU λi j=>.int<|i * j):=Px λ_ _ _ _ _ _ _ e q=>mul_int q e.ok
theorem Hi:tW X (ve .FloorDiv) (rI Po λi j=>.int<|i / j):=Px λi j _ _ _ _ _ e q=>by
 have f:(0:Int)<j:=e.1;have g:j<1073741824:=e.2;exact floordiv_int ⋯ (by rw[Int.fdiv_eq_ediv_of_nonneg i ⋯];exact q) (.inl (PyProof.noPylong_small ⋯))
theorem iX:tW X (ve .Mod) (rI (λ_ j=>0<j) λi j=>.int<|i % j):=Px λi j _ _ _ _ _ e q=>by
 have f:(0:Int)<j:=e;exact mod_int' ⋯ (by rw[Int.fmod_eq_emod_of_nonneg i ⋯];exact q)
theorem K2:tW X (ve .Pow) (rI Pm λi j=>.int<|i ^ j.toNat):=Px λ_ _ _ _ _ _ _ e q=>pow_int_small e.1 e.2.1 e.2.2 q
end
def O0:V->V->Bool
 |.zr,.zr=>true | .zr,.int _=>true | .int _,.zr=>true | .zr,.bl _=>true | .bl _,.zr=>true | .zr,.str _=>true | .str _,.zr=>true
 |.int _,.int _=>true | .bl _,.bl _=>true | .str _,.str _=>true | .Tf _,.Tf _=>true
 |.int _,.str _=>true | .str _,.int _=>true | .bl _,.str _=>true | .str _,.bl _=>true
 |_,_=>false
def IL:R2:=λx y H Q=>O0 x y=true/\Q (.bl<|decide (x=y)) H
def MP:R2:=λx y H Q=>O0 x y=true/\Q (.bl (!decide (x=y))) H
theorem HG:decide (V.int i=V.int j)=(i==j):=by
 rw[sn];simp
theorem Lw:decide (V.bl i=V.bl j)=(i==j):=by
 rw[sn];simp
theorem HE:decide (V.str i=V.str j)=(i==j):=by
 rw[sn];simp
theorem HH:decide (V.Tf i=V.Tf j)=(i.toList==j.toList):=by
 rw[sn];cases i;cases j;simp
section
variable{X:Cx}{a b c:Wr}{ta tb tc:TE}{pos:Pos}
theorem cD(I:Inv X f σ H s)(q:Q (.bl k) H)(e:k=g):EP X f σ Q (.bool g) s:=by
 subst e;exact⟨.bl k,H,I,fj,q⟩
theorem nW:tW X (gm .Eq) IL:=by
 intro l s σ H x y v u Q I k e h;let⟨g,q⟩:=h;cases x with
 |zr =>
  cases k;cases y with
  |zr=>cases e;exact PySem.EqNone.eq_none_none (cD I q ∅)
  |bl j=>cases e;exact PySem.EqNone.eq_none_bool (cD I q ∅)
  |int j=>let⟨f,rfl⟩:=e;exact PySem.EqNone.eq_none_int (cD I q ∅)
  |str j=>let⟨f,rfl⟩:=e;exact PySem.EqNone.eq_none_str (cD I q ∅)
  |_=>exact absurd (show false=true from g) h9
 |bl i =>
  cases k;cases y with
  |zr=>cases e;exact PySem.EqNone.eq_bool_none (cD I q ∅)
  |bl j=>cases e;exact eq_bool<|cD I q Lw
  |str j=>let⟨f,rfl⟩:=e;exact PySem.EqMixed.eq_bool_str (cD I q ∅)
  |_=>exact absurd (show false=true from g) h9
 |int i =>
  let⟨t,rfl⟩:=k;cases y with
  |zr=>cases e;exact PySem.EqNone.eq_int_none (cD I q ∅)
  |int j=>let⟨f,rfl⟩:=e;exact eq_int<|cD I q HG
  |str j=>let⟨f,rfl⟩:=e;exact PySem.EqMixed.eq_int_str (cD I q ∅)
  |_=>exact absurd (show false=true from g) h9
 |str i =>
  let⟨t,rfl⟩:=k;cases y with
  |zr=>cases e;exact PySem.EqNone.eq_str_none (cD I q ∅)
  |bl j=>cases e;exact PySem.EqMixed.eq_str_bool (cD I q ∅)
  |int j=>let⟨f,rfl⟩:=e;exact PySem.EqMixed.eq_str_int (cD I q ∅)
  |str j=>let⟨f,rfl⟩:=e;exact eq_str<|cD I q HE
  |_=>exact absurd (show false=true from g) h9
 |Tf i =>
  let⟨t,rfl⟩:=k;cases y with
  |Tf j=>let⟨f,rfl⟩:=e;exact PySem.W.eq_bytes<|cD I q HH
  |_=>exact absurd (show false=true from g) h9
 |_=>cases y<;>exact absurd (show false=true from g) h9
theorem DN:tW X (gm .NotEq) MP:=by
 intro l s σ H x y v u Q I k e h;let⟨g,q⟩:=h;cases x with
 |zr =>
  cases k;cases y with
  |zr=>cases e;exact PySem.EqNone.ne_none_none (cD I q ∅)
  |bl j=>cases e;exact PySem.EqNone.ne_none_bool (cD I q ∅)
  |int j=>let⟨f,rfl⟩:=e;exact PySem.EqNone.ne_none_int (cD I q ∅)
  |str j=>let⟨f,rfl⟩:=e;exact PySem.EqNone.ne_none_str (cD I q ∅)
  |_=>exact absurd (show false=true from g) h9
 |bl i =>
  cases k;cases y with
  |zr=>cases e;exact PySem.EqNone.ne_bool_none (cD I q ∅)
  |bl j=>cases e;exact ne_bool<|cD I q<|congrArg not Lw
  |str j=>let⟨f,rfl⟩:=e;exact PySem.EqMixed.ne_bool_str (cD I q ∅)
  |_=>exact absurd (show false=true from g) h9
 |int i =>
  let⟨t,rfl⟩:=k;cases y with
  |zr=>cases e;exact PySem.EqNone.ne_int_none (cD I q ∅)
  |int j=>let⟨f,rfl⟩:=e;exact ne_int<|cD I q<|congrArg not HG
  |str j=>let⟨f,rfl⟩:=e;exact PySem.EqMixed.ne_int_str (cD I q ∅)
  |_=>exact absurd (show false=true from g) h9
 |str i =>
  let⟨t,rfl⟩:=k;cases y with
  |zr=>cases e;exact PySem.EqNone.ne_str_none (cD I q ∅)
  |bl j=>cases e;exact PySem.EqMixed.ne_str_bool (cD I q ∅)
  |int j=>let⟨f,rfl⟩:=e;exact PySem.EqMixed.ne_str_int (cD I q ∅)
  |str j=>let⟨f,rfl⟩:=e;exact ne_str<|cD I q<|congrArg not HE
  |_=>exact absurd (show false=true from g) h9
 |Tf i =>
  let⟨t,rfl⟩:=k;cases y with
  |Tf j=>let⟨f,rfl⟩:=e;exact PySem.W.ne_bytes<|cD I q<|congrArg not HH
  |_=>exact absurd (show false=true from g) h9
 |_=>cases y<;>exact absurd (show false=true from g) h9
theorem xP:tW X (gm .Lt) (JH λi j=>.bl<|decide (i<j)):=M8 λ_ _ _ _ _ _ _ q=>lt_int q
theorem K3:tW X (gm .LtE) (JH λi j=>.bl<|decide (i<=j)):=M8 λ_ _ _ _ _ _ _ q=>le_int q
theorem vp:tW X (gm .Gt) (JH λi j=>.bl<|decide (j<i)):=M8 λ_ _ _ _ _ _ _ q=>gt_int q
theorem O3:tW X (gm .GtE) (JH λi j=>.bl<|decide (j<=i)):=M8 λ_ _ _ _ _ _ _ q=>ge_int q
theorem IS:tW X (gm .In) (λx y H Q=>∃i j,x=.str i/\y=.str j/\Q (.bl (!(bx.Str.occurrences j i 0 j.length 1).isEmpty)) H):=by
 intro g s σ H x y v u Q I e f h;let⟨i,j,rfl,rfl,q⟩:=h;let⟨t,rfl⟩:=e;let⟨k,rfl⟩:=f;exact in_str<|cD I q rfl
theorem K6(b:Wr)(h:e≠.In:=by decide)(f:e≠.NotIn:=by decide):nS e b=false:=by
 have g:(e==CmpOp.In)=false:=by cases e<;>first|rfl|exact absurd rfl h
 have i:(e==CmpOp.NotIn)=false:=by cases e<;>first|rfl|exact absurd rfl f
 cases b<;>simp[nS,g,i]
theorem Hg(f:tW X (gm e) r)(g:PE X a ta)(i:PE X b tb)(j:nS e b=false):PE X (.Compare a [e] [b] pos) (aI r ta tb):=by
 intro k s σ H Q I h;exact wpAny_Compare1 (OD g i I h λv u l x y m n o p q=>f k l σ m x y v u Q n o p q) j
def a_(t:TE):TT:=fun σ H Q=>t σ H λx H'=>∃k,x=.bl k/\Q k H'
theorem Ha(i:tW X (gm f) r)(j:PE X a ta)(l:PE X b tb)(m:nS f b=false):PT X (.Compare a [f] [b] pos) (a_<|aI r ta tb):=by
 intro g s σ H Q I h;refine wpAny_isTrue_Compare1 (c7 (j g s σ H _ I h) λv n ⟨x,o,p,q,t⟩=>c7 (l g n σ o _ p t) λu w ⟨y,A,B,C,D⟩ =>
  c7 (i g w σ A x y v u _ B q C D) λc M ⟨z,E,G,J,k,e,L⟩=>?_) m
 subst e;cases J;exact vj ⟨E,G,L⟩
theorem uS:(ak:Nat)<2 ^ 63:=by rw[GP];decide
theorem rF:tW X (ve .Add) (λx y H Q=>∃i j,x=.str i/\y=.str j/\i.length+j.length<=ak/\Q (.str<|i++j) H):=by
 intro l s σ H x y v u Q I e f h;let⟨i,j,rfl,rfl,g,q⟩:=h;let⟨t,rfl⟩:=e;let⟨k,rfl⟩:=f;exact add_str (λk tk=>⟨.str<|i++j,H,I.tok _,⟨_,fj⟩,q⟩) g
theorem vals1(r:bG [x] e):∃u,e=[u]/\RelV x u:=by
 cases r with
 |cons f g=>cases g;exact⟨_,fj,f⟩
theorem vals2(r:bG [x,y] e):∃u f,e=[u,f]/\RelV x u/\RelV y f:=by
 cases r with
 |cons g h =>
  cases h with
  |cons i j=>cases j;exact⟨_,_,fj,g,i⟩
end
end L2
namespace L2
open PySem Spec PyProof.Rows
structure Gs(h:Wq)(x dx C:Wk)(mA:Ws->Option Wm):Prop where
 obj:h.get? x=eH (vi C dx)
 ns:h.Ns1 dx mA
 ne:dx≠x
theorem IV{h:Wq}(n:h.Ns1 g i):∃j,h.get? g=eH j/\∀name,GO name j=eH (i name):=by
 let⟨o,k,v,l,m,p,_,r⟩:=n;apply⟨o,l,λname=>?_⟩;have e:=r name;unfold nsFind findBy at e;rw[<-Array.find?_toList]at e;unfold GO;rw[m];dsimp only;split
 .rename_i y q;rw[q]at e;exact congrArg eH e
 .rename_i q;rw[q]at e;have a:k.toList.any (·.refKey)=false:=by
   rw[List.any_eq_false];intro y s;let⟨z,t,f⟩:=p y<|Array.mem_toList_iff.mp s;simp[fH.refKey,f]
  have u:¬k.toList.any (·.refKey)=true:=by rw[a];exact h9
  rw[if_neg u];exact congrArg eH e
theorem Gs.look(I:Gs h x e C f):∃a,PySem.W.InstAt h x (vi C e) C (eH a)/\∀name,GO name a=eH (f name) :=
 let⟨a,g,i⟩:=IV I.ns
 ⟨a,⟨I.obj,fj,fj,g⟩,i⟩
section
variable{prog:bR}{w:Wn}{A:Wo}{E:Zc}{s:Wl}{K:Za}{x dx C f:Wk}{mA:Ws->Option Wm}{name:Ws}{v:Wm}
theorem Nh(X:K.In s.heap)(I:Gs s.heap x dx C mA)(g:zP K C name=true)(i:C6 K C=true)(j:eM K (.ref C) name=eH none)(k:mA name=eH v)(e:PySem.W.handedIn v=true)(h:Q v {s with toks:=s.toks+1}) :
  wpAny (model prog w) A (getAttr (.ref x) name a) Q E s:=by
 let⟨m,J,l⟩:=I.look;exact PySem.W.get_value X J (PySem.W.plainGet_of g).1 (PySem.W.findObj_own i j rfl (by rw[l,k])) e h
theorem Li(X:K.In s.heap)(I:Gs s.heap x dx C mA)(a:zP K C name=true)(hf:eM K (.ref C) name=eH (eH<|.ref f))(g:C5 K (.ref f)=true)(i:mA name=none)(h:Q (.ref f,[.ref x]) s) :
  wpAny (model prog w) A (vd (.ref x) name e) Q E s:=by
 let⟨j,J,k⟩:=I.look;exact PySem.W.method_fn X J (PySem.W.plainGet_of a).1 (PySem.W.plainGet_of a).2 hf (beq_iff_eq.mp g) (by show(GO name j).map (·.isSome)=eH false;rw[k,i];rfl) h
theorem Mw(X:K.In s.heap)(I:Gs s.heap x dx C mA)(o:eM K (.ref C) "__setattr__"=eH (eH<|.builtin "object.__setattr__"))(p:GN K C=true)(q:PySem.W.takerIn K C name=eH none)(t:C6 K C=true)(u:PySem.Within mA n)(z:n.length<=ak)(h:∀i,Gs i x dx C (λy=>if y=name then eH v else mA y)->fB dx s.heap i->Q () {s with heap:=i,toks:=s.toks+2}) :
  wpAny (model prog w) A (setAttr (.ref x) name v) Q E s:=by
 let⟨H,J,L⟩:=I.look;refine PySem.W.set_plain X J o<|PySem.W.osa_open (s:={s with toks:=s.toks+1}) (r:=none) X J p q λb=>?_;let⟨M,B,j⟩:=PySem.W.any_some t;have hx:s.heap.get? x=eH ⟨.ref C,eH dx,.plain,#[]⟩:=I.obj;refine ai<|ax<|ai<|ai<|wpAny_loadPart hx<|ai<|PySem.W.Looks.here (s:={s with toks:=s.toks+1}) (PySem.W.looks_clsIn X B) ?_;rw[j];refine ax (a:=eH dx)<|ai<|ax<|ai ?_;refine wpAny_nsSet1 (s:={s with toks:=s.toks+1}) I.ns λi e g=>?_;let⟨N,D,G,k,l,m⟩:=e.count<|PySem.Within.cons name v u;refine ai (wpAny_lookBehind k (by rw[l];exact pastItsLine_dict (bH m (by rw[eT];nofun))) ?_);exact ax<|h _ ⟨(g.2 _<|dA I.ne).trans I.obj,e,I.ne⟩ g
theorem K_(X:K.In s.heap)(i:wC K C=true)(hi:eM K (.ref C) "__init__"=eH (eH<|.ref f))(hf:PySem.W.typeIn K (.ref f)=eH (.type "function"))(h:D8 (model prog w) (A.under<|.builtin "type.__call__" ⟨.ref C::a,e⟩) (.call (.ref f) ⟨.ref (↑s+1)::a,e⟩) (PySem.W.InitBack (↑s+1) R)
   {s with heap:=(s.heap.push sk).push (vi C ↑s)}) :
  D8 (model prog w) A (.call (.ref C) ⟨a,e⟩) R s:=by
 let⟨j,g,d,t,os⟩:=s;exact PySem.W.make_core (PySem.W.makes_of X i) (PySem.W.looks_findIn X hi) (λself=>PySem.W.bind_fn X self hf) (.inl rfl) h
end
def dF(f:Ws)(v:V):List (Ws×V)->List (Ws×V)
 |[]=>[(f,v)]
 | (g,x)::r=>if g=f then(g,v)::r else(g,x)::dF f v r
theorem fV(f g:Ws)(v:V):∀fs:List<|Ws×V,(dF f v fs).lookup g=if g=f then eH v else fs.lookup g
 |[]=>by
  show nP g [(f,v)]=_;by_cases h:g=f
  .have a:(g==f)=true:=beq_iff_eq.mpr h;simp only[nP,a,if_pos h]
  .have a:(g==f)=false:=beq_eq_false_iff_ne.mpr h;simp only[nP,a,if_neg h]
 | (k,x)::r=>by
  have j:=fV f g v r;rw[show dF f v ((k,x)::r)=(if k=f then(k,v)::r else(k,x)::dF f v r)from rfl]
  by_cases i:k=f
  .rw[if_pos i];by_cases h:g=k
   .have a:(g==k)=true:=beq_iff_eq.mpr h;simp only[nP,a,if_pos<|h.trans i]
   .have a:(g==k)=false:=beq_eq_false_iff_ne.mpr h;simp only[nP,a,if_neg (λe:g=f=>h<|e.trans i.symm)]
  .rw[if_neg i];by_cases h:g=k
   .have a:(g==k)=true:=beq_iff_eq.mpr h;simp only[nP,a,if_neg (λe:g=f=>i<|h.symm.trans e)]
   .have a:(g==k)=false:=beq_eq_false_iff_ne.mpr h;simp only[nP,a];exact j
theorem uT(f:Ws)(v:V):∀fs:List<|Ws×V,f∈(dF f v fs).map (·.1)/\∀g,g∈fs.map (·.1)->g∈(dF f v fs).map (·.1)
 |[]=>⟨by simp[dF],λg h=>by simp at h⟩
 | (k,x)::r=>by
  let⟨i,j⟩:=uT f v r;rw[show dF f v ((k,x)::r)=(if k=f then(k,v)::r else(k,x)::dF f v r)from rfl]
  by_cases a:k=f
  .rw[if_pos a];subst a;exact⟨by simp,λg h=>by simpa using h⟩
  .rw[if_neg a];apply⟨?_,λg h=>?_⟩
   .rw[bL];exact eN _ i
   .rw[bL]at h ⊢;obtain e|e:=cq.mp h
    .exact cq.mpr<|.inl e
    .exact eN _<|j g e
theorem vv(f:Ws)(v:V):∀fs:List<|Ws×V,(dF f v fs).length<=fs.length+1
 |[]=>by simp[dF]
 | (k,x)::r=>by
  have e:=vv f v r;rw[show dF f v ((k,x)::r)=(if k=f then(k,v)::r else(k,x)::dF f v r)from rfl]
  by_cases a:k=f
  .rw[if_pos a,eT,eT];nofun
  .rw[if_neg a,eT,eT];nofun
theorem og.some_of(r:og (eH v) o):∃u,o=eH u/\RelV v u:=by
 cases o with
 |none=>exact(show False from r).elim
 |some u=>exact⟨u,fj,r⟩
theorem og.none_of(r:og none o):o=none:=by
 cases o with
 |none=>rfl
 |some u=>exact(show False from r).elim
theorem Jf(r:RelV v u):PySem.W.handedIn u=true:=by
 cases v with
 |zr=>cases(show u=Value.none from r);rfl
 |bl b=>cases(show u=Value.bool b from r);rfl
 |int i=>let⟨t,e⟩:=(show ∃t,u=Value.int i t from r);cases e;rfl
 |str x=>let⟨t,e⟩:=(show ∃t,u=Value.str x t from r);cases e;rfl
 |Tf b=>let⟨t,e⟩:=(show ∃t,u=Value.bytes b t from r);cases e;rfl
 |TZ b=>let⟨t,e⟩:=(show ∃t,u=Value.float b t from r);cases e;rfl
 |ref a=>cases(show u=Value.ref a from r);rfl
 |ty n=>cases(show u=Value.type n from r);rfl
section
variable{P:bR}{w:Wn}{H H':Hp}{h h':Wq}{a C dx:Wk}{fs V_:List (Ws×V)}
theorem wr{K:Za}(i:om P w K H h)(e:H a=eH (.ins C dx fs)):∃g,Gs h a dx C g/\(∀f,og (fs.lookup f)<|g f)/\PySem.Within g (fs.map (·.1))/\fs.length<=1000/\H dx=eH (.own a):=by
 let⟨d,z,ne,j,g,n,r,q⟩:=(show bA P w K H h a (.ins C dx fs)from i a _ e);exact⟨g,⟨j,n,ne⟩,r,q,z,d⟩
end
structure HX(K:Za)(C:Wk):Prop where
 pg:zP K C Str.empty=true
 hd:C6 K C=true
 po:GN K C=true
 sa:eM K (.ref C) "__setattr__"=eH (eH (.builtin "object.__setattr__"))
theorem HX.get{K:Za}(c:HX K C)(f:Ws):zP K C f=true:=c.pg
def fk(K:Za)(C:Wk)(f:Ws):Prop:=eM K (.ref C) f=eH none
theorem fk.Ur{K:Za}(n:fk K C f):PySem.W.takerIn K C f=eH none:=by
 unfold PySem.W.takerIn;rw[show eM K (.ref C) f=eH none from n]
 rfl
structure NA(K:Za)(C:Wk)(m:Ws)(f:Wk):Prop where
 at_:eM K (.ref C) m=eH (eH (.ref f))
 fn:C5 K (.ref f)=true
 kp:ka K (.ref f)=true
section
variable{X:Cx}{J4:Zd}{σ:St}{H:Hp}{s:Wl}{a C dx:Wk}{fs:List (Ws×V)}{f:Ws}{v:V}{A:Wo}{E:Zc}
theorem F_(I:Inv X J4 σ H s)(e:H a=eH (.ins C dx fs))(c:HX X.K C)(n:fk X.K C f)(l:fs.lookup f=eH v)(h:∀u g,Inv X J4 σ H g->RelV v u->Q u g):wpAny (model X.prog X.w) A (getAttr (.ref a) f b) Q E s:=by
 let⟨j,O,r,_,_,_⟩:=wr I.kl e;let⟨u,k,i⟩:=og.some_of (v:=v) (o:=j f) (by rw[<-l];exact r f);exact Nh I.O' O (c.get f) c.hd n k (Jf i)<|h u _ (I.tok _) i
theorem yb(I:Inv X J4 σ H s)(e:H a=eH (.ins C dx fs))(c:HX X.K C)(k:NA X.K C m g)(l:fs.lookup m=none)(h:Q (.ref g,[.ref a]) s):wpAny (model X.prog X.w) A (vd (.ref a) m i) Q E s:=by
 let⟨j,O,r,_,_,_⟩:=wr I.kl e;have n:j m=none:=og.none_of (by rw[<-l];exact r m);exact Li I.O' O (c.get m) k.at_ k.fn n h
theorem Fp(I:Inv X J4 σ H s)(e:H a=eH (.ins C dx fs))(c:HX X.K C)(n:fk X.K C f)(M:fs.length<1000)(m:RelV y u)(h:∀j,Inv X J4 σ (upd H a<|.ins C dx<|dF f y fs) j->Q () j):wpAny (model X.prog X.w) A (setAttr (.ref a) f u) Q E s:=by
 let⟨k,O,r,wi,_,l⟩:=wr I.kl e;have p:(fs.map (·.1)).length<=ak:=by rw[ag,GP];nofun
 refine Mw I.O' O c.sa c.po n.Ur c.hd wi p λt i B=>h _ ?_;have D:∃o,t.get? dx=eH o:=let⟨o,_,_,G,_⟩:=i.ns;⟨o,G⟩;refine I.write (x:=a) (e:=dx) (by rw[e];exact jO) (.inr l) (λb q J z=>(B.2 b J).trans z) D ?_;apply⟨by rw[ah O.ne];exact l,?_,O.ne,i.obj,_,i.ns,λg=>?_,λg L=>?_⟩
 .have:=vv f y fs;nofun
 .show og ((dF f y fs).lookup g) (if g=f then eH u else k g)
  rw[fV];by_cases q:g=f
  .rw[if_pos q,if_pos q];exact m
  .rw[if_neg q,if_neg q];exact r g
 .by_cases q:g=f
  .rw[q];exact(uT f y fs).1
  .refine(uT f y fs).2 g<|wi g λz=>L ?_;show(if g=f then eH u else k g)=none
   rw[if_neg q];exact z
theorem Inv.made(I:Inv X J4 σ H s):Inv X J4 σ (upd (upd H ↑s<|.own<|↑s+1) (↑s+1)<|.ins C ↑s [])
  {s with heap:=(s.heap.push sk).push (vi C ↑s)}:=by
 have g:(s.heap.push sk).get? ↑s=eH sk:=cv s.heap rfl;have h:((s.heap.push sk).push<|vi C ↑s).get? (↑s+1)=eH (vi C ↑s):=by
  have:=cv (s.heap.push sk) (o:=vi C ↑s) rfl;rwa[kQ]at this
 have i:(s.heap.push sk).Ns ↑s (λ_=>none):=⟨sk,#[],_,g,fj,(λe j=>absurd j ∅),λ_=>rfl⟩;have k:=I.laid (a:=↑s) (o:=.own<|↑s+1) (h':=s.heap.push sk) (t':=s.toks) (λb u q=>aT _ q) (aF _) ⟨_,g⟩;refine k.laid (a:=↑s+1) (o:=.ins C ↑s []) (t':=s.toks) (λb u q=>aT _ q) (Nat.le_of_eq<|kQ _ _) ?_;have ne:↑s≠↑s+1:=cr<|Nat.lt_succ_self _;apply⟨by rw[ah ne,aa],cH _,ne,h,λ_=>none,(Heap.Ns1.of_empty i).at λo q=>aT _ q,λ_=>jO,λy l=>absurd rfl l⟩
theorem Nt(l:oo e f i (eval e i)=eval e i)(h:wpAny (model g w) A (eval e i) (λo j=>wpAny (model g w) A (getAttr o f true) Q E j) E s):wpAny (model g w) A (eval (.Attribute e f k) i) Q E s :=
 Attribute_any_ h (by rw[arm_eval_Attribute,l])
end
def ik(K:Za)(ta:TE)(f:Ws):TE:=fun σ H Q=>ta σ H λx H1=>∃a C dx fs v,x=.ref a/\H1 a=eH (.ins C dx fs)/\HX K C/\fk K C f/\fs.lookup f=eH v/\Q v H1
def tj(K:Za)(ta tv:TE)(f:Ws):TS:=λD σ H=>tv σ H λy H1=>ta σ H1 λx H2=>∃a C dx fs,x=.ref a/\H2 a=eH (.ins C dx fs)/\HX K C/\fk K C f/\fs.length<1000 /\
 D.nx σ (upd H2 a<|.ins C dx<|dF f y fs)
section
variable{X:Cx}{o e value:Wr}{f:Ws}{pos pos' J8:Pos}{ta tv:TE}
theorem cR(i:PE X e ta)(j:oo e f X.env (eval e X.env)=eval e X.env):PE X (.Attribute e f pos) (ik X.K ta f):=by
 intro k s σ H Q I h;refine Nt j<|c7 (i k s σ H _ I h) λu z g=>?_;let⟨x,m,p,r,a,C,A,fs,v,ex,t,c,n,l,q⟩:=g;subst ex;obtain rfl:u=Value.ref a:=r;exact F_ p t c n l λB D w y=>⟨v,m,w,y,q⟩
theorem iS(j:PE X o ta)(k:PE X value tv)(m:vg value (eH<|.Attribute o f pos') pos.line X.env=pure false):PS X (.Assign [.Attribute o f pos'] value pos) (tj X.K ta tv f):=by
 intro i s σ H D I h;refine plainObj_wpAny_Assign_Attribute (c7 (k i s σ H _ I h) λu p ⟨y,r,t,v,q⟩=>c7 (j i p σ r _ t q) λw J g=>?_) m;let⟨x,L,z,A,a,C,M,fs,ex,B,c,n,l,E⟩:=g;subst ex;obtain rfl:w=Value.ref a:=A;exact Fp z B c n l v λN G=>⟨σ,_,G,E⟩
end
section
variable{X:Cx}{J4:Zd}{σ:St}{H:Hp}{s:Wl}{A:Wo}{E:Zc}{Q:Zc}{c:Wm}{b:Bool}
inductive jZ(K:Za)(H:Hp):V->Wm->Prop where
 |zr:jZ K H .zr (.type "NoneType")
 |bl (x:Bool):jZ K H (.bl x) (.type "bool")
 |int (i:Int):jZ K H (.int i) (.type "int")
 |str (x:Ws):jZ K H (.str x) (.type "str")
 |TZ (x:UInt64):jZ K H (.TZ x) (.type "float")
 |lst {a:Wk}{xs:List V}(e:H a=eH (.lst xs)):jZ K H (.ref a) (.type "list")
 |oI {a:Wk}{o:Obj}{xs:List V}(e:H a=eH (.oI o (.lst xs))):jZ K H (.ref a) (.type "list")
 |tup {a:Wk}{xs:List V}(e:H a=eH (.tup xs)):jZ K H (.ref a) (.type "tuple")
 |dK {a:Wk}{kvs:List (fK×V)}(e:H a=eH (.dK kvs)):jZ K H (.ref a) (.type "dict")
 |dT {a:Wk}{kvs:List (TK×V)}(e:H a=eH (.dT kvs)):jZ K H (.ref a) (.type "dict")
 |ins {a C dx:Wk}{fs:List (Ws×V)}(e:H a=eH (.ins C dx fs)) (cl:HX K C) (ha:eM K (.ref C) "__class__"=eH (eH (.builtin "object.__class__")))
   (hn:PySem.W.specialIn K (.builtin "object.__class__") "__get__"=eH (eH (.builtin "getset_descriptor.__get__"))) (Wi:PySem.W.takesIn K (.builtin "object.__class__")=eH true)
   (hm:PySem.W.mroIn K C (.type "object")=eH true):jZ K H (.ref a) (.ref C)
theorem Jb(I:Inv X J4 σ H s)(f:RelV x u)(ty:jZ X.K H x t)(e:GL X.K t c=eH b)(h:∀tk,Q (.bool b) {s with toks:=tk}):
  wpAny (model X.prog X.w) A (call (.builtin "isinstance") [u,c]) Q E s:=by
 cases ty with
 |zr=>cases(show u=Value.none from f);exact mn PySem.W.kitx_none I.O' jO e (λz=>nomatch z) h
 |bl y=>cases(show u=Value.bool y from f);exact mn PySem.W.kitx_bool I.O' jO e (λz=>nomatch z) h
 |int i=>let⟨t,q⟩:=(show ∃t,u=Value.int i t from f);cases q;exact mn PySem.W.kitx_int I.O' jO e (λz=>nomatch z) h
 |str y=>let⟨t,q⟩:=(show ∃t,u=Value.str y t from f);cases q;exact mn PySem.W.kitx_str I.O' jO e (λz=>nomatch z) h
 |TZ y=>let⟨t,q⟩:=(show ∃t,u=Value.float y t from f);cases q;exact mn PySem.W.kitx_float I.O' jO e (λz=>nomatch z) h
 |@lst a l g =>
  cases(show u=Value.ref a from f);let⟨_,_,n,_,j⟩:=(show bA X.prog X.w X.K H s.heap a (.lst l)from I.kl a _ g);exact mn PySem.W.kitx_list I.O' ⟨_,j,fj⟩ e (λz=>nomatch z) h
 |@oI a B l g =>
  cases(show u=Value.ref a from f);let⟨_,_,_,n,_,j⟩:=(show bA X.prog X.w X.K H s.heap a (.oI B<|.lst l)from I.kl a _ g);exact mn PySem.W.kitx_list I.O' ⟨_,j,fj⟩ e (λz=>nomatch z) h
 |@tup a l g =>
  cases(show u=Value.ref a from f);let⟨_,_,_,p⟩:=(show bA X.prog X.w X.K H s.heap a (.tup l)from I.kl a _ g);let⟨o,j,m,_⟩:=p;exact mn PySem.W.kitx_tuple I.O' ⟨o,j,m⟩ e (λz=>nomatch z) h
 |@dK a k g =>
  cases(show u=Value.ref a from f);let⟨_,_,T,_,p⟩:=(show bA X.prog X.w X.K H s.heap a (.dK k)from I.kl a _ g);let⟨o,D,G,j,m,_⟩:=p;exact mn PySem.W.kitx_dict I.O' ⟨o,j,m.1⟩ e (λz=>nomatch z) h
 |@dT a k g =>
  cases(show u=Value.ref a from f);let⟨_,_,l,_,o,D,G,j,m,_⟩:=(show bA X.prog X.w X.K H s.heap a (.dT k)from I.kl a _ g);exact mn PySem.W.kitx_dict I.O' ⟨o,j,m.1⟩ e (λz=>nomatch z) h
 |@ins a C U fs g v L M r N =>
  cases(show u=Value.ref a from f);let⟨Y,O,_⟩:=wr I.kl g;let⟨od,J,_⟩:=O.look;exact mn (PySem.W.kitx_own (v.get _) v.hd L M r N) I.O' J e (λz=>nomatch z) h
end
end L2
namespace L2
open PySem Spec PyProof.Rows
structure gh(k:Nat)(A:Wo):Prop where
 hd:A.handled=none
 dp:A.depth+3 * k+5<recursionLimit
 un:A.units+16 * k+200<cLine
theorem gh.mono(r:gh k A)(h:j<=k):gh j A:=⟨r.hd,by have:=r.dp;nofun,by have:=r.un;nofun⟩
theorem gh.deeper(r:gh (k+1) A)(a:Env):gh k (A.deeper a) :=
 ⟨r.hd,by have:=r.dp;show A.depth+1+3 * k+5<_;nofun,by have:=r.un;show A.units+3+16 * k+200<_;nofun⟩
theorem FS{A:Wo}:(A.under<|.builtin "type.__call__" ⟨.ref C::a,e⟩).depth=A.depth+1:=by
 first|rfl|simp[Around.under,Code.weight,Code.isCreation,Code.isGuard,Code.isCaller,Code.frames,Code.isFrame,guardIds]
theorem FR{A:Wo}:(A.under<|.builtin "type.__call__" ⟨.ref C::a,e⟩).units=A.units+1:=by
 first|rfl|simp[Around.under,Code.cUnits,Code.frames,Code.isFrame]
theorem gh.make(r:gh (k+1) A)(C:Wk)(a:Zf)(e:List<|Ws×Wm):gh k (A.under<|.builtin "type.__call__" ⟨.ref C::a,e⟩) :=
 ⟨r.hd,by have:=r.dp;rw[FS];nofun,by have:=r.un;rw[FR];nofun⟩
theorem gh.depth(r:gh k A):A.depth<recursionLimit:=by have:=r.dp;nofun
theorem gh.units(r:gh k A):A.units+64<cLine:=by have:=r.un;nofun
def aW:TA:=λ_ H Q=>Q [] H
def av(ta:TE)(tr:TA):TA:=fun σ H Q=>ta σ H λx H1=>tr σ H1 λxs H2=>Q (x::xs) H2
abbrev aB(a:TE):TA:=av a aW
abbrev aK(a b:TE):TA:=av a<|av b aW
abbrev eP(a b c:TE):TA:=av a<|av b<|av c aW
section
variable{X:Cx}{e:Wr}{es:List Wr}{te:TE}{t:TA}{pos:Pos}
theorem bc:PA X [] aW:=λ_ _ _ _ H Q I h=>C4 ⟨[],H,I,.nil,h⟩
theorem bg(g:PE X e te)(i:PA X es t)(j:aR (e::es) X.env=(false,eval e X.env)::aR es X.env:=by rfl):PA X (e::es) (av te t):=by
 intro pos f s σ H Q I h;rw[j];show wpAny _ _ (wF<|(false,eval e X.env)::backTo pos (aR es X.env)) _ _ s;refine wB<|c7 (g f s σ H _ I h) λu k a=>?_;let⟨x,l,m,n,o⟩:=a;exact c7 (i pos f k σ l _ m o) λy z ⟨p,q,r,v,w⟩=>⟨x::p,q,r,.cons n v,w⟩
def cB(t:TA):TE:=fun σ H Q=>t σ H λxs H1=>xs.length<=ak/\∀p,H1 p=none->Q (.ref p) (upd H1 p<|.tup xs)
def bw(t:TA):TE:=fun σ H Q=>t σ H λxs H1=>xs.length<=ak/\∀p,H1 p=none->Q (.ref p) (upd H1 p<|.lst xs)
theorem be{i}(h:PA X es t):PE X (.Tuple es i pos) (cB t):=by
 intro j s σ H Q I k;refine wpAny_Tuple_spliced (c7 (h pos j s σ H _ I k) λl a ⟨m,f,g,r,z,q⟩=>⟨by rw[<-r.length];exact z,?_⟩);have hf:f ↑a=none:=g.kl.fresh<|aF _;apply⟨.ref ↑a,upd f ↑a<|.tup m,g.laid (t':=a.toks) (λb u e=>aT _ e) (aF _) ?_,fj,q _ hf⟩;exact⟨z,l,r,⟨_,cv _ rfl,fj,_,fj⟩⟩
theorem aN(h:PA X es t):PE X (.List es pos) (bw t):=by
 intro i s σ H Q I j;refine wpAny_List_spliced (c7 (h pos i s σ H _ I j) λk a ⟨l,f,g,r,z,q⟩=>⟨by rw[<-r.length];exact z,?_⟩);have hf:f ↑a=none:=g.kl.fresh<|aF _;apply⟨.ref ↑a,upd f ↑a<|.lst l,g.laid (t':=a.toks) (λb u e=>aT _ e) (aF _) ?_,fj,q _ hf⟩;exact⟨z,k,0,r,cv _ rfl⟩
end
abbrev Sp:=List V->Hp->VK->XK->Prop
abbrev JK:=List Env->Hp->Wl->XK->Wm->Wl->Prop
structure GH(P:bR)(w:Wn)(K:Za)(mg:Ws->Option Wm)(base:Wq)(A:Wo)(outer:List Env)(s:Wl)(H:Hp):Prop where
 frames:A.frames=eH outer
 mod:Mod K mg base
 bs:∀b o,base.get? b=eH o->s.heap.get? b=eH o/\H b=none
 TR:base.objs.size<=↑s
 QK:s.heap.FunFrames base outer
 TY:∀b∈JJ outer,H b=none
 kl:om P w K H s.heap
 bare:so s.gens
def CE(outer:List Env)(P:bR)(w:Wn)(K:Za)(H:Hp)(s:Wl)(Q:VK)(u:Wm)(s':Wl):Prop :=
 ∃v H',s'.os=s.os/\so s'.gens/\Un (JJ outer) [] H H' s.heap s'.heap/\om P w K H' s'.heap/\RelV v u/\Q v H'
def CR(CX:JK)(outer:List Env)(P:bR)(w:Wn)(K:Za)(H:Hp)(s:Wl)(Q:VK)(E:XK)(r:Result)(s':Wl):Prop :=
 match r with
 |.ok (.ret u)=>CE outer P w K H s Q u s'
 |.ok _=>False
 |.error e=>CX outer H s E e s'
structure pe(P:bR)(w:Wn)(K:Za)(mg:Ws->Option Wm)(base:Wq)(CX:JK)(k:Nat)(f:Wk)(fd:nO)(ps:Zb)(sp:Sp):Prop where
 len:∀vs H Q E,sp vs H Q E->vs.length=ps.length
 run:∀(A:Wo) (outer:List Env) (s:Wl) (H:Hp) (args:Args) (us:Zf) (vs:List V) (Q:VK) (E:XK),gh k A->GH P w K mg base A outer s H->wA s fd args (ps.zip us)->bG vs us->sp vs H Q E ->
  D8 (model P w) A (.call (.ref f) args) (CR CX outer P w K H s Q E) s
theorem GH.make{K:Za}(e:GH P w K a base A outer s H)(C:Wk)(f:Zf)(g:List<|Ws×Wm):
  GH P w K a base (A.under<|.builtin "type.__call__" ⟨.ref C::f,g⟩) outer s H:=⟨by first|exact e.frames|(simpa[Around.under,Code.envs,Code.isFrame,pushEnvs]using e.frames),e.mod,e.bs,e.TR,e.QK,e.TY,e.kl,e.bare⟩
section
variable{X:Cx}{J4:Zd}{σ:St}{H:Hp}{s s':Wl}
theorem Inv.UC(I:Inv X J4 σ H s):GH X.prog X.w X.K X.mg X.base X.A X.stack s H :=
 ⟨I.ok.frames,I.ok.mod,I.bs,bH I.ok.TR I.sz,I.stack,I.SH,I.kl,I.bare⟩
theorem Inv.after(I:Inv X J4 σ H s)(h:CE X.stack X.prog X.w X.K H s Q u s'):EP X J4 σ Q u s':=by
 let⟨v,i,os,a,un,e,r,q⟩:=h;let⟨j,g,d,t,f⟩:=s';obtain rfl:f=s.os:=os;exact⟨v,i,I.call (h':=j) (g':=g) (d':=d) (t':=t) (ch:=[]) un e a (λb z=>absurd z ∅),r,q⟩
end
def NL(sp:Sp)(RD:List V)(E:XK)(t:TA):TE:=fun σ H Q=>t σ H λvs H1=>sp (vs++RD) H1 Q E
def cF(C:Wk)(m:Ws)(sp:Sp)(RD:List V)(E:XK)(ta:TE)(t:TA):TE:=fun σ H Q=>ta σ H λx H1=>∃a dx fs,x=.ref a/\H1 a=eH (.ins C dx fs)/\fs.lookup m=none /\
 t σ H1 λvs H2=>sp (x::(vs++RD)) H2 Q E
def z6(C:Wk)(sp:Sp)(RD:List V)(E:XK)(t:TA):TE:=fun σ H Q=>t σ H λvs H1=>∀x dx,H1 x=none->H1 dx=none->dx≠x ->
 sp (.ref x::(vs++RD)) (upd (upd H1 dx<|.own x) x<|.ins C dx []) (λv H2=>v=.zr/\Q (.ref x) H2) E
def Binds(K:Za)(fd:nO)(ps:Zb)(ds:Zf):Prop :=
 ∀(s:Wl) (us:Zf),K.In s.heap->(us++ds).length=ps.length->wA s fd ⟨us,[]⟩ (ps.zip<|us++ds)
theorem Binds.all{K:Za}(h:∀a:List Wm,a.length=e.length->bindArgs f ⟨a,[]⟩=pure (e.zip a)):Binds K f e []:=λs a _ g=>by
 rw[dj]at g ⊢;exact .of_eq<|h a g
def rR(CX:JK)(X:Cx)(E:XK):Prop:=∀(J4:Zd) (σ:St) (H:Hp) (s:Wl) (e:Wm) (s':Wl),Inv X J4 σ H s->CX X.stack H s E e s'->X.xe e s'
section
variable{X:Cx}{CX:JK}{k:Nat}{f C:Wk}{fd:nO}{ps:Zb}{sp:Sp}{RD:List V}{ds:Zf}{E:XK}{x m:Ws}{p pos J6:Pos}{e o:Wr}{es:List Wr}{ta:TE}{t:TA}
theorem Fs(F:pe X.prog X.w X.K X.mg X.base CX k f fd ps sp)(j:gh k X.A)(l:Binds X.K fd ps ds)(n:bG RD ds)(hx:rR CX X E)(I:Inv X g σ H s)(r:bG vs us)(h:sp (vs++RD) H Q E):wpAny (model X.prog X.w) X.A (call (.ref f) us) (EP X g σ Q) X.xe s:=by
 have i:bG (vs++RD) (us++ds):=r.append n;have q:(us++ds).length=ps.length:=by rw[<-i.length];exact F.len _ _ _ _ h
 refine wpAny_call<|GK (F.run X.A X.stack s H ⟨us,[]⟩ (us++ds) (vs++RD) Q E j I.UC (l s us I.O' q) i h) λr v a=>?_;cases r with
 |error e=>exact hx g σ H s e v I a
 |ok y =>
  cases y with
  |ret u=>exact I.after a
  |next=>exact mq a
  |brk=>exact mq a
  |cont=>exact mq a
theorem M6(F:pe X.prog X.w X.K X.mg X.base CX k f fd ps sp)(j:gh k X.A)(l:Gl X x)(n:X.mg x=eH (.ref f))(u:ka X.K (.ref f)=true)(v:Binds X.K fd ps ds)(y:bG RD ds)(hx:rR CX X E)
  (z:PA X (e::es) t) (a:(x==("__debug__":Ws))=false:=by decide) (B:aR (e::es) X.env=(false,eval e X.env)::aR es X.env:=by rfl) (g:(backTo pos<|aR es X.env).any (·.1)=false:=by rfl) :
  PE X (.Call (.Name x p) (e::es) [] pos) (NL sp RD E t):=by
 intro D s σ H Q I h;refine zO<|Cb I l n ?_ a;refine PySem.W.callWith_K (h₀:=X.base) I.ok.mod.Uy u (c7 (z pos D s σ H _ I h) λG J ⟨L,M,i,r,q⟩=>⟨i.O',?_⟩) B g;exact Fs F j v y hx i r q
theorem MX{pl:Sem Bool}(D:PE X o ta)(c:HX X.K C)(n:NA X.K C m f)(F:pe X.prog X.w X.K X.mg X.base CX k f fd ps sp)(G:gh k X.A)(J:Binds X.K fd ps ds)(L:bG RD ds)(hx:rR CX X E)(M:PA X (e::es) t)
  (g:aR (e::es) X.env=(false,eval e X.env)::aR es X.env:=by rfl) (i:(backTo pos<|aR es X.env).any (·.1)=false:=by rfl)
  (N:eval (.Call (.Attribute o m J6) (e::es) [] pos) X.env=(do
   let v <- eval o X.env
   vh J6.atName
   let(f,first) <- nR [v] (vd v m pl)
   zN pos f first (backTo pos<|aR (e::es) X.env) (vc pos<|oG [] X.env)):=by rfl) :
  PE X (.Call (.Attribute o m J6) (e::es) [] pos) (cF C m sp RD E ta t):=by
 intro y s σ H Q I h;refine PySem.W.methodCall_KW (pl:=pl) (c7 (D y s σ H _ I h) λu O j=>?_) N;let⟨x,T,z,U,a,dx,fs,ex,Y,l,q⟩:=j;subst ex;obtain rfl:u=Value.ref a:=U;refine yb z Y c n l ?_;refine PySem.W.callWith_K (first:=[.ref a]) (h₀:=X.base) I.ok.mod.Uy n.kp (c7 (M pos y O σ T _ z q) λus s2 ⟨vs,H2,B,r,q2⟩=>⟨B.O',?_⟩) g i
 exact Fs (us:=.ref a::us) (vs:=.ref a::vs) F G J L hx B (.cons rfl r) q2
theorem KZ{pl:Sem Bool}(r:PE X o ta)(c:HX X.K C)(j:NA X.K C m f)(F:pe X.prog X.w X.K X.mg X.base CX k f fd ps sp)(v:gh k X.A)(y:Binds X.K fd ps ds)(z:bG RD ds)(hx:rR CX X E)
  (B:eval (.Call (.Attribute o m J6) [] [] pos) X.env=(do
   let n <- eval o X.env
   vh J6.atName
   let(f,first) <- nR [n] (vd n m pl)
   zN pos f first (backTo pos<|aR [] X.env) (vc pos<|oG [] X.env)):=by rfl) :
  PE X (.Call (.Attribute o m J6) [] [] pos) (cF C m sp RD E ta aW):=by
 intro D s σ H Q I h;refine PySem.W.methodCall_KW (pl:=pl) (c7 (r D s σ H _ I h) λu L g=>?_) B;let⟨x,M,i,G,a,N,fs,ex,J,l,q⟩:=g;subst ex;obtain rfl:u=Value.ref a:=G;refine yb i J c j l ?_;exact PySem.W.callWith_K0 (first:=[.ref a]) i.O' j.kp<|Fs (us:=[.ref a]) (vs:=[.ref a]) F v y z hx i (.cons rfl .nil) q
structure Mk(K:Za)(C f:Wk):Prop where
 makes:wC K C=true
 init:eM K (.ref C) "__init__"=eH (eH (.ref f))
 fn:C5 K (.ref f)=true
 kp:ka K (.ref C)=true
theorem Kk(M:Mk X.K C f)(F:pe X.prog X.w X.K X.mg X.base CX k f fd ps sp)(z:gh (k+1) X.A)(B:Binds X.K fd ps ds)(D:bG RD ds)(hx:rR CX X E)(I:Inv X l σ H s)(r:bG n g)(h:∀x i,H x=none->H i=none->i≠x->sp (.ref x::(n++RD)) (upd (upd H i<|.own x) x<|.ins C i []) (λv G=>v=.zr/\Q (.ref x) G) E) :
  wpAny (model X.prog X.w) X.A (call (.ref C) g) (EP X l σ Q) X.xe s:=by
 have q:=h (↑s+1) ↑s (I.kl.fresh<|qZ _) (I.kl.fresh<|aF _)<|cr<|Nat.lt_succ_self _;have j:=Inv.made (C:=C) I;have y:bG (V.ref (↑s+1)::(n++RD)) (Value.ref (↑s+1)::(g++ds)):=.cons rfl<|r.append D;have J:(Value.ref (↑s+1)::g++ds).length=ps.length:=by
  have e:=y.length;rw[F.len _ _ _ _ q]at e;exact e.symm
 refine wpAny_call (K_ (f:=f) I.O' M.makes M.init (beq_iff_eq.mp M.fn) (GK (F.run _ X.stack _ _ ⟨Value.ref (↑s+1)::g,[]⟩ (Value.ref (↑s+1)::(g++ds)) _ _ E (z.make C g [])
  (j.UC.make C g []) (B _ (Value.ref (↑s+1)::g) j.O' J) y q) λr L a=>?_))
 cases r with
 |error e=>exact hx l σ _ _ e L j a
 |ok N =>
  cases N with
  |ret u =>
   let⟨v,O,T,U,Y,q3⟩:=j.after a;subst Y;exact⟨U,⟨V.ref<|↑s+1,O,T,fj,q3⟩⟩
  |next=>exact mq a
  |brk=>exact mq a
  |cont=>exact mq a
theorem MY(M:Mk X.K C f)(F:pe X.prog X.w X.K X.mg X.base CX k f fd ps sp)(j:gh (k+1) X.A)(l:Gl X x)(n:X.mg x=eH (.ref C))(u:Binds X.K fd ps ds)(v:bG RD ds)(hx:rR CX X E)
  (y:PA X (e::es) t) (a:(x==("__debug__":Ws))=false:=by decide) (z:aR (e::es) X.env=(false,eval e X.env)::aR es X.env:=by rfl) (g:(backTo pos<|aR es X.env).any (·.1)=false:=by rfl) :
  PE X (.Call (.Name x p) (e::es) [] pos) (z6 C sp RD E t):=by
 intro B s σ H Q I h;refine zO<|Cb I l n ?_ a;refine PySem.W.callWith_K (h₀:=X.base) I.ok.mod.Uy M.kp (c7 (y pos B s σ H _ I h) λD G ⟨J,L,i,r,q⟩=>⟨i.O',?_⟩) z g;exact Kk M F j u v hx i r q
end
structure nF(N P:Zb)(sc:Scope):Prop where
 kind:sc.kind=.function
 co:sc.isCoroutine=false
 gen:sc.isGenerator=false
 nd:N.Nodup
 pre:N.take P.length=P
 par:∀x∈P,sc.names.lookup x=eH .local∨sc.names.lookup x=eH .cell
 Uc:∀y∈sc.names,y.2≠.free
theorem Ay{kindOf:Ws->Option iL}{x:Ws}:∀{binds:List (Ws×Wm)}{m:Ws->Option Wm},(∀v,(x,v)∉binds)->bindL kindOf binds m x=m x
 |[],_,_=>rfl
 | (n,v)::r,m,h=>by
  unfold bindL;rw[Ay λw a=>h w<|eN _ a];split
  .have:x≠n:=by rintro rfl;exact h v cT
   simp[this]
  .rfl
theorem AA{kindOf:Ws->Option iL}{x:Ws}:∀{binds:List (Ws×Wm)}{m:Ws->Option Wm},(∀v,(x,v)∉binds)->bindC kindOf binds m x=m x
 |[],_,_=>rfl
 | (n,v)::r,m,h=>by
  unfold bindC;rw[AA λw a=>h w<|eN _ a];split
  .rfl
  .have:x≠n:=by rintro rfl;exact h v cT
   simp[this]
theorem Az{kindOf:Ws->Option iL}{x:Ws}{v:Wm}:∀{P:Zb}{a:Zf}{i:Nat}{m:Ws->Option Wm},P.Nodup->P[i]?=eH x->a[i]?=eH v->kindOf x=eH .local ->
  bindL kindOf (P.zip a) m x=eH v
 |[],_,_,_,_,h,_,_=>by simp at h
 |_::_,[],_,_,_,_,h,_=>by simp at h
 |p::P,w::a,0,m,g,e,f,j=>by
  simp at e f;subst e;subst f;show bindL kindOf ((p,w)::P.zip a) m p=_;unfold bindL;rw[Ay λv k=>(gj.mp g).1 (List.of_mem_zip k).1,if_pos j];simp
 |p::P,w::a,i+1,m,g,e,f,j=>by
  show bindL kindOf ((p,w)::P.zip a) m x=_;unfold bindL;exact Az (i:=i) (gj.mp g).2 ‹e› ‹f› j
theorem AB{kindOf:Ws->Option iL}{x:Ws}{v:Wm}:∀{P:Zb}{a:Zf}{i:Nat}{m:Ws->Option Wm},P.Nodup->P[i]?=eH x->a[i]?=eH v->kindOf x≠eH .local ->
  bindC kindOf (P.zip a) m x=eH v
 |[],_,_,_,_,h,_,_=>by simp at h
 |_::_,[],_,_,_,_,h,_=>by simp at h
 |p::P,w::a,0,m,g,e,f,j=>by
  simp at e f;subst e;subst f;show bindC kindOf ((p,w)::P.zip a) m p=_;unfold bindC;rw[AA λv k=>(gj.mp g).1 (List.of_mem_zip k).1,if_neg j];simp
 |p::P,w::a,i+1,m,g,e,f,j=>by
  show bindC kindOf ((p,w)::P.zip a) m x=_;unfold bindC;exact AB (i:=i) (gj.mp g).2 ‹e› ‹f› j
def start(N:Zb)(vs:List V):St:=vs.map eH++qY (N.length-vs.length) none
def Gg(CX:JK)(P:bR)(w:Wn)(K:Za)(mg:Ws->Option Wm)(base:Wq)(N:Zb)(qual:Ws)(scope:Scope)(f:Wk)(cd:Wm)(A:Wo)(outer:List Env)(s:Wl)(H:Hp)(E:XK):Cx where
 prog:=P
 w:=w
 K:=K
 mg:=mg
 base:=base
 A:=A.deeper<|envOfC qual scope ↑s f cd
 N:=N
 s₀:=s
 H₀:=H
 env:=envOfC qual scope ↑s f cd
 outer:=outer
 stack:=envOfC qual scope ↑s f cd::outer
 ex:=[]
 calm:=true
 fn:=λ_=>true
 pn:=[]
 xe:=λe s'=>wpAny (model P w) (A.deeper<|envOfC qual scope ↑s f cd) (leaving (envOfC qual scope ↑s f cd) e) (λ_ US=>CX outer H s E e US) (λe' US=>CX outer H s E e' US) s'
theorem Ex{a:Scope}(h:a.names.lookup x=eH .cell):∃c,(cellsFrom n a.names []).lookup x=eH c:=by
 have q:=PySem.W.cellsFrom_some a.names n []<|.inl h;exact Bw.mp q
theorem Jd{K:Za}(S:nF N m scope)(T:A.handled=none)(l:GH P w K I base A outer s H)(hl:o.length=m.length)(r:bG o J)(x:InCallC s ↑s (bindL (envOfC g scope ↑s f D).kindOf (m.zip J) λ_=>none) (cellsFrom (↑s+1) scope.names []) (bindC (envOfC g scope ↑s f D).kindOf (m.zip J) λ_=>none) M) :
  Inv (Gg L P w K I base N g scope f D A outer s H E) [] (start N o) H M:=by
 have U:m.length<=N.length:=by have:=congrArg List.length S.pre;rw[aS]at this;nofun
 let⟨G,tk,rfl,O⟩:=x.done;have t:∀b:Wk,b∉(Gg L P w K I base N g scope f D A outer s H E).ex:=λb z=>absurd (show b∈([]:Ze)from z) ∅;apply⟨⟨l.mod,S.kind,fj,fj,aF _,λy z c G j=>?_,λy hy=>?_,λy c _ h=>?_,λ_=>T,Around.frames_deeper l.frames,.inr ⟨fj,fj⟩,λb z=>absurd z<|t b,l.bs,l.TR,λb _ _=>t b,λb z=>absurd z<|t b,l.QK,l.TY⟩,
  rfl,l.bare,Un.kept O,⟨_,x.toInCall.ns,λi y v G j h3=>?_⟩,λy c h=>⟨_,x.cell y c h⟩,l.kl.fresh<|aF _,λy c h=>?_,λp B=>absurd (show p∈([]:Zd)from B) ∅,l.kl.kept O,?_⟩
 .exact name_of_addr x.apart (xa G)<|xa j
 .have hy:scope.names.lookup y=eH .cell∨scope.names.lookup y=eH .free:=hy;obtain hy|hy:=hy
  .exact Ex hy
  .exact absurd rfl<|S.Uc _<|xa hy
 .exact cA<|x.above y c<|xa h
 .have hi:i<o.length:=by
   unfold start at j;by_cases hi:i<o.length
   .exact hi
   .rw[oF ‹hi›]at j;rw[List.getElem?_replicate]at j;split at j<;>cases j
  have Y:o[i]?=eH v:=by
   unfold start at j;rw[iK ‹hi›,bV]at j;cases e:o[i]? with
   |none=>rw[e]at j;cases j
   |some a=>rw[e]at j;cases j;rfl
  let⟨u,Q,rv⟩:=r.get Y;have B:m[i]?=eH y:=by
   rw[<-S.pre,qX ⋯];exact G
  have C:m.Nodup:=by rw[<-S.pre];exact S.nd.sublist<|List.take_sublist _ _
  apply⟨u,rv,?_⟩;obtain k|k:=S.par y (cj B)
  .exact .inl ⟨k,Az C B Q k⟩
  .obtain⟨c,e⟩:=Ex (n:=↑s+1) k;refine .inr ⟨.inl k,c,e,?_⟩;have q:=x.cell y c e;rw[AB C B Q (by show scope.names.lookup y≠_;rw[k];decide)]at q;exact q
 .exact l.kl.fresh<|cA<|x.above y c<|xa h
 .unfold start;show _=N.length;rw[aA,ag,List.length_replicate];nofun
theorem O9{D:JK}{P:bR}{w:Wn}{K:Za}{G:Ws->Option Wm}{base:Wq}{k:Nat}{f:Wk}{name a:Ws}{params:Arguments}{h:List Stmt}{scope:Scope}{dV kV doc pm g ct oc:Wm}{an od:Option Wk}
  {L:Array (Option Wm)}{N ps:Zb}{M:Sp}(lk:K.lookup f=eH ⟨oc,od,.func<|ki name a params h scope dV kV doc pm an g ct,L⟩) (O:qW K g a=true) (S:nF N ps scope)
  (len:∀i H Q E,M i H Q E->i.length=ps.length)
  (j:∀(A:Wo) (outer:List Env) (s:Wl) (H:Hp) (i:List V) (Q:VK) (E:XK),gh k (A.deeper<|envOfC a scope ↑s f g)->M i H Q E ->
   ∃t,EQ (Gg D P w K G base N a scope f g A outer s H E) h t/\t (bT Q) (start N i) H) :
  pe P w K G base D (k+1) f (ki name a params h scope dV kV doc pm an g ct) ps M:=by
 apply⟨len,λA outer s H args us i Q E T z hb r B=>?_⟩;have hl:=len _ _ _ _ B;have KX:K.In s.heap:=z.mod.Uy.keeps λb o e=>(z.bs b o e).1;have U:s.heap.NoLimit:=z.mod.nolimit.keeps λb o e=>(z.bs b o e).1;have l:∀y∈ps.zip us,scope.names.lookup y.1=eH .local∨(scope.names.lookup y.1=eH .cell/\((cellsFrom (↑s+1) scope.names []).lookup y.1).isSome=true):=λ⟨n,v⟩ hy=>by
  obtain q|q:=S.par n (List.of_mem_zip hy).1
  .exact .inl q
  .exact .inr ⟨q,PySem.W.cellsFrom_some _ _ _<|.inl q⟩
 refine codeAny_call_function T.depth (KX _ _ lk) rfl S.co S.gen rfl (PySem.W.codeRec_of KX O)<|hb _ _ _ _ ?_;refine wpAny_newFunctionEnv_cells S.kind l λal he s1 x=>?_;subst he;apply⟨U.keeps x.toInCall.keep,codeAny_func ?_⟩;let⟨t,ht,hq⟩:=j A outer s H i Q E (T.deeper _) B;have I:Inv (Gg D P w K G base N a scope f g A outer s H E) [] (start N i) H s1:=Jd S T.hd z hl r x;refine sr (ht [] s1 (start N i) H _ I hq) (λfl Y m=>?_) λe Y m=>m;have C:∀{σ':St}{p:Hp}{v:V}{u:Wm},Inv (Gg D P w K G base N a scope f g A outer s H E) [] σ' p Y->RelV v u->Q v p->CE outer P w K H s Q u Y :=
  fun{σ' p v u} J rv q=>⟨v,p,J.os,J.bare,J.base,J.kl,rv,q⟩
 cases fl with
 |ret u =>
  obtain⟨v,σ',p,J,rv,q⟩:=m;exact C J rv q
 |next =>
  obtain⟨σ',p,J,q⟩:=m;exact C (v:=V.zr) (u:=Value.none) J rfl q
 |brk =>
  let⟨_,_,_,q⟩:=m;exact mq q
 |cont =>
  let⟨_,_,_,q⟩:=m;exact mq q
end L2
namespace L2
open PySem Spec PyProof.Rows
section
variable{X:Cx}{x:Ws}{p pos:Pos}{e:Wr}{es:List Wr}{t:TA}{id T:String}{r:List V->Hp->VK->Prop}
def dL(r:List V->Hp->VK->Prop)(t:TA):TE:=fun σ H Q=>t σ H λvs H1=>r vs H1 Q
theorem DJ(i:hZ X (.builtin id) r)(j:Gl X x)(k:X.mg x=none)(l:kR x=eH (.builtin id))(m:PA X (e::es) t)(n:x≠"__name__":=by decide)(a:(x==("__debug__":Ws))=false:=by decide)
  (o:aR (e::es) X.env=(false,eval e X.env)::aR es X.env:=by rfl) (f:(backTo pos<|aR es X.env).any (·.1)=false:=by rfl):PE X (.Call (.Name x p) (e::es) [] pos) (dL r t):=by
 intro g s σ H Q I h;refine zO<|kG I j k l ?_ n a;exact PyProof.Rows.callWith_builtin1 (c7 (m pos g s σ H _ I h) λq u ⟨v,w,y,z,A⟩=>i g u σ w v q Q y z A) o f
theorem iU(i:hZ X (.type T) r)(j:Gl X x)(k:X.mg x=none)(l:kR x=eH (.type T))(m:PA X (e::es) t)(n:x≠"__name__":=by decide)(a:(x==("__debug__":Ws))=false:=by decide)
  (o:aR (e::es) X.env=(false,eval e X.env)::aR es X.env:=by rfl) (f:(backTo pos<|aR es X.env).any (·.1)=false:=by rfl):PE X (.Call (.Name x p) (e::es) [] pos) (dL r t):=by
 intro g s σ H Q I h;refine zO<|kG I j k l ?_ n a;exact wD (c7 (m pos g s σ H _ I h) λq u ⟨v,w,y,z,A⟩=>i g u σ w v q Q y z A) o f
end
end L2
namespace HT
open PySem PyProof.Rows
section
variable{prog:bR}{w:Wn}{A:Wo}{E:Zc}{s:Wl}
def PJ(n d:Nat):Option Int->Nat
 |none=>d
 |some v=>if v<0 then(v+(n:Int)).toNat else min v.toNat n
theorem P4(n d:Nat):PJ n d none=d:=rfl
theorem Qb(n d k:Nat):PJ n d (eH (k:Int))=min k n:=by
 show(if(k:Int)<0 then((k:Int)+(n:Int)).toNat else min (k:Int).toNat n)=min k n
 rw[if_neg ⋯,gM]
theorem Tn(n d:Nat)(e:d<=n)(o:Option Int):PJ n d o<=n:=by
 cases o with
 |none=>exact e
 |some v =>
  show(if v<0 then(v+(n:Int)).toNat else min v.toNat n)<=n
  by_cases a:v<0
  .rw[if_pos a];nofun
  .rw[if_neg a];exact Nat.min_le_right _ _
theorem TQ(v:Int)(n d:Nat):(if v<0 then max (v+(n:Int)) 0 else min v (n:Int))=((PJ n d (eH v):Nat):Int):=by
 show(if v<0 then max (v+(n:Int)) 0 else min v (n:Int))=(((if v<0 then(v+(n:Int)).toNat else min v.toNat n):Nat):Int)
 by_cases a:v<0
 .simp only[if_pos a];nofun
 .simp only[if_neg a];nofun
end
end HT
namespace L2
open PySem Spec PyProof.Rows
abbrev TO:=St->Hp->(Option Int->Hp->Prop)->Prop
def PO(X:Cx)(e:Option Wr)(t:TO):Prop :=
 ∀(J4:Zd) (s:Wl) (σ:St) (H:Hp) (Q:Option Int->Hp->Prop),Inv X J4 σ H s->t σ H Q ->
  wpAny (model X.prog X.w) X.A (evalPart e X.env) (λu s'=>∃o H',Inv X J4 σ H' s'/\IsPart u o/\Q o H') X.xe s
def jj:TO:=λ_ H Q=>Q none H
def nV(t:TE):TO:=fun σ H Q=>t σ H λx H1=>∃i,x=.int i/\Q (eH i) H1
section
variable{X:Cx}{e:Wr}{te:TE}{lo hi:Option Wr}{tl th:TO}{pos p2:Pos}
theorem jV:PO X none jj:=by
 intro a s σ H Q I h;rw[evalPart_none];exact ax ⟨none,H,I,.none,h⟩
theorem iq(h:PE X e te):PO X (eH e) (nV te):=by
 intro f s σ H Q I g;rw[evalPart_some];refine c7 (h f s σ H _ I g) λu n a=>?_;let⟨x,j,k,l,m⟩:=a;let⟨i,rfl,q⟩:=m;let⟨t,rfl⟩:=l;exact⟨eH i,j,k,.int i t,q⟩
def N2(X:Cx)(r:V->Option Int->Option Int->Hp->VK->Prop):Prop :=
 ∀(J4:Zd) (s:Wl) (σ:St) (H:Hp) (x:V) (v vl vu:Wm) (lo hi:Option Int) (sl:Wk) (Q:VK),Inv X J4 σ H s->RelV x v->s.heap.IsSliceOf sl vl vu .none->IsPart vl lo->IsPart vu hi->r x lo hi H Q ->
  ∃T id,w_ (.type T) "__getitem__"=pure (eH<|.builtin id)/\s.TypeIs v T/\wpAny (model X.prog X.w) X.A (qV v<|.ref sl) (EP X J4 σ Q) X.xe s
theorem N2.or(h:N2 X r)(o:N2 X a):N2 X (λx lo hi H Q=>r x lo hi H Q∨a x lo hi H Q):=by
 intro f s σ H x v g i lo hi j Q I k l m n q;obtain q|q:=q
 .exact h f s σ H x v g i lo hi j Q I k l m n q
 .exact o f s σ H x v g i lo hi j Q I k l m n q
def Ka(r:V->Option Int->Option Int->Hp->VK->Prop)(te:TE)(tl th:TO):TE:=fun σ H Q=>te σ H λx H1=>tl σ H1 λl H2=>th σ H2 λu H3=>r x l u H3 Q
theorem gu(m:N2 X r)(n:PE X e te)(o:PO X lo tl)(p:PO X hi th):PE X (.Subscript e (.Slice lo hi none p2) pos) (Ka r te tl th):=by
 intro g s σ H Q I h;refine Subscript_<|c7 (n g s σ H _ I h) λv t f=>?_;let⟨x,y,z,B,C⟩:=f;refine wpAny_Slice<|c7 (o g t σ y _ z C) λi D ⟨l,E,G,J,L⟩=>c7 (p g D σ E _ G L) λj a f=>?_;let⟨u,k,M,N,O⟩:=f;rw[evalPart_none];refine ax ?_;have U:Inv X g σ k {a with heap:=a.heap.push { cls:=.type "slice",data:=.fields #[i,j,.none]}}:=M.kept (t':=a.toks) λb ob q=>aT _ q;let⟨T,id,Y,ht,hg⟩:=m g {a with heap:=a.heap.push { cls:=.type "slice",data:=.fields #[i,j,.none]}} σ k x v i j l u ↑a Q U B (Heap.IsSliceOf.new ..) J N O;show wpAny (model X.prog X.w) X.A (subscriptTail e (.Slice lo hi none p2) v<|.ref ↑a) (EP X g σ Q) X.xe {a with heap:=a.heap.push { cls:=.type "slice",data:=.fields #[i,j,.none]}};exact tail_any (ops:=[.ref ↑a,v]) ht Y hg (by with_unfolding_all rfl)
def mM(xs:List V)(lo hi:Option Int):List V:=(xs.drop<|HT.PJ xs.length 0 lo).take<|HT.PJ xs.length xs.length hi-HT.PJ xs.length 0 lo
theorem Et(a:List V)(lo hi:Option Int):(mM a lo hi).length<=a.length:=by
 unfold mM;rw[aS,lX];nofun
end
end L2
namespace L2
open PySem Spec PyProof.Rows
def NU(n:Nat)(i:Int):Option Nat:=if 0<=i then(if i<n then eH i.toNat else none)else if -(n:Int)<=i then eH (i+n).toNat else none
def yP{α:Type}(xs:List α)(i:Int):Option α:=(NU xs.length i).bind λj=>xs[j]?
theorem Ht(h:NU n i=eH j):seqIndex? i n=eH j/\j<n/\-(n:Int)<=i/\i<n:=by
 unfold NU at h;by_cases f:0<=i
 .rw[if_pos f]at h;by_cases a:i<n
  .rw[if_pos a]at h;have e:i.toNat=j:=gp h;exact⟨by rw[seqIndex_of f a,e],by nofun,by nofun,a⟩
  .rw[if_neg a]at h;cases h
 .rw[if_neg f]at h;by_cases a:-(n:Int)<=i
  .rw[if_pos a]at h;have e:(i+n).toNat=j:=gp h;exact⟨by rw[seqIndex_neg ⋯ a,e],by nofun,a,by nofun⟩
  .rw[if_neg a]at h;cases h
theorem CG(h:yP a i=eH v):∃j,seqIndex? i a.length=eH j/\a[j]?=eH v/\j<a.length/\-(a.length:Int)<=i/\i<a.length:=by
 unfold yP at h;cases e:NU a.length i with
 |none=>rw[e]at h;cases h
 |some j =>
  rw[e]at h;let⟨f,g,k,l⟩:=Ht e;exact⟨j,f,h,g,k,l⟩
theorem cO{α:Type}{a:List α}{j:Nat}{v:α}(h:a[j]?=eH v):yP a (j:Int)=eH v:=by
 have f:j<a.length:=(bY.mp h).1;have e:NU a.length (j:Int)=eH j:=by
  unfold NU;rw[if_pos ⋯,if_pos ⋯];simp
 unfold yP;rw[e];exact h
def Nx(b:Wr):Prop:=∀o i,Bv b false o i=operate [o,i] (qV o i)
def NB(X:Cx)(r:R2):Prop :=
 ∀(value slice:Wr) (J4:Zd) (s:Wl) (σ:St) (H:Hp) (x y:V) (v u:Wm) (Q:VK),Inv X J4 σ H s->RelV x v->RelV y u->r x y H Q ->
  Bv slice false v u=operate [v,u] (qV v u)->wpAny (model X.prog X.w) X.A (subscriptTail value slice v u) (EP X J4 σ Q) X.xe s
def VL(X:Cx)(id:String)(r:V->List V->Hp->VK->Prop):Prop :=
 ∀(J4:Zd) (s:Wl) (σ:St) (H:Hp) (x:V) (xs:List V) (v:Wm) (us:Zf) (Q:VK),Inv X J4 σ H s->RelV x v->bG xs us->r x xs H Q ->
  wpAny (model X.prog X.w) X.A (call (.builtin id)<|v::us) (EP X J4 σ Q) X.xe s
section
variable{X:Cx}{a b:Wr}{ta tb:TE}{pos:Pos}
theorem NB.or(h:NB X r)(k:NB X e):NB X (λx y H Q=>r x y H Q∨e x y H Q):=by
 intro value slice f s σ H x y v u Q I g i q j;obtain q|q:=q
 .exact h value slice f s σ H x y v u Q I g i q j
 .exact k value slice f s σ H x y v u Q I g i q j
theorem Hf(e:NB X r)(f:PE X a ta)(g:PE X b tb)(i:Nx b):PE X (.Subscript a b pos) (aI r ta tb):=by
 intro j s σ H Q I h;exact Subscript_<|OD f g I h λv u k x y l m n o q=>e a b j k σ l x y v u Q m n o q<|i _ _
def dE(K:Za):R2:=λx y H Q=>∃p xs i v,x=.ref p/\y=.int i/\az K H p xs/\yP xs i=eH v/\Q v H
def io(K:Za):R2:=λx y H Q=>∃p xs i v,x=.ref p/\y=.int i/\bE K H p xs/\yP xs i=eH v/\Q v H
def FG:R2:=λx y H Q=>∃z i c,x=.str z/\y=.int i/\z.length<=ak/\yP z.cps.toList i=eH c/\Q (.str ⟨#[c]⟩) H
theorem Hs:NB X (dE X.K):=by
 intro value slice n s σ H x y v u Q I C D h o;let⟨p,T,i,z,rfl,rfl,E,G,q⟩:=h;cases C;let⟨t,rfl⟩:=D;let⟨g,r,k,U⟩:=I.list E;let⟨j,f,J,Y,L,M⟩:=CG G;let⟨w,A,l⟩:=r.get J;have N:=r.length;have hn:=uS;have e:EP X n σ Q w s:=⟨z,H,I,l,q⟩;by_cases B:0<=i
 .have m:i.toNat=j:=by
   rw[seqIndex_of B M]at f;exact gp f
  exact item_listR k.isList B ⋯ (by rw[m];simpa using A) e o
 .have m:(i+(g.toArray.size:Int)).toNat=j:=by
   rw[seqIndex_neg ⋯ L]at f;rw[cx,<-N];exact gp f
  exact subscriptTail_builtinR (x:=w) k.isList.typeIs slot_list_getitem.lookup
   (wpAny_getItem_list_neg (Q:=λr O=>r=w/\EP X n σ Q r O) k.isList ⋯ (by rw[cx]<;>nofun) ⋯ (by rw[m];simpa using A) ⟨fj,e⟩) o
theorem Ld:NB X (io X.K):=by
 intro value slice g s σ H x y v u Q I l m h n;let⟨p,L,i,z,rfl,rfl,o,A,q⟩:=h;cases l;let⟨t,rfl⟩:=m;let⟨B,r,k,M⟩:=I.tuple o;let⟨j,C,D,N,O,T⟩:=CG A;let⟨w,E,e⟩:=r.get D;have G:=r.length;have U:=uS;have f:EP X g σ Q w s:=⟨z,H,I,e,q⟩;exact subscriptTail_builtinR (x:=w) k.typeIs slot_tuple_getitem.lookup
  (getItem_tuple (j:=j) (Q:=λr J=>r=w/\EP X g σ Q r J) k ⋯ ⋯ (by rw[cx,<-G];exact C) ‹E› ⟨fj,f⟩) n
theorem Le:NB X FG:=by
 intro value slice A s σ H x y v u Q I f g h k;let⟨z,i,c,rfl,rfl,B,l,q⟩:=h;let⟨t,rfl⟩:=f;let⟨C,rfl⟩:=g;let⟨j,e,m,D,n,o⟩:=CG l;have p:z.cps.toList.length=z.length:=by simp[Str.length]
 rw[p]at e n o;have E:=uS;exact tail_any (typeIs_str s z t) slot_str_getitem.lookup (getItem_str (c:=c) (by
  have r:decide (i < -(2 ^ 63:Int))=false:=hB ⋯;have w:decide (i ≥ 2 ^ 63)=false:=hB ⋯;rw[r,w,Bool.or_false]) (by rw[e];simpa using m) ⟨.str ⟨#[c]⟩,H,I.tok _,⟨_,fj⟩,q⟩) k
def nh(K:Za):R2:=λx y H Q=>dE K x y H Q∨io K x y H Q∨FG x y H Q
theorem Ow:NB X (nh X.K):=Hs.or<|Ld.or Le
theorem FQ(e:Zf)(n j:Nat)(u:Wm):ii (·.setIfInBounds j u) { cls:=.type "list",data:=.seq e.toArray n}={ cls:=.type "list",data:=.seq (e.set j u).toArray n}:=by
 simp[ii]
theorem Inv.lst{i:Zd}{σ:St}{H:Hp}{s:Wl}{p:Wk}{g:List V}(I:Inv X i σ H s)(h:H p=eH (.lst g)):
  ∃(f:Zf) (n:Nat),bG g f/\s.heap.get? p=eH { cls:=.type "list",data:=.seq f.toArray n}/\g.length<=ak:=by
 let⟨z,f,n,r,e⟩:=I.kl p _ h;exact⟨f,n,r,e,z⟩
theorem Inv.Ue{i g:Zf}(I:Inv X l σ H s)(h:H p=eH (.lst m))(o:s.heap.get? p=eH { cls:=.type "list",data:=.seq i.toArray n})(hf:f { cls:=.type "list",data:=.seq i.toArray n}={ cls:=.type "list",data:=.seq g.toArray k})(r:bG j g)(v:j.length<=ak)(t:Nat) :
  Inv X l σ (upd H p<|.lst j) {s with heap:=s.heap.update p f,toks:=t}:=by
 have e:(s.heap.update p f).get? p=eH { cls:=.type "list",data:=.seq g.toArray k}:=by
  rw[lV f o (by rw[hf]<;>rfl),hf]
 refine I.write (x:=p) (e:=p) (by rw[h];trivial) (.inl rfl) (λb u w q=>(qU _ _<|dA w).trans q) ⟨_,e⟩ ?_;exact⟨v,g,k,r,e⟩
def Ac:V->V->V->Hp->(Hp->Prop)->Prop:=λo i v H Q=>∃p xs k j,o=.ref p/\i=.int k/\H p=eH (.lst xs)/\NU xs.length k=eH j/\Q (upd H p<|.lst<|xs.set j v)
theorem s_:Pd X Ac:=by
 intro B s σ H o i v M N u Q I C D E h;let⟨p,G,k,j,rfl,rfl,w,J,q⟩:=h;cases C;let⟨t,rfl⟩:=D;let⟨e,n,r,g,L⟩:=I.lst w;let⟨f,O,x,y⟩:=Ht J;have l:=r.length;have T:=uS;have z:Inv X B σ (upd H p<|.lst<|G.set j v) {s with heap:=s.heap.update p (ii (·.setIfInBounds j u))} :=
  I.Ue w g (FQ e n j u) (r.set E j) (by rw[List.length_set];exact L) s.toks
 by_cases A:0<=k
 .have m:k.toNat=j:=by
   rw[seqIndex_of A y]at f;exact gp f
  exact PySem.W.ki_setAt g A ⋯ (by rw[cx,<-l];exact y) (by rw[m];exact⟨_,z,q⟩)
 .have m:(k+(e.toArray.size:Int)).toNat=j:=by
   rw[seqIndex_neg ⋯ x]at f;rw[cx,<-l];exact gp f
  exact PySem.W.ki_setBack g ⋯ (by rw[cx,<-l];exact x) ⋯ (by rw[m];exact⟨_,z,q⟩)
theorem BS(lo hi:Option Int)(n:Nat):(qS lo hi none n).1=((HT.PJ n 0 lo:Nat):Int)/\(qS lo hi none n).2.1=((HT.PJ n n hi:Nat):Int)/\(qS lo hi none n).2.2=1:=by
 apply⟨?_,?_,fj⟩
 .cases lo with
  |none=>simp[qS,HT.PJ]
  |some i =>
   simp only[qS,HT.PJ,Option.getD_none,show(1:Int) > 0 by decide,if_true];by_cases h:i<0
   .simp only[h,if_true]<;>nofun
   .simp only[h,if_false]<;>nofun
 .cases hi with
  |none=>simp[qS,HT.PJ]
  |some i =>
   simp only[qS,HT.PJ,Option.getD_none,show(1:Int) > 0 by decide,if_true];by_cases h:i<0
   .simp only[h,if_true]<;>nofun
   .simp only[h,if_false]<;>nofun
theorem zc(e:Zf)(lo hi:Option Int):slicePick e.toArray lo hi none=((e.drop<|HT.PJ e.length 0 lo).take<|HT.PJ e.length e.length hi-HT.PJ e.length 0 lo).toArray:=by
 let⟨f,g,h⟩:=BS lo hi e.toArray.size;unfold slicePick;rw[f,g,h];simp only[sliceRange_one,pick_run,cx]<;>rfl
def BY(K:Za):V->Option Int->Option Int->Hp->VK->Prop:=λx lo hi H Q=>∃a xs,x=.ref a/\az K H a xs/\∀p,H p=none->Q (.ref p) (upd H p<|.lst<|mM xs lo hi)
theorem ng:N2 X (BY X.K):=by
 intro p s σ H x v t u lo hi w Q I i j k l h;let⟨a,e,rfl,hx,q⟩:=h;cases i;let⟨m,r,g,n⟩:=I.list hx;have f:=r.length;apply⟨"list",_,slot_list_getitem.lookup,g.isList.typeIs,?_⟩;refine wpAny_getItem_list_slice g.isList j k l .none ∅ ?_ (by rw[cx]<;>nofun);rw[zc,<-f];apply⟨.ref ↑s,_,I.laid (t':=s.toks) (o:=.lst<|mM e lo hi) (λb y q=>aT _ q) (aF _) ?_,fj,q _<|I.kl.fresh<|aF _⟩;exact⟨bH (Et e lo hi) n,_,0,(r.drop<|HT.PJ e.length 0 lo).take<|HT.PJ e.length e.length hi-HT.PJ e.length 0 lo,cv _ rfl⟩
theorem CA:hZ X (.builtin "len") (λk H Q=>∃p f,k=[.ref p]/\(az X.K H p f∨bE X.K H p f)/\Q (.int f.length) H):=by
 intro n s σ H k o Q I r h;let⟨p,f,rfl,hq,q⟩:=h;let⟨u,rfl,l⟩:=vals1 r;cases l;have t:=uS;obtain hq|hq:=hq
 .obtain⟨g,i,j,m⟩:=I.list hq;have e:=i.length;exact Calls.call_len_list j.isList (by simp only[cx]<;>nofun) ⟨.int f.length,H,I.tok _,⟨s.toks+1,by rw[cx,e]⟩,q⟩
 .obtain⟨g,i,j,m⟩:=I.tuple hq;have e:=i.length;exact len_tuple j (by simp only[cx]<;>nofun) ⟨.int f.length,H,I.tok _,⟨s.toks+1,by rw[cx,e]⟩,q⟩
theorem Cz:hZ X (.builtin "len") (λe H Q=>∃z,e=[.str z]/\z.length<=ak/\Q (.int z.length) H):=by
 intro f s σ H e g Q I r h;let⟨z,rfl,i,q⟩:=h;let⟨u,rfl,t,rfl⟩:=vals1 r;have j:=uS;exact len_str ⋯ ⟨.int z.length,H,I.tok _,⟨_,fj⟩,q⟩
theorem hZ.or(h:hZ X f r)(l:hZ X f g):hZ X f (λe H Q=>r e H Q∨g e H Q):=by
 intro i s σ H e j Q I k q;obtain q|q:=q
 .exact h i s σ H e j Q I k q
 .exact l i s σ H e j Q I k q
theorem Cy:hZ X (.type "list") (λB H Q=>∃p i,B=[.ref p]/\(az X.K H p i∨bE X.K H p i)/\∀l,H l=none->Q (.ref l) (upd H l<|.lst i)):=by
 intro D s σ H B G Q I r h;let⟨p,i,rfl,hq,q⟩:=h;let⟨u,rfl,E⟩:=vals1 r;cases E;have m:∀(f:Zf),bG i f->i.length<=ak->∀(g:Wq) (j:Nat),(∀b C,s.heap.get? b=eH C->g.get? b=eH C) ->
   g.get? ↑s=eH { cls:=.type "list",dict:=none,data:=.seq f.toArray j,slots:=#[]}->EP X D σ Q (.ref ↑s) {s with heap:=g}:=λf k t g j kp e =>
  ⟨.ref ↑s,_,I.laid (t':=s.toks) kp (aF _)<|show bA X.prog X.w X.K _ g _ (.lst i)from⟨t,f,j,k,e⟩,fj,q _<|I.kl.fresh<|aF _⟩
 obtain hq|hq:=hq
 .obtain⟨f,k,x,t⟩:=I.list hq;have v:=k.length;let⟨o,y,z,n,A⟩:=x.isList;exact call_list_seq p (.inl rfl) y z A (λg j kp e=>m f k t g j kp e) (by simp only[cx]<;>nofun)
 .obtain⟨f,k,x,t⟩:=I.tuple hq;have v:=k.length;let⟨o,y,z,n,A⟩:=x;exact call_list_seq p (.inr rfl) y z A (λg j kp e=>m f k t g j kp e) (by simp only[cx]<;>nofun)
theorem jo:hZ X (.type "tuple") (λn H Q=>∃p g,n=[.ref p]/\((az X.K H p g/\∀l,H l=none->Q (.ref l) (upd H l<|.tup g))∨(bE X.K H p g/\Q (.ref p) H))):=by
 intro t s σ H n B Q I r h;let⟨p,g,rfl,h⟩:=h;let⟨u,rfl,z⟩:=vals1 r;cases z;obtain⟨j,q⟩|⟨j,q⟩:=h
 .obtain⟨f,k,m,v⟩:=I.list j;have x:=k.length;refine call_tuple_list m.isList (λi kp=>?_) (by simp only[cx]<;>nofun);have y:Inv X t σ H {s with heap:=i}:=I.kept (t':=s.toks) kp;have A:Inv X t σ (upd H i.objs.size<|.tup g) {s with heap:=i.push { cls:=.type "tuple",data:=.seq f.toArray}} :=
   y.laid (t':=s.toks) (λb o e=>aT _ e) (aF _) (show bA X.prog X.w X.K _ _ _ (.tup g)from⟨v,f,k,IsTup.new _ _⟩)
  exact⟨.ref i.objs.size,_,A,fj,q _<|y.kl.fresh<|aF _⟩
 .obtain⟨f,k,m,v⟩:=I.tuple j;exact call_tuple_same m ⟨.ref p,H,I,fj,q⟩
def UP(K:Za)(T:String)(x:V)(H:Hp):Prop:=match x with
 |.str _=>T="str"
 |.int _=>T="int"
 |.ref p=>(T="list"/\∃xs,az K H p xs)∨(T="tuple"/\∃o,K.lookup p=eH o/\o.cls=.type "tuple"/\o.dict=none) ∨
   (T="dict"/\((∃kvs,H p=eH (.dK kvs))∨∃kvs,H p=eH (.dT kvs)))∨(T="set"/\∃S n,H p=eH (.set S n))
 |_=>False
theorem JS(I:Inv X m σ H s)(r:RelV x v)(ty:UP X.K T x H):
  s.TypeIs v T/\∀a,v=.ref a->∃k,s.heap.get? a=eH k/\k.dict=none:=by
 cases x with
 |str z =>
  let⟨t,rfl⟩:=r;cases(show T="str" from ty);exact⟨typeIs_str s z t,λ_ e=>nomatch e⟩
 |int i =>
  let⟨t,rfl⟩:=r;cases(show T="int" from ty);exact⟨typeIs_int s i t,λ_ e=>nomatch e⟩
 |ref p =>
  cases r;obtain⟨rfl,y,q⟩|⟨rfl,o,f,u,g⟩|⟨rfl,f⟩|⟨rfl,S,n,f⟩:=ty
  .obtain⟨w,_,l,_⟩:=I.list q;apply⟨l.isList.typeIs,λa e=>?_⟩;cases e;let⟨o,n,e,c,g,_⟩:=l;exact⟨o,e,g⟩
  .refine⟨⟨o,I.O' p o f,u⟩,λa e=>?_⟩;cases e;exact⟨o,I.O' _ o f,g⟩
  .have z:∃o,s.heap.get? p=eH o/\o.ExactDict:=by
    obtain⟨h,f⟩|⟨h,f⟩:=f
    .obtain⟨_,_,_,_,o,_,_,e,ex,_⟩:=I.kl p _ f;exact⟨o,e,ex⟩
    .obtain⟨_,_,_,_,o,_,_,e,ex,_⟩:=I.kl p _ f;exact⟨o,e,ex⟩
   let⟨o,e,ex⟩:=z;apply⟨⟨o,e,ex.1⟩,λa j=>?_⟩;cases j;exact⟨o,e,ex.2.1⟩
  .obtain⟨o,_,_,_,e,ex,_⟩:=I.kl p _ f;apply⟨⟨o,e,ex.1⟩,λa j=>?_⟩;cases j;exact⟨o,e,ex.2.1⟩
 |_=>exact mq ty
def OY(K:Za)(T:String)(r:V->List V->Hp->VK->Prop)(to:TE):TE:=fun σ H Q=>to σ H λx H1=>UP K T x H1/\r x [] H1 Q
def wb(K:Za)(T:String)(r:V->List V->Hp->VK->Prop)(to:TE)(t:TA):TE:=fun σ H Q=>to σ H λx H1=>UP K T x H1/\t σ H1 λxs H2=>r x xs H2 Q
variable{o e:Wr}{es:List Wr}{to:TE}{t:TA}{name:Ws}{J6 J5:Pos}{T id:String}{r:V->List V->Hp->VK->Prop}
theorem Ol(p:PlainAttrs T)(i:Slot T name id)(j:typeOf (.builtin id)=pure (.type "method_descriptor"))(q:VL X id r)(u:PE X o to)
  (f:oo o name X.env (eval o X.env)=eval o X.env:=by rfl) (g:(J6.endLine==J5.line)=true:=by rfl):PE X (.Call (.Attribute o name J6) [] [] J5) (OY X.K T r to):=by
 intro l s σ H Q I h;refine qR f g<|c7 (u l s σ H _ I h) λv w k=>?_;let⟨x,y,m,n,ty,z⟩:=k;let⟨A,B⟩:=JS m n ty;exact⟨T,id,p,i,j,A,B,qQ rfl<|w8<|q l w σ y x [] v [] Q m n .nil z⟩
theorem gv(w:PlainAttrs T)(j:Slot T name id)(l:typeOf (.builtin id)=pure (.type "method_descriptor"))(y:VL X id r)(z:PE X o to)(A:PA X (e::es) t)
  (g:oo o name X.env (eval o X.env)=eval o X.env:=by rfl)
  (k:((backTo J5<|aR (e::es) X.env).all (λx=>!x.1) && (vc J5<|oG [] X.env).all (λx=>x.1.isSome)
   && decide ((e::es).length+([]:List Keyword).length+(if([]:List Keyword).isEmpty then 0 else 1)<30))=true:=by rfl)
  (i:(J6.endLine==J5.line)=true:=by rfl) (B:aR (e::es) X.env=(false,eval e X.env)::aR es X.env:=by rfl) (f:(backTo J5<|aR es X.env).any (·.1)=false:=by rfl) :
  PE X (.Call (.Attribute o name J6) (e::es) [] J5) (wb X.K T r to t):=by
 intro m s σ H Q I h;refine wpAny_Call_method_late g k i rfl<|c7 (z m s σ H _ I h) λv C n=>?_;let⟨x,D,p,q,ty,E⟩:=n;let⟨G,J⟩:=JS p q ty;apply⟨T,id,w,j,l,G,J,?_⟩;have u:=A J5 m C σ D _ p E;rw[B]at u ⊢;refine qQ (by show(false || (backTo J5<|aR es X.env).any (·.1))=false;rw[f]<;>rfl)<|Calls.evalArgs_plain ?_;exact c7 u λL M ⟨N,O,U,Y,q2⟩=>y m M σ O x N v L Q U q Y q2
end
end L2
namespace L2
open PySem Spec PyProof.Rows
def Ph(X:Cx)(id:String)(r:V->List V->Hp->VK->Prop):Prop :=
 ∀(J4:Zd) (s:Wl) (σ:St) (H:Hp) (x:V) (xs:List V) (v:Wm) (us:Zf) (Q:VK),Inv X J4 σ H s->RelV x v->bG xs us->r x xs H Q ->
  wpAny (model X.prog X.w) X.A (call (.builtin id)<|v::us) (EP X J4 σ Q) X.xe s
theorem bG.one(h:bG [x] a):∃u,a=[u]/\RelV x u:=by
 cases h with
 |cons r t=>cases t;exact⟨_,fj,r⟩
theorem bG.two(h:bG [x,y] a):∃u v,a=[u,v]/\RelV x u/\RelV y v:=by
 cases h with
 |cons r t =>
  let⟨v,e,q⟩:=bG.one t;exact⟨_,v,by rw[e],r,q⟩
theorem bG.zero:∀{a:Zf},bG [] a->a=[]
 |_,.nil=>rfl
theorem bG.dropLast(h:bG a e):bG a.dropLast e.dropLast:=by
 induction h with
 |nil=>exact .nil
 |cons r t f =>
  cases t with
  |nil=>exact .nil
  |cons q g=>exact .cons r f
theorem Ga{α:Type}(l:List α):l.eraseIdx (l.length-1)=l.dropLast:=by
 induction l with
 |nil=>rfl
 |cons a r f =>
  cases r with
  |nil=>rfl
  |cons b r =>
   have e:(a::b::r).length-1=((b::r).length-1)+1:=by
    have g:(a::b::r).length=r.length+2:=rfl;have h:(b::r).length=r.length+1:=rfl;nofun
   rw[e,List.eraseIdx_cons_succ,f]
   all_goals rfl
section
variable{X:Cx}{J4:Zd}{σ:St}{H:Hp}{s:Wl}{l b:Wk}{xs ys zs:List V}
theorem Inv.Ug{a its':Zf}(I:Inv X J4 σ H s)(h:H l=eH (.lst xs))(e:s.heap.get? l=eH { cls:=.type "list",data:=.seq a.toArray n})(hf:f a.toArray=its'.toArray)(i:bG ys its')(j:ys.length<=ak) :
  Inv X J4 σ (upd H l<|.lst ys) {s with heap:=s.heap.update l<|ii f,toks:=g}:=by
 have q:=PySem.IsL.update e f;rw[hf]at q;refine I.write (x:=l) (e:=l) (by rw[h];exact trivial) (.inl rfl) (λo u k m=>(qU s.heap (ii f)<|dA k).trans m) ⟨_,q⟩ ?_;exact⟨j,its',_,i,q⟩
theorem Inv.Ux(I:Inv X J4 σ H s)(e:bG ys a)(f:ys.length<=ak):
  Inv X J4 σ (upd H ↑s<|.lst ys) {s with heap:=s.heap.push { cls:=.type "list",data:=.seq a.toArray},toks:=t'} :=
 I.laid (λ_ _ q=>aT _ q) (aF _) ⟨f,a,0,e,cv _ rfl⟩
theorem Inv.fresh(I:Inv X J4 σ H s):H ↑s=none:=I.kl.fresh<|aF _
theorem Inv.SY(I:Inv X J4 σ H s)(f:H l=eH (.lst xs)):xs.length<=ak/\∃(a:Zf) (n:Nat),bG xs a/\xs.length=a.length/\s.heap.get? l=eH { cls:=.type "list",data:=.seq a.toArray n}:=by
 let⟨z,a,n,r,e⟩:=I.kl l _ f;exact⟨z,a,n,r,r.length,e⟩
theorem K5(h:n<=ak):bx.List.listTooLong n=false:=by
 unfold bx.List.listTooLong;exact hB ⋯
end
section
variable{X:Cx}
def d4:V->List V->Hp->VK->Prop:=λx vs H Q=>∃l xs y,x=.ref l/\vs=[y]/\H l=eH (.lst xs)/\xs.length<ak/\Q .zr (upd H l<|.lst<|xs++[y])
theorem cP:Ph X "list.append" d4:=by
 intro k s σ H x m v o Q I g i h;let⟨l,p,y,rfl,rfl,f,t,q⟩:=h;cases g;let⟨u,rfl,j⟩:=i.one;let⟨z,a,n,r,w,e⟩:=I.SY f;refine Bu F.slot_list_append ⟨_,e,fj⟩ F.entry_list_append (F.args_list_append_2 _ _) (PySem.list_append l a.toArray n u (by rw[cx];nofun)) ⟨e,?_⟩;apply⟨.zr,_,I.Ug (its':=a++[u]) f e ∅ (r.append<|.cons j .nil) ?_,fj,q⟩;rw[aA,Bt];nofun
def tu:V->List V->Hp->VK->Prop:=λx vs H Q=>∃l b xs zs,x=.ref l/\vs=[.ref b]/\H l=eH (.lst xs)/\H b=eH (.lst zs)/\xs.length+zs.length<=ak/\Q .zr (upd H l<|.lst<|xs++zs)
theorem pM:Ph X "list.extend" tu:=by
 intro B s σ H x C v D Q I k m h;let⟨l,b,E,G,rfl,rfl,j,o,J,q⟩:=h;cases k;let⟨u,rfl,p⟩:=m.one;cases p;let⟨z,f,n,r,L,e⟩:=I.SY j;let⟨M,a,t,w,y,A⟩:=I.SY o;have i:f.toArray.size+a.toArray.size<=ak:=by rw[cx,cx];nofun
 have g:¬(!f.toArray.isEmpty && bx.List.listTooLong (f.toArray.size+a.toArray.size))=true:=by
  rw[K5 i,Bs];exact h9
 refine Bu F.slot_list_extend ⟨_,e,fj⟩ F.entry_list_extend (F.args_list_extend_2 _ _)
  (AutoSeq1.list_extend_list_list_0 l f.toArray n b a.toArray t g (by rw[cx];nofun) ⋯) ⟨e,A,?_⟩
 apply⟨.zr,_,I.Ug (its':=f++a) j e ∅ (r.append w) ?_,fj,q⟩;rw[aA];nofun
def O2:V->List V->Hp->VK->Prop:=λx vs H Q=>∃l xs y,x=.ref l/\vs=[]/\H l=eH (.lst xs)/\xs[xs.length-1]?=eH y/\Q y (upd H l<|.lst xs.dropLast)
theorem On:Ph X "list.pop" O2:=by
 intro w s σ H x A v B Q I j k h;let⟨l,C,y,rfl,rfl,i,m,q⟩:=h;cases j;have f:=k.zero;subst f;let⟨z,a,n,r,o,e⟩:=I.SY i;let⟨u,p,t⟩:=r.get m;have g:a.toArray[a.toArray.size-1]?=eH u:=by
  show a.toArray[a.length-1]?=eH u;rw[<-wZ,<-o];exact p
 refine Bu F.slot_list_pop ⟨_,e,fj⟩ F.entry_list_pop (F.args_list_pop_1 _) (MeetsSeq.list_pop_last l a.toArray n u g (by rw[cx];nofun)) ⟨e,?_⟩;apply⟨y,_,I.Ug (its':=a.dropLast) i e ?_ r.dropLast ?_,t,q⟩
 .show a.toArray.eraseIdxIfInBounds (a.toArray.size-1)=a.dropLast.toArray;rw[cx,List.eraseIdxIfInBounds_toArray,Ga]
 .rw[List.length_dropLast];nofun
def jU:R2:=λx y H Q=>∃l b xs zs,x=.ref l/\y=.ref b/\H l=eH (.lst xs)/\H b=eH (.lst zs)/\xs.length+zs.length<=ak/\∀p,H p=none->Q (.ref p) (upd H p<|.lst<|xs++zs)
theorem fI:tW X (ve .Add) jU:=by
 intro w s σ H x y v u Q I g i h;let⟨l,b,A,B,rfl,rfl,j,k,C,q⟩:=h;cases g;cases i;let⟨z,f,n,r,D,e⟩:=I.SY j;let⟨E,a,G,m,o,p⟩:=I.SY k;refine PySem.P.add_list e p ?_ (by rw[cx,cx];nofun);have t:f.toArray++a.toArray=(f++a).toArray:=by simp
 rw[t];exact⟨.ref _,_,I.Ux (t':=s.toks) (r.append m) (by rw[aA];nofun),fj,q _ I.fresh⟩
end
end L2
namespace L2
open PySem Spec PyProof.Rows
section
variable{κ:Type}[DecidableEq κ]
def cy(kvs:List<|κ×V)(k:κ):Option V:=(kvs.find? λkv=>decide (kv.1=k)).map (·.2)
def dR(kvs:List<|κ×V)(k:κ)(v:V):List (κ×V) :=
 if(kvs.any λkv=>decide (kv.1=k))=true then kvs.map (λkv=>if kv.1=k then(kv.1,v)else kv)else kvs++[(k,v)]
theorem c8{p:κ×V}(e:p.1=k):cy (p::r) k=eH p.2:=by simp[cy,uw,e]
theorem cU{p:κ×V}(e:¬p.1=k):cy (p::r) k=cy r k:=by simp[cy,uw,e]
theorem mr(k:κ):∀a:List<|κ×V,(a.any λf=>decide (f.1=k))=(cy a k).isSome
 |[]=>rfl
 |p::r=>by
  rw[uv];by_cases e:p.1=k
  .simp only[c8 e,hH e,Bool.true_or,Option.isSome_some]
  .rw[cU e,hB e,Bool.false_or];exact mr k r
theorem Dc(k j:κ)(y:V):∀a:List<|κ×V,cy (a.map λf=>if f.1=k then(f.1,y)else f) j=(cy a j).map λx=>if j=k then y else x
 |[]=>rfl
 |p::r=>by
  have g:=Dc k j y r;rw[bL];by_cases h:p.1=k
  .rw[if_pos h];by_cases e:p.1=j
   .rw[c8 (p:=(p.1,y)) e,c8 e,wY,if_pos<|e.symm.trans h]
   .rw[cU (p:=(p.1,y)) e,cU e,g]
  .rw[if_neg h];by_cases e:p.1=j
   .rw[c8 (p:=p) e,c8 e,wY,if_neg<|λz=>h<|e.trans z]
   .rw[cU (p:=p) e,cU e,g]
theorem zV(k j:κ)(y:V):∀a:List<|κ×V,cy a k=none->cy (a++[(k,y)]) j=if j=k then eH y else cy a j
 |[],_=>by
  by_cases e:k=j
  .rw[if_pos e.symm];exact c8 (p:=(k,y)) e
  .rw[if_neg<|λz=>e z.symm];exact cU (p:=(k,y)) e
 |p::r,f=>by
  rw[List.cons_append];have g:¬p.1=k:=λz=>by rw[c8 z]at f;cases f
  rw[cU g]at f;have h:=zV k j y r f;by_cases e:p.1=j
  .rw[c8 e,c8 e,if_neg<|λz=>g<|e.trans z]
  .rw[cU e,cU e,h]
theorem oH(f:List<|κ×V)(k j:κ)(y:V):cy (dR f k y) j=if j=k then eH y else cy f j:=by
 unfold dR;by_cases a:(f.any λg=>decide (g.1=k))=true
 .rw[if_pos a,Dc];rw[mr]at a;by_cases e:j=k
  .obtain⟨x,hx⟩:=Bw.mp a;rw[if_pos e,e,hx,wY,if_pos rfl]
  .rw[if_neg e];cases cy f j with
   |none=>rfl
   |some x=>rw[wY,if_neg e]
 .rw[if_neg a];refine zV k j y f ?_;rw[mr]at a;cases q:cy f k with
  |none=>rfl
  |some x=>rw[q]at a;exact(a rfl).elim
theorem jz(a:List<|κ×V)(k:κ)(v:V):(dR a k v).length<=a.length+1:=by
 unfold dR;split
 .rw[ag];nofun
 .rw[aA,eT,lU];nofun
theorem jx{a:List (κ×V)}{k:κ}(v:V)(h:cy a k=none):dR a k v=a++[(k,v)]:=by
 unfold dR;rw[mr,h];exact if_neg Wt
theorem og.PK(r:og o u):o.isSome=u.isSome:=by
 cases o with
 |none=>cases u with
  |none=>rfl
  |some _=>exact(show False from r).elim
 |some _=>cases u with
  |none=>exact(show False from r).elim
  |some _=>rfl
theorem og.getD(r:og o u)(e:RelV d a):RelV (o.getD d) (u.getD a):=by
 cases o with
 |none=>cases u with
  |none=>exact e
  |some _=>exact(show False from r).elim
 |some _=>cases u with
  |none=>exact(show False from r).elim
  |some _=>exact r
theorem KV.val(r:KV a g)(k:κ):og (cy a k) (qP g k):=by
 unfold KV at r
 induction r with
 |nil=>exact jO
 |@cons p q m qs h t j =>
  let⟨i,l⟩:=h;by_cases e:p.1=k
  .have f:q.1=k:=i.symm.trans e;have b:qP (q::qs) k=eH q.2:=by simp[qP,uw,f]
   rw[c8 e,b];exact l
  .have f:¬q.1=k:=λz=>e<|i.trans z;have b:qP (q::qs) k=qP qs k:=by simp[qP,uw,f]
   rw[cU e,b];exact j
theorem KV.any(r:KV a f)(k:κ):(a.any λe=>decide (e.1=k))=f.any λe=>decide (e.1=k):=by
 unfold KV at r
 induction r with
 |nil=>rfl
 |cons h t g=>rw[uv,uv,g,h.1]
theorem KV.T_(r:KV f i)(k:κ)(j:RelV y u):
  KV (f.map λa=>if a.1=k then(a.1,y)else a) (i.map λa=>if a.1=k then(a.1,u)else a):=by
 unfold KV at r ⊢
 induction r with
 |nil=>exact .nil
 |@cons p q n qs h t l =>
  rw[bL,bL];refine .cons ?_ l;let⟨g,m⟩:=h;by_cases e:p.1=k
  .rw[if_pos e,if_pos<|g.symm.trans e];exact⟨g,j⟩
  .rw[if_neg e,if_neg<|λz=>e<|g.trans z];exact⟨g,m⟩
theorem KV.put(r:KV kvs a)(k:κ)(f:RelV y u):KV (dR kvs k y) (stored a k u):=by
 unfold dR stored;rw[r.any k];by_cases e:(a.any λg=>decide (g.1=k))=true
 .rw[if_pos e,if_pos e];exact r.T_ k f
 .rw[if_neg e,if_neg e];exact eD r ⟨fj,f⟩
theorem KV.length{a:List (κ×V)}{e:List (κ×Wm)}(r:KV a e):a.length=e.length:=Paired.length r
end
theorem tM(r:RelV (kV k) u):(cM P w).is k u=true:=by
 cases k with
 |inl i=>let⟨t,e⟩:=(show ∃t,u=Value.int i t from r);subst e;exact DV P w i t
 |inr x=>let⟨t,e⟩:=(show ∃t,u=Value.str x t from r);subst e;exact DU P w x t
theorem Cn:∀{k:r6}{u:Wm},RelV (NT k) u->kH k u=true
 |none,u,r=>by cases(show u=Value.none from r);rfl
 |some (.inl i),u,r=>by let⟨t,rfl⟩:=r;exact pP i t
 |some (.inr x),u,r=>by let⟨t,rfl⟩:=r;exact pO x t
abbrev KT(K:Za)(H:Hp):List (TK×V)->List (TK×Wk×Wm)->Prop:=Paired λp q=>p.1=q.1/\mO K H p.1 (.ref q.2.1)/\p.1.depth<=8/\RelV p.2 q.2.2
theorem KT.val{K:Za}(r:KT K H a g)(k:TK):og (cy a k) ((atKey g k).map (·.2)):=by
 induction r with
 |nil=>exact jO
 |@cons p q m qs h t j =>
  let⟨i,_,_,l⟩:=h;by_cases e:p.1=k
  .have f:q.1=k:=i.symm.trans e;have b:atKey (q::qs) k=eH q.2:=by simp[atKey,uw,f]
   rw[c8 e,b];exact l
  .have f:¬q.1=k:=λz=>e<|i.trans z;have b:atKey (q::qs) k=atKey qs k:=by simp[atKey,uw,f]
   rw[cU e,b];exact j
theorem KT.T_{K:Za}(r:KT K H a i)(k:TK)(m:RelV y u):
  KT K H (a.map λg=>if g.1=k then(g.1,y)else g) (i.map<|putAt k u):=by
 induction r with
 |nil=>exact .nil
 |@cons p q o qs h t n =>
  rw[bL,bL];refine .cons ?_ n;let⟨f,j,l⟩:=h;unfold putAt;by_cases e:p.1=k
  .rw[if_pos e,if_pos<|f.symm.trans e];exact⟨f,j,l.1,m⟩
  .rw[if_neg e,if_neg<|λz=>e<|f.trans z];exact⟨f,j,l⟩
theorem KT.put{K:Za}(r:KT K H kvs a)(k:TK)(g:mO K H k<|.ref b)(h:k.depth<=8)(f:RelV y u):
  KT K H (dR kvs k y) (qO a k b u):=by
 have e:(kvs.any λi=>decide (i.1=k))=(atKey a k).isSome:=by
  rw[mr,(r.val k).PK,Option.isSome_map]
 unfold dR qO;rw[e];by_cases q:(atKey a k).isSome=true
 .rw[if_pos q,if_pos q];exact r.T_ k f
 .rw[if_neg q,if_neg q];exact eD r ⟨fj,g,h,f⟩
theorem KT.keeps{K:Za}(r:KT K H kvs xs)(f:∀b e,H b=eH (.tup e)->a b=eH (.tup e)):KT K a kvs xs :=
 Paired.i3 r λ_ _ z=>⟨z.1,mO.keeps f 8 z.2.2.1 z.2.1,z.2.2⟩
section
variable{P:bR}{w:Wn}{K:Za}{H:Hp}{h:Wq}{a:Wk}
theorem Ku(ok:om P w K H h)(e:Rd H a u):bA P w K H h a u:=e.ok ok
theorem vF(ok:om P w K H h)(e:Rd H a<|.dK f):f.length<=ak/\(a==fS)=false/\∃g,KV f g/\h.DictOf (cM P w) a g :=
 show bA P w K H h a (.dK f)from Ku ok e
theorem NX(ok:om P w K H h)(e:H a=eH (.dK f)):f.length<=ak/\(a==fS)=false/\∃g,KV f g/\h.DictOf (cM P w) a g:=vF ok<|.inl e
theorem N_(ok:om P w K H h)(y:K.In h):∀(d:Nat) {k:TK}{v:V}{u:Wm},k.depth<=d->mO K H k v->RelV v u->pV h k u:=by
 have z:∀(d:Nat) (s:∀{k:TK}{v:V}{u:Wm},k.depth<=d->mO K H k v->RelV v u->pV h k u) (g:List TK) (i:List V) (x:Zf),TK.gg g<=d->PN K H g i->bG i x->QG h g x:=by
  intro d s g
  induction g with
  |nil =>
   intro i x _ hx r;have e:i=[]:=hx;subst e;cases r
   rfl
  |cons k g A =>
   intro i x j hx r;let⟨v,B,rfl,m,C⟩:=hx;cases r with
   |@cons _ u _ q I J =>
    have L:max k.depth (TK.gg g)<=d:=j;exact⟨u,q,fj,s ⋯ m I,A B q ⋯ C J⟩
 intro d
 induction d with
 |zero =>
  intro k v u j hx r;cases k with
  |t l=>exact absurd j (by show ¬(TK.gg l+1<=0);nofun)
  |k b =>
   have e:v=NT b:=hx;subst e;exact Cn r
 |succ d s =>
  intro k v u j hx r;cases k with
  |k b =>
   have e:v=NT b:=hx;subst e;exact Cn r
  |t l =>
   let⟨b,D,rfl,E,hi⟩:=hx;cases(show u=Value.ref b from r);obtain⟨f,G,M,m,C,n,N⟩:∃f:List Wm,bG D f/\IsTup h b f.toArray:=by
    obtain E|⟨o,f,n,O,Q,T,U,r⟩:=E
    .obtain⟨_,f,G,p⟩:=(show bA P w K H h b (.tup D)from ok b _ E);exact⟨f,G,p⟩
    .exact⟨f.toList,r,o,y b o O,Q,n,by simpa using T⟩
   exact⟨b,M,f.toArray,n,fj,m,C,N,by simpa using z d (λm=>s m) l D f (by have:TK.gg l+1<=d+1:=j;nofun) hi G⟩
theorem uU(ok:om P w K H h)(f:K.In h)(e:mO K H k<|.ref a)(g:k.depth<=8):(bO P w).is h k a:=⟨N_ ok f 8 g e rfl,g⟩
theorem yd(ok:om P w K H h)(j:K.In h)(e:Rd H a<|.dT f):f.length<=ak/\(a==fS)=false /\
  ∃g,KT K H f g/\h.DictOfH (bO P w) a g:=by
 let⟨z,y,g,r,o,k,n,s,u,v,A,B⟩:=(show bA P w K H h a (.dT f)from Ku ok e);apply⟨z,y,g,r,o,k,n,s,u,v,A,λx hx=>?_,B⟩;have all:∀{l:List (TK×V)}{m:List (TK×Wk×Wm)},KT K H l m->∀x∈m,(bO P w).is h x.1 x.2.1:=by
  intro l m q
  induction q with
  |nil=>intro x hx;exact nomatch hx
  |@cons p q D qs i t C =>
   intro x hx;obtain e|hx:=cq.mp hx
   .subst e;exact uU ok j (by rw[<-i.1];exact i.2.1) (by rw[<-i.1];exact i.2.2.1)
   .exact C x hx
 exact all r x hx
theorem HD(ok:om P w K H h)(g:K.In h)(e:H a=eH (.dT f)):f.length<=ak/\(a==fS)=false /\
  ∃i,KT K H f i/\h.DictOfH (bO P w) a i:=yd ok g<|.inl e
end
mutual
def mN(K:Za)(H:Hp):TK->V->Prop
 |.k a,v=>v=NT a
 |.t l,v=>∃b xs,v=.ref b/\bE K H b xs/\A3 K H l xs
def A3(K:Za)(H:Hp):List TK->List V->Prop
 |[],vs=>vs=[]
 |k::r,vs=>∃v us,vs=v::us/\mN K H k v/\A3 K H r us
end
theorem fX.isIn{K:Za}:∀(d:Nat) {k:TK}{v:V},k.depth<=d->fX H k v->mN K H k v:=by
 have i:∀(d:Nat) (g:∀{k:TK}{v:V},k.depth<=d->fX H k v->mN K H k v) (e:List TK) (h:List V),TK.gg e<=d->ub H e h->A3 K H e h:=by
  intro d g e
  induction e with
  |nil=>intro h _ hx;exact hx
  |cons x e j =>
   intro h f hx;let⟨v,o,rfl,m,n⟩:=hx;have p:max x.depth (TK.gg e)<=d:=f;exact⟨v,o,fj,g ⋯ m,j o ⋯ n⟩
 intro d
 induction d with
 |zero =>
  intro k v f hx;cases k with
  |t l=>exact absurd f (by show ¬(TK.gg l+1<=0);nofun)
  |k a=>exact hx
 |succ d g =>
  intro k v f hx;cases k with
  |k a=>exact hx
  |t l =>
   let⟨b,e,rfl,q,hi⟩:=hx;exact⟨b,e,fj,bE.of q,i d (λr=>g r) l e (by have:TK.gg l+1<=d+1:=f;nofun) hi⟩
theorem Mn(I:Inv X y σ H s):∀(d:Nat) {k:TK}{v:V}{u:Wm},k.depth<=d->mN X.K H k v->RelV v u->pV s.heap k u:=by
 have p:∀(d:Nat) (m:∀{k:TK}{v:V}{u:Wm},k.depth<=d->mN X.K H k v->RelV v u->pV s.heap k u) (a:List TK) (f:List V) (o:Zf),TK.gg a<=d->A3 X.K H a f->bG f o->QG s.heap a o:=by
  intro d m a
  induction a with
  |nil =>
   intro f o _ hx r;have e:f=[]:=hx;subst e;cases r
   rfl
  |cons k a q =>
   intro f o g hx r;let⟨v,w,rfl,h,x⟩:=hx;cases r with
   |@cons _ u _ i z A =>
    have B:max k.depth (TK.gg a)<=d:=g;exact⟨u,i,fj,m ⋯ h z,q w i ⋯ x A⟩
 intro d
 induction d with
 |zero =>
  intro k v u g hx r;cases k with
  |t l=>exact absurd g (by show ¬(TK.gg l+1<=0);nofun)
  |k b =>
   have e:v=NT b:=hx;subst e;exact Cn r
 |succ d m =>
  intro k v u g hx r;cases k with
  |k b =>
   have e:v=NT b:=hx;subst e;exact Cn r
  |t l =>
   let⟨b,C,rfl,D,hi⟩:=hx;cases(show u=Value.ref b from r);let⟨j,E,⟨G,h,x,n,J⟩,_⟩:=I.tuple D;exact⟨b,G,j.toArray,n,fj,h,x,J,by simpa using p d (λh=>m h) l C j (by have:TK.gg l+1<=d+1:=g;nofun) hi E⟩
theorem Ck(I:Inv X f σ H s)(e:mN X.K H k<|.ref b)(a:k.depth<=8):(bO X.prog X.w).is s.heap k b:=⟨Mn I 8 a e rfl,a⟩
theorem iM{A:Wo}(a:A.units+16<cLine):(bO P w).room A.in1:=by
 show A.units+1+8<cLine;nofun
def qj(K:Za)(H:Hp)(a:Wk)(y:V)(r:Option V):Prop :=
 (∃kvs k,Rd H a (.dK kvs)/\y=kV k/\r=cy kvs k)∨∃kvs k b,Rd H a (.dT kvs)/\y=.ref b/\mN K H k (.ref b)/\k.depth<=8/\r=cy kvs k
def Pl(H:Hp)(a:Wk)(y v:V)(H':Hp):Prop :=
 (∃kvs k,H a=eH (.dK kvs)/\y=kV k/\kvs.length<ak/\H'=upd H a (.dK<|dR kvs k v)) ∨
 ∃kvs k b,H a=eH (.dT kvs)/\y=.ref b/\fX H k (.ref b)/\k.depth<=8/\kvs.length<ak/\H'=upd H a (.dT<|dR kvs k v)
section
variable{X:Cx}{J4:Zd}{σ:St}{H:Hp}{s:Wl}{a:Wk}{y v:V}{u r:Wm}{o:Option V}{A:Wo}{E:Zc}
theorem Inv.big(I:Inv X J4 σ H s):fS<↑s:=by
 have h:cw<↑s:=(I.mod.glob.keeps I.bk).lt;exact uu Wt h
theorem Jp(D:A.units+16<cLine)(I:Inv X J4 σ H s)(g:qj X.K H a y<|some v)(B:RelV y u)(h:∀j C,Inv X J4 σ H C->RelV v j->Q j C):
  wpAny (model X.prog X.w) A (qV (.ref a) u) Q E s:=by
 obtain⟨m,k,e,n,l⟩|⟨m,k,b,e,n,G,J,l⟩:=g
 .subst n;let⟨z,L,M,f,q⟩:=vF I.kl e;let⟨j,t,i⟩:=og.some_of (v:=v) (o:=qP M k) (by rw[l];exact f.val k);exact wpAny_getItem_of (tM B) q.mapOf t<|h j _ (I.tok _) i
 .subst n;cases(show u=Value.ref b from B);let⟨z,L,N,f,q⟩:=yd I.kl I.O' e;let⟨j,t,i⟩:=og.some_of (v:=v) (o:=(atKey N k).map (·.2)) (by rw[l];exact f.val k);let⟨p,O,x⟩:=mU.mp t;refine wpAny_getItem_heap (iM D) (Ck I G J) q O ?_;rw[x];exact h j _ (I.tok _) i
theorem Vj(t:A.units+16<cLine)(I:Inv X J4 σ H s)(g:qj X.K H a y o)(n:RelV y u)(h:∀p,Inv X J4 σ H p->Q (.bool o.isSome) p):
  wpAny (model X.prog X.w) A (gm .In u<|.ref a) Q E s:=by
 obtain⟨i,k,e,j,l⟩|⟨i,k,b,e,j,x,B,l⟩:=g
 .subst j;let⟨z,hd,C,f,m⟩:=vF I.kl e;refine wpAny_in_of (tM n) hd m.mapOf ?_;rw[<-(f.val k).PK,<-l];exact h _<|I.tok _
 .subst j;cases(show u=Value.ref b from n);let⟨z,hd,D,f,m⟩:=yd I.kl I.O' e;refine wpAny_in_heap (iM t) (Ck I x B) hd m ?_;have q:=(f.val k).PK;rw[Option.isSome_map]at q;rw[<-q,<-l];exact h _<|I.tok _
theorem No(t:A.units+16<cLine)(I:Inv X J4 σ H s)(g:qj X.K H a y o)(n:RelV y u)(h:∀p,Inv X J4 σ H p->Q (.bool (!o.isSome)) p):
  wpAny (model X.prog X.w) A (gm .NotIn u<|.ref a) Q E s:=by
 obtain⟨i,k,e,j,l⟩|⟨i,k,b,e,j,x,B,l⟩:=g
 .subst j;let⟨z,hd,C,f,m⟩:=vF I.kl e;refine wpAny_notIn_of (tM n) hd m.mapOf ?_;rw[<-(f.val k).PK,<-l];exact h _<|I.tok _
 .subst j;cases(show u=Value.ref b from n);let⟨z,hd,D,f,m⟩:=yd I.kl I.O' e;refine wpAny_notIn_heap (iM t) (Ck I x B) hd m ?_;have q:=(f.val k).PK;rw[Option.isSome_map]at q;rw[<-q,<-l];exact h _<|I.tok _
theorem pS(I:Inv X J4 σ H s)(h:Pg<|H a)(i:fB a s.heap f)(j:∃q,f.get? a=eH q)(new:bA X.prog X.w X.K (upd H a ob) f a ob):
  Inv X J4 σ (upd H a ob) {s with heap:=f,toks:=g} :=
 I.write (x:=a) (e:=a) h (.inl rfl) (λb q k z=>(i.2 b k).trans z) j new
theorem Gb{K:Za}(z:e.length<=ak)(j:(a==fS)=false)(g:KV e f)(k:h.DictOf (cM P w) a f):
  bA P w K i h a (.dK e):=⟨z,j,f,g,k⟩
theorem Jo(Y:A.units+16<cLine)(I:Inv X J4 σ H s)(g:Pl H a y v J)(L:RelV y u)(M:RelV v r)(h:∀N,Inv X J4 σ J N->Q () N):
  wpAny (model X.prog X.w) A (setItem (.ref a) u r) Q E s:=by
 obtain⟨f,k,e,p,l,t⟩|⟨f,k,b,e,p,O,m,l,t⟩:=g
 .subst p t;let⟨z,x,vs,i,B⟩:=NX I.kl e;have C:vs.length<=ak:=by rw[<-i.length];exact z
  have D:(dR f k v).length<=ak:=by have:=jz f k v;nofun
  refine wpAny_setItem_pairs (hsz:=C) (tM L) B λT j G=>h _ ?_;have he:∃q,T.get? a=eH q:=let⟨q,_,_,n,_⟩:=j;⟨q,n⟩;exact pS I (by rw[e];exact jO) G he<|Gb D x (i.put k M) j
 .subst p t;cases(show u=Value.ref b from L);let⟨z,x,xs,i,B⟩:=HD I.kl I.O' e;have C:xs.length<=ak:=by rw[<-Paired.length i];exact z
  have D:(dR f k v).length<=ak:=by have:=jz f k v;nofun
  refine wpAny_setItem_heap (hsz:=C) (iM Y) (uU I.kl I.O' (fX.c 8 m O) m) B λT j G=>h _ ?_;let⟨q,es,ep,n,h2,h3,h4,_,h5⟩:=j;refine pS I (by rw[e];exact jO) G ⟨q,n⟩ ⟨D,x,_,(i.put k (fX.c 8 m O) m M).keeps λc ys U=>?_,q,es,ep,n,h2,h3,h4,h5⟩;rw[ah<|Hm U e<|λz=>nomatch z];exact U
theorem Gf(x:A.units+16<cLine)(I:Inv X J4 σ H s)(e:H a=eH (.dT f))(j:mO X.K H k<|.ref b)(m:k.depth<=8)(l:f.length<ak)(B:RelV (.ref b) u)(C:RelV v r)(h:∀n,Inv X J4 σ (upd H a<|.dT<|dR f k v) n->Q () n):
  wpAny (model X.prog X.w) A (setItem (.ref a) u r) Q E s:=by
 cases(show u=Value.ref b from B);let⟨z,D,G,g,J⟩:=HD I.kl I.O' e;have L:G.length<=ak:=by rw[<-Paired.length g];exact z
 have M:(dR f k v).length<=ak:=by have:=jz f k v;nofun
 refine wpAny_setItem_heap (hsz:=L) (iM x) (uU I.kl I.O' (j) m) J λh' i N=>h _ ?_;let⟨q,O,T,p,U,Y,h4,_,h5⟩:=i;refine pS I (by rw[e];exact jO) N ⟨q,p⟩ ⟨M,D,_,(g.put k (j) m C).keeps λc ys t=>?_,q,O,T,p,U,Y,h4,h5⟩;rw[ah<|Hm t e<|λz=>nomatch z];exact t
end
def JB(i:Wr):Prop:=∀ov iv,Bv i false ov iv=operate [ov,iv] (qV ov iv)
theorem Ms{a:bR}{w:Wn}{A:Wo}{E:Zc}{s:Wl}{k:Env}{value slice:Wr}{p:Pos}{T id:String}{Q:Zc}
  (t:w_ (.type T) "__getitem__"=pure (eH<|.builtin id)) (u:JB slice)
  (h:wpAny (model a w) A (eval value k) (λo g=>wpAny (model a w) A (eval slice k) (λi e=>e.TypeIs o T/\wpAny (model a w) A (qV o i) Q E e) E g) E s) :
  wpAny (model a w) A (eval (.Subscript value slice p) k) Q E s:=by
 refine Subscript_<|sr h (λo g m=>sr m (λi e f=>?_) λ_ _ x=>x) λ_ _ x=>x;let⟨q,f⟩:=f;unfold subscriptTail;refine ai ?_;rw[getitemInPython_of_ne q.not_modules];refine ai<|HY q t ?_;have l:wpAny (model a w) A (Bv slice false o i) (λr j=>wpAny (model a w) A (letTemporaryGo value o r >>= λ_=>pure r) Q E j) E e:=by
  rw[u o i];exact wpAny_operating<|sr f (λr j n=>ai<|wpAny_letTemporaryGo<|ax n) λ_ _ x=>x
 first
  |exact ax<|ai l
  |exact ai<|ax<|ai l
  |exact ai l
theorem Er(I:Inv X i σ H s)(g:qj X.K H a y o):s.TypeIs (.ref a) "dict":=by
 obtain⟨f,k,e,_,_⟩|⟨f,k,b,e,_,_,_⟩:=g
 .obtain⟨_,_,j,_,h⟩:=vF I.kl e;exact h.typeIs
 .obtain⟨_,_,l,_,h⟩:=yd I.kl I.O' e;exact h.typeIs
def oS(K:Za)(td ty:TE):TE:=fun σ H Q=>td σ H λx H1=>ty σ H1 λy H2=>∃a v,x=.ref a/\qj K H2 a y (eH v)/\Q v H2
def Ip(K:Za)(ty td:TE):TE:=fun σ H Q=>ty σ H λy H1=>td σ H1 λx H2=>∃a o,x=.ref a/\qj K H2 a y o/\Q (.bl o.isSome) H2
def kU(K:Za)(ty td:TE):TE:=fun σ H Q=>ty σ H λy H1=>td σ H1 λx H2=>∃a o,x=.ref a/\qj K H2 a y o/\Q (.bl (!o.isSome)) H2
def kz(td ty tv:TE):TS:=λD σ H=>tv σ H λv H1=>td σ H1 λx H2=>ty σ H2 λy H3=>∃a H4,x=.ref a/\Pl H3 a y v H4/\D.nx σ H4
section
variable{X:Cx}{o i e value:Wr}{pos pos' J8:Pos}{td ty tv:TE}
theorem jW(m:X.A.units+16<cLine)(n:PE X o td)(hi:PE X i ty)(p:JB i):PE X (.Subscript o i pos) (oS X.K td ty):=by
 intro k s σ H Q I h;refine Ms PySem.F.slot_dict_getitem.lookup p<|c7 (n k s σ H _ I h) λu q ⟨x,r,t,w,z⟩=>c7 (hi k q σ r _ t z) λG J f=>?_;let⟨y,B,l,C,a,v,ex,g,D⟩:=f;subst ex;obtain rfl:u=Value.ref a:=w;exact⟨Er l g,Jp m l g C λL M E j=>⟨v,B,E,j,D⟩⟩
theorem xN(k:X.A.units+16<cLine)(hi:PE X i ty)(l:PE X o td):PC X .In i o (Ip X.K ty td):=by
 intro j s σ H Q I h;refine c7 (hi j s σ H _ I h) λD m ⟨y,n,p,q,r⟩=>c7 (l j m σ n _ p r) λu E f=>?_;let⟨x,t,v,w,a,z,ex,g,B⟩:=f;subst ex;obtain rfl:u=Value.ref a:=w;exact Vj k v g q λG C=>⟨.bl z.isSome,t,C,fj,B⟩
theorem j5(k:X.A.units+16<cLine)(hi:PE X i ty)(l:PE X o td):PC X .NotIn i o (kU X.K ty td):=by
 intro j s σ H Q I h;refine c7 (hi j s σ H _ I h) λD m ⟨y,n,p,q,r⟩=>c7 (l j m σ n _ p r) λu E f=>?_;let⟨x,t,v,w,a,z,ex,g,B⟩:=f;subst ex;obtain rfl:u=Value.ref a:=w;exact No k v g q λG C=>⟨.bl (!z.isSome),t,C,fj,B⟩
theorem gB(k:X.A.units+16<cLine)(l:PE X o td)(hi:PE X i ty)(m:PE X value tv)(n:vg value (eH<|.Subscript o i pos') pos.line X.env=pure false):
  PS X (.Assign [.Subscript o i pos'] value pos) (kz td ty tv):=by
 intro f s σ H D I h;refine wpAny_Assign_Subscript (c7 (m f s σ H _ I h) λr p ⟨v,q,t,w,z⟩=>c7 (l f p σ q _ t z) λu B ⟨x,C,E,G,J⟩=>c7 (hi f B σ C _ E J) λT U j=>?_) n;let⟨y,Y,L,M,a,N,ex,g,O⟩:=j;subst ex;obtain rfl:u=Value.ref a:=G;exact Jo k L g M w λs4 Q=>⟨σ,N,Q,O⟩
end
theorem Ep{K:Za}(h:Wq)(a:fS<h.objs.size):bA P w K H (h.push { cls:=.type "dict",data:=.dict #[]}) h.objs.size (.dK []) :=
 ⟨cH _,beq_eq_false_iff_ne.mpr<|dA<|cr a,[],.nil,Heap.DictOf.new h⟩
theorem Eo{K:Za}(h:Wq)(a:fS<h.objs.size):bA P w K H (h.push { cls:=.type "dict",data:=.dict #[]}) h.objs.size (.dT []) :=
 ⟨cH _,beq_eq_false_iff_ne.mpr<|dA<|cr a,[],.nil,_,#[],0,cv _ rfl,⟨fj,fj,fj⟩,fj,fj,qN⟩
def uM:TE:=λ_ H Q=>∀p,H p=none->Q (.ref p) (upd H p<|.dK [])
def oQ:TE:=λ_ H Q=>∀p,H p=none->Q (.ref p) (upd H p<|.dT [])
section
variable{X:Cx}{pos:Pos}
theorem oZ:PE X (.Dict [] [] pos) uM:=λe s σ H Q I h =>
 wpAny_Dict_empty ⟨.ref ↑s,_,I.laid (a:=↑s) (o:=.dK []) (t':=s.toks) (λ_ _ q=>aT _ q) (aF _)<|Ep s.heap I.big,fj,h _<|I.kl.fresh<|aF _⟩
theorem kE:PE X (.Dict [] [] pos) oQ:=λe s σ H Q I h =>
 wpAny_Dict_empty ⟨.ref ↑s,_,I.laid (a:=↑s) (o:=.dT []) (t':=s.toks) (λ_ _ q=>aT _ q) (aF _)<|Eo s.heap I.big,fj,h _<|I.kl.fresh<|aF _⟩
end
def Fh:List (TE×TE)->St->Hp->(List (V×V)->Hp->Prop)->Prop
 |[],_,H,Q=>Q [] H
 | (tk,tv)::r,σ,H,Q=>tk σ H λx H1=>tv σ H1 λy H2=>Fh r σ H2 λps H3=>Q ((x,y)::ps) H3
abbrev VV:List (V×V)->List (Wm×Wm)->Prop:=Paired λp q=>RelV p.1 q.1/\RelV p.2 q.2
def Pz(X:Cx)(pos:Pos)(keys:List<|Option Wr)(values:List Wr)(UQ:List<|TE×TE):Prop :=
 ∀(J4:Zd) (s:Wl) (σ:St) (H:Hp) (Q:List (V×V)->Hp->Prop),Inv X J4 σ H s->Fh UQ σ H Q ->
  wpAny (model X.prog X.w) X.A (evalPairs<|Br keys values X.env pos) (λvs s'=>∃ps H',Inv X J4 σ H' s'/\VV ps vs/\Q ps H') X.xe s
theorem MT:Pz X a [] [] []:=λe s σ H Q I h=>pairTrees_nil_walk ⟨[],H,I,.nil,h⟩
theorem KW(m:PE X k tk)(n:PE X v l)(o:Pz X a i j e):
  Pz X a (eH k::i) (v::j) ((tk,l)::e):=λf s σ H Q I h =>
 pairTrees_cons_walk (c7 (m f s σ H _ I h) λu p ⟨x,q,r,t,w⟩=>c7 (n f p σ q _ r w) λM z ⟨y,A,B,C,D⟩ =>
  c7 (o f z σ A _ B D) λN O ⟨E,G,J,g,L⟩=>⟨(x,y)::E,G,J,.cons ⟨t,C⟩ g,L⟩)
def jI(kvs more:List<|fK×V):List (fK×V):=more.foldl (λacc kv=>dR acc kv.1 kv.2) kvs
theorem KV.merge:∀{a:List (fK×V)}{i:List (fK×Wm)}{f:List (fK×V)}{g:List (fK×Wm)},KV a i->KV f g->KV (jI f a) (merged g i):=by
 intro a i f g r;unfold KV at r
 induction r generalizing f g with
 |nil=>intro q;exact q
 |@cons p q l qs h t j =>
  intro k;have e:KV (dR f p.1 p.2) (stored g q.1 q.2):=by
   have:=k.put p.1 h.2;rw[<-h.1];exact this
  exact j e
theorem md:∀(e a:List<|fK×V),(jI a e).length<=a.length+e.length
 |[],a=>by show a.length<=a.length+0;nofun
 |p::r,a=>by
  have f:=md r<|dR a p.1 p.2;have g:=jz a p.1 p.2;show(jI (dR a p.1 p.2) r).length<=_;rw[eT];nofun
theorem yn:∀{e:List (fK×V)}{g:List (Wm×Wm)},VV (e.map λi=>(kV i.1,i.2)) g->∃f,Carries (cM P w) g f/\KV e f
 |[],_,r=>by rw[ur]at r;cases r;exact⟨[],jO,.nil⟩
 |p::e,_,r=>by
  rw[bL]at r;cases r with
  |@cons a b k bs h t =>
   let⟨f,c,q⟩:=yn (P:=P) (w:=w) t;let⟨l,j⟩:=b;exact⟨(p.1,j)::f,⟨tM h.1,fj,c⟩,.cons ⟨fj,h.2⟩ q⟩
def NK(UQ:List<|TE×TE):TE:=fun σ H Q=>∀p,H p=none->Fh UQ σ (upd H p<|.dK []) λps H2=>H2 p=eH (.dK [])/\∃kvs:List<|fK×V,ps=kvs.map (λkv=>(kV kv.1,kv.2))/\kvs.length<=15/\Q (.ref p) (upd H2 p<|.dK<|jI [] kvs)
theorem M0(h:Pz X g f values i)(j:f.all (·.isSome)=true)(t:f.length=values.length)(u:f≠[])(m:f.length<=15):PE X (.Dict f values g) (NK i):=by
 intro v s σ H Q I q;have x:=I.kl.fresh<|aF ↑s;have y:=I.laid (a:=↑s) (o:=.dK []) (h':=s.heap.push { cls:=.type "dict",data:=.dict #[]}) (t':=s.toks) (λ_ _ q=>aT _ q) (aF _)<|Ep s.heap I.big;refine wpAny_Dict_walk (knd:=cM X.prog X.w) j t u m<|c7 (h v _ σ _ _ y<|q _ x) λY s2 n=>?_;let⟨ps,H2,r,p,e,k,A,lk,B⟩:=n;subst A;let⟨C,c,D⟩:=yn (P:=X.prog) (w:=X.w) p;let⟨z,E,G,J,L⟩:=NX r.kl e;cases J;apply⟨C,c,L,λh' l M=>⟨.ref ↑s,_,?_,fj,B⟩⟩;have N:(jI [] k).length<=ak:=by
  have O:=md k [];rw[lU]at O;rw[GP];nofun
 have T:∃q,h'.get? ↑s=eH q:=let⟨q,_,_,U,_⟩:=l;⟨q,U⟩;exact pS r (by rw[e];exact jO) M T<|Gb N E (D.merge .nil) l
structure M2(X:Cx)(o:Wr)(m:Ws)(J6:Pos)(e f:Wr)(J5:Pos):Prop where
 base:oo o m X.env (eval o X.env)=eval o X.env
 Qf:((backTo J5 (aR [e,f] X.env)).all (λx=>!x.1) && (vc J5 (oG [] X.env)).all (λx=>x.1.isSome)
  && decide (([e,f]:List Wr).length+([]:List Keyword).length+(if([]:List Keyword).isEmpty then 0 else 1)<30))=true
 line:(J6.endLine==J5.line)=true
 trees:backTo J5 (aR [e,f] X.env)=[(false,eval e X.env),(false,eval f X.env)]
def VM(H:Hp)(a:Wk):Prop:=(∃kvs,Rd H a<|.dK kvs)∨∃kvs,Rd H a (.dT kvs)
theorem Oz(I:Inv X l σ H s)(d:VM H a):
  s.TypeIs (.ref a) "dict"/\(∀b,Value.ref a=.ref b->∃f,s.heap.get? b=eH f/\f.dict=none)/\(a==fS)=false:=by
 obtain⟨h,e⟩|⟨h,e⟩:=d
 .obtain⟨_,i,m,_,g⟩:=vF I.kl e;apply⟨g.typeIs,λb q=>?_,i⟩;cases q;let⟨f,_,_,j,k,_⟩:=g;exact⟨f,j,k.2.1⟩
 .obtain⟨_,i,n,_,g⟩:=yd I.kl I.O' e;apply⟨g.typeIs,λb q=>?_,i⟩;cases q;let⟨f,_,_,j,k,_⟩:=g;exact⟨f,j,k.2.1⟩
section
variable{X:Cx}{J4:Zd}{σ:St}{H:Hp}{s:Wl}{a:Wk}{y d:V}{u r:Wm}{o:Option V}{A:Wo}{E:Zc}
theorem OC(x:A.units+16<cLine)(I:Inv X J4 σ H s)(g:qj X.K H a y o)(p:RelV y u)(q:RelV d r)(h:∀t v,Inv X J4 σ H v->RelV (o.getD d) t->Q t v):
  wpAny (model X.prog X.w) A (call (.builtin "dict.get") [.ref a,u,r]) Q E s:=by
 obtain⟨j,k,e,m,l⟩|⟨j,k,b,e,m,B,C,l⟩:=g
 .subst m;let⟨z,n,G,f,i⟩:=vF I.kl e;refine call_meetsIn PySem.F.slot_dict_get i.typeIs PySem.F.entry_dict_get (PySem.F.args_dict_get_3 _ _ _) (meets_dict_get_default (cM X.prog X.w) a (tM p) n r) ⟨_,i.mapOf,h _ _ (I.tok _) ?_⟩;rw[l];exact(f.val k).getD q
 .subst m;cases(show u=Value.ref b from p);let⟨z,n,D,f,i⟩:=yd I.kl I.O' e;refine call_meetsIn PySem.F.slot_dict_get i.typeIs PySem.F.entry_dict_get (PySem.F.args_dict_get_3 _ _ _) (meetsH_dict_get_default (bO X.prog X.w) a b n r) ⟨iM x,k,D,Ck I B C,i,h _ _ (I.tok _) ?_⟩;rw[l];exact(f.val k).getD q
end
def oR(K:Za)(td ty tx:TE):TE:=fun σ H Q=>td σ H λx H1=>∃a,x=.ref a/\VM H1 a/\ty σ H1 λy H2=>tx σ H2 λz H3=>∃o,qj K H3 a y o/\Q (o.getD z) H3
section
variable{X:Cx}{o e f:Wr}{J6 J5:Pos}{td ty tx:TE}
theorem mF(n:X.A.units+16<cLine)(p:PE X o td)(q:PE X e ty)(hf:PE X f tx)(m:M2 X o "get" J6 e f J5):PE X (.Call (.Attribute o "get" J6) [e,f] [] J5) (oR X.K td ty tx):=by
 intro i s σ H Q I h;refine wpAny_Call_method m.base m.Qf m.line PySem.F.plainAttrs_dict PySem.F.slot_dict_get PySem.F.type_dict_get<|c7 (p i s σ H _ I h) λu r j=>?_;let⟨x,t,l,v,a,ex,d,w⟩:=j;subst ex;obtain rfl:u=Value.ref a:=v;let⟨B,C,_⟩:=Oz l d;apply⟨B,C,?_⟩;rw[m.trees];refine qQ rfl (Calls.evalArgs_plain (wB (c7 (q i r σ t _ l w) λY D ⟨y,E,G,J,L⟩ =>
  wB (c7 (hf i D σ E _ G L) λfv s3 ⟨z,M,N,O,ov,g,T⟩=>C4 ?_))))
 exact OC n N g J O λw' s4 U k=>⟨_,M,U,k,T⟩
end
end L2
namespace VN
open PySem PySem.W PySem.Calls PyProof.Rows
theorem QZ:∀(e:List Int) (vs:Zf),WellAll P h vs (e.map WData.int)->wW vs e:=by
 intro e
 induction e with
 |nil =>
  intro vs w;rw[ur]at w;cases w;exact .nil
 |cons n e f =>
  intro vs w;rw[bL]at w;cases w with
  |cons a b =>
   cases a;exact .cons _ _<|f _ b
theorem SV{l:OpenLaw}(u:l.most=eH n)(g:l.row.toRowW.claim.pre args=true)(o:WellAll P h f args) :
  ∃a s e,f=[Value.ref a]/\args=[WData.list<|e.map WData.int]/\h.get? a=eH { cls:=.type "list",data:=.seq s.toArray}/\wW s e/\e.length<=n:=by
 have p:WShape.hasAll [] args [.list .int]=true:=(pre_splitW g).1;have t:l.pre.holds [] { args:=args}=true:=(pre_splitW g).2;let⟨d,r,rfl,v,w⟩:=hasAllW_cons p;obtain rfl:=hasAllW_nil w;let⟨C,rfl,x⟩:=hasW_list v;let⟨e,rfl⟩:=items_int x;have i:e.length<=n:=by
  unfold OpenLaw.pre at t;have k:(WTm.not<|.lt (.lit<|.int (n:Int))<|.len<|.arg 0).holds [] { args:=[.list<|e.map .int]}=true:=by
   have k:=(holds_andW t).1;rw[u]at k;exact k
  have m:=condW_of k<|w_not<|w_lt w_lit<|w_len_list<|w_arg rfl;rw[ag]at m;refine Nat.le_of_not_lt λq=>?_;have y:(n:Int)<((e.length:Nat):Int):=by nofun
  first
   | (rw[hH y]at m;exact absurd m Wt)
   | (simp at m;nofun)
 cases o with
 |cons z A =>
  cases A;cases z with
  |list B j=>exact⟨_,_,e,fj,fj,B,QZ e _ j,i⟩
theorem SW(l:OpenLaw)(args:List WData):l.row.toRowW.claim.post args (.bool true) args=true :=
 postW_of (r:=l.row.toRowW) (X:=(true==true))
  (show WShape.has [] (.bool true) .bool=true by first|rfl|decide|simp[WShape.has,WShape.arms,WShape.armsAll])
  (show(WTm.eq .res<|.lit<|.bool true).value [] { args:=args,res:=eH<|.bool true,after:=args}=eH (.bool<|true==true)from w_eq_bool (w_res rfl) w_lit) rfl
theorem Sa{l:OpenLaw}{d:DefRec}(J:l.most=eH n)(v:d.params.defaults=[])(call:∀(w:Wn) (g e:Wl) (p x:Ws->Option Wm) (i:Wk) (o:Obj) (y s doc:Wm) (a:Wk) (h:Zf) (t:List Int),
   Ground q loose [] C w g p x e.heap->D w e.heap ->
   e.heap.get? i=eH o->o.data=.func (docDef d.name d.params d.body d.scope y s doc)->e.heap.CodeRec s d.name->p d.name=eH (.ref i) ->
   e.heap.get? a=eH { cls:=.type "list",data:=.seq h.toArray}->wW h t->t.length<=n->e.gens=#[] ->
   D8 (model l.prog w) oE (.call (.ref i) ⟨[.ref a],[]⟩) (λr u=>r=.ok (.ret<|.bool true)/\OldK e.heap u.heap/\u.os=e.os/\so u.gens) e) :
  WalkO q loose C D l.row.toRowW d [] (λf h=>PySem.call f h):=by
 intro w g e p x G Y i o y s doc L kV M N z E A O args H as j I Q B T;obtain rfl:L=.none:=Dflts.none E v;obtain rfl:kV=.none:=Dflts.noKw E;let⟨a,h,t,rfl,rfl,k,hints,m⟩:=SV J j B;refine enter_call<|GK (call w g e p x i o y s doc a h t G Y M (fd_plain N) z A k hints m O) λr u U=>?_;let⟨rfl,h2,h3,h4⟩:=U;exact⟨.inl ⟨.bool true,.bool true,[],fj,λ_=>rfl,.bool true,SW l _,λ_=>⟨List.Pairwise.nil,λ_ hm=>(nomatch hm)⟩⟩,h2,h3,h4⟩
end VN
namespace L2
open PySem Spec PyProof.Rows
theorem zT:∀{a:Zf}{e:List Int},wW a e->bG (e.map V.int) a
 |_,_,.nil=>.nil
 |_,_,.cons n t h=>.cons ⟨t,fj⟩<|zT h
def Ny(H:Hp):Prop:=∀b,H b=none∨∃o xs,H b=eH (.oI o<|.lst xs)
theorem Lb{K:Za}(KX:K.In f.heap)(C:f.heap.Ns cw A)(i:f.heap.Ns builtinsNs Q)(U:∀x:Ws,x≠"__name__"->Q x=kR x)(D:f.heap.NoLimit)(hg:f.gens=#[])(O:f.heap.get? a=eH { cls:=.type "list",data:=.seq t.toArray})(hi:wW t B)(hl:B.length<=ak)(hr:gh k oE)(F:∀base:Wq,K.In base->base.Ns cw A->pe P w K A base CX k T fd [x] sp)(y:∀(s:Wl) (u:Wm),wA s fd ⟨[u],[]⟩ [(x,u)])(Y:∀H:Hp,Ny H->az K H a (B.map V.int)->sp [.ref a] H (λv _=>v=.bl true) λ_ _ _=>False)(al:∀H e j,CX [] H f (λ_ _ _=>False) e j->False) :
  D8 (model P w) oE (.call (.ref T) ⟨[.ref a],[]⟩) (λr j=>r=.ok (.ret<|.bool true)/\OldK f.heap j.heap/\j.os=f.os/\so j.gens) f:=by
 have rv:=zT hi;have E:=hi.length;have p:∀H:Hp,Ny H->az K H a (B.map V.int)->om P w K H f.heap->(∀b,H b≠none->b=a)->(H a≠none->K.lookup a=none) ->
   D8 (model P w) oE (.call (.ref T) ⟨[.ref a],[]⟩) (λr j=>r=.ok (.ret<|.bool true)/\OldK f.heap j.heap/\j.os=f.os/\so j.gens) f:=by
  intro H hO hS G hA hK;have g:∀{b:Wk}{o:Obj},f.heap.get? b=eH o->H b=none->(Cq f.heap H).get? b=eH o:=λe n=>Lh e n;have an:∀{b:Wk}{o:Obj}{es:Array fH}{I:Nat},f.heap.get? b=eH o->o.data=.dict es I->H b=none:=fun{b o es I} e d=>by
   cases q:H b with
   |none=>rfl
   |some u =>
    have e':b=a:=hA b (by rw[q];simp);subst e';rw[O]at e;cases e;have d':Data.seq t.toArray _=Data.dict es I:=d;cases d'
  have l:∀{b:Wk}{m:Ws->Option Wm},f.heap.Ns b m->(Cq f.heap H).Ns b m:=fun{b m} ⟨o,es,I,e,d,r⟩=>⟨o,es,I,g e<|an e d,d,r⟩;have J:K.In (Cq f.heap H):=λb o e=>g (KX b o e) (by
   cases q:H b with
   |none=>rfl
   |some u =>
    have e':b=a:=hA b (by rw[q];simp);subst e';rw[hK (by rw[q];simp)]at e;cases e)
  have hM:Mod K A (Cq f.heap H):=⟨J,l C,⟨Q,l i,U⟩,let⟨mc,h1,h2⟩:=D;⟨mc,l h1,h2⟩⟩;have e0:GH P w K A (Cq f.heap H) oE [] f H:=⟨fj,hM,λb o e=>M_ e,Nat.le_of_eq<|Je _ _,trivial,λb i=>absurd (show b∈([]:Ze)from i) ∅,G,.of_eq hg⟩;refine GK ((F _ J<|l C).run oE [] f H ⟨[.ref a],[]⟩ [.ref a] [.ref a] _ _ hr e0 (y f<|.ref a) (.cons rfl .nil)<|Y H hO hS) λr j h=>?_;cases r with
  |error e=>exact(al H e j h).elim
  |ok fl =>
   cases fl with
   |next=>exact mq h
   |brk=>exact mq h
   |cont=>exact mq h
   |ret u =>
    let⟨v,H',os,L,un,M,r',q⟩:=h;have q':v=.bl true:=q;subst q';obtain rfl:u=Value.bool true:=r';apply⟨fj,OldK.of_keep λb o e=>?_,os,L⟩;cases q:H b with
    |none=>exact un.keep b o e q (by intro z;exact absurd (show b∈([]:Ze)from z) ∅) ∅
    |some u =>
     obtain z|⟨ob,xs,z⟩:=hO b
     .rw[q]at z;cases z
     .have z2:=un.So b ob _ z;let⟨e1,_⟩:=G b _ z;let⟨e2,_⟩:=M b _ z2;rw[e]at e1;cases e1;exact e2
 cases hk:K.lookup a with
 |some o =>
  have e:=KX a o hk;rw[O]at e;cases e;refine p (λ_=>none) (λ_=>.inl rfl) (.inr ⟨_,t.toArray,_,hk,fj,fj,fj,by rw[cx,E];exact hl,by simpa using rv⟩) (λb u z=>by have N:(none:Option HO)=eH u:=z;cases N) (λb z=>absurd rfl z) λz=>absurd rfl z
 |none =>
  refine p (λb=>if b=a then eH (.oI { cls:=.type "list",data:=.seq t.toArray} (.lst<|B.map V.int))else none) (λb=>?_) (.inl<|.inr ⟨{ cls:=.type "list",data:=.seq t.toArray},if_pos rfl⟩) (λb u z=>?_) (λb z=>?_) λ_=>hk
  .by_cases i:b=a
   .exact .inr ⟨_,_,if_pos i⟩
   .exact .inl<|if_neg i
  .by_cases i:b=a
   .have N:=(if_pos i).symm.trans z;cases N;subst i;exact⟨O,by rw[ag];exact hl,t,_,rv,O⟩
   .have N:=(if_neg i).symm.trans z;cases N
  .by_cases i:b=a
   .exact i
   .exact absurd (if_neg i) z
end L2
namespace L2
open PySem Spec PyProof.Rows
theorem Mj{l:PySem.W.OpenLaw}{n k:Nat}{q:bR}{loose:Zb}{N:(Ws->Option Wm)->Wq->Prop}{I:Wn->Wq->Prop}{d:DefRec}{K:Params->Za}{CX:Wn->JK}{sp:Wn->Sp}{x:Ws}
  (O:l.most=eH n) (y:n<=ak) (z:d.params.defaults=[]) (Q:gh k oE)
  (U:∀(w:Wn) (h:Wq),I w h->(K w.params).In h)
  (F:∀(w:Wn) (j:Ws->Option Wm) (r:Wk) (h:Wq),(K w.params).In h->h.Ns cw j->j d.name=eH (.ref r) ->
   ∃A:nO,(∀(s:Wl) (u:Wm),wA s A ⟨[u],[]⟩ [(x,u)]) /\
    ∀base:Wq,(K w.params).In base->base.Ns cw j->pe l.prog w (K w.params) j base (CX w) k r A [x] (sp w))
  (B:∀(w:Wn) (H:Hp) (a:Wk) (t:List Int),t.length<=n->Ny H->az (K w.params) H a (t.map V.int)->sp w [.ref a] H (λv _=>v=.bl true) λ_ _ _=>False)
  (C:∀(w:Wn) (H:Hp) (s:Wl) (e:Wm) (D:Wl),CX w [] H s (λ_ _ _=>False) e D->False) :
  PySem.W.WalkO q loose N I l.row.toRowW d [] (λf J=>PySem.call f J):=by
 refine VN.Sa O z λw L m j mb r o pm cd doc a J t G Y ho hd al E p hints i hg=>?_;have M:=U w _ Y;let⟨A,hb,hF⟩:=F w j r _ M G.T.g E;exact Lb M G.T.g G.T.b G.T.builtins G.T.nolimit hg p hints (bH i y) Q hF hb (λH hO hS=>B w H a t i hO hS) λH e D=>C w H m e D
theorem Tj{l:PySem.W.OpenLaw}{n k:Nat}{q:bR}{loose:Zb}{A:(Ws->Option Wm)->Wq->Prop}{t:Wn->Wq->Prop}{d:DefRec}{K:Params->Za}{CX:JK}{sp:Za->Sp}{x:Ws}
  (B:l.most=eH n) (j:n<=ak) (m:d.params.defaults=[]) (C:gh k oE)
  (D:∀(w:Wn) (h:Wq),t w h->(K w.params).In h)
  (F:∀(w:Wn) (g:Ws->Option Wm) (y:Wk) (h:Wq),(K w.params).In h->h.Ns cw g->g d.name=eH (.ref y) ->
   ∃z:nO,(∀(s:Wl) (u:Wm),wA s z ⟨[u],[]⟩ [(x,u)]) /\
    ∀base:Wq,(K w.params).In base->base.Ns cw g->pe l.prog w (K w.params) g base CX k y z [x] (sp<|K w.params))
  (o:∀(K:Za) (H:Hp) (a:Wk) (i:List Int),i.length<=n->Ny H->az K H a (i.map V.int)->sp K [.ref a] H (λv _=>v=.bl true) λ_ _ _=>False)
  (p:∀(H:Hp) (s:Wl) (e:Wm) (r:Wl),CX [] H s (λ_ _ _=>False) e r->False) :
  PySem.W.WalkO q loose A t l.row.toRowW d [] (λf E=>PySem.call f E) :=
 Mj (K:=K) (CX:=λ_=>CX) (sp:=λw=>sp<|K w.params) B j m C D F (λw H a i G I J=>o (K w.params) H a i G I J) λ_ H s e r=>p H s e r
end L2
namespace L2
open PySem Spec PyProof.Rows
def gC(s:Stmt)(j:Nat):Stmt:=match s with
 |.ClassDef _ _ _ body _ _ _ _ _ _ _=>body.getD j<|.Pass ⟨0,0,0,0⟩
 |_=>.Pass ⟨0,0,0,0⟩
def jY(s:Stmt):Arguments:=match s with
 |.FunctionDef _ a _ _ _ _ _ _ _ _=>a
 |_=>{ posonlyargs:=[],args:=[],vararg:=none,kwonlyargs:=[],kw_defaults:=[],kwarg:=none,defaults:=[]}
def iA(s:Stmt):List Stmt:=match s with
 |.FunctionDef _ _ b _ _ _ _ _ _ _=>b
 |_=>[]
def cN(s:Stmt):Scope:=match s with
 |.FunctionDef _ _ _ _ _ _ sc _ _ _=>sc
 |_=>{ kind:=.function,names:=[],isGenerator:=false,isCoroutine:=false}
abbrev Tg:JK:=λ_ _ _ _ _ _=>False
abbrev E0:XK:=λ_ _ _=>False
abbrev aM(sp:Sp)(a:TA):TE:=NL sp [] E0 a
theorem Hh:rR Tg X E0:=λ_ _ _ _ _ _ _ h=>h.elim
structure OV(K:Za)(x qual:Ws)(st:Stmt)(f:Wk)(fd:nO):Prop where
 ex:∃(oc:Wm) (od:Option Wk) (kV doc pm:Wm) (an:Option Wk) (T8 ct:Wm) (VR:Array (Option Wm)),
  fd=ki x qual (jY st) (iA st) (cN st) .none kV doc pm an T8 ct/\K.lookup f=eH ⟨oc,od,.func fd,VR⟩/\qW K T8 qual=true
 kp:ka K (.ref f)=true
section
variable{P:bR}{w:Wn}{K:Za}{mg:Ws->Option Wm}{base:Wq}
theorem OV.ok{x a:Ws}{st:Stmt}{f:Wk}{o:nO}{N j:Zb}{k:Nat}{l:Sp}(F:OV K x a st f o)(S:nF N j<|cN st)(len:∀g H Q E,l g H Q E->g.length=j.length)
  (i:∀(e:Wm) (A:Wo) (outer:List Env) (s:Wl) (H:Hp) (g:List V) (Q:VK) (E:XK),gh k (A.deeper<|envOfC a (cN st) ↑s f e)->l g H Q E ->
   ∃t,EQ (Gg Tg P w K mg base N a (cN st) f e A outer s H E).Tz (iA st) t/\t (bT Q) (start N g) H):pe P w K mg base Tg (k+1) f o j l:=by
 let⟨u,v,kV,doc,y,z,e,B,p,rfl,lk,m⟩:=F.ex;refine O9 lk m S len λA outer s H g Q E r n=>?_;let⟨t,h,q⟩:=i e A outer s H g Q E r n;exact⟨t,h.Tz,q⟩
theorem OV.binds{x a:Ws}{st:Stmt}{f:Wk}{l:nO}{ps:Zb}(F:OV K x a st f l)
  (h:∀(kV doc g:Wm) (i:Option Wk) (e j:Wm) (k:Zf),k.length=ps.length->bindArgs (ki x a (jY st) (iA st) (cN st) .none kV doc g i e j) ⟨k,[]⟩=pure (ps.zip k)):Binds K l ps []:=by
 let⟨o,p,kV,doc,g,i,e,j,m,rfl,lk,n⟩:=F.ex;exact .all<|h kV doc g i e j
theorem Lk{x a:Ws}{st:Stmt}{f:Wk}{m:Wm}{n h:Option Wk}{g:Array (Option Wm)}{kV doc i e j:Wm}(l:K.lookup f=eH ⟨m,n,.func<|ki x a (jY st) (iA st) (cN st) .none kV doc i h e j,g⟩)
  (c:qW K e a=true) (k:ka K (.ref f)=true):OV K x a st f (ki x a (jY st) (iA st) (cN st) .none kV doc i h e j):=⟨⟨m,n,kV,doc,i,h,e,j,g,fj,l,c⟩,k⟩
end
theorem Hz(a:gh k A):A.units+16<cLine:=qM (Nat.add_le_add_left (by decide:16<=64) _) a.units
theorem ao(h:n<=1000):n<ak:=qM h Wt
section
variable{X:Cx}
theorem pv(i:Nat)(f:X.N[i]?=eH x:=by rfl)(g:Vn X.env.scope x:=by first|exact Or.inl rfl|exact Or.inr (Or.inl rfl)|exact Or.inr<|Or.inr rfl)(h:(x==("__debug__":Ws))=false:=by decide)(e:(x==("__classdict__":Ws))=false:=by decide):PE X (.Name x a) (rm i):=Oh f g h e
end
theorem bF{A B:Prop}(h:B):if false=true then A else B:=by
 rw[if_neg h9];exact h
theorem cS{A B:Prop}(h:A):if true=true then A else B:=by
 rw[if_pos rfl];exact h
theorem rJ{c A B:Prop}[Decidable c](a:c->A)(e:¬c->B):if c then A else B:=by
 by_cases h:c
 .rw[if_pos h];exact a h
 .rw[if_neg h];exact e h
def ab(H H':Hp):Prop:=∀b o,H b=eH o->H' b=eH o
theorem ab.refl(H:Hp):ab H H:=λ_ _ h=>h
theorem ab.trans(a:ab H e)(b:ab e f):ab H f:=λc o h=>b c o<|a c o h
theorem ab.free(e:ab H a)(h:a l=Option.none):H l=Option.none:=by
 cases q:H l with
 |none=>rfl
 |some o =>
  rw[e l o q]at h;cases h
theorem ab.seq{K:Za}(e:ab H f)(h:az K H a g):az K f a g:=by
 obtain(h|⟨o,h⟩)|h:=h
 .exact .inl<|.inl<|e _ _ h
 .exact .inl<|.inr ⟨o,e _ _ h⟩
 .exact .inr h
section
variable{prog:bR}{w:Wn}{A:Wo}{R:Result->Wl->Prop}{s:Wl}
abbrev XF:Wm->Wl->Prop:=λ_ _=>False
abbrev FY(ifs:List Wr)(env:Env):Sem Bool:=forIn ifs true λc r=>if r=true then do let ok <- isTrue c env (eval c env);pure (Bq ok)else pure (Bq r)
theorem Cw(I:Nat->Wl->Prop)(turn:∀n s,I n s->wpAny (model prog w) A (pyNext it) (λr e=>match r with
   |none=>R (.ok .next) e
   |some v=>wpAny (model prog w) A (GS target it v) (λ_ f=>wpAny (model prog w) A (assign target a v) (λ_ k =>
     wpAny (model prog w) A (FY u a) (λok g =>
      if ok=true then wpAny (model prog w) A (eval t a) (λx l =>
       wpAny (model prog w) A (call (.builtin "list.append") [y,x]) (λ_ o=>∃m,m<n/\I m o) XF l) XF g
      else ∃m,m<n/\I m g) XF k) XF f) XF e) XF s)(n:Nat)(h:I n s):D8 (model prog w) A (.compLoop (.ListComp t [⟨target,j,u,0⟩] scope B) 0 it y a) R s:=by
 refine codeAny_loop rfl I (λn s G=>?_) n h;show wpAny _ A ((compTurn (.ListComp t [⟨target,j,u,0⟩] scope B) 0 it y a).onRaise<|λx=>do noteFrame x a;theTreesLotGoes x) _ _ s
 refine wpAny_noted ?_;rw[compTurn_list];refine ai<|C8<|ai<|sr (turn n s G) (λr e p=>?_) λ_ _ i=>i.elim;cases r with
 |none=>exact ax p
 |some v =>
  refine ai<|sr p (λ_ f z=>?_) λ_ _ i=>i.elim;refine ai<|sr z (λ_ k C=>ai<|sr C (λok g q=>?_) λ_ _ i=>i.elim) λ_ _ i=>i.elim;cases ok with
  |false=>exact ax ⟨fj,q⟩
  |true =>
   exact ai<|ai<|sr q (λx l D=>ai<|sr D (λ_ o E=>ax<|ax ⟨fj,E⟩) λ_ _ i=>i.elim) λ_ _ i=>i.elim
end
theorem rO:∀(names:List<|Ws×iL) (a:List<|Ws×Wk),(∀y∈names,y.2=.free->∃c,env.cells.lookup y.1=eH c)->(∀x c,a.lookup x=eH c->env.cells.lookup x=eH c) ->
  ∃f:List<|Ws×Wk,(forIn names a λ(x:Ws×iL) (r:List<|Ws×Wk)=>if(x.2==oC)=true then(cellOf env x.1 >>= λc=>(pure (Bq<|(x.1,c)::r):Sem<|ForInStep<|List<|Ws×Wk))else pure (Bq r))=pure f /\
   (∀x c,f.lookup x=eH c->env.cells.lookup x=eH c)/\(∀x,(a.lookup x).isSome=true->(f.lookup x).isSome=true)/\∀y∈names,y.2=.free->(f.lookup y.1).isSome=true
 |[],a,_,o=>⟨a,fj,o,λ_ h=>h,λ_ h=>nomatch h⟩
 | (n,k)::r,a,l,o=>by
  have u:∀y∈r,y.2=.free->∃c,env.cells.lookup y.1=eH c:=λy hy=>l y<|eN _ hy;by_cases q:k=.free
  .subst q;let⟨c,v⟩:=l (n,.free) cT rfl;let⟨f,e,s,p,t⟩:=rO r ((n,c)::a) u (λx d m=>by
    rw[kh]at m;cases hx:x==n with
    |true =>
     rw[hx]at m;have:x=n:=by simpa using hx
     subst this;cases m;exact v
    |false=>rw[hx]at m;exact o x d m)
   have g:(((n,c)::a).lookup n).isSome=true:=by rw[kh,beq_self_eq_true];rfl
   have i:∀x,(a.lookup x).isSome=true->(((n,c)::a).lookup x).isSome=true:=λx hx=>by
    rw[kh];cases x==n with
    |true=>rfl
    |false=>exact hx
   apply⟨f,?_,s,λx hx=>p x<|i x hx,λy hy hf=>?_⟩
   .rw[oB];have j:cellOf env n=pure c:=by unfold cellOf;rw[v]
    simp only[beq_self_eq_true,if_true,j];exact e
   .obtain rfl|hy:=cq.mp hy
    .exact p _ g
    .exact t y hy hf
  .obtain⟨f,e,s,p,t⟩:=rO r a u o;apply⟨f,?_,s,p,λy hy hf=>?_⟩
   .rw[oB];have w:(k==oC)=false:=by simpa using q
    simp only[w,kg,if_false];exact e
   .obtain rfl|hy:=cq.mp hy
    .exact absurd hf q
    .exact t y hy hf
theorem yk(f:∀y∈scope.names,y.2=.free->∃c,env.cells.lookup y.1=eH c):
  ∃a:List<|Ws×Wk,closureFor scope env=pure a/\(∀x c,a.lookup x=eH c->env.cells.lookup x=eH c)/\∀y∈scope.names,y.2=.free->(a.lookup y.1).isSome=true:=by
 let⟨a,e,g,_,i⟩:=rO (env:=env) scope.names [] f<|λ_ _ h=>nomatch h;apply⟨a,?_,g,i⟩;unfold closureFor
 first
  |exact e
  | (simp only[bind_pure];exact e)
  | (rw[show(forIn scope.names [] _:Sem<|List<|Ws×Wk)=pure a from e];rfl)
def fh(X:Cx)(N:Zb)(scope:Scope)(C:Wk)(cl:List<|Ws×Wk)(s₀:Wl)(H₀:Hp)(ex:Ze)(pn:Zd):Cx where
 prog:=X.prog
 w:=X.w
 K:=X.K
 mg:=X.mg
 base:=X.base
 A:=X.A
 N:=N
 s₀:=s₀
 H₀:=H₀
 env:=compEnvC scope cl C X.env
 outer:=X.stack
 stack:=X.stack
 ex:=ex
 fn:=λ_=>false
 calm:=X.calm
 pn:=pn
 xe:=XF
def pT(sc scope:Scope)(k:Nat)(N XN:Zb)(fi:List Nat):Bool :=
 decide (scope.kind=.function) &&
 (scope.names.all λy=>decide (y.2≠.cell) && (decide (y.2≠.local) || decide (scope.names.lookup y.1=eH .local)) && (decide (y.2≠.free) || decide (sc.names.lookup y.1=eH .cell) || decide (sc.names.lookup y.1=eH .free))) &&
 decide (N.length=k+fi.length) &&
 ((oq fi.length).all λj=>match fi[j]? with
  |some i=>match N[k+j]?,XN[i]? with
   |some x,eH y=>decide (x=y) && decide (scope.names.lookup x=eH .free)
   |_,_=>false
  |none=>false)
structure se(sc scope:Scope)(k:Nat)(N XN:Zb)(fi:List Nat):Prop where
 kind:scope.kind=.function
 cell:∀y∈scope.names,y.2≠.cell
 nm:∀y∈scope.names,y.2=.local->scope.names.lookup y.1=eH .local
 fr:∀y∈scope.names,y.2=.free->sc.names.lookup y.1=eH .cell∨sc.names.lookup y.1=eH .free
 len:N.length=k+fi.length
 sl:∀j i,fi[j]?=eH i->∃x,N[k+j]?=eH x/\XN[i]?=eH x/\scope.names.lookup x=eH .free
theorem se.of(h:pT sc scope k N g fi=true):se sc scope k N g fi:=by
 unfold pT at h;simp only[lQ,Bp,Bo,decide_eq_true_eq]at h;let⟨⟨⟨m,l⟩,n⟩,o⟩:=h;apply⟨m,λy f=>(l y f).1.1,λy f e=>((l y f).1.2).resolve_left λz=>z e,λy f e=>?_,n,λj i e=>?_⟩
 .obtain(z|z)|z:=(l y f).2
  .exact absurd e z
  .exact .inl z
  .exact .inr z
 .have p:j<fi.length:=(bY.mp e).1;have q:=o j<|List.mem_range.mpr p;rw[e]at q;dsimp only at q;cases a:N[k+j]? with
  |none=>rw[a]at q;cases q
  |some x =>
   cases b:g[i]? with
   |none=>rw[a,b]at q;cases q
   |some y =>
    rw[a,b]at q;simp only[lQ,decide_eq_true_eq]at q;exact⟨x,fj,by rw[q.1],q.2⟩
theorem jQ{a:Env}:∀{names:List (Ws×iL)}{x:Ws},names.lookup x=eH .free ->
  (names.map λ(n,k)=>if(k==oC && a.scope.kind==.function && a.kindOf n==eH .cell)then(n,iL.cell)else(n,k)).lookup x=eH .cell ∨
  (names.map λ(n,k)=>if(k==oC && a.scope.kind==.function && a.kindOf n==eH .cell)then(n,iL.cell)else(n,k)).lookup x=eH .free
 |[],_,h=>by simp at h
 | (n,k)::r,x,h=>by
  have f:=@jQ a r x;simp only[bL];cases hx:x==n with
  |true =>
   simp only[kh,hx]at h;cases h;by_cases e:(oC==oC && a.scope.kind==.function && a.kindOf n==eH .cell)=true
   .left;rw[if_pos e];simp[kh,hx]
   .right;rw[if_neg e];simp[kh,hx]
  |false =>
   simp only[kh,hx]at h;by_cases e:(k==oC && a.scope.kind==.function && a.kindOf n==eH .cell)=true
   .rw[if_pos e];simp only[kh,hx];exact f h
   .rw[if_neg e];simp only[kh,hx];exact f h
def de(k:Nat)(fi:List Nat)(σ:St):St:=qY k none++fi.map λi=>(σ[i]?).join
theorem Gj(k:Nat)(fi:List Nat)(σ:St):(de k fi σ).length=k+fi.length:=by simp[de]
theorem yj(h:(de k fi σ)[i]?=eH (eH v)):∃j t,i=k+j/\fi[j]?=eH t/\σ[t]?=eH (eH v):=by
 unfold de at h;by_cases hi:i<k
 .rw[iK ‹hi›,List.getElem?_replicate_of_lt hi]at h;cases h
 .rw[oF (by simp;nofun),List.length_replicate,bV]at h;apply⟨i-k,?_⟩;cases e:fi[i-k]? with
  |none=>rw[e]at h;cases h
  |some t =>
   rw[e]at h;simp only[wY]at h;apply⟨t,by nofun,fj,?_⟩;have a:=gp h;cases f:σ[t]? with
   |none=>rw[f]at a;cases a
   |some o=>rw[f]at a;simp only[Option.join]at a;first|(rw[a])|(subst a;rfl)|(simpa using a)
def EE(k:Nat)(g:TG):Prop:=∀x σ H Q,g x σ H Q->g x σ H fun σ2 H2=>Q σ2 H2/\σ2.length=σ.length/\∀i,k<=i->σ2[i]?=σ[i]?
def HU(k:Nat)(g:HR):Prop:=∀x σ H Q,g x σ H Q->g x σ H fun σ2 H2=>Q σ2 H2/\σ2.length=σ.length/\∀i,k<=i->σ2[i]?=σ[i]?
theorem aO(h:i<k):EE k (eX i):=λx σ H Q q=>⟨q,by simp,λj a=>by rw[List.getElem?_set_ne ⋯]⟩
theorem mG:HU k gf:=λx σ H Q ⟨e,q⟩=>⟨e,q,fj,λ_ _=>rfl⟩
def LQ(g:TG):Prop:=∀x σ H Q Q',(∀σ2 H2,Q σ2 H2->Q' σ2 H2)->g x σ H Q->g x σ H Q'
def CV(g:HR):Prop:=∀x σ H Q Q',(∀σ2 H2,Q σ2 H2->Q' σ2 H2)->g x σ H Q->g x σ H Q'
theorem bv:LQ (eX i):=λ_ _ _ _ _ f q=>f _ _ q
theorem dq:CV gf:=λ_ _ _ _ _ f ⟨e,q⟩=>⟨e,f _ _ q⟩
theorem eE(a:LQ g)(h:CV u):CV (aY g u):=λ_ _ _ _ _ f ⟨v,r,e,q⟩=>⟨v,r,e,a _ _ _ _ _ (λ_ _ q=>h _ _ _ _ _ f q) q⟩
theorem dk(a:EE k g)(f:LQ g)(h:HU k u)(j:CV u):HU k (aY g u):=λx σ H Q ⟨v,r,e,q⟩ =>
 ⟨v,r,e,f _ _ _ _ _ (fun σ2 p ⟨q,l,s⟩=>j _ _ _ _ _ (fun σ3 t ⟨m,n,o⟩=>⟨m,n.trans l,λi hi=>(o i hi).trans<|s i hi⟩)<|h _ _ _ _ q)<|a _ _ _ _ q⟩
theorem pK{K:Za}(h:HU k t):EE k (gR K n t):=λx σ H Q ⟨a,f,e,g,i,q⟩=>⟨a,f,e,g,i,h _ _ _ _ q⟩
def N3(X:Cx)(ifs:List Wr)(t:TT):Prop :=
 ∀(J4:Zd) (s:Wl) (σ:St) (H:Hp) (Q:Bool->Hp->Prop),Inv X J4 σ H s->t σ H Q->wpAny (model X.prog X.w) X.A (FY ifs X.env) (TP X J4 σ Q) X.xe s
def iN:TT:=λ_ H Q=>Q true H
theorem cK:N3 X [] iN:=λa s σ H Q I h=>ax ⟨H,I,h⟩
theorem f_(h:PT X c t):N3 X [c] t:=by
 intro a s σ H Q I e;unfold FY;rw[oB];simp only[if_true];refine ai<|ai<|c7 (h a s σ H Q I e) λb f q=>ax ?_;exact ax q
def cZ(k:Nat)(fi:List Nat)(wi:TI)(g:TG)(tc:TT)(te:TE):TE:=fun σ H Q=>wi σ H λJ H1=>∀l,H1 l=none->∃W:Nat->Nat->List V->Hp->Prop,(∃m,W 0 m []<|upd H1 l<|.lst [])/\∀i m vs H2,W i m vs H2->H2 l=eH (.lst vs) /\
 ((J.stop i H2/\Q (.ref l) H2)∨(J.go i H2/\∀x H3,J.Se i H2 x H3->g x (de k fi σ) H3 fun σ2 H4=>tc σ2 H4 λb H5 =>
  if b=true then te σ2 H5 λv H6=>H6 l=eH (.lst vs)/\vs.length<ak/\∃m',m'<m/\W (i+1) m' (vs++[v]) (upd H6 l<|.lst<|vs++[v])else ∃m',m'<m/\W (i+1) m' vs H5))
section
variable{X:Cx}{J4:Zd}{σ:St}
theorem Nr{k:Nat}{N:Zb}{scope:Scope}{fi:List Nat}{H:Hp}{s:Wl}{t:List (Ws×Wk)}{u:Ze}(S:se X.env.scope scope k N X.N fi)(I:Inv X J4 σ H s)
  (g:∀x c,t.lookup x=eH c->X.env.cells.lookup x=eH c) (v:∀y∈scope.names,y.2=.free->(t.lookup y.1).isSome=true) (hf:∀b∈u,r9 X J4 H b) (w:∀b∈u,b<↑s) :
  (fh X N scope ↑s t s H u<|X.pn++J4).Ok where
 mod:=I.ok.mod
 kind:=S.kind
 glob:=I.ok.glob
 blt:=I.ok.blt
 above:=aF _
 inj:=λx y c E G=>I.ok.inj x y c (g x c E)<|g y c G
 has:=λx h=>by
  have A:∃y∈scope.names,y.1=x/\y.2=.free:=by
   have h':(relabel scope X.env).names.lookup x=eH .cell∨(relabel scope X.env).names.lookup x=eH .free:=h;have j:∀(l:List<|Ws×iL) (kd:iL),l.lookup x=eH kd->(x,kd)∈l:=by
    intro l
    induction l with
    |nil=>intro kd e;cases e
    |cons a r J =>
     intro kd e;let⟨n,B⟩:=a;rw[kh]at e;cases hx:x==n with
     |true =>
      rw[hx]at e;have:x=n:=by simpa using hx
      subst this;cases e;exact cT
     |false=>rw[hx]at e;exact eN _<|J kd e
   have f:∀kd,(x,kd)∈(relabel scope X.env).names->kd=.cell∨kd=.free->∃y∈scope.names,y.1=x/\y.2=.free:=by
    intro kd L C;let⟨⟨n,B⟩,m,e⟩:=ar.mp L;dsimp only at e;by_cases p:(B==oC && X.env.scope.kind==.function && X.env.kindOf n==eH .cell)=true
    .have D:B=.free:=by
      simp only[lQ]at p;simpa using p.1.1
     rw[if_pos p]at e;cases e;exact⟨_,m,fj,D⟩
    .rw[if_neg p]at e;cases e;obtain rfl|rfl:=C
     .exact absurd rfl<|S.cell _ m
     .exact⟨_,m,fj,fj⟩
   obtain h'|h':=h'
   .exact f _ (j _ _ h')<|.inl rfl
   .exact f _ (j _ _ h')<|.inr rfl
  let⟨y,m,rfl,C⟩:=A;exact Bw.mp<|v y m C
 Um:=λx c h=>by cases h
 hd:=I.ok.hd
 frames:=I.ok.frames
 Us:=.inl rfl
 Vh:=λb i=>⟨cr<|w b i,λx c e=>(hf b i).2.2.2.2.1 x c<|g x c e⟩
 bs:=I.bs
 TR:=bH I.ok.TR I.sz
 SX:=λb o e i=>by
  obtain z|z:=(hf b i).2.2.2.1
  .exact I.ok.SX b o e z
  .exact absurd (eK (aJ (I.ok.bs b o e).1) z)<|nU _
 Tt:=λb i z=>by
  let⟨_,M,O,_⟩:=hf b i;obtain q|q:=cq.mp (I.Ra b z)
  .exact M q
  .exact O q
 QK:=I.stack
 TY:=I.SH
theorem LB(S:se X.env.scope scope k N X.N fi)(I:Inv X J4 σ H s)(g:∀x c,D.lookup x=eH c->X.env.cells.lookup x=eH c)(A:∀y∈scope.names,y.2=.free->(D.lookup y.1).isSome=true)(hf:∀b∈E,r9 X J4 H b)(G:∀b∈E,b<↑s)(hn:f.Ns ↑s m)(old:∀b o,s.heap.get? b=eH o->f.get? b=eH o) :
  Inv (fh X N scope ↑s D s H E<|X.pn++J4) [] (de k fi σ) H {s with heap:=f,toks:=Y}:=by
 have w:∀(l:List<|Ws×iL) (x:Ws) (kd:iL),l.lookup x=eH kd->(x,kd)∈l:=by
  intro l
  induction l with
  |nil=>intro x kd e;cases e
  |cons a r ih =>
   intro x kd e;let⟨n,k'⟩:=a;rw[kh]at e;cases hx:x==n with
   |true =>
    rw[hx]at e;have:x=n:=by simpa using hx
    subst this;cases e;exact cT
   |false=>rw[hx]at e;exact eN _<|ih x kd e
 apply⟨Nr S I g A hf G,fj,I.bare,Un.kept old,⟨m,hn,λi x v e1 e2 e3=>?_⟩,λx c e=>?_,I.kl.fresh<|aF _,λx c e=>I.P7 x c<|g x c e,λp Q=>?_,I.kl.kept old,?_⟩
 .obtain⟨j,t,rfl,ht,hv⟩:=yj e2;let⟨y,hy,J,B⟩:=S.sl j t ht;have C:N[k+j]?=eH x:=e1;rw[hy]at C;cases C;have h:=w _ _ _ B;let⟨c,T⟩:=Bw.mp<|A _ h rfl;have hX:=g _ _ T;let⟨mX,al,L⟩:=I.loc;have kX:=S.fr _ h rfl;let⟨u,ru,lk⟩:=L t x v J hv (by obtain z|z:=kX;exact .inr<|.inl z;exact .inr<|.inr z);apply⟨u,ru,.inr ⟨?_,c,T,?_⟩⟩
  .exact jQ B
  .obtain⟨z,_⟩|⟨_,c',U,q⟩:=lk
   .have z':X.env.scope.names.lookup x=eH .local:=z;obtain kX|kX:=kX<;>rw[z']at kX<;>cases kX
   .rw[hX]at U;cases U;let⟨o,M,O⟩:=q;exact⟨o,old _ o M,O⟩
 .obtain⟨v,o,M,O⟩:=I.cell x c<|g x c e;exact⟨v,o,old _ o M,O⟩
 .rw[dj]at Q;let⟨e,n,ne,nf,d⟩:=I.pin p Q;apply⟨old _ _ e,n,cr<|aJ e,λz=>?_,d⟩;obtain q|q:=cq.mp (I.Ra _ z)
  .exact ne q
  .exact nf q
 .rw[Gj];exact S.len.symm
structure C0(X:Cx)(J4:Zd)(H:Hp)(C:Wk):Prop where
 free:H C=none
 loc:C≠X.env.locals
 young:X.s₀.heap.objs.size<=C
 cells:∀x c,X.env.cells.lookup x=eH c->c≠C
 pin:∀p∈X.pn++J4,p.1≠C
theorem yh{elt iter tg:Wr}{ifs:List Wr}{scope:Scope}{pos:Pos}{k:Nat}{N:Zb}{fi:List Nat}{cl:List (Ws×Wk)}{g:TG}{tc:TT}{te:TE}{it:Wk}{fp:Ze}{tn:Nat->Wq->Prop}{J:It}{s:Hp}{s2:Wl}{Q:VK}
  {E:Zc}{RR:Wm->Wk->Result->Wl->Prop}
  (S:se X.env.scope scope k N X.N fi) (hc:X.calm=true) (bd:∀x c,cl.lookup x=eH c->X.env.cells.lookup x=eH c) (b8:∀y∈scope.names,y.2=.free->(cl.lookup y.1).isSome=true)
  (hg:∀C cl G H ex pn,PG (fh X N scope C cl G H ex pn) tg g) (ho:EE k g) (ht:∀C cl G H ex pn,N3 (fh X N scope C cl G H ex pn) ifs tc) (he:∀C cl G H ex pn,PE (fh X N scope C cl G H ex pn) elt te)
  (I2:Inv X J4 σ s s2) (T:u1 X.prog X.w X.K tg J fp it tn) (bh:tn 0 s2.heap) (f2:∀b∈fp,r9 X J4 s b)
  (hw:∀l,s l=none->∃W:Nat->Nat->List V->Hp->Prop,(∃m,W 0 m []<|upd s l<|.lst [])/\∀i m O s,W i m O s->s l=eH (.lst O) /\
   ((J.stop i s/\Q (.ref l) s)∨(J.go i s/\∀x H3,J.Se i s x H3->g x (de k fi σ) H3 fun σ2 H4=>tc σ2 H4 λb H5 =>
    if b=true then te σ2 H5 λv H6=>H6 l=eH (.lst O)/\O.length<ak/\∃U,U<m/\W (i+1) U (O++[v]) (upd H6 l<|.lst<|O++[v])else ∃U,U<m/\W (i+1) U O H5)))
  (hR:∀D C L s' U,Inv X J4 σ L s'->s'.heap.Ns C U->C0 X J4 L C->Q (.ref D) L->RR (.ref D) C (.ok .next) s') :
  wpAny (model X.prog X.w) X.A (newList []) (λacc s₃=>wpAny (model X.prog X.w) X.A (newFunctionEnv scope X.env.globals cl [] X.env.qual none .none<|some X.env) (λaC s₄ =>
   D8 (model X.prog X.w) X.A (.compStart (.ListComp elt [⟨tg,iter,ifs,0⟩] scope pos) 0 (.ref it) acc {aC with scope:=relabel scope X.env}) (RR acc aC.locals) s₄) E s₃) E s2:=by
 have ap:s ↑s2=none:=I2.fresh;let⟨W,⟨m0,w0⟩,turn⟩:=hw _ ap;refine gL (wpAny_newFunctionEnv S.cell (by intro y hy;simp at hy) (λI al an=>?_) S.kind);dsimp only at al an ⊢;have I3:Inv X J4 σ (upd s ↑s2<|.lst []) {s2 with heap:=s2.heap.push { cls:=.type "list",data:=.seq ([]:Zf).toArray},toks:=s2.toks}:=I2.Ux (ys:=[]) .nil<|cH _;generalize bi:({s2 with heap:=s2.heap.push { cls:=.type "list",data:=.seq ([]:Zf).toArray},toks:=s2.toks}:Wl)=B at I3;have as:B.heap=s2.heap.push { cls:=.type "list",data:=.seq ([]:Zf).toArray}:=by rw[<-bi]
 have ca:↑B=↑s2+1:=by rw[as,kQ]
 have bl:∀b∈fp,b<↑s2:=λb f=>by
  let⟨o,e,_⟩:=T.obj 0 _ bh b f;exact aJ e
 have f3:∀b∈fp,r9 X J4 (upd s ↑s2<|.lst []) b:=λb f=>⟨by rw[ah<|cr<|bl b f];exact(f2 b f).1,(f2 b f).2⟩;have a0:∀b∈fp,b<↑B:=λb f=>by rw[ca];exact Nat.lt_succ_of_lt<|bl b f
 have old:∀b o,B.heap.get? b=eH o->I.get? b=eH o:=λb o e=>by
  have f:b≠↑B:=cr<|aJ e;rw[as]at e f;exact an.extBut b o f<|aT _ e
 have cc:I.Ns ↑B (λx=>([]:List<|Ws×Wm).reverse.lookup x):=by rw[as];exact al
 have I4:Inv (fh X N scope ↑B cl B (upd s ↑s2<|.lst []) fp<|X.pn++J4) [] (de k fi σ) (upd s ↑s2<|.lst []) {B with heap:=I,toks:=s2.toks+([]:List<|Ws×Wm).length} :=
  LB S I3 bd b8 f3 a0 cc old
 have bn:tn 0 I:=T.keep _ _ _ bh λb f o e=>old b o (by rw[as];exact aT _ e);generalize M:fh X N scope ↑B cl B (upd s ↑s2<|.lst []) fp (X.pn++J4)=Y at I4;have yp:Y.prog=X.prog:=by rw[<-M];rfl
 have yw:Y.w=X.w:=by rw[<-M];rfl
 have yK:Y.K=X.K:=by rw[<-M];rfl
 have yA:Y.A=X.A:=by rw[<-M];rfl
 have yx:Y.xe=XF:=by rw[<-M];rfl
 have yc:Y.calm=true:=by rw[<-M];exact hc
 have gY:PG Y tg g:=by rw[<-M];exact hg _ _ _ _ _ _
 have tY:N3 Y ifs tc:=by rw[<-M];exact ht _ _ _ _ _ _
 have eY:PE Y elt te:=by rw[<-M];exact he _ _ _ _ _ _
 have bz:Y.env=compEnvC scope cl ↑B X.env:=by rw[<-M];rfl
 have fY:∀{L:Hp},(∀b∈fp,L b=none)->∀b∈fp,r9 Y [] L b:=λhn b f=>by
  let⟨f0,f1,bI,bS,f4,f5⟩:=f3 b f;rw[<-M];apply⟨hn b f,cr<|a0 b f,λz=>?_,.inl f,λx c e=>f4 x c<|bd x c e,λp hp=>?_⟩
  .obtain q|q:=cq.mp (I3.Ra _ z)
   .exact f1 q
   .exact bI q
  .rw[dj]at hp;exact f5 p hp
 have a4:∀s4:Wl,s4={B with heap:=I,toks:=s2.toks+([]:List<|Ws×Wm).length} ->
   D8 (model X.prog X.w) X.A (.compLoop (.ListComp elt [⟨tg,iter,ifs,0⟩] scope pos) 0 (.ref it) (.ref ↑s2) Y.env) (RR (.ref ↑s2) ↑B) s4:=by
  rintro s4 rfl;refine Cw (λn s'=>∃i O L,Inv Y [] (de k fi σ) L s'/\tn i s'.heap/\(∀b∈fp,L b=none)/\W i n O L) ?_ m0 ⟨0,[],_,I4,bn,λb f=>(f3 b f).1,w0⟩;rintro n s5 ⟨i,O,H5,I5,b0,b1,w5⟩;let⟨c1,a5⟩:=turn i n O H5 w5;obtain⟨stop,q⟩|⟨go,step⟩:=a5
  .have d:=T.done Y yp yw yK yc i [] s5 _ H5 XF I5 (fY b1) b0 stop;rw[yA]at d;refine c7 d λr s6 a=>?_;let⟨hr,I6⟩:=a;subst hr;have hu:Un (JJ X.stack) fp (upd s ↑s2<|.lst []) H5 B.heap s6.heap:=by have:=I6.base;rw[<-M]at this;exact this
   have cd:s6.os=B.os:=by have:=I6.os;rw[<-M]at this;exact this
   have b2:om X.prog X.w X.K H5 s6.heap:=by have:=I6.kl;rw[<-M]at this;exact this
   have ce:H5 ↑B=none:=by have:=I6.free;rw[<-M]at this;exact this
   let⟨m6,b3,_⟩:=I6.loc;have b4:s6.heap.Ns ↑B m6:=by rw[<-M]at b3;exact b3
   have IX:Inv X J4 σ H5 s6:=I3.UD cd hu b2 I6.bare λb f=>by
    let⟨f0,f1,bI,bS,f4,f5⟩:=f3 b f;exact⟨bS,f1,f4,f5⟩
   refine hR _ _ H5 s6 m6 IX b4 ⟨ce,eU I3.lt,I3.sz,λx c e z=>?_,λp hp z=>?_⟩ q
   .obtain⟨v,o,ho,_⟩:=I3.cell x c e;exact absurd (aJ ho) (by rw[z];exact nU _)
   .exact absurd (aJ (I3.pin p hp).1) (by rw[z];exact nU _)
  .have d:=T.item Y yp yw yK yc i [] s5 _ H5 XF I5 (fY b1) b0 go;rw[yA]at d;refine c7 d λr s6 a=>?_;let⟨u,hr,h6⟩:=a;subst hr;refine c7 h6 λ_ s7 a=>?_;let⟨x,H7,I7,r7,y7,a6,ch⟩:=a;have ci:=I7.pinned (fY ch)<|T.obj _ _ a6;have a7:=gY _ s7 _ H7 x u _ ci r7<|ho _ _ _ _<|step x H7 y7;rw[yp,yw,yA,yx]at a7;refine c7 a7 λ_ s8 a=>?_;obtain⟨σ8,H8,I8,q8,l8,k8⟩:=a;have a8:=tY _ s8 σ8 H8 _ I8 q8;rw[yp,yw,yA,yx]at a8;have again:∀{H9:Hp}{s9:Wl}{ba:List V}{U:Nat},Inv Y ([]++xK fp s7.heap) σ8 H9 s9->U<n->W (i+1) U ba H9->∃m,m<n/\∃i O L,Inv Y [] (de k fi σ) L s9/\tn i s9.heap/\(∀b∈fp,L b=none)/\W i m O L:=fun{H9 s9 ba U} I9 hm w9=>by
    apply⟨U,hm,i+1,ba,H9,(I9.Qw).weak l8.symm<|λj v e=>?_,T.keep _ _ _ a6 λb f o e=>(I9.pin (b,o)<|dh _<|dh _<|nr f e).1,λb f=>?_,w9⟩
    .obtain⟨j',t,rfl,_,_⟩:=yj e;rw[k8 _<|uq _ _];exact e
    .obtain⟨o,e,_⟩:=T.obj _ _ a6 b f;exact(I9.pin (b,o)<|dh _<|dh _<|nr f e).2.1
   refine c7 a8 λb s9 a=>?_;let⟨H9,I9,q9⟩:=a;cases b with
   |false =>
    rw[if_neg h9]at q9 ⊢;let⟨U,hm,w9⟩:=q9;exact again I9 hm w9
   |true =>
    rw[if_pos rfl]at q9 ⊢;have a9:=eY _ s9 σ8 H9 _ I9 q9;rw[yp,yw,yA,yx]at a9;refine c7 a9 λy ck a=>?_;let⟨v,b5,cm,co,b6,bb,U,hm,cs⟩:=a;have b7:=cP (X:=Y) _ ck σ8 b5 (.ref ↑s2) [v] (.ref ↑s2) [y] (λz L=>z=.zr/\L=upd b5 ↑s2 (.lst<|O++[v])) cm rfl (.cons co .nil) ⟨_,O,v,fj,fj,b6,bb,fj,fj⟩;rw[yp,yw,yA,yx]at b7;refine c7 b7 λ_ c2 a=>?_;let⟨_,c3,ct,_,_,c0⟩:=a;subst c0;exact again ct hm cs
 have h:=codeAny_compStart_list (prog:=X.prog) (w:=X.w) (A:=X.A) (elt:=elt) (target:=tg) (iter:=iter) (ifs:=ifs) (rest:=[]) (scope:=scope) (pos:=pos) (it:=.ref it) (acc:=.ref ↑s2) (env:=Y.env) (a4 _ rfl)<|T.self _ 0 _ _ _ bn<|a4 _ rfl;rw[bz]at h;rw[<-bi]at h;exact h
end
section
variable{X:Cx}
theorem C0.turned(c:C0 X a H C)(I:Inv X a σ H s)(f:fB C s.heap h'):Inv X a σ H {s with heap:=h'} :=
 I.turned (t':=s.toks) (λb o g e=>f.extBut b o g e) c.free c.loc (.inr c.young) c.cells c.pin
theorem M4(O:pT X.env.scope scope k N X.N fi=true)(U:X.calm=true)(hi:PI X p i wi)(Y:∀C l a f ex o,PG (fh X N scope C l a f ex o) p g)(ho:EE k g)(ht:∀C l a f ex o,N3 (fh X N scope C l a f ex o) n G)(he:∀C l a f ex o,PE (fh X N scope C l a f ex o) m L)(hs:∀x,C7 i X.env x=pure x:=by intro _;rfl):PE X (.ListComp m [⟨p,i,n,0⟩] scope r) (cZ k fi wi g G L):=by
 intro M s σ H Q I h;have S:=se.of O;let⟨l,j,t,u⟩:=yk (env:=X.env) (scope:=scope) λy hy e=>I.ok.has y.1<|S.fr y hy e;rw[eval_ListComp];refine wpAny_comprehension_free (use:=none) rfl hs j S.kind S.nm<|c7 (hi M s σ H _ I h) λv s1 h1=>c7 h1 λal s2 h2=>?_;let⟨it,fp,tn,J,H2,e,I2,T,z,f2,hw⟩:=h2;subst e;refine yh (RR:=λB C=>compPost (model X.prog X.w) X.A X.xe none (EP X M σ Q) B C) S U t u Y ho ht he I2 T z f2 hw ?_;intro D C H' s' m' I' hn ce q;exact⟨m',hn,λh' E=>⟨.ref D,H',ce.turned I' E,fj,q⟩⟩
theorem FJ(hN:X.N.Nodup)(hj:X.N[j]?=eH y)(L:Loc X.env.scope y)(hS:pT X.env.scope scope k N X.N fi=true)(hc:X.calm=true)(hi:PI X B f wi)(hg:∀C u i l ex E,PG (fh X N scope C u i l ex E) B g)(ho:EE k g)(ht:∀C u i l ex E,N3 (fh X N scope C u i l ex E) n tc)(he:∀C u i l ex E,PE (fh X N scope C u i l ex E) m te)(M:vg (.ListComp m [⟨B,f,n,0⟩] scope p) (eH<|.Name y t) o.line X.env=pure true:=by rfl)(hs:∀x,C7 f X.env x=pure x:=by intro _;rfl)(hf:X.fn y=true∨X.env.scope.names.lookup y=eH .local:=by first|exact .inl rfl|exact .inr rfl|assumption) :
  PS X (.Assign [.Name y t] (.ListComp m [⟨B,f,n,0⟩] scope p) o) (aU (cZ k fi wi g tc te)<|eX j):=by
 intro O s σ H D I h;have S:=se.of hS;let⟨u,r,U,Y⟩:=yk (env:=X.env) (scope:=scope) λy L e=>I.ok.has y.1<|S.fr y L e;rw[exec_Assign_Name_used _ _ _ _ M];refine ai<|C8<|ai ?_;show wpAny _ X.A (do let _ <- comprehension (.ListComp m [⟨B,f,n,0⟩] scope p) scope X.env _ (newList []) false (eval f X.env) (eH<|assign (.Name y t) X.env)) _ _ s
 refine ai (sr (wpAny_comprehension_free (use:=eH<|assign (.Name y t) X.env) (Q:=λ_ G=>SP X O D .next G) rfl hs r S.kind S.nm
  (c7 (hi O s σ H _ I h) λv s1 h1=>c7 h1 λa5 s2 h2=>?_)) (λ_ G hq=>ax<|ax hq) λ_ _ e=>e)
 let⟨it,fp,tn,J,H2,e,I2,T,al,f2,hw⟩:=h2;subst e;refine yh (RR:=λan C=>compPost (model X.prog X.w) X.A X.xe (eH<|assign (.Name y t) X.env) (λ_ G=>SP X O D .next G) an C) (Q:=λx H1=>eX j x σ H1 D.nx) S hc U Y hg ho ht he I2 T al f2 hw ?_;intro A C H' G m' I' hn ce q;show wpAny _ X.A (assign (.Name y t) X.env<|.ref A) _ _ _;refine wpAny_assign_Name<|z7 I' hN hj L (v:=.ref A) rfl (λa6 ap as=>?_) hf;let⟨a,aC,ha⟩:=as;have a0:C≠a:=by
  obtain z|z:=ha
  .rw[z];exact ce.loc
  .exact dA<|ce.cells y a z
 apply⟨m',hn.sameBut aC a0,λh' a4=>?_⟩;exact⟨_,H',ce.turned ap a4,q⟩
end
theorem Inv.P'{X:Cx}{i:Zd}{σ:St}{H:Hp}{s:Wl}{g:Wq}{p:Nat}{ch:Ze}{o:HO}(I:Inv X i σ H s)(hf:∀b∈ch,r9 X i H b)
  (k:∀b q,b∉ch->s.heap.get? b=eH q->g.get? b=eH q) (M:∃q,g.get? ↑s=eH q) (t:∀y,o≠.own y) (new:bA X.prog X.w X.K (upd H ↑s o) g ↑s o) :
  Inv X i σ (upd H ↑s o) {s with heap:=g,toks:=p}:=by
 have a:H ↑s=none:=I.fresh;have j:∀b q,s.heap.get? b=eH q->b≠↑s:=λb q e=>cr<|aJ e;have l:∀b u,H b=eH u->b∉ch:=λb u e z=>by rw[(hf b z).1]at e;cases e
 refine I.step (g':=s.gens) (d':=s.drawn) (ch:=ch) (λb h=>?_) (λb q _ _ f e _=>k b q f e) (λb q _ _ f e _=>⟨q.slots,k b q f e⟩) (λb q _ e n=>by rw[ah<|j b q e];exact n) (λb q f e=>⟨q,k b q f e⟩)
  (λb x e=>by rw[ah<|ae e a];exact e) (λb q u e=>by rw[ah<|ae e a];exact e) (λb N e=>⟨#[],by rw[ah<|ae e a,e];simp⟩) (λm A=>?_) (λb u e=>?_) I.bare
 .obtain⟨O,B,Q,C,D,E⟩:=hf b h;exact⟨C,B,D,E⟩
 .obtain⟨q,G,J,L,r⟩:=A;exact⟨q,G,J,k _ q (λz=>(hf _ z).2.1 rfl) L,r⟩
 .by_cases h:b=↑s
  .subst h;rw[aa]at e;cases e;exact new
  .rw[ah h]at e;refine(I.kl b u e).RI (λc v f q=>k c v ?_ q) (λc q=>by rw[ah<|ae q a];exact q) λc x q=>by rw[ah<|ae q a];exact q
   obtain z|z:=f
   .subst z;exact l _ _ e
   .exact l _ _ z
def OU(K:Za)(a:Wk):It :=
 ⟨λi H=>∃xs x,az K H a xs/\xs[i]?=eH x,λi H x H'=>∃p v,x=.ref p/\H p=none/\(∀xs,az K H a xs->xs[i]?=eH v)/\H'=upd H p (.tup [.int i,v]),λi H=>∃xs,az K H a xs/\xs.length<=i⟩
theorem Ig{P:bR}{w:Wn}{K:Za}{es:List Wr}{kx:Nat}{J8:Pos}(a e it:Wk)(m:e≠it):
  u1 P w K (.Tuple es kx J8) (OU K a) [e,it] e (λi h=>(∃old,IsEnum h e it i old)/\h.IsListIter it a i) where
 mem:=by simp
 obj:=λi h st b l=>by
  let⟨⟨old,g⟩,o,D,G,hd⟩:=st;obtain z|z:=cq.mp l
  .subst z;exact⟨_,g,λv z=>by cases z⟩
  .have J:b=it:=by simpa using z
   subst J;exact⟨o,D,λv z=>by rw[hd]at z;cases z⟩
 keep:=λi h B st k=>⟨let⟨old,g⟩:=st.1;⟨old,k e ∅ _ g⟩,st.2.at λo e=>k it ∅ o e⟩
 item:=by
  intro X L M N G i J4 s σ H E I hf st O;subst L M N;let⟨⟨old,g⟩,j⟩:=st;let⟨xs,x,C,hx⟩:=O;let⟨Q,T,p,hz⟩:=I.list C;let⟨u,hu,ru⟩:=T.get hx;let⟨e0,e1,e2,e3,e4,e5⟩:=hf e ∅;let⟨U,f1,f2,f3,f4,f5⟩:=hf it ∅;refine wpAny_pyNext_enum_item g j p.isList (x:=u) ‹hu› m λB Y n al a7 an=>?_;apply⟨_,fj,wpAny_letOwnedTupleGo_enum (s:={s with heap:=B,toks:=s.toks+1}) Y λh2 ap as=>?_⟩;have f:fB e B h2:=as;have r:↑s≠e:=eU<|aJ g;have t:h2.get? ↑s=eH { cls:=.type "tuple",data:=.seq #[.int i s.toks,u]}:=f.extBut _ _ r al;have aC:H ↑s=none:=I.fresh;have a0:upd H ↑s (.tup [.int i,x]) e=none:=by rw[ah<|dA r];exact e0
  have a4:↑s≠it:=by
   let⟨o,D,_⟩:=j;exact eU<|aJ D
  have a5:upd H ↑s (.tup [.int i,x]) it=none:=by rw[ah<|dA a4];exact U
  have I2:Inv X J4 σ (upd H ↑s<|.tup [.int i,x]) {s with heap:=h2,toks:=s.toks+1}:=by
   refine I.P' (ch:=[e,it]) hf (λb o l q=>?_) ⟨_,t⟩ (λ_ z=>nomatch z) ⟨by show 2<=ak;decide,[.int i s.toks,u],.cons ⟨_,fj⟩<|.cons ru .nil,⟨_,t,fj,_,fj⟩⟩;have A:b≠e:=λz=>l (by simp[z]);have a6:b≠it:=λz=>l (by simp[z]);exact f.extBut _ _ A<|an b o A a6 q
  apply⟨.ref ↑s,_,I2,fj,⟨_,x,fj,aC,λys hy=>by rw[I.QE hy C];exact hx,fj⟩,⟨⟨u,by simpa using ap⟩,n.at λo y=>(f.2 it<|dA m).trans y⟩,λb l=>?_⟩;obtain z|z:=cq.mp l
  .subst z;exact a0
  .have J:b=it:=by simpa using z
   subst J;exact a5
 done:=by
  intro X L M N G i J4 s σ H E I hf st O;subst L M N;let⟨⟨old,g⟩,j⟩:=st;let⟨xs,C,hx⟩:=O;let⟨Q,T,p,hz⟩:=I.list C;let⟨U,f1,f2,f3,f4,f5⟩:=hf it ∅;have hl:=T.length;exact wpAny_pyNext_enum_end (I.ok.hd G) g j p.isList (by simp;nofun) λB eb=>⟨fj,I.turned (t':=s.toks) (λb o l e=>eb b o l e) U f1 f3 f4 f5⟩
 self:=λ_ _ _ _ _ st h=>let⟨_,g⟩:=st.1;wpAny_pyIter_enum g h
section
variable{X:Cx}{p pos:Pos}{es:List Wr}{kx:Nat}{J8:Pos}
def xZ(K:Za)(ta:TA):TI:=fun σ H R=>ta σ H λvs H1=>∃a,vs=[.ref a]/\(∃xs,az K H1 a xs)/\R (OU K a) H1
theorem pJ(w:Gl X "enumerate")(x:X.mg "enumerate"=none)(y:PA X [a] n)(A:aR [a] X.env=[(false,eval a X.env)]:=by rfl):PI X (.Tuple es kx J8) (.Call (.Name "enumerate" p) [a] [] pos) (xZ X.K n):=by
 intro r s σ H R I h;refine Call_<|kG I w x boot_enumerate<|wD (c7 (y pos r s σ H _ I h) λT s1 i=>?_) A rfl;let⟨U,t,g,B,C⟩:=i;let⟨l,e,⟨Y,D⟩,q⟩:=C;subst e;let⟨u,rfl,E⟩:=vals1 B;cases E;let⟨G,rv,J,hz⟩:=g.list D;refine call_enumerate_list J.isList λj v k L M=>?_;refine wpAny_pyIter_enum (s:={s1 with heap:=j}) v ?_;have m:∀b o,s1.heap.get? b=eH o->j.get? b=eH o:=M;have N:Inv X r σ t {s1 with heap:=j}:=g.kept (t':=s1.toks) m;apply⟨_,[↑s1+1,↑s1],_,_,t,fj,N,Ig l _ _<|Nat.succ_ne_self _,⟨⟨_,v⟩,k⟩,λb O=>?_,q⟩;have f:↑s1<=b:=by
  obtain z|z:=cq.mp O
  .rw[z];exact qZ _
  .have Q:b=↑s1:=by simpa using z
   rw[Q];exact aF _
 exact g.Ri f<|g.kl.fresh f
end
def PH(x:Ws):It:=⟨λi _=>i<x.cps.size,λi H y H'=>H'=H/\∃c,x.cps[i]?=eH c/\y=.str ⟨#[c]⟩,λi _=>x.cps.size<=i⟩
theorem EX{P:bR}{w:Wn}{K:Za}{D:Wr}(x:Ws)(t:Tok)(it:Wk):u1 P w K D (PH x) [it] it (λi h=>h.IsStrIter it "str_ascii_iterator" x t i) where
 mem:=by simp
 obj:=λi h st b a=>by
  have e:b=it:=by simpa using a
  subst e;let⟨o,e,c,d⟩:=st;exact⟨o,e,λv z=>by rw[d]at z;cases z⟩
 keep:=λi h g st k=>by
  let⟨o,e,c,d⟩:=st;exact⟨o,k it ∅ o e,c,d⟩
 item:=by
  intro X j l m B i C s σ H E I hf st n;subst j l m;have p:i<x.cps.size:=n;let⟨q,r,G,u,y,A⟩:=hf it ∅;have hx:x.cps[i]?=eH x.cps[i]:=by simp[p]
  refine wpAny_pyNext_ascii_item st hx λg f J=>?_;have L:Inv X C σ H {s with heap:=g,toks:=s.toks+1}:=I.turned (t':=s.toks+1) (λb o a e=>(J.2 b a).trans e) q r u y A;let⟨o,e,c,d⟩:=id f;exact⟨_,fj,x_ (s:={s with heap:=g,toks:=s.toks+1}) e c d Wt ⟨.str ⟨#[x.cps[i]]⟩,H,L,⟨_,fj⟩,⟨fj,_,hx,fj⟩,f,λb a=>(hf b a).1⟩⟩
 done:=by
  intro X j l m B i C s σ H E I hf st n;subst j l m;have M:x.cps.size<=i:=n;let⟨q,r,G,u,y,A⟩:=hf it ∅;exact wpAny_pyNext_ascii_end (I.ok.hd B) st (by simp;nofun) λg N=>⟨fj,I.turned (t':=s.toks) (λb o a e=>N b o a e) q r u y A⟩
 self:=λ_ _ _ _ _ st h=>wpAny_pyIter_striter_ascii st h
theorem Ic{P:bR}{w:Wn}{K:Za}{D:Wr}(x:Ws)(t:Tok)(it:Wk):u1 P w K D (PH x) [it] it (λi h=>h.IsStrIter it "str_iterator" x t i) where
 mem:=by simp
 obj:=λi h st b a=>by
  have e:b=it:=by simpa using a
  subst e;let⟨o,e,c,d⟩:=st;exact⟨o,e,λv z=>by rw[d]at z;cases z⟩
 keep:=λi h g st k=>by
  let⟨o,e,c,d⟩:=st;exact⟨o,k it ∅ o e,c,d⟩
 item:=by
  intro X j l m B i C s σ H E I hf st n;subst j l m;have p:i<x.cps.size:=n;let⟨q,r,G,u,y,A⟩:=hf it ∅;have hx:x.cps[i]?=eH x.cps[i]:=by simp[p]
  refine wpAny_pyNext_wide_item st hx λg f J=>?_;have L:Inv X C σ H {s with heap:=g,toks:=s.toks+1}:=I.turned (t':=s.toks+1) (λb o a e=>(J.2 b a).trans e) q r u y A;let⟨o,e,c,d⟩:=id f;exact⟨_,fj,x_ (s:={s with heap:=g,toks:=s.toks+1}) e c d Wt ⟨.str ⟨#[x.cps[i]]⟩,H,L,⟨_,fj⟩,⟨fj,_,hx,fj⟩,f,λb a=>(hf b a).1⟩⟩
 done:=by
  intro X j l m B i C s σ H E I hf st n;subst j l m;have M:x.cps.size<=i:=n;let⟨q,r,G,u,y,A⟩:=hf it ∅;exact wpAny_pyNext_wide_end (I.ok.hd B) st (by simp;nofun) λg N=>⟨fj,I.turned (t':=s.toks) (λb o a e=>N b o a e) q r u y A⟩
 self:=λ_ _ _ _ _ st h=>wpAny_pyIter_striter_wide st h
section
variable{X:Cx}{p pos:Pos}{tg:Wr}
def O7(tl:TE):TI:=fun σ H R=>tl σ H λv H1=>∃x,v=.str x/\R (PH x) H1
theorem Oe(r:PE X l k):PI X tg l (O7 k):=by
 intro m s σ H R I h;refine c7 (r m s σ H _ I h) λv a i=>?_;let⟨y,j,g,u,w⟩:=i;let⟨x,e,q⟩:=w;subst e;let⟨t,rfl⟩:=u;have f:∀b∈[↑a],r9 X m j b:=λb z=>by
  have e:b=↑a:=by simpa using z
  subst e;exact g.Ri (aF _)<|g.kl.fresh<|aF _
 cases n:x.cps.all (·<128)
 .refine wpAny_pyIter_wide n ?_;exact⟨↑a,[↑a],_,_,j,fj,g.kept (t':=a.toks) λb o e=>aT _ e,Ic x t _,⟨_,cv _ rfl,fj,fj⟩,f,q⟩
 .refine wpAny_pyIter_ascii n ?_;exact⟨↑a,[↑a],_,_,j,fj,g.kept (t':=a.toks) λb o e=>aT _ e,EX x t _,⟨_,cv _ rfl,fj,fj⟩,f,q⟩
end
def OJ(K:Za)(a b:Wk):It :=
  ⟨λi H=>∃xs ys x y,az K H a xs/\az K H b ys/\xs[i]?=eH x/\ys[i]?=eH y,
   λi H x H'=>∃p u v,x=.ref p/\H p=none/\(∀xs,az K H a xs->xs[i]?=eH u)/\(∀ys,az K H b ys->ys[i]?=eH v)/\H'=upd H p (.tup [u,v]),
   λi H=>∃xs ys,az K H a xs/\az K H b ys/\(xs.length<=i∨ys.length<=i)⟩
theorem JU{P:bR}{w:Wn}{K:Za}{es:List Wr}{kx:Nat}{J8:Pos}(a b z TI TO t A:Wk)(D:iJ z TI TO t A a b):
  u1 P w K (.Tuple es kx J8) (OJ K a b) [z,TI,TO,t,A] z (λi h=>IsZip h z TI TO .none/\IsPair h TI (.ref t) (.ref A)/\(∃a b,IsPair h TO a b)/\h.IsListIter t a i/\h.IsListIter A b i) where
 mem:=by simp
 obj:=λi h st c f=>by
  let⟨p,j,⟨u,v,l⟩,G,J⟩:=st;simp only[cq,mY,or_false]at f;obtain rfl|rfl|rfl|rfl|rfl:=f
  .exact⟨_,p,λv z=>by cases z⟩
  .exact⟨_,j,λv z=>by cases z⟩
  .exact⟨_,l,λv z=>by cases z⟩
  .obtain⟨o,e,c,d⟩:=G;exact⟨o,e,λv z=>by rw[d]at z;cases z⟩
  .obtain⟨o,e,c,d⟩:=J;exact⟨o,e,λv z=>by rw[d]at z;cases z⟩
 keep:=λi h M st k=>by
  let⟨p,j,⟨u,v,l⟩,G,J⟩:=st;exact⟨k z ∅ _ p,k TI ∅ _ j,⟨u,v,k TO ∅ _ l⟩,G.at λo e=>k t ∅ o e,J.at λo e=>k A ∅ o e⟩
 item:=by
  intro X hP hw hK f i J4 s σ H E I hf st hg;subst hP hw hK;let⟨p,j,⟨u0,v0,l⟩,G,J⟩:=st;let⟨xs,ys,x,y,B,C,hx,hy⟩:=hg;let⟨ap,rx,px,zx⟩:=I.list B;let⟨as,ry,py,zy⟩:=I.list C;let⟨u,hu,ru⟩:=rx.get hx;let⟨v,hv,rv⟩:=ry.get hy;refine wpAny_pyNext_zip_item D p j l G J px.isList py.isList (x:=u) (y:=v) ‹hu› ‹hv› λM a1 a2 a3 a4 a5 a6 hk=>?_;apply⟨_,fj,wpAny_letOwnedTupleGo_zip (s:={s with heap:=M}) a1 λL aC a0=>?_⟩;have g:fB z M L:=a0;have N:↑s≠z:=eU<|aJ p;have O:↑s≠TO:=eU<|aJ l;have Q:↑s≠TI:=eU<|aJ j;have T:↑s≠t:=by let⟨o,U,_⟩:=G;exact eU<|aJ U
  have Y:↑s≠A:=by let⟨o,U,_⟩:=J;exact eU<|aJ U
  have al:IsPair L ↑s u v:=g.extBut _ _ N a5;have I2:Inv X J4 σ (upd H ↑s<|.tup [x,y]) {s with heap:=L,toks:=s.toks}:=by
   refine I.P' (ch:=[z,TI,TO,t,A]) hf (λc o f q=>?_) ⟨_,al⟩ (λ_ z=>nomatch z) ⟨by show 2<=ak;decide,[u,v],.cons ru<|.cons rv .nil,⟨_,al,fj,_,fj⟩⟩;have n1:c≠z:=λq=>f (by simp[q]);exact g.extBut _ _ n1 (hk c o n1 (λq=>f (by simp[q])) (λq=>f (by simp[q])) (λq=>f (by simp[q])) q)
  apply⟨.ref ↑s,_,I2,fj,⟨_,x,y,fj,I.fresh,λzs p=>by rw[I.QE p B];exact hx,λzs p=>by rw[I.QE p C];exact hy,fj⟩,⟨aC,g.extBut _ _ D.TIz<|hk _ _ D.TIz D.TITO D.TIi1 D.TIi2 j,⟨_,_,g.extBut _ _ D.TOz a2⟩,a3.at λo e=>g.extBut _ _ D.i1z e,a4.at λo e=>g.extBut _ _ D.i2z e⟩,λc f=>?_⟩;have a7:=(hf c f).1;simp only[cq,mY,or_false]at f;have ne:c≠↑s:=by
   obtain rfl|rfl|rfl|rfl|rfl:=f
   .exact N.symm
   .exact Q.symm
   .exact O.symm
   .exact T.symm
   .exact Y.symm
  rw[ah ne];exact a7
 done:=by
  intro X hP hw hK f i J4 s σ H E I hf st hg;subst hP hw hK;let⟨p,j,⟨u0,v0,l⟩,G,J⟩:=st;let⟨xs,ys,B,C,an⟩:=hg;let⟨ap,rx,px,zx⟩:=I.list B;let⟨as,ry,py,zy⟩:=I.list C;have lx:=rx.length;have ly:=ry.length;refine wpAny_pyNext_zip_end (I.ok.hd f) D p j l G J px.isList py.isList (by obtain q|q:=an;exact .inl (by simp;nofun);exact .inr (by simp;nofun)) λM hk=>⟨fj,?_⟩;have tr:∀c q,H c=eH q->c∉[z,TI,TO,t,A]:=λc q e m=>by rw[(hf c m).1]at e;cases e
  have kk:∀c o,c∉[z,TI,TO,t,A]->s.heap.get? c=eH o->M.get? c=eH o:=λc o f q=>hk c o (λq=>f (by simp[q])) (λq=>f (by simp[q])) (λq=>f (by simp[q])) (λq=>f (by simp[q])) q;refine I.step (g':=s.gens) (d':=s.drawn) (t':=s.toks) (ch:=[z,TI,TO,t,A]) (λc f=>?_) (λc o _ _ f e _=>kk c o f e) (λc o _ _ f e _=>⟨o.slots,kk c o f e⟩) (λ_ _ _ _ n=>n) (λc o f e=>⟨o,kk c o f e⟩) (λ_ _ e=>e) (λ_ _ _ e=>e) (λc ps e=>⟨#[],by rw[e];simp⟩) (λm hm=>?_) (λc q e=>?_) I.bare
  .obtain⟨f0,f1,f2,f3,f4,f5⟩:=hf c f;exact⟨f3,f1,f4,f5⟩
  .obtain⟨q,a8,ep,U,r⟩:=hm;exact⟨q,a8,ep,kk _ q (λz=>(hf _ z).2.1 rfl) U,r⟩
  .refine(I.kl c q e).RI (λd v hd q'=>kk d v ?_ q') (λ_ q=>q) λ_ _ q=>q;obtain z|z:=hd
   .subst z;exact tr _ _ e
   .exact tr _ _ z
 self:=λ_ _ _ _ _ st h=>wV st.1 h
section
variable{prog:bR}{w:Wn}{A:Wo}{E:Zc}{s:Wl}
theorem nk(st:s.heap.IsTupleIter it t i)(g:s.heap.IsTuple t items)(hx:items[i]?=eH x)(k:∀f,f.IsTupleIter it t (i+1)->fB it s.heap f->Q x {s with heap:=f}):wpAny (model prog w) A (jH<|.ref it) Q E s:=by
 let⟨m,e,h,a⟩:=id st;let⟨n,j,_,o,l⟩:=g;unfold jH;refine ai (jG (name:=iI "__next__") st.typeIs Bn
  (mo Bn st.typeIs F.entry_tuple_iterator_next ?_<|F.args_tuple_iterator_next_1 _))
 show wpAny _ _ (field (.ref it) 0 >>= _) _ _ s;refine ai<|dC e a (x:=.ref t) rfl ?_;show wpAny _ _ (if(Value.ref t==Value.none)=true then _ else _) _ _ s
 rw[if_neg<|show ¬((Value.ref t==Value.none)=true)from h9];show wpAny _ _ (field (.ref it) 1 >>= _) _ _ s;refine ai<|dC e a (x:=.int i 0) rfl ?_;show wpAny _ _ (seqItems? (.ref t) >>= _) _ _ s;refine ai<|kS j l ?_;simp only[gM,hx];refine ai (qK e a ∅<|ax ⟨x,fj,ax<|k _ ?_<|lM ..⟩);exact⟨_,lV _ e<|Obj.isFreed_of_fields<|uo a _,(Obj.cls_mapFields ..).trans h,by
  rw[uo a];simp[rawInt]⟩
theorem vq(j:A.handled=none)(st:s.heap.IsTupleIter it t i)(l:s.heap.IsTuple t items)(hx:items[i]?=none)(k:∀f e,Bm it s.heap f->(∃o,f.get? e=eH o/\o.cls=.type "StopIteration")->E (.ref e) {s with heap:=f}):wpAny (model prog w) A (jH<|.ref it) Q E s:=by
 let⟨q,g,r,h⟩:=id st;let⟨u,n,_,v,p⟩:=l;unfold jH;refine ai (jG (name:=iI "__next__") st.typeIs Bn
  (mo Bn st.typeIs F.entry_tuple_iterator_next ?_<|F.args_tuple_iterator_next_1 _))
 show wpAny _ _ (field (.ref it) 0 >>= _) _ _ s;refine ai<|dC g h (x:=.ref t) rfl ?_;show wpAny _ _ (if(Value.ref t==Value.none)=true then _ else _) _ _ s
 rw[if_neg<|show ¬((Value.ref t==Value.none)=true)from h9];show wpAny _ _ (field (.ref it) 1 >>= _) _ _ s;refine ai<|dC g h (x:=.int i 0) rfl ?_;show wpAny _ _ (seqItems? (.ref t) >>= _) _ _ s;refine ai<|kS n p ?_;simp only[gM,hx];refine ai (qk (ai (qK g h ∅ ?_)));show wpAny _ _ (newExc (.type "StopIteration") [] >>= _) _ _ _;refine ai ?_;simp only[newExc,Bl];refine ai (gL ?_ (by size_fits));refine ai (m:=oA _ _) (Bk (a:=Value.none) (by first|rfl|(simp only[oA];rfl)) ?_)
 refine gL ?_ (by size_fits);simp only[Bj];refine ai<|Bi ?_
 first|rw[show A.in1.handled=none from j] | rw[j]
 refine ai<|ax<|Bh ?_;exact k _ _ (((lM ..).extBut.push _).push _) ⟨_,cv _ rfl,fj⟩
theorem H_{z TI TO L M l1 l2:Wk}{k1 k2:Nat}{xs ys:Array Wm}{x y a b:Wm}{Q:Zc}(D:iJ z TI TO L M l1 l2)
  (gz:IsZip s.heap z TI TO .none) (gI:IsPair s.heap TI (.ref L)<|.ref M) (gO:IsPair s.heap TO a b)
  (g1:s.heap.IsTupleIter L l1 k1) (g2:s.heap.IsTupleIter M l2 k2) (t1:s.heap.IsTuple l1 xs) (t2:s.heap.IsTuple l2 ys) (hx:xs[k1]?=eH x) (hy:ys[k2]?=eH y)
  (k:∀N,IsZip N z TI TO (rawInt ↑s)->IsPair N TO x y->N.IsTupleIter L l1 (k1+1)->N.IsTupleIter M l2 (k2+1)->IsPair N ↑s x y->N.objs.size=↑s+1 ->
   (∀c o,c≠z->c≠TO->c≠L->c≠M->s.heap.get? c=eH o->N.get? c=eH o)->Q (.ref ↑s) {s with heap:=N}) :
  wpAny (model prog w) A (bx.«zip.__next__» ⟨[.ref z],[]⟩) (λa4 s'=>∃v,a4=.done (.ret v)/\Q v s') E s:=by
 show wpAny _ _ (field (.ref z) 2 >>= _) _ _ _;refine ai<|dC gz rfl (x:=.bool false) rfl ?_;show wpAny _ _ (field (.ref z) 3 >>= _) _ _ _;refine ai<|dC gz rfl (x:=.ref TI) rfl ?_;refine ai<|kS gI rfl ?_;show wpAny _ _ (oz (.ref z) >>= _) _ _ _;refine ai ?_;unfold oz;refine ai<|dC gz rfl (x:=.none) rfl<|ax ?_;simp only[if_true];refine ai<|qk ?_;refine ai<|dC gz rfl (x:=.ref TO) rfl ?_;refine ai (jF gz ∅ λm₁ q g=>?_)
 replace q:IsZip m₁ z TI TO .ellipsis:=q
 refine ai ?_;simp only[List.zipIdx_cons,List.zipIdx_nil,oB,wU];refine ai<|ai<|Bg ?_;show wpAny _ _ (jH (.ref L) >>= _) _ _ _;refine ai<|nk (g1.extBut g.extBut D.i1z) (t1.extBut g.extBut D.l1z) hx λm₂ O h=>ax ?_;have B:IsPair m₂ TO a b:=h.extBut _ _ D.TOi1<|g.extBut _ _ D.TOz gO;refine ai<|kS B rfl ?_;refine ai<|wpAny_updateSeq_pair B λm₃ t i=>?_
 replace t:IsPair m₃ TO x b:=t
 refine ai<|wT<|ax ?_;refine ai<|ai<|Bg ?_;show wpAny _ _ (jH (.ref M) >>= _) _ _ _;refine ai (nk (((g2.extBut g.extBut D.i2z).extBut h.extBut D.i12.symm).extBut i.extBut D.TOi2.symm)
  (((t2.extBut g.extBut D.l2z).extBut h.extBut D.l2i1).extBut i.extBut D.l2TO) hy λm₄ T m=>ax ?_)
 have C:IsPair m₄ TO x b:=m.extBut _ _ D.TOi2 t;refine ai<|kS C rfl ?_;refine ai<|wpAny_updateSeq_pair C λf j n=>?_
 replace j:IsPair f TO x y:=j
 refine ai<|wT<|ax<|ax ?_;refine ai<|kS j rfl ?_;refine ai<|wpAny_newTuple ?_;have as:f.objs.size=↑s:=by rw[n.1,m.1,i.1,h.1,g.1]
 have G:IsZip f z TI TO .ellipsis:=n.extBut _ _ D.TOz.symm<|m.extBut _ _ D.i2z.symm<|i.extBut _ _ D.TOz.symm<|h.extBut _ _ D.i1z.symm q;have U:∀c o,c≠z->c≠TO->c≠L->c≠M->s.heap.get? c=eH o->f.get? c=eH o:=λc o Y c2 c3 c4 e =>
  n.extBut _ _ c2 (m.extBut _ _ c4<|i.extBut _ _ c2<|h.extBut _ _ c3<|g.extBut _ _ Y e)
 have al:f.IsTupleIter L l1 (k1+1):=((O.extBut i.extBut D.TOi1.symm).extBut m.extBut D.i12).extBut n.extBut D.TOi1.symm;have an:f.IsTupleIter M l2 (k2+1):=T.extBut n.extBut D.TOi2.symm;have aC:z<f.objs.size:=aJ G;show wpAny _ _ (bx.SmallTypes.ownedTupleHandOut (.ref z) (.ref f.objs.size) >>= _) _ _ _;refine ai ?_;unfold bx.SmallTypes.ownedTupleHandOut;have ap:IsZip (f.push { cls:=.type "tuple",data:=.seq #[x,y]}) z TI TO .ellipsis:=aT _ G;refine ai (jF ap ∅ λm₇ u H=>?_)
 replace u:IsZip m₇ z TI TO (rawInt f.objs.size):=u
 refine jF u ∅ λp l I=>?_
 replace l:IsZip p z TI TO (rawInt f.objs.size):=l
 have up:∀c o,c≠z->f.get? c=eH o->p.get? c=eH o:=λc o Y e=>I.extBut _ _ Y<|H.extBut _ _ Y<|aT _ e;have J:IsPair p f.objs.size x y:=I.extBut _ _ (eU aC)<|H.extBut _ _ (eU aC)<|cv _ rfl;have a0:p.objs.size=f.objs.size+1:=by rw[I.1,H.1,kQ]
 rw[as]at l J a0;refine ax ⟨_,fj,?_⟩;show Q (.ref f.objs.size) _;rw[as];refine k p l (up _ _ D.TOz j) ?_ ?_ J a0 λc o Y c2 c3 c4 e=>up c o Y<|U c o Y c2 c3 c4 e
 .obtain⟨o,e,r⟩:=al;exact⟨o,up _ o D.i1z e,r⟩
 .obtain⟨o,e,r⟩:=an;exact⟨o,up _ o D.i2z e,r⟩
theorem JM{z TI TO v y J L:Wk}{M N:Nat}{O T:Array Wm}{a b:Wm}{Q:Fin->Wl->Prop}(hh:A.handled=none)(D:iJ z TI TO v y J L)
  (B:IsZip s.heap z TI TO .none) (gI:IsPair s.heap TI (.ref v)<|.ref y) (gO:IsPair s.heap TO a b)
  (g1:s.heap.IsTupleIter v J M) (g2:s.heap.IsTupleIter y L N) (t1:s.heap.IsTuple J O) (t2:s.heap.IsTuple L T) (U:O[M]?=none∨T[N]?=none)
  (k:∀Y e,(∀c o,c≠z->c≠TO->c≠v->c≠y->s.heap.get? c=eH o->Y.get? c=eH o)->(∃o,Y.get? e=eH o/\o.cls=.type "StopIteration")->E (.ref e) {s with heap:=Y}) :
  wpAny (model prog w) A (bx.«zip.__next__» ⟨[.ref z],[]⟩) Q E s:=by
 show wpAny _ _ (field (.ref z) 2 >>= _) _ _ _;refine ai<|dC B rfl (x:=.bool false) rfl ?_;show wpAny _ _ (field (.ref z) 3 >>= _) _ _ _;refine ai<|dC B rfl (x:=.ref TI) rfl ?_;refine ai<|kS gI rfl ?_;show wpAny _ _ (oz (.ref z) >>= _) _ _ _;refine ai ?_;unfold oz;refine ai<|dC B rfl (x:=.none) rfl<|ax ?_;simp only[if_true];refine ai<|qk ?_;refine ai<|dC B rfl (x:=.ref TO) rfl ?_;refine ai (jF B ∅ λm₁ i f=>?_)
 replace i:IsZip m₁ z TI TO .ellipsis:=i
 refine ai ?_;simp only[List.zipIdx_cons,List.zipIdx_nil,oB,wU];refine ai<|ai<|Bg ?_;show wpAny _ _ (jH (.ref v) >>= _) _ _ _;cases hx:O[M]? with
 |none =>
  refine ai<|vq hh (g1.extBut f.extBut D.i1z) (t1.extBut f.extBut D.l1z) hx λm₂ e g he=>?_;let⟨oe,t,C⟩:=he;have j:IsZip m₂ z TI TO .ellipsis:=g _ _ D.i1z.symm i;have u:e≠z:=λq=>by subst q;rw[j]at t;cases t;simp at C
  refine jF j ∅ λn _ h=>k n e (λc o G _ c3 _ q=>h.extBut _ _ G<|g _ _ c3<|f.extBut _ _ G q) ⟨oe,h.extBut _ _ u t,C⟩
 |some x =>
  have hy:T[N]?=none:=by obtain q|q:=U;rw[hx]at q;cases q;exact q
  refine ai<|nk (g1.extBut f.extBut D.i1z) (t1.extBut f.extBut D.l1z) hx λm₂ al g=>ax ?_;have l:IsPair m₂ TO a b:=g.extBut _ _ D.TOi1<|f.extBut _ _ D.TOz gO;refine ai<|kS l rfl ?_;refine ai<|wpAny_updateSeq_pair l λn an h=>?_;refine ai<|wT<|ax ?_;refine ai<|ai<|Bg ?_;show wpAny _ _ (jH (.ref y) >>= _) _ _ _;refine ai (vq hh (((g2.extBut f.extBut D.i2z).extBut g.extBut D.i12.symm).extBut h.extBut D.TOi2.symm)
   (((t2.extBut f.extBut D.l2z).extBut g.extBut D.l2i1).extBut h.extBut D.l2TO) hy λH e p he=>?_)
  let⟨oe,t,C⟩:=he;have m:IsZip H z TI TO .ellipsis:=p _ _ D.i2z.symm<|h.extBut _ _ D.TOz.symm<|g.extBut _ _ D.i1z.symm i;have u:e≠z:=λq=>by subst q;rw[m]at t;cases t;simp at C
  refine jF m ∅ λI _ r=>k I e (λc o G c2 c3 c4 q=>r.extBut _ _ G<|p _ _ c4<|h.extBut _ _ c2<|g.extBut _ _ c3<|f.extBut _ _ G q) ⟨oe,r.extBut _ _ u t,C⟩
theorem zn{z TI TO f g h i:Wk}{j l:Nat}{xs ys:Array Wm}{x y a b:Wm}{Q:Option Wm->Wl->Prop}(D:iJ z TI TO f g h i)
  (m:IsZip s.heap z TI TO .none) (p:IsPair s.heap TI (.ref f)<|.ref g) (q:IsPair s.heap TO a b)
  (r:s.heap.IsTupleIter f h j) (t:s.heap.IsTupleIter g i l) (u:s.heap.IsTuple h xs) (v:s.heap.IsTuple i ys) (hx:xs[j]?=eH x) (B:ys[l]?=eH y)
  (k:∀e,IsZip e z TI TO (rawInt ↑s)->IsPair e TO x y->e.IsTupleIter f h (j+1)->e.IsTupleIter g i (l+1)->IsPair e ↑s x y->e.objs.size=↑s+1 ->
   (∀c o,c≠z->c≠TO->c≠f->c≠g->s.heap.get? c=eH o->e.get? c=eH o)->Q (eH<|.ref ↑s) {s with heap:=e}) :
  wpAny (model prog w) A (pyNext<|.ref z) Q E s:=by
 have n:s.TypeIs (.ref z) "zip":=⟨_,m,fj⟩;unfold pyNext;exact ai (lL (jG (name:=iI "__next__") n oy
  (mo oy n Bf
   (H_ D m p q r t u v hx B λe a1 a2 a3 C G H I=>ax<|k e a1 a2 a3 C G H I) (Be _))))
theorem Ca{z TI TO f g h i:Wk}{m n:Nat}{xs ys:Array Wm}{a b:Wm}{Q:Option Wm->Wl->Prop}(r:A.handled=none)(D:iJ z TI TO f g h i)
  (p:IsZip s.heap z TI TO .none) (t:IsPair s.heap TI (.ref f)<|.ref g) (u:IsPair s.heap TO a b)
  (v:s.heap.IsTupleIter f h m) (x:s.heap.IsTupleIter g i n) (y:s.heap.IsTuple h xs) (B:s.heap.IsTuple i ys) (j:xs[m]?=none∨ys[n]?=none)
  (k:∀l,(∀c o,c≠z->c≠TO->c≠f->c≠g->s.heap.get? c=eH o->l.get? c=eH o)->Q none {s with heap:=l}):wpAny (model prog w) A (pyNext<|.ref z) Q E s:=by
 have q:s.TypeIs (.ref z) "zip":=⟨_,p,fj⟩;unfold pyNext;refine ai (lL (jG (name:=iI "__next__") q oy
  (mo oy q Bf (JM r D p t u v x y B j λl e kp C=>?_)<|Be _)))
 let⟨o,G,H⟩:=C;refine ai<|wX (T:="StopIteration") (b:=true) ⟨o,G,H⟩ wS ?_;exact ax<|k _ kp
end
abbrev Ps(h:Wq)(l1:Wk):Wq:=h.push { cls:=.type "tuple_iterator",data:=.fields #[.ref l1,.int 0 0]}
abbrev Pr(h:Wq)(l1 l2:Wk):Wq:=(Ps h l1).push { cls:=.type "tuple_iterator",data:=.fields #[.ref l2,.int 0 0]}
abbrev Pq(h:Wq)(l1 l2:Wk):Wq:=(Pr h l1 l2).push { cls:=.type "tuple",data:=.seq #[.ref h.objs.size,.ref (Ps h l1).objs.size]}
abbrev Pp(h:Wq)(l1 l2:Wk):Wq:=(Pq h l1 l2).push { cls:=.type "tuple",data:=.seq #[.none,.none]}
abbrev ON(h:Wq)(l1 l2:Wk):Wq:=(Pp h l1 l2).push { cls:=.type "zip",data:=.fields #[.none,.bool false,.bool false,.ref (Pr h l1 l2).objs.size,.ref (Pq h l1 l2).objs.size]}
theorem FP(l1 l2:Wk)(a e:Array Wm):
  Meets (bx.«zip.__new__» ⟨[.type "zip",.ref l1,.ref l2],[]⟩) (λ_ R s=>s.heap.IsTuple l1 a/\s.heap.IsTuple l2 e /\
   R (.ok<|.ret<|.ref (Pp s.heap l1 l2).objs.size) {s with heap:=ON s.heap l1 l2}) :=
 .of_wp λf w A R s h=>by
  let⟨i,g,d,tk,os⟩:=s;let⟨k,l,h⟩:=h;have j:=sub_zip;have m:Heap.IsTuple (Bd ⟨i,g,d,tk,os⟩) l1 a:=k;have n:Heap.IsTuple (Bd ⟨i.push { cls:=.type "tuple_iterator",data:=.fields #[.ref l1,.int 0 0]},g,d,tk,os⟩) l2 e:=Heap.IsTuple.push l _
  wp_walk using GQ m,GQ n
  exact⟨_,fj,h⟩
section
variable{prog:bR}{w:Wn}{A:Wo}{E:Zc}{s:Wl}
theorem Ju(r:s.heap.IsTuple a xs)(t:s.heap.IsTuple e ys)(k:∀f,IsZip f (↑s+4) (↑s+2) (↑s+3) .none->IsPair f (↑s+2) (.ref ↑s) (.ref<|↑s+1) ->
   IsPair f (↑s+3) .none .none->f.IsTupleIter ↑s a 0->f.IsTupleIter (↑s+1) e 0->(∀c o,s.heap.get? c=eH o->f.get? c=eH o)->Q (.ref<|↑s+4) {s with heap:=f}) :
  wpAny (model prog w) A (call (.type "zip") [.ref a,.ref e]) Q E s:=by
 refine callType_new F.called_zip Wt (F.typeCall_zip_2 _ _) (F.newCall_zip_2 _ _) (λg=>F.args_object_init_3 g _ _) F.entry_zip_new
  (FP a e xs ys) ⟨r,t,?_⟩
 have h:(Ps s.heap a).objs.size=↑s+1:=kQ ..;have i:(Pr s.heap a e).objs.size=↑s+2:=by rw[kQ,h]
 have j:(Pq s.heap a e).objs.size=↑s+3:=by rw[kQ,i]
 have m:(Pp s.heap a e).objs.size=↑s+4:=by rw[kQ,j]
 have l:(ON s.heap a e).get? (Pp s.heap a e).objs.size=eH _:=cv _ rfl;have n:(ON s.heap a e).get? (Pq s.heap a e).objs.size=eH _:=aT _<|cv _ rfl;have p:(ON s.heap a e).get? (Pr s.heap a e).objs.size=eH _:=aT _<|aT _<|cv _ rfl;have q:(ON s.heap a e).get? (Ps s.heap a).objs.size=eH _:=aT _<|aT _<|aT _<|cv _ rfl;have u:(ON s.heap a e).get? ↑s=eH _:=aT _<|aT _<|aT _<|aT _<|cv _ rfl;show _/\_;rw[i,j,m]at l;rw[h,i]at p;rw[j]at n;rw[h]at q;rw[m];exact⟨⟨_,l,fj⟩,k _ l p n ⟨_,u,fj,fj⟩ ⟨_,q,fj,fj⟩ λc o x =>
  aT _ (aT _<|aT _<|aT _<|aT _ x)⟩
end
def NC(K:Za)(a b:Wk):It :=
  ⟨λi H=>∃xs ys x y,bE K H a xs/\bE K H b ys/\xs[i]?=eH x/\ys[i]?=eH y,
   λi H x H'=>∃p u v,x=.ref p/\H p=none/\(∀xs,bE K H a xs->xs[i]?=eH u)/\(∀ys,bE K H b ys->ys[i]?=eH v)/\H'=upd H p (.tup [u,v]),
   λi H=>∃xs ys,bE K H a xs/\bE K H b ys/\(xs.length<=i∨ys.length<=i)⟩
theorem Ib{P:bR}{w:Wn}{K:Za}{es:List Wr}{kx:Nat}{J8:Pos}(a b z TI TO t A:Wk)(D:iJ z TI TO t A a b):
  u1 P w K (.Tuple es kx J8) (NC K a b) [z,TI,TO,t,A] z (λi h=>IsZip h z TI TO .none/\IsPair h TI (.ref t) (.ref A)/\(∃a b,IsPair h TO a b)/\h.IsTupleIter t a i/\h.IsTupleIter A b i) where
 mem:=by simp
 obj:=λi h st c f=>by
  let⟨p,j,⟨u,v,l⟩,M,N⟩:=st;simp only[cq,mY,or_false]at f;obtain rfl|rfl|rfl|rfl|rfl:=f
  .exact⟨_,p,λv z=>by cases z⟩
  .exact⟨_,j,λv z=>by cases z⟩
  .exact⟨_,l,λv z=>by cases z⟩
  .obtain⟨o,e,c,d⟩:=M;exact⟨o,e,λv z=>by rw[d]at z;cases z⟩
  .obtain⟨o,e,c,d⟩:=N;exact⟨o,e,λv z=>by rw[d]at z;cases z⟩
 keep:=λi h O st k=>by
  let⟨p,j,⟨u,v,l⟩,⟨o1,e1,r1⟩,⟨o2,e2,r2⟩⟩:=st;exact⟨k z ∅ _ p,k TI ∅ _ j,⟨u,v,k TO ∅ _ l⟩,⟨o1,k t ∅ o1 e1,r1⟩,⟨o2,k A ∅ o2 e2,r2⟩⟩
 item:=by
  intro X hP hw hK f i J4 s σ H E I hf st hg;subst hP hw hK;let⟨p,j,⟨u0,v0,l⟩,M,N⟩:=st;let⟨xs,ys,x,y,C,G,hx,hy⟩:=hg;let⟨J,rx,px,zx⟩:=I.tuple C;let⟨L,ry,py,zy⟩:=I.tuple G;let⟨u,hu,ru⟩:=rx.get hx;let⟨v,hv,rv⟩:=ry.get hy;refine zn D p j l M N (xs:=J.toArray) (ys:=L.toArray) px py (x:=u) (y:=v) ‹hu› ‹hv› λO a1 a2 a3 a4 a5 a6 hk=>?_;apply⟨_,fj,wpAny_letOwnedTupleGo_zip (s:={s with heap:=O}) a1 λB as aC=>?_⟩;have g:fB z O B:=aC;have Q:↑s≠z:=eU<|aJ p;have T:↑s≠TO:=eU<|aJ l;have U:↑s≠TI:=eU<|aJ j;have Y:↑s≠t:=by let⟨o,ho,_⟩:=M;exact eU<|aJ ho
  have al:↑s≠A:=by let⟨o,ho,_⟩:=N;exact eU<|aJ ho
  have an:IsPair B ↑s u v:=g.extBut _ _ Q a5;have I2:Inv X J4 σ (upd H ↑s<|.tup [x,y]) {s with heap:=B,toks:=s.toks}:=by
   refine I.P' (ch:=[z,TI,TO,t,A]) hf (λc o f q=>?_) ⟨_,an⟩ (λ_ z=>nomatch z) ⟨by show 2<=ak;decide,[u,v],.cons ru<|.cons rv .nil,⟨_,an,fj,_,fj⟩⟩;have n1:c≠z:=λq=>f (by simp[q]);exact g.extBut _ _ n1 (hk c o n1 (λq=>f (by simp[q])) (λq=>f (by simp[q])) (λq=>f (by simp[q])) q)
  have a0:B.IsTupleIter t a (i+1):=by let⟨o,e,r⟩:=a3;exact⟨o,g.extBut _ _ D.i1z e,r⟩
  have a7:B.IsTupleIter A b (i+1):=by let⟨o,e,r⟩:=a4;exact⟨o,g.extBut _ _ D.i2z e,r⟩
  apply⟨.ref ↑s,_,I2,fj,⟨_,x,y,fj,I.fresh,λzs p=>by rw[I.QH p C];exact hx,λzs p=>by rw[I.QH p G];exact hy,fj⟩,⟨as,g.extBut _ _ D.TIz<|hk _ _ D.TIz D.TITO D.TIi1 D.TIi2 j,⟨_,_,g.extBut _ _ D.TOz a2⟩,a0,a7⟩,λc f=>?_⟩;have a8:=(hf c f).1;simp only[cq,mY,or_false]at f;have ne:c≠↑s:=by
   obtain rfl|rfl|rfl|rfl|rfl:=f
   .exact Q.symm
   .exact U.symm
   .exact T.symm
   .exact Y.symm
   .exact al.symm
  rw[ah ne];exact a8
 done:=by
  intro X hP hw hK f i J4 s σ H E I hf st hg;subst hP hw hK;let⟨p,j,⟨u0,v0,l⟩,M,N⟩:=st;let⟨xs,ys,C,G,ap⟩:=hg;let⟨J,rx,px,zx⟩:=I.tuple C;let⟨L,ry,py,zy⟩:=I.tuple G;have lx:=rx.length;have ly:=ry.length;refine Ca (I.ok.hd f) D p j l M N (xs:=J.toArray) (ys:=L.toArray) px py (by obtain q|q:=ap;exact .inl (by simp;nofun);exact .inr (by simp;nofun)) λO hk=>⟨fj,?_⟩;have tr:∀c q,H c=eH q->c∉[z,TI,TO,t,A]:=λc q e m=>by rw[(hf c m).1]at e;cases e
  have kk:∀c o,c∉[z,TI,TO,t,A]->s.heap.get? c=eH o->O.get? c=eH o:=λc o f q=>hk c o (λq=>f (by simp[q])) (λq=>f (by simp[q])) (λq=>f (by simp[q])) (λq=>f (by simp[q])) q;refine I.step (g':=s.gens) (d':=s.drawn) (t':=s.toks) (ch:=[z,TI,TO,t,A]) (λc f=>?_) (λc o _ _ f e _=>kk c o f e) (λc o _ _ f e _=>⟨o.slots,kk c o f e⟩) (λ_ _ _ _ n=>n) (λc o f e=>⟨o,kk c o f e⟩) (λ_ _ e=>e) (λ_ _ _ e=>e) (λc ps e=>⟨#[],by rw[e];simp⟩) (λm hm=>?_) (λc q e=>?_) I.bare
  .obtain⟨f0,f1,f2,f3,f4,f5⟩:=hf c f;exact⟨f3,f1,f4,f5⟩
  .obtain⟨q,a9,ep,ho,r⟩:=hm;exact⟨q,a9,ep,kk _ q (λz=>(hf _ z).2.1 rfl) ho,r⟩
  .refine(I.kl c q e).RI (λd v hd q'=>kk d v ?_ q') (λ_ q=>q) λ_ _ q=>q;obtain z|z:=hd
   .subst z;exact tr _ _ e
   .exact tr _ _ z
 self:=λ_ _ _ _ _ st h=>wV st.1 h
section
variable{X:Cx}{p pos:Pos}{es:List Wr}{kx:Nat}{J8:Pos}
def Hw(K:Za)(ta:TA):TI:=fun σ H R=>ta σ H λvs H1=>∃a b,vs=[.ref a,.ref b]/\(((∃xs,az K H1 a xs)/\(∃ys,az K H1 b ys)/\R (OJ K a b) H1)∨((∃xs,bE K H1 a xs)/\(∃ys,bE K H1 b ys)/\R (NC K a b) H1))
theorem Hd(O:Gl X "zip")(Q:X.mg "zip"=none)(T:PA X [a,b] J)(U:aR [a,b] X.env=[(false,eval a X.env),(false,eval b X.env)]:=by rfl)(j:aR [b] X.env=[(false,eval b X.env)]:=by rfl):
  PI X (.Tuple es kx J8) (.Call (.Name "zip" p) [a,b] [] pos) (Hw X.K J):=by
 intro x s σ H R I h;refine Call_ (kG I O Q boot_zip (wD (c7 (T pos x s σ H _ I h) λus s1 y=>?_) (by rw[U,j]) (by rw[j];rfl)));let⟨vs,k,f,Y,q1⟩:=y;let⟨L,M,e,q⟩:=q1;subst e;let⟨u,v,rfl,ru,rv⟩:=vals2 Y;cases ru;cases rv;have l:∀b∈[↑s1+4,↑s1+2,↑s1+3,↑s1,↑s1+1],r9 X x k b:=λb N=>by
  have m:↑s1<=b:=by
   simp only[cq,mY,or_false]at N;obtain rfl|rfl|rfl|rfl|rfl:=N<;>nofun
  exact f.Ri m<|f.kl.fresh m
 obtain⟨⟨xs,hx⟩,⟨ys,z⟩,q⟩|⟨⟨xs,hx⟩,⟨ys,z⟩,q⟩:=q
 .obtain⟨n,rx,r,zx⟩:=f.list hx;let⟨t,ry,w,zy⟩:=f.list z;let⟨o1,n1,A,_⟩:=id r;let⟨o2,n2,B,_⟩:=id w;refine call_zip_2 r.isList w.isList λg a1 a2 a3 C D a6 E=>?_;refine wV (s:={s1 with heap:=g}) a1 ?_;have i:∀b o,s1.heap.get? b=eH o->g.get? b=eH o:=E;have G:Inv X x σ k {s1 with heap:=g}:=f.kept (t':=s1.toks) i;exact⟨_,_,_,_,k,fj,G,JU L M _ _ _ _ _<|zipApart_new (aJ A)<|aJ B,⟨a1,a2,⟨_,_,a3⟩,C,D⟩,l,q⟩
 .obtain⟨n,rx,r,zx⟩:=f.tuple hx;let⟨t,ry,w,zy⟩:=f.tuple z;let⟨o1,A,_⟩:=id r;let⟨o2,B,_⟩:=id w;refine Ju (xs:=n.toArray) (ys:=t.toArray) r w λg a1 a2 a3 C D E=>?_;refine wV (s:={s1 with heap:=g}) a1 ?_;have i:∀b o,s1.heap.get? b=eH o->g.get? b=eH o:=E;have G:Inv X x σ k {s1 with heap:=g}:=f.kept (t':=s1.toks) i;exact⟨_,_,_,_,k,fj,G,Ib L M _ _ _ _ _<|zipApart_new (aJ A)<|aJ B,⟨a1,a2,⟨_,_,a3⟩,C,D⟩,l,q⟩
end
inductive DT where
 |k (a:fK)
 |t (l:List DT)
 |s (l:List DT)
mutual
def N1:(x y:DT)->Decidable (x=y)
 |.k a,.k b=>if h:a=b then Decidable.isTrue (by rw[h])else Decidable.isFalse λe=>h (by injection e)
 |.t l,.t m=>match SE l m with
  |Decidable.isTrue h=>Decidable.isTrue (by rw[h])
  |Decidable.isFalse h=>Decidable.isFalse λe=>h (by injection e)
 |.s l,.s m=>match SE l m with
  |Decidable.isTrue h=>Decidable.isTrue (by rw[h])
  |Decidable.isFalse h=>Decidable.isFalse λe=>h (by injection e)
 |.k _,.t _=>Decidable.isFalse nofun
 |.k _,.s _=>Decidable.isFalse nofun
 |.t _,.k _=>Decidable.isFalse nofun
 |.t _,.s _=>Decidable.isFalse nofun
 |.s _,.k _=>Decidable.isFalse nofun
 |.s _,.t _=>Decidable.isFalse nofun
def SE:(x y:List DT)->Decidable (x=y)
 |[],[]=>Decidable.isTrue rfl
 |[],_::_=>Decidable.isFalse nofun
 |_::_,[]=>Decidable.isFalse nofun
 |a::l,b::m=>match N1 a b with
  |Decidable.isTrue h=>match SE l m with
   |Decidable.isTrue h'=>Decidable.isTrue (by rw[h,h'])
   |Decidable.isFalse h'=>Decidable.isFalse λe=>h' (by injection e)
  |Decidable.isFalse h=>Decidable.isFalse λe=>h (by injection e)
end
instance:DecidableEq DT:=N1
mutual
def DT.depth:DT->Nat
 |.k _=>0
 |.t l=>DT.gg l+1
 |.s l=>DT.gg l+1
def DT.gg:List DT->Nat
 |[]=>0
 |a::r=>max (DT.depth a)<|DT.gg r
end
mutual
def wz(h:Wq):DT->Wm->Prop
 |.k a,v=>eo a v=true
 |.t l,v=>∃a items,v=.ref a/\h.IsTuple a items/\N' h l items.toList
 |.s l,v=>∃a items,v=.ref a/\h.IsList a items/\N' h l items.toList
def N'(h:Wq):List DT->List Wm->Prop
 |[],vs=>vs=[]
 |k::r,vs=>∃v us,vs=v::us/\wz h k v/\N' h r us
end
theorem N'.length:∀{f:List DT}{a:Zf},N' h f a->f.length=a.length
 |[],a,e=>by have g:a=[]:=e;rw[g];rfl
 |x::f,a,e=>by
  let⟨v,j,rfl,_,i⟩:=e;simp[N'.length i]
theorem N'.get:∀{f:List DT}{a:Zf}{i:Nat}{v:Wm},N' h f a->a[i]?=eH v->∃x,f[i]?=eH x/\wz h x v
 |[],a,i,v,e,q=>by have g:a=[]:=e;subst g;simp at q
 |x::f,a,i,v,e,q=>by
  let⟨u,n,rfl,j,k⟩:=e;cases i with
  |zero =>
   simp at q;subst q;exact⟨x,fj,j⟩
  |succ i =>
   let⟨y,l,m⟩:=N'.get k (i:=i) (v:=v) ‹q›;exact⟨y,by simpa using l,m⟩
theorem DT.Rr{l:List DT}{x:DT}{i d:Nat}(h:DT.gg l<=d)(e:l[i]?=eH x):x.depth<=d:=by
 induction l generalizing i with
 |nil=>simp at e
 |cons a r f =>
  have g:max a.depth (DT.gg r)<=d:=h;cases i with
  |zero=>simp at e;subst e;nofun
  |succ i=>exact f ⋯ ‹e›
theorem FX{h:Wq}(x:h.IsList a i)(y:h.IsList a j):i=j:=by
 let⟨o,g,_,n,k⟩:=x;let⟨l,e,_,m,f⟩:=y;rw[g]at e;cases e;rw[k]at f;injection f
theorem Ec{h:Wq}(x:h.IsTuple a i)(y:h.IsTuple a j):i=j:=by
 let⟨o,g,_,n,k⟩:=x;let⟨l,e,_,m,f⟩:=y;rw[g]at e;cases e;rw[k]at f;injection f
theorem mL{h:Wq}(x:h.IsList a i)(y:h.IsTuple a j):False:=by
 let⟨o,g,k,_⟩:=x;let⟨l,e,f,_⟩:=y;rw[g]at e;cases e;rw[k]at f;simp at f
theorem Ap(g:eo a v=true)(f:eo b v=true):a=b:=by
 obtain⟨i,t,rfl,rfl⟩|⟨i,t,rfl,rfl⟩:=aH g
 .obtain⟨j,u,rfl,e⟩|⟨j,u,rfl,e⟩:=aH f
  .cases e;rfl
  .cases e
 .obtain⟨j,u,rfl,e⟩|⟨j,u,rfl,e⟩:=aH f
  .cases e
  .cases e;rfl
theorem j8(h:eo a (.ref b)=true):False:=by
 obtain⟨_,_,_,e⟩|⟨_,_,_,e⟩:=aH h<;>cases e
theorem wz.inj:∀(d:Nat) {x y:DT}{v:Wm},x.depth<=d->wz h x v->wz h y v->x=y:=by
 have q:∀(d:Nat) (r:∀{x y:DT}{v:Wm},x.depth<=d->wz h x v->wz h y v->x=y) (n g:List DT) (u:Zf),DT.gg n<=d->N' h n u->N' h g u->n=g:=by
  intro d r n
  induction n with
  |nil =>
   intro g u _ hx f;have w:u=[]:=hx;subst w;cases g with
   |nil=>rfl
   |cons y g=>let⟨_,_,e,_⟩:=f;cases e
  |cons x n z =>
   intro g u o hx f;let⟨v,I,rfl,A,B⟩:=hx;cases g with
   |nil=>have C:v::I=[]:=f;cases C
   |cons y g =>
    let⟨M,J,e,D,E⟩:=f;cases e;have L:max x.depth (DT.gg n)<=d:=o;rw[r ⋯ A D,z g I ⋯ B E]
 intro d
 induction d with
 |zero =>
  intro x y v o hx f;cases x with
  |t l=>exact absurd o (by show ¬(DT.gg l+1<=0);nofun)
  |s l=>exact absurd o (by show ¬(DT.gg l+1<=0);nofun)
  |k a =>
   cases y with
   |k b=>rw[Ap hx f]
   |t l=>let⟨b,_,rfl,_⟩:=f;exact(j8 hx).elim
   |s l=>let⟨b,_,rfl,_⟩:=f;exact(j8 hx).elim
 |succ d r =>
  intro x y v o hx f;cases x with
  |k a =>
   cases y with
   |k b=>rw[Ap hx f]
   |t l=>let⟨b,_,rfl,_⟩:=f;exact(j8 hx).elim
   |s l=>let⟨b,_,rfl,_⟩:=f;exact(j8 hx).elim
  |t l =>
   let⟨a,i,rfl,hi,hx⟩:=hx;cases y with
   |k b=>exact(j8 f).elim
   |t m =>
    let⟨G,j,e,p,f⟩:=f;cases e;rw[Ec p hi]at f;rw[q d (λH=>r H) l m i.toList (by have:DT.gg l+1<=d+1:=o;nofun) hx f]
   |s m =>
    let⟨G,j,e,p,f⟩:=f;cases e;exact(mL p hi).elim
  |s l =>
   let⟨a,i,rfl,hi,hx⟩:=hx;cases y with
   |k b=>exact(j8 f).elim
   |s m =>
    let⟨G,j,e,p,f⟩:=f;cases e;rw[FX p hi]at f;rw[q d (λH=>r H) l m i.toList (by have:DT.gg l+1<=d+1:=o;nofun) hx f]
   |t m =>
    let⟨G,j,e,p,f⟩:=f;cases e;exact(mL hi p).elim
theorem iC{l m:List DT}(f:l.length=m.length):((oq l.length).all λj=>decide (l[j]?=m[j]?))=decide (l=m):=by
 by_cases e:l=m
 .subst e;simp
 .rw[hB e];rw[List.all_eq_false];apply Classical.byContradiction;intro h;apply e;apply List.ext_getElem?;intro i;by_cases hi:i<l.length
  .apply Classical.byContradiction;intro a;exact h ⟨i,List.mem_range.mpr hi,by simpa using a⟩
  .rw[ig ⋯,ig ⋯]
section
variable{s:Wl}
theorem NW:∀(d:Nat) {A:Wo}{x y:DT}{u v:Wm},y.depth<=d->A.units+d<cLine->wz s.heap x u->wz s.heap y v->bJ A s u v (decide (x=y)):=by
 have Rh:∀{A:Wo}{a b:fK}{u v:Wm},eo a u=true->eo b v=true->bJ A s u v (decide (DT.k a=DT.k b)):=by
  intro A a b u v B G;have J:decide (DT.k a=DT.k b)=decide (a=b):=by
   by_cases e:a=b
   .subst e;simp
   .have:¬(DT.k a=DT.k b):=λz=>e (by injection z);rw[hB this,hB e]
  rw[J];obtain⟨i,t,rfl,rfl⟩|⟨i,t,rfl,rfl⟩:=aH B
  .obtain⟨j,u,rfl,rfl⟩|⟨j,u,rfl,rfl⟩:=aH G
   .rw[Cj];exact bJ.int_int i t j u
   .rw[Ci];exact bJ.int_str i t j u
  .obtain⟨j,u,rfl,rfl⟩|⟨j,u,rfl,rfl⟩:=aH G
   .rw[Ch];exact bJ.str_int i t j u
   .rw[Cg];have:=bJ.str_str (A:=A) (s:=s) i t j u;rwa[show(i==j)=decide (i=j)from by by_cases e:i=j<;>simp[e]]at this
 have kt:∀{A:Wo}{a:fK}{u:Wm}{b:Wk}{items:Array Wm},A.units<cLine->eo a u=true->s.heap.IsTuple b items->bJ A s u (.ref b) false/\bJ A s (.ref b) u false:=by
  intro A a u b items h B w;obtain⟨i,t,rfl,rfl⟩|⟨i,t,rfl,rfl⟩:=aH B
  .exact⟨bJ.int_tuple i t w h,bJ.tuple_int i t w h⟩
  .exact⟨bJ.str_tuple i t w h,bJ.tuple_str i t w h⟩
 have L:∀{A:Wo}{a:fK}{u:Wm}{b:Wk}{items:Array Wm},A.units<cLine->eo a u=true->s.heap.IsList b items->bJ A s u (.ref b) false/\bJ A s (.ref b) u false:=by
  intro A a u b items h B w;obtain⟨i,t,rfl,rfl⟩|⟨i,t,rfl,rfl⟩:=aH B
  .exact⟨bJ.int_list i t w h,bJ.list_int i t w h⟩
  .exact⟨bJ.str_list i t w h,bJ.list_str i t w h⟩
 intro d
 induction d with
 |zero =>
  intro A x y u v o h hx f;cases y with
  |t l=>exact absurd o (by show ¬(DT.gg l+1<=0);nofun)
  |s l=>exact absurd o (by show ¬(DT.gg l+1<=0);nofun)
  |k b =>
   cases x with
   |t l =>
    let⟨a,i,rfl,hi,_⟩:=hx;rw[hB (by intro z;cases z)];exact(kt ⋯ f hi).2
   |s l =>
    let⟨a,i,rfl,hi,_⟩:=hx;rw[hB (by intro z;cases z)];exact(L ⋯ f hi).2
   |k a=>exact Rh hx f
 |succ d Q =>
  intro A x y u v o h hx f;have items:∀{l m:List DT}{i j:Array Wm},DT.gg m<=d->N' s.heap l i.toList->N' s.heap m j.toList->∀n (B:n<i.size) (G:n<j.size),bJ A.in1 s i[n] j[n] (decide (l[n]?=m[n]?)):=by
   intro l m i j H hi p n B G;let⟨x,ex,hx⟩:=hi.get (i:=n) (v:=i[n]) (by simp[B]);let⟨y,O,f⟩:=p.get (i:=n) (v:=j[n]) (by simp[G]);rw[ex,O];have J:decide ((eH x:Option DT)=eH y)=decide (x=y):=by
    by_cases e:x=y
    .subst e;simp
    .rw[hB e,hB λz=>e<|gp z]
   rw[J];exact Q (DT.Rr H O) (by show A.units+1+d<cLine;nofun) hx f
  cases x with
  |k a =>
   cases y with
   |k b=>exact Rh hx f
   |t l =>
    let⟨b,i,rfl,hi,_⟩:=f;rw[hB (by intro z;cases z)];exact(kt ⋯ hx hi).1
   |s l =>
    let⟨b,i,rfl,hi,_⟩:=f;rw[hB (by intro z;cases z)];exact(L ⋯ hx hi).1
  |t l =>
   have C:=hx;let⟨a,i,rfl,hi,hx⟩:=hx;cases y with
   |k b =>
    rw[hB (by intro z;cases z)];exact(kt ⋯ f hi).2
   |s m =>
    let⟨b,j,rfl,p,_⟩:=f;rw[hB (by intro z;cases z)];exact bJ.tuple_list hi p ⋯
   |t m =>
    have H:DT.gg m<=d:=by have:DT.gg m+1<=d+1:=o;nofun
    have D:=f;let⟨b,j,rfl,p,f⟩:=f;by_cases g:a=b
    .subst g;have e:DT.t l=DT.t m:=wz.inj _ (aF _) C D;rw[hH e];exact bJ.same _
    .have r:=SeqAt.RcAt.tuples (A:=A) hi p ⋯<|items H hx f;have I:=hx.length;have M:=f.length;simp only[nQ]at I M;have q:((oq<|min i.size j.size).all (λn=>decide (l[n]?=m[n]?)) && i.size==j.size)=decide (DT.t l=DT.t m):=by
      by_cases e:l.length=m.length
      .have N:i.size=j.size:=by nofun
       rw[<-N,um,<-I,iC e];by_cases E:l=m
       .subst E;simp
       .have:¬(DT.t l=DT.t m):=λz=>E (by injection z);rw[hB this,hB E];rfl
      .have N:(i.size==j.size)=false:=by simp;nofun
       have:¬(DT.t l=DT.t m):=λz=>e (by injection z with z;rw[z]);rw[N,hB this,Bs]
     rw[q]at r;exact .of_refs g r
  |s l =>
   have C:=hx;let⟨a,i,rfl,hi,hx⟩:=hx;cases y with
   |k b =>
    rw[hB (by intro z;cases z)];exact(L ⋯ f hi).2
   |t m =>
    let⟨b,j,rfl,p,_⟩:=f;rw[hB (by intro z;cases z)];exact bJ.list_tuple hi p ⋯
   |s m =>
    have H:DT.gg m<=d:=by have:DT.gg m+1<=d+1:=o;nofun
    have D:=f;let⟨b,j,rfl,p,f⟩:=f;by_cases g:a=b
    .subst g;have e:DT.s l=DT.s m:=wz.inj _ (aF _) C D;rw[hH e];exact bJ.same _
    .have I:=hx.length;have M:=f.length;simp only[nQ]at I M;by_cases e:l.length=m.length
     .have r:=SeqAt.RcAt.lists (A:=A) hi p ⋯ ⋯<|items H hx f;rw[<-I,iC e]at r;have q:decide (l=m)=decide (DT.s l=DT.s m):=by
       by_cases E:l=m
       .subst E;simp
       .have:¬(DT.s l=DT.s m):=λz=>E (by injection z);rw[hB this,hB E]
      rw[q]at r;exact .of_refs g r
     .have:¬(DT.s l=DT.s m):=λz=>e (by injection z with z;rw[z]);rw[hB this];exact .of_refs g (SeqAt.RcAt.lists_lengths hi p (by simp;nofun) ⋯)
end
theorem HF(a b:fK):decide (DT.k a=DT.k b)=decide (a=b):=by
 by_cases e:a=b
 .subst e;simp
 .rw[hB e,hB λz=>e (by injection z)]
theorem NY(l m:List DT):decide (DT.t l=DT.t m)=decide (l=m):=by
 by_cases e:l=m
 .subst e;simp
 .rw[hB e,hB λz=>e (by injection z)]
theorem NZ(l m:List DT):decide (DT.s l=DT.s m)=decide (l=m):=by
 by_cases e:l=m
 .subst e;simp
 .rw[hB e,hB λz=>e (by injection z)]
theorem Lv(x y:DT):decide ((eH x:Option DT)=eH y)=decide (x=y):=by
 by_cases e:x=y
 .subst e;simp
 .rw[hB e,hB λz=>e<|gp z]
section
variable{A:Wo}{s:Wl}
theorem tR(g:A.units+1+d<cLine){i j:Array Wm}(h:DT.gg m<=d)(hi:N' s.heap l i.toList)(k:N' s.heap m j.toList):
  ∀n (a:n<i.size) (e:n<j.size),bJ A.in1 s i[n] j[n] (decide (l[n]?=m[n]?)):=by
 intro n a e;let⟨x,ex,hx⟩:=hi.get (i:=n) (v:=i[n]) (by simp[a]);let⟨y,f,o⟩:=k.get (i:=n) (v:=j[n]) (by simp[e]);rw[ex,f,Lv];exact NW d (DT.Rr h f) g hx o
theorem G0{i j:Array Wm}(hi:N' s.heap l i.toList)(g:N' s.heap m j.toList):((oq<|min i.size j.size).all (λn=>decide (l[n]?=m[n]?)) && i.size==j.size)=decide (l=m):=by
 have f:=hi.length;have h:=g.length;simp only[nQ]at f h;by_cases e:l.length=m.length
 .have a:i.size=j.size:=by nofun
  rw[<-a,um,<-f,iC e];simp
 .have a:(i.size==j.size)=false:=by simp;nofun
  rw[a,hB λz=>e (by rw[z]),Bs]
theorem O_(o:y.depth<=14)(w:A.units+16<cLine)(hx:wz s.heap x u)(f:wz s.heap y v):SeqAt.RcAt A s u v (decide (x=y)):=by
 cases x with
 |k a =>
  obtain⟨i,t,rfl,rfl⟩|⟨i,t,rfl,rfl⟩:=aH (show eo a u=true from hx)
  .cases y with
   |k b =>
    rw[HF];obtain⟨j,h,rfl,rfl⟩|⟨j,h,rfl,rfl⟩:=aH (show eo b v=true from f)
    .rw[Cj];exact SeqAt.RcAt.int_int i t j h
    .rw[Ci];exact SeqAt.RcAt.int_str i t j h
   |t m=>let⟨b,j,rfl,g,_⟩:=f;rw[hB (by intro z;cases z)];exact SeqAt.RcAt.int_tuple i t g ⋯
   |s m=>let⟨b,j,rfl,g,_⟩:=f;rw[hB (by intro z;cases z)];exact SeqAt.RcAt.int_list i t g ⋯
  .cases y with
   |k b =>
    rw[HF];obtain⟨j,h,rfl,rfl⟩|⟨j,h,rfl,rfl⟩:=aH (show eo b v=true from f)
    .rw[Ch];exact SeqAt.RcAt.str_int i t j h
    .rw[Cg];have:=SeqAt.RcAt.str_str (A:=A) (s:=s) i t j h;rwa[show(i==j)=decide (i=j)from by by_cases e:i=j<;>simp[e]]at this
   |t m=>let⟨b,j,rfl,g,_⟩:=f;rw[hB (by intro z;cases z)];exact SeqAt.RcAt.str_tuple i t g ⋯
   |s m=>let⟨b,j,rfl,g,_⟩:=f;rw[hB (by intro z;cases z)];exact SeqAt.RcAt.str_list i t g ⋯
 |t l =>
  let⟨a,i,rfl,hi,hx⟩:=hx;cases y with
  |k b =>
   rw[hB (by intro z;cases z)];obtain⟨j,h,rfl,rfl⟩|⟨j,h,rfl,rfl⟩:=aH (show eo b v=true from f)
   .exact SeqAt.RcAt.tuple_int j h hi ⋯
   .exact SeqAt.RcAt.tuple_str j h hi ⋯
  |t m =>
   let⟨b,j,rfl,g,f⟩:=f;have n:DT.gg m<=13:=by have:DT.gg m+1<=14:=o;nofun
   have r:=SeqAt.RcAt.tuples (A:=A) hi g ⋯ (tR ⋯ n hx f);rw[G0 hx f]at r;rw[NY];exact r
  |s m=>let⟨b,j,rfl,g,_⟩:=f;rw[hB (by intro z;cases z)];exact SeqAt.RcAt.tuple_list hi g ⋯
 |s l =>
  let⟨a,i,rfl,hi,hx⟩:=hx;cases y with
  |k b =>
   rw[hB (by intro z;cases z)];obtain⟨j,h,rfl,rfl⟩|⟨j,h,rfl,rfl⟩:=aH (show eo b v=true from f)
   .exact SeqAt.RcAt.list_int j h hi ⋯
   .exact SeqAt.RcAt.list_str j h hi ⋯
  |t m=>let⟨b,j,rfl,g,_⟩:=f;rw[hB (by intro z;cases z)];exact SeqAt.RcAt.list_tuple hi g ⋯
  |s m =>
   let⟨b,j,rfl,g,f⟩:=f;have n:DT.gg m<=13:=by have:DT.gg m+1<=14:=o;nofun
   have p:=hx.length;have q:=f.length;simp only[nQ]at p q;rw[NZ];by_cases e:l.length=m.length
   .have r:=SeqAt.RcAt.lists (A:=A) hi g ⋯ ⋯ (tR ⋯ n hx f);rw[<-p,iC e]at r;exact r
   .rw[hB λz=>e (by rw[z])];exact SeqAt.RcAt.lists_lengths hi g (by simp;nofun) ⋯
theorem Pa(o:y.depth<=14)(w:A.units+16<cLine)(hx:wz s.heap x u)(f:wz s.heap y v):SeqAt.RcNeAt A s u v (!decide (x=y)):=by
 cases x with
 |k a =>
  obtain⟨i,t,rfl,rfl⟩|⟨i,t,rfl,rfl⟩:=aH (show eo a u=true from hx)
  .cases y with
   |k b =>
    rw[HF];obtain⟨j,h,rfl,rfl⟩|⟨j,h,rfl,rfl⟩:=aH (show eo b v=true from f)
    .rw[Cj];exact SeqAt.RcNeAt.int_int i t j h
    .rw[Ci];exact SeqAt.RcNeAt.int_str i t j h
   |t m=>let⟨b,j,rfl,g,_⟩:=f;rw[hB (by intro z;cases z)];exact SeqAt.RcNeAt.int_tuple i t g ⋯
   |s m=>let⟨b,j,rfl,g,_⟩:=f;rw[hB (by intro z;cases z)];exact SeqAt.RcNeAt.int_list i t g ⋯
  .cases y with
   |k b =>
    rw[HF];obtain⟨j,h,rfl,rfl⟩|⟨j,h,rfl,rfl⟩:=aH (show eo b v=true from f)
    .rw[Ch];exact SeqAt.RcNeAt.str_int i t j h
    .rw[Cg];have:=SeqAt.RcNeAt.str_str (A:=A) (s:=s) i t j h;rwa[show(i==j)=decide (i=j)from by by_cases e:i=j<;>simp[e]]at this
   |t m=>let⟨b,j,rfl,g,_⟩:=f;rw[hB (by intro z;cases z)];exact SeqAt.RcNeAt.str_tuple i t g ⋯
   |s m=>let⟨b,j,rfl,g,_⟩:=f;rw[hB (by intro z;cases z)];exact SeqAt.RcNeAt.str_list i t g ⋯
 |t l =>
  let⟨a,i,rfl,hi,hx⟩:=hx;cases y with
  |k b =>
   rw[hB (by intro z;cases z)];obtain⟨j,h,rfl,rfl⟩|⟨j,h,rfl,rfl⟩:=aH (show eo b v=true from f)
   .exact SeqAt.RcNeAt.tuple_int j h hi ⋯
   .exact SeqAt.RcNeAt.tuple_str j h hi ⋯
  |t m =>
   let⟨b,j,rfl,g,f⟩:=f;have n:DT.gg m<=13:=by have:DT.gg m+1<=14:=o;nofun
   have r:=SeqAt.RcNeAt.tuples (A:=A) hi g ⋯ (tR ⋯ n hx f);rw[G0 hx f]at r;rw[NY];exact r
  |s m=>let⟨b,j,rfl,g,_⟩:=f;rw[hB (by intro z;cases z)];exact SeqAt.RcNeAt.tuple_list hi g ⋯
 |s l =>
  let⟨a,i,rfl,hi,hx⟩:=hx;cases y with
  |k b =>
   rw[hB (by intro z;cases z)];obtain⟨j,h,rfl,rfl⟩|⟨j,h,rfl,rfl⟩:=aH (show eo b v=true from f)
   .exact SeqAt.RcNeAt.list_int j h hi ⋯
   .exact SeqAt.RcNeAt.list_str j h hi ⋯
  |t m=>let⟨b,j,rfl,g,_⟩:=f;rw[hB (by intro z;cases z)];exact SeqAt.RcNeAt.list_tuple hi g ⋯
  |s m =>
   let⟨b,j,rfl,g,f⟩:=f;have n:DT.gg m<=13:=by have:DT.gg m+1<=14:=o;nofun
   have p:=hx.length;have q:=f.length;simp only[nQ]at p q;rw[NZ];by_cases e:l.length=m.length
   .have r:=SeqAt.RcNeAt.lists (A:=A) hi g ⋯ ⋯ (tR ⋯ n hx f);rw[<-p,iC e]at r;exact r
   .rw[hB λz=>e (by rw[z])];exact SeqAt.RcNeAt.lists_lengths hi g (by simp;nofun) ⋯
end
mutual
def kL(K:Za)(H:Hp):DT->V->Prop
 |.k a,v=>v=kV a
 |.t l,v=>∃b xs,v=.ref b/\bE K H b xs/\lR K H l xs
 |.s l,v=>∃b xs,v=.ref b/\az K H b xs/\lR K H l xs
def lR(K:Za)(H:Hp):List DT->List V->Prop
 |[],vs=>vs=[]
 |k::r,vs=>∃v us,vs=v::us/\kL K H k v/\lR K H r us
end
section
variable{X:Cx}{J4:Zd}{σ:St}{H:Hp}{s:Wl}
theorem rM(I:Inv X J4 σ H s):∀(d:Nat) {k:DT}{v:V}{u:Wm},k.depth<=d->kL X.K H k v->RelV v u->wz s.heap k u:=by
 have h:∀(d:Nat) (i:∀{k:DT}{v:V}{u:Wm},k.depth<=d->kL X.K H k v->RelV v u->wz s.heap k u) (f:List DT) (j:List V) (o:Zf),DT.gg f<=d->lR X.K H f j->bG j o->N' s.heap f o:=by
  intro d i f
  induction f with
  |nil =>
   intro j o _ hx r;have e:j=[]:=hx;subst e;cases r
   rfl
  |cons k f p =>
   intro j o g hx r;let⟨v,q,rfl,m,B⟩:=hx;cases r with
   |@cons _ u _ n C D =>
    have E:max k.depth (DT.gg f)<=d:=g;exact⟨u,n,fj,i ⋯ m C,p q n ⋯ B D⟩
 intro d
 induction d with
 |zero =>
  intro k v u g hx r;cases k with
  |t l=>exact absurd g (by show ¬(DT.gg l+1<=0);nofun)
  |s l=>exact absurd g (by show ¬(DT.gg l+1<=0);nofun)
  |k b =>
   have e:v=kV b:=hx;subst e;exact tM (P:=X.prog) (w:=X.w) r
 |succ d i =>
  intro k v u g hx r;cases k with
  |k b =>
   have e:v=kV b:=hx;subst e;exact tM (P:=X.prog) (w:=X.w) r
  |t l =>
   let⟨b,x,rfl,y,hi⟩:=hx;cases(show u=Value.ref b from r);let⟨a,z,A,_⟩:=I.tuple y;exact⟨b,a.toArray,fj,A,by simpa using h d (λm=>i m) l x a (by have:DT.gg l+1<=d+1:=g;nofun) hi z⟩
  |s l =>
   let⟨b,x,rfl,y,hi⟩:=hx;cases(show u=Value.ref b from r);let⟨a,z,A,_⟩:=I.list y;exact⟨b,a.toArray,fj,A.isList,by simpa using h d (λm=>i m) l x a (by have:DT.gg l+1<=d+1:=g;nofun) hi z⟩
theorem tS(I:Inv X J4 σ H s):∀{a:List DT}{f:List V}{g:Zf},DT.gg a<=8->lR X.K H a f->bG f g->N' s.heap a g
 |[],f,g,_,hx,r=>by
  have e:f=[]:=hx;subst e;cases r
  rfl
 |k::a,f,g,i,hx,r=>by
  let⟨v,j,rfl,l,m⟩:=hx;cases r with
  |@cons _ u _ h n o =>
   have p:max k.depth (DT.gg a)<=8:=i;exact⟨u,h,fj,rM I 8 ⋯ l n,tS I ⋯ m o⟩
end
def n6(K:Za):R2:=λx y H Q=>∃d e:DT,kL K H d x/\kL K H e y/\d.depth<=8/\e.depth<=8/\Q (.bl<|decide (d=e)) H
def FD(K:Za):R2:=λx y H Q=>∃d e:DT,kL K H d x/\kL K H e y/\d.depth<=8/\e.depth<=8/\Q (.bl (!decide (d=e))) H
section
variable{X:Cx}
theorem iY(f:X.A.units+16<cLine):tW X (gm .Eq) (n6 X.K):=by
 intro l s σ H x y v u Q I g i h;let⟨d,e,hx,j,k,a,q⟩:=h;exact O_ (bH a Wt) f (rM I 8 k hx g) (rM I 8 a j i) X.prog X.w X.xe _ ⟨.bl _,H,I,fj,q⟩
theorem FN(f:X.A.units+16<cLine):tW X (gm .NotEq) (FD X.K):=by
 intro l s σ H x y v u Q I g i h;let⟨d,e,hx,j,k,a,q⟩:=h;exact Pa (bH a Wt) f (rM I 8 k hx g) (rM I 8 a j i) X.prog X.w X.xe _ ⟨.bl _,H,I,fj,q⟩
def lZ(K:Za)(neg:Bool):R2:=λx y H Q=>∃(d:DT) (ds:List DT) (p:Wk) (xs:List V),kL K H d x/\y=.ref p/\(az K H p xs∨bE K H p xs)/\lR K H ds xs/\d.depth<=8/\DT.gg ds<=8/\Q (.bl<|if neg then !decide (d∈ds)else decide (d∈ds)) H
open Classical in
theorem tV{h:Wq}{d:DT}(g:d.depth<=8):∀{a:List DT}{f:Zf},N' h a f->DT.gg a<=8->f.any (λu=>@decide (wz h d u) (propDecidable _))=decide (d∈a)
 |[],f,e,_=>by
  have j:f=[]:=e;subst j
  rfl
 |x::a,f,e,k=>by
  let⟨u,l,rfl,i,m⟩:=e;have o:max x.depth (DT.gg a)<=8:=k;rw[uv,tV g m ⋯];by_cases q:d=x
  .subst q;simp[i]
  .have n:¬wz h d u:=λz=>q<|wz.inj 8 g z i;simp[n,q]
open Classical in
theorem xR{A:Wo}{s:Wl}{d:DT}{v:Wm}(g:d.depth<=8)(i:A.units+8<cLine)(j:wz s.heap d v):∀{f:List DT}{a:Zf},N' s.heap f a->DT.gg f<=8->∀u∈a,bJ A s u v (@decide (wz s.heap d u) (propDecidable _))
 |[],a,e,_,u,hm=>by
  have k:a=[]:=e;subst k;cases hm
 |x::f,a,e,l,u,hm=>by
  let⟨r,m,rfl,h,o⟩:=e;have p:max x.depth (DT.gg f)<=8:=l;obtain rfl|hm:=cq.mp hm
  .have q:=NW 8 (A:=A) g i h j;by_cases z:x=d
   .subst z;rw[hH h];rwa[hH rfl]at q
   .have n:¬wz s.heap d u:=λw=>z (wz.inj 8 g w h).symm;rw[hB n];rwa[hB z]at q
  .exact xR g i j o ⋯ u hm
theorem nj(t:X.A.units+16<cLine):tW X (gm .In) (lZ X.K false):=by
 intro z s σ H x y v u Q I m n h;let⟨d,B,p,C,hx,rfl,hq,e,f,a,q⟩:=h;cases n;have l:=rM I 8 f hx m;have g:X.A.in1.units+8<cLine:=by show X.A.units+1+8<cLine;nofun
 obtain hq|hq:=hq
 .obtain⟨i,r,j,o⟩:=I.list hq;have hi:=tS I a e r;refine SeqAt.in_listAt _ j.isList (λw k=>xR f g l hi a w ‹k›) ⟨.bl _,H,I,fj,?_⟩;rw[Bc,tV f hi a];exact q
 .obtain⟨i,r,j,o⟩:=I.tuple hq;have hi:=tS I a e r;refine SeqAt.in_tupleAt _ j (λw k=>xR f g l hi a w ‹k›) ⟨.bl _,H,I,fj,?_⟩;rw[Bc,tV f hi a];exact q
theorem iW(t:X.A.units+16<cLine):tW X (gm .NotIn) (lZ X.K true):=by
 intro z s σ H x y v u Q I m n h;let⟨d,B,p,C,hx,rfl,hq,e,f,a,q⟩:=h;cases n;have l:=rM I 8 f hx m;have g:X.A.in1.units+8<cLine:=by show X.A.units+1+8<cLine;nofun
 obtain hq|hq:=hq
 .obtain⟨i,r,j,o⟩:=I.list hq;have hi:=tS I a e r;refine SeqAt.notIn_listAt _ j.isList (λw k=>xR f g l hi a w ‹k›) ⟨.bl _,H,I,fj,?_⟩;rw[Bc,tV f hi a];exact q
 .obtain⟨i,r,j,o⟩:=I.tuple hq;have hi:=tS I a e r;refine SeqAt.notIn_tupleAt _ j (λw k=>xR f g l hi a w ‹k›) ⟨.bl _,H,I,fj,?_⟩;rw[Bc,tV f hi a];exact q
end
def yg(z:Ws)(lo hi:Option Int):Ws:=⟨((z.cps.toList.drop<|HT.PJ z.length 0 lo).take<|HT.PJ z.length z.length hi-HT.PJ z.length 0 lo).toArray⟩
theorem sliceRange_one(a b:Nat):sliceRange (a:Int) (b:Int) 1=(oq<|b-a).map (λk=>a+k):=by
 unfold sliceRange;simp only[show(1:Int) > 0 from by decide,if_true];by_cases h:(a:Int)<(b:Int)
 .have e:(if(a:Int)<(b:Int)then((b:Int)-a+1-1) / 1 else 0).toNat=b-a:=by rw[if_pos h];nofun
  rw[e];exact wR λk _=>by nofun
 .have e:(if(a:Int)<(b:Int)then((b:Int)-a+1-1) / 1 else 0).toNat=b-a:=by rw[if_neg h];nofun
  rw[e];exact wR λk _=>by nofun
theorem Ew(v:Option Int)(n d:Nat):(match v with|none=>(d:Int)|some i=>max 0<|min (if i<0 then i+(n:Int)else i) (n:Int))=((HT.PJ n d v:Nat):Int):=by
 cases v with
 |none=>rfl
 |some i =>
  rw[<-HT.TQ i n d];dsimp only;by_cases h:i<0
  .rw[if_pos h,if_pos h];nofun
  .rw[if_neg h,if_neg h];nofun
theorem sZ(lo hi:Option Int)(n:Nat):wQ lo hi 1 n=(oq<|HT.PJ n n hi-HT.PJ n 0 lo).map (λk=>HT.PJ n 0 lo+k):=by
 have a:=Ew lo n 0;have e:=Ew hi n n;rw[<-sliceRange_one,<-a,<-e];unfold wQ;simp only[show(1:Int) > 0 from by decide,if_true];cases lo<;>cases hi<;>rfl
theorem Iq(z:Ws)(lo hi:Option Int):Txt.slice z lo hi=yg z lo hi:=by
 have k:HT.PJ z.length 0 lo<=z.length:=HT.Tn _ _ (cH _) _;have l:HT.PJ z.length z.length hi<=z.length:=HT.Tn _ _ (aF _) _;have f:z.cps.toList.length=z.length:=by simp[Str.length]
 have e:(wQ lo hi 1 z.length).filterMap (z.cps[·]?)=(z.cps.toList.drop<|HT.PJ z.length 0 lo).take (HT.PJ z.length z.length hi-HT.PJ z.length 0 lo):=by
  rw[sZ];generalize HT.PJ z.length 0 lo=a at *;generalize HT.PJ z.length z.length hi=b at *;have h:=StrLaws.picks z.cps.toList (b-a) a ⋯;simpa using h
 unfold Txt.slice;by_cases h:((1:Int)==1 && (wQ lo hi 1 z.length).length==z.length)=true
 .rw[if_pos h];have g:(wQ lo hi 1 z.length).length=z.length:=by simpa using h
  rw[sZ,ag,Bb]at g;unfold yg;have i:HT.PJ z.length 0 lo=0:=by nofun
  have j:HT.PJ z.length z.length hi-HT.PJ z.length 0 lo=z.cps.toList.length:=by nofun
  rw[j,i,ul,aX]
 .rw[if_neg h];unfold yg;rw[e]
section
variable{X:Cx}
def IK:V->Option Int->Option Int->Hp->VK->Prop:=λx lo hi H Q=>∃z,x=.str z/\z.length<=ak/\Q (.str<|yg z lo hi) H
theorem BT:N2 X IK:=by
 intro g s σ H x v m n lo hi p Q I r y B f h;let⟨z,rfl,C,q⟩:=h;let⟨t,rfl⟩:=r;rw[<-Iq]at q;apply⟨"str",_,F.slot_str_getitem.lookup,typeIs_str _ _ _,?_⟩;let⟨o,D,E,G⟩:=y;have a:∀(l u:Option<|Int×Tok),m=partValue l->n=partValue u->lo=l.map (·.1)->hi=u.map (·.1)->wpAny (model X.prog X.w) X.A (qV (.str z t)<|.ref p) (EP X g σ Q) X.xe s:=by
  rintro l u rfl rfl rfl rfl;refine wpAny_getItem_str_slice (l:=l) (u:=u) (st:=none) ⟨o,D,E,G⟩ rfl<|post_val_or_str ⟨bH (Txt.slice_le z _ _) C,λe k=>⟨.str _,H,I.tok _,⟨_,fj⟩,q⟩⟩
 cases B with
 |none =>
  cases f with
  |none=>exact a none none rfl rfl rfl rfl
  |int j u=>exact a none (eH (j,u)) rfl rfl rfl rfl
 |int i e =>
  cases f with
  |none=>exact a (eH (i,e)) none rfl rfl rfl rfl
  |int j u=>exact a (eH (i,e)) (eH (j,u)) rfl rfl rfl rfl
theorem Oa:N2 X (λx lo hi H Q=>BY X.K x lo hi H Q∨IK x lo hi H Q):=ng.or BT
def NN(K:Za):V->List V->Hp->VK->Prop:=λx vs H Q=>∃z p ys,x=.str z/\vs=[.ref p]/\az K H p (ys.map V.str)/\(ys.map (·.length)).sum+ys.length * z.length<=16777216/\Q (.str<|Ba z ys) H
theorem Mt:∀{us:Zf},bG (a.map V.str) us->StrsAre us a:=by
 induction a with
 |nil=>intro us r;cases r;exact .nil
 |cons y a e =>
  intro us r;cases r with
  |cons f g =>
   let⟨t,rfl⟩:=f;exact .cons _ _<|e g
theorem Nc:Ph X "str.join" (NN X.K):=by
 intro m s σ H x n v o Q I a e h;let⟨z,p,w,rfl,rfl,f,g,q⟩:=h;let⟨t,rfl⟩:=a;let⟨u,rfl,i⟩:=e.one;cases i;let⟨j,r,l,_⟩:=I.list f;exact join_list l.isList ‹Mt r› g λy k=>⟨.str _,H,I.tok _,⟨_,fj⟩,q⟩
end
section
variable{X:Cx}
def OF(K:Za)(H:Hp)(x:V)(t:Wm):Prop:=jZ K H x t∨(∃a xs,x=.ref a/\t=.type "tuple"/\bE K H a xs)∨(∃a xs,x=.ref a/\t=.type "list"/\az K H a xs)
theorem FW(I:Inv X k σ H s)(f:RelV x u)(ty:OF X.K H x t)(e:GL X.K t c=eH b)(h:∀tk,Q (.bool b) {s with toks:=tk}):
  wpAny (model X.prog X.w) A (call (.builtin "isinstance") [u,c]) Q E s:=by
 obtain ty|⟨a,l,rfl,rfl,q⟩|⟨a,l,rfl,rfl,q⟩:=ty
 .exact Jb I f ty e h
 .cases(show u=Value.ref a from f);let⟨g,m,p,r⟩:=I.tuple q;let⟨o,i,j,_⟩:=p;exact mn PySem.W.kitx_tuple I.O' ⟨o,i,j⟩ e (λz=>nomatch z) h
 .cases(show u=Value.ref a from f);let⟨g,m,p,r⟩:=I.list q;let⟨o,n,i,j,_⟩:=p;exact mn PySem.W.kitx_list I.O' ⟨o,i,j⟩ e (λz=>nomatch z) h
theorem eA:hZ X (.builtin "isinstance") (λa H Q=>∃x c t b,a=[x,.ty c]/\OF X.K H x t/\GL X.K t (.type c)=eH b/\Q (.bl b) H):=by
 intro i s σ H a j Q I r h;let⟨x,c,t,b,rfl,ty,e,q⟩:=h;let⟨u,v,rfl,f,g⟩:=vals2 r;cases(show v=Value.type c from g);exact FW I f ty e λtk=>⟨.bl b,H,I.tok _,fj,q⟩
theorem LD{bs:List Bool}(r:bG (bs.map V.bl) a)(h:a[i]?=eH v):v=.bool ((bs[i]?).getD false)/\i<bs.length:=by
 have hi:i<a.length:=(bY.mp h).1;have g:=r.length;rw[ag]at g;have e:i<bs.length:=by nofun
 let⟨u,f,j⟩:=r.get (i:=i) (x:=V.bl bs[i]) (by simp[e]);rw[h]at f;cases f;apply⟨?_,e⟩;rw[bj e];exact j
theorem CJ(bs:List Bool):((oq bs.length).all λi=>(bs[i]?).getD false)=bs.all id:=by
 induction bs with
 |nil=>rfl
 |cons b bs a =>
  rw[eT,List.range_succ_eq_map,List.all_cons,List.all_map,List.all_cons,<-a]
  rfl
theorem CI(bs:List Bool):((oq bs.length).any λi=>(bs[i]?).getD false)=bs.any id:=by
 induction bs with
 |nil=>rfl
 |cons b bs a =>
  rw[eT,List.range_succ_eq_map,uv,List.any_map,uv,<-a]
  rfl
theorem ln(m:X.calm=true):hZ X (.builtin "all") (λj H Q=>∃(p:Wk) (bs:List Bool),j=[.ref p]/\az X.K H p (bs.map V.bl)/\Q (.bl<|bs.all id) H):=by
 intro t s σ H j G Q I r h;let⟨p,bs,rfl,x,q⟩:=h;let⟨u,rfl,y⟩:=vals1 r;cases y;let⟨a,k,f,J⟩:=I.list x;let⟨o,n,z,_⟩:=id f;have l:=k.length;rw[ag]at l;refine call_all_walk<|zQ f.isList ?_;apply⟨↑s,_,_,_,_,_,λi=>(bs[i]?).getD false,fj,Walks.list (prog:=X.prog) (w:=X.w) (A:=X.A.in1) (I.ok.hd m) ↑s p (cr<|aJ z) a.toArray,⟨⟨_,cv _ rfl,fj,fj⟩,f.isList.push _⟩,?_,?_⟩
 .intro i v L M N B g;let⟨e,_⟩:=LD k (i:=i) (v:=v) ‹B›;rw[e];exact vj g
 .intro C tk D;have E:Inv X t σ H {s with heap:=C,toks:=tk}:=I.kept λb o e=>D b o (by simp;exact cr<|aJ e)<|aT _ e;rw[cx,<-l,CJ];exact⟨.bl _,H,E,fj,q⟩
theorem Ey(m:X.calm=true):hZ X (.builtin "any") (λj H Q=>∃(p:Wk) (bs:List Bool),j=[.ref p]/\az X.K H p (bs.map V.bl)/\Q (.bl<|bs.any id) H):=by
 intro t s σ H j G Q I r h;let⟨p,bs,rfl,x,q⟩:=h;let⟨u,rfl,y⟩:=vals1 r;cases y;let⟨a,k,f,J⟩:=I.list x;let⟨o,n,z,_⟩:=id f;have l:=k.length;rw[ag]at l;refine call_any_walk<|zQ f.isList ?_;apply⟨↑s,_,_,_,_,_,λi=>(bs[i]?).getD false,fj,Walks.list (prog:=X.prog) (w:=X.w) (A:=X.A.in1) (I.ok.hd m) ↑s p (cr<|aJ z) a.toArray,⟨⟨_,cv _ rfl,fj,fj⟩,f.isList.push _⟩,?_,?_⟩
 .intro i v L M N B g;let⟨e,_⟩:=LD k (i:=i) (v:=v) ‹B›;rw[e];exact vj g
 .intro C tk D;have E:Inv X t σ H {s with heap:=C,toks:=tk}:=I.kept λb o e=>D b o (by simp;exact cr<|aJ e)<|aT _ e;rw[cx,<-l,CI];exact⟨.bl _,H,E,fj,q⟩
theorem FO:tW X (gm .In) (λx y H Q=>∃c j,x=.str ⟨#[c]⟩/\y=.str j/\Q (.bl<|decide (c∈j.cps.toList)) H):=by
 intro a s σ H x y v u Q I e f h;let⟨c,j,rfl,rfl,q⟩:=h;rw[<-StrLaws.found_one]at q;exact IS a s σ H _ _ v u Q I e f ⟨_,_,fj,fj,q⟩
theorem yo(T:X.calm=true):hZ X (.type "list") (λM H Q=>∃(d:Wk) (f:List<|fK×V),M=[.ref d]/\Rd H d (.dK f)/\∀l,H l=none->Q (.ref l) (upd H l<|.lst<|f.map λg=>kV g.1)):=by
 intro J4 s σ H M us Q I r h;let⟨d,f,rfl,U,q⟩:=h;let⟨u,rfl,Y⟩:=vals1 r;cases Y;let⟨z,n,N,y,dd⟩:=vF I.kl U;let⟨ep,E⟩:=dd.dictAt;have hl:=y.length;refine PySem.W.kdl_call (PySem.W.kdl_dict (knd:=cM X.prog X.w) (kvs:=N) (ep:=ep) n) (I.ok.hd T) E (by rw[<-hl];exact z) λh' tk m c G hD A=>?_;have B:bG (f.map λg=>kV g.1) m.toList:=by
  let⟨hn,hP⟩:=A;have J:∀(a:Zf) (L:List<|fK×V) (C:List<|fK×Wm),KV L C->a.length=C.length->(∀(j:Nat) (v:Wm),a[j]?=eH v->∃k x,C[j]?=eH (k,x)/\(cM X.prog X.w).is k v=true)->bG (L.map λg=>kV g.1) a:=by
   intro a L C rl
   induction rl generalizing a with
   |nil=>intro D _;cases a with
    |nil=>exact .nil
    |cons _ _=>cases D
   |@cons p w' ps al hp _ ih =>
    intro D O;cases a with
    |nil=>cases D
    |cons v a =>
     let⟨k,x,e,G⟩:=O 0 v rfl;have e':w'=(k,x):=by simpa using e
     refine .cons ?_ (ih a ‹D› λj v B=>by simpa using O (j+1) v ‹B›);have ek:p.1=k:=by rw[hp.1,e']
     show RelV (kV p.1) v;rw[ek];obtain⟨i,t,rfl,rfl⟩|⟨i,t,rfl,rfl⟩:=aH (show eo k v=true from G)
     .exact⟨t,fj⟩
     .exact⟨t,fj⟩
  exact J m.toList f N y (by rw[nQ];exact hn) λj v B=>hP j v (by rw[<-wZ];exact B)
 apply⟨.ref ↑s,_,I.laid (o:=.lst<|f.map λg=>kV g.1) G (aF _) ⟨by rw[ag];exact z,m.toList,c,B,by rw[Array.toArray_toList];exact hD⟩,fj,q _ I.fresh⟩
end
section
variable{prog:bR}{w:Wn}{K:Type}[DecidableEq K]{knd:HeapKind prog w K}{A:Wo}{E:Zc}{s:Wl}
theorem xb(u:knd.room A)(f:knd.is s.heap k a)(C:s.heap.DictOfH knd d h)(there:∀p,atKey h k=eH p->Q p.2 {s with toks:=s.toks+knd.draws k})(new:atKey h k=none->∀r,r.DictOfH knd d (h++[(k,a,v)])->fB d s.heap r->Q v {s with heap:=r,toks:=s.toks+knd.draws k})(D:h.length<=ak):wpAny (model prog w) A (dictSetDefault d (.ref a) v) Q E s:=by
 let⟨o,I,G,i,H,g,q,l,t⟩:=C;unfold dictSetDefault
 try with_reducible refine g7 ?_
 refine ai<|knd.pyHash u f ?_;refine ai<|wpAny_dictFind_heap (s:={s with toks:=s.toks+knd.draws k}) u f i g q l t ?_ ?_
 .intro m;have n:k∉h.map (·.1):=not_mem_keys_of_get m;refine ai (qk (ai (wpAny_updateDictKeys (hz:=by have e:=size_of_entries q;nofun) (s:={s with toks:=s.toks+knd.draws k}) i g (ax (new (atKey_none_of_get m) _ ⟨_,_,G+1,lV _ i<|Obj.isFreed_of_dict<|Obj.data_mapDictKeys g _,
   H.mapDictKeys _,Obj.data_mapDictKeys g _,?_,?_,?_⟩<|lM ..)))))
  .simp[q,GV]
  .intro x hx;obtain hx|hx:=bt.mp hx
   .exact knd.keeps (l x hx) i g<|lM ..
   .simp only[bq]at hx;subst hx;exact knd.keeps f i g<|lM ..
  .rw[au,cQ];apply⟨t,by simp,?_⟩;intro x hx y z;simp only[bL,ur,bq]at z;subst z;exact λe=>n<|e▸hx
 .intro j p B;refine ai<|kf (s:={s with toks:=s.toks+knd.draws k}) i g ?_;rw[entry_at q j,B];exact ai<|qk<|ax<|there p<|atKey_of_get t B
theorem tK(knd:HeapKind prog w K)(d a:Wk)(l:(d==fS)=false)(dflt:Wm):
  MeetsIn prog w (bx.«dict.setdefault» ⟨[.ref d,.ref a,dflt],[]⟩) (λA R s=>knd.room A.in1/\∃k e,knd.is s.heap k a/\s.heap.DictOfH knd d e/\e.length<=ak /\
   (∀p,atKey e k=eH p->R (.ok<|.ret p.2) {s with toks:=s.toks+knd.draws k}) /\
   (atKey e k=none->∀f,f.DictOfH knd d (e++[(k,a,dflt)])->fB d s.heap f->R (.ok<|.ret dflt) {s with heap:=f,toks:=s.toks+knd.draws k})) :=
 .of_wp λA R s ⟨m,k,e,g,j,n,o,q⟩=>by
  unfold bx.«dict.setdefault»;refine ai ?_;unfold bx.Dict.keyAndDefault;refine ai<|uk j.typeIs ?_;show wpAny _ _ (pure (d,Value.ref a,eH dflt)) _ _ s;refine ax ?_;show wpAny _ _ (if(d==fS)=true then _ else(dictSetDefault d (.ref a) dflt >>= _)) _ _ s
  rw[if_neg (by rw[l];exact h9)];exact ai<|xb m g j (λp r=>ax ⟨p.2,fj,o p r⟩) (λt f h i=>ax ⟨dflt,fj,q t f h i⟩) n
end
section
variable{X:Cx}
def G9:V->List V->Hp->VK->Prop:=λx vs H Q=>∃(d b:Wk) (kvs:List<|TK×V) (k:TK) (z:V),x=.ref d/\vs=[.ref b,z]/\H d=eH (.dT kvs)/\fX H k (.ref b)/\k.depth<=8/\kvs.length<ak /\
 (∀v,cy kvs k=eH v->Q v H)/\(cy kvs k=none->Q z (upd H d<|.dT<|kvs++[(k,z)]))
theorem IU(D:X.A.units+16<cLine):Ph X "dict.setdefault" G9:=by
 intro J4 s σ H x vs v us Q I E G h;let⟨d,b,a,k,z,rfl,rfl,l,q,j,hz,J,L⟩:=h;cases E;let⟨u,v,rfl,M,r⟩:=G.two;cases M;let⟨_,g,m,f,t⟩:=HD I.kl I.O' l;have hl:a.length=m.length:=Paired.length f;refine call_meetsIn PySem.F.slot_dict_setdefault t.typeIs PySem.F.entry_dict_setdefault (PySem.F.args_dict_setdefault_3 _ _ _) (tK (bO X.prog X.w) d b g v)
  ⟨iM D,k,m,uU I.kl I.O' (fX.c 8 j q) j,t,by nofun,λp N=>?_,λO h' n T=>?_⟩
 .have e:=f.val k;rw[N]at e;cases i:cy a k with
  |none=>rw[i]at e;exact e.elim
  |some y =>
   rw[i]at e;exact⟨y,H,I.tok _,e,J y i⟩
 .have e:=f.val k;rw[O]at e;have i:cy a k=none:=by
   cases i:cy a k with
   |none=>rfl
   |some y=>rw[i]at e;exact e.elim
  let⟨o,U,Y,B,h2,h3,h4,_,h5⟩:=n;apply⟨z,_,pS (ob:=.dT<|a++[(k,z)]) I (by rw[l];exact jO) T ⟨o,B⟩ ⟨by rw[aA,Bt];nofun,g,_,KT.keeps (kvs:=a++[(k,z)]) (xs:=m++[(k,b,v)]) (eD f ⟨fj,fX.c 8 j q,j,r⟩) λc ys C=>?_,o,U,Y,B,h2,h3,h4,h5⟩,r,L i⟩;rw[ah<|Hm C l<|λz=>nomatch z];exact C
end
theorem iz:entryFor table "dict.update.loop"=eH bx.«dict.update.loop»:=entryFor_of_fast (by kernel_rfl)
theorem c9:plainId "dict.update.loop"=true:=by decide +kernel
theorem B_:w_ (.type "list") "keys"=pure none:=am_miss_of_fast (by decide +kernel)
section
variable{prog:bR}{w:Wn}{A:Wo}{E:Zc}{s:Wl}
theorem Al(hx:s.heap.get? a=eH o)(n:o.cls=.type "list")(f:o.data=.seq m k)(p:o.dict=none)(t:A.handled=none)(h:∀l tk,(∀b q,s.heap.get? b=eH q->l.get? b=eH q)->Q none {s with heap:=l,toks:=tk}):wpAny (model prog w) A (getAttr? (.ref a) "keys") Q E s:=by
 let⟨c,u,v,x⟩:=o;simp only at n f p;subst n f p;let⟨y,g,d,tk,os⟩:=s;have r:∀i,(⟨y,g,d,i,os⟩:Wl).TypeIs (.ref a) "list":=λ_=>⟨_,hx,fj⟩;have z:=sub_AttributeError;have B:=F.slot_list_getattribute.lookup;have C:=F.slot_list_getattribute.bind<|.ref a;have D:=am_list_getattr_none;unfold getAttr? getAttrBy? getAttrBy
 repeat (any_goals (first|assumption|exact r _|((with_reducible show wpAny _ _ (call (Value.builtin "list.__getattribute__") _ _) _ _ _);refine Bu F.slot_list_getattribute (r _) am_entry_list_getattribute (F.args_list_getattribute_2 _ _) (meets_getattribute_miss_list a m k x "keys" _ B_ (by decide +kernel) (by decide +kernel)) ⟨hx,t,λl i e j=>?_⟩)|wp_step))
 let⟨G,H,I⟩:=j.there;show wpAny _ _ (getattributeRaised _ _ _ _ _ _ _) _ _ _;unfold getattributeRaised hookOrError attributeErrorLeaves
 repeat (any_goals (first|assumption|wp_step))
 all_goals first|exact h _ _ j.keeps|trace_state
def Gr(h:Wq)(u:Wm)(kv:fK×Wm):Prop:=∃t ku,u=.ref t/\h.IsTuple t #[ku,kv.2]/\eo kv.1 ku=true
theorem Fn[DecidableEq κ](a:List<|κ×Wm)(k:κ)(v:Wm):(stored a k v).length<=a.length+1:=by
 unfold stored;split
 .rw[ag];nofun
 .rw[aA,Bt];exact aF _
theorem JQ(hh:A.handled=none){items:Array Wm}{ps:List (fK×Wm)}(B:D≠it)(T:l≠it)(U:l≠D)(ba:ps.length=items.size):
  ∀(n i:Nat) (s:Wl) (a:List<|fK×Wm),items.size-i=n->i<=items.size->a.length+(items.size-i)<=ak->s.heap.IsListIter it l i->s.heap.IsList l items->s.heap.DictOf (cM prog w) D a ->
   (∀(j:Nat) (u:Wm) (N:fK×Wm),items[j]?=eH u->ps[j]?=eH N->Gr s.heap u N) ->
   (∀z tk,z.DictOf (cM prog w) D (merged a<|ps.drop i)->(∀b o,b≠D->b≠it->s.heap.get? b=eH o->z.get? b=eH o)->R (.ok<|.ret .none) {s with heap:=z,toks:=tk}) ->
   D8 (model prog w) A (.builtin "dict.update.loop" ⟨[.ref D,.ref it,rawInt i,.none],[]⟩) R s:=by
 intro n
 induction n with
 |zero =>
  intro i s a hn hi hz p O Q Y hR;have e:i=items.size:=by nofun
  subst e;refine qJ iz ?_;rw[qI c9 _];show wpAny _ A.in1 (pyNext (.ref it) >>= _) _ _ s;refine ai (wpAny_pyNext_list_end hh p O ∅ λz eb=>?_);show wpAny _ _ (bx.Dict.addKeywords D [] >>= _) _ _ _;refine ai<|ax<|ax ?_;have C:z.DictOf (cM prog w) D a:=Q.extBut eb B;have q:=hR z s.toks (by rw[wP ⋯];exact C) λb o _ hb e=>eb b o hb e;exact q
 |succ n ih =>
  intro i s a hn hi hz p O Q Y hR;have I:i<items.size:=by nofun
  refine qJ iz ?_;rw[qI c9 _];show wpAny _ A.in1 (pyNext (.ref it) >>= _) _ _ s;have hu:items[i]?=eH items[i]:=by simp[I]
  have hk:ps[i]?=eH ps[i]:=bj ⋯;let⟨t,ku,eu,ht,al⟩:=Y i _ _ hu hk;refine ai<|wpAny_pyNext_list_item p O (x:=items[i]) hu λh J an=>?_;rw[eu];have m:fB it s.heap h:=an;have nt:t≠it:=by
   rintro rfl;let⟨o,G,L,_⟩:=ht;let⟨o',f,g,_⟩:=p;rw[G]at f;cases f;rw[L]at g;simp at g
  have M:h.IsTuple t #[ku,ps[i].2]:=ht.extBut m.extBut nt;have ap:uj {s with heap:=h} (.ref t) "tuple":=M.typeIs (s:={s with heap:=h});let⟨ot,as,bb,bd,aC⟩:=id M;refine ai<|g7 ?_;refine ai<|wpAny_tryCatch ?_;unfold bx.Dict.pairItems;refine ai<|wO ap ?_;rw[if_pos Wt];refine ai<|kS as aC<|ax ?_;show wpAny _ _ (nR [ku,ps[i].2]<|dictSet D ku ps[i].2) _ _ _;have a0:h.DictOf (cM prog w) D a:=Q.extBut m.extBut B;refine g7 (wpAny_dictSet_pairs (knd:=cM prog w) (k:=ps[i].1) al a0 (λy a4 a5=>?_) ⋯);have v:fB D h y:=a5;show wpAny _ _ (again _) _ _ _;refine ax ⟨qH c9 _,?_⟩;have a6:h.IsList l items:=O.extBut m.extBut T;have kp:∀b o,b≠D->b≠it->s.heap.get? b=eH o->y.get? b=eH o:=λb o h y e=>v.extBut b o h<|m.extBut b o y e;refine ih (i+1) _ (stored a ps[i].1 ps[i].2) ⋯ I (by have:=Fn a ps[i].1 ps[i].2;nofun) (J.extBut v.extBut<|dA B) (a6.extBut v.extBut U) a4 (λj u N h y=>?_) λz tk C a7=>?_
  .obtain⟨t2,a8,e2,H,a9⟩:=Y j u N h y;have n1:t2≠it:=by
    rintro rfl;let⟨o,G,L,_⟩:=H;let⟨o',f,g,_⟩:=p;rw[G]at f;cases f;rw[L]at g;simp at g
   have n2:t2≠D:=by
    rintro rfl;let⟨o,G,L,_⟩:=H;let⟨o',_,_,f,g,_⟩:=Q;rw[G]at f;cases f;have:=g.1;rw[L]at this;simp at this
   let⟨o,G,r⟩:=H;exact⟨t2,a8,e2,⟨o,kp _ o n2 n1 G,r⟩,a9⟩
  .refine hR z tk ?_ λb o h y e=>a7 b o h y<|kp b o h y e;have ed:ps.drop i=ps[i]::ps.drop (i+1):=A_ ⋯;rw[ed];exact C
theorem vV(O:A.handled=none)(T:s.heap.get? l=eH o)(I:o.cls=.type "list")(v:o.data=.seq items n)(J:o.dict=none)(L:ps.length=items.size)(hp:∀(j:Nat) (u:Wm) (H:fK×Wm),items[j]?=eH u->ps[j]?=eH H->Gr s.heap u H)(hz:items.size<=ak)(h:∀x tk,x.DictOf (cM prog w) ↑s (merged [] ps)->(∀b o,s.heap.get? b=eH o->x.get? b=eH o)->Q (.ref ↑s) {s with heap:=x,toks:=tk}) :
  wpAny (model prog w) A (call (.type "dict") [.ref l]) Q E s:=by
 refine callType_codes (Q₁:=λy m=>y=.ref ↑s/\m={s with heap:=s.heap.push { cls:=.type "dict",data:=.dict #[]}}) F.kt_called_dict (F.kt_typeCall_dict_1 _) F.entry_dict_init (kt_code_dict_new _ ⟨fj,fj⟩) ?_;rintro y m ⟨rfl,rfl⟩;have f:(s.heap.push { cls:=.type "dict",data:=.dict #[]}).DictOf (cM prog w) ↑s []:=Heap.DictOf.new s.heap;have p:(s.heap.push { cls:=.type "dict",data:=.dict #[]}).get? l=eH o:=aT _ T;have z:l<↑s:=aJ T;apply⟨f.typeIs,F.args_dict_init_2 _ _,?_⟩;unfold bx.«dict.__init__»;refine ai ?_;unfold bx.Dict.selfAndRest;refine ai<|uk f.typeIs ?_;show wpAny _ _ (pure (↑s,[Value.ref l])) _ _ _;refine ax ?_;show wpAny _ _ (A9 "dict.__init__" ↑s (.ref l) [] .none) _ _ _;unfold A9;have M:uj {s with heap:=s.heap.push { cls:=.type "dict",data:=.dict #[]}} (.ref l) "list":=⟨o,p,I⟩;refine ai<|wO M ?_;rw[if_pos Wt];refine ai<|Al p I v J O λq N k1=>?_;have k:∀b ob,(s.heap.push { cls:=.type "dict",data:=.dict #[]}).get? b=eH ob->q.get? b=eH ob:=k1;rw[if_pos (by rfl:(none:Option Wm).isNone=true)];refine ai<|qk ?_;have B:q.IsList l items:=⟨o,k _ _ p,I,n,v⟩;refine ai<|zQ (s:={s with heap:=q,toks:=N}) B ?_;have C:q.DictOf (cM prog w) ↑s []:=by
  let⟨U,Y,ep,g,r⟩:=f;exact⟨U,Y,ep,k _ _ g,r⟩
 have i:↑s<q.objs.size:=by
  let⟨U,Y,ep,g,r⟩:=C;exact aJ g
 refine ax ⟨qH c9 _,?_⟩;refine JQ (A:=A.in1) (prog:=prog) (w:=w) O (D:=↑s) (it:=q.objs.size) (l:=l) (items:=items) (ps:=ps) (cr i) (cr<|uu z i) (cr z) L items.size 0 _ [] (A8 _) (cH _) (by rw[lU];nofun)
  ⟨_,cv _ rfl,fj,fj⟩ (B.push _) (C.push _) (λj u H a b=>?_) λx tk G kp=>?_
 .obtain⟨t,ku,e,ht,hk⟩:=hp j u H a b;let⟨ot,g,r⟩:=ht;exact⟨t,ku,e,⟨ot,aT _<|k _ _<|aT _ g,r⟩,hk⟩
 .rw[ul]at G;apply⟨fj,h x tk G λb ob e=>kp b ob (cr<|aJ e) (cr<|uu (aJ e) i)<|aT _<|k _ _<|aT _ e⟩
end
section
variable{X:Cx}
theorem CC(hc:X.calm=true):hZ X (.type "dict") (λY H Q=>∃(l:Wk) (k:Ze) (f:List<|fK×V),Y=[.ref l]/\az X.K H l (k.map V.ref)/\k.length=f.length /\
  (∀(j:Nat) (t:Wk) (g:fK×V),k[j]?=eH t->f[j]?=eH g->H t=eH (.tup [kV g.1,g.2]))/\∀p,H p=none->Q (.ref p) (upd H p<|.dK<|jI [] f)):=by
 intro J4 s σ H Y us Q I r h;let⟨l,k,f,rfl,v,z,D,q⟩:=h;let⟨u,rfl,ru⟩:=vals1 r;cases ru;let⟨E,rv,⟨o,n,ho,G,J,L⟩,M⟩:=I.list v;have N:∀(k:Ze) (f:List<|fK×V),k.length=f.length->(∀(j:Nat) (t:Wk) (g:fK×V),k[j]?=eH t->f[j]?=eH g->H t=eH (.tup [kV g.1,g.2]))->∃y:List<|fK×Wm,KV f y/\∀(j:Nat) (t:Wk) (g:fK×Wm),k[j]?=eH t->y[j]?=eH g->Gr s.heap (.ref t) g:=by
  intro k
  induction k with
  |nil =>
   intro f v _;cases f with
   |nil=>exact⟨[],.nil,λj t g e=>by simp at e⟩
   |cons _ _=>cases v
  |cons t k ih =>
   intro f v D;cases f with
   |nil=>cases v
   |cons g f =>
    let⟨y,O,r2⟩:=ih f ‹v› λj T m a b=>D (j+1) T m ‹a› ‹b›;let⟨_,al,rt,p⟩:=(show bA X.prog X.w X.K H s.heap t (.tup [kV g.1,g.2])from I.kl t _ (D 0 t g rfl rfl));let⟨a,b,e,ra,rb⟩:=rt.two;subst e;apply⟨(g.1,b)::y,.cons ⟨fj,rb⟩ O,λj T m A U=>?_⟩;cases j with
    |zero =>
     simp at A U;subst A U;exact⟨t,a,fj,p,tM (P:=X.prog) (w:=X.w) ra⟩
    |succ j=>exact r2 j T m ‹A› ‹U›
 let⟨y,B,pa⟩:=N k f z D;have C:=rv.length;rw[ag]at C;have an:=B.length;refine vV (prog:=X.prog) (w:=X.w) (ps:=y) (I.ok.hd hc) ho G L J (by rw[cx];nofun) (λj u g a b=>?_) (by rw[cx,<-C];rw[ag]at M;exact M) λh' tk hD kp=>?_
 .have a':E[j]?=eH u:=by simpa using a
  have hj:j<k.length:=by
   have:=(bY.mp a').1;nofun
  let⟨u',e1,O⟩:=rv.get (i:=j) (x:=V.ref k[j]) (by simp[hj]);rw[a']at e1;cases e1;cases(show u=Value.ref k[j]from O);exact pa j k[j] g (by simp[hj]) b
 .have hm:(jI [] f).length<=ak:=by
   have A:=md f [];rw[lU]at A;rw[ag]at M;nofun
  exact⟨.ref ↑s,_,I.laid (o:=.dK<|jI [] f) kp (aF _)<|Gb hm (beq_eq_false_iff_ne.mpr<|dA<|cr I.big) (B.merge .nil) hD,fj,q _ I.fresh⟩
end
abbrev fM:R2:=JH λi j=>.int<|i+j
abbrev kB:R2:=rI LU λi j=>.int<|i * j
abbrev k5:R2:=rI (λ_ j=>0<j) λi j=>.int<|i % j
abbrev KM:R2:=rI Po λi j=>.int<|i / j
abbrev NM:R2:=rI Pm λi j=>.int<|i ^ j.toNat
abbrev FE:R2:=JH λi j=>.bl<|decide (i<j)
abbrev Od:R2:=JH λi j=>.bl<|decide (i<=j)
abbrev DC:R2:=JH λi j=>.bl<|decide (j<i)
abbrev UX:R2:=JH λi j=>.bl<|decide (j<=i)
abbrev KO:R2:=λx y H Q=>∃i j,x=.str i/\y=.str j/\i.length+j.length<=ak/\Q (.str<|i++j) H
abbrev UW:R2:=λx y H Q=>∃c j,x=.str ⟨#[c]⟩/\y=.str j/\Q (.bl<|decide (c∈j.cps.toList)) H
abbrev UU(K:Za):V->Option Int->Option Int->Hp->VK->Prop:=λx lo hi H Q=>BY K x lo hi H Q∨IK x lo hi H Q
abbrev oY(K:Za):List V->Hp->VK->Prop:=λxs H Q=>∃x c t b,xs=[x,.ty c]/\OF K H x t/\GL K t (.type c)=eH b/\Q (.bl b) H
abbrev MR(K:Za):List V->Hp->VK->Prop:=λxs H Q=>∃(p:Wk) (bs:List Bool),xs=[.ref p]/\az K H p (bs.map V.bl)/\Q (.bl<|bs.all id) H
abbrev UY(K:Za):List V->Hp->VK->Prop:=λxs H Q=>∃(p:Wk) (bs:List Bool),xs=[.ref p]/\az K H p (bs.map V.bl)/\Q (.bl<|bs.any id) H
abbrev G7(K:Za):List V->Hp->VK->Prop:=λxs H Q=>∃p ys,xs=[.ref p]/\((az K H p ys/\∀l,H l=none->Q (.ref l) (upd H l<|.tup ys))∨(bE K H p ys/\Q (.ref p) H))
abbrev MQ(K:Za):List V->Hp->VK->Prop:=λxs H Q=>∃(l:Wk) (ts:Ze) (kvs:List<|fK×V),xs=[.ref l]/\az K H l (ts.map V.ref)/\ts.length=kvs.length /\
  (∀(j:Nat) (t:Wk) (kv:fK×V),ts[j]?=eH t->kvs[j]?=eH kv->H t=eH (.tup [kV kv.1,kv.2]))/\∀p,H p=none->Q (.ref p) (upd H p<|.dK<|jI [] kvs)
abbrev eR(K:Za):List V->Hp->VK->Prop:=λxs H Q =>
 (∃p ys,xs=[.ref p]/\(az K H p ys∨bE K H p ys)/\∀l,H l=none->Q (.ref l) (upd H l<|.lst ys)) ∨
 (∃(d:Wk) (kvs:List<|fK×V),xs=[.ref d]/\Rd H d (.dK kvs)/\∀l,H l=none->Q (.ref l) (upd H l<|.lst<|kvs.map λkv=>kV kv.1))
abbrev dO(K:Za):List V->Hp->VK->Prop:=λxs H Q =>
 (∃p ys,xs=[.ref p]/\(az K H p ys∨bE K H p ys)/\Q (.int ys.length) H)∨(∃z,xs=[.str z]/\z.length<=ak/\Q (.int z.length) H)
theorem eB:kR "isinstance"=eH (.builtin "isinstance"):=by decide +kernel
theorem nA:kR "list"=eH (.type "list"):=by decide +kernel
theorem jB:kR "tuple"=eH (.type "tuple"):=by decide +kernel
theorem yq:kR "dict"=eH (.type "dict"):=by decide +kernel
theorem Gn:kR "bool"=eH (.type "bool"):=by decide +kernel
theorem Jx:kR "int"=eH (.type "int"):=by decide +kernel
theorem Jw:kR "str"=eH (.type "str"):=by decide +kernel
section
variable{X:Cx}{p pos:Pos}
theorem Jv:hZ X (.builtin "len") (dO X.K):=CA.or Cz
theorem Gm(a:X.calm=true):hZ X (.type "list") (eR X.K):=Cy.or<|yo a
theorem rD(a:Gl X "bool")(e:X.mg "bool"=none):PE X (.Name "bool" pos) (tC<|.ty "bool"):=tF a e Gn rfl
theorem Ae(a:Gl X "int")(e:X.mg "int"=none):PE X (.Name "int" pos) (tC<|.ty "int"):=tF a e Jx rfl
theorem Ad(a:Gl X "str")(e:X.mg "str"=none):PE X (.Name "str" pos) (tC<|.ty "str"):=tF a e Jw rfl
theorem rC(a:Gl X "list")(e:X.mg "list"=none):PE X (.Name "list" pos) (tC<|.ty "list"):=tF a e nA rfl
theorem k9(a:Gl X "tuple")(e:X.mg "tuple"=none):PE X (.Name "tuple" pos) (tC<|.ty "tuple"):=tF a e jB rfl
end
def Gc(mg:Ws->Option Wm)(x:Ws)(v:V):Prop:=∃u,mg x=eH u/\RelV v u
theorem ir(e:Gl X x)(h:Gc X.mg x v)(f:(x==("__debug__":Ws))=false:=by decide):PE X (.Name x a) (tC v):=by
 let⟨u,g,r⟩:=h;exact MZ e g r f
structure gS(P:bR)(w:Wn)(K:Za)(mg:Ws->Option Wm)(base:Wq)(x:Ws)(ps:Zb)(k:Nat)(sp:Sp):Prop where
 ex:∃f fd,pe P w K mg base Tg k f fd ps sp/\mg x=eH (.ref f)/\ka K (.ref f)=true/\Binds K fd ps []
structure PB(P:bR)(w:Wn)(K:Za)(mg:Ws->Option Wm)(base:Wq)(x:Ws)(C:Wk)(ps:Zb)(k:Nat)(sp:Sp):Prop where
 ex:∃f fd,pe P w K mg base Tg k f fd ps sp/\mg x=eH (.ref C)/\Mk K C f/\Binds K fd ps []
structure GD(P:bR)(w:Wn)(K:Za)(mg:Ws->Option Wm)(base:Wq)(C:Wk)(m:Ws)(ps:Zb)(k:Nat)(sp:Sp):Prop where
 ex:∃f fd,pe P w K mg base Tg k f fd ps sp/\HX K C/\NA K C m f/\Binds K fd ps []
section
variable{X:Cx}{k:Nat}{ps:Zb}{sp:Sp}{x m:Ws}{C:Wk}{p pos J6:Pos}{o e:Wr}{es:List Wr}{t:TA}{ta:TE}
theorem NP(D:gS X.prog X.w X.K X.mg X.base x ps k sp)(h:gh k X.A)(i:Gl X x)(j:PA X (e::es) t)(a:(x==("__debug__":Ws))=false:=by decide)
  (l:aR (e::es) X.env=(false,eval e X.env)::aR es X.env:=by rfl) (g:(backTo pos<|aR es X.env).any (·.1)=false:=by rfl) :
  PE X (.Call (.Name x p) (e::es) [] pos) (aM sp t):=by
 let⟨f,s,F,n,q,r⟩:=D.ex;exact M6 F h i n q r .nil Hh j a l g
theorem B6(D:PB X.prog X.w X.K X.mg X.base x C ps k sp)(h:gh (k+1) X.A)(i:Gl X x)(j:PA X (e::es) t)(a:(x==("__debug__":Ws))=false:=by decide)
  (l:aR (e::es) X.env=(false,eval e X.env)::aR es X.env:=by rfl) (g:(backTo pos<|aR es X.env).any (·.1)=false:=by rfl) :
  PE X (.Call (.Name x p) (e::es) [] pos) (z6 C sp [] E0 t):=by
 let⟨f,r,F,n,M,q⟩:=D.ex;exact MY M F h i n q .nil Hh j a l g
theorem Oj{pl:Sem Bool}(M:GD X.prog X.w X.K X.mg X.base C m ps k sp)(i:gh k X.A)(j:PE X o ta)(l:PA X (e::es) t)
  (a:aR (e::es) X.env=(false,eval e X.env)::aR es X.env:=by rfl) (g:(backTo pos<|aR es X.env).any (·.1)=false:=by rfl)
  (n:eval (.Call (.Attribute o m J6) (e::es) [] pos) X.env=(do
   let h <- eval o X.env
   vh J6.atName
   let(f,first) <- nR [h] (vd h m pl)
   zN pos f first (backTo pos<|aR (e::es) X.env) (vc pos<|oG [] X.env)):=by rfl) :
  PE X (.Call (.Attribute o m J6) (e::es) [] pos) (cF C m sp [] E0 ta t):=by
 let⟨f,s,F,c,q,r⟩:=M.ex;exact MX j c q F i r .nil Hh l a g n
theorem MW{pl:Sem Bool}(M:GD X.prog X.w X.K X.mg X.base C m ps k sp)(g:gh k X.A)(h:PE X o ta)
  (i:eval (.Call (.Attribute o m J6) [] [] pos) X.env=(do
   let a <- eval o X.env
   vh J6.atName
   let(f,first) <- nR [a] (vd a m pl)
   zN pos f first (backTo pos<|aR [] X.env) (vc pos<|oG [] X.env)):=by rfl) :
  PE X (.Call (.Attribute o m J6) [] [] pos) (cF C m sp [] E0 ta aW):=by
 let⟨f,n,F,c,j,l⟩:=M.ex;exact KZ h c j F g l .nil Hh i
end
def O8(K:Za)(tl:TE):TI:=fun σ H R=>tl σ H λx H1=>∃a,x=.ref a/\(((∃xs,az K H1 a xs)/\R (HW K a) H1)∨((∃xs,bE K H1 a xs)/\R (OK K a) H1))
theorem Of(w:PE X l r):PI X u l (O8 X.K r):=by
 intro t s σ H R I h;refine c7 (w t s σ H _ I h) λv f j=>?_;let⟨x,k,g,y,z⟩:=j;let⟨a,e,q⟩:=z;subst e;cases y;have i:∀b∈[↑f],r9 X t k b:=λb A=>by
  have e:b=↑f:=by simpa using A
  subst e;exact g.Ri (aF _)<|g.kl.fresh<|aF _
 obtain⟨⟨B,m⟩,q⟩|⟨⟨B,m⟩,q⟩:=q
 .obtain⟨n,C,p,D⟩:=g.list m;refine zQ p.isList ?_;exact⟨↑f,[↑f],_,_,k,fj,g.kept (t':=f.toks) λb o e=>aT _ e,zX a _,⟨_,cv _ rfl,fj,fj⟩,i,q⟩
 .obtain⟨n,C,p,D⟩:=g.tuple m;refine GQ p ?_;exact⟨↑f,[↑f],_,_,k,fj,g.kept (t':=f.toks) λb o e=>aT _ e,xc a _,⟨_,cv _ rfl,fj,fj⟩,i,q⟩
theorem o8{K:Za}{a:Wk}{xs:List V}{g:TG}{k:TS}{D:mQ}{σ:St}{H:Hp}(Pv:Nat->St->Hp->Prop)(n:Pv 0 σ H)(o:∀i σ H,i<=xs.length->Pv i σ H->az K H a xs)
  (r:∀i x σ H p,xs[i]?=eH x->Pv i σ H->H p=none->g (.ref p) σ (upd H p<|.tup [.int i,x]) fun σ2 j=>k {D with nx:=Pv<|i+1,ct:=Pv<|i+1,bk:=D.nx} σ2 j) (s:∀σ H,Pv xs.length σ H->D.nx σ H) :
  ∃W:Nat->Nat->St->Hp->Prop,(∃m,W 0 m σ H)/\∀i m σ H,W i m σ H ->
   ((OU K a).stop i H/\D.nx σ H)∨((OU K a).go i H/\∃N:St->Hp->Prop,(∀σ' f,N σ' f->∃l,l<m/\W (i+1) l σ' f)/\∀x f,(OU K a).Se i H x f->g x σ f fun σ2 j=>k {D with nx:=N,ct:=N,bk:=D.nx} σ2 j):=by
 apply⟨λi m σ H=>m=xs.length-i/\i<=xs.length/\Pv i σ H,⟨xs.length,by simp,cH _,n⟩,?_⟩;rintro i m σ H ⟨rfl,hi,p⟩;have q:=o i σ H hi p;by_cases h:i<xs.length
 .refine .inr ⟨⟨xs,xs[i],q,by simp[h]⟩,Pv<|i+1,fun σ' f u=>⟨xs.length-(i+1),by nofun,fj,h,u⟩,λx f y=>?_⟩;let⟨t,v,rfl,w,z,rfl⟩:=y;exact r i v σ H t (z xs q) p w
 .have e:i=xs.length:=by nofun
  subst e;exact .inl ⟨⟨xs,q,aF _⟩,s σ H p⟩
def Wc(n:Nat)(Pv:Nat->List V->Hp->Prop):Nat->Nat->List V->Hp->Prop:=λi m vs H=>m=n-i/\i<=n/\Pv i vs H
theorem oj(hi:i<n)(p:Pv (i+1) a H):∃m',m'<n-i/\Wc n Pv (i+1) m' a H:=⟨n-(i+1),by nofun,fj,hi,p⟩
abbrev dB(k:Nat)(fi:List Nat)(σ:St)(J:It)(g:TG)(tc:TT)(te:TE)(H1:Hp)(l:Wk)(Q:Hp->Prop):Prop :=
 ∃W:Nat->Nat->List V->Hp->Prop,(∃m,W 0 m []<|upd H1 l<|.lst [])/\∀i m vs H2,W i m vs H2->H2 l=eH (.lst vs) /\
  ((J.stop i H2/\Q H2)∨(J.go i H2/\∀x H3,J.Se i H2 x H3->g x (de k fi σ) H3 fun σ2 H4=>tc σ2 H4 λb H5 =>
   if b=true then te σ2 H5 λv H6=>H6 l=eH (.lst vs)/\vs.length<ak/\∃m',m'<m/\W (i+1) m' (vs++[v]) (upd H6 l<|.lst<|vs++[v])else ∃m',m'<m/\W (i+1) m' vs H5))
theorem kJ(n:Nat)(Pv:Nat->List V->Hp->Prop)(z:Pv 0 []<|upd t l<|.lst [])(A:∀i a H,i<=n->Pv i a H->H l=eH (.lst a))(o:∀i a H,i<n->Pv i a H->J.go i H)(q:∀a H,Pv n a H->J.stop n H/\Q H)(B:∀i a H x j,i<n->Pv i a H->J.Se i H x j->g x (de k fi σ) j fun σ2 C=>r σ2 C λb u =>
   if b=true then s σ2 u λv w=>w l=eH (.lst a)/\a.length<ak/\∃f,f<n-i/\Wc n Pv (i+1) f (a++[v]) (upd w l<|.lst<|a++[v])else ∃f,f<n-i/\Wc n Pv (i+1) f a u) :
  dB k fi σ J g r s t l Q:=by
 apply⟨Wc n Pv,⟨n,by simp[Wc],cH _,z⟩,?_⟩;rintro i m a H ⟨rfl,hi,p⟩;apply⟨A i a H hi p,?_⟩;by_cases h:i<n
 .exact .inr ⟨o i a H h p,λx j y=>B i a H x j h p y⟩
 .have e:i=n:=by nofun
  subst e;exact .inl<|q a H p
section
variable{K:Za}{k:Nat}{fi:List Nat}{g:TG}{tc:TT}{te:TE}{σ:St}{H1:Hp}{Q:Hp->Prop}{l:Wk}
theorem cu(Pv:Nat->List V->Hp->Prop)(n:Pv 0 []<|upd H1 l<|.lst [])(h:∀i e H,i<=xs.length->Pv i e H->H l=eH (.lst e)/\az K H a xs)(o:∀e H,Pv xs.length e H->Q H)(q:∀i e H x,xs[i]?=eH x->i<xs.length->Pv i e H->g x (de k fi σ) H fun σ2 r=>tc σ2 r λb j =>
   if b=true then te σ2 j λv m=>m l=eH (.lst e)/\e.length<ak/\∃f,f<xs.length-i/\Wc xs.length Pv (i+1) f (e++[v]) (upd m l<|.lst<|e++[v])else ∃f,f<xs.length-i/\Wc xs.length Pv (i+1) f e j) :
  dB k fi σ (HW K a) g tc te H1 l Q:=by
 refine kJ xs.length Pv n (λi e H hi p=>(h i e H hi p).1) (λi e H hi p=>⟨xs,xs[i],(h i e H (cA hi) p).2,by simp[hi]⟩) (λe H p=>⟨⟨xs,(h _ e H (aF _) p).2,aF _⟩,o e H p⟩) λi e H x s hi p y=>?_;let⟨rfl,y⟩:=y;exact q i e _ x (y xs (h i e _ (cA hi) p).2) hi p
theorem Eu(Pv:Nat->List V->Hp->Prop)(n:Pv 0 []<|upd H1 l<|.lst [])(h:∀i e H,i<=xs.length->Pv i e H->H l=eH (.lst e)/\bE K H a xs)(o:∀e H,Pv xs.length e H->Q H)(q:∀i e H x,xs[i]?=eH x->i<xs.length->Pv i e H->g x (de k fi σ) H fun σ2 r=>tc σ2 r λb j =>
   if b=true then te σ2 j λv m=>m l=eH (.lst e)/\e.length<ak/\∃f,f<xs.length-i/\Wc xs.length Pv (i+1) f (e++[v]) (upd m l<|.lst<|e++[v])else ∃f,f<xs.length-i/\Wc xs.length Pv (i+1) f e j) :
  dB k fi σ (OK K a) g tc te H1 l Q:=by
 refine kJ xs.length Pv n (λi e H hi p=>(h i e H hi p).1) (λi e H hi p=>⟨xs,xs[i],(h i e H (cA hi) p).2,by simp[hi]⟩) (λe H p=>⟨⟨xs,(h _ e H (aF _) p).2,aF _⟩,o e H p⟩) λi e H x s hi p y=>?_;let⟨rfl,y⟩:=y;exact q i e _ x (y xs (h i e _ (cA hi) p).2) hi p
theorem Gh{lo:Int}{n:Nat}(Pv:Nat->List V->Hp->Prop)(j:Pv 0 []<|upd H1 l<|.lst [])
  (m:∀i a H,i<=n->Pv i a H->H l=eH (.lst a)) (o:∀a H,Pv n a H->Q H)
  (q:∀i a H,i<n->Pv i a H->g (.int<|lo+i) (de k fi σ) H fun σ2 r=>tc σ2 r λb f =>
   if b=true then te σ2 f λv h=>h l=eH (.lst a)/\a.length<ak/\∃e,e<n-i/\Wc n Pv (i+1) e (a++[v]) (upd h l<|.lst<|a++[v])else ∃e,e<n-i/\Wc n Pv (i+1) e a f) :
  dB k fi σ (OL lo n) g tc te H1 l Q:=by
 refine kJ n Pv j m (λi a H hi p=>hi) (λa H p=>⟨aF _,o a H p⟩) λi a H x s hi p y=>?_;let⟨rfl,rfl⟩:=y;exact q i a _ hi p
theorem LA(Pv:Nat->List V->Hp->Prop)(j:Pv 0 []<|upd H1 l<|.lst [])(m:∀i a H,i<=x.cps.size->Pv i a H->H l=eH (.lst a))(n:∀a H,Pv x.cps.size a H->Q H)(o:∀i a H c,x.cps[i]?=eH c->i<x.cps.size->Pv i a H->g (.str ⟨#[c]⟩) (de k fi σ) H fun σ2 q=>tc σ2 q λb f =>
   if b=true then te σ2 f λv h=>h l=eH (.lst a)/\a.length<ak/\∃e,e<x.cps.size-i/\Wc x.cps.size Pv (i+1) e (a++[v]) (upd h l<|.lst<|a++[v])else ∃e,e<x.cps.size-i/\Wc x.cps.size Pv (i+1) e a f) :
  dB k fi σ (PH x) g tc te H1 l Q:=by
 refine kJ x.cps.size Pv j m (λi a H hi p=>hi) (λa H p=>⟨aF _,n a H p⟩) λi a H y t hi p r=>?_;let⟨rfl,c,s,rfl⟩:=r;exact o i a _ c s hi p
end
theorem gN(h:Q (σ.set j<|some x) H):eX j x σ H Q:=h
theorem su{σ:St}{H:Hp}{A B:Hp->Prop}(h:A H):iN σ H (λb a=>if b=true then A a else B a):=by
 show(if(true:Bool)=true then A H else B H)
 exact h
inductive JG{T0 T1:Type}(P:T0->T1->Prop):Prop
 |mk (x0:T0) (x1:T1):P x0 x1->JG P
inductive L_{T0 T1 T2:Type}(P:T0->T1->T2->Prop):Prop
 |mk (x0:T0) (x1:T1) (x2:T2):P x0 x1 x2->L_ P
inductive OS{T0 T1 T2 T3:Type}(P:T0->T1->T2->T3->Prop):Prop
 |mk (x0:T0) (x1:T1) (x2:T2) (x3:T3):P x0 x1 x2 x3->OS P
inductive VI{T0 T1 T2 T3 T4:Type}(P:T0->T1->T2->T3->T4->Prop):Prop
 |mk (x0:T0) (x1:T1) (x2:T2) (x3:T3) (x4:T4):P x0 x1 x2 x3 x4->VI P
inductive Vs{T0 T1 T2 T3 T4 T5:Type}(P:T0->T1->T2->T3->T4->T5->Prop):Prop
 |mk (x0:T0) (x1:T1) (x2:T2) (x3:T3) (x4:T4) (x5:T5):P x0 x1 x2 x3 x4 x5->Vs P
inductive PD(p0 p1 p2:Prop):Prop
 |mk:p0->p1->p2->PD p0 p1 p2
inductive Mb(p0 p1 p2 p3:Prop):Prop
 |mk:p0->p1->p2->p3->Mb p0 p1 p2 p3
inductive Ma(p0 p1 p2 p3 p4:Prop):Prop
 |mk:p0->p1->p2->p3->p4->Ma p0 p1 p2 p3 p4
inductive OI(p0 p1 p2 p3 p4 p5:Prop):Prop
 |mk:p0->p1->p2->p3->p4->p5->OI p0 p1 p2 p3 p4 p5
inductive VJ(p0 p1 p2 p3 p4 p5 p6:Prop):Prop
 |mk:p0->p1->p2->p3->p4->p5->p6->VJ p0 p1 p2 p3 p4 p5 p6
end L2
namespace L2
open PySem PySem.W
def Fq(K:Za)(td ty tv:TE):TS:=λD σ H=>tv σ H λv H1=>td σ H1 λx H2=>ty σ H2 λy H3 =>
 ∃(a b:Wk) (kvs:List<|TK×V) (k:TK),x=.ref a/\y=.ref b/\H3 a=eH (.dT kvs)/\mO K H3 k (.ref b)/\k.depth<=8/\kvs.length<ak/\D.nx σ (upd H3 a<|.dT<|dR kvs k v)
section
variable{X:Cx}{o i value:Wr}{pos pos':Pos}{td ty tv:TE}
theorem DF(j:X.A.units+16<cLine)(m:PE X o td)(hi:PE X i ty)(n:PE X value tv)(p:vg value (eH<|.Subscript o i pos') pos.line X.env=pure false):
  PS X (.Assign [.Subscript o i pos'] value pos) (Fq X.K td ty tv):=by
 intro f s σ H D I h;refine wpAny_Assign_Subscript (c7 (n f s σ H _ I h) λr q ⟨v,t,w,z,B⟩=>c7 (m f q σ t _ w B) λu C ⟨x,E,G,J,L⟩=>c7 (hi f C σ E _ G L) λiv s3 g=>?_) p;let⟨y,H3,M,N,a,b,O,k,ex,Q,e,T,U,l,Y⟩:=g;subst ex;subst Q;obtain rfl:u=Value.ref a:=J;exact Gf j M e T U l N z λs4 I4=>⟨σ,_,I4,Y⟩
end
theorem z5:∀a:List Ws,PN K H (a.map λx=>TK.k<|some<|.inr x) (a.map V.str)
 |[]=>by show PN K H [] [];unfold PN;rfl
 |x::a=>by
  rw[bL,bL];unfold PN;apply⟨_,_,fj,?_,z5 a⟩;unfold mO
  rfl
theorem xg{xs:Zb}(h:dg K H a<|xs.map V.str):mO K H (.t<|xs.map λx=>TK.k<|some<|.inr x) (.ref a):=by
 unfold mO;exact⟨a,_,fj,h,z5 xs⟩
end L2
end

section
set_option Elab.async false
set_option linter.all false
set_option maxRecDepth 100000
namespace L2
open PySem Spec PyProof.Rows PySem.W
def NF:Wr->List Ws
 |.Name x _=>[x]
 |.Tuple es _ _=>es.filterMap λe=>match e with | .Name x _=>eH x|_=>none
 |_=>[]
theorem bK(r:t D σ H)(p:EQ X b t):∃t,EQ X b t/\t D σ H:=⟨t,p,r⟩
section
variable{X:Cx}{k k0:Nat}{ps:Zb}{sp:Sp}{x m:Ws}{C:Wk}{p pos J6:Pos}{o e a b:Wr}{es:List Wr}{t:TA}{ta tb te:TE}
theorem qf(h:gh k0 X.A)(D:gS X.prog X.w X.K X.mg X.base x ps k sp)(i:PA X (e::es) t)(j:k<=k0:=by decide)(l:Gl X x:=by rfl)(f:(x==("__debug__":Ws))=false:=by decide)
  (n:aR (e::es) X.env=(false,eval e X.env)::aR es X.env:=by rfl) (g:(backTo pos<|aR es X.env).any (·.1)=false:=by rfl) :
  PE X (.Call (.Name x p) (e::es) [] pos) (aM sp t):=NP D (h.mono j) l i f n g
theorem qm{pl:Sem Bool}(j:gh k0 X.A)(M:GD X.prog X.w X.K X.mg X.base C m ps k sp)(l:PE X o ta)(n:PA X (e::es) t)(q:k<=k0:=by decide)
  (g:aR (e::es) X.env=(false,eval e X.env)::aR es X.env:=by rfl) (h:(backTo pos<|aR es X.env).any (·.1)=false:=by rfl)
  (r:eval (.Call (.Attribute o m J6) (e::es) [] pos) X.env=(do
   let i <- eval o X.env
   vh J6.atName
   let(f,first) <- nR [i] (vd i m pl)
   zN pos f first (backTo pos<|aR (e::es) X.env) (vc pos<|oG [] X.env)):=by rfl) :
  PE X (.Call (.Attribute o m J6) (e::es) [] pos) (cF C m sp [] E0 ta t):=Oj (pl:=pl) M (j.mono q) l n g h r
theorem vU{pl:Sem Bool}(h:gh k0 X.A)(M:GD X.prog X.w X.K X.mg X.base C m ps k sp)(i:PE X o ta)(j:k<=k0:=by decide)
  (l:eval (.Call (.Attribute o m J6) [] [] pos) X.env=(do
   let g <- eval o X.env
   vh J6.atName
   let(f,first) <- nR [g] (vd g m pl)
   zN pos f first (backTo pos<|aR [] X.env) (vc pos<|oG [] X.env)):=by rfl) :
  PE X (.Call (.Attribute o m J6) [] [] pos) (cF C m sp [] E0 ta aW):=MW (pl:=pl) M (h.mono j) i l
theorem xl(f:PE X a ta)(g:PE X b tb)(h:JB b:=by exact λ_ _=>rfl):PE X (.Subscript a b pos) (aI (dE X.K) ta tb):=Hf Hs f g h
theorem xt(f:PE X a ta)(g:PE X b tb)(h:JB b:=by exact λ_ _=>rfl):PE X (.Subscript a b pos) (aI (io X.K) ta tb):=Hf Ld f g h
theorem xq(f:PE X a ta)(g:PE X b tb)(h:JB b:=by exact λ_ _=>rfl):PE X (.Subscript a b pos) (aI (nh X.K) ta tb):=Hf Ow f g h
theorem QT(f:PE X a ta)(g:PE X b tb)(h:JB b:=by exact λ_ _=>rfl):PE X (.Subscript a b pos) (aI FG ta tb):=Hf Le f g h
theorem mm(g:tW X (gm f) r)(h:PE X a ta)(i:PE X b tb)(j:nS f b=false:=by exact K6 _):PT X (.Compare a [f] [b] pos) (a_<|aI r ta tb):=Ha g h i j
theorem LX(g:tW X (gm f) r)(h:PE X a ta)(i:PE X b tb)(j:nS f b=false:=by exact K6 _):PE X (.Compare a [f] [b] pos) (aI r ta tb):=Hg g h i j
theorem EO(g:tW X (gm f) r)(h:PE X a ta)(i:PE X b tb)(j:nS f b=false:=by with_unfolding_all rfl):PT X (.Compare a [f] [b] pos) (a_<|aI r ta tb):=Ha g h i j
theorem V'(g:tW X (gm f) r)(h:PE X a ta)(i:PE X b tb)(j:nS f b=false:=by with_unfolding_all rfl):PE X (.Compare a [f] [b] pos) (aI r ta tb):=Hg g h i j
theorem qB{id:String}{r:List V->Hp->VK->Prop}(h:hZ X (.builtin id) r)(i:X.mg x=none)(j:kR x=eH (.builtin id))(l:PA X (e::es) t)(n:Gl X x:=by rfl)(q:x≠"__name__":=by decide)(f:(x==("__debug__":Ws))=false:=by decide)
  (s:aR (e::es) X.env=(false,eval e X.env)::aR es X.env:=by rfl) (g:(backTo pos<|aR es X.env).any (·.1)=false:=by rfl):PE X (.Call (.Name x p) (e::es) [] pos) (dL r t):=DJ h n i j l q f s g
theorem qL(g:X.calm=true)(h:X.mg "list"=none)(i:PA X (e::es) t)(j:Gl X "list":=by rfl)
  (l:aR (e::es) X.env=(false,eval e X.env)::aR es X.env:=by rfl) (f:(backTo pos<|aR es X.env).any (·.1)=false:=by rfl):PE X (.Call (.Name "list" p) (e::es) [] pos) (dL (eR X.K) t):=iU (Gm g) j h nA i Wt Wt l f
theorem ql(g:X.mg "len"=none)(h:PA X (e::es) t)(i:Gl X "len":=by rfl)
  (j:aR (e::es) X.env=(false,eval e X.env)::aR es X.env:=by rfl) (f:(backTo pos<|aR es X.env).any (·.1)=false:=by rfl):PE X (.Call (.Name "len" p) (e::es) [] pos) (dL (dO X.K) t):=DJ Jv i g PySem.boot_len h Wt Wt j f
theorem qs(i:Nat)(g:X.N.Nodup)(h:PE X e te)(hi:X.N[i]?=eH x:=by rfl)(hx:Loc X.env.scope x:=by first|exact Or.inl rfl|exact Or.inr rfl)(j:vg e (eH<|.Name x f) pos.line X.env=pure false:=by rfl)(hf:X.fn x=true∨X.env.scope.names.lookup x=eH .local:=by first|exact .inl rfl|exact .inr rfl|assumption):
  PS X (.Assign [.Name x f] e pos) (aU te<|eX i):=KQ g hi hx h j hf
theorem gn(i:Nat)(f:X.N.Nodup)(hi:X.N[i]?=eH x:=by rfl)(hx:Loc X.env.scope x:=by first|exact Or.inl rfl|exact Or.inr rfl)(hf:X.fn x=true∨X.env.scope.names.lookup x=eH .local:=by first|exact .inl rfl|exact .inr rfl|assumption):PG X (.Name x pos) (eX i):=He f hi hx hf
theorem gc(i:Nat)(f:X.N.Nodup:=by exact of_decide_eq_true (by with_unfolding_all rfl))(hi:X.N[i]?=eH x:=by rfl)(hx:Loc X.env.scope x:=by exact Or.inl rfl)(hf:X.fn x=true∨X.env.scope.names.lookup x=eH .local:=by first|exact .inl rfl|exact .inr rfl|assumption):PG X (.Name x pos) (eX i):=He f hi hx hf
theorem a1(f:PE X a ta)(g:aR [a] X.env=(false,eval a X.env)::aR [] X.env:=by rfl):PA X [a] (av ta aW):=bg f bc g
theorem a2(g:PE X a ta)(h:PE X b tb)(i:aR [a,b] X.env=(false,eval a X.env)::aR [b] X.env:=by rfl)(f:aR [b] X.env=(false,eval b X.env)::aR [] X.env:=by rfl):PA X [a,b] (av ta<|av tb aW):=bg g (bg h bc f) i
theorem a3(i:PE X a ta)(j:PE X b tb)(l:PE X c h)(n:aR [a,b,c] X.env=(false,eval a X.env)::aR [b,c] X.env:=by rfl)(f:aR [b,c] X.env=(false,eval b X.env)::aR [c] X.env:=by rfl)(g:aR [c] X.env=(false,eval c X.env)::aR [] X.env:=by rfl):PA X [a,b,c] (av ta<|av tb<|av h aW):=bg i (a2 j l f g) n
variable{elt iter tg:Wr}{ifs:List Wr}{scope:Scope}{fi:List Nat}{wi:TI}{g:TG}{tc:TT}
theorem qc(hi:PI X tg iter wi)(q:EE k g)
  (h:∀C l f j ex n,PG (fh X (NF tg++fi.map λi=>X.N.getD i "") scope C l f j ex n) tg g/\N3 (fh X (NF tg++fi.map λi=>X.N.getD i "") scope C l f j ex n) ifs tc/\PE (fh X (NF tg++fi.map λi=>X.N.getD i "") scope C l f j ex n) elt te)
  (r:pT X.env.scope scope k (NF tg++fi.map λi=>X.N.getD i "") X.N fi=true:=by with_unfolding_all rfl) (s:X.calm=true:=by rfl)
  (u:∀x,C7 iter X.env x=pure x:=by intro _;rfl):PE X (.ListComp elt [⟨tg,iter,ifs,0⟩] scope pos) (cZ k fi wi g tc te) :=
 M4 r s hi (λ_ _ _ _ _ _=>(h _ _ _ _ _ _).1) q (λ_ _ _ _ _ _=>(h _ _ _ _ _ _).2.1) (λ_ _ _ _ _ _=>(h _ _ _ _ _ _).2.2) u
theorem Pw(j:Nat)(v:X.N.Nodup)(hi:PI X tg iter wi)(w:EE k g)(h:∀C q f l ex r,PG (fh X (NF tg++fi.map λi=>X.N.getD i "") scope C q f l ex r) tg g/\N3 (fh X (NF tg++fi.map λi=>X.N.getD i "") scope C q f l ex r) ifs tc/\PE (fh X (NF tg++fi.map λi=>X.N.getD i "") scope C q f l ex r) elt te)(z:X.N[j]?=eH y:=by rfl)(A:Loc X.env.scope y:=by first|exact Or.inl rfl|exact Or.inr rfl)(B:pT X.env.scope scope k (NF tg++fi.map λi=>X.N.getD i "") X.N fi=true:=by with_unfolding_all rfl)(D:X.calm=true:=by rfl)(s:vg (.ListComp elt [⟨tg,iter,ifs,0⟩] scope pos) (eH<|.Name y u) n.line X.env=pure true:=by rfl)(E:∀x,C7 iter X.env x=pure x:=by intro _;rfl)(hf:X.fn y=true∨X.env.scope.names.lookup y=eH .local:=by first|exact .inl rfl|exact .inr rfl|assumption) :
  PS X (.Assign [.Name y u] (.ListComp elt [⟨tg,iter,ifs,0⟩] scope pos) n) (aU (cZ k fi wi g tc te)<|eX j) :=
 FJ v z A B D hi (λ_ _ _ _ _ _=>(h _ _ _ _ _ _).1) w (λ_ _ _ _ _ _=>(h _ _ _ _ _ _).2.1) (λ_ _ _ _ _ _=>(h _ _ _ _ _ _).2.2) s E hf
end
end L2
end

section
set_option Elab.async false
set_option linter.all false
set_option maxRecDepth 100000
namespace L2
open PySem Spec PyProof.Rows
theorem Ov(h:eo k v=true):RelV (kV k) v:=by
 obtain⟨i,t,rfl,rfl⟩|⟨i,t,rfl,rfl⟩:=aH h
 .exact⟨t,fj⟩
 .exact⟨t,fj⟩
theorem Ag{α β:Type}{F:α->β->Prop}{e:List α}{f:List β}(g:Paired F e f){i:Nat}{a:α}{b:β}(h:e[i]?=eH a)(j:f[i]?=eH b):F a b:=by
 induction g generalizing i with
 |nil=>cases h
 |cons r _ k =>
  cases i with
  |zero=>injection h with h;injection j with j;subst h j;exact r
  |succ i=>exact k h j
theorem Eg{K:Za}(l:om P w K H h)(e:H d=eH (.oI o<|.dK a))(p:o.data=.dict k n):
  (d==fS)=false/\∃j,KV a j/\h.DictAt (cM P w) d j n:=by
 let⟨g,_,f,j,m,s⟩:=(show bA P w K H h d (.oI o<|.dK a)from l d _ e);let⟨t,v,x,i,u,q,r⟩:=s.dictAt;rw[g]at i;cases i;rw[p]at q;cases q;exact⟨f,j,m,o,_,g,u,p,r⟩
theorem Ll{K:Za}(x:bA P w K H h d<|.oI o<|.dK e):∃f i,o.data=.dict f i:=by
 let⟨g,_,_,m,_,j⟩:=x;let⟨k,n,p,a,q,l,r⟩:=j.dictAt;rw[g]at a;cases a;exact⟨_,_,l⟩
structure jK(h:Wq)(d:Wk)(es:Array fH)(ep:Nat):Prop where
 ex:∃o,h.get? d=eH o/\o.ExactDict/\o.data=.dict es ep
section
variable{prog:bR}{w:Wn}{A:Wo}{E:Zc}{s:Wl}{d v it:Wk}{es:Array fH}{ep i:Nat}
theorem jK.ty(h:jK s.heap d es ep):s.TypeIs (.ref d) "dict":=let⟨o,a,e,_⟩:=h.ex;⟨o,a,e.1⟩
theorem IJ(h:jK s.heap d es ep)(a:(d==fS)=false)(q:Q (.ref ↑s) {s with heap:=s.heap.push { cls:=.type "dict_items",data:=.fields #[.ref d]}}):
  wpAny (model prog w) A (call (.builtin "dict.items") [.ref d]) Q E s:=by
 refine mo F.slot_dict_items h.ty F.entry_dict_items ?_<|F.args_dict_items_1 _;unfold bx.«dict.items» bx.Dict.noArgs;refine ai <| ai <| uk h.ty <| ?_;refine ax<|show wpAny _ _ (ui d >>= _) _ _ s from ?_;unfold ui;rw[if_neg (λz=>by rw[a]at z;cases z)];exact ai <| ax <| ai <| gL <| ax ⟨_,fj,q⟩
theorem KJ(f:s.heap.IsItemsView v d)(h:jK s.heap d es ep)(q:∀g,ke g ↑s d 0 es.size ep .none .none->(∀b o,s.heap.get? b=eH o->g.get? b=eH o)->Q (.ref ↑s) {s with heap:=g}):wpAny (model prog w) A (pyIter<|.ref v) Q E s:=by
 let⟨n,j,m,k⟩:=id f;let⟨o,l,hx,a⟩:=h.ex;refine A7 f.typeIs F.slot_dict_items_iter <| mo F.slot_dict_items_iter f.typeIs F.entry_dict_items_iter ?_ (F.args_dict_items_iter_1 _);unfold bx.«dict_items.__iter__» bx.Dict_items.dictOf bx.Dict_items.newIterator;refine ai <| ax <| ai <| ai <| dC j k (x:=.ref d) rfl <| ax <| ai <| ai <| kf l a <| ai <| lK l a ?_;simp only[show mW "dict_itemiterator"=true by decide,if_true];refine gL (ax ⟨_,fj,"dict_itemiterator",_,⟨_,cv _ rfl,fj⟩,wN.lookup,?_⟩) ?_
 .refine q _ ?_ λb o e=>aT _ e;simpa[rawInt,ke,bx.Dict_items.ownedTupleFields]using cv s.heap (o:={ cls:=.type "dict_itemiterator",data:=.fields #[.none,.bool false,.ref d,.int 0 0,.int es.size 0,.int ep 0,.none,.none]}) rfl
 .simp only[sizeOk,bx.Dict_items.ownedTupleFields,cx,aA,eT,lU,GP];nofun
theorem KH(a:ke s.heap it d i es.size ep ok n)(h:jK s.heap d es ep)(hi:i<es.size)(q:∀p,IsItemIterOut p it d (i+1) es.size ep es[i].key es[i].val ↑s->p.get? ↑s=eH { cls:=.type "tuple",data:=.seq #[es[i].key,es[i].val]} ->
   (∀b o,b≠it->s.heap.get? b=eH o->p.get? b=eH o)->Q (eH<|.ref ↑s) {s with heap:=p}):wpAny (model prog w) A (pyNext<|.ref it) Q E s:=by
 let⟨o,T,hx,l⟩:=h.ex;let⟨f,g,u,tk,os⟩:=s;have ty:∀{p:Wq}{ok n:Wm}{j:Nat},ke p it d j es.size ep ok n->uj ⟨p,g,u,tk,os⟩ (.ref it) "dict_itemiterator":=λx=>⟨_,x,fj⟩;have r:=ty a;have own:mW "dict_itemiterator"=true:=by decide
 unfold pyNext;refine ai <| lL <| jG (name:=iI "__next__") r wN <| mo wN r F.entry_dict_itemiterator_next ?_ (F.args_dict_itemiterator_next_1 _);refine ai <| ax <| ai <| ai ?_
 first|refine ai <| A6 r <| ax ?_|refine ai <| AZ r <| ax ?_
 refine ai <| uh a rfl ?_;simp only[own,if_true];show wpAny _ _ (if(Value.ref d==Value.none)=true then _ else _) _ _ _
 rw[if_neg<|show ¬((Value.ref d==Value.none)=true)from h9];refine ai <| ax <| ai <| kf T l ?_;rw[if_neg ∅];refine ai <| ax <| ai <| lK T l ?_;rw[if_neg ∅];refine ax ?_;simp only[show ¬((i:Int)<0)from by nofun,if_false,gM,kb hi];refine ai ?_
 first|refine ai <| A6 r <| ax ?_|refine ai <| AZ r <| ax ?_
 refine ai <| wpAny_isOneOf_itemiter r ?_;show wpAny _ _ (ug (.ref it) 3 (rawInt<|(i:Int)+1) >>= _) _ _ ⟨f,g,u,tk,os⟩;refine ai <| jF a ∅ λm y B=>?_;have B:fB it f m:=B;have y:ke m it d (i+1) es.size ep ok n:=by
  have z:((i+1:Nat):Int)=(i:Int)+1:=by nofun
  unfold ke;rw[z];simpa[rawInt]using y
 have U:=ty y;refine ai <| g7 <| ai <| wpAny_isOneOf_itemiter U <| ai <| wpAny_isOneOf_itemiter U ?_;show wpAny _ _ (bx.Dict_items.pairFromOwner (.ref it) 6 es[i].key es[i].val) _ _ ⟨m,g,u,tk,os⟩;unfold bx.Dict_items.pairFromOwner;refine ai <| wpAny_newTuple ?_;have t:ke (m.push { cls:=.type "tuple",data:=.seq #[es[i].key,es[i].val]}) it d (i+1) es.size ep ok n:=aT _ y;have Y:m.objs.size=f.objs.size:=B.1;have t2:(m.push { cls:=.type "tuple",data:=.seq #[es[i].key,es[i].val]}).get? f.objs.size=eH { cls:=.type "tuple",data:=.seq #[es[i].key,es[i].val]}:=by rw[<-Y];exact cv _ rfl
 have k2:∀b o,b≠it->f.get? b=eH o->(m.push { cls:=.type "tuple",data:=.seq #[es[i].key,es[i].val]}).get? b=eH o:=λb o k e=>aT _<|B.extBut b o k e;rw[Y];generalize m.push { cls:=.type "tuple",data:=.seq #[es[i].key,es[i].val]}=D at t t2 k2;show wpAny _ _ (bx.Dict_items.ownedTupleIsFree (.ref it) >>= _) _ _ ⟨D,g,u,tk,os⟩;have lt:it<f.objs.size:=aJ a;have ne:f.objs.size≠it:=eU lt;refine ai ?_;unfold bx.Dict_items.ownedTupleIsFree;refine ai <| dC t rfl (x:=.none) rfl <| ax ?_;simp only[if_true];refine ai <| dC t rfl (x:=ok) rfl <| ai <| dC t rfl (x:=n) rfl <| ai <| jF t ∅ λG H s3=>?_;have s3:fB it D G:=s3;have H:ke G it d (i+1) es.size ep es[i].key n:=H;refine ai <| jF H ∅ λI J s4=>?_;have s4:fB it G I:=s4;have J:ke I it d (i+1) es.size ep es[i].key es[i].val:=J;refine ai <| jF J ∅ λL M s5=>?_;have s5:fB it I L:=s5;have M:IsItemIterOut L it d (i+1) es.size ep es[i].key es[i].val f.objs.size:=M;refine ai <| jF M ∅ λC N O=>?_;have O:fB it L C:=O;have N:IsItemIterOut C it d (i+1) es.size ep es[i].key es[i].val f.objs.size:=N;have up:∀b o,b≠it->D.get? b=eH o->C.get? b=eH o:=λb o k e=>O.extBut b o k <| s5.extBut b o k <| s4.extBut b o k <| s3.extBut b o k e;exact ai <| wT <| ax <| ax ⟨_,fj,ax <| q C N (up _ _ ne t2) λb o k e=>up b o k<|k2 b o k e⟩
theorem MO(n:A.handled=none)(f:ke s.heap it d i es.size ep ok l)(h:jK s.heap d es ep)(hi:es.size<=i)(q:∀j,Bm it s.heap j->Q none {s with heap:=j}):wpAny (model prog w) A (pyNext<|.ref it) Q E s:=by
 let⟨o,k,hx,e⟩:=h.ex;have g:s.TypeIs (.ref it) "dict_itemiterator":=⟨_,f,fj⟩;have own:mW "dict_itemiterator"=true:=by decide
 unfold pyNext;refine ai <| lL <| jG (name:=iI "__next__") g wN <| mo wN g F.entry_dict_itemiterator_next ?_ (F.args_dict_itemiterator_next_1 _);refine ai <| ax <| ai <| ai ?_
 first|refine ai <| A6 g <| ax ?_|refine ai <| AZ g <| ax ?_
 refine ai <| uh f rfl ?_;simp only[own,if_true];show wpAny _ _ (if(Value.ref d==Value.none)=true then _ else _) _ _ _
 rw[if_neg<|show ¬((Value.ref d==Value.none)=true)from h9];refine ai <| ax <| ai <| kf k e ?_;rw[if_neg ∅];refine ai <| ax <| ai <| lK k e ?_;rw[if_neg ∅];refine ax ?_;simp only[show ¬((i:Int)<0)from by nofun,if_false,gM,qG hi];refine ai ?_
 first|refine ai <| A6 g <| ax ?_|refine ai <| AZ g <| ax ?_
 show wpAny _ _ (ug (.ref it) 2 .none >>= _) _ _ s;refine ai <| qK f rfl ∅ ?_;show wpAny _ _ (newExc (.type "StopIteration") [] >>= _) _ _ _;refine ai ?_;simp only[newExc,Bl];refine ai <| gL ?_ (by size_fits);refine ai (m:=oA _ _) <| Bk (a:=Value.none) (by first|rfl|(simp only[oA];rfl)) <| gL ?_ (by size_fits)
 simp only[Bj];refine ai <| Bi ?_;rw[show A.in1.handled=none from n];refine ai <| ax <| Bh ?_;refine ai<|wX (b:=true) (T:="StopIteration") ⟨_,cv _ rfl,fj⟩ wS<|ax<|q _<|((lM ..).extBut.push _).push _
end
def ND(d:Wk)(o:Obj)(u:HO)(n:Nat)(ent:Nat->Hp->V->V->Prop):It :=
 ⟨λi H=>H d=eH (.oI o u)/\i<n,λi H x H'=>∃p a b,H p=none/\x=.ref p/\ent i H a b/\H'=upd H p (.tup [a,b]),λi H=>H d=eH (.oI o u)/\n<=i⟩
structure CZ(P:bR)(w:Wn)(K:Za)(d:Wk)(o:Obj)(u:HO)(n:Nat)(ent:Nat->Hp->V->V->Prop)(es:Array fH)(ep:Nat):Prop where
 ex:o.ExactDict
 dat:o.data=.dict es ep
 sz:es.size=n
 get:∀{H:Hp}{h:Wq}{i:Nat}(hi:i<es.size),om P w K H h->H d=eH (.oI o u)->∃a b,ent i H a b/\RelV a es[i].key/\RelV b es[i].val
theorem EW{P:bR}{w:Wn}{K:Za}{xs:List Wr}{kx:Nat}{J8:Pos}{d it:Wk}{o:Obj}{u:HO}{n:Nat}{r:Nat->Hp->V->V->Prop}{m:Array fH}{ep:Nat}(f:CZ P w K d o u n r m ep):
  u1 P w K (.Tuple xs kx J8) (ND d o u n r) [it] it (λi h=>∃ok p,ke h it d i n ep ok p) where
 mem:=by simp
 obj:=λi h ⟨ok,p,st⟩ b l=>by
  have e:b=it:=by simpa using l
  subst e;exact⟨_,st,λv z=>by cases z⟩
 keep:=λi h B ⟨ok,p,st⟩ k=>⟨ok,p,k it ∅ _ st⟩
 item:=by
  intro X D G J hc i J4 s σ H E I hf ⟨ok,p,st⟩ L;subst D G J;let⟨C,hi⟩:=L;have t:i<m.size:=by rw[f.sz];exact hi
  let⟨g,ou⟩:=(show bA X.prog X.w X.K H s.heap d (.oI o u)from I.kl d _ C);let⟨a,b,en,ra,rb⟩:=f.get t I.kl C;let⟨M,f1,f2,f3,f4,f5⟩:=hf it ∅;rw[<-f.sz]at st;refine KH st ⟨o,g,f.ex,f.dat⟩ t λB N O Q=>?_;apply⟨_,fj,wpAny_letOwnedTupleGo_items (s:={s with heap:=B}) N λT U Y=>?_⟩;have j:fB it B T:=Y;have x:↑s≠it:=eU<|aJ st;have y:T.get? ↑s=eH { cls:=.type "tuple",data:=.seq #[m[i].key,m[i].val]}:=j.extBut _ _ x O;have al:H ↑s=none:=I.fresh;have I2:Inv X J4 σ (upd H ↑s<|.tup [a,b]) {s with heap:=T,toks:=s.toks}:=by
   refine I.P' (ch:=[it]) hf (λc o l q=>?_) ⟨_,y⟩ (λ_ z=>nomatch z) ⟨by show 2<=ak;decide,[m[i].key,m[i].val],.cons ra<|.cons rb .nil,⟨_,y,fj,_,fj⟩⟩;have A:c≠it:=λz=>l (by simp[z]);exact j.extBut _ _ A<|Q c o A q
  apply⟨.ref ↑s,_,I2,fj,⟨_,a,b,al,fj,en,fj⟩,⟨_,_,by rw[<-f.sz];exact U⟩,λc l=>?_⟩;have e:c=it:=by simpa using l
  subst e;rw[ah<|dA x];exact M
 done:=by
  intro X D G J hc i J4 s σ H E I hf ⟨ok,p,st⟩ L;subst D G J;let⟨C,hi⟩:=L;let⟨g,ou⟩:=(show bA X.prog X.w X.K H s.heap d (.oI o u)from I.kl d _ C);let⟨M,f1,f2,f3,f4,f5⟩:=hf it ∅;rw[<-f.sz]at st;exact MO (I.ok.hd hc) st ⟨o,g,f.ex,f.dat⟩ (by rw[f.sz];exact hi) λB eb=>⟨fj,I.turned (t':=s.toks) (λb o l e=>eb b o l e) M f1 f3 f4 f5⟩
 self:=λ_ _ _ _ _ ⟨_,_,st⟩ h=>PySem.W.kcp_self st h
def Ek(K:Za)(kvs:List<|TK×V):Nat->Hp->V->V->Prop:=λi H a b=>∃k,kvs[i]?=eH (k,b)/\mO K H k a
def OB(kvs:List<|fK×V):Nat->Hp->V->V->Prop:=λi _ a b=>∃k,kvs[i]?=eH (k,b)/\a=kV k
theorem hU{K:Za}(s:om P w K H h)(e:H d=eH (.oI o<|.dT f)):
  (d==fS)=false/\∃es t,CZ P w K d o (.dT f) f.length (Ek K f) es t:=by
 let⟨g,z,n,D,u,Y,es,t,p,ex,y,v,nd⟩:=(show bA P w K H h d (.oI o<|.dT f)from s d _ e);rw[g]at p;cases p;have E:es.size=D.length:=by rw[<-nQ,v,ag]
 apply⟨n,es,t,ex,y,by rw[E,Paired.length u],fun{G I i} hi q J=>?_⟩;let⟨L,z',x,QT,j,M,N,O,k,Q,r,l,T⟩:=(show bA P w K G I d (.oI o<|.dT f)from q d _ J);rw[L]at k;cases k;rw[y]at r;cases r;have U:es.size=QT.length:=by rw[<-nQ,l,ag]
 have m:i<QT.length:=by nofun
 have A:i<f.length:=by rw[Paired.length j];exact m
 have B:=Ag j (i:=i) (a:=f[i]) (b:=QT[i]) (by simp[A]) (by simp[m]);have C:es[i]=GV (bO P w) QT[i]:=by
  have:es.toList[i]?=eH es[i]:=by simp[hi]
  rw[l,bV,bj m]at this;injection this with this;exact this.symm
 apply⟨.ref QT[i].2.1,f[i].2,⟨f[i].1,by simp[A],B.2.1⟩,?_,?_⟩
 .rw[C];exact rfl
 .rw[C];exact B.2.2.2
theorem pR{K:Za}(kl:om P w K H h)(e:H d=eH (.oI o<|.dK f)):
  (d==fS)=false/\∃es s,CZ P w K d o (.dK f) f.length (OB f) es s:=by
 let⟨es,s,p⟩:=Ll<|kl d _ e;let⟨q,Y,t,o',u,r,ex,j,C,D,nd⟩:=Eg kl e p;have g:=(show bA P w K H h d (.oI o<|.dK f)from kl d _ e).1;rw[g]at r;cases r;rw[p]at j;cases j;have E:es.size=f.length:=by rw[t.length,<-D.length];simp
 apply⟨q,es,s,ex,p,E,fun{G I i} hi l z=>?_⟩;let⟨v,k,m,J,u,n,L,j,A,x,M⟩:=Eg l z p;have N:=(show bA P w K G I d (.oI o<|.dK f)from l d _ z).1;rw[N]at n;cases n;rw[p]at j;cases j;have y:i<f.length:=by nofun
 have B:i<k.length:=by rw[<-m.length];exact y
 let⟨O,Q⟩:=x.get? (e:=es[i]) (by simp[hi]) (show k[i]?=eH (k[i].1,k[i].2) by simp[B]);let⟨T,U⟩:=Ag m (i:=i) (a:=f[i]) (b:=k[i]) (by simp[y]) (by simp[B]);apply⟨kV f[i].1,f[i].2,⟨f[i].1,by simp[y],fj⟩,Ov (by rw[T];exact O),?_⟩;rw[Q];exact U
def Hx(K:Za)(tl:TE):TI:=fun σ H R=>tl σ H λx H1=>∃d kvs,x=.ref d /\
 ((H1 d=eH (.dT kvs)/\∀o,R (ND d o (.dT kvs) kvs.length<|Ek K kvs)<|upd H1 d<|.oI o<|.dT kvs)∨∃o,H1 d=eH (.oI o<|.dT kvs)/\R (ND d o (.dT kvs) kvs.length<|Ek K kvs) H1)
def Hy(tl:TE):TI:=fun σ H R=>tl σ H λx H1=>∃d kvs,x=.ref d /\
 ((H1 d=eH (.dK kvs)/\∀o,R (ND d o (.dK kvs) kvs.length<|OB kvs)<|upd H1 d<|.oI o<|.dK kvs)∨∃o,H1 d=eH (.oI o<|.dK kvs)/\R (ND d o (.dK kvs) kvs.length<|OB kvs) H1)
section
variable{X:Cx}{J4:Zd}{σ:St}{l:Wr}{tl:TE}{J6 J5 J8:Pos}{xs:List Wr}{kx:Nat}
theorem nv(f:CZ X.prog X.w X.K d o u n i r t)(j:(d==fS)=false)(m:Inv X J4 σ h s1)(e:h d=eH (.oI o u))(q:R (ND d o u n i) h):
  MethodOn X.prog X.w X.A "items" J5 (.ref d) [] (λv x=>wpAny (model X.prog X.w) X.A (pyIter v) (Pe X J4 σ (.Tuple xs kx J8) R) X.xe x) X.xe s1:=by
 let⟨g,_⟩:=(show bA X.prog X.w X.K h s1.heap d (.oI o u)from m.kl d _ e);have k:jK s1.heap d r t:=⟨o,g,f.ex,f.dat⟩;apply⟨"dict","dict.items",AY,F.slot_dict_items,F.type_dict_items,k.ty,λa z=>?_,qQ rfl<|w8<|IJ k j ?_⟩
 .cases z;exact⟨o,g,f.ex.2.1⟩
 refine KJ (s:={s1 with heap:=s1.heap.push { cls:=.type "dict_items",data:=.fields #[.ref d]}}) ⟨_,cv _ rfl,fj,fj⟩ ⟨o,aT _ g,f.ex,f.dat⟩ λy p B=>?_;have C:Inv X J4 σ h {s1 with heap:=y,toks:=s1.toks}:=m.kept (t':=s1.toks) λb o e=>B b o<|aT _ e;apply⟨_,[_],_,_,h,fj,C,EW f,⟨_,_,by rw[<-f.sz];exact p⟩,λb D=>?_,q⟩;have e:b=(s1.heap.push { cls:=.type "dict_items",data:=.fields #[.ref d]}).objs.size:=by simpa using D
 subst e;have z:↑s1<=(s1.heap.push { cls:=.type "dict_items",data:=.fields #[.ref d]}).objs.size:=by rw[kQ];exact qZ _
 exact m.Ri z<|m.kl.fresh z
theorem IN(G:PE X l tl)(g:oo l "items" X.env (eval l X.env)=eval l X.env:=by rfl)(i:(J6.endLine==J5.line)=true:=by rfl):PI X (.Tuple xs kx J8) (.Call (.Attribute l "items" J6) [] [] J5) (Hx X.K tl):=by
 intro J4 s σ H R I h;refine qR g i<|c7 (G J4 s σ H _ I h) λv s1 n=>?_;let⟨x,t,m,J,d,j,ex,q⟩:=n;subst ex;cases J;obtain⟨e,q⟩|⟨o,e,q⟩:=q
 .obtain⟨z,k,QT,u,o,L,M,y,r⟩:=id<|show bA X.prog X.w X.K t s1.heap d (.dT j)from m.kl d _ e;have E:Inv X J4 σ (upd t d<|.oI o<|.dT j) {s1 with heap:=s1.heap,toks:=s1.toks} :=
   m.write (x:=d) (e:=d) (t':=s1.toks) (by rw[e];trivial) (.inl rfl) (λ_ _ _ q=>q) ⟨o,y⟩ ⟨y,z,k,QT,Paired.i3 u (λp q r=>⟨r.1,mO.keeps (λb N A=>by rw[ah (λz=>by rw[z,e]at A;cases A)];exact A) 8 r.2.2.1 r.2.1,r.2.2⟩),o,L,M,y,r⟩
  let⟨f,B,C,D⟩:=hU E.kl<|aa (H:=t) (a:=d);exact nv D f E aa<|q o
 .obtain⟨f,B,C,D⟩:=hU m.kl e;exact nv D f m e q
theorem IP(E:PE X l tl)(g:oo l "items" X.env (eval l X.env)=eval l X.env:=by rfl)(i:(J6.endLine==J5.line)=true:=by rfl):PI X (.Tuple xs kx J8) (.Call (.Attribute l "items" J6) [] [] J5) (Hy tl):=by
 intro J4 s σ H R I h;refine qR g i<|c7 (E J4 s σ H _ I h) λv s1 n=>?_;let⟨x,p,m,G,d,j,ex,q⟩:=n;subst ex;cases G;obtain⟨e,q⟩|⟨o,e,q⟩:=q
 .obtain⟨z,k,J,t,B⟩:=(show bA X.prog X.w X.K p s1.heap d (.dK j)from m.kl d _ e);let⟨L,o,M,C,r⟩:=id B.dictAt;have D:Inv X J4 σ (upd p d<|.oI o<|.dK j) {s1 with heap:=s1.heap,toks:=s1.toks} :=
   m.write (x:=d) (e:=d) (t':=s1.toks) (by rw[e];trivial) (.inl rfl) (λ_ _ _ q=>q) ⟨o,C⟩ ⟨C,z,k,J,t,B⟩
  let⟨f,u,y,A⟩:=pR D.kl<|aa (H:=p) (a:=d);exact nv A f D aa<|q o
 .obtain⟨f,u,y,A⟩:=pR m.kl e;exact nv A f m e q
end
section
variable{prog:bR}{w:Wn}{A:Wo}{E:Zc}{s:Wl}{d v it:Wk}{es:Array fH}{ep i:Nat}
theorem rA(h:jK s.heap d es ep)(a:(d==fS)=false)(q:Q (.ref ↑s) {s with heap:=s.heap.push { cls:=.type "dict_values",data:=.fields #[.ref d]}}):
  wpAny (model prog w) A (call (.builtin "dict.values") [.ref d]) Q E s:=by
 refine mo AX h.ty F.entry_dict_values ?_<|F.args_dict_values_1 _;refine ai ?_;unfold bx.Dict.noArgs;refine ai <| uk h.ty <| ?_;refine ax<|show wpAny _ _ (ui d >>= _) _ _ s from ?_;unfold ui;rw[if_neg (λz=>by rw[a]at z;cases z)];exact ai <| ax <| ai <| gL <| ax ⟨_,fj,q⟩
theorem Ab(f:s.heap.IsValuesView v d)(h:jK s.heap d es ep)(q:∀g,g.IsValIter ↑s d 0 es.size ep->(∀b o,s.heap.get? b=eH o->g.get? b=eH o)->Q (.ref ↑s) {s with heap:=g}):wpAny (model prog w) A (pyIter<|.ref v) Q E s:=by
 let⟨n,j,m,k⟩:=id f;let⟨o,l,hx,a⟩:=h.ex;refine A7 f.typeIs AW <| mo AW f.typeIs F.entry_dict_values_iter ?_ (F.args_dict_values_iter_1 _);unfold bx.«dict_values.__iter__» bx.Dict_items.dictOf bx.Dict_items.newIterator;refine ai <| ax <| ai <| ai <| dC j k (x:=.ref d) rfl <| ax <| ai <| ai <| kf l a <| ai <| lK l a ?_;simp only[show mW "dict_valueiterator"=false by decide,kg,if_false];refine gL<|ax ⟨_,fj,"dict_valueiterator",_,⟨_,cv _ rfl,fj⟩,ue.lookup,?_⟩;exact q _ ⟨_,cv _ rfl,fj,by simp[rawInt]⟩ λb o e=>aT _ e
theorem uP(j:s.heap.IsValIter it d i es.size ep)(h:jK s.heap d es ep)(hi:i<es.size)(q:∀k,k.IsValIter it d (i+1) es.size ep->fB it s.heap k->Q (eH es[i].val) {s with heap:=k}):wpAny (model prog w) A (pyNext<|.ref it) Q E s:=by
 let⟨r,f,l,a⟩:=id j;let⟨o,m,hx,e⟩:=h.ex;have g:=j.typeIs;unfold pyNext;refine ai <| lL <| jG (name:=iI "__next__") g ue <| mo ue g F.entry_dict_valueiterator_next ?_ (F.args_dict_valueiterator_next_1 _);refine ai <| ax <| ai <| ai ?_
 first|refine ai <| AV g <| ax ?_|refine ai <| AU g <| ax ?_
 refine ai <| uh f a ?_;simp only[show mW "dict_valueiterator"=false by decide,kg,if_false];show wpAny _ _ (if(Value.ref d==Value.none)=true then _ else _) _ _ _
 rw[if_neg<|show ¬((Value.ref d==Value.none)=true)from h9];refine ai <| ax <| ai <| kf m e ?_;rw[if_neg ∅];refine ai <| ax <| ai <| lK m e ?_;rw[if_neg ∅];refine ax ?_;simp only[show ¬((i:Int)<0)from by nofun,if_false,gM,kb hi];refine ai ?_
 first|refine ai <| AV g <| ax ?_|refine ai <| AU g <| ax ?_
 refine ai <| wpAny_isOneOf_valiter g ?_;show wpAny _ _ (ug (.ref it) 1 (rawInt<|(i:Int)+1) >>= _) _ _ s;refine ai <| qK f a ∅ ?_;have n:(s.heap.update it<|AT (·.setIfInBounds 1 (rawInt<|(i:Int)+1))).IsValIter it d (i+1) es.size ep:=⟨_,lV _ f<|Obj.isFreed_of_fields<|uo a _,(Obj.cls_mapFields ..).trans l,by rw[uo a];simp[rawInt]⟩;have p:=Heap.IsValIter.typeIs (s:={s with heap:=s.heap.update it (AT (·.setIfInBounds 1 (rawInt<|(i:Int)+1)))}) n;refine ai <| g7 <| ai <| wpAny_isOneOf_valiter p <| ai <| wpAny_isOneOf_valiter p ?_;show wpAny _ _ (pure es[i].val) _ _ _;exact ax <| ax ⟨_,fj,ax <| q _ n (lM ..)⟩
theorem xG(p:A.handled=none)(g:s.heap.IsValIter it d i es.size ep)(h:jK s.heap d es ep)(hi:es.size<=i)(q:∀l,Bm it s.heap l->Q none {s with heap:=l}):wpAny (model prog w) A (pyNext<|.ref it) Q E s:=by
 let⟨t,j,r,k⟩:=id g;let⟨o,n,hx,e⟩:=h.ex;have f:=g.typeIs;unfold pyNext;refine ai <| lL <| jG (name:=iI "__next__") f ue <| mo ue f F.entry_dict_valueiterator_next ?_ (F.args_dict_valueiterator_next_1 _);refine ai <| ax <| ai <| ai ?_
 first|refine ai <| AV f <| ax ?_|refine ai <| AU f <| ax ?_
 refine ai <| uh j k ?_;simp only[show mW "dict_valueiterator"=false by decide,kg,if_false];show wpAny _ _ (if(Value.ref d==Value.none)=true then _ else _) _ _ _
 rw[if_neg<|show ¬((Value.ref d==Value.none)=true)from h9];refine ai <| ax <| ai <| kf n e ?_;rw[if_neg ∅];refine ai <| ax <| ai <| lK n e ?_;rw[if_neg ∅];refine ax ?_;simp only[show ¬((i:Int)<0)from by nofun,if_false,gM,qG hi];refine ai ?_
 first|refine ai <| AV f <| ax ?_|refine ai <| AU f <| ax ?_
 show wpAny _ _ (ug (.ref it) 0 .none >>= _) _ _ s;refine ai <| qK j k ∅ ?_;show wpAny _ _ (newExc (.type "StopIteration") [] >>= _) _ _ _;refine ai ?_;simp only[newExc,Bl];refine ai <| gL ?_ (by size_fits);refine ai (m:=oA _ _) <| Bk (a:=Value.none) (by first|rfl|(simp only[oA];rfl)) <| gL ?_ (by size_fits)
 simp only[Bj];refine ai <| Bi ?_;rw[show A.in1.handled=none from p];refine ai <| ax <| Bh ?_;refine ai<|wX (b:=true) (T:="StopIteration") ⟨_,cv _ rfl,fj⟩ wS<|ax<|q _<|((lM ..).extBut.push _).push _
end
def N5(d:Wk)(o:Obj)(u:HO)(n:Nat)(ent:Nat->Hp->V->V->Prop):It :=
 ⟨λi H=>H d=eH (.oI o u)/\i<n,λi H x H'=>H'=H/\∃a,ent i H a x,λi H=>H d=eH (.oI o u)/\n<=i⟩
theorem Dd{P:bR}{w:Wn}{K:Za}{Q:Wr}{d it:Wk}{o:Obj}{u:HO}{n:Nat}{l:Nat->Hp->V->V->Prop}{L:Array fH}{M:Nat}(f:CZ P w K d o u n l L M):
  u1 P w K Q (N5 d o u n l) [it] it (λi h=>h.IsValIter it d i n M) where
 mem:=by simp
 obj:=λi h st b j=>by
  have e:b=it:=by simpa using j
  subst e;let⟨o,e,c,d⟩:=st;exact⟨o,e,λv z=>by rw[d]at z;cases z⟩
 keep:=λi h q st k=>st.at λo e=>k it ∅ o e
 item:=by
  intro X t x y N i O s σ H E I hf st A;subst t x y;let⟨r,hi⟩:=A;have m:i<L.size:=by rw[f.sz];exact hi
  let⟨g,T⟩:=(show bA X.prog X.w X.K H s.heap d (.oI o u)from I.kl d _ r);let⟨a,b,U,ra,Y⟩:=f.get m I.kl r;let⟨B,C,f2,D,G,J⟩:=hf it ∅;rw[<-f.sz]at st;refine uP st ⟨o,g,f.ex,f.dat⟩ m λq p sb=>?_;have I1:Inv X O σ H {s with heap:=q}:=I.turned (t':=s.toks) (λb o j e=>(sb.2 b j).trans e) B C D G J;let⟨oi,e,c,dd⟩:=id p;exact⟨_,fj,x_ (s:={s with heap:=q}) e c dd Wt ⟨b,H,I1,Y,⟨fj,a,U⟩,by rw[<-f.sz];exact p,λb j=>(hf b j).1⟩⟩
 done:=by
  intro X t x y N i O s σ H E I hf st A;subst t x y;let⟨r,hi⟩:=A;let⟨g,T⟩:=(show bA X.prog X.w X.K H s.heap d (.oI o u)from I.kl d _ r);let⟨B,C,f2,D,G,J⟩:=hf it ∅;rw[<-f.sz]at st;exact xG (I.ok.hd N) st ⟨o,g,f.ex,f.dat⟩ (by rw[f.sz];exact hi) λq eb=>⟨fj,I.turned (t':=s.toks) (λb o j e=>eb b o j e) B C D G J⟩
 self:=λ_ _ _ _ _ st h=>wpAny_pyIter_valiter st h
def Lg(K:Za)(tl:TE):TI:=fun σ H R=>tl σ H λx H1=>∃d kvs,x=.ref d /\
 ((H1 d=eH (.dT kvs)/\∀o,R (N5 d o (.dT kvs) kvs.length<|Ek K kvs)<|upd H1 d<|.oI o<|.dT kvs)∨∃o,H1 d=eH (.oI o<|.dT kvs)/\R (N5 d o (.dT kvs) kvs.length<|Ek K kvs) H1)
section
variable{X:Cx}{J4:Zd}{σ:St}{l tg:Wr}{tl:TE}{J6 J5:Pos}
theorem zU(f:CZ X.prog X.w X.K d o u n i r t)(j:(d==fS)=false)(m:Inv X J4 σ h s1)(e:h d=eH (.oI o u))(q:R (N5 d o u n i) h):
  MethodOn X.prog X.w X.A "values" J5 (.ref d) [] (λv x=>wpAny (model X.prog X.w) X.A (pyIter v) (Pe X J4 σ tg R) X.xe x) X.xe s1:=by
 let⟨g,_⟩:=(show bA X.prog X.w X.K h s1.heap d (.oI o u)from m.kl d _ e);have k:jK s1.heap d r t:=⟨o,g,f.ex,f.dat⟩;apply⟨"dict","dict.values",AY,AX,F.type_dict_values,k.ty,λa z=>?_,qQ rfl<|w8<|rA k j ?_⟩
 .cases z;exact⟨o,g,f.ex.2.1⟩
 refine Ab (s:={s1 with heap:=s1.heap.push { cls:=.type "dict_values",data:=.fields #[.ref d]}}) ⟨_,cv _ rfl,fj,fj⟩ ⟨o,aT _ g,f.ex,f.dat⟩ λy p B=>?_;have C:Inv X J4 σ h {s1 with heap:=y,toks:=s1.toks}:=m.kept (t':=s1.toks) λb o e=>B b o<|aT _ e;apply⟨_,[_],_,_,h,fj,C,Dd f,by rw[<-f.sz];exact p,λb D=>?_,q⟩;have e:b=(s1.heap.push { cls:=.type "dict_values",data:=.fields #[.ref d]}).objs.size:=by simpa using D
 subst e;have z:↑s1<=(s1.heap.push { cls:=.type "dict_values",data:=.fields #[.ref d]}).objs.size:=by rw[kQ];exact qZ _
 exact m.Ri z<|m.kl.fresh z
theorem KY(G:PE X l tl)(g:oo l "values" X.env (eval l X.env)=eval l X.env:=by rfl)(i:(J6.endLine==J5.line)=true:=by rfl):PI X tg (.Call (.Attribute l "values" J6) [] [] J5) (Lg X.K tl):=by
 intro J4 s σ H R I h;refine qR g i<|c7 (G J4 s σ H _ I h) λv s1 n=>?_;let⟨x,t,m,J,d,j,ex,q⟩:=n;subst ex;cases J;obtain⟨e,q⟩|⟨o,e,q⟩:=q
 .obtain⟨z,k,QT,u,o,L,M,y,r⟩:=id<|show bA X.prog X.w X.K t s1.heap d (.dT j)from m.kl d _ e;have E:Inv X J4 σ (upd t d<|.oI o<|.dT j) {s1 with heap:=s1.heap,toks:=s1.toks} :=
   m.write (x:=d) (e:=d) (t':=s1.toks) (by rw[e];trivial) (.inl rfl) (λ_ _ _ q=>q) ⟨o,y⟩ ⟨y,z,k,QT,Paired.i3 u (λp q r=>⟨r.1,mO.keeps (λb N A=>by rw[ah (λz=>by rw[z,e]at A;cases A)];exact A) 8 r.2.2.1 r.2.1,r.2.2⟩),o,L,M,y,r⟩
  let⟨f,B,C,D⟩:=hU E.kl<|aa (H:=t) (a:=d);exact zU D f E aa<|q o
 .obtain⟨f,B,C,D⟩:=hU m.kl e;exact zU D f m e q
end
theorem OW{f:bR}{w:Wn}{A:Wo}{d it:Wk}{es:Array fH}{ep:Nat}(j:d≠it)(p:A.handled=none):
  Walks f w A it [it,d] [it] es.size (λi v=>∃hi:i<es.size,v=es[i].val) (λi h=>h.IsValIter it d i es.size ep/\jK h d es ep) where
 sub:=λb a=>by simp at a;simp[a]
 frame:=λi h g st k=>⟨st.1.at λo e=>k it ∅ o e,let⟨o,l,r⟩:=st.2.ex;⟨o,k d ∅ o l,r⟩⟩
 item:=λi s Q E hi st q=>uP st.1 st.2 hi λg m n=>q _ g s.toks ⟨hi,fj⟩ ⟨m,let⟨o,l,r⟩:=st.2.ex;⟨o,(n.2 d j).trans l,r⟩⟩ λb o a e=>(n.2 b (λz=>a (by simp[z]))).trans e
 done:=λs Q E st q=>xG p st.1 st.2 (aF _) λg t=>q g s.toks λb o a e=>t b o (λz=>a (by simp[z])) e
 self:=λi s Q E st q=>wpAny_pyIter_valiter st.1 q
def NG(tl:TE):TE:=fun σ H Q=>tl σ H λx H1=>∃d kvs val,x=.ref d/\(∀(i:Nat) (k:TK) (v:V),kvs[i]?=eH (k,v)->v=.int (val i)) /\
 ((H1 d=eH (.dT kvs)/\∀o,Q (.int<|preSum val kvs.length)<|upd H1 d<|.oI o<|.dT kvs)∨∃o,H1 d=eH (.oI o<|.dT kvs)/\Q (.int<|preSum val kvs.length) H1)
def NH(tl:TE):TE:=fun σ H Q=>tl σ H λx H1=>∃d kvs val,x=.ref d/\(∀(i:Nat) (k:fK) (v:V),kvs[i]?=eH (k,v)->v=.int (val i)) /\
 ((H1 d=eH (.dK kvs)/\∀o,Q (.int<|preSum val kvs.length)<|upd H1 d<|.oI o<|.dK kvs)∨∃o,H1 d=eH (.oI o<|.dK kvs)/\Q (.int<|preSum val kvs.length) H1)
section
variable{X:Cx}{J4:Zd}{σ:St}{l:Wr}{tl:TE}{p pos J6 J5:Pos}
theorem sM(M:X.calm=true)(f:CZ X.prog X.w X.K d o u n k es ep)(m:(d==fS)=false)(j:Inv X J4 σ h s1)(e:h d=eH (.oI o u))(N:∀i a v,k i h a v->v=.int (val i))(q:Q (.int<|preSum val n) h):
  MethodOn X.prog X.w X.A "values" J5 (.ref d) [] (λv O=>wpAny (model X.prog X.w) X.A (wF<|backTo pos []) (λT U=>wpAny (model X.prog X.w) X.A (call (.builtin "sum")<|v::T) (EP X J4 σ Q) X.xe U) X.xe O) X.xe s1:=by
 let⟨g,_⟩:=(show bA X.prog X.w X.K h s1.heap d (.oI o u)from j.kl d _ e);have r:jK s1.heap d es ep:=⟨o,g,f.ex,f.dat⟩;apply⟨"dict","dict.values",AY,AX,F.type_dict_values,r.ty,λa z=>?_,qQ rfl<|w8<|rA r m ?_⟩
 .cases z;exact⟨o,g,f.ex.2.1⟩
 refine C4<|call_sum_walkAnyS ?_;refine Ab (s:={s1 with heap:=s1.heap.push { cls:=.type "dict_values",data:=.fields #[.ref d]}}) ⟨_,cv _ rfl,fj,fj⟩ ⟨o,aT _ g,f.ex,f.dat⟩ λh' x Y=>?_;have G:∀b o,s1.heap.get? b=eH o->h'.get? b=eH o:=λb o e=>Y b o<|aT _ e;have I3:Inv X J4 σ h {s1 with heap:=h',toks:=s1.toks}:=j.kept (t':=s1.toks) G;have z:↑s1<=(s1.heap.push { cls:=.type "dict_values",data:=.fields #[.ref d]}).objs.size:=by rw[kQ];exact qZ _
 have y:jK h' d es ep:=⟨o,G _ _ g,f.ex,f.dat⟩;have H:d≠(s1.heap.push { cls:=.type "dict_values",data:=.fields #[.ref d]}).objs.size:=cr<|eK (aJ g) z;have B:∀i v,(∃hi:i<es.size,v=es[i].val)->∃t,v=.int (val i) t:=by
  rintro i v ⟨hi,rfl⟩;let⟨a,b,en,ra,L⟩:=f.get hi j.kl e;rw[N i a b en]at L;exact L
 have lt:∀{b o},h'.get? b=eH o->b<h'.objs.size:=λe=>aJ e;apply⟨_,_,_,_,_,_,_,val,fj,(OW (A:=X.A.in1) (es:=es) (ep:=ep) H<|show X.A.in1.handled=none from j.ok.hd M).toS,(⟨x,y⟩:_/\_),λb hb=>?_,B,λs' t' E=>?_⟩
 .obtain⟨oi,ei,_⟩:=id x;obtain hb|hb:=cq.1 hb
  .rw[hb];exact lt ei
  .rw[bq.1 hb];exact lt<|G _ _ g
 .obtain⟨f0,f1,f2,f3,f4,f5⟩:=j.Ri z<|j.kl.fresh z;let⟨C,g',I,D,J⟩:=s';have e1:g'=s1.gens:=E.gens;have e2:I=s1.drawn:=E.drawn;have e3:J=s1.os:=E.os;subst e1 e2 e3;have I4:Inv X J4 σ h {s1 with heap:=C,toks:=D}:=I3.turned (h':=C) (t':=D) (λb o hb e=>E.heap b o (λz=>hb ‹z›) e) f0 f1 f3 f4 f5;exact⟨.int<|preSum val n,h,I4,⟨_,by rw[<-f.sz]⟩,q⟩
theorem MU(T:PE X l tl)(L:X.calm=true)(U:Gl X "sum")(Y:X.mg "sum"=none)(M:aR [.Call (.Attribute l "values" J6) [] [] J5] X.env=[(false,eval (.Call (.Attribute l "values" J6) [] [] J5) X.env)]:=by rfl)
  (g:oo l "values" X.env (eval l X.env)=eval l X.env:=by rfl) (j:(J6.endLine==J5.line)=true:=by rfl):PE X (.Call (.Name "sum" p) [.Call (.Attribute l "values" J6) [] [] J5] [] pos) (NG tl):=by
 intro J4 s σ H Q I h;refine zO (kG I U Y boot_sum ?_ Wt Wt);refine PyProof.Rows.callWith_builtin1 ?_ M rfl;rw[M];show wpAny _ _ (wF<|(false,eval (.Call (.Attribute l "values" J6) [] [] J5) X.env)::backTo pos []) _ _ s;refine wB<|qR g j<|c7 (T J4 s σ H _ I h) λv s1 u=>?_;let⟨x,y,t,r1,d,m,val,ex,N,q⟩:=u;subst ex;cases r1;obtain⟨e,q⟩|⟨o,e,q⟩:=q
 .obtain⟨z,n,QT,A,o,es,ep,B,r⟩:=id<|show bA X.prog X.w X.K y s1.heap d (.dT m)from t.kl d _ e;have O:Inv X J4 σ (upd y d<|.oI o<|.dT m) {s1 with heap:=s1.heap,toks:=s1.toks} :=
   t.write (x:=d) (e:=d) (t':=s1.toks) (by rw[e];trivial) (.inl rfl) (λ_ _ _ q=>q) ⟨o,B⟩ ⟨B,z,n,QT,Paired.i3 A (λp q r=>⟨r.1,mO.keeps (λb ys C=>by rw[ah (λz=>by rw[z,e]at C;cases C)];exact C) 8 r.2.2.1 r.2.1,r.2.2⟩),o,es,ep,B,r⟩
  let⟨f,D,E,G⟩:=hU O.kl<|aa (H:=y) (a:=d);exact sM L G f O aa (λi a v ⟨k,J,_⟩=>N i k v J)<|q o
 .obtain⟨f,D,E,G⟩:=hU t.kl e;exact sM L G f t e (λi a v ⟨k,J,_⟩=>N i k v J) q
theorem MV(T:PE X l tl)(G:X.calm=true)(U:Gl X "sum")(Y:X.mg "sum"=none)(J:aR [.Call (.Attribute l "values" J6) [] [] J5] X.env=[(false,eval (.Call (.Attribute l "values" J6) [] [] J5) X.env)]:=by rfl)
  (g:oo l "values" X.env (eval l X.env)=eval l X.env:=by rfl) (j:(J6.endLine==J5.line)=true:=by rfl):PE X (.Call (.Name "sum" p) [.Call (.Attribute l "values" J6) [] [] J5] [] pos) (NH tl):=by
 intro J4 s σ H Q I h;refine zO (kG I U Y boot_sum ?_ Wt Wt);refine PyProof.Rows.callWith_builtin1 ?_ J rfl;rw[J];show wpAny _ _ (wF<|(false,eval (.Call (.Attribute l "values" J6) [] [] J5) X.env)::backTo pos []) _ _ s;refine wB<|qR g j<|c7 (T J4 s σ H _ I h) λv s1 u=>?_;let⟨x,y,t,r1,d,m,val,ex,L,q⟩:=u;subst ex;cases r1;obtain⟨e,q⟩|⟨o,e,q⟩:=q
 .obtain⟨z,n,vs,A,M⟩:=(show bA X.prog X.w X.K y s1.heap d (.dK m)from t.kl d _ e);let⟨ep,o,es,N,r⟩:=id M.dictAt;have O:Inv X J4 σ (upd y d<|.oI o<|.dK m) {s1 with heap:=s1.heap,toks:=s1.toks} :=
   t.write (x:=d) (e:=d) (t':=s1.toks) (by rw[e];trivial) (.inl rfl) (λ_ _ _ q=>q) ⟨o,N⟩ ⟨N,z,n,vs,A,M⟩
  let⟨f,B,C,D⟩:=pR O.kl<|aa (H:=y) (a:=d);exact sM G D f O aa (λi a v ⟨k,E,_⟩=>L i k v E)<|q o
 .obtain⟨f,B,C,D⟩:=pR t.kl e;exact sM G D f t e (λi a v ⟨k,E,_⟩=>L i k v E) q
end
def BJ(K:Za)(tk tv:TE):TE:=fun σ H Q=>∀p,H p=none->tk σ (upd H p<|.dT []) λx H1=>tv σ H1 λy H2=>H2 p=eH (.dT [])/\∃b k,x=.ref b/\mO K H2 k (.ref b)/\k.depth<=8/\Q (.ref p) (upd H2 p<|.dT [(k,y)])
theorem Af(hu:X.A.units+16<cLine)(C:PE X k tk)(D:PE X v l):PE X (.Dict [eH k] [v] f) (BJ X.K tk l):=by
 intro m s σ H Q I q;have E:=I.kl.fresh<|aF ↑s;have h:=I.laid (a:=↑s) (o:=.dT []) (h':=s.heap.push { cls:=.type "dict",data:=.dict #[]}) (t':=s.toks) (λ_ _ q=>aT _ q) (aF _)<|Eo s.heap I.big;rw[arm_eval_Dict,zip_pairTrees [eH k] [v] X.env f rfl rfl,dictDisplay_pairs (Br [eH k] [v] X.env f) (by unfold Br;simp) (by show 1<17;decide)];refine ai<|C8<|ai ?_;unfold subDict;refine ai<|wpAny_alloc ?_;refine ai<|g7 ?_;rw[if_pos (show(Br [eH k] [v] X.env f).length<=15 from by show 1<=15;decide)];refine ai<|pairTrees_cons_walk<|c7 (C m _ σ _ _ h<|q _ E) λu G ⟨x,J,h,L,M⟩=>c7 (D m G σ J _ h M) λr s2 ⟨y,H2,g,N,e,b,O,ex,n,p,T⟩=>pairTrees_nil_walk ?_;subst ex;cases L;refine g7 ?_;let⟨z,U,xs,i,Y⟩:=HD g.kl g.O' e;cases i;rw[oB];refine ai (ai (ai (wpAny_dictSet_heap (hsz:=cH _) (show(bO X.prog X.w).room X.A from by show X.A.units+8<cLine;nofun) (uU g.kl g.O' n p) Y λh' j hs=>ax ?_)));show wpAny _ _ (forIn [] PUnit.unit _) _ _ _;rw[wU];refine ax<|ax<|ax<|ax ⟨.ref ↑s,_,?_,fj,T⟩;let⟨q,es,ep,t,h2,h3,h4,_,h5⟩:=j;refine pS g (by rw[e];exact jO) hs ⟨q,t⟩ ⟨by show 1<=ak;decide,U,_,((KT.put (kvs:=[]) .nil O n p N)).keeps λc ys B=>?_,q,es,ep,t,h2,h3,h4,h5⟩;rw[ah<|Hm B e<|λz=>nomatch z];exact B
end L2
end

section
set_option Elab.async false
set_option linter.all false
set_option maxRecDepth 100000
namespace L2
open PySem Spec PyProof.Rows
section
variable{prog:bR}{w:Wn}{A:Wo}{E:Zc}{s:Wl}{d v it:Wk}{es:Array fH}{ep i:Nat}
theorem II(j:(d==fS)=false)(h:jK s.heap d es ep)(q:∀f,f.IsKeyIter ↑s d 0 es.size ep->(∀b o,s.heap.get? b=eH o->f.get? b=eH o)->Q (.ref ↑s) {s with heap:=f}):wpAny (model prog w) A (pyIter<|.ref d) Q E s:=by
 let⟨o,g,hx,a⟩:=h.ex;refine A7 h.ty F.slot_dict_iter <| mo F.slot_dict_iter h.ty F.entry_dict_iter ?_ (F.args_dict_iter_1 _);unfold bx.«dict.__iter__»;refine ai ?_;unfold bx.Dict.dictSlotNone;refine ai <| uk h.ty <| ?_;refine ax<|show wpAny _ _ (ui d >>= _) _ _ s from ?_;unfold ui;rw[if_neg (λz=>by rw[j]at z;cases z)];refine ai <| ax <| ai <| kf g a <| ai <| lK g a ?_;refine ai<|gL<|ax ⟨_,fj,"dict_keyiterator",_,⟨_,cv _ rfl,fj⟩,wM.lookup,?_⟩;exact q _ ⟨_,cv _ rfl,fj,by simp[rawInt]⟩ λb o e=>aT _ e
theorem IH(j:s.heap.IsKeyIter it d i es.size ep)(h:jK s.heap d es ep)(hi:i<es.size)(q:∀k,k.IsKeyIter it d (i+1) es.size ep->fB it s.heap k->Q (eH es[i].key) {s with heap:=k}):wpAny (model prog w) A (pyNext<|.ref it) Q E s:=by
 let⟨r,f,l,a⟩:=id j;let⟨o,m,hx,e⟩:=h.ex;have g:=j.typeIs;unfold pyNext;refine ai <| lL <| jG (name:=iI "__next__") g wM <| mo wM g F.entry_dict_keyiterator_next ?_ (F.args_dict_keyiterator_next_1 _);refine ai <| ax <| ai <| ai ?_
 first|refine ai <| AS g <| ax ?_|refine ai <| AR g <| ax ?_
 refine ai <| uh f a ?_;simp only[show mW "dict_keyiterator"=false by decide,kg,if_false];show wpAny _ _ (if(Value.ref d==Value.none)=true then _ else _) _ _ _
 rw[if_neg<|show ¬((Value.ref d==Value.none)=true)from h9];refine ai <| ax <| ai <| kf m e ?_;rw[if_neg ∅];refine ai <| ax <| ai <| lK m e ?_;rw[if_neg ∅];refine ax ?_;simp only[show ¬((i:Int)<0)from by nofun,if_false,gM,kb hi];refine ai ?_
 first|refine ai <| AS g <| ax ?_|refine ai <| AR g <| ax ?_
 refine ai <| wpAny_isOneOf_keyiter g ?_;show wpAny _ _ (ug (.ref it) 1 (rawInt<|(i:Int)+1) >>= _) _ _ s;refine ai <| qK f a ∅ ?_;have n:(s.heap.update it<|AT (·.setIfInBounds 1 (rawInt<|(i:Int)+1))).IsKeyIter it d (i+1) es.size ep:=⟨_,lV _ f<|Obj.isFreed_of_fields<|uo a _,(Obj.cls_mapFields ..).trans l,by rw[uo a];simp[rawInt]⟩;have p:=Heap.IsKeyIter.typeIs (s:={s with heap:=s.heap.update it (AT (·.setIfInBounds 1 (rawInt<|(i:Int)+1)))}) n;refine ai <| g7 <| ai <| wpAny_isOneOf_keyiter p ?_;show wpAny _ _ (pure es[i].key) _ _ _;exact ax <| ax ⟨_,fj,ax <| q _ n (lM ..)⟩
theorem KI(p:A.handled=none)(g:s.heap.IsKeyIter it d i es.size ep)(h:jK s.heap d es ep)(hi:es.size<=i)(q:∀l,Bm it s.heap l->Q none {s with heap:=l}):wpAny (model prog w) A (pyNext<|.ref it) Q E s:=by
 let⟨t,j,r,k⟩:=id g;let⟨o,n,hx,e⟩:=h.ex;have f:=g.typeIs;unfold pyNext;refine ai <| lL <| jG (name:=iI "__next__") f wM <| mo wM f F.entry_dict_keyiterator_next ?_ (F.args_dict_keyiterator_next_1 _);refine ai <| ax <| ai <| ai ?_
 first|refine ai <| AS f <| ax ?_|refine ai <| AR f <| ax ?_
 refine ai <| uh j k ?_;simp only[show mW "dict_keyiterator"=false by decide,kg,if_false];show wpAny _ _ (if(Value.ref d==Value.none)=true then _ else _) _ _ _
 rw[if_neg<|show ¬((Value.ref d==Value.none)=true)from h9];refine ai <| ax <| ai <| kf n e ?_;rw[if_neg ∅];refine ai <| ax <| ai <| lK n e ?_;rw[if_neg ∅];refine ax ?_;simp only[show ¬((i:Int)<0)from by nofun,if_false,gM,qG hi];refine ai ?_
 first|refine ai <| AS f <| ax ?_|refine ai <| AR f <| ax ?_
 show wpAny _ _ (ug (.ref it) 0 .none >>= _) _ _ s;refine ai <| qK j k ∅ ?_;show wpAny _ _ (newExc (.type "StopIteration") [] >>= _) _ _ _;refine ai ?_;simp only[newExc,Bl];refine ai <| gL ?_ (by size_fits);refine ai (m:=oA _ _) <| Bk (a:=Value.none) (by first|rfl|(simp only[oA];rfl)) <| gL ?_ (by size_fits)
 simp only[Bj];refine ai <| Bi ?_;rw[show A.in1.handled=none from p];refine ai <| ax <| Bh ?_;refine ai<|wX (b:=true) (T:="StopIteration") ⟨_,cv _ rfl,fj⟩ wS<|ax<|q _<|((lM ..).extBut.push _).push _
end
def Mc(d:Wk)(o:Obj)(u:HO)(n:Nat)(ent:Nat->Hp->V->V->Prop):It :=
 ⟨λi H=>H d=eH (.oI o u)/\i<n,λi H x H'=>H'=H/\∃b,ent i H x b,λi H=>H d=eH (.oI o u)/\n<=i⟩
theorem Ie{P:bR}{w:Wn}{K:Za}{Q:Wr}{d it:Wk}{o:Obj}{u:HO}{n:Nat}{l:Nat->Hp->V->V->Prop}{L:Array fH}{M:Nat}(f:CZ P w K d o u n l L M):
  u1 P w K Q (Mc d o u n l) [it] it (λi h=>h.IsKeyIter it d i n M) where
 mem:=by simp
 obj:=λi h st b j=>by
  have e:b=it:=by simpa using j
  subst e;let⟨o,e,c,d⟩:=st;exact⟨o,e,λv z=>by rw[d]at z;cases z⟩
 keep:=λi h q st k=>st.at λo e=>k it ∅ o e
 item:=by
  intro X t x y N i O s σ H E I hf st A;subst t x y;let⟨r,hi⟩:=A;have m:i<L.size:=by rw[f.sz];exact hi
  let⟨g,T⟩:=(show bA X.prog X.w X.K H s.heap d (.oI o u)from I.kl d _ r);let⟨a,b,U,Y,rb⟩:=f.get m I.kl r;let⟨B,C,f2,D,G,J⟩:=hf it ∅;rw[<-f.sz]at st;refine IH st ⟨o,g,f.ex,f.dat⟩ m λq p sb=>?_;have I1:Inv X O σ H {s with heap:=q}:=I.turned (t':=s.toks) (λb o j e=>(sb.2 b j).trans e) B C D G J;let⟨oi,e,c,dd⟩:=id p;exact⟨_,fj,x_ (s:={s with heap:=q}) e c dd Wt ⟨a,H,I1,Y,⟨fj,b,U⟩,by rw[<-f.sz];exact p,λb j=>(hf b j).1⟩⟩
 done:=by
  intro X t x y N i O s σ H E I hf st A;subst t x y;let⟨r,hi⟩:=A;let⟨g,T⟩:=(show bA X.prog X.w X.K H s.heap d (.oI o u)from I.kl d _ r);let⟨B,C,f2,D,G,J⟩:=hf it ∅;rw[<-f.sz]at st;exact KI (I.ok.hd N) st ⟨o,g,f.ex,f.dat⟩ (by rw[f.sz];exact hi) λq eb=>⟨fj,I.turned (t':=s.toks) (λb o j e=>eb b o j e) B C D G J⟩
 self:=λ_ _ _ _ _ st h=>wpAny_pyIter_keyiter st h
def FZ(K:Za)(tl:TE):TI:=fun σ H R=>tl σ H λx H1=>∃d kvs,x=.ref d /\
 ((H1 d=eH (.dT kvs)/\∀o,R (Mc d o (.dT kvs) kvs.length<|Ek K kvs)<|upd H1 d<|.oI o<|.dT kvs)∨∃o,H1 d=eH (.oI o<|.dT kvs)/\R (Mc d o (.dT kvs) kvs.length<|Ek K kvs) H1)
section
variable{X:Cx}{J4:Zd}{σ:St}{l tg:Wr}{tl:TE}
theorem Ao(i:CZ X.prog X.w X.K d o u n f m p)(h:(d==fS)=false)(j:Inv X J4 σ a s1)(e:a d=eH (.oI o u))(q:R (Mc d o u n f) a):
  wpAny (model X.prog X.w) X.A (pyIter<|.ref d) (Pe X J4 σ tg R) X.xe s1:=by
 let⟨g,_⟩:=(show bA X.prog X.w X.K a s1.heap d (.oI o u)from j.kl d _ e);refine II h ⟨o,g,i.ex,i.dat⟩ λr k s=>?_;have t:Inv X J4 σ a {s1 with heap:=r,toks:=s1.toks}:=j.kept (t':=s1.toks) s;apply⟨_,[_],_,_,a,fj,t,Ie i,by rw[<-i.sz];exact k,λb v=>?_,q⟩;have e:b=↑s1:=by simpa using v
 subst e;exact j.Ri (aF _)<|j.kl.fresh<|aF _
theorem DG(D:PE X l tl):PI X tg l (FZ X.K tl):=by
 intro J4 s σ H R I h;refine c7 (D J4 s σ H _ I h) λv s1 k=>?_;let⟨x,m,j,E,d,g,ex,q⟩:=k;subst ex;cases E;obtain⟨e,q⟩|⟨o,e,q⟩:=q
 .obtain⟨z,i,QT,n,o,G,J,t,r⟩:=id<|show bA X.prog X.w X.K m s1.heap d (.dT g)from j.kl d _ e;have C:Inv X J4 σ (upd m d<|.oI o<|.dT g) {s1 with heap:=s1.heap,toks:=s1.toks} :=
   j.write (x:=d) (e:=d) (t':=s1.toks) (by rw[e];trivial) (.inl rfl) (λ_ _ _ q=>q) ⟨o,t⟩ ⟨t,z,i,QT,Paired.i3 n (λp q r=>⟨r.1,mO.keeps (λb L u=>by rw[ah (λz=>by rw[z,e]at u;cases u)];exact u) 8 r.2.2.1 r.2.1,r.2.2⟩),o,G,J,t,r⟩
  let⟨f,y,A,B⟩:=hU C.kl<|aa (H:=m) (a:=d);exact Ao B f C aa<|q o
 .obtain⟨f,y,A,B⟩:=hU j.kl e;exact Ao B f j e q
end
end L2
end

section
set_option Elab.async false
set_option linter.all false
set_option maxRecDepth 100000
namespace HT
open PySem Spec PyProof.Rows
end HT
namespace L2
open PySem Spec PyProof.Rows
end L2
namespace HT
open PySem Spec PyProof.Rows
end HT
namespace L2
open PySem Spec PyProof.Rows
end L2
end

section
set_option Elab.async false
set_option linter.all false
set_option maxRecDepth 100000
namespace HT
open PySem PyProof.Rows
end HT
namespace L2
open PySem Spec PyProof.Rows
def Pn(_ j:Int):Prop:=0<j/\j.natAbs.log2<9000
abbrev G_:List V->Hp->VK->Prop:=λxs H Q=>∃i j,xs=[.int i,.int j]/\Pn i j/\∀p,H p=none->Q (.ref p) (upd H p<|.tup [.int<|i / j,.int<|i % j])
section
variable{X:Cx}
theorem CB:hZ X (.builtin "divmod") G_:=by
 intro k s σ H l m Q I r h;let⟨i,j,rfl,a,q⟩:=h;let⟨u,v,rfl,f,g⟩:=vals2 r;let⟨t,rfl⟩:=f;let⟨n,rfl⟩:=g;have p:0<j:=a.1;refine divmod_int ⋯ ?_<|.inl<|PyProof.noPylong_of_log2 a.2;rw[Int.fdiv_eq_ediv_of_nonneg i ⋯,Int.fmod_eq_emod_of_nonneg i ⋯];exact⟨.ref ↑s,_,I.laid (t':=s.toks+1+1) (λb o e=>aT _ e) (aF _) (show bA X.prog X.w X.K _ _ _ (.tup [.int<|i / j,.int<|i % j])from⟨by show 2<=ak;decide,_,.cons ⟨_,fj⟩<|.cons ⟨_,fj⟩ .nil,IsTup.new _ _⟩),fj,q _<|I.kl.fresh<|aF _⟩
variable{tg l:Wr}{ta:TA}{p pos:Pos}
end
def CW(h:Wq)(z TI TO T:Wk):Prop:=∃b:Bool,h.get? z=eH { cls:=.type "zip",dict:=none,data:=.fields #[rawInt T,.bool b,.bool false,.ref TI,.ref TO],slots:=#[]}
section
variable{prog:bR}{w:Wn}{A:Wo}{E:Zc}{s:Wl}
theorem yQ(h:Q (s.heap.get? a) s):wpAny (model prog w) A (loadIfAlive a) Q E s:=fun Γ p _=>by
 unfold loadIfAlive;rw[Sem.wp_loadIfAlive];exact h
theorem Am{z TI TO T:Wk}{o:Obj}{Q:Bool->Wl->Prop}(a:CW s.heap z TI TO T)(i:s.heap.get? T=eH o)
  (h:∀e,CW e z TI TO T->fB z s.heap e->Q false {s with heap:=e}):wpAny (model prog w) A (oz<|.ref z) Q E s:=by
 let⟨b,a⟩:=a;unfold oz;refine ai<|dC a rfl (x:=rawInt T) rfl ?_;show wpAny _ _ (loadIfAlive ((T:Int).toNat) >>= _) _ _ _;refine ai<|yQ ?_;rw[gM,i];simp only[Option.isNone_some,kg,if_false];refine ai<|dC a rfl (x:=.bool b) rfl ?_;cases b with
 |true=>exact ax<|h _ ⟨true,a⟩<|fB.refl ..
 |false=>exact ai (jF a ∅ λe f g=>ax<|h e ⟨true,f⟩ g)
theorem I0{z TI TO T n p t u:Wk}{B C:Nat}{L M:Array Wm}{x y:Wm}{o:Obj}{Q:Zc}(D:iJ z TI TO n p t u)
  (N:CW s.heap z TI TO T) (hT:s.heap.get? T=eH o) (G:IsPair s.heap TI (.ref n)<|.ref p)
  (h1:s.heap.IsListIter n t B) (h2:s.heap.IsListIter p u C) (H:s.heap.IsList t L) (I:s.heap.IsList u M) (hx:L[B]?=eH x) (hy:M[C]?=eH y)
  (hQ:∀h,CW h z TI TO T->h.IsListIter n t (B+1)->h.IsListIter p u (C+1)->IsPair h ↑s x y->h.objs.size=↑s+1 ->
   (∀c o,c≠z->c≠n->c≠p->s.heap.get? c=eH o->h.get? c=eH o)->Q (.ref ↑s) {s with heap:=h}) :
  wpAny (model prog w) A (bx.«zip.__next__» ⟨[.ref z],[]⟩) (λJ s'=>∃v,J=.done (.ret v)/\Q v s') E s:=by
 let⟨b,O⟩:=id N;show wpAny _ _ (field (.ref z) 2 >>= _) _ _ _;refine ai<|dC O rfl (x:=.bool false) rfl ?_;show wpAny _ _ (field (.ref z) 3 >>= _) _ _ _;refine ai<|dC O rfl (x:=.ref TI) rfl<|ai<|kS G rfl ?_;show wpAny _ _ (oz (.ref z) >>= _) _ _ _;refine ai<|Am N hT λU i a=>?_;simp only[kg,if_false];refine ai ?_;simp only[<-Md,oB,wU];refine ai<|ai<|g7 ?_;show wpAny _ _ (jH (.ref n) >>= _) _ _ _;refine ai<|wpAny_nextOf_list_item (h1.extBut a.extBut D.i1z) (H.extBut a.extBut D.l1z) hx λY j f=>ax ?_;refine ax<|ai<|ai<|g7 ?_;show wpAny _ _ (jH (.ref p) >>= _) _ _ _;refine ai<|wpAny_nextOf_list_item ((h2.extBut a.extBut D.i2z).extBut f.extBut D.i12.symm) ((I.extBut a.extBut D.l2z).extBut f.extBut D.l2i1) hy λq k g=>ax ?_;refine ax<|ax ?_;have sz:q.objs.size=↑s:=by rw[g.1,f.1,a.1]
 refine ai (wpAny_newTuple (hsz:=by show 2<=ak;decide) ?_);let⟨r,l⟩:=i;have m:=g.extBut _ _ D.i2z.symm<|f.extBut _ _ D.i1z.symm l;refine ax ⟨_,fj,?_⟩;rw[sz];refine hQ _ ⟨r,aT _ m⟩ ((j.extBut g.extBut D.i12).at λo e=>aT _ e) (k.at λo e=>aT _ e) ?_ (by rw[kQ,sz]) λc o c1 c2 c3 e=>aT _<|g.extBut _ _ c3<|f.extBut _ _ c2<|a.extBut _ _ c1 e;rw[<-sz];exact cv _ rfl
theorem La{z TI TO T j k p q:Wk}{r t:Nat}{u v:Array Wm}{o:Obj}{Q:Fin->Wl->Prop}(M:A.handled=none)(D:iJ z TI TO j k p q)
  (N:CW s.heap z TI TO T) (hT:s.heap.get? T=eH o) (y:IsPair s.heap TI (.ref j)<|.ref k)
  (O:s.heap.IsListIter j p r) (h2:s.heap.IsListIter k q t) (l:s.heap.IsList p u) (B:s.heap.IsList q v) (m:u[r]?=none∨v[t]?=none)
  (U:∀C e,(∀c o,c≠z->c≠j->c≠k->s.heap.get? c=eH o->C.get? c=eH o)->(∃o,C.get? e=eH o/\o.cls=.type "StopIteration")->E (.ref e) {s with heap:=C}) :
  wpAny (model prog w) A (bx.«zip.__next__» ⟨[.ref z],[]⟩) Q E s:=by
 let⟨b,Y⟩:=id N;show wpAny _ _ (field (.ref z) 2 >>= _) _ _ _;refine ai<|dC Y rfl (x:=.bool false) rfl ?_;show wpAny _ _ (field (.ref z) 3 >>= _) _ _ _;refine ai<|dC Y rfl (x:=.ref TI) rfl<|ai<|kS y rfl ?_;show wpAny _ _ (oz (.ref z) >>= _) _ _ _;refine ai<|Am N hT λh₁ G a=>?_;simp only[kg,if_false];refine ai ?_;simp only[<-Md,oB,wU];refine ai<|ai<|g7 ?_;show wpAny _ _ (jH (.ref j) >>= _) _ _ _;cases hx:u[r]? with
 |none=>exact ai<|wpAny_nextOf_list_end M (O.extBut a.extBut D.i1z) (l.extBut a.extBut D.l1z) hx λg e f H=>U g e (λc o I J _ x=>f _ _ J<|a.extBut _ _ I x) H
 |some x =>
  have hy:v[t]?=none:=by obtain h|h:=m;rw[hx]at h;cases h;exact h
  refine ai<|wpAny_nextOf_list_item (O.extBut a.extBut D.i1z) (l.extBut a.extBut D.l1z) hx λg L f=>ax ?_;refine ax<|ai<|ai<|g7 ?_;show wpAny _ _ (jH (.ref k) >>= _) _ _ _;exact ai<|wpAny_nextOf_list_end M ((h2.extBut a.extBut D.i2z).extBut f.extBut D.i12.symm) ((B.extBut a.extBut D.l2z).extBut f.extBut D.l2i1) hy λn e i H=>U n e (λc o I J c3 x=>i _ _ c3<|f.extBut _ _ J<|a.extBut _ _ I x) H
theorem IY{z TI TO T f g h i:Wk}{j k:Nat}{p q:Array Wm}{x y:Wm}{o:Obj}{Q:Option Wm->Wl->Prop}(D:iJ z TI TO f g h i)
  (r:CW s.heap z TI TO T) (u:s.heap.get? T=eH o) (l:IsPair s.heap TI (.ref f)<|.ref g)
  (v:s.heap.IsListIter f h j) (B:s.heap.IsListIter g i k) (m:s.heap.IsList h p) (n:s.heap.IsList i q) (hx:p[j]?=eH x) (C:q[k]?=eH y)
  (G:∀a,CW a z TI TO T->a.IsListIter f h (j+1)->a.IsListIter g i (k+1)->IsPair a ↑s x y->a.objs.size=↑s+1 ->
   (∀c o,c≠z->c≠f->c≠g->s.heap.get? c=eH o->a.get? c=eH o)->Q (eH<|.ref ↑s) {s with heap:=a}):wpAny (model prog w) A (pyNext<|.ref z) Q E s:=by
 have t:s.TypeIs (.ref z) "zip":=let⟨_,e⟩:=r;⟨_,e,fj⟩;unfold pyNext;exact ai (lL (jG (name:=iI "__next__") t oy
  (mo oy t Bf (I0 D r u l v B m n hx C λa a1 a2 a3 H I J=>ax<|G a a1 a2 a3 H I J)<|Be _)))
theorem IW{z TI TO T f g h i:Wk}{n p:Nat}{q r:Array Wm}{o:Obj}{Q:Option Wm->Wl->Prop}(v:A.handled=none)(D:iJ z TI TO f g h i)
  (t:CW s.heap z TI TO T) (x:s.heap.get? T=eH o) (j:IsPair s.heap TI (.ref f)<|.ref g)
  (y:s.heap.IsListIter f h n) (B:s.heap.IsListIter g i p) (k:s.heap.IsList h q) (l:s.heap.IsList i r) (a:q[n]?=none∨r[p]?=none)
  (C:∀m,(∀c o,c≠z->c≠f->c≠g->s.heap.get? c=eH o->m.get? c=eH o)->Q none {s with heap:=m}):wpAny (model prog w) A (pyNext<|.ref z) Q E s:=by
 have u:s.TypeIs (.ref z) "zip":=let⟨_,e⟩:=t;⟨_,e,fj⟩;unfold pyNext;refine ai (lL (jG (name:=iI "__next__") u oy
  (mo oy u Bf (La v D t x j y B k l a λm e G H=>?_)<|Be _)))
 let⟨o,I,J⟩:=H;exact ai<|wX (T:="StopIteration") (b:=true) ⟨o,I,J⟩ wS<|ax<|C _ G
end
structure i_(B:Nat)(S:Wk)(xs ys:Array Wm)(h:Wq)(acc:Array Wm)(ts:Ze)(i:Nat):Prop where
 is:acc.toList=ts.map .ref
 len:ts.length=i
 at':∀(j:Nat) t,ts[j]?=eH t->B<=t/\∃x y,xs[j]?=eH x/\ys[j]?=eH y/\IsPair h t x y
 UI:ts.Nodup
theorem i_.keep(d:i_ B S g l h f n i)(k:∀c o,B<=c->h.get? c=eH o->m.get? c=eH o):i_ B S g l m f n i :=
 ⟨d.is,d.len,λj t e=>let⟨a,x,y,b,c,q⟩:=d.at' j t e;⟨a,x,y,b,c,k _ _ a q⟩,d.UI⟩
theorem i_.push(d:i_ B S k l h f m i)(o:B<=T)(p:T∉m)(hx:k[i]?=eH x)(r:l[i]?=eH y)(s:IsPair h T x y):
  i_ B S k l h (f.push<|.ref T) (m++[T]) (i+1):=by
 apply⟨by simp[d.is],by simp[d.len],λj t e=>?_,?_⟩
 .rw[List.getElem?_append]at e;split at e
  .exact d.at' j t e
  .rename_i g;rw[d.len]at g e;have u:j-i=0:=by
    obtain q|q:=ud (j-i)
    .exact q
    .rw[ig (by simp;nofun)]at e;cases e
   rw[u]at e;have v:j=i:=by nofun
   subst v;simp at e;subst e;exact⟨o,x,y,hx,r,s⟩
 .rw[cQ];apply⟨d.UI,by simp,λa w b n=>?_⟩;simp at n;subst n;exact λq=>p<|q▸w
section
variable{prog:bR}{w:Wn}{A:Wo}{R:Result->Wl->Prop}
theorem IZ{z TI TO T₁ C E G H S:Wk}{B:Nat}{h l:Array Wm}(hh:A.handled=none)(D:iJ z TI TO C E G H)(bz:z<B)(bI:TI<B)(b1:C<B)(Q:E<B)(c1:G<B)(c2:H<B)(bS:S<B)
  (sz:S≠z) (sI:S≠TI) (s1:S≠C) (s2:S≠E) (al:S≠G) (an:S≠H) (hn:h.size<=ak) (I:Wm) :
  ∀(k i:Nat) (s:Wl) (acc:Array Wm) (c:Nat) (t:Ze),min h.size l.size-i=k->i<=min h.size l.size->CW s.heap z TI TO T₁->T₁∈t->IsPair s.heap TI (.ref C) (.ref E) ->
  s.heap.IsListIter C G i->s.heap.IsListIter E H i->s.heap.IsList G h->s.heap.IsList H l->s.heap.get? S=eH { cls:=.type "list",dict:=none,data:=.seq acc c,slots:=#[]}->i_ B S h l s.heap acc t i ->
  (∀m acc' c' v,(∀b o,b≠S->b≠z->b≠C->b≠E->s.heap.get? b=eH o->m.get? b=eH o)->m.get? S=eH { cls:=.type "list",dict:=none,data:=.seq acc' c',slots:=#[]}->i_ B S h l m acc' v (min h.size l.size)->R (.ok<|.ret I) {s with heap:=m}) ->
  D8 (model prog w) A (.builtin "list.extend.loop" ⟨[.ref S,.ref z,I],[]⟩) R s:=by
 intro k
 induction k with
 |zero =>
  intro i s acc c t J hi hz U n h1 h2 p r hS d hR;have e:i=min h.size l.size:=by nofun
  let⟨j,hj⟩:=jE U;let⟨gT,x,y,_,_,Y⟩:=d.at' j _ hj;refine qJ F.entry_extend_loop ?_;rw[qI uc _];show wpAny _ A.in1 (pyNext (.ref z) >>= _) _ _ s;refine ai<|IW hh D hz Y n h1 h2 p r ?_ λm J=>?_
  .obtain q|q:=Nat.le_total h.size l.size
   .exact .inl (qG ⋯)
   .exact .inr (qG ⋯)
  .exact ax<|hR m acc c t (λb o _ Q b3 b4 q=>J b o Q b3 b4 q) (J S _ sz s1 s2 hS)<|e▸d.keep λc o g q=>J c o (eU<|eK bz g) (eU<|eK b1 g) (eU<|eK Q g) q
 |succ k ih =>
  intro i s acc c t J hi hz U n h1 h2 p r hS d hR;let⟨j,hj⟩:=jE U;let⟨gT,x,y,_,_,Y⟩:=d.at' j _ hj;have ix:i<h.size:=by nofun
  have iy:i<l.size:=by nofun
  refine qJ F.entry_extend_loop ?_;rw[qI uc _];show wpAny _ A.in1 (pyNext (.ref z) >>= _) _ _ s;refine ai<|IY D hz Y n h1 h2 p r (kb ix) (kb iy) λm a1 a2 a3 a4 a5 a=>?_;have L:=a S _ sz s1 s2 hS;have u:acc.size=i:=by rw[<-nQ,d.is,ag,d.len]
  have up:∀f:Obj->Obj,∀b o,b≠S->m.get? b=eH o->(m.update S f).get? b=eH o:=λf b o hb q=>(qU _ _<|dA hb).trans q;have lt:T₁<↑s:=aJ Y;have dn:i_ B S h l m acc t i:=d.keep λc o g q=>a c o (eU<|eK bz g) (eU<|eK b1 g) (eU<|eK Q g) q;have M:↑s∉t:=λq=>by
   let⟨j',ap⟩:=jE q;let⟨_,_,_,_,_,q'⟩:=d.at' j' _ ap;exact nU _<|aJ q'
  have as:=dn.push (T:=↑s) (cA<|qM gT lt) M (kb ix) (kb iy) a4;show wpAny _ A.in1 (wL S (·.push (.ref ↑s)) >>= _) _ _ _;refine ai (wK L rfl (ax ⟨qH uc _,ih (i+1) _ (acc.push<|.ref ↑s) _ (t++[↑s]) ⋯ ⋯ ?_ (by simp[U]) (up _ _ _ sI.symm<|a _ _ D.TIz D.TIi1 D.TIi2 n) (a2.at λo q=>up _ _ o s1.symm q) (a3.at λo q=>up _ _ o s2.symm q)
   (p.at λo q=>up _ _ o al.symm<|a _ o D.l1z D.l1i1 D.l1i2 q) (r.at λo q=>up _ _ o an.symm<|a _ o D.l2z D.l2i1 D.l2i2 q) (lV _ L rfl) (as.keep λc o g q=>up _ c o (eU<|eK bS g) q) λaC acc' c' v N O hd=>?_⟩) (by rw[u];nofun) (by show(acc.push _).size<=ak+1;rw[Array.size_push,u];nofun))
  .obtain⟨b,q⟩:=a1;exact⟨b,up _ _ _ sz.symm q⟩
  .exact hR aC acc' c' v (λb o e1 e2 e3 e4 q=>N b o e1 e2 e3 e4<|up _ b o e1<|a b o e2 e3 e4 q) O hd
theorem Me{z TI TO r u x y S:Wk}{a b:Wm}{m v:Array Wm}{s:Wl}{c:Nat}(hh:A.handled=none)(D:iJ z TI TO r u x y)
  (sz:S≠z) (sI:S≠TI) (sO:S≠TO) (L:S≠r) (M:S≠u) (C:S≠x) (E:S≠y) (hn:m.size<=ak) (n:Wm)
  (O:IsZip s.heap z TI TO .none) (g:IsPair s.heap TI (.ref r)<|.ref u) (G:IsPair s.heap TO a b)
  (Q:s.heap.IsListIter r x 0) (T:s.heap.IsListIter u y 0) (h:s.heap.IsList x m) (i:s.heap.IsList y v) (N:s.heap.get? S=eH { cls:=.type "list",dict:=none,data:=.seq #[] c,slots:=#[]})
  (hR:∀k acc' U p,(∀b o,b≠S->b≠z->b≠TO->b≠r->b≠u->s.heap.get? b=eH o->k.get? b=eH o)->k.get? S=eH { cls:=.type "list",dict:=none,data:=.seq acc' U,slots:=#[]}->i_ ↑s S m v k acc' p (min m.size v.size)->R (.ok<|.ret n) {s with heap:=k}) :
  D8 (model prog w) A (.builtin "list.extend.loop" ⟨[.ref S,.ref z,n],[]⟩) R s:=by
 refine qJ F.entry_extend_loop ?_;rw[qI uc _];show wpAny _ A.in1 (pyNext (.ref z) >>= _) _ _ s;obtain e|e:=ud (min m.size v.size)
 .refine ai<|wpAny_pyNext_zip_end hh D O g G Q T h i ?_ λk l=>?_
  .obtain q|q:=Nat.le_total m.size v.size
   .exact .inl (qG ⋯)
   .exact .inr (qG ⋯)
  .exact ax (hR k #[] c [] (λb o _ b2 b3 b4 b5 q=>l b o b2 b3 b4 b5 q) (l S _ sz sO L M N) (e▸⟨fj,fj,λj t q=>by simp at q,.nil⟩))
 .have ix:0<m.size:=by nofun
  have iy:0<v.size:=by nofun
  refine ai<|wpAny_pyNext_zip_item D O g G Q T h i (kb ix) (kb iy) λk a1 a2 a3 a4 a5 a6 l=>?_;have H:=l S _ sz sO L M N;have up:∀f:Obj->Obj,∀b o,b≠S->k.get? b=eH o->(k.update S f).get? b=eH o:=λf b o hb q=>(qU _ _<|dA hb).trans q;have tn:↑s≠S:=eU<|aJ N;have lz:z<↑s:=aJ O;have lI:TI<↑s:=aJ g;have Y:r<↑s:=let⟨_,e,_⟩:=Q;aJ e;have al:u<↑s:=let⟨_,e,_⟩:=T;aJ e;have an:x<↑s:=let⟨_,e,_⟩:=h;aJ e;have ap:y<↑s:=let⟨_,e,_⟩:=i;aJ e;show wpAny _ A.in1 (wL S (·.push (.ref ↑s)) >>= _) _ _ _;refine ai (wK H rfl (ax ⟨qH uc _,IZ (T₁:=↑s) (B:=↑s) hh D lz lI Y al an ap (aJ N) sz sI L M C E hn n _ 1 _ (#[].push (.ref ↑s)) _ [↑s] rfl ⋯ ⟨false,up _ _ _ sz.symm a1⟩ ∅
   (up _ _ _ sI.symm<|l _ _ D.TIz D.TITO D.TIi1 D.TIi2 g) (a3.at λo q=>up _ _ o L.symm q) (a4.at λo q=>up _ _ o M.symm q) (h.at λo q=>up _ _ o C.symm<|l _ o D.l1z D.l1TO D.l1i1 D.l1i2 q) (i.at λo q=>up _ _ o E.symm<|l _ o D.l2z D.l2TO D.l2i1 D.l2i2 q)
   (lV _ H rfl) ⟨fj,fj,λj t q=>?_,by simp⟩ λas acc' U p I J hd=>?_⟩) (by show(#[]:Array Wm).size<=_;simp) (by show(#[Value.ref ↑s]:Array Wm).size<=ak+1;simp))
  .cases j with
   |zero =>
    simp at q;subst q;exact⟨aF _,_,_,kb ix,kb iy,up _ _ _ tn a5⟩
   |succ j=>simp at q
  .exact hR as acc' U p (λb o e1 e2 e3 e4 e5 q=>I b o e1 e2 e4 e5<|up _ b o e1<|l b o e2 e3 e4 e5 q) J hd
theorem ES:w_ (.type "zip") "__len__"=pure none:=by rw[typeLookup_type,builtinLookup_eq_fast];kernel_rfl
theorem C9:w_ (.type "zip") "__length_hint__"=pure none:=by rw[typeLookup_type,builtinLookup_eq_fast];kernel_rfl
structure CK(h:Wq)(z TI TO i1 i2 l1 l2:Wk)(xs ys:Array Wm):Prop where
 ap:iJ z TI TO i1 i2 l1 l2
 zp:IsZip h z TI TO .none
 ti:IsPair h TI (.ref i1) (.ref i2)
 to:∃a b,IsPair h TO a b
 j1:h.IsListIter i1 l1 0
 j2:h.IsListIter i2 l2 0
 k1:h.IsList l1 xs
 k2:h.IsList l2 ys
theorem CK.keep{h l:Wq}{z TI TO f g i j:Wk}{m n:Array Wm}(Z:CK h z TI TO f g i j m n){S:Wk}(e:∀b,b=z∨b=TI∨b=TO∨b=f∨b=g∨b=i∨b=j->b≠S)(k:∀b o,b≠S->h.get? b=eH o->l.get? b=eH o):CK l z TI TO f g i j m n :=
 ⟨Z.ap,k _ _ (e _ ∅) Z.zp,k _ _ (e _ ∅) Z.ti,let⟨a,b,q⟩:=Z.to;⟨a,b,k _ _ (e _ ∅) q⟩,Z.j1.at λo q=>k _ o (e _ ∅) q,Z.j2.at λo q=>k _ o (e _ ∅) q,Z.k1.at λo q=>k _ o (e _ ∅) q,Z.k2.at λo q=>k _ o (e _ ∅) q⟩
theorem CK.old{h:Wq}{z TI TO a e f g:Wk}{i j:Array Wm}(Z:CK h z TI TO a e f g i j):∀b,b=z∨b=TI∨b=TO∨b=a∨b=e∨b=f∨b=g->b<h.objs.size:=by
 intro b k;obtain rfl|rfl|rfl|rfl|rfl|rfl|rfl:=k
 .exact aJ Z.zp
 .exact aJ Z.ti
 .obtain⟨_,_,q⟩:=Z.to;exact aJ q
 .obtain⟨_,q,_⟩:=Z.j1;exact aJ q
 .obtain⟨_,q,_⟩:=Z.j2;exact aJ q
 .obtain⟨_,q,_⟩:=Z.k1;exact aJ q
 .obtain⟨_,q,_⟩:=Z.k2;exact aJ q
theorem HZ{z TI TO u v D E S:Wk}{p x:Array Wm}{s:Wl}{c:Nat}(J:A.handled=none)(Z:CK s.heap z TI TO u v D E p x)(h:∀b,b=z∨b=TI∨b=TO∨b=u∨b=v∨b=D∨b=E->b≠S)(L:p.size<=ak)(g:Wm)
  (G:s.heap.get? S=eH { cls:=.type "list",data:=.seq #[] c})
  (M:∀k acc' l i,(∀b o,b≠S->b≠z->b≠TO->b≠u->b≠v->s.heap.get? b=eH o->k.get? b=eH o)->k.get? S=eH { cls:=.type "list",dict:=none,data:=.seq acc' l,slots:=#[]}->i_ ↑s S p x k acc' i (min p.size x.size)->R (.ok<|.ret g) {s with heap:=k}) :
  wpAny (model prog w) A.in1 (bx.List.listExtendWith (.ref S) (.ref z) g)
   (λy r=>match y with | .done f=>R (.ok f) r | .again l=>l.quiet=true/\D8 (model prog w) A l R r) (λe r=>R (.error e) r) s:=by
 have B:s.TypeIs (.ref z) "zip":=⟨_,Z.zp,fj⟩;unfold bx.List.listExtendWith;refine ai<|wO B ?_;have N:bx.List.listSameRef (.ref S) (.ref z)=false:=by simp[bx.List.listSameRef,(h z ∅).symm]
 have O:(Value.type "zip"==Value.type "list")=false:=by decide
 have Q:(Value.type "zip"==Value.type "tuple")=false:=by decide
 simp only[N,O,Q,Bool.or_false,kg,if_false];refine ai<|wV Z.zp<|ai<|g7 ?_;unfold bx.List.listLengthHint;refine ai<|HY B ES ?_;show wpAny _ A.in1 (specialOf (Value.ref z) (iI "__length_hint__") >>= _) _ _ _;refine ai<|HY B C9<|ax ?_;show wpAny _ A.in1 (rule "list.extend.makes-room" >>= λ_=>bx.List.listTouch (.ref S) >>= λ_=>again<|.builtin "list.extend.loop" ⟨[.ref S,.ref z,g],[]⟩) _ _ _;refine ai<|qk<|ai ?_;show wpAny _ A.in1 (wL S (·.push .none) >>= λ_=>wL S (·.pop)) _ _ _;refine ai<|wK G rfl ?_;have H:=lV (ii (·.push Value.none)) G rfl;refine wK (hz:=by seq_fits) H rfl ?_;have T:=lV (ii (·.pop)) H rfl;have m:∀b o,b≠S->s.heap.get? b=eH o->((s.heap.update S<|ii (·.push Value.none)).update S<|ii (·.pop)).get? b=eH o :=
  λb o t e=>(qU _ _<|dA t).trans<|(qU _ _<|dA t).trans e
 have j:=Z.keep h m;let⟨a,b,U⟩:=j.to;have n:=λb t=>(h b t).symm;refine ax ⟨qH uc _,Me J Z.ap (n _ ∅) (n _ ∅) (n _ ∅) (n _ ∅) (n _ ∅) (n _ ∅) (n _ ∅) L g j.zp j.ti U j.j1 j.j2 j.k1 j.k2 T λk acc' l i Y C hd=>?_⟩;refine M k acc' l i (λb o I f2 f3 f4 f5 q=>Y b o I f2 f3 f4 f5<|m b o I q) C ?_;have es:(((s.heap.update S<|ii (·.push Value.none)).update S<|ii (·.pop)).objs.size)=↑s:=by simp[Heap.update]
 exact es▸hd
theorem Mf{z TI TO n p v x S:Wk}{l r:Array Wm}{s:Wl}(B:A.handled=none)(Z:CK s.heap z TI TO n p v x l r)(j:∀b,b=z∨b=TI∨b=TO∨b=n∨b=p∨b=v∨b=x->b≠S)(C:l.size<=ak)
  (t:s.heap.get? S=eH { cls:=.type "list",data:=.seq #[]})
  (D:∀h acc' i a,(∀b o,b≠S->b≠z->b≠TO->b≠n->b≠p->s.heap.get? b=eH o->h.get? b=eH o)->h.get? S=eH { cls:=.type "list",dict:=none,data:=.seq acc' i,slots:=#[]}->i_ ↑s S l r h acc' a (min l.size r.size)->R (.ok<|.ret .none) {s with heap:=h}) :
  wpAny (model prog w) A.in1 (bx.«list.__init__» ⟨[.ref S,.ref z],[]⟩)
   (λu m=>match u with | .done f=>R (.ok f) m | .again i=>i.quiet=true/\D8 (model prog w) A i R m) (λe m=>R (.error e) m) s:=by
 show wpAny _ _ (bx.List.listItems (.ref S) >>= _) _ _ s;refine ai ?_;unfold bx.List.listItems;refine ai<|kS t rfl<|ax ?_;show wpAny _ _ (wL S (λ_=>#[]) >>= _) _ _ s;refine ai<|wK t rfl ?_;have E:=lV (ii<|λ_=>(#[]:Array Wm)) t rfl;have k:∀b o,b≠S->s.heap.get? b=eH o->(s.heap.update S<|ii<|λ_=>(#[]:Array Wm)).get? b=eH o:=λb o G e=>(qU _ _<|dA G).trans e;refine ai<|wT<|HZ B (Z.keep j k) j C .none E λh acc' i a H g d=>?_;have I:((s.heap.update S<|ii<|λ_=>(#[]:Array Wm)).objs.size)=↑s:=by simp[Heap.update]
 exact D h acc' i a (λb o y J L M N q=>H b o y J L M N<|k b o y q) g<|I▸d
theorem Gk{E:Zc}{Q:Zc}{z TI TO k l p r:Wk}{j m:Array Wm}{s:Wl}(u:A.handled=none)(Z:CK s.heap z TI TO k l p r j m)(v:j.size<=ak)
  (x:∀f acc' n e,(∀b o,b≠z->b≠TO->b≠k->b≠l->s.heap.get? b=eH o->f.get? b=eH o)->f.get? ↑s=eH { cls:=.type "list",dict:=none,data:=.seq acc' n,slots:=#[]}->i_ (↑s+1) ↑s j m f acc' e (min j.size m.size)->Q (.ref ↑s) {s with heap:=f}) :
  wpAny (model prog w) A (call (.type "list") [.ref z]) Q E s:=by
 refine callType_codes (Q₁:=λh a=>h=.ref ↑s/\a={s with heap:=s.heap.push { cls:=.type "list",data:=.seq #[]}}) F.called_list (F.typeCall_list_1 _) F.entry_list_init (code_list_new _ ⟨fj,fj⟩) λh a i=>?_;let⟨rfl,rfl⟩:=i;have t:(s.heap.push { cls:=.type "list",data:=.seq #[]}).get? ↑s=eH { cls:=.type "list",data:=.seq #[]}:=cv _ rfl;have ne:∀b,b=z∨b=TI∨b=TO∨b=k∨b=l∨b=p∨b=r->b≠↑s:=λb y=>cr<|Z.old b y;apply⟨⟨_,t,fj⟩,F.args_list_init_2 _ _,Mf (A:=A.in1) u (Z.keep ne λb o _ q=>aT _ q) ne v t λf acc' n e B g d=>?_⟩;exact⟨fj,x f acc' n e (λb o C D G H q=>B b o (cr<|aJ q) C D G H<|aT _ q) g (by rw[<-kQ s.heap { cls:=.type "list",data:=.seq #[]}];exact d)⟩
end
def rG(H:Hp):List Wk->List V->List V->Hp
 |t::ts,x::xs,y::ys=>rG (upd H t<|.tup [x,y]) ts xs ys
 |_,_,_=>H
theorem tL:∀{a:Ze}{e f:List V}{H:Hp}{b:Wk},b∉a->rG H a e f b=H b
 |[],_,_,_,_,_=>by simp[rG]
 |_::_,[],_,_,_,_=>by simp[rG]
 |_::_,_::_,[],_,_,_=>by simp[rG]
 |t::a,x::e,y::f,H,b,h=>by
  rw[rG,tL<|λq=>h<|eN _ q];exact ah (λq:b=t=>h (by rw[q];exact cT))
theorem Cc:∀{a:Ze}{f g:List V}{H:Hp}{j:Nat}{t:Wk}{x y:V},a.Nodup->a[j]?=eH t->f[j]?=eH x->g[j]?=eH y->rG H a f g t=eH (.tup [x,y])
 |[],_,_,_,j,_,_,_,_,e,_,_=>by simp at e
 |_::_,[],_,_,j,_,_,_,_,_,e,_=>by simp at e
 |_::_,_::_,[],_,j,_,_,_,_,_,_,e=>by simp at e
 |t::a,x::f,y::g,H,0,l,m,o,n,h,i,k=>by
  simp at h i k;subst h i k;rw[rG,tL (gj.mp n).1,aa]
 |t::a,x::f,y::g,H,j+1,l,m,o,n,h,i,k=>by
  rw[rG];exact Cc (gj.mp n).2 ‹h› ‹i› ‹k›
section
variable{X:Cx}{J4:Zd}{σ:St}{H:Hp}{s:Wl}{h':Wq}
theorem Inv.many{g:Hp}{N:Ze}{t':Nat}(I:Inv X J4 σ H s)(k:∀b u,s.heap.get? b=eH u->h'.get? b=eH u)(h:∀a∈N,↑s<=a)(f:∀b,b∉N->g b=H b)(new:∀a∈N,∀o,g a=eH o->bA X.prog X.w X.K g h' a o):
  Inv X J4 σ g {s with heap:=h',toks:=t'}:=by
 have old:∀b o,H b=eH o->b∉N:=λb o e q=>nU _<|eK (I.kl.lt e)<|h b q;have same:∀b o,H b=eH o->g b=eH o:=λb o e=>by rw[f b<|old b o e];exact e
 refine I.un ⟨λb u q _ _ _=>k b u q,λb u q _ _ _=>⟨u.slots,k b u q⟩,λb u q n _=>?_,λb u q _=>⟨u,k b u q⟩,λb j q=>same b _ q,λb o u q=>same b _ q,λb l q=>⟨#[],by rw[same b _ q];simp⟩⟩ λb o e=>?_
 .rw[f b λz=>nU _<|eK (aJ q)<|h b z];exact n
 .by_cases i:b∈N
  .exact new b i o e
  .rw[f b i]at e;exact(I.kl b o e).RI (λc v _ q=>k c v q) (λc q=>same c _ q) λc j q=>same c _ q
theorem NE(r:bG f g):∀{j:Nat}{u:Wm},g[j]?=eH u->∃v,f[j]?=eH v/\RelV v u:=by
 induction r with
 |nil=>intro j u e;simp at e
 |cons a _ h =>
  intro j u e;cases j with
  |zero=>simp at e;subst e;exact⟨_,fj,a⟩
  |succ j=>exact h ‹e›
theorem GY:∀a:List Wk,bG (a.map V.ref) (a.map Value.ref)
 |[]=>.nil
 |t::a=>.cons rfl<|GY a
variable{p p2 pos Ub:Pos}
def Kb(K:Za)(ta:TA):TE:=fun σ H Q=>ta σ H λvs H1=>∃a b xs ys,vs=[.ref a,.ref b]/\az K H1 a xs/\az K H1 b ys /\
 ∀(D:Wk) (ts:Ze),H1 D=none->(∀t∈ts,H1 t=none)->(D::ts).Nodup->ts.length=min xs.length ys.length->Q (.ref D) (upd (rG H1 ts xs ys) D<|.lst<|ts.map .ref)
theorem FL(hc:X.calm=true)(hl:Gl X "list")(A:X.mg "list"=none)(hg:Gl X "zip")(hm:X.mg "zip"=none)(i:PA X [a,b] ta)(hs:aR [a,b] X.env=[(false,eval a X.env),(false,eval b X.env)]:=by rfl)(k:aR [b] X.env=[(false,eval b X.env)]:=by rfl)(l:aR [.Call (.Name "zip" p) [a,b] [] pos] X.env=[(false,eval (.Call (.Name "zip" p) [a,b] [] pos) X.env)]:=by rfl) :
  PE X (.Call (.Name "list" p2) [.Call (.Name "zip" p) [a,b] [] pos] [] Ub) (Kb X.K ta):=by
 intro J4 s σ H Q I h;refine Call_ (kG I hl A nA (wD ?_ (by rw[l];rfl) (by rfl)));rw[l];show wpAny _ _ (wF<|(false,eval (.Call (.Name "zip" p) [a,b] [] pos) X.env)::[]) _ _ s;refine wB ?_;refine Call_ (kG I hg hm boot_zip (wD (c7 (i pos J4 s σ H _ I h) λus s1 B=>?_) (by rw[hs,k]) (by rw[k];rfl)));let⟨vs,H1,m,r1,q1⟩:=B;let⟨l1,l2,xs,ys,e,hx,hy,q⟩:=q1;subst e;let⟨u,v,rfl,ru,rv⟩:=vals2 r1;cases ru;cases rv;let⟨C,rx,D,zx⟩:=m.list hx;let⟨E,ry,G,zy⟩:=m.list hy;let⟨o1,n1,e1,_⟩:=id D;let⟨o2,n2,e2,_⟩:=id G;refine call_zip_2 D.isList G.isList λh' a1 a2 a3 a4 a5 a6 J=>?_;refine C4 ?_;have Z:CK h' (↑s1+4) (↑s1+2) (↑s1+3) ↑s1 (↑s1+1) l1 l2 C.toArray E.toArray :=
  ⟨zipApart_new (aJ e1)<|aJ e2,a1,a2,⟨_,_,a3⟩,a4,a5,D.isList.at λo q=>J _ o q,G.isList.at λo q=>J _ o q⟩
 have lx:=rx.length;have ly:=ry.length;refine Gk (s:={s1 with heap:=h'}) (I.ok.hd hc) Z (by simp;nofun) λh2 ap c f L g d=>?_;have M:∀b o,s1.heap.get? b=eH o->h2.get? b=eH o:=λb o q=>by
  have lt:=aJ q;exact L b o (cr<|eK lt<|uq _ 4) (cr<|eK lt<|uq _ 3) (cr lt) (cr<|eK lt<|uq _ 1)<|J b o q
 have bd:∀t∈f,↑s1+5<t:=λt n=>by
  let⟨j,r⟩:=jE n;have:=(d.at' j t r).1;have e:(Bd {s1 with heap:=h'}).objs.size=↑s1+5:=a6;rw[e]at this;nofun
 have O:(Bd {s1 with heap:=h'}).objs.size=↑s1+5:=a6;rw[O]at g ⊢;have nD:↑s1+5∉f:=λq=>nU _<|bd _ q;have T:↑s1<=↑s1+5:=uq _ _;have n:∀t∈f,↑s1<=t:=λt q=>cA<|qM T<|bd t q;apply⟨.ref<|↑s1+5,upd (rG H1 f xs ys) (↑s1+5)<|.lst<|f.map .ref,m.many (N:=(↑s1+5)::f) (t':=s1.toks) M (λa i=>?_) (λb hb=>?_) λa i o e=>?_,fj,q _ f (m.kl.fresh T) (λt z=>m.kl.fresh<|n t z) (gj.mpr ⟨nD,d.UI⟩) (by rw[d.len];simp[lx,ly])⟩
 .obtain z|z:=cq.mp i
  .rw[z];exact T
  .exact n a z
 .rw[ah λz=>hb (by rw[z];exact cT)];exact tL λz=>hb<|eN _ z
 .obtain z|z:=cq.mp i
  .subst z;rw[aa]at e;cases e;apply⟨by rw[ag,d.len];simp;nofun,f.map .ref,c,GY f,?_⟩;rw[<-d.is];simpa using g
  .have ne:a≠↑s1+5:=λw=>nD<|w▸z;rw[ah ne]at e;let⟨j,r⟩:=jE z;let⟨_,x,y,U,Y,qT⟩:=d.at' j a r;let⟨vx,ex,al⟩:=NE rx (j:=j) (u:=x) ‹U›;let⟨vy,ey,an⟩:=NE ry (j:=j) (u:=y) ‹Y›;rw[Cc d.UI r ex ey]at e;cases e;exact⟨by show 2<=ak;decide,[x,y],.cons al<|.cons an .nil,⟨_,qT,fj,_,fj⟩⟩
end
end L2
namespace L2
open PySem Spec PyProof.Rows
end L2
end

section
set_option Elab.async false
set_option linter.all false
set_option maxRecDepth 100000
namespace HT
open PySem PyProof.Rows
end HT
namespace L2
open PySem Spec PyProof.Rows
end L2
end

section
set_option Elab.async false
set_option linter.all false
set_option maxRecDepth 100000
namespace L2
open PySem Spec PyProof.Rows
end L2
end

section
set_option Elab.async false
set_option linter.all false
set_option maxRecDepth 100000
namespace HT
open PySem PyProof.Rows
end HT
namespace L2
open PySem Spec PyProof.Rows
end L2
end

section
set_option Elab.async false
set_option linter.all false
set_option maxRecDepth 100000
namespace HT
open PySem PyProof.Rows
section
variable{prog:bR}{w:Wn}{A:Wo}{E:Zc}{s:Wl}
end
end HT
end

section
set_option Elab.async false
set_option linter.all false
set_option maxRecDepth 100000
namespace L2
open PySem Spec PyProof.Rows
theorem jK.kept(r:jK h d a f)(k:∀o,h.get? d=eH o->h'.get? d=eH o):jK h' d a f:=let⟨o,g,e⟩:=r.ex;⟨o,k o g,e⟩
end L2
end

section
set_option Elab.async false
set_option linter.all false
set_option maxRecDepth 100000
namespace HT
open PySem PyProof.Rows
end HT
end

section
set_option Elab.async false
set_option linter.all false
set_option maxRecDepth 100000
namespace L2
open PySem Spec PyProof.Rows
def Vv(f:Zb):TK:=.t<|f.map λx=>TK.k<|some<|.inr x
theorem zW{K:Za}:∀{e:Zb}{a:List V},PN K H (e.map λx=>TK.k<|some<|.inr x) a->a=e.map V.str
 |[],a,h=>by rw[ur]at h;unfold PN at h;exact h
 |s::e,a,h=>by
  rw[bL]at h;unfold PN at h;let⟨v,i,rfl,f,g⟩:=h;unfold mO at f;rw[f,zW g]
  rfl
theorem JT{K:Za}(h:mO K H (Vv f) a):∃b,a=.ref b/\dg K H b (f.map V.str):=by
 unfold Vv mO at h;let⟨b,i,rfl,e,g⟩:=h;rw[zW g]at e;exact⟨b,fj,e⟩
section
variable{prog:bR}{w:Wn}{A:Wo}{s:Wl}{d v:Wk}{es:Array fH}{ep:Nat}
theorem FB(e:s.heap.IsValuesView v d)(h:jK s.heap d es ep):∃i:Obj,(∀(E Q:Zc),Q (.ref ↑s) {s with heap:=s.heap.push i}->wpAny (model prog w) A (pyIter<|.ref v) Q E s)/\(s.heap.push i).IsValIter ↑s d 0 es.size ep:=by
 let⟨l,f,k,g⟩:=id e;let⟨o,j,hx,a⟩:=h.ex;apply⟨{ cls:=.type "dict_valueiterator",data:=.fields #[.ref d,rawInt 0,rawInt es.size,rawInt ep]},λE Q q=>?_,⟨_,cv _ rfl,fj,by simp[rawInt]⟩⟩;refine A7 e.typeIs AW <| mo AW e.typeIs F.entry_dict_values_iter ?_ (F.args_dict_values_iter_1 _);unfold bx.«dict_values.__iter__» bx.Dict_items.dictOf bx.Dict_items.newIterator;refine ai <| ax <| ai <| ai <| dC f g (x:=.ref d) rfl <| ax <| ai <| ai <| kf j a <| ai <| lK j a ?_;simp only[show mW "dict_valueiterator"=false by decide,kg,if_false];exact gL<|ax ⟨_,fj,"dict_valueiterator",_,⟨_,cv _ rfl,fj⟩,ue.lookup,q⟩
theorem JP:PySem.W.KdlSrc prog w "dict_values" v d es.size (λi x=>(es[i]?).map (·.val)=eH x) λh=>h.IsValuesView v d/\jK h d es ep where
 type:=λs r=>r.1.typeIs
 there:=λh r=>by let⟨o,f,_⟩:=r.2.ex;let⟨C,g,_⟩:=r.1;exact⟨aJ g,aJ f⟩
 keep:=λh j r k=>⟨let⟨o,e,c⟩:=r.1;⟨o,k v (.inl rfl) o e,c⟩,r.2.kept<|k d<|.inr rfl⟩
 notList:=by decide
 notTuple:=by decide
 hint:=λA E s Q r q=>PySem.W.kdl_hint_values r.1.typeIs q
 iter:=λA s p r=>by
  let⟨t,u,y⟩:=FB (prog:=prog) (w:=w) (A:=A) r.1 r.2;have ne:d≠↑s:=by let⟨o,f,_⟩:=r.2.ex;exact cr<|aJ f
  apply⟨t,λi h=>h.IsValIter ↑s d i es.size ep/\jK h d es ep,u,⟨by simp,?_,?_,?_,?_⟩,y,r.2.kept λo e=>aT _ e⟩
  .rintro i h j ⟨a,b⟩ k;let⟨o,e,c⟩:=a;exact⟨⟨o,k _ ∅ o e,c⟩,b.kept λo e=>k d ∅ o e⟩
  .rintro i m Q E hi ⟨a,b⟩ q;refine uP a b hi λj z n=>q _ _ _ (by simp[hi]) ⟨z,b.kept λo e=>(n.2 d ne).trans e⟩ λb o l e=>(n.2 b ‹l›).trans e
  .rintro m Q E ⟨a,b⟩ q;exact xG p a b (aF _) λj B=>q _ _ λb o l e=>B b o ‹l› e
  .rintro i m Q E ⟨a,b⟩ q;exact wpAny_pyIter_valiter a q
end
def Kc(tl:TE):TE:=fun σ H Q=>tl σ H λx H1=>∃(d:Wk) (kvs:List<|TK×V),x=.ref d/\Rd H1 d (.dT kvs)/\∀l,H1 l=none->Q (.ref l) (upd H1 l<|.lst<|kvs.map AQ)
section
variable{X:Cx}{p2 Ub J6 J5:Pos}
theorem DH(O:X.calm=true)(T:Gl X "list")(D:X.mg "list"=none)(U:PE X l J)(i:oo l "values" X.env (eval l X.env)=eval l X.env:=by rfl)(k:(J6.endLine==J5.line)=true:=by rfl)(r:aR [.Call (.Attribute l "values" J6) [] [] J5] X.env=[(false,eval (.Call (.Attribute l "values" J6) [] [] J5) X.env)]:=by rfl) :
  PE X (.Call (.Name "list" p2) [.Call (.Attribute l "values" J6) [] [] J5] [] Ub) (Kc J):=by
 intro Y s σ H Q I h;refine Call_ (kG I T D nA (wD ?_ (by rw[r];rfl) (by rfl)));rw[r];show wpAny _ _ (wF<|(false,eval (.Call (.Attribute l "values" J6) [] [] J5) X.env)::[]) _ _ s;refine wB ?_;refine qR i k<|c7 (U Y s σ H _ I h) λv s1 E=>?_;let⟨x,H1,G,r1,d,m,ex,e,q⟩:=E;subst ex;cases r1;let⟨z,t,B,u,o,es,ep,L,ex,hd,n,nd⟩:=id<|show bA X.prog X.w X.K H1 s1.heap d (.dT m)from Ku G.kl e;have p:jK s1.heap d es ep:=⟨o,L,ex,hd⟩;apply⟨"dict","dict.values",AY,AX,F.type_dict_values,p.ty,λa z=>?_,qQ rfl<|w8<|rA p t ?_⟩
 .cases z;exact⟨o,L,ex.2.1⟩
 refine C4 ?_;have g:=Paired.length u;have y:es.size=B.length:=by rw[<-nQ,n,ag]
 refine PySem.W.kdl_call (s:={s1 with heap:=s1.heap.push { cls:=.type "dict_values",data:=.fields #[.ref d]}}) (JP (v:=↑s1) (d:=d) (es:=es) (ep:=ep)) (I.ok.hd O) ⟨⟨_,cv _ rfl,fj,fj⟩,p.kept λo e=>aT _ e⟩ (by rw[y,<-g];exact z) λh' tk f c hk hD A=>?_;let⟨hn,hP⟩:=A;have M:f.toList=B.map λx=>x.2.2:=by
  apply List.ext_getElem?;intro j;by_cases hj:j<f.size
  .have C:f[j]?=eH f[j]:=by simp[hj]
   have e2:=hP j _ C;have e3:es[j]?=(B[j]?).map λx=>GV (bO X.prog X.w) x:=by rw[<-wZ,n,bV]
   rw[wZ,C,bV,<-e2,e3];cases B[j]?<;>rfl
  .have C:f[j]?=none:=by simp;nofun
   rw[wZ,C,bV,ig ⋯]
   rfl
 have hv:bG (m.map AQ) f.toList:=by
  rw[M];clear M g y n nd e q z
  induction u with
  |nil=>exact .nil
  |cons h _ ih=>exact .cons h.2.2.2 ih
 have N:↑s1<=(s1.heap.push { cls:=.type "dict_values",data:=.fields #[.ref d]}).objs.size:=by rw[kQ];exact qZ _
 exact⟨.ref _,_,G.laid (o:=.lst<|m.map AQ) (λb o e=>hk b o<|aT _ e) N ⟨by rw[ag];exact z,f.toList,c,hv,by rw[Array.toArray_toList];exact hD⟩,fj,q _<|G.kl.fresh N⟩
end
section
variable{prog:bR}{w:Wn}{A:Wo}{E:Zc}{s:Wl}
def LK(prog:bR)(w:Wn)(h:Wq)(u:Wm)(x:TK×Wk×Wm):Prop:=∃t,u=.ref t/\h.IsTuple t #[.ref x.2.1,x.2.2]/\(bO prog w).is h x.1 x.2.1
def storeAll(acc xs:List<|TK×Wk×Wm):List (TK×Wk×Wm):=xs.foldl (λa x=>qO a x.1 x.2.1 x.2.2) acc
theorem Dt(e:List<|TK×Wk×Wm)(k:TK)(a:Wk)(v:Wm):(qO e k a v).length<=e.length+1:=by
 unfold qO;split
 .rw[ag];nofun
 .rw[aA,Bt];exact aF _
theorem v_(t:(bO prog w).is h k a)(m:∀b o items n,h.get? b=eH o->o.cls=.type "tuple"->o.data=.seq items n->h'.get? b=eH o):(bO prog w).is h' k a:=⟨pV.mono m 8 t.2 t.1,t.2⟩
theorem wu{h f:Wq}(g:h.DictOfH (bO prog w) D a)(e:∀o,h.get? D=eH o->f.get? D=eH o)(m:∀b o items n,h.get? b=eH o->o.cls=.type "tuple"->o.data=.seq items n->f.get? b=eH o):f.DictOfH (bO prog w) D a:=by
 let⟨o,i,j,k,l,p,q,r,t⟩:=g;exact⟨o,i,j,e o k,l,p,q,λx hx=>v_ (r x hx) m,t⟩
theorem Ia(hh:A.handled=none)(hu:A.units+14<cLine){items:Array Wm}{ps:List (TK×Wk×Wm)}(C:D≠it)(U:l≠it)(Y:l≠D)(ba:ps.length=items.size):
  ∀(n i:Nat) (s:Wl) (a:List<|TK×Wk×Wm),items.size-i=n->i<=items.size->a.length+(items.size-i)<=ak->s.heap.IsListIter it l i->s.heap.IsList l items->s.heap.DictOfH (bO prog w) D a ->
   (∀(j:Nat) (u:Wm) (x:TK×Wk×Wm),items[j]?=eH u->ps[j]?=eH x->LK prog w s.heap u x) ->
   (∀y tk,y.DictOfH (bO prog w) D (storeAll a<|ps.drop i)->(∀b o,b≠D->b≠it->s.heap.get? b=eH o->y.get? b=eH o)->R (.ok<|.ret .none) {s with heap:=y,toks:=tk}) ->
   D8 (model prog w) A (.builtin "dict.update.loop" ⟨[.ref D,.ref it,rawInt i,.none],[]⟩) R s:=by
 intro n
 induction n with
 |zero =>
  intro i s a hn hi hz p Q T hp hR;have e:i=items.size:=by nofun
  subst e;refine qJ iz ?_;rw[qI c9 _];show wpAny _ A.in1 (pyNext (.ref it) >>= _) _ _ s;refine ai (wpAny_pyNext_list_end hh p Q ∅ λy eb=>?_);show wpAny _ _ (bx.Dict.addKeywords D [] >>= _) _ _ _;refine ai<|ax<|ax ?_;have G:∀b o,b≠it->s.heap.get? b=eH o->y.get? b=eH o:=λb o hb e=>eb b o hb e;have H:y.DictOfH (bO prog w) D a:=wu T (λo e=>G D o C e) λb o items n e c d=>G b o (by
   rintro rfl;let⟨o',f,h,_⟩:=p;rw[e]at f;cases f;rw[c]at h;simp at h) e
  have q:=hR y s.toks (by rw[wP ⋯];exact H) λb o _ hb e=>G b o hb e;exact q
 |succ n ih =>
  intro i s a hn hi hz p Q T hp hR;have I:i<items.size:=by nofun
  refine qJ iz ?_;rw[qI c9 _];show wpAny _ A.in1 (pyNext (.ref it) >>= _) _ _ s;have J:items[i]?=eH items[i]:=by simp[I]
  have hk:ps[i]?=eH ps[i]:=bj ⋯;let⟨t,eu,ht,al⟩:=hp i _ _ J hk;refine ai<|wpAny_pyNext_list_item p Q (x:=items[i]) J λm L an=>?_;rw[eu];have g:fB it s.heap m:=an;have z:∀b o,s.heap.get? b=eH o->o.cls=.type "tuple"->b≠it:=by
   rintro b o e c rfl;let⟨o',f,h,_⟩:=p;rw[e]at f;cases f;rw[c]at h;simp at h
  have nD:∀b o,s.heap.get? b=eH o->o.cls=.type "tuple"->b≠D:=by
   rintro b o e c rfl;let⟨o',_,_,f,h,_⟩:=T;rw[e]at f;cases f;have:=h.1;rw[c]at this;simp at this
  have nt:t≠it:=by
   let⟨o,M,N,_⟩:=ht;exact z t o M N
  have O:m.IsTuple t #[.ref ps[i].2.1,ps[i].2.2]:=ht.extBut g.extBut nt;have ap:uj {s with heap:=m} (.ref t) "tuple":=O.typeIs (s:={s with heap:=m});let⟨ot,as,bb,bd,aC⟩:=id O;refine ai<|g7 ?_;refine ai<|wpAny_tryCatch ?_;unfold bx.Dict.pairItems;refine ai<|wO ap ?_;rw[if_pos Wt];refine ai<|kS as aC<|ax ?_;show wpAny _ _ (nR [.ref ps[i].2.1,ps[i].2.2]<|dictSet D (.ref ps[i].2.1) ps[i].2.2) _ _ _;have m1:∀b o items n,s.heap.get? b=eH o->o.cls=.type "tuple"->o.data=.seq items n->m.get? b=eH o:=λb o _ _ e c _=>(g.2 b<|z b o e c).trans e;have a0:m.DictOfH (bO prog w) D a:=wu T (λo e=>(g.2 D C).trans e) m1;refine g7 (wpAny_dictSet_heap (knd:=bO prog w) (k:=ps[i].1) (by show A.units+1+8<cLine;nofun) (v_ al m1) a0 (λB a4 a5=>?_) ⋯);have v:fB D m B:=a5;show wpAny _ _ (again _) _ _ _;refine ax ⟨qH c9 _,?_⟩;have a6:m.IsList l items:=Q.extBut g.extBut U;have kp:∀b o,b≠D->b≠it->s.heap.get? b=eH o->B.get? b=eH o:=λb o m B e=>v.extBut b o m<|g.extBut b o B e;refine ih (i+1) _ (qO a ps[i].1 ps[i].2.1 ps[i].2.2) ⋯ I (by have:=Dt a ps[i].1 ps[i].2.1 ps[i].2.2;nofun) (L.extBut v.extBut<|dA C) (a6.extBut v.extBut Y) a4 (λj u x m B=>?_) λy tk H a7=>?_
  .obtain⟨t2,e2,a8,a9⟩:=hp j u x m B;let⟨o,M,N,r⟩:=id a8;exact⟨t2,e2,⟨o,kp _ o (nD t2 o M N) (z t2 o M N) M,N,r⟩,v_ a9 λb o _ _ e c _=>kp b o (nD b o e c) (z b o e c) e⟩
  .refine hR y tk ?_ λb o m B e=>a7 b o m B<|kp b o m B e;have ed:ps.drop i=ps[i]::ps.drop (i+1):=A_ ⋯;rw[ed];exact H
theorem uY(T:A.handled=none)(hu:A.units+16<cLine)(U:s.heap.get? l=eH o)(J:o.cls=.type "list")(v:o.data=.seq items n)(L:o.dict=none)(M:ps.length=items.size)(Y:∀(j:Nat) (u:Wm) (x:TK×Wk×Wm),items[j]?=eH u->ps[j]?=eH x->LK prog w s.heap u x)(hz:items.size<=ak)(h:∀y tk,y.DictOfH (bO prog w) ↑s (storeAll [] ps)->(∀b o,s.heap.get? b=eH o->y.get? b=eH o)->Q (.ref ↑s) {s with heap:=y,toks:=tk}) :
  wpAny (model prog w) A (call (.type "dict") [.ref l]) Q E s:=by
 refine callType_codes (Q₁:=λz k=>z=.ref ↑s/\k={s with heap:=s.heap.push { cls:=.type "dict",data:=.dict #[]}}) F.kt_called_dict (F.kt_typeCall_dict_1 _) F.entry_dict_init (kt_code_dict_new _ ⟨fj,fj⟩) ?_;rintro z k ⟨rfl,rfl⟩;have m:(s.heap.push { cls:=.type "dict",data:=.dict #[]}).DictOfH (bO prog w) ↑s []:=Heap.DictOfH.new s.heap;have p:(s.heap.push { cls:=.type "dict",data:=.dict #[]}).get? l=eH o:=aT _ U;have B:l<↑s:=aJ U;have C:uj {s with heap:=s.heap.push { cls:=.type "dict",data:=.dict #[]}} (.ref ↑s) "dict":=m.typeIs;apply⟨C,F.args_dict_init_2 _ _,?_⟩;unfold bx.«dict.__init__»;refine ai ?_;unfold bx.Dict.selfAndRest;refine ai<|uk C ?_;show wpAny _ _ (pure (↑s,[Value.ref l])) _ _ _;refine ax ?_;show wpAny _ _ (A9 "dict.__init__" ↑s (.ref l) [] .none) _ _ _;unfold A9;have N:uj {s with heap:=s.heap.push { cls:=.type "dict",data:=.dict #[]}} (.ref l) "list":=⟨o,p,J⟩;refine ai<|wO N ?_;rw[if_pos Wt];refine ai<|Al p J v L T λq O k1=>?_;have f:∀b ob,(s.heap.push { cls:=.type "dict",data:=.dict #[]}).get? b=eH ob->q.get? b=eH ob:=k1;rw[if_pos (by rfl:(none:Option Wm).isNone=true)];refine ai<|qk ?_;have G:q.IsList l items:=⟨o,f _ _ p,J,n,v⟩;refine ai<|zQ (s:={s with heap:=q,toks:=O}) G ?_;have H:q.DictOfH (bO prog w) ↑s []:=wu m (λo e=>f _ o e) λb o _ _ e _ _=>f b o e;have i:↑s<q.objs.size:=by
  let⟨od,es,ep,g,r⟩:=H;exact aJ g
 refine ax ⟨qH c9 _,?_⟩;refine Ia (A:=A.in1) (prog:=prog) (w:=w) T (by show A.units+1+14<cLine;nofun) (D:=↑s) (it:=q.objs.size) (l:=l) (items:=items) (ps:=ps) (cr i) (cr<|uu B i) (cr B) M items.size 0 _ [] (A8 _) (cH _) (by rw[lU];nofun)
  ⟨_,cv _ rfl,fj,fj⟩ (G.push _) (wu H (λo e=>aT _ e) λb o _ _ e _ _=>aT _ e) (λj u x a b=>?_) λy tk I kp=>?_
 .obtain⟨t,e,ht,hk⟩:=Y j u x a b;let⟨ot,g,r⟩:=ht;exact⟨t,e,⟨ot,aT _<|f _ _<|aT _ g,r⟩,v_ hk λb o _ _ e _ _=>aT _<|f _ _<|aT _ e⟩
 .rw[ul]at I;apply⟨fj,h y tk I λb ob e=>kp b ob (cr<|aJ e) (cr<|uu (aJ e) i)<|aT _<|f _ _<|aT _ e⟩
end
def putAll(acc:List<|TK×V)(kvs:List<|TK×V):List (TK×V):=kvs.foldl (λa x=>dR a x.1 x.2) acc
theorem xJ:∀(e a:List<|TK×V),(putAll a e).length<=a.length+e.length
 |[],a=>aF _
 |kv::e,a=>by
  have f:=xJ e<|dR a kv.1 kv.2;have g:=jz a kv.1 kv.2;show(putAll (dR a kv.1 kv.2) e).length<=_;rw[eT];nofun
abbrev KN(K:Za):List V->Hp->VK->Prop:=λxs H Q=>∃(l:Wk) (ts bs:Ze) (kvs:List<|TK×V),xs=[.ref l]/\az K H l (ts.map V.ref)/\ts.length=kvs.length/\bs.length=kvs.length /\
  (∀(j:Nat) (t b:Wk) (kv:TK×V),ts[j]?=eH t->bs[j]?=eH b->kvs[j]?=eH kv->H t=eH (.tup [.ref b,kv.2])/\mO K H kv.1 (.ref b)/\kv.1.depth<=8)/\∀p,H p=none->Q (.ref p) (upd H p<|.dT<|putAll [] kvs)
theorem zB(hc:X.calm=true)(hu:X.A.units+16<cLine):hZ X (.type "dict") (KN X.K):=by
 intro J4 s σ H xs us Q I r h;let⟨l,ts,bs,f,rfl,m,v,k,J,q⟩:=h;let⟨u,rfl,ru⟩:=vals1 r;cases ru;let⟨L,rv,⟨o,n,ho,M,N,O⟩,T⟩:=I.list m;have U:∀(ts bs:Ze) (f:List<|TK×V),ts.length=f.length->bs.length=f.length->(∀(j:Nat) (t b:Wk) (g:TK×V),ts[j]?=eH t->bs[j]?=eH b->f[j]?=eH g->H t=eH (.tup [.ref b,g.2])/\mO X.K H g.1 (.ref b)/\g.1.depth<=8)->∃ps:List<|TK×Wk×Wm,KT X.K H f ps/\∀(j:Nat) (t:Wk) (x:TK×Wk×Wm),ts[j]?=eH t->ps[j]?=eH x->LK X.prog X.w s.heap (.ref t) x:=by
  intro ts
  induction ts with
  |nil =>
   intro bs f m _ _;cases f with
   |nil=>exact⟨[],.nil,λj t g e=>by simp at e⟩
   |cons _ _=>cases m
  |cons t ts Y =>
   intro bs f m hb J;cases f with
   |nil=>cases m
   |cons g f =>
    cases bs with
    |nil=>cases hb
    |cons b bs =>
     let⟨ps,r1,r2⟩:=Y bs f ‹m› ‹hb› λj t' b' al a c d=>J (j+1) t' b' al ‹a› ‹c› ‹d›;let⟨g1,g2,g3⟩:=J 0 t b g rfl rfl rfl;let⟨_,an,rt,p⟩:=(show bA X.prog X.w X.K H s.heap t (.tup [.ref b,g.2])from I.kl t _ g1);let⟨x,y,e,rx,ry⟩:=rt.two;subst e;cases(show x=Value.ref b from rx);apply⟨(g.1,b,y)::ps,.cons ⟨fj,g2,g3,ry⟩ r1,λj t' x' B C=>?_⟩;cases j with
     |zero =>
      simp at B C;subst B C;exact⟨t,fj,p,uU I.kl I.O' g2 g3⟩
     |succ j=>exact r2 j t' x' ‹B› ‹C›
 let⟨ps,D,pa⟩:=U ts bs f v k J;have E:=rv.length;rw[ag]at E;have ap:=Paired.length D;have all:∀{f:List (TK×V)}{ps:List (TK×Wk×Wm)},KT X.K H f ps->∀{acc:List (TK×V)}{acc':List (TK×Wk×Wm)},KT X.K H acc acc'->KT X.K H (putAll acc f) (storeAll acc' ps):=by
  intro f ps r
  induction r with
  |nil=>exact λa=>a
  |@cons p q ps qs h t Y =>
   intro acc acc' a;show KT X.K H (putAll (dR acc p.1 p.2) ps) (storeAll (qO acc' q.1 q.2.1 q.2.2) qs);refine Y ?_;rw[<-h.1];exact a.put p.1 h.2.1 h.2.2.1 h.2.2.2
 refine uY (prog:=X.prog) (w:=X.w) (ps:=ps) (I.ok.hd hc) hu ho M O N (by rw[cx];nofun) (λj u x a b=>?_) (by rw[cx,<-E];rw[ag]at T;exact T) λh' tk hD kp=>?_
 .have a':L[j]?=eH u:=by simpa using a
  have hj:j<ts.length:=by
   have:=(bY.mp a').1;nofun
  let⟨u',e1,r1⟩:=rv.get (i:=j) (x:=V.ref ts[j]) (by simp[hj]);rw[a']at e1;cases e1;cases(show u=Value.ref ts[j]from r1);exact pa j ts[j] x (by simp[hj]) b
 .have hm:(putAll [] f).length<=ak:=by
   have B:=xJ f [];rw[lU]at B;rw[ag]at T;nofun
  let⟨q',es,ep,hq,C,h3,h4,_,h5⟩:=hD;have G:=all D (acc:=[]) (acc':=[]) .nil;have fr:H ↑s=none:=I.fresh;exact⟨.ref ↑s,_,I.laid (o:=.dT<|putAll [] f) kp (aF _) ⟨hm,beq_eq_false_iff_ne.mpr<|dA<|cr I.big,_,G.keeps λc ys ec=>by rw[ah (λz=>by rw[z,fr]at ec;cases ec)];exact ec,q',es,ep,hq,C,h3,h4,h5⟩,fj,q _ fr⟩
def OA(K:Za)(n:Nat)(t:HR):TG:=λv σ H Q=>∃a xs,v=.ref a/\az K H a xs/\xs.length=n/\t xs σ H Q
theorem Og(w:X.calm=true)(h:Pf X f t)(x:(vf f X.env).length=n:=by rfl)(i:(vf f X.env).findIdx? (·.1)=none:=by rfl):PG X (.Tuple f k g) (OA X.K n t):=by
 intro p s σ H v u Q I r j;let⟨a,y,z,A,B,j⟩:=j;subst z;cases r;let⟨l,q,C,G⟩:=I.list A;have m:l.toArray.size=n:=by rw[cx,<-q.length,B]
 rw[assign_Tuple];refine ai<|C8 ?_;unfold unpack;rw[i,x,<-m];refine ai<|g7<|PySem.W.kun_itemsOf (I.ok.hd w) C.isList λD hx=>?_;have E:Inv X p σ H {s with heap:=D}:=I.kept (t':=s.toks) λb o e=>hx b o (cr<|aJ e) e;exact h p _ σ H y _ Q E ‹q› j
section
variable{X:Cx}
theorem cL(f:PE X (.List l p) e)(g:PA X a t):PA X (.List l p::a) (av e t):=bg f g rfl
theorem Vz(i:Nat)(g:X.N.Nodup)(h:PE X (.List l p) f)(hi:X.N[i]?=eH x:=by rfl)(hx:Loc X.env.scope x:=by first|exact Or.inl rfl|exact Or.inr rfl)(hf:X.fn x=true∨X.env.scope.names.lookup x=eH .local:=by first|exact .inl rfl|exact .inr rfl|assumption):
  PS X (.Assign [.Name x a] (.List l p) e) (aU f<|eX i):=KQ g hi hx h rfl hf
end
end L2
end
set_option Elab.async false
set_option linter.all false
set_option maxRecDepth 100000
set_option maxHeartbeats 4000000
namespace UG
open L2.V renaming str->WB,ref->WC,int->WD
open PySem Spec PyProof.Rows L2
def BE(K:Za):TS :=
 aq (cV (a_<|aI UX V0<|aI NM (tC<|.int 10)<|tC<|.int 18) (bo V0)<|bC)
 (aq (aU (aI k5 (aI fM (aI fM (aI kB (aI k5 V0<|tC<|.int 1000000007)<|tC<|.int 69069)<|aI kB V1<|tC<|.int 40503)<|tC<|.int 977)<|tC<|.int 2147483629) U2)
 (aq (aU (aI k5 (aI fM (aI fM (aI kB V2 V2)<|aI kB V1<|tC<|.int 7919)<|aI k5 V0<|tC<|.int 65537)<|tC<|.int 2147483587) U3)
 (aq (aU (aI k5 (aI fM (aI fM (aI kB V3 V3)<|aI kB V2<|tC<|.int 31)<|tC<|.int 5)<|tC<|.int 2147483563) U4)
 (bo<|aI fM (aI kB (aI fM (aI kB V2<|tC<|.int 2147483659) V3)<|tC<|.int 2147483693) V4))))
def CP:List Ws:=["cell","at","one","two","three"]
def Fc(K:Za):TS :=
 aq (aU (dL (eR K)<|aB<|Ka (BY K) V0 (jj)<|nV<|tC<|.int 12) U1)
 (aq (ee (xZ K<|aB<|Ka (BY K) V0 (nV<|tC<|.int 12)<|nV<|tC<|.int 63) (gR K 2<|aY U2<|aY U3<|gf)<|aU (aI fM (aI (dE K) V1<|aI k5 V2<|tC<|.int 12) V3)<|Jg V1 (aI k5 V2<|tC<|.int 12) Ac)
 (bo<|bw<|eP V1 (tC<|.int 0)<|tC<|.int 0))
def Gy:List Ws:=["script","cells","k","cell"]
def Fa(K:Za)(Ru:Sp):TS :=
 aq (cV (a_<|aI FE (aI (dE K) V0<|tC<|.int 2) V1) (aq (aU (aI (dE K) V0<|tC<|.int 1) U2)
 (aq (aU (tC<|.int 0) U3)
 (aq (cV (a_<|aI FE V2<|dL (dO K)<|aB<|aI (dE K) V0<|tC<|.int 0) (aU (aI (dE K) (aI (dE K) V0<|tC<|.int 0) V2) U3)<|cV (a_<|aI DC (dL (dO K)<|aB<|aI (dE K) V0<|tC<|.int 0)<|tC<|.int 0) (aU (aI k5 (aI (dE K) (aI (dE K) V0<|tC<|.int 0)<|aI k5 (aI fM (aI kB V2<|tC<|.int 5)<|tC<|.int 3)<|dL (dO K)<|aB<|aI (dE K) V0<|tC<|.int 0)<|aI fM (aI NM (tC<|.int 10)<|tC<|.int 17) V2) U3)<|bC)
 (aq (aU (aI fM V2<|tC<|.int 1)<|Jg V0 (tC<|.int 1) Ac)
 (aU (aM Ru<|aK V3 V2)<|Jg V0 (tC<|.int 2) Ac)))))<|bC)
 (aq (aU (aI k5 (aI (dE K) V0<|tC<|.int 2) V1) U4)
 (aq (aU (aI KM (aI (dE K) V0<|tC<|.int 2) V1)<|Jg V0 (tC<|.int 2) Ac)
 (bo V4)))
def Gw:List Ws:=["pen","many","at","cell","found"]
def Di(K:Za)(hE:Sp):TS :=
 aq (aU (tC<|.str "abcdefghijklmnopqrstuvwxyz") U2)
 (aq (aU (wb K "str" (NN K) (tC<|.str "")<|av (cZ 1 [2,0] (vA<|aB<|tC<|.int 7) U0 (iN)<|aI FG V1<|aM hE<|aK V2<|tC<|.int 26) aW) U3)
 (aq (aU (aM hE<|aK V0<|tC<|.int 3) U4)
 (aq (aU (aM hE<|aK V0<|tC<|.int 26) U5)
 (aq (aU (aM hE<|aK V0<|tC<|.int 8) U6)
 (aq (aU (bw<|aW) U7)
 (aq (ee (vA<|aB V1) U8 (aq (aU (aI FG V2<|aI k5 (aI fM V5<|aI kB (tC<|.int 3) V8)<|tC<|.int 26) U9)
 (aq (aU (Ka IK V3 (jj)<|nV<|aI k5 (aI fM V6<|aI kB V8<|aI k5 V4<|tC<|.int 2)<|tC<|.int 8) OQ)
 (aq (aU (aI (dE K) (bw<|eP (tC<|.int 0) (dL (dO K)<|aB Gp)<|aI KM (dL (dO K)<|aB Gp)<|tC<|.int 2) V4) OP)
 (cY<|wb K "list" d4 V7<|aB<|aI KO (aI KO (Ka IK Gp (jj)<|nV ED) V9)<|Ka IK Gp (nV ED)<|jj)))))
 (bo V7)))))))
def EJ:List Ws:=["pen","many","letters","base","way","turn","size","found","k","sign","part","at"]
def Ij(K:Za):TS :=
 cV (a_<|aI (lZ K true) V1 V0) (cY<|wb K "list" d4 V0<|aB V1) (bC)
def JC:List Ws:=["doors","door"]
def uD(K:Za)(hE:Sp)(E':Sp):TS :=
 aq (aU (bw<|aW) U5)
 (aq (aU (aM hE<|aK V0<|tC<|.int 2) U6)
 (aq (ee (xZ K<|aB V3) (gR K 2<|aY U7<|aY U8<|gf) (aq (ee (vA<|av (aI (dE K) (bw<|av (tC<|.int 0)<|eP (tC<|.int 1) (tC<|.int 1)<|tC<|.int 2)<|aM hE<|aK V0<|tC<|.int 4) aW) U9 (aq (aU (cB<|av (tC<|.str "say")<|av (aI (dE K) V2<|aM hE<|aK V0<|dL (dO K)<|aB V2) aW) OQ)
 (cY<|aM E'<|av V5<|av (cB<|av V8<|av Gp<|av (aI (dE K) V3<|aM hE<|aK V0<|dL (dO K)<|aB V3) aW) aW)))
 (aq (ee (bU K V1) OP<|ee (vA<|av (aI (dE K) (bw<|av V4<|eP (tC<|.int 1) (tC<|.int 1)<|tC<|.int 2)<|aM hE<|aK V0<|tC<|.int 4) aW) U9<|cY<|aM E'<|av V5<|av (cB<|av V8<|av (cB<|aK (tC<|.str "ask") ED)<|av (aI (dE K) V3<|aM hE<|aK V0<|dL (dO K)<|aB V3) aW) aW)
 (aq (aU (aI (dE K) (bw<|av (Ka (BY K) V3 (nV<|aI fM V7<|tC<|.int 1)<|jj)<|aB<|Ka (BY K) V3 (jj)<|nV V7) V6) Wh)
 (cV (uN (a_<|aI (FD K) Vo<|bw<|aW)<|a_<|aI IL (aM hE<|aK V0<|tC<|.int 3)<|tC<|.int 0) (cY<|aM E'<|av V5<|av (cB<|av V8<|av (cB<|aB<|tC<|.str "still")<|av (aI (nh K) Vo<|aM hE<|aK V0<|dL (dO K)<|aB Vo) aW) aW)<|bC)))))
 (bo V5)))
def u7:List Ws:=["pen","asks","says","rooms","full","doors","down","k","room","turn","sign","ask","later"]
def yT(K:Za)(gi:Wk)(A':Sp):TS :=
 bo (z6 gi A' [] E0<|av (dL (eR K)<|aB<|aI (nh K) V0<|tC<|.int 0)<|av (dL (eR K)<|aB<|aI (nh K) V0<|tC<|.int 1)<|av (dL (eR K)<|aB<|aI (nh K) V0<|tC<|.int 2)<|av (dL (eR K)<|aB<|aI (nh K) V0<|tC<|.int 3) aW)
def zG:List Ws:=["told"]
def Ik(K:Za):TS :=
 bo (vk (aI MP V0<|tC<|.str "")<|vk (aI Od (dL (dO K)<|aB V0)<|tC<|.int 8)<|dL (MR K)<|aB<|cZ 1 [] (O7 V0) U0 (iN)<|aI UW V0<|tC<|.str "abcdefghijklmnopqrstuvwxyz")
def JE:List Ws:=["text"]
def Il(K:Za):TS :=
 aq (aU (uM) U1)
 (aq (ee (bU K V0) U2<|kz V1 V2<|tC<|.bl true)
 (bo V1))
def JF:List Ws:=["things","keys","thing"]
def rc(K:Za)(wh:Sp)(oD:Sp):TS :=
 aq (cV (a_<|aI IL (dL (dO K)<|aB V0)<|tC<|.int 0) (bo<|tC<|.int 0)<|bC)
 (aq (aU (aM oD<|aB V2) U3)
 (aq (ee (xZ K<|aB V0) (gR K 2<|aY U4<|aY U5<|gf) (aq (cV (C3 (a_<|aI IL V4 V1)<|C3 (tB<|Ip K V5 V3)<|oN<|tB<|aM wh<|aB V5) (bo V4)<|bC)
 (kz V3 V5<|tC<|.bl true)))
 (bo<|tC .zr)))
def rU:List Ws:=["names","most","taken","ahead","number","name"]
def BH(K:Za)(ro:Wk):TS :=
 bo (aI jU (aI jU (cZ 1 [] (bU K V0) U0 (iN)<|cB<|aK (tC<|.str "ask") V0)<|cZ 1 [] (bU K V1) U0 (iN)<|cB<|aK (tC<|.str "say") V0)<|bw<|aB<|tC<|.ref ro)
def CT:List Ws:=["asks","says"]
def re(K:Za)(oD:Sp):TS :=
 aq (aU (aM oD<|aB V1) U3)
 (aq (aU (oQ) U4)
 (aq (ee (xZ K<|aB V0) (gR K 2<|aY U5<|aY U6<|gf) (aq (cV (C3 (a_<|aI IL V5<|tC<|.int 2000)<|tB<|Ip K V6 V4) (bo V5)<|bC)
 (aq (cV (C3 (tB<|kU K (aI (nh K) V6<|tC<|.int 0) V3)<|C3 (a_<|aI (lZ K true) (aI (nh K) V6<|tC<|.int 1) V2)<|tB<|kU K (aI (nh K) V6<|tC<|.int 2) V3) (bo V5)<|bC)
 (kz V4 V6<|tC<|.bl true))))
 (bo<|tC .zr)))
def rV:List Ws:=["doors","rooms","signs","own_rooms","ahead","number","door"]
def kM(K:Za):TS :=
 aq (aU (oQ) U1)
 (aq (ee (bU K V0) (gR K 3<|aY U2<|aY U3<|aY U4<|gf)<|cY<|wb K "list" d4 (wb K "dict" G9 V1<|aK (cB<|av V2<|aB V3)<|bw<|aW)<|aB V4)
 (bo V1))
def kP:List Ws:=["doors","goals","start","sign","goal"]
def xh(K:Za)(ro:Wk):TS :=
 aq (aU (uM) U2)
 (aq (aU (bw<|aB V1) U3)
 (aq (xo (a_<|aI DC (dL (dO K)<|aB V3)<|tC<|.int 0) (aq (aU (OY K "list" O2 V3) U4)
 (ee (O8 K<|oR K V0 (cB<|aK V4<|tC<|.ref ro)<|cB<|aW) U5 (cV (tB<|kU K V5 V2) (aq (kz V2 V5<|tC<|.bl true)
 (cY<|wb K "list" d4 V3<|aB V5))<|bC))))
 (bo V2)))
def yC:List Ws:=["goals","room","led","waiting","here","goal"]
def sy(K:Za):TS :=
 aq (ee (xZ K<|aB V0) (gR K 2<|aY U2<|aY U3<|gf)<|cV (tB<|Ip K V3<|oS K V1 V3) (bo V2)<|bC)
 (bo<|tC .zr)
def tX:List Ws:=["rooms","led","number","room"]
def De(K:Za):TS :=
 cV (tB<|NJ V1) (oO) (bC)
def EF:List Ws:=["part","number"]
def BD(K:Za)(lA:Sp)(mv:Sp)(rz:Sp)(i0:Sp):TS :=
 aq (cY<|aM lA<|aK (tC<|.str "asks")<|aM i0<|eP V0 (tC<|.int 4)<|bw<|aW)
 (aq (cY<|aM lA<|aK (tC<|.str "says")<|aM i0<|eP V1 (tC<|.int 4) V0)
 (aq (cY<|aM lA<|aK (tC<|.str "rooms")<|aM i0<|eP V2 (tC<|.int 150)<|bw<|aW)
 (cY<|aM lA<|av (tC<|.str "doors")<|aB<|aM mv<|eP V3 V2<|aM rz<|aK V0 V1)))
def CO:List Ws:=["asks","says","rooms","doors"]
def uG(K:Za):TS :=
 aq (aU (uM) U2)
 (aq (ee (bU K V0) U3<|kz V2 V3<|bw<|aW)
 (aq (ee (bU K V1) U4<|cY<|wb K "list" d4 (oS K V2<|aI (nh K) V4<|tC<|.int 0)<|aB V4)
 (bo V2)))
def va:List Ws:=["rooms","doors","leaving","room","door"]
def uE(K:Za):TS :=
 bo (dL (MR K)<|av (cZ 1 [] (bU K V0) U0 (iN)<|aI IL (aI (nh K) (aI (nh K) V0<|tC<|.int 1)<|tC<|.int 0)<|tC<|.str "ask") aW)
def u8:List Ws:=["doors"]
def rh(K:Za)(lA:Sp)(mI:Sp)(QW:Sp)(J1:Sp)(oD:Sp)(qx:Sp)(qy:Sp)(rr:Sp):TS :=
 aq (cY<|aM rr<|av V1<|eP V2 V3 V4)
 (aq (tj K V0 (dL (eR K)<|aB V1) "own_asks")
 (aq (tj K V0 (dL (eR K)<|aB V2) "own_says")
 (aq (tj K V0 (dL (eR K)<|aB V3) "own_rooms")
 (aq (tj K V0 (dL (eR K)<|aB V4) "own_doors")
 (aq (tj K V0 (aM qy<|aK V3 V4) "leaving")
 (aq (tj K V0 (aM oD<|av (cZ 1 [0] (bU K V3) U0 (tB<|aM qx<|aB<|oS K (ik K V1 "leaving") V0) V0) aW) "quiet")
 (aq (tj K V0 (aM J1<|aB V4) "sign_goals")
 (aq (tj K V0 (dL (MQ K)<|av (cZ 1 [0] (bU K V3) U0 (iN)<|cB<|aK V0<|aM QW<|av (ik K V1 "sign_goals")<|aB V0) aW) "still_led")
 (cY<|aM lA<|aK (tC<|.str "still")<|aM mI<|av V3<|aB<|ik K V0 "still_led")))))))))
def rY:List Ws:=["self","asks","says","rooms","doors"]
def rg(K:Za):TS :=
 bo (Ip K V1<|ik K V0 "quiet")
def rX:List Ws:=["self","room"]
def qr(K:Za)(mu:Sp)(gi:Wk)(ri:Sp)(sv:Wk)(Qe:Sp):TS :=
 aq (cV (a_<|aI (n6 K) V2<|tC<|.ref sv) (bo<|dL (G7 K)<|aB<|cZ 1 [0] (Ng K V1) U0 (tB<|cF gi "is_quiet" Qe [] E0 V1<|aB V0) V0)<|bC)
 (aq (aU (bw<|aW) U3)
 (aq (ee (Ng K V1) U4<|cY<|wb K "list" tu V3<|aB<|cF gi "goals" ri [] E0 V0<|aK V4 V2)
 (bo<|aM mu<|aK V0 V3)))
def qt:List Ws:=["M","face","sign","goals","room"]
def fO(p:Wk)(H H':Hp):Prop:=∀b o,H b=eH o->b≠p->H' b=eH o
theorem fO.refl(p:Wk)(H:Hp):fO p H H:=λ_ _ h _=>h
theorem fO.trans(a:fO p H e)(b:fO p e f):fO p H f:=λc o h n=>b c o (a c o h n) n
theorem ab.T6(a:ab H e):fO p H e:=λb o h _=>a b o h
theorem fO.upd(p:Wk)(H:Hp)(o:HO):fO p H (upd H p o):=λb u h n=>by rw[ah n];exact h
theorem ab.new(h:H a=none):ab H (upd H a o):=λb u e=>by rw[ah<|ae e h];exact e
theorem fO.free(e:fO p H a)(f:a p=eH u)(h:a l=none):H l=none:=by
 cases q:H l with
 |none=>rfl
 |some o =>
  by_cases z:l=p
  .subst z;rw[f]at h;cases h
  .rw[e l o q z]at h;cases h
theorem kp(h:H b=eH o)(n:H a=none):upd H a x b=eH o:=by rw[ah<|ae h n];exact h
structure HS(H:Hp)(p c:Wk)(at_ rest:Int)(ns:List Int):Prop where
 pen:H p=eH (.lst [.ref c,.int at_,.int rest])
 cells:H c=eH (.lst (ns.map WD))
 TU:0<=at_
 Uu:0<=rest
theorem HS.ne(h:HS H p c a r g):c≠p:=by
 intro e;have i:=h.pen;have f:=h.cells;rw[e,i]at f;injection f with f;injection f with f;cases g with
 |nil=>cases f
 |cons n g=>injection f with f;cases f
def jL(H:Hp)(p c:Wk):Prop:=∃a r ns,HS H p c a r ns
theorem jL.ex(h:jL H p c)(e:ab H H'):jL H' p c:=by
 let⟨a,r,f,g,i,j,k⟩:=h;exact⟨a,r,f,e _ _ g,e _ _ i,j,k⟩
theorem jL.pen(h:jL H p c):∃o,H p=eH o:=by
 let⟨a,r,f,e,_⟩:=h;exact⟨_,e⟩
theorem jL.cell(h:jL H p c):∃o,H c=eH o:=by
 let⟨a,r,f,_,e,_⟩:=h;exact⟨_,e⟩
theorem jL.upd{H:Hp}{p c l:Wk}{o:HO}(h:jL H p c)(e:p≠l)(f:c≠l):jL (upd H l o) p c:=by
 let⟨a,r,g,i,j,k,m⟩:=h;exact⟨a,r,g,by rw[ah e];exact i,by rw[ah f];exact j,k,m⟩
theorem jL.Sh(h:jL H p c)(a:H l=none):p≠l:=let⟨_,e⟩:=h.pen;ae e a
theorem jL.Uk(h:jL H p c)(a:H l=none):c≠l:=let⟨_,e⟩:=h.cell;ae e a
theorem fO.new(h:H a=none):fO p H (L2.upd H a o):=λb u e _=>by rw[ah<|ae e h];exact e
inductive pA (vs:List V)(H:Hp)(Q:VK)(E:XK):Prop
 |mk (c a:Int):vs=[.int c,.int a]->0<=a->(∀r:Int,0<=r->Q (.int r) H)->pA  vs H Q E
theorem tU(a:-(2 ^ 64)<j)(e:j<2 ^ 64):LU i j:=.inr ⟨a,e⟩
theorem Iv{K:Za}(h:pA f H Q E):BE K (bT Q) (start CP f) H:=by
 let⟨c,a,rfl,x,k⟩:=h;apply⟨_,fj,_,_,fj,fj,⟨Wt,Wt,Wt⟩,_,_,fj,fj,_,fj,?_⟩;refine rJ (λh=>?_)<|λ_=>?_
 .refine⟨_,fj,k _ ?_⟩;have:=of_decide_eq_true h;have e:((10:Int) ^ (18:Int).toNat)=1000000000000000000:=by decide
  nofun
 .have one:∀z:Int,0<=z % 2147483629/\z % 2147483629<2147483629:=λz=>⟨t_ _ Wt,t8 _ Wt⟩;have two:∀z:Int,0<=z % 2147483587/\z % 2147483587<2147483587:=λz=>⟨t_ _ Wt,t8 _ Wt⟩;have three:∀z:Int,0<=z % 2147483563/\z % 2147483563<2147483563:=λz=>⟨t_ _ Wt,t8 _ Wt⟩;apply⟨_,fj,_,_,fj,fj,(by show(0:Int)<1000000007;decide),_,_,fj,fj,tU Wt Wt,_,fj,_,_,fj,fj,tU Wt Wt,_,_,fj,fj,_,_,fj,fj,_,_,fj,fj,(by show(0:Int)<2147483629;decide),?_⟩;generalize l:(c % 1000000007 * 69069+a * 40503+977)=g;let⟨m,n⟩:=one g;generalize g % 2147483629=o at m n ⊢;apply⟨_,fj,_,fj,_,_,fj,fj,tU ⋯ ⋯,_,fj,_,_,fj,fj,tU Wt Wt,_,_,fj,fj,_,fj,_,_,fj,fj,(by show(0:Int)<65537;decide),_,_,fj,fj,_,_,fj,fj,(by show(0:Int)<2147483587;decide),?_⟩;generalize p:(o * o+a * 7919+c % 65537)=i;let⟨s,t⟩:=two i;generalize i % 2147483587=q at s t ⊢;apply⟨_,fj,_,fj,_,_,fj,fj,tU ⋯ ⋯,_,fj,_,_,fj,fj,tU Wt Wt,_,_,fj,fj,_,_,fj,fj,_,_,fj,fj,(by show(0:Int)<2147483563;decide),?_⟩;generalize u:(q * q+o * 31+5)=j;let⟨v,w⟩:=three j;generalize j % 2147483563=r at v w ⊢;apply⟨_,fj,_,_,fj,fj,tU Wt Wt,_,fj,_,_,fj,fj,_,_,fj,fj,tU Wt Wt,_,fj,_,_,fj,fj,k _ ?_⟩;nofun
theorem HK{ns:List Int}{a:Int}(e:0<=a)(g:a<ns.length):∃z,yP (ns.map WD) a=eH (.int z):=by
 let⟨n,rfl⟩:=lH e;have f:n<ns.length:=by nofun
 exact⟨ns[n],cO (by simp[f])⟩
inductive im (vs:List V)(H:Hp)(Q:VK)(E:XK):Prop
 |mk (p c:Wk) (m:Int):vs=[.ref p,.int m]->jL H p c->0<m->m<1073741824->(∀(r:Int) (H':Hp),0<=r->r<m->jL H' p c->fO p H H'->Q (.int r) H')->im  vs H Q E
theorem fT(e:jL H p c)(f:0<m)(g:m<1073741824)(k:∀(r:Int) (a:Hp),0<=r->r<m->jL a p c->fO p H a->Q (.int r) a):im [.ref p,.int m] H Q E:=by
 exact⟨p,c,m,fj,e,f,g,k⟩
theorem MB{K:Za}(h:im t H Q E):Fa K pA (bT Q) (start Gw t) H:=by
 let⟨p,c,m,rfl,⟨a,r,ns,h⟩,j,l,k⟩:=h;have f:∀(H':Hp) (n u:Int) (x y:Option V),HS H' p c n u ns->fO p H H' ->
   (aq (aU (aI k5 (aI (dE K) V0<|tC<|.int 2) V1) U4)<|aq (aU (aI KM (aI (dE K) V0<|tC<|.int 2) V1)<|Jg V0 (tC<|.int 2) Ac)<|bo V4)
    (bT Q) [eH<|.ref p,eH<|.int m,x,y,none] H':=by
  intro H' n u x y g ex;apply⟨_,fj,p,_,2,_,fj,fj,az.of g.pen,fj,_,fj,_,_,fj,fj,j,?_⟩;apply⟨_,fj,p,_,2,_,fj,fj,az.of g.pen,fj,_,fj,_,_,fj,fj,⟨j,l⟩,_,fj,p,_,_,_,fj,fj,g.pen,fj,?_⟩;apply⟨_,fj,k _ _ (t_ _ ⋯) (t8 _ j) ⟨n,_,ns,aa,?_,g.TU,Int.ediv_nonneg g.Uu ⋯⟩<|ex.trans<|fO.upd _ _ _⟩;rw[ah g.ne];exact g.cells
 apply⟨_,fj,p,_,2,_,fj,fj,az.of h.pen,fj,_,fj,_,_,fj,fj,_,fj,?_⟩;refine rJ (λB=>?_)<|λB=>?_
 .-- at=pen[1];cell=0;if at<len(pen[0])
  apply⟨_,fj,p,_,1,_,fj,fj,az.of h.pen,fj,?_⟩;have o:(WD ((ns.map WD).length:Nat))=WD (ns.length:Nat):=by rw[ag]
  apply⟨_,fj,_,fj,p,_,0,_,fj,fj,az.of h.pen,fj,.inl ⟨c,_,fj,.inl<|az.of h.cells,_,_,fj,o,_,fj,?_⟩⟩;refine rJ (λv=>?_)<|λv=>?_
  .obtain⟨z,s⟩:=HK (ns:=ns) h.TU<|of_decide_eq_true v;apply⟨_,fj,p,_,0,_,fj,fj,az.of h.pen,fj,_,fj,c,_,_,_,fj,fj,az.of h.cells,s,?_⟩;apply⟨_,fj,_,_,fj,fj,_,fj,p,_,_,_,fj,fj,h.pen,fj,?_⟩;apply⟨_,fj,_,fj,_,_,fj,h.TU,λq i=>⟨_,fj,p,_,_,_,fj,fj,aa,fj,?_⟩⟩;rw[v9];refine f _ (a+1) q _ _ ⟨aa,by rw[ah h.ne];exact h.cells,by have:=h.TU;nofun,i⟩<|fO.upd _ _ _
  .refine⟨_,fj,p,_,0,_,fj,fj,az.of h.pen,fj,.inl ⟨c,_,fj,.inl<|az.of h.cells,_,_,o,fj,_,fj,?_⟩⟩;refine rJ (λw=>?_)<|λw=>?_
   .have A:(0:Int)<ns.length:=of_decide_eq_true w;let⟨z,s⟩:=HK (ns:=ns) (a:=(a * 5+3) % (ns.length:Int)) (t_ _ ⋯)<|t8 _ A;apply⟨_,fj,p,_,0,_,fj,fj,az.of h.pen,fj,_,fj,_,_,fj,fj,tU Wt Wt,_,_,fj,fj,_,fj,p,_,0,_,fj,fj,az.of h.pen,fj,.inl ⟨c,_,fj,.inl<|az.of h.cells,_,_,fj,o,A,c,_,_,_,fj,fj,az.of h.cells,s,?_⟩⟩;apply⟨_,_,fj,fj,⟨Wt,Wt,Wt⟩,_,fj,_,_,fj,fj,_,_,fj,fj,?_,?_⟩
    .have e:((10:Int) ^ (17:Int).toNat)=100000000000000000:=by decide
     have:=h.TU;show(0:Int)<10 ^ (17:Int).toNat+a;nofun
    apply⟨_,fj,_,_,fj,fj,_,fj,p,_,_,_,fj,fj,h.pen,fj,?_⟩;apply⟨_,fj,_,fj,_,_,fj,h.TU,λq i=>⟨_,fj,p,_,_,_,fj,fj,aa,fj,?_⟩⟩;rw[v9];refine f _ (a+1) q _ _ ⟨aa,by rw[ah h.ne];exact h.cells,by have:=h.TU;nofun,i⟩<|fO.upd _ _ _
   .refine⟨_,fj,_,_,fj,fj,_,fj,p,_,_,_,fj,fj,h.pen,fj,?_⟩;apply⟨_,fj,_,fj,_,_,fj,h.TU,λq i=>⟨_,fj,p,_,_,_,fj,fj,aa,fj,?_⟩⟩;rw[v9];refine f _ (a+1) q _ _ ⟨aa,by rw[ah h.ne];exact h.cells,by have:=h.TU;nofun,i⟩<|fO.upd _ _ _
 .exact f H a r _ _ h<|fO.refl _ _
inductive wg(K:Za)(vs:List V)(H:Hp)(Q:VK)(E:XK):Prop
 |mk (a:Wk) (ns:List Int):vs=[.ref a]->az K H a (ns.map WD)->ns.length<=63->(∀(p c:Wk) (H':Hp),H p=none->jL H' p c->ab H H'->Q (.ref p) H')->wg K vs H Q E
theorem Aw(a:List Int)(lo hi:Option Int):∃e:List Int,mM (a.map WD) lo hi=e.map WD/\e.length=(mM (a.map WD) lo hi).length:=by
 apply⟨(a.drop<|HT.PJ (a.map WD).length 0 lo).take<|HT.PJ (a.map WD).length (a.map WD).length hi-HT.PJ (a.map WD).length 0 lo,?_,?_⟩
 .unfold mM;rw[List.map_take,List.map_drop]
 .unfold mM;rw[aS,aS,lX,lX,ag]
theorem MG{K:Za}(h:wg K vs H Q E):Fc K (bT Q) (start Gy vs) H:=by
 let⟨a,s,rfl,hs,hn,k⟩:=h;let⟨D,e0,l0⟩:=Aw s none<|some 12;let⟨B,e1,l1⟩:=Aw s (eH 12)<|some 63;have G:B≠[]->D.length=12:=by
  intro L;have l:0<B.length:=by cases B with|nil=>exact absurd rfl L|cons _ _=>simp
  rw[l1]at l;rw[l0];unfold mM at l ⊢;rw[aS,lX,ag]at l;rw[aS,lX,ag];have s1:HT.PJ s.length 0 (eH 12)=min 12 s.length:=HT.Qb _ _ 12;have s2:HT.PJ s.length s.length (eH 12)=min 12 s.length:=HT.Qb _ _ 12;rw[HT.P4,s2];rw[s1]at l;nofun
 apply⟨_,fj,_,fj,a,_,fj,hs,λq hq=>.inl ⟨q,_,fj,.inl<|az.of aa,λc C=>?_⟩⟩;rw[e0]at C ⊢;have M:H c=none:=by
  have:c≠q:=λz=>by subst z;rw[aa]at C;cases C
  rw[ah this]at C;exact C
 have hS:ab H (upd (upd H q<|.lst<|D.map WD) c<|.lst<|D.map WD):=(ab.new hq).trans<|ab.new C;apply⟨_,fj,_,fj,_,fj,a,_,fj,hS.seq hs,λr N=>⟨r,fj,⟨_,az.of aa⟩,?_⟩⟩;rw[e1];have O:c≠r:=ae aa N
 let T:Nat->L2.St->Hp->Prop:=λi σ w=>L_ λ(j:List Int) (x y:Option V)=>Ma (σ=[eH<|.ref a,eH<|.ref c,x,y]) (w c=eH (.lst<|j.map WD)) (j.length=D.length) (w r=eH (.lst<|B.map WD))<|ab H w
 refine o8 (xs:=B.map WD) T
  ⟨D,none,none,fj,kp aa N,fj,aa,hS.trans<|ab.new N⟩ (λi σ w _ zq=>by let⟨j,x,y,_,_,_,h,_⟩:=zq;exact az.of h) ?_ ?_
 .rintro i x σ w t hi ⟨j,u,v,rfl,f,I,J,m⟩ U;have A:i<B.length:=by
   have:=(bY.mp hi).1;rwa[ag]at this
  have an:=G (λz=>by rw[z]at A;simp at A);obtain⟨z,rfl⟩:∃z,x=WD z:=by
   rw[bV,bj A]at hi;exact⟨_,(gp hi).symm⟩
  have g:upd w t (.tup [.int i,.int z]) c=eH (.lst<|j.map WD):=kp f U;have n:(i:Int) % 12=((i % 12:Nat):Int):=by nofun
  have Y:i % 12<j.length:=by nofun
  apply⟨t,_,fj,bE.of aa,fj,_,_,fj,_,_,fj,fj,?_⟩;have al:yP (j.map WD) ((i:Int) % 12)=eH (.int j[i % 12]):=by rw[n];exact cO (by simp[Y])
  apply⟨_,fj,_,fj,_,_,fj,fj,(by show(0:Int)<12;decide),c,_,_,_,fj,fj,az.of g,al,_,fj,_,_,fj,fj,_,fj,_,fj,_,_,fj,fj,(by show(0:Int)<12;decide),c,_,_,i % 12,fj,fj,g,?_,?_⟩
  .rw[n];unfold NU;rw[if_pos ⋯,if_pos (by rw[ag];nofun)];rw[gM]
  .refine⟨j.set (i % 12)<|j[i % 12]+z,_,_,fj,?_,by rw[List.length_set];exact I,?_,?_⟩
   .rw[aa,List.map_set]
   .rw[ah O.symm];exact kp J U
   .intro b o e;rw[ah<|ae e M];exact kp (m b o e) U
 .rintro σ w ⟨j,x,y,rfl,f,I,J,m⟩;apply⟨_,fj,(by show 3<=ak;decide),λp hp=>k p c _ (m.free hp) ⟨0,0,j,aa,kp f hp,Int.le_refl _,Int.le_refl _⟩<|m.trans<|ab.new hp⟩
def xS(c:Nat):Prop:=97<=c/\c<=122
structure r8(w:Ws):Prop where
 lo:1<=w.length
 hi:w.length<=8
 al:∀c∈w.cps.toList,xS c
theorem HM:∀n:Nat,n<26->(("abcdefghijklmnopqrstuvwxyz":Ws).cps.toList)[n]?=eH (97+n):=by decide +kernel
theorem HL:("abcdefghijklmnopqrstuvwxyz":Ws).length<=ak:=by decide +kernel
theorem LJ(a:0<=r)(e:r<26):yP (("abcdefghijklmnopqrstuvwxyz":Ws).cps.toList) r=eH (97+r.toNat):=by
 let⟨n,rfl⟩:=lH a;rw[gM];exact cO (HM n ⋯)
theorem zv(f:List Nat):∀a:Array Nat,((f.map λc=>(⟨#[c]⟩:Ws)).foldl (λa p=>a++("":Ws).cps++p.cps) a).toList=a.toList++f:=by
 have e:("":Ws).cps=#[]:=by decide +kernel
 induction f with
 |nil=>intro a;simp
 |cons c f g =>
  intro a;rw[bL,List.foldl_cons,g,e];simp
theorem FU(a:List Nat):(Ba ""<|a.map λc=>(⟨#[c]⟩:Ws)).cps.toList=a:=by
 unfold Ba bx.Str.glued;cases a with
 |nil=>rfl
 |cons c a =>
  rw[bL];show((a.map λc=>(⟨#[c]⟩:Ws)).foldl (λe p=>e++("":Ws).cps++p.cps) #[c]).toList=_;rw[zv]
  rfl
theorem Mu{a b:Ws}(h:a.cps.toList=b.cps.toList):a=b:=by
 cases a with|mk x=>cases b with|mk y=>exact congrArg Str.mk<|Array.toList_inj.mp h
theorem gA(a:Ws):a.length=a.cps.toList.length:=by simp[Str.length]
theorem CH(a b:Ws):(a++b).cps.toList=a.cps.toList++b.cps.toList:=by
 show(a.cps++b.cps).toList=_;simp
theorem Lx(z:Ws)(m:Nat):(yg z none<|some (m:Int)).cps.toList=z.cps.toList.take m:=by
 unfold yg;rw[HT.P4,HT.Qb,ul,A8,gA];show List.take _ _=_;rw[List.take_eq_take_iff];nofun
theorem Ly(z:Ws)(m:Nat):(yg z (eH (m:Int)) none).cps.toList=z.cps.toList.drop m:=by
 unfold yg;rw[HT.P4,HT.Qb,gA];show List.take _ _=_;rw[List.take_of_length_le (by rw[lX];nofun)];by_cases h:m<=z.cps.toList.length
 .rw[Nat.min_eq_left h]
 .rw[Nat.min_eq_right ⋯,List.drop_length,wP ⋯]
def gk(way size k:Nat):Nat:=(size+k * (way % 2)) % 8
def EN(way m:Nat):Nat:=if way=0 then 0 else if way=1 then m else m / 2
def qq(b:List Nat)(way turn size k:Nat):List Nat :=
 (b.take<|gk way size k).take (EN way<|gk way size k)++[97+(turn+3 * k) % 26]++(b.take<|gk way size k).drop (EN way<|gk way size k)
def C_(b:List Nat)(way turn size k:Nat):Ws:=⟨(qq b way turn size k).toArray⟩
theorem ux(f:b.length=7)(e turn a k:Nat):(qq b e turn a k).length=gk e a k+1:=by
 have g:gk e a k<8:=wJ _ Wt;unfold qq;rw[aA,aA,aS,lX,aS,f];have:EN e (gk e a k)<=gk e a k:=by unfold EN;split;nofun;split;nofun;nofun
 simp;nofun
theorem Mh(i:b.length=7)(g:∀c∈b,xS c)(f turn a k:Nat):r8 (C_ b f turn a k):=by
 have j:gk f a k<8:=wJ _ Wt;have h:=ux i f turn a k;have e:(C_ b f turn a k).cps.toList=qq b f turn a k:=by simp[C_]
 apply⟨?_,?_,?_⟩
 .rw[gA,e];nofun
 .rw[gA,e];nofun
 .rw[e];intro c hc;unfold qq at hc;obtain hc|hc:=bt.mp hc
  .obtain hc|hc:=bt.mp hc
   .exact g c<|gK<|gK hc
   .have:c=97+(turn+3 * k) % 26:=by simpa using hc
    subst this;have:(turn+3 * k) % 26<26:=wJ _ Wt;exact⟨by nofun,by nofun⟩
  .exact g c<|gK<|List.mem_of_mem_drop hc
theorem JN(g:b.length=7)(t:f<3)(u:j<26)(v:k<26)(h:C_ b f turn a j=C_ b f turn a k):j=k:=by
 have o:∀i,gk f a i<8:=λi=>wJ _ Wt;have e:qq b f turn a j=qq b f turn a k:=by
  have:=congrArg (λs=>Str.cps s |>.toList) h;simpa[C_]using this
 have p:gk f a j=gk f a k:=by
  have:=congrArg List.length e;rw[ux g,ux g]at this;nofun
 have q:97+(turn+3 * j) % 26=97+(turn+3 * k) % 26:=by
  have l:∀i,EN f (gk f a i)<=gk f a i:=λi=>by unfold EN;split;nofun;split;nofun;nofun
  have get:∀i,(qq b f turn a i)[EN f<|gk f a i]?=eH (97+(turn+3 * i) % 26):=by
   intro i;unfold qq;have r:((b.take<|gk f a i).take<|EN f<|gk f a i).length=EN f (gk f a i):=by
    rw[aS,aS,g];have:=o i;have:=l i;nofun
   rw[dQ,oF ⋯,r,Nat.sub_self]
   rfl
  have m:=get j;have n:=get k;rw[e,p]at m;rw[m]at n;exact gp n
 nofun
def jp(ws:Zb):Prop:=ws.Nodup/\∀w∈ws,r8 w
def mZ(b:List Nat)(way turn size n:Nat):List Ws:=(oq n).map<|C_ b way turn size
theorem EU(g:b.length=7)(i:∀c∈b,xS c)(l:a<3)(q:n<=26):jp (mZ b a turn e n):=by
 apply⟨?_,λw m=>?_⟩
 .unfold mZ;rw[qF,jD];refine(List.nodup_range (n:=n)).imp_of_mem ?_;intro j k o p f h;exact f (JN g l (by have:=List.mem_range.mp o;nofun) (by have:=List.mem_range.mp p;nofun) h)
 .obtain⟨k,_,rfl⟩:=ar.mp m;exact Mh g i _ _ _ _
inductive oW (vs:List V)(H:Hp)(Q:VK)(E:XK):Prop
 |mk (p c:Wk) (n:Nat):vs=[.ref p,.int n]->jL H p c->n<=26->(∀(l:Wk) (ws:Zb) (H':Hp),jp ws->ws.length=n->H l=none->H' l=eH (.lst (ws.map WB))->jL H' p c->fO p H H'->Q (.ref l) H')->oW  vs H Q E
theorem Ky{K:Za}(h:oW A H Q E):Di K im (bT Q) (start EJ A) H:=by
 let⟨p,c,n,rfl,C,hn,k⟩:=h;apply⟨fj,7,fj,Wt,Wt,λl I=>?_⟩
 let aC:Nat->List V->Hp->Prop:=λi A u=>∃o:List Nat,A=o.map (λc=>WB ⟨#[c]⟩)/\o.length=i/\(∀c∈o,xS c)/\jL u p c/\fO p H u/\u l=eH (.lst A)
 refine Gh (lo:=0) (n:=Int.toNat 7) aC
  ⟨[],fj,fj,(λ_ h=>nomatch h),C.ex<|ab.new I,fO.new I,aa⟩ (λi A u _ zq=>by let⟨_,_,_,_,_,_,h⟩:=zq;exact h) ?_ ?_
 rotate_left
 .rintro i A u hi ⟨o,rfl,g,w,v,a0,a4⟩;have J:=C.Sh I;have a5:=C.Uk I;refine gN<|su ?_;apply⟨_,fj,_,fj,fT v Wt Wt λr H2 h0 h1 D s=>⟨_,r,_,fj,fj,HL,LJ h0 h1,?_⟩⟩;have a6:=s l _ a4 J.symm;apply⟨a6,by rw[ag,g];exact ao ⋯,oj hi ⟨o++[97+r.toNat],by rw[au];rfl,by rw[aA,g];rfl,?_,D.upd J a5,?_,aa⟩⟩
  .intro x hc;obtain hc|hc:=bt.mp hc
   .exact w x hc
   .have:x=97+r.toNat:=by simpa using hc
    subst this;exact⟨by nofun,by nofun⟩
  .intro b o' e nb;rw[ah<|ae e I];exact s b o' (a0 b o' e nb) nb
 .rintro A H1 ⟨o,rfl,g,w,a7,L,a8⟩;apply⟨"",l,o.map λc=>(⟨#[c]⟩:Ws),fj,fj,az.of (by rw[a8,eZ];rfl),?_,?_⟩
  .have e0:("":Ws).length=0:=by decide +kernel
   rw[e0,Nat.mul_zero,eZ];have:∀o:List Nat,(o.map<|(λx=>Str.length x) ∘ λc=>(⟨#[c]⟩:Ws)).sum=o.length:=by
    intro o
    induction o with
    |nil=>rfl
    |cons c o ih=>rw[bL,List.sum_cons,ih,eT];show 1+_=_;nofun
   rw[this,g];decide
  apply⟨_,fj,fT a7 Wt Wt λbi H2 w0 w1 D s=>?_⟩;apply⟨_,fj,fT D Wt Wt λturn H3 t0 t1 a9 M=>?_⟩;apply⟨_,fj,fT a9 Wt Wt λbh H4 s0 s1 N O=>?_⟩;have T:fO p H H4:=((L.trans s).trans M).trans O;let⟨j,rfl⟩:=lH w0;let⟨G,rfl⟩:=lH t0;let⟨sz,rfl⟩:=lH s0;have hb:=FU o;generalize Ba "" (o.map λc=>(⟨#[c]⟩:Ws))=base at hb ⊢;apply⟨(by show 0<=ak;decide),λf hf=>?_⟩;let⟨op,ba⟩:=N.pen;have y:H f=none:=T.free ba hf;have U:=C.Sh y;have Y:=C.Uk y;apply⟨_,fj,n,fj,by nofun,by nofun,j_ (lo:=0) (n:=((n:Int)).toNat) (λi σ u=>∃(a b c' d:Option V),σ=[eH<|.ref p,eH<|.int n,eH<|.str "abcdefghijklmnopqrstuvwxyz",eH<|.str base,eH<|.int j,eH<|.int G,eH<|.int sz,eH<|.ref f,a,b,c',d] /\
   jL u p c/\fO p H u/\u f=eH (.lst<|(mZ o j G sz i).map WB))
   ⟨_,_,_,_,fj,N.upd U Y,T.trans<|fO.new hf,aa⟩ ?_ ?_⟩
  .rintro i σ u hi ⟨a,b,c',d,rfl,v,t,z⟩;have bl:i<n:=by nofun
   have bn:j<3:=by nofun
   have bb:((G:Int)+3 * (0+(i:Int))) % 26=(((G+3 * i) % 26:Nat):Int):=by nofun
   apply⟨_,fj,_,fj,_,fj,_,_,fj,fj,.inl ⟨Wt,Wt⟩,_,_,fj,fj,_,_,fj,fj,(by show(0:Int)<26;decide),_,_,_,fj,fj,HL,LJ (t_ _ Wt) (t8 _ Wt),?_⟩;have al:base.length<=ak:=by rw[gA,hb,g];decide
   have e8:((sz:Int)+(0+(i:Int)) * ((j:Int) % 2)) % 8=((gk j sz i:Nat):Int):=by
    unfold gk;have:j=0∨j=1∨j=2:=by nofun
    obtain rfl|rfl|rfl:=this<;>simp<;>nofun
   apply⟨_,fj,_,fj,_,fj,_,fj,_,_,fj,fj,(by show(0:Int)<2;decide),_,_,fj,fj,.inr ⟨by nofun,by nofun⟩,_,_,fj,fj,_,_,fj,fj,(by show(0:Int)<8;decide),_,fj,base,fj,al,?_⟩;rw[e8];have m:=Lx base<|gk j sz i;rw[hb]at m;generalize yg base none (eH ((gk j sz i:Nat):Int))=part at m ⊢;have h8:gk j sz i<8:=wJ _ Wt;have B:part.length=gk j sz i:=by rw[gA,m,aS,g];nofun
   have pz:part.length<=ak:=by rw[B];exact cA (ao ⋯)
   apply⟨_,fj,.inr ⟨part,fj,pz,_,fj,.inr ⟨part,fj,pz,_,_,fj,fj,⟨Wt,Wt⟩,(by show 3<=ak;decide),λq hq=>?_⟩⟩⟩;have an:H q=none:=by
    let⟨bz,ap⟩:=v.pen;exact t.free ap hq
   have bd:yP [WD 0,WD (part.length:Nat),WD<|(part.length:Int) / 2] (j:Int)=eH (.int (EN j (gk j sz i):Nat)):=by
    rw[B];have:j=0∨j=1∨j=2:=by nofun
    obtain rfl|rfl|rfl:=this
    .rfl
    .rfl
    .show eH (WD<|((gk 2 sz i:Nat):Int) / 2)=eH (WD ((EN 2 (gk 2 sz i):Nat):Int));have:EN 2 (gk 2 sz i)=gk 2 sz i / 2:=rfl;rw[this];congr 2
   apply⟨_,fj,q,_,_,_,fj,fj,az.of aa,bd,?_⟩;have as:upd u q (.lst [WD 0,WD (part.length:Nat),WD<|(part.length:Int) / 2]) f=eH (.lst<|(mZ o j G sz i).map WB):=kp z hq;have c1:=Lx part<|EN j<|gk j sz i;have c2:=Ly part<|EN j<|gk j sz i;have l1:(yg part none<|some ((EN j (gk j sz i):Nat):Int)).length<=8:=by rw[gA,c1,aS,m,aS,g];nofun
   have l2:(yg part (eH ((EN j (gk j sz i):Nat):Int)) none).length<=8:=by rw[gA,c2,lX,m,aS,g];nofun
   apply⟨_,fj,.inl ⟨fj,_,az.of as⟩,_,fj,_,fj,_,fj,part,fj,pz,_,fj,_,_,fj,fj,?_,_,fj,_,fj,_,fj,part,fj,pz,_,_,fj,fj,?_,f,_,_,fj,fj,as,?_,?_⟩
   .have:Str.length ⟨#[97+(((G:Int)+3 * (0+(i:Int))) % 26).toNat]⟩=1:=rfl;rw[this];exact cA (ao ⋯)
   .rw[gA,CH,aA,<-gA,<-gA];have:Str.length ⟨#[97+(((G:Int)+3 * (0+(i:Int))) % 26).toNat]⟩=1:=rfl;rw[this];exact cA (ao ⋯)
   .rw[ag];unfold mZ;rw[ag,Bb];exact ao ⋯
   .refine⟨_,_,_,_,fj,(v.upd (C.Sh an)<|C.Uk an).upd U Y,?_,?_⟩
    .intro b' o' e nb;rw[ah<|ae e y];exact kp (t b' o' e nb) hq
    .rw[aa];unfold mZ;rw[List.range_succ,au,au];congr 3;show[WB _]=[WB _];congr 2;refine Mu ?_;rw[CH,CH,c1,c2,m,bb,gM];simp[C_,qq]
  .rintro σ u ⟨a,b,c',d,rfl,v,t,z⟩;have en:((n:Int)).toNat=n:=by nofun
   rw[en]at z;exact⟨_,fj,k f _ u (EU g w ⋯ hn) (by unfold mZ;rw[ag,Bb]) y z v t⟩
structure am where
 a:Ws
 sg:List Ws
 b:Ws
deriving DecidableEq
def SignAt(H:Hp)(s:Wk)(sg:Zb):Prop:=H s=eH (.tup<|sg.map WB)
def jb(H:Hp)(t:Wk)(d:am):Prop:=∃s,H t=eH (.tup [.str d.a,.ref s,.str d.b])/\SignAt H s d.sg
def h_(H H':Hp):Prop:=∀b xs,H b=eH (.tup xs)->H' b=eH (.tup xs)
theorem jb.kt(k:h_ H H')(h:jb H t d):jb H' t d:=by
 let⟨s,a,e⟩:=h;exact⟨s,k _ _ a,k _ _ e⟩
theorem fO.kt(e:fO p H a)(g:H p=eH (.lst f)):h_ H a:=λb i h=>e b _ h (λz=>by rw[z,g]at h;cases h)
theorem ab.kt(e:ab H a):h_ H a:=λb f h=>e b _ h
theorem h_.trans(a:h_ H e)(b:h_ e f):h_ H f:=λx g h=>b x g<|a x g h
theorem eF(h:H l=eH (.lst a)):h_ H (upd H l o):=λb f e=>by
 rw[ah (λz=>by rw[z,h]at e;cases e)];exact e
abbrev dJ(H:Hp)(ts:Ze)(ds:List am):Prop:=Paired (jb H) ts ds
theorem Paired.get{α β:Type}{R:α->β->Prop}{a:List α}{e:List β}{i:Nat}{y:β}(g:Paired R a e)(h:e[i]?=eH y):∃x,a[i]?=eH x/\R x y:=by
 induction g generalizing i with
 |nil=>cases h
 |cons r _ f =>
  cases i with
  |zero=>injection h with h;subst h;exact⟨_,fj,r⟩
  |succ i=>exact f h
theorem Paired.getL{α β:Type}{R:α->β->Prop}{a:List α}{e:List β}{i:Nat}{x:α}(g:Paired R a e)(h:a[i]?=eH x):∃y,e[i]?=eH y/\R x y:=by
 induction g generalizing i with
 |nil=>cases h
 |cons r _ f =>
  cases i with
  |zero=>injection h with h;subst h;exact⟨_,fj,r⟩
  |succ i=>exact f h
theorem dJ.kt(k:h_ H H')(h:dJ H a e):dJ H' a e:=Paired.i3 h λ_ _ r=>r.kt k
theorem N6(h:H a=eH o):upd H a o=H:=by
 funext b;by_cases e:b=a
 .subst e;rw[aa,h]
 .rw[ah e]
def dD(x:Ws):DT:=.k<|.inr x
def Es(d:am):DT:=.t [dD d.a,.t<|d.sg.map dD,dD d.b]
theorem tm(h:dD x=dD y):x=y:=by
 unfold dD at h;injection h with h;injection h
theorem hC:∀{x y:Zb},x.map dD=y.map dD->x=y
 |[],[],_=>rfl
 |[],_::_,h=>by cases h
 |_::_,[],h=>by cases h
 |a::x,b::y,h=>by
  rw[bL,bL]at h;injection h with e f;rw[tm e,hC f]
theorem Nq(h:Es x=Es y):x=y:=by
 unfold Es at h;injection h with h;injection h with e h;injection h with a h;injection h with f h;injection a with a;cases x;cases y;simp only at *;rw[tm e,hC a,tm f]
theorem gw(a:Zb):DT.gg (a.map dD)=0:=by
 induction a with
 |nil=>rfl
 |cons x a e=>rw[bL];show max (DT.depth<|dD x) (DT.gg _)=0;rw[e];rfl
theorem Cu(d:am):(Es d).depth=2:=by
 show DT.gg [dD d.a,.t<|d.sg.map dD,dD d.b]+1=2;show max (DT.depth<|dD d.a) (max (DT.gg (d.sg.map dD)+1)<|max (DT.depth<|dD d.b) 0)+1=2;rw[gw]
 rfl
theorem Jn(a:List am):DT.gg (a.map Es)<=8:=by
 induction a with
 |nil=>exact cH _
 |cons x e f=>rw[bL];show max (DT.depth<|Es x) (DT.gg _)<=8;rw[Cu];nofun
theorem iB{K:Za}:∀a:List Ws,lR K H (a.map dD) (a.map WB)
 |[]=>by show lR K H [] [];unfold lR;rfl
 |x::a=>by
  rw[bL,bL];unfold lR;apply⟨_,_,fj,?_,iB a⟩;unfold dD kL
  rfl
theorem tT{K:Za}(x:Ws):kL K H (dD x) (.str x):=by unfold dD kL;rfl
theorem cg{K:Za}{a:Zb}(h:bE K H s<|a.map WB):kL K H (.t<|a.map dD) (.ref s):=by
 unfold kL;exact⟨s,_,fj,h,iB _⟩
theorem jb.VG{K:Za}(h:jb H t d):kL K H (Es d) (.ref t):=by
 let⟨s,a,e⟩:=h;unfold Es;unfold kL;apply⟨t,_,fj,bE.of a,?_⟩;unfold lR;apply⟨_,_,fj,tT _,?_⟩;unfold lR;apply⟨_,_,fj,cg<|bE.of e,?_⟩;unfold lR;apply⟨_,_,fj,tT _,?_⟩;unfold lR
 rfl
theorem dJ.RE{K:Za}(h:dJ H a e):lR K H (e.map Es) (a.map WC):=by
 induction h with
 |nil=>show lR K H [] [];unfold lR;rfl
 |cons r _ f =>
  rw[bL,bL];unfold lR;exact⟨_,_,fj,r.VG,f⟩
theorem Hr{a:List am}:Es d∈a.map Es↔d∈a:=by
 constructor
 .intro h;let⟨x,hx,e⟩:=ar.mp h;rw[<-Nq e];exact hx
 .exact eC
def tw(ds:List am)(d:am):List am:=if d∈ds then ds else ds++[d]
inductive uO (vs:List V)(H:Hp)(Q:VK)(E:XK):Prop
 |mk (l t:Wk) (ts:Ze) (ds:List am) (d:am):vs=[.ref l,.ref t]->H l=eH (.lst (ts.map WC))->dJ H ts ds->jb H t d->ds.length<=1000->(∀RH:List Wk,dJ H RH (tw ds d)->Q .zr (upd H l (.lst (RH.map WC))))->uO  vs H Q E
theorem Oc{K:Za}(h:uO i H Q E):Ij K (bT Q) (start JC i) H:=by
 let⟨l,t,j,g,d,rfl,a,e,m,n,k⟩:=h;apply⟨_,fj,_,fj,Es d,g.map Es,l,_,m.VG,fj,.inl<|az.of a,e.RE,by rw[Cu];decide,Jn g,_,fj,?_⟩;by_cases f:d∈g
 .rw[if_pos rfl,hH<|Hr.mpr f];refine bF ?_;have:=k j (by unfold tw;rw[if_pos f];exact e);rw[N6 a]at this;exact this
 .rw[if_pos rfl,hB<|λz=>f<|Hr.mp z];refine cS ?_;apply⟨_,fj,.inl ⟨fj,_,az.of a⟩,_,fj,l,_,_,fj,fj,a,?_,?_⟩
  .rw[ag,Paired.length e];exact ao n
  .have:=k (j++[t]) (by unfold tw;rw[if_neg f];exact eD e m);rw[au]at this;exact this
structure DI(R:am->Prop)(H0:Hp)(p c l:Wk)(m:Nat)(H:Hp):Prop where
 pen:jL H p c
 ds:∃ts ds,H l=eH (.lst (ts.map WC))/\dJ H ts ds/\ds.Nodup/\(∀d∈ds,R d)/\ds.length<=m
 ex:fO p H0 H
 fr:H0 l=none
 pl:p≠l
 cl:c≠l
section
variable{R:am->Prop}{H0 H H':Hp}{p c l:Wk}{m:Nat}
theorem jL.lst{H:Hp}{p c:Wk}(h:jL H p c):∃e,H p=eH (.lst e):=by
 let⟨a,r,g,f,_⟩:=h;exact⟨_,f⟩
theorem DI.Qx(h:DI R H0 p c l m H)(a:jL H' p c)(e:fO p H H'):DI R H0 p c l m H':=by
 let⟨f,g,i,j,k⟩:=h.ds;let⟨n,hx⟩:=h.pen.lst;exact⟨a,⟨f,g,e _ _ i h.pl.symm,j.kt<|e.kt hx,k⟩,h.ex.trans e,h.fr,h.pl,h.cl⟩
theorem DI.new(h:DI R H0 p c l m H)(a:H q=none):DI R H0 p c l m (upd H q o) :=
 h.Qx (h.pen.ex<|ab.new a) (fO.new a)
theorem DI.up(h:DI R H0 p c l m H)(a:m<=n):DI R H0 p c l n H:=by
 let⟨e,f,g,i,j,k,o⟩:=h.ds;exact⟨h.pen,⟨e,f,g,i,j,k,bH o a⟩,h.ex,h.fr,h.pl,h.cl⟩
theorem DI.put(h:DI R H0 p c l m H)(r:jb H t d)(s:R d)(u:m<=1000)(k:∀H',DI R H0 p c l (m+1) H'->Q .zr H'):uO [.ref l,.ref t] H Q E:=by
 let⟨v,f,i,w,j,q,y⟩:=h.ds;apply⟨l,t,v,f,d,fj,i,w,r,bH y u,λg z=>k _ ⟨h.pen.upd h.pl h.cl,⟨g,tw f d,aa,z.kt<|eF i,?_,?_,?_⟩,?_,h.fr,h.pl,h.cl⟩⟩
 .unfold tw;split
  .exact j
  .next A =>
   rw[cQ];apply⟨j,by simp,?_⟩;intro a B b C e;have:b=d:=by simpa using C
   subst this;exact A<|e▸B
 .intro x hx;unfold tw at hx;split at hx
  .exact q x hx
  .obtain hx|hx:=bt.mp hx
   .exact q x hx
   .have:x=d:=by simpa using hx
    rw[this];exact s
 .unfold tw;split
  .omega
  .rw[aA];show f.length+1<=m+1;nofun
 .intro b o e n;rw[ah<|ae e h.fr];exact h.ex b o e n
end
theorem jL.lN{g:Zb}(h:jL H p c)(f:H a=eH (.lst<|g.map WB)):a≠p:=by
 intro e;let⟨x,y,j,i,_⟩:=h;rw[e,i]at f;injection f with f;injection f with f;cases g with
 |nil=>cases f
 |cons w g=>injection f with f;cases f
theorem wm{K:Za}{r:R2}(B:∀x y H Q,dE K x y H Q->r x y H Q){σ:L2.St}{H:Hp}{Q:VK}{p c a:Wk}{j:Nat}{e:Zb}(C:σ[0]?=eH (eH<|.ref p))(o:σ[j]?=eH (eH<|.ref a))(q:jL H p c)
  (g:H a=eH (.lst<|e.map WB)) (h:e≠[]) (s:e.length<=1000) (k:∀w∈e,∀H',jL H' p c->fO p H H'->Q (.str w) H') :
  ∃v,σ[j]?=eH (eH v)/\∃t,σ[0]?=eH (eH t)/\∃u,σ[j]?=eH (eH u)/\dO K [u] H λy D=>im [t,y] D (λy E=>r v y E Q) E0:=by
 have I:0<e.length:=by cases e with|nil=>exact absurd rfl h|cons _ _=>simp
 have G:(WD ((e.map WB).length:Nat))=WD (e.length:Nat):=by rw[ag]
 have i:=q.lN g;have l:∀(x:Int) (H':Hp),0<=x->x<(e.length:Int)->jL H' p c->fO p H H'->dE K (.ref a) (.int x) H' Q:=by
  intro x H' m z f ex;let⟨n,rfl⟩:=lH m;have A:n<e.length:=by nofun
  exact⟨a,_,(n:Int),.str e[n],fj,fj,az.of<|ex _ _ g i,cO (by simp[A]),k _ (fR A) H' f ex⟩
 exact⟨_,o,_,C,_,o,.inl ⟨a,_,fj,.inl<|az.of g,by rw[G];exact fT q ⋯ ⋯ λx H' m z f ex=>B _ _ _ _<|l x H' m z f ex⟩⟩
def Up(up:Bool)(J3:Zb)(a b:Ws):Prop:=∃i j:Nat,J3[i]?=eH a/\J3[j]?=eH b/\(if up=true then i<j else j<i)
structure pd(J0 J2 J3:Zb)(up:Bool)(d:am):Prop where
 a:d.a∈J3
 b:d.b∈J3
 sg:(∃w∈J0,d.sg=[("ask":Ws),w])∨(∃w∈J2,d.sg=[("say":Ws),w])∨(d.sg=[("still":Ws)]/\Up up J3 d.a d.b)
def aD:List Ws:=[("still":Ws)]
structure yI(J0 J2 J3:Zb)(d:am):Prop where
 a:d.a∈J3
 b:d.b∈J3
 sg:(∃w∈J0,d.sg=[("ask":Ws),w])∨(∃w∈J2,d.sg=[("say":Ws),w])∨d.sg=aD
theorem pd.d{J0 e f:Zb}{up:Bool}{d:am}(h:pd J0 e f up d):yI J0 e f d:=⟨h.a,h.b,h.sg.imp id<|Or.imp id And.left⟩
inductive Reach(ds:List am)(a:Ws):Ws->Prop
 |one {b:Ws}(h:(⟨a,aD,b⟩:am)∈ds):Reach ds a b
 |step {b c:Ws}(r:Reach ds a b) (h:(⟨b,aD,c⟩:am)∈ds):Reach ds a c
theorem tP{e:Zb}(n:e.Nodup){i j:Nat}{a:Ws}(hi:e[i]?=eH a)(o:e[j]?=eH a):i=j:=by
 let⟨f,g⟩:=bY.mp hi;let⟨k,l⟩:=bY.mp o;have m:=qC.mp n;obtain h|h|h:=wI i j
 .exact absurd (g.trans l.symm)<|m i j f k h
 .exact h
 .exact absurd (l.trans g.symm)<|m j i k f h
theorem Up.trans(g:e.Nodup)(l:Up up e a b)(m:Up up e b c):Up up e a c:=by
 let⟨i,j,n,o,h⟩:=l;let⟨r,k,p,q,f⟩:=m;have:=tP g o p;subst this;apply⟨i,k,n,q,?_⟩;cases up
 .simp at h f ⊢;nofun
 .simp at h f ⊢;nofun
theorem Up.VU(f:e.Nodup)(h:Up up e a a):False:=by
 let⟨i,j,g,k,h⟩:=h;have:=tP f g k;subst this;cases up
 .simp at h
 .simp at h
theorem JR(l:g.Nodup)(m:∀d∈i,pd j k g up d)(h:Reach i a b):Up up g a b:=by
 have f:∀{a b:Ws},(⟨a,aD,b⟩:am)∈i->Up up g a b:=by
  intro a b h;obtain⟨w,_,e⟩|⟨w,_,e⟩|⟨_,e⟩:=(m _ h).sg
  .cases e
  .cases e
  .exact e
 induction h with
 |one h=>exact f h
 |step r h n=>exact n.trans l<|f h
theorem VH(a:0<=x)(e:x<=2)(f:0<=r)(g:r<4):∃j:Int,yP [WD x,.int 1,.int 1,.int 2] r=eH (.int j)/\0<=j/\j<=2:=by
 have:r=0∨r=1∨r=2∨r=3:=by nofun
 obtain rfl|rfl|rfl|rfl:=this
 .exact⟨x,fj,a,e⟩
 .exact⟨1,fj,Wt,Wt⟩
 .exact⟨1,fj,Wt,Wt⟩
 .exact⟨2,fj,Wt,Wt⟩
theorem Jq(a:Zb)(k:Nat):mM (a.map WB) (eH (k:Int)) none=(a.drop k).map WB:=by
 unfold mM;rw[HT.P4,HT.Qb,ag,List.take_of_length_le (by rw[lX,ag];nofun),List.map_drop];by_cases h:k<=a.length
 .rw[Nat.min_eq_left h]
 .rw[Nat.min_eq_right ⋯,wP ∅,wP (by rw[ag];nofun)]
theorem wv(a:Zb)(k:Nat):mM (a.map WB) none (eH (k:Int))=(a.take k).map WB:=by
 unfold mM;rw[HT.P4,HT.Qb,ag,ul,A8,List.map_take,List.take_eq_take_iff,ag];nofun
theorem yf{K:Za}{e:Zb}(h:az K H a<|e.map WB):kL K H (.s<|e.map dD) (.ref a):=by
 unfold kL;exact⟨a,_,fj,h,iB _⟩
theorem Cv{K:Za}(h:az K H a []):kL K H (.s []) (.ref a):=by
 unfold kL;apply⟨a,_,fj,h,?_⟩;unfold lR
 rfl
structure aE(J0 J2 J3:Zb)(ds:List am):Prop where
 To:jp J0
 Th:jp J2
 apart:∀w∈J2,w∉J0
 RV:jp J3
 Tv:J0≠[]
 SJ:J2≠[]
 P5:J3≠[]
 B':J0.length<=4
 A2:J2.length<=4
 vr:J3.length<=150
 nodup:ds.Nodup
 good:∀d∈ds,yI J0 J2 J3 d
 Qf:ds.length<=1000
 Qc:∀r,¬Reach ds r r
structure jC(H:Hp)(t l1 l2 l3 l4:Wk)(ts:Ze)(J0 J2 J3:Zb)(ds:List am):Prop where
 t:H t=eH (.tup [.ref l1,.ref l2,.ref l3,.ref l4])
 a1:H l1=eH (.lst (J0.map WB))
 a2:H l2=eH (.lst (J2.map WB))
 a3:H l3=eH (.lst (J3.map WB))
 a4:H l4=eH (.lst (ts.map WC))
 ds:dJ H ts ds
theorem jL.SM{ts:Ze}(h:jL H p c)(f:H a=eH (.lst<|ts.map WC)):a≠p:=by
 intro e;let⟨x,y,j,i,_⟩:=h;rw[e,i]at f;injection f with f;injection f with f;cases ts with
 |nil=>cases f
 |cons w g =>
  injection f with _ f;cases g with
  |nil=>cases f
  |cons w g=>injection f with f;cases f
theorem jC.ex{H f:Hp}{p c t g i l3 j:Wk}{k:Ze}{l m n:Zb}{o:List am}(h:jC H t g i l3 j k l m n o)(a:jL H p c)(e:fO p H f):jC f t g i l3 j k l m n o:=by
 let⟨q,hx⟩:=a.lst;exact⟨e.kt hx _ _ h.t,e _ _ h.a1<|a.lN h.a1,e _ _ h.a2<|a.lN h.a2,e _ _ h.a3<|a.lN h.a3,e _ _ h.a4<|a.SM h.a4,h.ds.kt<|e.kt hx⟩
theorem jC.same{H a:Hp}{t f g l3 i:Wk}{j:Ze}{k l m:Zb}{n:List am}(h:jC H t f g l3 i j k l m n)(e:ab H a):jC a t f g l3 i j k l m n :=
 ⟨e _ _ h.t,e _ _ h.a1,e _ _ h.a2,e _ _ h.a3,e _ _ h.a4,h.ds.kt<|ab.kt e⟩
theorem bu{a:Zb}{i:Nat}{x:V}(h:(a.map WB)[i]?=eH x):∃w,a[i]?=eH w/\x=.str w:=by
 rw[bV]at h;cases q:a[i]? with
 |none=>rw[q]at h;cases h
 |some r=>rw[q]at h;exact⟨r,fj,(gp h).symm⟩
theorem take_snoc{α:Type}{a:List α}{i:Nat}{w:α}(h:a[i]?=eH w):a.take (i+1)=a.take i++[w]:=by
 let⟨hi,rfl⟩:=bY.mp h;rw[List.take_succ_eq_append_getElem hi]
def tI(w:Ws):Bool:=!decide (w=("":Ws)) && (decide (w.length<=8) && w.cps.toList.all λc=>decide (c∈("abcdefghijklmnopqrstuvwxyz":Ws).cps.toList))
theorem r8.b(h:r8 w):tI w=true:=by
 unfold tI;have a:¬(w=("":Ws)):=λe=>by
  have:=h.lo;rw[e]at this;exact absurd this (by decide +kernel)
 rw[hB a,hH h.hi,Bool.not_false,t7,t7,Bp];intro c f;let⟨g,i⟩:=h.al c f;refine hH ?_;have:=HM (c-97) ⋯;have e:97+(c-97)=c:=by nofun
 rw[e]at this;exact cj this
inductive wh (vs:List V)(H:Hp)(Q:VK)(E:XK):Prop
 |mk (w:Ws):vs=[.str w]->w.length<=1000->(∀H',ab H H'->Q (.bl (tI w)) H')->wh  vs H Q E
theorem Fx{K:Za}(h:wh a H Q E):Ik K (bT Q) (start JE a) H:=by
 let⟨w,rfl,s,k⟩:=h;apply⟨_,fj,fj,_,fj,?_⟩;have t:(!decide (WB w=WB ("":Ws)))=!decide (w=("":Ws)):=by
  congr 1;by_cases e:w=("":Ws)
  .rw[hH e,hH (by rw[e])]
  .rw[hB e,hB (λz=>e (by injection z))]
 rw[t];refine rJ (λm=>?_)<|λm=>?_
 .refine⟨_,fj,.inr ⟨w,fj,cA<|ao s,_,_,fj,fj,_,fj,?_⟩⟩;refine rJ (λn=>?_)<|λn=>?_
  .refine⟨_,fj,w,fj,λl r=>?_⟩
   let p:Nat->List V->Hp->Prop:=λi a j=>a=((w.cps.toList.take i).map λc=>V.bl<|decide (c∈("abcdefghijklmnopqrstuvwxyz":Ws).cps.toList))/\ab H j/\j l=eH (.lst a)
   refine LA p
    ⟨fj,ab.new r,aa⟩ (λi a j _ h=>h.2.2) ?_ ?_
   .rintro a j ⟨rfl,q,f⟩;apply⟨l,w.cps.toList.map λc=>decide (c∈("abcdefghijklmnopqrstuvwxyz":Ws).cps.toList),fj,az.of ?_,?_⟩
    .rw[f,eZ];have:w.cps.toList.take w.cps.size=w.cps.toList:=by
      rw[List.take_of_length_le];simp
     rw[this]
     rfl
    .have:=k j q;have g:decide (w.length<=8)=true:=hH (by have:=of_decide_eq_true n;nofun);unfold tI at this;rw[m,g,t7,t7]at this;rw[List.all_map];exact this
   .rintro i a j c u hi ⟨rfl,q,f⟩;refine gN<|su ?_;apply⟨_,fj,c,_,fj,fj,f,?_,oj hi ⟨?_,?_,aa⟩⟩
    .rw[ag,aS];have:w.length=w.cps.toList.length:=gA w;exact ao ⋯
    .rw[take_snoc (by rw[<-u];simp),au]
     rfl
    .intro b o e;rw[ah<|ae e r];exact q b o e
  .have:=k H<|ab.refl H;have g:decide (w.length<=8)=false:=hB (λz=>n (hH ⋯));unfold tI at this;rw[m,g,t7,GR]at this;exact this
 .have:=k H<|ab.refl H;unfold tI at this;rw[Bool.eq_false_iff.mpr m,GR]at this;exact this
def bm(ws:Zb):List (fK×V):=ws.foldl (λacc w=>dR acc (.inr w)<|.bl true) []
theorem eV(a:Zb)(w:Ws):bm (a++[w])=dR (bm a) (.inr w) (.bl true):=by
 unfold bm;rw[mV]
 rfl
theorem xH[DecidableEq κ](a:List<|κ×V)(k:κ)(v:V):(dR a k v).length<=a.length+1:=by
 unfold dR;split
 .rw[ag];nofun
 .rw[aA];exact aF _
theorem mw{α:Type}(P:List α->Prop)(e:P [])(f:∀ws w,P ws->P (ws++[w]))(ws:List α):P ws:=by
 have:∀n (ws:List α),ws.length=n->P ws:=by
  intro n
  induction n with
  |zero=>intro ws h;rw[List.length_eq_zero_iff.mp h];exact e
  |succ n g =>
   intro ws h;have a:ws≠[]:=λz=>by rw[z]at h;cases h
   rw[<-List.dropLast_concat_getLast a];exact f _ _ (g _ (by rw[List.length_dropLast,h];rfl))
 exact this _ ws rfl
theorem nu(a:Zb):(bm a).length<=a.length:=by
 refine mw (λa=>(bm a).length<=a.length) (aF _) (λa w h=>?_) a;show(bm<|a++[w]).length<=(a++[w]).length;rw[eV,aA];have:=xH (bm a) (.inr w)<|.bl true;show _<=a.length+1;nofun
theorem xT(a:Zb)(x:Ws):cy (bm a) (.inr x)=if x∈a then eH (.bl true)else none:=by
 refine mw (λa=>cy (bm a) (.inr x)=if x∈a then eH (.bl true)else none) rfl (λa w h=>?_) a
 show cy (bm<|a++[w]) (.inr x)=_;rw[eV,oH,h];by_cases e:x=w
 .subst e;rw[if_pos rfl,if_pos ∅]
 .have f:¬((Sum.inr x:fK)=.inr w):=λz=>e (by injection z);rw[if_neg f];by_cases m:x∈a
  .rw[if_pos m,if_pos<|cE _ m]
  .rw[if_neg m,if_neg (λz=>by obtain z|z:=bt.mp z;exact m z;exact e ‹z›)]
theorem gb(a:Zb)(x:Ws):(cy (bm a)<|.inr x).isSome=decide (x∈a):=by
 rw[xT];by_cases m:x∈a
 .rw[if_pos m,hH m];rfl
 .rw[if_neg m,hB m];rfl
inductive oD(K:Za)(vs:List V)(H:Hp)(Q:VK)(E:XK):Prop
 |mk (l:Wk) (ws:Zb):vs=[.ref l]->az K H l (ws.map WB)->ws.length<=1000->(∀d,H d=none->Q (.ref d) (upd H d (.dK (bm ws))))->oD K vs H Q E
theorem FA{K:Za}(h:oD K o H Q E):Il K (bT Q) (start JF o) H:=by
 let⟨l,j,rfl,q,t,k⟩:=h;refine λd p=>?_;have a:∀f,az K (upd H d<|.dK f) l (j.map WB):=λf=>(ab.new p).seq q;apply⟨_,fj,l,fj,⟨_,a _⟩,?_⟩
 let n:Nat->L2.St->Hp->Prop:=λi σ m=>∃x,σ=[eH<|.ref l,eH<|.ref d,x]/\m=upd H d (.dK<|bm<|j.take i)
 refine cb (xs:=j.map WB) n ⟨_,fj,fj⟩ (λi σ m _ r=>by let⟨_,_,e⟩:=r;exact by rw[e];exact a _) ?_ ?_
 .rintro i x σ m hi ⟨y,rfl,rfl⟩;let⟨w,s,rfl⟩:=bu hi;have g:(bm<|j.take i).length<ak:=ao (bH (nu _) (by rw[aS];nofun));apply⟨_,fj,_,fj,d,_,fj,.inl ⟨_,.inr w,aa,fj,g,fj⟩,_,fj,?_⟩;rw[v9,take_snoc s,eV]
 .rintro σ m ⟨x,rfl,rfl⟩;rw[ag,aX];exact⟨_,fj,k d p⟩
def Lj(most:Nat):Nat->List Ws->List Ws->Option Nat
 |_,_,[]=>none
 |i,ahead,n::ns=>if i=most∨n∈ahead∨tI n=false then eH i else Lj most (i+1) (ahead++[n]) ns
def dX(names:Zb)(most:Nat)(taken:Zb):Option Nat:=if names=[]then eH 0 else Lj most 0 taken names
def oV:Option Nat->V
 |none=>.zr
 |some i=>.int i
inductive i0(K:Za)(vs:List V)(H:Hp)(Q:VK)(E:XK):Prop
 |mk (l t:Wk) (names taken:Zb) (most:Nat):vs=[.ref l,.int most,.ref t]->az K H l (names.map WB)->az K H t (taken.map WB)->names.length+taken.length<=1000->((∀w∈names,w.length<=1000))->(∀H',ab H H'->Q (oV (dX names most taken)) H')->i0 K vs H Q E
theorem uZ{K:Za}(a:az K H l<|ws.map WB)(e:ws.length<=1000)(k:∀d,H d=none->Q (.ref d) (upd H d<|.dK<|bm ws)):oD K [.ref l] H Q E:=by
 exact⟨l,ws,fj,a,e,k⟩
theorem Jc(e:w.length<=1000)(k:∀a,ab H a->Q (.bl<|tI w) a):wh [.str w] H Q E:=by
 exact⟨w,fj,e,k⟩
theorem qd{K:Za}(h:i0 K M H Q E):rc K wh (oD K) (bT Q) (start rU M) H:=by
 let⟨l,t,names,taken,a,rfl,v,U,hz,Y,k⟩:=h;apply⟨_,fj,.inl ⟨l,_,fj,.inl v,fj,_,fj,?_⟩⟩;by_cases A:names=[]
 .subst A;refine cS ?_;have:=k H<|ab.refl H;exact this
 have e0:decide (WD ((names.map WB).length:Nat)=WD 0)=false:=hB (λz=>A (by
  injection z with z;rw[ag]at z;exact List.length_eq_zero_iff.mp ⋯))
 rw[e0];refine bF ?_;have r:∀H',ab H H'->Q (oV<|Lj a 0 taken names) H':=by
  unfold dX at k;rw[if_neg A]at k;exact k
 apply⟨_,fj,uZ U ⋯ λd B=>?_⟩;apply⟨_,fj,l,fj,⟨_,(ab.new B).seq v⟩,?_⟩
 let C:Nat->L2.St->Hp->Prop:=λi σ H'=>∃x y,σ=[eH<|.ref l,eH<|.int a,eH<|.ref t,eH<|.ref d,x,y]/\ab H H'/\H' d=eH (.dK<|bm<|taken++names.take i)/\Lj a i (taken++names.take i) (names.drop i)=Lj a 0 taken names
 refine o8 (xs:=names.map WB) C
  ⟨_,_,fj,ab.new B,by rw[List.take_zero,dj];exact aa,by rw[List.take_zero,dj,ul]⟩ (λi σ H' _ zq=>by let⟨_,_,_,n,_⟩:=zq;exact n.seq v) ?_ ?_
 .rintro i x σ H' q hi ⟨x4,x5,rfl,n,D,hf⟩ N;let⟨w,f,rfl⟩:=bu hi;have G:i<names.length:=(bY.mp f).1;have ed:names.drop i=w::names.drop (i+1):=by
   rw[A_ G];congr 1;exact(bY.mp f).2
  rw[ed]at hf;have j:upd H' q (.tup [.int i,.str w]) d=eH (.dK<|bm<|taken++names.take i):=kp D N;have g:ab H (upd H' q<|.tup [.int i,.str w]):=n.trans<|ab.new N;have I:w.length<=1000:=Y w<|cj f;apply⟨q,_,fj,bE.of aa,fj,_,_,fj,_,_,fj,fj,?_⟩;generalize upd H' q (.tup [.int i,.str w])=O at j g ⊢;apply⟨_,fj,_,fj,fj,_,fj,?_⟩;by_cases s:i=a
  .have J:decide (WD (i:Nat)=WD (a:Nat))=true:=hH (by rw[s]);rw[J];refine cS<|cS ?_;apply⟨_,fj,?_⟩;have:=r O g;rw[<-hf]at this;unfold Lj at this;rw[if_pos<|.inl s]at this;exact this
  have J:decide (WD (i:Nat)=WD (a:Nat))=false:=hB (λz=>s (by injection z with z;nofun));rw[J];refine bF ?_;apply⟨_,fj,_,fj,d,_,fj,.inl ⟨_,.inr w,.inl j,fj,fj⟩,_,fj,?_⟩;rw[gb];by_cases u:w∈taken++names.take i
  .rw[hH u];refine cS<|cS ?_;apply⟨_,fj,?_⟩;have:=r O g;rw[<-hf]at this;unfold Lj at this;rw[if_pos<|.inr<|.inl u]at this;exact this
  rw[hB u];refine bF ?_;apply⟨_,fj,Jc I λH3 m=>⟨_,fj,?_⟩⟩;have L:=m _ _ j;cases T:tI w with
  |false =>
   refine cS ?_;apply⟨_,fj,?_⟩;have:=r H3<|g.trans m;rw[<-hf]at this;unfold Lj at this;rw[if_pos<|.inr<|.inr T]at this;exact this
  |true =>
   refine bF ?_;have p:(bm<|taken++names.take i).length<ak:=ao (bH (nu _) (by rw[aA,aS];nofun));apply⟨_,fj,_,fj,d,_,fj,.inl ⟨_,.inr w,L,fj,p,fj⟩,_,_,fj,?_,?_,?_⟩
   .intro b o e;rw[ah<|ae e B];exact m _ _<|g _ _ e
   .rw[aa,take_snoc f,<-dQ,eV]
   .rw[<-hf,take_snoc f,<-dQ]
    conv=>rhs;unfold Lj
    rw[if_neg];rintro(z|z|z)
    .exact s z
    .exact u z
    .rw[T]at z;cases z
 .rintro σ H' ⟨x,y,rfl,n,_,hf⟩;rw[ag,List.drop_length]at hf;have:=r H' n;rw[<-hf]at this;exact this
theorem Ee:∀(e ahead:Zb) (i:Nat),i+e.length<=a->(ahead++e).Nodup->(∀w∈e,r8 w)->Lj a i ahead e=none
 |[],_,_,_,_,_=>rfl
 |n::e,ahead,i,h,f,g=>by
  rw[eT]at h;unfold Lj;rw[if_neg]
  .refine Ee e (ahead++[n]) (i+1) ⋯ (by rw[dQ];exact f) λw j=>g w<|eN _ j
  .rintro(z|z|z)
   .omega
   .rw[cQ]at f;exact f.2.2 n z n (cT) rfl
   .rw[(g n cT).b]at z;cases z
theorem jJ(f:e≠[])(i:e.length<=a)(g:(taken++e).Nodup)(h:∀w∈e,r8 w):dX e a taken=none:=by
 unfold dX;rw[if_neg f];exact Ee e taken 0 ⋯ g h
theorem iQ(h:n<=9000):n<ak:=qM h Wt
def tf(x:Ws):TK:=.k<|some<|.inr x
def j9(sg:Zb):TK:=.t<|sg.map tf
def HI(d:am):TK:=.t [tf d.a,j9 d.sg,tf d.b]
theorem wk(h:tf x=tf y):x=y:=by
 unfold tf at h;injection h with h;injection h with h;injection h
theorem vt:∀{x y:Zb},x.map tf=y.map tf->x=y
 |[],[],_=>rfl
 |[],_::_,h=>by cases h
 |_::_,[],h=>by cases h
 |a::x,b::y,h=>by
  rw[bL,bL]at h;injection h with e f;rw[wk e,vt f]
theorem k_(h:j9 x=j9 y):x=y:=by
 unfold j9 at h;injection h with h;exact vt h
theorem Np(h:HI x=HI y):x=y:=by
 unfold HI at h;injection h with h;injection h with a h;injection h with e h;injection h with f h;cases x;cases y;simp only at *;rw[wk a,k_ e,wk f]
theorem EY(a:Zb):TK.gg (a.map tf)=0:=by
 induction a with
 |nil=>rfl
 |cons x a e=>rw[bL];show max (TK.depth<|tf x) (TK.gg _)=0;rw[e];rfl
theorem pk(a:Zb):(j9 a).depth=1:=by
 show TK.gg (a.map tf)+1=1;rw[EY]
theorem zY(d:am):(HI d).depth=2:=by
 show max (TK.depth<|tf d.a) (max (TK.depth<|j9 d.sg)<|max (TK.depth<|tf d.b) 0)+1=2;rw[pk]
 rfl
theorem G5:∀a:List Ws,ub H (a.map tf) (a.map WB)
 |[]=>by show ub H [] [];unfold ub;rfl
 |x::a=>by
  rw[bL,bL];unfold ub;apply⟨_,_,fj,?_,G5 a⟩;unfold tf fX
  rfl
theorem Bz(x:Ws):fX H (tf x) (.str x):=by unfold tf fX;rfl
theorem SignAt.tk(h:SignAt H s a):fX H (j9 a) (.ref s):=by
 unfold j9 fX;exact⟨s,_,fj,h,G5 _⟩
theorem jb.tk(h:jb H t d):fX H (HI d) (.ref t):=by
 let⟨s,a,e⟩:=h;unfold HI fX;apply⟨t,_,fj,a,?_⟩;unfold ub;apply⟨_,_,fj,Bz _,?_⟩;unfold ub;apply⟨_,_,fj,SignAt.tk e,?_⟩;unfold ub;apply⟨_,_,fj,Bz _,?_⟩;unfold ub
 rfl
section
variable{κ:Type}[DecidableEq κ]
def nX(ks:List κ):List (κ×V):=ks.foldl (λacc k=>dR acc k<|.bl true) []
theorem rH(a:List κ)(w:κ):nX (a++[w])=dR (nX a) w (.bl true):=by
 unfold nX;rw[mV]
 rfl
theorem Ja(a:List κ):(nX a).length<=a.length:=by
 refine mw (λa=>(nX a).length<=a.length) (aF _) (λa w h=>?_) a;show(nX<|a++[w]).length<=(a++[w]).length;rw[rH,aA];have:=xH (nX a) w<|.bl true;show _<=a.length+1;nofun
theorem Lc(a:List κ)(x:κ):(cy (nX a) x).isSome=decide (x∈a):=by
 refine mw (λa=>(cy (nX a) x).isSome=decide (x∈a)) rfl (λa w h=>?_) a;show(cy (nX<|a++[w]) x).isSome=_;rw[rH,oH];by_cases e:x=w
 .subst e;rw[if_pos rfl,hH ∅]
  rfl
 .rw[if_neg e,h];by_cases m:x∈a
  .rw[hH m,hH<|cE _ m]
  .rw[hB m,hB (λz=>by obtain z|z:=bt.mp z;exact m z;exact e ‹z›)]
end
theorem Hq{a:List am}:HI d∈a.map HI↔d∈a:=by
 constructor
 .intro h;let⟨x,hx,e⟩:=ar.mp h;rw[<-Np e];exact hx
 .exact eC
def rQ(K:Za)(H:Hp)(v:V)(sg:Zb):Prop:=∃s,v=.ref s/\bE K H s (sg.map WB)
theorem ab.VP{K:Za}(e:ab H f)(h:bE K H a g):bE K f a g:=by
 obtain(h|⟨o,h⟩)|h:=h
 .exact .inl<|.inl<|e _ _ h
 .exact .inl<|.inr ⟨o,e _ _ h⟩
 .exact .inr h
theorem Sb.same{K:Za}(e:ab H f)(h:Paired (rQ K H) xs a):Paired (rQ K f) xs a :=
 Paired.i3 h λ_ _ ⟨s,g,i⟩=>⟨s,g,ab.VP e i⟩
def nY(sg:Zb):DT:=.t<|sg.map dD
theorem HA(h:nY x=nY y):x=y:=by
 unfold nY at h;injection h with h;exact hC h
theorem c6(a:Zb):(nY a).depth=1:=by
 show DT.gg (a.map dD)+1=1;rw[gw]
theorem Jm(a:List<|List Ws):DT.gg (a.map nY)<=8:=by
 induction a with
 |nil=>exact cH _
 |cons x e f=>rw[bL];show max (DT.depth<|nY x) (DT.gg _)<=8;rw[c6];nofun
theorem Sb.RE{K:Za}(h:Paired (rQ K H) xs a):lR K H (a.map nY) xs:=by
 induction h with
 |nil=>show lR K H [] [];unfold lR;rfl
 |cons q _ f =>
  let⟨s,e,r⟩:=q;rw[bL];unfold lR;apply⟨_,_,fj,?_,f⟩;rw[e];exact cg r
theorem Ho{a:List (List Ws)}:nY d∈a.map nY↔d∈a:=by
 constructor
 .intro h;let⟨x,hx,e⟩:=ar.mp h;rw[<-HA e];exact hx
 .exact eC
theorem Paired.app(g:Paired R a b)(h:Paired R c d):Paired R (a++c) (b++d):=by
 induction g with
 |nil=>exact h
 |cons r _ e=>exact .cons r e
def bQ(w:Ws):List Ws:=[("ask":Ws),w]
def bZ(w:Ws):List Ws:=[("say":Ws),w]
def hV(J0 J2:Zb):List (List Ws):=J0.map bQ++J2.map bZ++[aD]
theorem xF{K:Za}{j:Zb}(B:H a=eH (.lst<|j.map WB))(A:H l=none)(J:j.length<=1000)(k:∀(xs:List V) (f:Hp),Paired (rQ K f) xs (j.map λw=>[h,w])->ab H f->f l=eH (.lst xs)->Q f) :
  dB 1 [] σ (HW K a) U0 iN (cB<|aK (tC<|.str h) V0) H l Q:=by
 let r:Nat->List V->Hp->Prop:=λi g f=>Paired (rQ K f) g ((j.take i).map λw=>[h,w])/\ab H f/\f l=eH (.lst g)
 refine cu (xs:=j.map WB) r
  ⟨.nil,ab.new A,aa⟩ (λi g f _ C=>by let⟨_,D,E⟩:=C;exact⟨E,az.of<|D _ _ B⟩) ?_ ?_
 .rintro g f ⟨m,u,n⟩;rw[ag,aX]at m;exact k g f m u n
 .rintro i g f x hx hi ⟨m,u,n⟩;let⟨w,G,rfl⟩:=bu hx;refine gN<|su ?_;apply⟨_,fj,(by show 2<=ak;decide),λt p=>⟨kp n p,?_,oj hi ⟨?_,?_,aa⟩⟩⟩
  .rw[Paired.length m,ag,aS];exact ao ⋯
  .rw[take_snoc G,au];have q:h_ (upd f t<|.tup [.str h,.str w]) (upd (upd f t<|.tup [.str h,.str w]) l<|.lst<|g++[.ref t]):=eF<|kp n p;have y:h_ f (upd (upd f t<|.tup [.str h,.str w]) l<|.lst<|g++[.ref t]):=(ab.kt<|ab.new p).trans q;refine Paired.app (Paired.i3 m λv L ⟨s,I,e2⟩=>⟨s,I,?_⟩)<|.cons ⟨t,fj,bE.of<|q _ _ aa⟩ .nil;obtain(e2|⟨o,e2⟩)|e2:=e2
   .exact .inl<|.inl<|y _ _ e2
   .refine .inl<|.inr ⟨o,?_⟩;rw[ah (λz=>by rw[z,n]at e2;cases e2)];exact kp e2 p
   .exact .inr e2
  .intro b o e;rw[ah<|ae e A];exact kp (u _ _ e) p
inductive rz(K:Za)(vs:List V)(H:Hp)(Q:VK)(E:XK):Prop
 |mk (l1 l2:Wk) (J0 J2:Zb):vs=[.ref l1,.ref l2]->H l1=eH (.lst (J0.map WB))->H l2=eH (.lst (J2.map WB))->J0.length<=100->J2.length<=100->(∀(l:Wk) (xs:List V) (H':Hp),Paired (rQ K H') xs (hV J0 J2)->ab H H'->H' l=eH (.lst xs)->Q (.ref l) H')->rz K vs H Q E
theorem zm{K:Za}{st:Wk}(i:∀H,bE K H st<|aD.map WB){n:List V}{H:Hp}{Q:VK}{E:XK}(h:rz K n H Q E):BH K st (bT Q) (start CT n) H:=by
 let⟨y,z,J,L,rfl,o,p,A,B,k⟩:=h;apply⟨_,fj,y,fj,⟨_,az.of o⟩,λa C=>?_⟩;refine xF o C ⋯ λf M q j D=>?_;apply⟨_,fj,z,fj,⟨_,az.of<|j _ _ p⟩,λb G=>?_⟩;refine xF (j _ _ p) G ⋯ λg r s l I=>?_;have t:f.length<=100:=by rw[Paired.length q,ag];exact A
 have u:g.length<=100:=by rw[Paired.length s,ag];exact B
 apply⟨a,b,f,g,fj,fj,l _ _ D,I,cA (ao ⋯),λc v=>?_⟩;apply⟨(by show 1<=ak;decide),λd m=>?_⟩;apply⟨c,d,_,_,fj,fj,kp aa m,aa,?_,λe w=>k e _ _ ?_ ?_ aa⟩
 .rw[aA];show _+1<=ak;exact cA (ao ⋯)
 .have x:ab r (upd (upd (upd r c<|.lst<|f++g) d<|.lst [.ref st]) e<|.lst<|f++g++[.ref st]):=((ab.new v).trans<|ab.new m).trans<|ab.new w;exact Paired.app (Paired.app (Sb.same (l.trans x) q)<|Sb.same x s)<|.cons ⟨st,fj,i _⟩ .nil
 .exact(((j.trans l).trans<|ab.new v).trans<|ab.new m).trans<|ab.new w
def Ni(J3:Zb)(Ut:List<|List Ws):Nat->List am->List am->Option Nat
 |_,_,[]=>none
 |i,ahead,d::ds=>if i=2000∨d∈ahead∨d.a∉J3∨d.sg∉Ut∨d.b∉J3 then eH i else Ni J3 Ut (i+1) (ahead++[d]) ds
inductive mv(K:Za)(vs:List V)(H:Hp)(Q:VK)(E:XK):Prop
 |mk (l l3 sl:Wk) (ts:Ze) (ds:List am) (J3:Zb) (xs:List V) (Ut:List (List Ws)):vs=[.ref l,.ref l3,.ref sl]->H l=eH (.lst (ts.map WC))->dJ H ts ds->H l3=eH (.lst (J3.map WB))->J3.length<=1000->H sl=eH (.lst xs)->Paired (rQ K H) xs Ut->ds.length<=9000->(∀H',ab H H'->Q (oV (Ni J3 Ut 0 [] ds)) H')->mv K vs H Q E
theorem cJ{a:Ze}{i:Nat}{x:V}(h:(a.map WC)[i]?=eH x):∃w,a[i]?=eH w/\x=.ref w:=by
 rw[bV]at h;cases q:a[i]? with
 |none=>rw[q]at h;cases h
 |some r=>rw[q]at h;exact⟨r,fj,(gp h).symm⟩
theorem qe{K:Za}(h:mv K vs H Q E):re K (oD K) (bT Q) (start rV vs) H:=by
 let⟨l,l3,sl,ts,p,w,xs,m,rfl,hl,B,h3,hr,U,Y,hz,k⟩:=h;apply⟨_,fj,uZ (az.of h3) hr λd hd=>?_⟩;refine λe he=>?_;have C:ab H (upd (upd H d<|.dK<|bm w) e<|.dT []):=(ab.new hd).trans<|ab.new he;have al:H e=none:=(ab.new hd).free he;apply⟨_,fj,l,fj,⟨_,az.of<|C _ _ hl⟩,?_⟩
 let an:Nat->L2.St->Hp->Prop:=λi σ H'=>∃x y,σ=[eH<|.ref l,eH<|.ref l3,eH<|.ref sl,eH<|.ref d,eH<|.ref e,x,y]/\ab H H'/\H' d=eH (.dK<|bm w)/\H' e=eH (.dT<|nX<|(p.take i).map HI)/\Ni w m i (p.take i) (p.drop i)=Ni w m 0 [] p
 refine o8 (xs:=ts.map WC) an
  ⟨_,_,fj,C,kp aa he,aa,fj⟩ (λi σ H' _ zq=>by let⟨_,_,_,D,_⟩:=zq;exact az.of<|D _ _ hl) ?_ ?_
 .rintro i x σ H' q hi ⟨x5,x6,rfl,D,ap,as,hf⟩ hq;let⟨t,ht,rfl⟩:=cJ hi;let⟨f,r,aC⟩:=Paired.getL B ht;have a0:i<p.length:=(bY.mp r).1;have ed:p.drop i=f::p.drop (i+1):=by
   rw[A_ a0];congr 1;exact(bY.mp r).2
  rw[ed]at hf;have g:ab H (upd H' q<|.tup [.int i,.ref t]):=D.trans<|ab.new hq;have j:upd H' q (.tup [.int i,.ref t]) d=_:=kp ap hq;have u:upd H' q (.tup [.int i,.ref t]) e=_:=kp as hq;apply⟨q,_,fj,bE.of aa,fj,_,_,fj,_,_,fj,fj,?_⟩;generalize upd H' q (.tup [.int i,.ref t])=H2 at j u g ⊢;have A:=aC.kt<|ab.kt g;have a4:mN K H2 (HI f) (.ref t):=fX.isIn 8 (by rw[zY];decide) A.tk;have G:(HI f).depth<=8:=by rw[zY];decide
  let⟨s,v,I⟩:=A;have n:(i=2000∨f∈p.take i∨f.a∉w∨f.sg∉m∨f.b∉w)->Q (.int i) H2:=by
   intro c;have:=k H2 g;rw[<-hf]at this;unfold Ni at this;rw[if_pos c]at this;exact this
  apply⟨_,fj,fj,_,fj,?_⟩;by_cases L:i=2000
  .have e1:decide (WD (i:Nat)=WD 2000)=true:=hH (by rw[L];rfl);rw[e1];exact cS<|cS ⟨_,fj,n<|.inl L⟩
  have e1:decide (WD (i:Nat)=WD 2000)=false:=hB (λz=>L (by injection z with z;nofun));rw[e1];refine bF ?_;apply⟨_,fj,_,fj,e,_,fj,.inr ⟨_,HI f,t,.inl u,fj,a4,G,fj⟩,_,fj,?_⟩;rw[Lc];by_cases M:f∈p.take i
  .rw[hH<|Hq.mpr M];exact cS ⟨_,fj,n<|.inr<|.inl M⟩
  rw[hB<|λz=>M<|Hq.mp z];refine bF ?_;apply⟨_,fj,.inr<|.inl ⟨t,_,0,_,fj,fj,bE.of v,fj,_,fj,d,_,fj,.inl ⟨_,.inr f.a,.inl j,fj,fj⟩,_,fj,?_⟩⟩;rw[gb];by_cases N:f.a∈w;rotate_left
  .rw[hB N];exact cS<|cS ⟨_,fj,n<|.inr<|.inr<|.inl N⟩
  rw[hH N];refine bF ?_;apply⟨_,fj,.inr (.inl ⟨t,_,1,_,fj,fj,bE.of v,fj,_,fj,nY f.sg,m.map nY,sl,xs,cg<|bE.of I,fj,.inl<|az.of<|g _ _ U,Sb.RE<|Sb.same g Y,by rw[c6];decide,Jm _,_,fj,?_⟩)⟩;rw[if_pos rfl];by_cases O:f.sg∈m;rotate_left
  .rw[hB<|λz=>O<|Ho.mp z];exact cS<|cS ⟨_,fj,n<|.inr<|.inr<|.inr<|.inl O⟩
  rw[hH<|Ho.mpr O];refine bF ?_;apply⟨_,fj,.inr<|.inl ⟨t,_,2,_,fj,fj,bE.of v,fj,_,fj,d,_,fj,.inl ⟨_,.inr f.b,.inl j,fj,fj⟩,_,fj,?_⟩⟩;rw[gb];by_cases T:f.b∈w;rotate_left
  .rw[hB T];exact cS ⟨_,fj,n<|.inr<|.inr<|.inr<|.inr T⟩
  rw[hH T];refine bF ?_;have J:(nX<|(p.take i).map HI).length<ak:=iQ (bH (Ja _) (by rw[ag,aS];nofun));apply⟨_,fj,_,fj,e,_,fj,.inr ⟨_,HI f,t,u,fj,jb.tk ⟨s,v,I⟩,G,J,fj⟩,_,_,fj,?_,?_,?_,?_⟩
  .intro b o q;rw[ah<|ae q al];exact g _ _ q
  .rw[ah (λz=>by rw[z,u]at j;cases j)];exact j
  .rw[aa,take_snoc r,au];exact congrArg (λz=>eH<|HO.dT z) (rH _ _).symm
  .rw[<-hf,take_snoc r]
   conv=>rhs;unfold Ni
   rw[if_neg];rintro(z|z|z|z|z)
   .exact L z
   .exact M z
   .exact z N
   .exact z O
   .exact z T
 .rintro σ H' ⟨x,y,rfl,D,_,_,hf⟩;have:=k H' D;rw[<-hf,ag,Paired.length B,List.drop_length]at this;exact this
theorem Ef:∀(f ahead:List am) (i:Nat),i+f.length<=2000->(ahead++f).Nodup->(∀d∈f,d.a∈g/\d.sg∈e/\d.b∈g)->Ni g e i ahead f=none
 |[],_,_,_,_,_=>rfl
 |n::k,ahead,i,l,h,j=>by
  rw[eT]at l;unfold Ni;rw[if_neg]
  .refine Ef k (ahead++[n]) (i+1) ⋯ (by rw[dQ];exact h) λw m=>j w<|eN _ m
  .have:=j n cT;rintro(z|z|z|z|z)
   .omega
   .rw[cQ]at h;exact h.2.2 n z n (cT) rfl
   .exact z this.1
   .exact z this.2.1
   .exact z this.2.2
inductive lA (vs:List V)(H:Hp)(Q:VK)(E:XK):Prop
 |mk (x:V):vs=[x,.zr]->Q .zr H->lA  vs H Q E
theorem BV{K:Za}(h:lA a H Q E):De K (bT Q) (start EF a) H:=by
 let⟨x,rfl,k⟩:=h;apply⟨_,fj,_,fj,?_⟩;have e:(!decide (V.zr=V.zr))=false:=by rw[hH rfl];rfl
 rw[e];exact bF k
structure Ql(H:Hp)(l1 l2 l3 l4:Wk)(ts:Ze)(J0 J2 J3:Zb)(ds:List am):Prop where
 a1:H l1=eH (.lst (J0.map WB))
 a2:H l2=eH (.lst (J2.map WB))
 a3:H l3=eH (.lst (J3.map WB))
 a4:H l4=eH (.lst (ts.map WC))
 ds:dJ H ts ds
theorem Ql.same(h:Ql H f g l3 i j k l m n)(e:ab H a):Ql a f g l3 i j k l m n :=
 ⟨e _ _ h.a1,e _ _ h.a2,e _ _ h.a3,e _ _ h.a4,h.ds.kt<|ab.kt e⟩
inductive rr (vs:List V)(H:Hp)(Q:VK)(E:XK):Prop
 |mk (l1 l2 l3 l4:Wk) (ts:Ze) (J0 J2 J3:Zb) (ds:List am):vs=[.ref l1,.ref l2,.ref l3,.ref l4]->Ql H l1 l2 l3 l4 ts J0 J2 J3 ds->aE J0 J2 J3 ds->(∀H',ab H H'->Q .zr H')->rr  vs H Q E
theorem aE.signs(m:aE J0 i f j):∀d∈j,d.a∈f/\d.sg∈hV J0 i/\d.b∈f:=by
 intro d k;have g:=m.good d k;apply⟨g.a,?_,g.b⟩;unfold hV;obtain⟨w,h,e⟩|⟨w,h,e⟩|e:=g.sg
 .rw[e];exact cE _<|cE _<|ar.mpr ⟨w,h,fj⟩
 .rw[e];exact cE _<|dh _<|ar.mpr ⟨w,h,fj⟩
 .rw[e];exact dh _ (by simp[aD])
theorem uQ(h:jp a):∀w∈a,w.length<=1000:=λw e=>bH (h.2 w e).hi Wt
theorem zh{K:Za}(h:rr s H Q E):BD K lA (mv K) (rz K) (i0 K) (bT Q) (start CO s) H:=by
 let⟨l,t,u,x,y,f,g,j,n,rfl,L,m,k⟩:=h;have z:dX f 4 []=none:=jJ m.Tv m.B' m.To.1 m.To.2;have A:dX g 4 f=none:=jJ m.SJ m.A2 (by
  rw[cQ];exact⟨m.To.1,m.Th.1,λa B b C e=>m.apart b C<|e▸B⟩) m.Th.2
 have D:dX j 150 []=none:=jJ m.P5 (by have:=m.vr;nofun) m.RV.1 m.RV.2;have G:Ni j (hV f g) 0 [] n=none:=Ef n [] 0 (by have:=m.Qf;nofun) m.nodup m.signs;have z1:=m.B';have z2:=m.A2;have z3:=m.vr;have z4:=m.Qf;apply⟨_,fj,(by show 0<=ak;decide),λe i=>⟨l,e,f,[],4,fj,az.of<|kp L.a1 i,az.of aa,by simp;nofun,uQ m.To,λH1 I=>?_⟩⟩;rw[z];apply⟨_,fj,?_⟩;have o:=(ab.new i).trans I;apply⟨_,fj,_,fj,t,l,g,f,4,fj,az.of<|o _ _ L.a2,az.of<|o _ _ L.a1,by nofun,uQ m.Th,λH2 J=>?_⟩;rw[A];apply⟨_,fj,?_⟩;have v:=o.trans J;apply⟨_,fj,(by show 0<=ak;decide),λe i=>⟨u,e,j,[],150,fj,az.of<|kp (v _ _ L.a3) i,az.of aa,by simp;nofun,uQ m.RV,λH3 M=>?_⟩⟩;rw[D];apply⟨_,fj,?_⟩;have p:=(v.trans<|ab.new i).trans M;apply⟨_,fj,_,fj,_,fj,_,fj,l,t,f,g,fj,p _ _ L.a1,p _ _ L.a2,by nofun,by nofun,λN O H4 hx T q=>?_⟩;have w:=p.trans T;have r:=L.same w;apply⟨x,u,N,y,n,j,O,hV f g,fj,r.a4,r.ds,r.a3,by nofun,q,hx,by nofun,λU Y=>?_⟩;rw[G];exact⟨_,fj,k U<|w.trans Y⟩
section
variable{κ ι:Type}[DecidableEq κ]{e:ι->κ}
def fD(e:ι->κ)(ps:List<|ι×Wk):List (κ×V):=ps.map λx=>(e x.1,WC x.2)
theorem pN(inj:∀x y,e x=e y->x=y):∀{a:List (ι×Wk)},i∉a.map (·.1)->cy (fD e a) (e i)=none
 |[],_=>rfl
 |x::a,h=>by
  rw[bL,cq]at h;show cy ((e x.1,WC x.2)::fD e a) (e i)=none;rw[cU<|λz=>h<|.inl (inj _ _ z).symm];exact pN inj<|λz=>h<|.inr z
theorem fN(inj:∀x y,e x=e y->x=y):∀{f:List (ι×Wk)},(f.map (·.1)).Nodup->(i,a)∈f->cy (fD e f) (e i)=eH (.ref a)
 |[],_,h=>by cases h
 |x::f,g,h=>by
  rw[bL,gj]at g;show cy ((e x.1,WC x.2)::fD e f) (e i)=_;obtain h|h:=cq.mp h
  .rw[<-h];exact c8 rfl
  .rw[cU (λz=>g.1 (by rw[inj _ _ z];exact ar.mpr ⟨_,h,fj⟩))];exact fN inj g.2 h
theorem An(f:List<|ι×Wk)(i:ι)(a:Wk):fD e (f++[(i,a)])=fD e f++[(e i,.ref a)]:=by
 unfold fD;rw[au]
 rfl
end
structure DL{ι:Type}(H0 H:Hp)(d:Wk)(ps:List (ι×Wk)):Prop where
 nd:(ps.map (·.1)).Nodup
 na:(ps.map (·.2)).Nodup
 fr:∀x∈ps,H0 x.2=none
 Vf:H0 d=none
 Ud:∀x∈ps,x.2≠d
 same:ab H0 H
theorem DL.snoc{ι:Type}{f H k:Hp}{d:Wk}{g:List (ι×Wk)}{i:ι}{a:Wk}(h:DL f H d g)(hi:i∉g.map (·.1))(l:∀x∈g,x.2≠a)(m:f a=none)(n:a≠d)(s:ab f k):DL f k d (g++[(i,a)]):=by
 apply⟨?_,?_,?_,h.Vf,?_,s⟩
 .rw[au,cQ];apply⟨h.nd,by simp,λx hx y j e=>?_⟩;have:y=i:=by simpa using j
  exact hi (by rw[<-this,<-e];exact hx)
 .rw[au,cQ];apply⟨h.na,by simp,λx hx y j e=>?_⟩;have:y=a:=by simpa using j
  let⟨z,o,rfl⟩:=ar.mp hx;exact l z o<|e.trans this
 .intro x hx;obtain hx|hx:=bt.mp hx
  .exact h.fr x hx
  .have:x=(i,a):=by simpa using hx
   rw[this];exact m
 .intro x hx;obtain hx|hx:=bt.mp hx
  .exact h.Ud x hx
  .have:x=(i,a):=by simpa using hx
   rw[this];exact n
theorem K9{ι:Type}:∀{a:List (ι×Wk)},(a.map (·.2)).Nodup->∀{x y:ι×Wk},x∈a->y∈a->x.2=y.2->x=y
 |[],_,x,_,h,_,_=>by cases h
 |p::a,f,x,y,hx,g,e=>by
  rw[bL,gj]at f;obtain UA|UA:=cq.mp hx<;>obtain Uz|Uz:=cq.mp g
  .rw[UA,Uz]
  .exact absurd (ar.mpr ⟨y,Uz,by rw[<-e,UA]⟩) f.1
  .exact absurd (ar.mpr ⟨x,UA,by rw[e,Uz]⟩) f.1
  .exact K9 f.2 UA Uz e
theorem jX:∀x y:Ws,(Sum.inr x:fK)=Sum.inr y->x=y:=λx y h=>by injection h
def bM(ds:List am)(r:Ws):List am:=ds.filter λd=>decide (d.a=r)
inductive qy (vs:List V)(H:Hp)(Q:VK)(E:XK):Prop
 |mk (l3 l4:Wk) (ts:Ze) (J3:Zb) (ds:List am):vs=[.ref l3,.ref l4]->H l3=eH (.lst (J3.map WB))->H l4=eH (.lst (ts.map WC))->dJ H ts ds->J3.Nodup->J3.length<=1000->ds.length<=9000->((∀d∈ds,d.a∈J3))->(∀(d:Wk) (ps:List (Ws×Wk)) (H':Hp),ps.map (·.1)=J3->H' d=eH (.dK (fD Sum.inr ps))->(∀x∈ps,∃us,H' x.2=eH (.lst (us.map WC))/\dJ H' us (bM ds x.1))->ab H H'->Q (.ref d) H')->qy  vs H Q E
theorem tq{K:Za}(h:qy vs H Q E):uG K (bT Q) (start va vs) H:=by
 let⟨l3,l4,ts,J3,L,rfl,h3,h4,M,aC,hz,bh,a0,k⟩:=h;refine λd hd=>?_;apply⟨_,fj,l3,fj,⟨_,az.of<|kp h3 hd⟩,?_⟩
 let a4:Nat->L2.St->Hp->Prop:=λi σ j=>∃x y,σ=[eH<|.ref l3,eH<|.ref l4,eH<|.ref d,x,y]/\∃l:List<|Ws×Wk,l.map (·.1)=J3.take i/\j d=eH (.dK<|fD Sum.inr l)/\DL H j d l/\∀x∈l,j x.2=eH (.lst [])
 refine cb (xs:=J3.map WB) a4
  ⟨_,_,fj,[],fj,aa,⟨by simp,by simp,by simp,hd,by simp,ab.new hd⟩,by simp⟩ (λi σ j _ zq=>by let⟨_,_,_,_,_,_,D,_⟩:=zq;exact az.of<|D.same _ _ h3) ?_ ?_
 .rintro i x σ j hi ⟨x3,N,rfl,l,m,n,D,g⟩;let⟨w,hw,rfl⟩:=bu hi;have v:w∉l.map (·.1):=by
   rw[m];intro z;have:=aC;rw[<-List.take_append_drop (i+1) J3,take_snoc hw,cQ]at this;have:=this.1;rw[cQ]at this;exact this.2.2 w z w ∅ rfl
  apply⟨(by show 0<=ak;decide),λa G=>?_⟩;have O:(fD (Sum.inr:Ws->fK) l).length<ak:=ao (by
   unfold fD;rw[ag,<-ag (f:=(·.1)) (as:=l),m,aS];nofun)
  have a5:H a=none:=D.same.free G;have T:a≠d:=(ae n G).symm;have U:∀x∈l,x.2≠a:=λx hx=>ae (g x hx) G;apply⟨_,fj,_,fj,d,_,fj,.inl ⟨_,.inr w,kp n G,fj,O,fj⟩,_,_,fj,l++[(w,a)],?_,?_,?_,?_⟩
  .rw[au,m,take_snoc hw];rfl
  .rw[aa,jx _<|pN jX v,An]
  .refine D.snoc v U a5 T ?_;intro b o q;rw[ah<|ae q hd];exact kp (D.same _ _ q) G
  .intro x hx;obtain hx|hx:=bt.mp hx
   .rw[ah<|D.Ud x hx];exact kp (g x hx) G
   .have:x=(w,a):=by simpa using hx
    rw[this,ah T];exact aa
 .rintro σ H1 ⟨x3,N,rfl,l,m,a6,D1,g⟩;rw[ag,aX]at m;apply⟨_,fj,l4,fj,⟨_,az.of<|D1.same _ _ h4⟩,?_⟩
  let a7:Nat->L2.St->Hp->Prop:=λi σ j=>∃N,σ=[eH<|.ref l3,eH<|.ref l4,eH<|.ref d,x3,N]/\j d=eH (.dK<|fD Sum.inr l)/\DL H j d l/\∀x∈l,∃I,j x.2=eH (.lst<|I.map WC)/\dJ j I (bM (L.take i) x.1)
  refine cb (xs:=ts.map WC) a7
   ⟨_,fj,a6,D1,λx hx=>⟨[],g x hx,.nil⟩⟩ (λi σ j _ zq=>by let⟨_,_,_,D,_⟩:=zq;exact az.of<|D.same _ _ h4) ?_ ?_
  .rintro i x σ j hi ⟨N,rfl,n,D,g⟩;let⟨t,ht,rfl⟩:=cJ hi;let⟨u,B,a8⟩:=Paired.getL M ht;have A:=a8.kt<|ab.kt D.same;have Y:=A;let⟨s,a9,bi⟩:=A;have al:u.a∈l.map (·.1):=by rw[m];exact a0 u<|cj B
   let⟨⟨r,a⟩,p,er⟩:=ar.mp al;obtain rfl:r=u.a:=er;let⟨I,C,an⟩:=g _ p;have bl:i<L.length:=(bY.mp B).1;have ba:I.length<=9000:=by
    rw[Paired.length an];refine bH (b_ _ _) ?_;rw[aS];nofun
   have KT:h_ j (upd j a<|.lst<|I.map WC++[.ref t]):=eF C;apply⟨_,fj,_,fj,.inr<|.inl ⟨t,_,0,_,fj,fj,bE.of a9,fj,d,.ref a,fj,.inl ⟨_,.inr u.a,.inl n,fj,(fN jX D.nd p).symm⟩,.inl ⟨fj,_,az.of C⟩,_,fj,a,_,_,fj,fj,C,?_,_,fj,?_,?_,?_⟩⟩
   .rw[ag];exact iQ ba
   .rw[ah (D.Ud _ p).symm];exact n
   .refine⟨D.nd,D.na,D.fr,D.Vf,D.Ud,λb o q=>?_⟩;rw[ah<|ae q<|D.fr _ p];exact D.same _ _ q
   .intro x hx;have ap:∀r',bM (L.take<|i+1) r'=bM (L.take i) r'++(if u.a=r' then[u]else[]):=by
     intro r';unfold bM;rw[take_snoc B,gJ];congr 1;by_cases c:u.a=r'
     .rw[if_pos c];simp[c]
     .rw[if_neg c];simp[c]
    by_cases c:x.2=a
    .have ex:=K9 D.na hx p c;subst ex;apply⟨I++[t],?_,?_⟩
     .show upd j a _ a=_;rw[aa,au];rfl
     .rw[ap];show dJ _ _ (bM (L.take i) u.a++(if u.a=u.a then[u]else[]))
      rw[if_pos rfl];exact Paired.app (an.kt KT)<|.cons (Y.kt KT) .nil
    .obtain⟨bb,h1,h2⟩:=g x hx;have bd:¬(u.a=x.1):=λz=>by
      have e1:=fN (e:=(Sum.inr:Ws->fK)) jX D.nd p;have J:=fN (e:=(Sum.inr:Ws->fK)) (i:=x.1) (a:=x.2) jX D.nd hx;rw[<-z,e1]at J;injection J with J;injection J with J;exact c J.symm
     apply⟨bb,by rw[ah c];exact h1,?_⟩;rw[ap,if_neg bd,dj];exact h2.kt KT
  .rintro σ j ⟨N,rfl,n,D,g⟩;rw[ag,Paired.length M,aX]at g;exact⟨_,fj,k d l j m n g D.same⟩
def jA(d:am):Bool:=match d.sg with
 |s::_=>decide (s=("ask":Ws))
 |[]=>false
inductive qx (vs:List V)(H:Hp)(Q:VK)(E:XK):Prop
 |mk (a:Wk) (us:Ze) (ds:List am):vs=[.ref a]->H a=eH (.lst (us.map WC))->dJ H us ds->ds.length<=9000->((∀d∈ds,d.sg≠[]))->(∀H',ab H H'->Q (.bl (ds.all jA)) H')->qx  vs H Q E
theorem tp{K:Za}(h:qx f H Q E):uE K (bT Q) (start u8 f) H:=by
 let⟨a,O,L,rfl,M,v,Y,C,k⟩:=h;apply⟨_,fj,a,fj,⟨_,az.of M⟩,λl N=>?_⟩
 let D:Nat->List V->Hp->Prop:=λi f n=>f=(L.take i).map (λd=>V.bl<|jA d)/\ab H n/\n l=eH (.lst f)
 refine cu (xs:=O.map WC) D
  ⟨fj,ab.new N,aa⟩ (λi f n _ T=>by let⟨_,p,r⟩:=T;exact⟨r,az.of<|p _ _ M⟩) ?_ ?_
 .rintro f n ⟨rfl,p,r⟩;rw[ag,Paired.length v,aX]at r;apply⟨l,L.map jA,fj,az.of (by rw[r,eZ];rfl),?_⟩;rw[List.all_map];exact k n p
 .rintro i f n x hx hi ⟨rfl,p,r⟩;let⟨t,U,rfl⟩:=cJ hx;let⟨G,w,I⟩:=Paired.getL v U;let⟨s,J,m⟩:=I.kt<|ab.kt p;have A:=cj w;obtain⟨u,g,B⟩:∃u g,G.sg=u::g:=by
   cases q:G.sg with
   |nil=>exact absurd q<|C G A
   |cons x y=>exact⟨x,y,fj⟩
  unfold SignAt at m;rw[B]at m;refine gN<|su ?_;apply⟨_,fj,.inr<|.inl ⟨t,_,1,_,fj,fj,bE.of J,fj,.inr<|.inl ⟨s,_,0,.str u,fj,fj,bE.of m,cO (j:=0) rfl,fj,r,?_,oj hi ⟨?_,?_,aa⟩⟩⟩⟩
  .rw[ag,aS];exact iQ ⋯
  .rw[take_snoc w,au];congr 1;show[V.bl _]=[V.bl _];congr 2;unfold jA;rw[B];show decide (WB u=WB _)=decide (u=_);by_cases c:u=("ask":Ws)
   .rw[hH c,hH (by rw[c])]
   .rw[hB c,hB (λz=>c (by injection z))]
  .intro b o e;rw[ah<|ae e N];exact p _ _ e
def yO(x:Ws×List Ws):TK:=.t [tf x.1,j9 x.2]
theorem jT:∀x y:Ws×List Ws,yO x=yO y->x=y:=by
 intro x y h;unfold yO at h;injection h with h;injection h with a h;injection h with e h;cases x;cases y;simp only at *;rw[wk a,k_ e]
theorem pI(x:Ws×List Ws):(yO x).depth<=8:=by
 show max (TK.depth<|tf x.1) (max (TK.depth<|j9 x.2) 0)+1<=8;rw[pk];show max 0 (max 1 0)+1<=8
 decide
def aZ(ds:List am)(x:Ws×List Ws):List Ws:=(ds.filter λd=>decide (d.a=x.1/\d.sg=x.2)).map (·.b)
theorem Cr(e:List am)(d:am)(x:Ws×List Ws):aZ (e++[d]) x=aZ e x++(if(d.a,d.sg)=x then[d.b]else[]):=by
 unfold aZ;rw[gJ,au];congr 1;by_cases c:(d.a,d.sg)=x
 .subst c;simp
 .rw[if_neg c];have:¬(d.a=x.1/\d.sg=x.2):=λz=>c (by cases x;simp only at z;rw[z.1,z.2]);simp[lE];intro f g;exact this ⟨f,g⟩
theorem o7(h:∀d∈e,(d.a,d.sg)≠x):aZ e x=[]:=by
 unfold aZ;rw[List.map_eq_nil_iff,wH];intro d f;have:¬(d.a=x.1/\d.sg=x.2):=λz=>h d f (by cases x;simp only at z;rw[z.1,z.2]);simp;intro g i;exact this ⟨g,i⟩
theorem c_:b∈aZ a x↔(⟨x.1,x.2,b⟩:am)∈a:=by
 unfold aZ;rw[ar];constructor
 .rintro⟨d,e,rfl⟩;rw[bW]at e;let⟨i,j⟩:=e;let⟨f,g⟩:=of_decide_eq_true j;cases d;simp only at f g;rw[<-f,<-g];exact i
 .intro h;exact⟨_,bW.mpr ⟨h,hH ⟨fj,fj⟩⟩,fj⟩
structure lr(H:Hp)(g:Wk)(ps:List ((Ws×List Ws)×Wk))(ds:List am):Prop where
 nd:(ps.map (·.1)).Nodup
 g:H g=eH (.dT (fD yO ps))
 ls:∀x∈ps,H x.2=eH (.lst ((aZ ds x.1).map WB))
 all:∀d∈ds,(d.a,d.sg)∈ps.map (·.1)
theorem lr.same{H H':Hp}{g:Wk}{a:List ((Ws×List Ws)×Wk)}{e:List am}(h:lr H g a e)(s:ab H H'):lr H' g a e:=⟨h.nd,s _ _ h.g,λx hx=>s _ _<|h.ls x hx,h.all⟩
inductive sV (vs:List V)(H:Hp)(Q:VK)(E:XK):Prop
 |mk (l4:Wk) (ts:Ze) (ds:List am):vs=[.ref l4]->H l4=eH (.lst (ts.map WC))->dJ H ts ds->ds.length<=9000->(∀(g:Wk) (ps:List ((Ws×List Ws)×Wk)) (H':Hp),lr H' g ps ds->ab H H'->Q (.ref g) H')->sV  vs H Q E
theorem kA{K:Za}(h:sV vs H Q E):kM K (bT Q) (start kP vs) H:=by
 let⟨l4,ts,T,rfl,h4,al,hz,k⟩:=h;refine λg hg=>?_;apply⟨_,fj,l4,fj,⟨_,az.of<|kp h4 hg⟩,?_⟩
 let a4:Nat->L2.St->Hp->Prop:=λi σ u=>∃x y z,σ=[eH<|.ref l4,eH<|.ref g,x,y,z]/\∃p:List<|(Ws×List Ws)×Wk,DL H u g p/\u g=eH (.dT<|fD yO p)/\p.length<=i/\(∀x∈p,u x.2=eH (.lst<|(aZ (T.take i) x.1).map WB))/\∀d∈T.take i,(d.a,d.sg)∈p.map (·.1)
 refine cb (xs:=ts.map WC) a4
  ⟨_,_,_,fj,[],⟨by simp,by simp,by simp,hg,by simp,ab.new hg⟩,aa,by simp,by simp,by simp⟩ (λi σ u _ zq=>by let⟨_,_,_,_,_,D,_⟩:=zq;exact az.of<|D.same _ _ h4) ?_ ?_
 .rintro i x σ u hi ⟨x2,x3,x4,rfl,p,D,w,an,m,l⟩;let⟨t,ht,rfl⟩:=cJ hi;let⟨f,C,a5⟩:=Paired.getL al ht;have bb:i<T.length:=(bY.mp C).1;let⟨s,a6,a7⟩:=a5.kt<|ab.kt D.same;apply⟨t,_,fj,bE.of a6,fj,_,_,fj,_,_,fj,_,_,fj,fj,?_⟩;apply⟨_,fj,.inr<|.inr<|.inl ⟨fj,.inr ⟨_,w⟩⟩,_,fj,_,fj,(by show 2<=ak;decide),λkt ap=>⟨(by show 0<=ak;decide),λnl U=>?_⟩⟩;have G:ab u (upd (upd u kt<|.tup [.str f.a,.ref s]) nl<|.lst []):=(ab.new ap).trans<|ab.new U;have L:upd (upd u kt<|.tup [.str f.a,.ref s]) nl (.lst []) kt=eH (.tup [.str f.a,.ref s]):=kp aa U;have M:upd (upd u kt<|.tup [.str f.a,.ref s]) nl (.lst []) nl=eH (.lst []):=aa;have j:u nl=none:=(ab.new ap).free U;generalize upd (upd u kt<|.tup [.str f.a,.ref s]) nl (.lst [])=H2 at G L M ⊢;have a8:fX H2 (yO (f.a,f.sg)) (.ref kt):=by
   unfold yO fX;apply⟨kt,_,fj,L,?_⟩;unfold ub;apply⟨_,_,fj,Bz _,?_⟩;unfold ub;apply⟨_,_,fj,SignAt.tk<|G _ _ a7,?_⟩;unfold ub
   rfl
  have a9:(fD yO p).length<ak:=iQ (by unfold fD;rw[ag];nofun);have I:∀x,aZ (T.take<|i+1) x=aZ (T.take i) x++(if(f.a,f.sg)=x then[f.b]else[]):=λx=>by rw[take_snoc C,Cr]
  have ba:∀x,(aZ (T.take i) x).length<=9000:=λx=>by
   unfold aZ;rw[ag];refine bH (b_ _ _) ?_;rw[aS];nofun
  apply⟨g,kt,_,yO (f.a,f.sg),.ref nl,fj,fj,G _ _ w,a8,pI _,a9,λv J=>?_,λJ=>?_⟩
  .-- there as
   have N:(f.a,f.sg)∈p.map (·.1):=by
    refine Classical.byContradiction λz=>?_;rw[pN jT z]at J;cases J
   let⟨⟨r,a⟩,n,er⟩:=ar.mp N;obtain rfl:r=(f.a,f.sg):=er;rw[fN jT D.nd n]at J;injection J with J;subst J;have aC:=G _ _<|m _ n;apply⟨.inl ⟨fj,_,az.of aC⟩,_,fj,a,_,_,fj,fj,aC,by rw[ag];exact iQ<|ba _,_,_,_,fj,p,⟨D.nd,D.na,D.fr,D.Vf,D.Ud,λb o q=>?_⟩,?_,by nofun,?_,?_⟩
   .rw[ah<|ae q<|D.fr _ n];exact G _ _<|D.same _ _ q
   .rw[ah (D.Ud _ n).symm];exact G _ _ w
   .intro x hx;by_cases c:x.2=a
    .have ex:=K9 D.na hx n c;subst ex;show upd H2 a _ a=_;rw[aa,I,if_pos rfl,au];rfl
    .have Y:¬((f.a,f.sg)=x.1):=λz=>by
      have e1:=fN (e:=yO) jT D.nd n;have e2:=fN (e:=yO) (i:=x.1) (a:=x.2) jT D.nd hx;rw[<-z,e1]at e2;injection e2 with e2;injection e2 with e2;exact c e2.symm
     rw[ah c,I,if_neg Y,dj];exact G _ _<|m x hx
   .intro d hd;rw[take_snoc C]at hd;obtain hd|hd:=bt.mp hd
    .exact l d hd
    .have:d=f:=by simpa using hd
     rw[this];exact N
  .-- a new list
   have A:(f.a,f.sg)∉p.map (·.1):=by
    intro z;let⟨⟨r,a⟩,n,er⟩:=ar.mp z;obtain rfl:r=(f.a,f.sg):=er;rw[fN jT D.nd n]at J;cases J
   have B:nl≠g:=(ae w j).symm;have O:upd H2 g (.dT<|fD yO p++[(yO (f.a,f.sg),.ref nl)]) nl=eH (.lst []):=by rw[ah B];exact M
   apply⟨.inl ⟨fj,_,az.of O⟩,_,fj,nl,_,_,fj,fj,O,(by show 0<ak;decide),_,_,_,fj,p++[((f.a,f.sg),nl)],?_,?_,?_,?_,?_⟩
   .refine D.snoc A (λx hx=>ae (m x hx) j) (D.same.free j) B ?_;intro b o q;rw[ah<|ae q<|D.same.free j,ah<|ae q hg];exact G _ _<|D.same _ _ q
   .rw[ah B.symm,aa,An]
   .rw[aA];show _+1<=_;nofun
   .intro x hx;obtain hx|hx:=bt.mp hx
    .have Y:¬((f.a,f.sg)=x.1):=λz=>A (by rw[z];exact ar.mpr ⟨x,hx,fj⟩);rw[ah<|ae (m x hx) j,ah<|D.Ud x hx,I,if_neg Y,dj];exact G _ _<|m x hx
    .have:x=((f.a,f.sg),nl):=by simpa using hx
     subst this;have a0:aZ (T.take i) (f.a,f.sg)=[]:=o7 λd hd z=>A (by rw[<-z];exact l d hd);show upd _ nl _ nl=_;rw[aa,I,if_pos rfl,a0]
     rfl
   .intro d hd;rw[au];rw[take_snoc C]at hd;obtain hd|hd:=bt.mp hd
    .exact cE _<|l d hd
    .have:d=f:=by simpa using hd
     rw[this];exact dh _ ∅
 .rintro σ u ⟨x2,x3,x4,rfl,p,D,w,an,m,l⟩;rw[ag,Paired.length al,aX]at m l;exact⟨_,fj,k g p u ⟨D.nd,w,m,l⟩ D.same⟩
theorem o5:∀{L R:Zb},L.Nodup->(∀y∈L,y∈R)->L.length<=R.length
 |[],_,_,_=>cH _
 |x::L,R,a,h=>by
  rw[gj]at a;have hx:=h x cT;have:=o5 (L:=L) (R:=R.erase x) a.2 λy f=>(List.mem_erase_of_ne (λe:y=x=>a.1 (by rw[<-e];exact f))).mpr<|h y<|eN _ f;rw[List.length_erase_of_mem hx]at this;have:0<R.length:=List.length_pos_of_mem hx;rw[eT];nofun
theorem Reach.Sm{e:List am}{a b:Ws}{f:Zb}(g:∀d∈e,d.b∈f)(h:Reach e a b):b∈f:=by
 cases h with
 |one h=>exact g _ h
 |step r h=>exact g _ h
inductive BR (vs:List V)(H:Hp)(Q:VK)(E:XK):Prop
 |mk (g:Wk) (room:Ws) (ps:List ((Ws×List Ws)×Wk)) (ds:List am) (J3:Zb):vs=[.ref g,.str room]->lr H g ps ds->((∀d∈ds,d.b∈J3))->J3.length<=1000->(∀(d:Wk) (L:Zb) (H':Hp),H' d=eH (.dK (bm L))->L.Nodup->(∀w,w∈L↔Reach ds room w)->H d=none->ab H H'->Q (.ref d) H')->BR  vs H Q E
structure OT(H0 H:Hp)(ds:List am)(room:Ws)(d w:Wk)(L W:Zb)(Uv:Ws->Prop):Prop where
 d:H d=eH (.dK (bm L))
 w:H w=eH (.lst (W.map WB))
 same:ab H0 H
 nd:L.Nodup
 sound:∀y∈L,Reach ds room y
 wait:∀y∈W,y=room∨y∈L
 closed:∀y,(y=room∨y∈L)->y∉W->¬Uv y->∀c∈aZ ds (y,aD),c∈L
theorem vT{K:Za}{st:Wk}(bn:∀H,bE K H st<|aD.map WB){vs:List V}{H:Hp}{Q:VK}{E:XK}(h:BR vs H Q E):xh K st (bT Q) (start yC vs) H:=by
 let⟨g,room,ps,ds,t,rfl,G,bz,hz,k⟩:=h;refine λd hd=>?_;apply⟨_,fj,(by show 1<=ak;decide),λw hw=>?_⟩;have a0:H w=none:=(ab.new hd).free hw;have Y:d≠w:=ae aa hw;apply⟨λm σ C=>∃(L W:Zb) (x y:Option V),σ=[eH<|.ref g,eH<|.str room,eH<|.ref d,eH<|.ref w,x,y]/\OT H C ds room d w L W (λ_=>False)/\m=2 * (t.length-L.length)+W.length/\m<=2 * t.length+1,
  ⟨_,[],[room],_,_,fj,⟨kp aa hw,aa,(ab.new hd).trans<|ab.new hw,qN,by simp,by simp,?_⟩,fj,aF _⟩,?_⟩
 .intro y hy T;obtain rfl|hy:=hy
  .simp at T
  .cases hy
 rintro m σ H1 ⟨L,W,x4,x5,rfl,D,rfl,hbound⟩;have U:∀{l:Zb},l.Nodup->(∀y∈l,Reach ds room y)->l.length<=t.length:=λnd sd=>o5 nd λy hy=>(sd y hy).Sm bz;apply⟨_,fj,.inl ⟨w,_,fj,.inl<|az.of D.w,_,_,fj,fj,_,fj,?_⟩⟩;refine rJ (λB=>?_)<|λB=>?_
 .have a4:W≠[]:=by
   intro z;rw[z]at B;exact absurd (of_decide_eq_true B) Wt
  obtain⟨s,f,rfl⟩:∃s f,W=s++[f]:=⟨W.dropLast,W.getLast a4,(List.dropLast_concat_getLast a4).symm⟩;have al:f=room∨f∈L:=D.wait f ∅;apply⟨fun σ' C=>∃(l n:Zb) (x y:Option V),σ'=[eH<|.ref g,eH<|.str room,eH<|.ref d,eH<|.ref w,x,y]/\OT H C ds room d w l n (λ_=>False)/\2 * (t.length-l.length)+n.length<2 * (t.length-L.length)+(s++[f]).length,
   fun σ' C ⟨l,n,x,y,e,D',hm⟩=>⟨_,hm,l,n,x,y,e,D',fj,by nofun⟩,?_⟩
  have an:((s++[f]).map WB)[((s++[f]).map WB).length-1]?=eH (.str f):=by simp
  have ap:((s++[f]).map WB).dropLast=s.map WB:=by rw[au];simp
  apply⟨_,fj,.inl ⟨fj,_,az.of D.w⟩,w,_,_,fj,fj,D.w,an,?_⟩;rw[ap];have a5:upd H1 w (.lst<|s.map WB) d=eH (.dK<|bm L):=by rw[ah Y];exact D.d
  have a6:upd H1 w (.lst<|s.map WB) w=eH (.lst<|s.map WB):=aa;have S1:ab H (upd H1 w<|.lst<|s.map WB):=λb o q=>by rw[ah<|ae q a0];exact D.same _ _ q
  generalize upd H1 w (.lst<|s.map WB)=H2 at a5 a6 S1 ⊢;have G2:=G.same S1;apply⟨_,fj,g,fj,.inr ⟨_,.inl G2.g⟩,_,fj,(by show 2<=ak;decide),λkt a7=>⟨(by show 0<=ak;decide),λet as=>⟨cy (fD yO ps)<|yO (f,aD),.inr ⟨_,yO (f,aD),kt,.inl ?_,fj,?_,pI _,fj⟩,?_⟩⟩⟩
  .exact kp (kp G2.g a7) as
  .unfold yO mN;apply⟨kt,_,fj,bE.of<|kp aa as,?_⟩;unfold A3;apply⟨_,_,fj,?_,?_⟩
   .unfold tf mN;rfl
   unfold A3;apply⟨_,_,fj,?_,?_⟩
   .unfold j9 mN;apply⟨st,_,fj,bn _,?_⟩;unfold aD;show A3 K _ [tf _] [WB _];unfold A3;apply⟨_,_,fj,?_,?_⟩
    .unfold tf mN;rfl
    unfold A3;rfl
   unfold A3;rfl
  have S3:ab H2 (upd (upd H2 kt<|.tup [.str f,.ref st]) et<|.tup []):=(ab.new a7).trans<|ab.new as;have I:upd (upd H2 kt<|.tup [.str f,.ref st]) et (.tup []) et=eH (.tup []):=aa;generalize upd (upd H2 kt<|.tup [.str f,.ref st]) et (.tup [])=H3 at S3 I ⊢;have D3:OT H H3 ds room d w L s (λy=>y=f):=⟨S3 _ _ a5,S3 _ _ a6,S1.trans S3,D.nd,D.sound,λy hy=>D.wait y<|cE _ hy,λy hy T ho=>D.closed y hy (λz=>by obtain z|z:=bt.mp z;exact T z;exact ho ‹z›)<|λz=>z⟩;have a8:2 * (t.length-L.length)+s.length<2 * (t.length-L.length)+(s++[f]).length:=by rw[aA];show _<_+(_+1);nofun
  have a9:∀(H4:Hp) (l n:Zb) (x y:Option V),OT H H4 ds room d w l n (λy=>y=f)->(∀c∈aZ ds (f,aD),c∈l)->2 * (t.length-l.length)+n.length<2 * (t.length-L.length)+(s++[f]).length ->
    ∃(l n:Zb) (x' y':Option V),[eH<|WC g,eH<|.str room,eH<|.ref d,eH<|.ref w,x,y]=[eH<|.ref g,eH<|.str room,eH<|.ref d,eH<|.ref w,x',y']/\OT H H4 ds room d w l n (λ_=>False)/\2 * (t.length-l.length)+n.length<2 * (t.length-L.length)+(s++[f]).length:=by
   intro H4 l n x y p hc hm;apply⟨l,n,x,y,fj,⟨p.d,p.w,p.same,p.nd,p.sound,p.wait,λy hy T _=>?_⟩,hm⟩;by_cases e:y=f
   .rw[e];exact hc
   .exact p.closed y hy T e
  by_cases J:(f,aD)∈ps.map (·.1)
  .obtain⟨⟨r,a⟩,ba,er⟩:=ar.mp J;obtain rfl:r=(f,aD):=er;rw[fN jT G.nd ba];have bb:=G.ls _ ba;apply⟨a,fj,.inl ⟨⟨_,az.of<|(S1.trans S3) _ _ bb⟩,?_⟩⟩
   let aC:Nat->L2.St->Hp->Prop:=λj σ C=>L_ λ(l n:Zb) (y:Option V)=>Ma (σ=[eH<|.ref g,eH<|.str room,eH<|.ref d,eH<|.ref w,eH<|.str f,y]) (OT H C ds room d w l n<|λy=>y=f) ((f=room∨f∈l)) ((∀c∈(aZ ds (f,aD)).take j,c∈l))<|2 * (t.length-l.length)+n.length<2 * (t.length-L.length)+(s++[f]).length
   refine cb (xs:=(aZ ds (f,aD)).map WB) aC
    ⟨L,s,_,fj,D3,al,by simp,a8⟩ (λj σ C _ zq=>by let⟨_,_,_,_,D',_,_,_⟩:=zq;exact az.of<|D'.same _ _ bb) ?_ ?_
   .rintro j x σ H4 hj ⟨l,n,y,rfl,p,hh,hc,hm⟩;let⟨i,u,rfl⟩:=bu hj;have v:(⟨f,aD,i⟩:am)∈ds:=c_.mp<|cj u;have O:Reach ds room i:=by
     obtain hh|hh:=hh
     .rw[hh]at v;exact .one v
     .exact .step (p.sound _ hh) v
    have bI:=U p.nd p.sound;apply⟨_,fj,_,fj,d,_,fj,.inl ⟨_,.inr i,.inl p.d,fj,fj⟩,_,fj,?_⟩;rw[gb];by_cases c:i∈l
    .rw[hH c];refine bF ⟨l,n,_,fj,p,hh,?_,hm⟩;intro c' A;rw[take_snoc u]at A;obtain h|h:=bt.mp A
     .exact hc c' h
     .have:c'=i:=by simpa using h
      rw[this];exact c
    .rw[hB c];refine cS ?_;have bd:(l++[i]).Nodup:=by
      rw[cQ];apply⟨p.nd,by simp,λa ha b hb e=>?_⟩;have:b=i:=by simpa using hb
      exact c (by rw[<-this,<-e];exact ha)
     have bh:∀y∈l++[i],Reach ds room y:=by
      intro y hy;obtain hy|hy:=bt.mp hy
      .exact p.sound y hy
      .have:y=i:=by simpa using hy
       rw[this];exact O
     have M:=U bd bh;rw[aA]at M;have bS:l.length+1<=t.length:=M;have b0:n.length<=9000:=by nofun
     apply⟨_,fj,_,fj,d,_,fj,.inl ⟨_,.inr i,p.d,fj,ao (bH (nu _) ⋯),fj⟩,?_⟩;have bi:upd H4 d (.dK<|dR (bm l) (.inr i)<|.bl true) w=eH (.lst<|n.map WB):=by rw[ah Y.symm];exact p.w
     apply⟨_,fj,.inl ⟨fj,_,az.of bi⟩,_,fj,w,_,_,fj,fj,bi,by rw[ag];exact iQ b0,l++[i],n++[i],_,fj,⟨?_,?_,?_,bd,bh,?_,?_⟩,?_,?_,?_⟩
     .rw[ah Y,aa,eV]
     .rw[aa,au];rfl
     .intro b o q;rw[ah<|ae q a0,ah<|ae q hd];exact p.same _ _ q
     .intro y hy;obtain hy|hy:=bt.mp hy
      .obtain h|h:=p.wait y hy
       .exact .inl h
       .exact .inr<|cE _ h
      .exact .inr<|dh _ hy
     .intro y hy T ho c' A;have b1:y∉n:=λz=>T<|cE _ z;have b2:y≠i:=λz=>T (dh _ (by simp[z]));refine cE _<|p.closed y ?_ b1 ho c' A;obtain hy|hy:=hy
      .exact .inl hy
      .obtain hy|hy:=bt.mp hy
       .exact .inr hy
       .exact absurd ‹hy› b2
     .obtain h|h:=hh
      .exact .inl h
      .exact .inr<|cE _ h
     .intro c' A;rw[take_snoc u]at A;obtain h|h:=bt.mp A
      .exact cE _<|hc c' h
      .exact dh _ h
     .rw[aA,aA];show 2 * (t.length-(l.length+1))+(n.length+1)<_;nofun
   .rintro σ H4 ⟨l,n,y,rfl,p,hh,hc,hm⟩;rw[ag,aX]at hc;exact a9 H4 l n _ _ p hc hm
  .rw[pN jT J];apply⟨et,fj,.inr ⟨⟨_,bE.of I⟩,?_⟩⟩;have N:aZ ds (f,aD)=[]:=o7 λx hx z=>J (by rw[<-z];exact G.all x hx)
   let aC:Nat->L2.St->Hp->Prop:=λj σ C=>σ=[eH<|.ref g,eH<|.str room,eH<|.ref d,eH<|.ref w,eH<|.str f,x5]/\C=H3
   refine HB (xs:=[]) aC ⟨fj,fj⟩ (λj σ C _ zq=>by let⟨_,e⟩:=zq;exact by rw[e];exact bE.of I) (λj x σ C hj=>by cases hj) ?_;rintro σ C ⟨rfl,rfl⟩;exact a9 _ L s _ _ D3 (by rw[N];simp) a8
 .have N:W=[]:=by
   cases W with
   |nil=>rfl
   |cons a W=>exact absurd (hH (by rw[ag,eT];nofun)) B
  subst N;apply⟨_,fj,k d L H1 D.d D.nd (λw=>⟨D.sound w,λhr=>?_⟩) hd D.same⟩
  induction hr with
  |one h=>exact D.closed room (.inl rfl) ∅ (λz=>z) _<|c_.mpr h
  |step r h ih=>exact D.closed _ (.inr ih) ∅ (λz=>z) _<|c_.mpr h
inductive mI (vs:List V)(H:Hp)(Q:VK)(E:XK):Prop
 |mk (l3 d:Wk) (J3:Zb) (ps:List (Ws×Wk)):vs=[.ref l3,.ref d]->H l3=eH (.lst (J3.map WB))->H d=eH (.dK (fD Sum.inr ps))->ps.map (·.1)=J3->J3.Nodup->((∀x∈ps,∃L,H x.2=eH (.dK (bm L))/\x.1∉L))->(∀H',ab H H'->Q .zr H')->mI  vs H Q E
theorem rq{K:Za}(h:mI p H Q E):sy K (bT Q) (start tX p) H:=by
 let⟨q,d,u,v,rfl,s,z,f,m,A,k⟩:=h;apply⟨_,fj,q,fj,⟨_,az.of s⟩,?_⟩
 let n:Nat->L2.St->Hp->Prop:=λi σ e=>∃x y,σ=[eH<|.ref q,eH<|.ref d,x,y]/\ab H e
 refine o8 (xs:=u.map WB) n ⟨_,_,fj,ab.refl H⟩ (λi σ e _ B=>by let⟨_,_,_,S⟩:=B;exact az.of<|S _ _ s) ?_ ?_
 .rintro i x σ e t hi ⟨J,M,rfl,S⟩ C;let⟨w,D,rfl⟩:=bu hi;apply⟨t,_,fj,bE.of aa,fj,_,_,fj,_,_,fj,fj,?_⟩;have l:ab H (upd e t<|.tup [.int i,.str w]):=S.trans<|ab.new C;generalize upd e t (.tup [.int i,.str w])=N at l ⊢;have g:w∈v.map (·.1):=by rw[f];exact cj D
  let⟨⟨r,a⟩,j,G⟩:=ar.mp g;obtain rfl:r=w:=G;let⟨L,o,I⟩:=A _ j;apply⟨_,fj,_,fj,_,fj,d,.ref a,fj,.inl ⟨_,.inr r,.inl<|l _ _ z,fj,(fN jX (by rw[f];exact m) j).symm⟩,a,_,fj,.inl ⟨_,.inr r,.inl<|l _ _ o,fj,fj⟩,_,fj,?_⟩;rw[gb,hB I];exact bF ⟨_,_,fj,l⟩
 .rintro σ e ⟨x,y,rfl,S⟩;exact k e S
abbrev lk(f:Ws)(fs:List<|Ws×V):Option V:=fs.lookup f
def ip(ds:List am)(r:Ws):Bool:=(bM ds r).all jA
structure bf(C:Wk)(H:Hp)(x:Wk)(J0 J2 J3:Zb)(ds:List am):Prop where
 at_:∃(dx:Wk) (fs:List (Ws×V)) (o1 o2 o3 o4 lv qu sg sl:Wk) (ts:Ze) (Vb:List (Ws×Wk)) (VZ:List ((Ws×List Ws)×Wk)) (SI:List (Ws×Wk)),
  H x=eH (.ins C dx fs)/\lk "is_quiet" fs=none/\lk "goals" fs=none/\lk "led_from" fs=none/\lk "rooms" fs=none /\
  lk "own_asks" fs=eH (.ref o1)/\lk "own_says" fs=eH (.ref o2)/\lk "own_rooms" fs=eH (.ref o3)/\lk "own_doors" fs=eH (.ref o4) /\
  lk "leaving" fs=eH (.ref lv)/\lk "quiet" fs=eH (.ref qu)/\lk "sign_goals" fs=eH (.ref sg)/\lk "still_led" fs=eH (.ref sl) /\
  Ql H o1 o2 o3 o4 ts J0 J2 J3 ds /\
  Vb.map (·.1)=J3/\H lv=eH (.dK (fD Sum.inr Vb))/\(∀x∈Vb,∃us,H x.2=eH (.lst (us.map WC))/\dJ H us (bM ds x.1)) /\
  H qu=eH (.dK (bm (J3.filter (ip ds))))/\lr H sg VZ ds /\
  SI.map (·.1)=J3/\H sl=eH (.dK (fD Sum.inr SI))/\(∀x∈SI,∃L,H x.2=eH (.dK (bm L))/\L.Nodup/\∀w,w∈L↔Reach ds x.1 w)
 ok:aE J0 J2 J3 ds
 more:∃(dx:Wk) (fs:List (Ws×V)),H x=eH (.ins C dx fs)/\lk "asks" fs=none/\lk "says" fs=none/\lk "doors" fs=none/\lk "doors_from" fs=none
theorem fC(f:Ws)(v:V):∀fs:List<|Ws×V,(dF f v fs).length<=fs.length+1
 |[]=>aF _
 | (g,x)::r=>by
  unfold dF;split
  .exact qZ _
  .rw[eT,eT];have:=fC f v r;nofun
theorem xQ:∀(a qs:List<|Ws×Wk),((qs++a).map (·.1)).Nodup->jI (fD Sum.inr qs) (fD Sum.inr a)=fD Sum.inr (qs++a)
 |[],qs,_=>by rw[dj];rfl
 |p::a,qs,g=>by
  show jI (dR (fD Sum.inr qs) (Sum.inr p.1)<|.ref p.2) (fD Sum.inr a)=_;have e:qs++p::a=(qs++[p])++a:=by simp
  rw[e]at g ⊢;have f:p.1∉qs.map (·.1):=by
   rw[au,au,cQ]at g;have:=g.1;rw[cQ]at this;intro z;exact this.2.2 _ z _ ∅ rfl
  rw[jx _<|pN jX f];have:=xQ a (qs++[p]) g;rw[<-this];have h:fD (Sum.inr:Ws->fK) (qs++[p])=fD Sum.inr qs++[(Sum.inr p.1,WC p.2)]:=by
   unfold fD;rw[au];rfl
  rw[h]
inductive sU(C:Wk)(vs:List V)(H:Hp)(Q:VK)(E:XK):Prop
 |mk (x dx l1 l2 l3 l4:Wk) (ts:Ze) (J0 J2 J3:Zb) (ds:List am):vs=[.ref x,.ref l1,.ref l2,.ref l3,.ref l4]->H x=eH (.ins C dx [])->Ql H l1 l2 l3 l4 ts J0 J2 J3 ds->aE J0 J2 J3 ds->(∀H',bf C H' x J0 J2 J3 ds->fO x H H'->Q .zr H')->sU C vs H Q E
theorem Ql.TN(h:Ql H g i l3 j k l m n o)(hx:H x=eH (.ins C q fs))(e:fO x H f):Ql f g i l3 j k l m n o:=by
 have ne:∀{b:Wk}{p:List V},H b=eH (.lst p)->b≠x:=λa z=>by rw[z,hx]at a;cases a
 exact⟨e _ _ h.a1<|ne h.a1,e _ _ h.a2<|ne h.a2,e _ _ h.a3<|ne h.a3,e _ _ h.a4<|ne h.a4,h.ds.kt λb p a=>e _ _ a λz=>by rw[z,hx]at a;cases a⟩
theorem fO.VC(e:fO x H f)(hx:H x=eH (.ins C g fs)):h_ H f:=λb h a=>e _ _ a λz=>by rw[z,hx]at a;cases a
theorem fO.UK{H:Hp}{x C e:Wk}{fs:List (Ws×V)}(hx:H x=eH (.ins C e fs)){b:Wk}{f:List V}(a:H b=eH (.lst f)):b≠x:=λz=>by rw[z,hx]at a;cases a
theorem K8{H:Hp}{x C f:Wk}{fs:List (Ws×V)}(hx:H x=eH (.ins C f fs)){b:Wk}{a:List (fK×V)}(e:H b=eH (.dK a)):b≠x:=λz=>by rw[z,hx]at e;cases e
theorem NQ{H:Hp}{x C f:Wk}{fs:List (Ws×V)}(hx:H x=eH (.ins C f fs)){b:Wk}{a:List (TK×V)}(e:H b=eH (.dT a)):b≠x:=λz=>by rw[z,hx]at e;cases e
structure MC(K:Za)(C:Wk):Prop where
 cls:HX K C
 a1:fk K C "own_asks"
 a2:fk K C "own_says"
 a3:fk K C "own_rooms"
 a4:fk K C "own_doors"
 a5:fk K C "leaving"
 a6:fk K C "quiet"
 a7:fk K C "sign_goals"
 a8:fk K C "still_led"
theorem uW(f:Ws)(y:V)(hx:H x=eH (.ins C a fs)):∃e,e=upd H x (.ins C a<|dF f y fs)/\e x=eH (.ins C a<|dF f y fs)/\fO x H e :=
 ⟨_,fj,aa,fO.upd _ _ _⟩
theorem dI{a:Zb}(h:a[i]?=eH w):(a.take<|i+1).filter p=(a.take i).filter p++(if p w=true then[w]else[]):=by
 rw[take_snoc h,gJ];congr 1;by_cases c:p w=true
 .rw[if_pos c];simp[c]
 .rw[if_neg c];simp[c]
theorem FT(a:List am)(r:Ws):(bM a r).length<=a.length:=b_ _ _
theorem aE.VQ(m:aE a f g ds):∀d∈bM ds r,d.sg≠[]:=by
 intro d h;have:=m.good d (bW.mp h).1;obtain⟨w,_,e⟩|⟨w,_,e⟩|e:=this.sg<;>rw[e]<;>exact List.cons_ne_nil _ _
theorem MH{K:Za}(M:MC K C)(h:sU C B H Q E):
  rh K lA mI BR sV (oD K) qx qy rr (bT Q) (start rY B) H:=by
 let⟨x,G,l1,l2,l3,l4,ts,J0,J2,I,ds,rfl,hx,L,m,k⟩:=h;have z3:=m.vr;have z4:=m.Qf;apply⟨_,fj,_,fj,_,fj,_,fj,l1,l2,l3,l4,ts,J0,J2,I,ds,fj,L,m,λH1 S1=>?_⟩;have a0:=S1 _ _ hx;have L1:=L.same S1;have E1:fO x H H1:=ab.T6 S1;apply⟨_,fj,.inl ⟨l1,_,fj,.inl<|az.of L1.a1,λo1 a9=>⟨_,fj,x,C,G,_,fj,kp a0 a9,M.cls,M.a1,(by show 0<1000;decide),?_⟩⟩⟩;let⟨H2,e2,ba,F2⟩:=uW "own_asks" (.ref o1)<|kp (x:=.lst<|J0.map WB) a0 a9;rw[<-e2];have n1:o1≠x:=(ae a0 a9).symm;have f1:=F2 _ _ aa n1;have E2:fO x H1 H2:=(fO.new a9).trans F2;have ca:=L1.TN a0 E2;have dt:(dF ("own_asks":Ws) (.ref o1) []).length<=1:=fC _ _ _;clear e2 F2;apply⟨_,fj,.inl ⟨l2,_,fj,.inl<|az.of ca.a2,λo2 bb=>⟨_,fj,x,C,G,_,fj,kp ba bb,M.cls,M.a2,by nofun,?_⟩⟩⟩;let⟨H3,e3,bd,F3⟩:=uW "own_says" (.ref o2)<|kp (x:=.lst<|J2.map WB) ba bb;rw[<-e3];have n2:o2≠x:=(ae ba bb).symm;have f2:=F3 _ _ aa n2;have E3:fO x H2 H3:=(fO.new bb).trans F3;have L3:=ca.TN ba E3;have dy:=fC ("own_says":Ws) (.ref o2)<|dF ("own_asks":Ws) (.ref o1) [];clear e3 F3;apply⟨_,fj,.inl ⟨l3,_,fj,.inl<|az.of L3.a3,λo3 bh=>⟨_,fj,x,C,G,_,fj,kp bd bh,M.cls,M.a3,by nofun,?_⟩⟩⟩;let⟨H4,e4,bi,F4⟩:=uW "own_rooms" (.ref o3)<|kp (x:=.lst<|I.map WB) bd bh;rw[<-e4];have n3:o3≠x:=(ae bd bh).symm;have f3:=F4 _ _ aa n3;have E4:fO x H3 H4:=(fO.new bh).trans F4;have L4:=L3.TN bd E4;have dT:=fC ("own_rooms":Ws) (.ref o3)<|dF ("own_says":Ws) (.ref o2)<|dF ("own_asks":Ws) (.ref o1) [];clear e4 F4;apply⟨_,fj,.inl ⟨l4,_,fj,.inl<|az.of L4.a4,λo4 bl=>⟨_,fj,x,C,G,_,fj,kp bi bl,M.cls,M.a4,by nofun,?_⟩⟩⟩;let⟨H5,e5,n,F5⟩:=uW "own_doors" (.ref o4)<|kp (x:=.lst<|ts.map WC) bi bl;rw[<-e5];have n4:o4≠x:=(ae bi bl).symm;have f4:=F5 _ _ aa n4;have E5:fO x H4 H5:=(fO.new bl).trans F5;have L5:=L4.TN bi E5;generalize b1:dF ("own_doors":Ws) (.ref o4) (dF ("own_rooms":Ws) (.ref o3)<|dF ("own_says":Ws) (.ref o2)<|dF ("own_asks":Ws) (.ref o1) [])=s at n;have dV:s.length<=4:=by
  rw[<-b1];have:=fC ("own_doors":Ws) (.ref o4)<|dF ("own_rooms":Ws) (.ref o3)<|dF ("own_says":Ws) (.ref o2)<|dF ("own_asks":Ws) (.ref o1) [];nofun
 clear e5 F5;apply⟨_,fj,_,fj,l3,l4,ts,I,ds,fj,L5.a3,L5.a4,L5.ds,m.RV.1,by nofun,by nofun,λd hd=>(m.good d hd).a,λO bn d3 T U b2 S6=>⟨_,fj,x,C,G,s,fj,S6 _ _ n,M.cls,M.a5,by nofun,?_⟩⟩;let⟨H6,e6,u,F6⟩:=uW "leaving" (.ref O)<|S6 _ _ n;rw[<-e6];have E6:fO x H5 H6:=(ab.T6 S6).trans F6;have L6:=L5.TN n E6;have b3:=F6 _ _ U<|K8 (S6 _ _ n) U;have cc:∀y∈bn,∃A,H6 y.2=eH (.lst<|A.map WC)/\dJ H6 A (bM ds y.1):=λy hy=>by
  let⟨A,J,g2⟩:=b2 y hy;exact⟨A,F6 _ _ J<|fO.UK (S6 _ _ n) J,g2.kt<|F6.VC<|S6 _ _ n⟩
 have ct:(bn.map (·.1)).Nodup:=by rw[T];exact m.RV.1
 have d0:=fC ("leaving":Ws) (.ref O) s;have c0:lk "leaving" (dF ("leaving":Ws) (.ref O) s)=eH (.ref O):=by
  show nP _ _=_;rw[fV,if_pos rfl]
 clear e6 F6 U b2;apply⟨_,fj,l3,fj,⟨_,az.of L6.a3⟩,λf hf=>?_⟩
 let c1:Nat->List V->Hp->Prop:=λi B H'=>B=((I.take i).filter<|ip ds).map WB/\ab H6 H'/\H' f=eH (.lst B)
 refine cu (xs:=I.map WB) c1 ⟨fj,ab.new hf,aa⟩ (λi B H' _ zq=>by let⟨_,S,h'⟩:=zq;exact⟨h',az.of<|S _ _ L6.a3⟩) ?_ ?_;rotate_left
 .rintro i B H' x' b4 hi ⟨rfl,S,f'⟩;let⟨r,hr,rfl⟩:=bu b4;let⟨⟨r',a⟩,cd,er⟩:=ar.mp (show r∈bn.map (·.1) by rw[T];exact cj hr);obtain rfl:r'=r:=er;let⟨A,c2,c3⟩:=cc _ cd;refine gN ?_;apply⟨_,fj,x,C,G,_,.ref O,fj,S _ _ u,M.cls,M.a5,c0,_,fj,O,.ref a,fj,.inl ⟨_,.inr r',.inl<|S _ _ b3,fj,(fN jX ct cd).symm⟩,a,A,bM ds r',fj,S _ _ c2,c3.kt<|ab.kt S,bH (FT _ _) ⋯,m.VQ,λbz l=>⟨_,fj,?_⟩⟩;have ce:(((I.take i).filter<|ip ds).map WB).length<ak:=by
   rw[ag];refine ao<|bH (b_ _ _) ?_;rw[aS];nofun
  refine rJ (λhq=>?_)<|λhq=>?_
  .refine⟨_,fj,l _ _ f',ce,oj hi ⟨?_,?_,aa⟩⟩
   .rw[dI hr,if_pos<|show ip ds r'=true from hq,au];rfl
   .intro b o q;rw[ah<|ae q hf];exact l _ _<|S _ _ q
  .refine oj hi ⟨?_,S.trans l,?_⟩
   .rw[dI hr,if_neg<|show ¬ip ds r'=true from hq,dj]
   .exact l _ _ f'
 rintro B d5 ⟨rfl,S7,f7⟩;rw[ag,aX]at f7;refine uZ (ws:=I.filter<|ip ds) (az.of f7) (bH (b_ _ _) ⋯) λqu bI=>⟨_,fj,x,C,G,_,fj,kp (S7 _ _ u) bI,M.cls,M.a6,by nofun,?_⟩;let⟨H7,e7,al,F7⟩:=uW "quiet" (.ref qu)<|kp (x:=.dK<|bm<|I.filter<|ip ds) (S7 _ _ u) bI;rw[<-e7];have n7:qu≠x:=(ae (S7 _ _ u) bI).symm;have c4:=F7 _ _ aa n7;have E7:fO x H6 H7:=((ab.T6 S7).trans<|fO.new bI).trans F7;have L7:=L6.TN u E7;have d1:=fC ("quiet":Ws) (.ref qu)<|dF ("leaving":Ws) (.ref O) s;clear e7 F7;apply⟨_,fj,l4,ts,ds,fj,L7.a4,L7.ds,by nofun,λsg b5 d7 G' S8=>⟨_,fj,x,C,G,_,fj,S8 _ _ al,M.cls,M.a7,by nofun,?_⟩⟩;let⟨H8,e8,v,F8⟩:=uW "sign_goals" (.ref sg)<|S8 _ _ al;rw[<-e8];have E8:fO x H7 H8:=(ab.T6 S8).trans F8;have L8:=L7.TN al E8;have G8:lr H8 sg b5 ds:=⟨G'.nd,F8 _ _ G'.g<|NQ (S8 _ _ al) G'.g,λy hy=>F8 _ _ (G'.ls y hy)<|fO.UK (S8 _ _ al)<|G'.ls y hy,G'.all⟩;have d2:=fC ("sign_goals":Ws) (.ref sg)<|dF ("quiet":Ws) (.ref qu)<|dF ("leaving":Ws) (.ref O) s;have c5:lk "sign_goals" (dF ("sign_goals":Ws) (.ref sg)<|dF ("quiet":Ws) (.ref qu)<|dF ("leaving":Ws) (.ref O) s)=eH (.ref sg):=by
  show nP _ _=_;rw[fV,if_pos rfl]
 clear e8 F8 G';apply⟨_,fj,l3,fj,⟨_,az.of L8.a3⟩,λbS ch=>?_⟩
 let da:Nat->List V->Hp->Prop:=λi B H'=>JG λ(A:Ze) (pl:List<|Ws×Wk)=>OI (B=A.map WC) (Paired (λt (p:Ws×Wk)=>H' t=eH (.tup [.str p.1,.ref p.2])) A pl) (pl.map (·.1)=I.take i) ((∀p∈pl,∃L,H' p.2=eH (.dK<|bm L)/\L.Nodup/\∀w,w∈L↔Reach ds p.1 w)) (ab H8 H')<|H' bS=eH (.lst B)
 refine cu (xs:=I.map WB) da
  ⟨[],[],fj,.nil,fj,by simp,ab.new ch,aa⟩ (λi B H' _ zq=>by let⟨_,_,_,_,_,_,S,h'⟩:=zq;exact⟨h',az.of<|S _ _ L8.a3⟩) ?_ ?_
 rotate_left
 .rintro i B H' x' b4 hi ⟨A,pl,rfl,an,ci,db,S,f'⟩;let⟨r,hr,rfl⟩:=bu b4;have dc:A.length<=150:=by
   rw[Paired.length an,<-ag (f:=(·.1)) (as:=pl),ci,aS];nofun
  refine gN<|su ?_;apply⟨_,fj,_,fj,x,C,G,_,.ref sg,fj,S _ _ v,M.cls,M.a7,c5,_,fj,sg,r,b5,ds,I,fj,G8.same S,λd hd=>(m.good d hd).b,by nofun,λld Lr bz dd nd di d8 l=>⟨(by show 2<=ak;decide),λt ht=>⟨?_,?_,oj hi ⟨A++[t],pl++[(r,ld)],?_,?_,?_,?_,?_,aa⟩⟩⟩⟩
  .exact kp (l _ _ f') ht
  .rw[ag];exact ao ⋯
  .rw[au];rfl
  .have KT:h_ (upd bz t<|.tup [.str r,.ref ld]) (upd (upd bz t<|.tup [.str r,.ref ld]) bS<|.lst<|A.map WC++[.ref t]):=eF<|kp (l _ _ f') ht;exact Paired.app (Paired.i3 an λt' p' e=>KT _ _<|kp (l _ _ e) ht)<|.cons (KT _ _ aa) .nil
  .rw[au,ci,take_snoc hr];rfl
  .have ck:∀{b:Wk}{dm:List (fK×V)},upd bz t (.tup [.str r,.ref ld]) b=eH (.dK dm)->b≠bS:=λhb z=>by rw[z,kp (l _ _ f') ht]at hb;cases hb
   intro p hp;obtain hp|hp:=bt.mp hp
   .obtain⟨L0,J,g2⟩:=db p hp;apply⟨L0,?_,g2⟩;have:=kp (x:=.tup [.str r,.ref ld]) (l _ _ J) ht;rw[ah<|ck this];exact this
   .have:p=(r,ld):=by simpa using hp
    subst this;apply⟨Lr,?_,nd,di⟩;have:=kp (x:=.tup [.str r,.ref ld]) dd ht;rw[ah<|ck this];exact this
  .intro b o q;rw[ah<|ae q ch];exact kp (l _ _<|S _ _ q) ht
 rintro B d9 ⟨A,SI,rfl,an,D,cl,S9,f9⟩;rw[ag,aX]at D;have dn:(SI.map (·.1)).Nodup:=by rw[D];exact m.RV.1
 apply⟨bS,A,fD Sum.inr SI,fj,az.of f9,?_,?_,λsl N=>⟨_,fj,x,C,G,_,fj,kp (S9 _ _ v) N,M.cls,M.a8,by nofun,?_⟩⟩
 .rw[Paired.length an];unfold fD;rw[ag]
 .intro j t kv hj b6;let⟨p,hp,e⟩:=Paired.getL an hj;unfold fD at b6;rw[bV,hp]at b6;have:=gp b6;rw[<-this];exact e
 have b0:jI [] (fD Sum.inr SI)=fD Sum.inr SI:=xQ SI [] dn;rw[b0];let⟨H9,e9,b7,F9⟩:=uW "still_led" (.ref sl)<|kp (x:=.dK<|fD Sum.inr SI) (S9 _ _ v) N;rw[<-e9];have n9:sl≠x:=(ae (S9 _ _ v) N).symm;have cm:=F9 _ _ aa n9;have E9:fO x H8 H9:=((ab.T6 S9).trans<|fO.new N).trans F9;have L9:=L8.TN v E9;have ap:∀p∈SI,∃L,H9 p.2=eH (.dK<|bm L)/\L.Nodup/\∀w,w∈L↔Reach ds p.1 w:=λp hp=>by
  let⟨L0,J,g2⟩:=cl p hp;have g3:=kp (x:=.dK<|fD Sum.inr SI) J N;exact⟨L0,F9 _ _ g3<|K8 (kp (S9 _ _ v) N) g3,g2⟩
 clear e9 F9;have co:lk "still_led" (dF ("still_led":Ws) (.ref sl)<|dF ("sign_goals":Ws) (.ref sg)<|dF ("quiet":Ws) (.ref qu)<|dF ("leaving":Ws) (.ref O) s)=eH (.ref sl):=by
  show nP _ _=_;rw[fV,if_pos rfl]
 apply⟨_,fj,_,fj,x,C,G,_,.ref sl,fj,b7,M.cls,M.a8,co,l3,sl,I,SI,fj,L9.a3,cm,D,m.RV.1,λp hp=>?_,λcs aC=>⟨_,fj,k cs ?_ ?_⟩⟩
 .obtain⟨L0,J,g2,g3⟩:=ap p hp;exact⟨L0,J,λz=>m.Qc _<|(g3 _).mp z⟩
 .have b8:fO x H6 H9:=(E7.trans E8).trans E9;have dp:=((E6.trans E7).trans E8).trans E9;have Y:∀{b:Wk}{o:HO},H9 b=eH o->cs b=eH o:=λh=>aC _ _ h;have LL:Ql H5 o1 o2 o3 o4 ts J0 J2 I ds:=⟨(E3.trans<|E4.trans E5) _ _ f1 n1,(E4.trans E5) _ _ f2 n2,E5 _ _ f3 n3,f4,L5.ds⟩;apply⟨⟨G,_,o1,o2,o3,o4,O,qu,sg,sl,ts,bn,b5,SI,Y b7,?_,?_,?_,?_,?_,?_,?_,?_,?_,?_,?_,co,(LL.TN n dp).same aC,T,?_,?_,?_,?_,D,Y cm,λp hp=>?_⟩,m,⟨G,_,Y b7,?_,?_,?_,?_⟩⟩
  rotate_right 9
  .exact Y<|b8 _ _ b3<|K8 u b3
  .intro y hy;let⟨dr,J,g2⟩:=cc y hy;exact⟨dr,Y<|b8 _ _ J<|fO.UK u J,(g2.kt<|b8.VC u).kt<|ab.kt aC⟩
  .exact Y<|(E8.trans E9) _ _ c4 n7
  .exact lr.same ⟨G8.nd,E9 _ _ G8.g<|NQ v G8.g,λy hy=>E9 _ _ (G8.ls y hy)<|fO.UK v<|G8.ls y hy,G8.all⟩ aC
  .obtain⟨L0,J,g2⟩:=ap p hp;exact⟨L0,Y J,g2⟩
  all_goals(show nP _ _=_;subst b1;repeat (rw[fV];first|rw[if_pos rfl] | rw[if_neg (by decide +kernel)]))
  all_goals rfl
 .exact((((((((E1.trans E2).trans E3).trans E4).trans E5).trans E6).trans E7).trans E8).trans E9).trans<|ab.T6 aC
theorem Nn(a b:Ws):decide (dD a=dD b)=decide (a=b):=by
 by_cases e:a=b
 .rw[hH e,hH (by rw[e])]
 .rw[hB e,hB<|λz=>e<|tm z]
theorem bf.by(h:bf C H x s t u v)(j:∀b w,H b=eH (.lst<|List.map WB w)->e b=eH (.lst<|List.map WB w))(z:∀b k,H b=eH (.lst<|List.map WC k)->e b=eH (.lst<|List.map WC k))(A:h_ H e)(l:∀b a,H b=eH (.dK a)->e b=eH (.dK a))(B:∀b a,H b=eH (.dT a)->e b=eH (.dT a))(hi:∀b C f fs,H b=eH (.ins C f fs)->e b=eH (.ins C f fs)):bf C e x s t u v:=by
 let⟨f,fs,D,E,I,J,M,N,O,Q,k,m,n,o,T,a1,a2,a3,U,Y,b2,b3,b4,b5,b6,b7,b8,L,c1,c2,c3,c4,G,d1,d2,d3⟩:=h.at_;apply⟨⟨f,fs,D,E,I,J,M,N,O,Q,k,m,n,o,hi _ _ _ _ T,a1,a2,a3,U,Y,b2,b3,b4,b5,b6,b7,b8,⟨j _ _ L.a1,j _ _ L.a2,j _ _ L.a3,z _ _ L.a4,L.ds.kt A⟩,c1,l _ _ c2,λy i=>?_,l _ _ c4,⟨G.nd,B _ _ G.g,λy i=>j _ _<|G.ls y i,G.all⟩,d1,l _ _ d2,λy i=>?_⟩,h.ok,by let⟨f,fs,g,r⟩:=h.more;exact⟨f,fs,hi _ _ _ _ g,r⟩⟩
 .obtain⟨us,p,q⟩:=c3 y i;exact⟨us,z _ _ p,q.kt A⟩
 .obtain⟨L0,p,q⟩:=d3 y i;exact⟨L0,l _ _ p,q⟩
theorem bf.same(h:bf C H x f g i j)(S:ab H a):bf C a x f g i j :=
 h.by (λ_ _ e=>S _ _ e) (λ_ _ e=>S _ _ e) (ab.kt S) (λ_ _ e=>S _ _ e) (λ_ _ e=>S _ _ e) (λ_ _ _ _ e=>S _ _ e)
inductive kY(C:Wk)(vs:List V)(H:Hp)(Q:VK)(E:XK):Prop
 |mk (x:Wk) (w:Ws) (J0 J2 J3:Zb) (ds:List am):vs=[.ref x,.str w]->bf C H x J0 J2 J3 ds->Q (.bl (decide (w∈J3.filter (ip ds)))) H->kY C vs H Q E
theorem Dz{K:Za}(M:MC K C)(h:kY C a H Q E):rg K (bT Q) (start rX a) H:=by
 let⟨x,w,o,p,q,r,rfl,h,k⟩:=h;let⟨f,fs,s,t,u,v,y,e,z,A,B,g,i,j,l,a1,a2,a3,D,G,I,J,N,O,m,T,U,L,Y,c2,c3,n,_⟩:=h.at_;apply⟨_,fj,_,fj,x,C,f,fs,.ref e,fj,l,M.cls,M.a6,m,e,_,fj,.inl ⟨_,.inr w,.inl n,fj,fj⟩,?_⟩;rw[gb];exact k
def bN:List Ws:=[("hush":Ws)]
inductive iO(C:Wk)(vs:List V)(H:Hp)(Q:VK)(E:XK):Prop
 |mk (t l1 l2 l3 l4:Wk) (ts:Ze) (J0 J2 J3:Zb) (ds:List am):vs=[.ref t]->jC H t l1 l2 l3 l4 ts J0 J2 J3 ds->aE J0 J2 J3 ds->(∀(x:Wk) (H':Hp),bf C H' x J0 J2 J3 ds->ab H H'->Q (.ref x) H')->iO C vs H Q E
theorem Fw{K:Za}(h:iO C D H Q E):yT K C (sU C) (bT Q) (start zG D) H:=by
 let⟨t,L,N,O,U,f,g,i,j,Y,rfl,T,m,k⟩:=h;apply⟨_,fj,.inr<|.inl ⟨t,_,0,_,fj,fj,bE.of T.t,fj,.inl ⟨L,_,fj,.inl<|az.of T.a1,λs G=>?_⟩⟩⟩;have u:=T.same<|ab.new (o:=.lst<|g.map WB) G;apply⟨_,fj,.inr<|.inl ⟨t,_,1,_,fj,fj,bE.of u.t,fj,.inl ⟨N,_,fj,.inl<|az.of u.a2,λv w=>?_⟩⟩⟩;have y:=u.same<|ab.new (o:=.lst<|i.map WB) w;apply⟨_,fj,.inr<|.inl ⟨t,_,2,_,fj,fj,bE.of y.t,fj,.inl ⟨O,_,fj,.inl<|az.of y.a3,λz p=>?_⟩⟩⟩;have A:=y.same<|ab.new (o:=.lst<|j.map WB) p;apply⟨_,fj,.inr<|.inl ⟨t,_,3,_,fj,fj,bE.of A.t,fj,.inl ⟨U,_,fj,.inl<|az.of A.a4,λB l=>?_⟩⟩⟩;have T4:=A.same<|ab.new (o:=.lst<|f.map WC) l;have I:=(((ab.new (o:=.lst<|g.map WB) G).trans<|ab.new (o:=.lst<|i.map WB) w).trans<|ab.new (o:=.lst<|j.map WB) p).trans<|ab.new (o:=.lst<|f.map WC) l;refine λx r hx a n=>?_;have J:ab H (upd (upd (upd (upd (upd (upd H s<|.lst<|g.map WB) v<|.lst<|i.map WB) z<|.lst<|j.map WB) B<|.lst<|f.map WC) r<|.own x) x<|.ins C r []) :=
  (I.trans<|ab.new a).trans (ab.new (by rw[ah n.symm];exact hx))
 have e:upd (upd (upd (upd (upd H s<|.lst<|g.map WB) v<|.lst<|i.map WB) z<|.lst<|j.map WB) B<|.lst<|f.map WC) r (.own x) x=none:=by rw[ah n.symm];exact hx
 apply⟨x,r,s,v,z,B,f,g,i,j,Y,fj,aa,⟨?_,?_,?_,?_,T.ds.kt<|ab.kt J⟩,m,λH' M ex=>⟨fj,k x H' M λb o q=>?_⟩⟩
 .exact kp (kp (kp (kp (kp aa w) p) l) a) e
 .exact kp (kp (kp (kp aa p) l) a) e
 .exact kp (kp (kp aa l) a) e
 .exact kp (kp aa a) e
 .have hq:=J _ _ q;exact ex _ _ hq<|ae (I.trans (ab.new a) _ _ q) e
def fJ(ds:List am):List Ws:=(ds.filter λd=>!jA d).map (·.a)
theorem FH(e:List am)(r:Ws):ip e r=decide (r∉fJ e):=by
 unfold ip fJ bM;rw[sn,Bp,decide_eq_true_iff];constructor
 .intro h z;let⟨d,a,rfl⟩:=ar.mp z;rw[bW]at a;have:=h d<|bW.mpr ⟨a.1,hH rfl⟩;rw[this]at a;exact absurd a.2 Wt
 .intro h d a;rw[bW]at a;cases q:jA d with
  |true=>rfl
  |false =>
   refine absurd (ar.mpr ⟨d,bW.mpr ⟨a.1,by rw[q];rfl⟩,?_⟩) h;exact of_decide_eq_true a.2
theorem wq{a:Zb}:dD w∈a.map dD↔w∈a:=by
 constructor
 .intro h;let⟨x,hx,e⟩:=ar.mp h;rw[<-tm e];exact hx
 .exact eC
def BB(K:Za)(gi:Wk)(h7:Sp)(sx:Sp):TS :=
 aq (aU (uM) U2)
 (aq (ee (bU K V1) U3 (cV (tB<|kU K V3 V2) (aq (kz V2 V3<|tC<|.bl true)
 (ee (bU K<|cF gi "led_from" sx [] E0 V0<|aB V3) U4<|kz V2 V4<|tC<|.bl true))<|bC))
 (bo<|dL (G7 K)<|aB<|cZ 1 [2] (bU K<|cF gi "rooms" h7 [] E0 V0 aW) U0 (tB<|Ip K V0 V1) V0))
def CM:List Ws:=["M","rooms","found","room","led"]
def vJ(K:Za):TS :=
 bo (dL (eR K)<|aB<|ik K V0 "own_rooms")
def v5:List Ws:=["self"]
def rf(K:Za):TS :=
 bo (dL (eR K)<|aB<|oR K (ik K V0 "still_led") V1<|cB<|aW)
def rW:List Ws:=["self","room"]
def vK(K:Za):TS :=
 bo (dL (eR K)<|aB<|oR K (ik K V0 "sign_goals") (cB<|aK V1 V2)<|cB<|aW)
def v6:List Ws:=["self","room","sign"]
def xi(K:Za):TS :=
 aq (aU (dL (eR K)<|aB V1) U2)
 (aq (aU (tC<|.int 0) U3)
 (aq (xo (a_<|aI FE V3<|dL (dO K)<|aB V2) (aq (ee (bU K V0) (gR K 3<|aY U4<|aY U5<|aY U6<|gf)<|cV (uN (a_<|aI (n6 K) V4<|aI (nh K) V2 V3)<|uN (a_<|aI (n6 K) V5<|cB<|aB<|tC<|.str "still")<|a_<|aI (lZ K true) V6 V2) (cY<|wb K "list" d4 V2<|aB V6)<|bC)
 (aU (aI fM V3<|tC<|.int 1) U3)))
 (bo V2)))
def yD:List Ws:=["doors","rooms","found","at","room","sign","other"]
inductive js(C:Wk)(vs:List V)(H:Hp)(Q:VK)(E:XK):Prop
 |mk (x:Wk) (J0 J2 J3:Zb) (ds:List am):vs=[.ref x]->bf C H x J0 J2 J3 ds->(∀l,H l=none->Q (.ref l) (upd H l (.lst (J3.map WB))))->js C vs H Q E
theorem Ks{K:Za}(M:MC K C)(h:js C a H Q E):vJ K (bT Q) (start v5 a) H:=by
 let⟨x,n,o,p,q,rfl,h,k⟩:=h;let⟨f,fs,r,s,e,t,u,v,w,y,z,g,i,j,l,a1,a2,a3,A,B,D,m,G,I,J,N,O,L,_⟩:=h.at_;exact⟨_,fj,x,C,f,fs,.ref e,fj,l,M.cls,M.a3,m,.inl ⟨e,_,fj,.inl<|az.of L.a3,k⟩⟩
theorem DZ:∀{L:Zb},L.Nodup->(bm L).map (λa=>kV a.1)=L.map WB:=by
 intro L;refine mw (λL=>L.Nodup->(bm L).map (λa=>kV a.1)=L.map WB) (λ_=>rfl) (λf w g e=>?_) L;rw[cQ]at e;have h:cy (bm f) (.inr w)=none:=by
  rw[xT,if_neg (λz=>e.2.2 w z w ∅ rfl)]
 show(bm<|f++[w]).map _=_;rw[eV,jx _ h,au,g e.1,au]
 rfl
inductive ju(C:Wk)(vs:List V)(H:Hp)(Q:VK)(E:XK):Prop
 |mk (x:Wk) (r:Ws) (J0 J2 J3:Zb) (ds:List am):vs=[.ref x,.str r]->bf C H x J0 J2 J3 ds->r∈J3->(∀(l:Wk) (L:Zb) (H':Hp),H' l=eH (.lst (L.map WB))->L.Nodup->(∀w,w∈L↔Reach ds r w)->H l=none->ab H H'->Q (.ref l) H')->ju C vs H Q E
theorem Dy{K:Za}(M:MC K C)(h:ju C j H Q E):rf K (bT Q) (start rW j) H:=by
 let⟨x,r,N,O,T,U,rfl,h,t,k⟩:=h;let⟨u,fs,Y,o2,o3,o4,lv,qu,sg,m,ts,v,w,g,y,a1,a2,a3,a4,b1,b2,b3,b4,b5,b6,b7,z,L,c1,c2,c3,c4,G,n,o,A⟩:=h.at_;have i:=h.ok.RV.1;let⟨⟨p,a⟩,f,B⟩:=ar.mp (show r∈g.map (·.1) by rw[n];exact t);obtain rfl:p=r:=B;let⟨D,I,q,J⟩:=A _ f;apply⟨_,fj,x,C,u,fs,.ref m,fj,y,M.cls,M.a8,z,m,fj,.inl ⟨_,.inl o⟩,_,fj,(by show 0<=ak;decide),λet e=>⟨_,.inl ⟨_,.inr p,.inl<|kp o e,fj,fj⟩,?_⟩⟩;rw[fN jX (by rw[n];exact i) f];refine .inr ⟨a,_,fj,.inl<|kp I e,λl s=>k l D _ ?_ q J ((ab.new e).free s)<|(ab.new e).trans<|ab.new s⟩;rw[aa,DZ q]
inductive g_(C:Wk)(vs:List V)(H:Hp)(Q:VK)(E:XK):Prop
 |mk (x s:Wk) (r:Ws) (sg J0 J2 J3:Zb) (ds:List am):vs=[.ref x,.str r,.ref s]->bf C H x J0 J2 J3 ds->H s=eH (.tup (sg.map WB))->(∀(l:Wk) (H':Hp),H' l=eH (.lst ((aZ ds (r,sg)).map WB))->H l=none->ab H H'->Q (.ref l) H')->g_ C vs H Q E
theorem Iz{K:Za}(M:MC K C)(h:g_ C t H Q E):vK K (bT Q) (start v6 t) H:=by
 let⟨x,s,r,e,Y,J2,J3,w,rfl,h,A,k⟩:=h;let⟨B,fs,o1,o2,o3,o4,lv,qu,u,sl,ts,D,m,I,J,a1,a2,a3,a4,b1,b2,b3,b4,b5,b6,N,b8,L,c1,c2,c3,c4,G,d1,d2,d3⟩:=h.at_;have O:=h.ok.RV.1;apply⟨_,fj,x,C,B,fs,.ref u,fj,J,M.cls,M.a7,N,u,fj,.inr ⟨_,.inl G.g⟩,_,fj,_,fj,(by show 2<=ak;decide),λkt j=>⟨(by show 0<=ak;decide),λv i=>⟨cy (fD yO m)<|yO (r,e),.inr ⟨_,yO (r,e),kt,.inl<|kp (kp G.g j) i,fj,?_,pI _,fj⟩,?_⟩⟩⟩
 .refine fX.isIn 8 (pI _) ?_;unfold yO fX;apply⟨kt,_,fj,kp aa i,?_⟩;unfold ub;apply⟨_,_,fj,Bz _,?_⟩;unfold ub;apply⟨_,_,fj,SignAt.tk<|kp (kp A j) i,?_⟩;unfold ub
  rfl
 have n:ab H (upd (upd H kt<|.tup [.str r,.ref s]) v<|.tup []):=(ab.new j).trans<|ab.new i;by_cases f:(r,e)∈m.map (·.1)
 .obtain⟨⟨y,a⟩,o,T⟩:=ar.mp f;obtain rfl:y=(r,e):=T;rw[fN jT G.nd o];exact .inl ⟨a,_,fj,.inl<|az.of<|n _ _<|G.ls _ o,λl p=>k l _ aa (n.free p)<|n.trans<|ab.new p⟩
 .rw[pN jT f];have q:aZ w (r,e)=[]:=o7 λy U z=>f (by rw[<-z];exact G.all y U);refine .inl ⟨v,[],fj,.inr<|bE.of aa,λl p=>k l _ ?_ (n.free p)<|n.trans<|ab.new p⟩;rw[q];exact aa
theorem Reach.trans(e:Reach ds a b)(f:Reach ds b c):Reach ds a c:=by
 induction f with
 |one h=>exact .step e h
 |step r h g=>exact .step g h
def i9(ds:List am)(gs:Zb)(w:Ws):Prop:=∃g∈gs,w=g∨Reach ds g w
theorem i9.Sm{e:List am}{f a:Zb}{w:Ws}(i:∀g∈f,g∈a)(j:∀d∈e,d.b∈a)(h:i9 e f w):w∈a:=by
 obtain⟨g,k,rfl|h2⟩:=h
 .exact i _ k
 .exact h2.Sm j
def vW(F:Zb)(w:Ws):List Ws:=if w∈F then F else F++[w]
theorem DY(F:Zb):∀e∈bm F,e.2=.bl true:=by
 refine mw (λF=>∀e∈bm F,e.2=.bl true) (by intro e h;cases h) (λg w f=>?_) F;intro e a;rw[eV]at a;unfold dR at a;split at a
 .obtain⟨x,hx,rfl⟩:=ar.mp a;split
  .rfl
  .exact f x hx
 .obtain h|h:=bt.mp a
  .exact f e h
  .have:e=(.inr w,.bl true):=by simpa using h
   rw[this]
theorem xU(F:Zb)(w:Ws):dR (bm F) (.inr w) (.bl true)=bm (vW F w):=by
 unfold vW;by_cases c:w∈F
 .rw[if_pos c];have f:((bm F).any λa=>decide (a.1=(.inr w:fK)))=true:=by
   rw[mr,gb,hH c]
  unfold dR;rw[if_pos f];have:∀l:List<|fK×V,(∀a∈l,a.2=.bl true)->l.map (λa=>if a.1=(.inr w:fK)then(a.1,V.bl true)else a)=l:=by
   intro l
   induction l with
   |nil=>intro _;rfl
   |cons x l g =>
    intro h;rw[bL,g λa e=>h a<|eN _ e];congr 1;split
    .rw[<-h x cT]
    .rfl
  exact this _ (DY F)
 .rw[if_neg c,eV]
theorem yB(h:F.Nodup)(w:Ws):(vW F w).Nodup:=by
 unfold vW;split
 .exact h
 .next c =>
  rw[cQ];apply⟨h,by simp,λa f b g e=>?_⟩;have:b=w:=by simpa using g
  exact c (by rw[<-this,<-e];exact f)
theorem DW:y∈vW F w↔y∈F∨y=w:=by
 unfold vW;split
 .next c=>exact⟨.inl,λh=>h.elim id λe=>by rw[e];exact c⟩
 .rw[bt];simp
inductive mu(C:Wk)(vs:List V)(H:Hp)(Q:VK)(E:XK):Prop
 |mk (x l:Wk) (gs J0 J2 J3:Zb) (ds:List am):vs=[.ref x,.ref l]->bf C H x J0 J2 J3 ds->H l=eH (.lst (gs.map WB))->((∀g∈gs,g∈J3))->(∀(t:Wk) (F:Zb) (H':Hp),H' t=eH (.tup ((J3.filter λr=>decide (r∈F)).map WB))->(∀w,w∈F↔i9 ds gs w)->ab H H'->Q (.ref t) H')->mu C vs H Q E
theorem ze{K:Za}(h:mu C D H Q E):BB K C (js C) (ju C) (bT Q) (start CM D) H:=by
 let⟨x,l,gs,J0,J2,a,G,rfl,M,hl,hg,k⟩:=h;have T:∀d∈G,d.b∈a:=λd hd=>(M.ok.good d hd).b;have z3:=M.ok.vr;refine λd hd=>?_;apply⟨_,fj,l,fj,⟨_,az.of<|kp hl hd⟩,?_⟩
 let a6:Nat->L2.St->Hp->Prop:=λi σ m=>L_ λ(F:Zb) (x3 x4:Option V)=>Ma (σ=[eH<|.ref x,eH<|.ref l,eH<|.ref d,x3,x4]) (m d=eH (.dK<|bm F)) (ab H m) (F.Nodup) (∀w,w∈F↔i9 G (gs.take i) w)
 refine cb (xs:=gs.map WB) a6
  ⟨[],_,_,fj,aa,ab.new hd,qN,λw=>⟨λh=>(by cases h),λ⟨g,h,_⟩=>(by cases h)⟩⟩ (λi σ m _ zq=>by let⟨_,_,_,_,_,S,_,_⟩:=zq;exact az.of<|S _ _ hl) ?_ ?_
 .rintro i y σ I hi ⟨F,x3,x4,rfl,s,S1,nd,U⟩;let⟨r,hr,rfl⟩:=bu hi;have as:r∈a:=hg r<|cj hr;have aC:∀w∈F,w∈a:=λw hw=>((U w).mp hw).Sm (λg SN=>hg g<|gK SN) T;apply⟨_,fj,_,fj,d,_,fj,.inl ⟨_,.inr r,.inl s,fj,fj⟩,_,fj,?_⟩;rw[gb];have u:∀w,i9 G (gs.take<|i+1) w↔(i9 G (gs.take i) w∨w=r∨Reach G r w):=by
   intro w;rw[take_snoc hr];constructor
   .rintro⟨g,SN,h⟩;obtain SN|SN:=bt.mp SN
    .exact .inl ⟨g,SN,h⟩
    .have:g=r:=by simpa using SN
     subst this;exact .inr h
   .rintro(⟨g,SN,h⟩|h)
    .exact⟨g,cE _ SN,h⟩
    .exact⟨r,dh _ ∅,h⟩
  by_cases c:r∈F
  .rw[hH c];refine bF ⟨F,_,_,fj,s,S1,nd,λw=>?_⟩;rw[u,U];apply⟨.inl,λh=>h.elim id λh=>?_⟩;let⟨g,SN,UL⟩:=(U r).mp c;obtain h|h:=h
   .rw[h];exact⟨g,SN,UL⟩
   .refine⟨g,SN,.inr ?_⟩;obtain e|UL:=UL
    .rw[<-e];exact h
    .exact UL.trans h
  .rw[hB c];refine cS ?_;have n:∀{F:Zb},F.Nodup->(∀w∈F,w∈a)->(bm F).length<ak:=λnd hs=>ao (bH (nu _) (bH (o5 nd hs) ⋯));apply⟨_,fj,_,fj,d,_,fj,.inl ⟨_,.inr r,s,fj,n nd aC,fj⟩,?_⟩;rw[xU];have Y:ab H (upd I d<|.dK<|bm<|vW F r):=λb o q=>by rw[ah<|ae q hd];exact S1 _ _ q
   have p:upd I d (.dK<|bm<|vW F r) d=eH (.dK<|bm<|vW F r):=aa;generalize upd I d (.dK<|bm<|vW F r)=H2 at Y p ⊢;have M2:=M.same Y;let⟨dx,fs,o1,o2,o3,o4,lv,qu,sg,sl,ts,a7,a8,a9,g1,a1,a2,a3,a4,_⟩:=M2.at_;apply⟨_,fj,x,dx,fs,fj,g1,a3,_,fj,x,r,J0,J2,a,G,fj,M2,as,λll L H3 a0 bn hL al S3=>⟨ll,fj,⟨_,az.of a0⟩,?_⟩⟩;have ba:=S3 _ _ p;have bz:H ll=none:=Y.free al;have bb:ll≠d:=λz=>by rw[z,p]at al;cases al
   let bd:Nat->L2.St->Hp->Prop:=λj σ m=>JG λ(J:Zb) (x4:Option V)=>OI (σ=[eH<|.ref x,eH<|.ref l,eH<|.ref d,eH<|.str r,x4]) (m d=eH (.dK<|bm J)) (m ll=eH (.lst<|L.map WB)) (ab H m) (J.Nodup) (∀w,w∈J↔(i9 G (gs.take i) w∨w=r∨w∈L.take j))
   refine cb (xs:=L.map WB) bd
    ⟨vW F r,_,fj,ba,a0,Y.trans S3,yB nd r,λw=>?_⟩ (λj σ m _ zq=>by let⟨_,_,_,_,h,_,_,_⟩:=zq;exact az.of h) ?_ ?_
   .rw[DW,U];simp
   .rintro j y σ H4 hj ⟨J,bh,rfl,an,N,S4,B,A⟩;let⟨v,hv,rfl⟩:=bu hj;have ap:∀w∈J,w∈a:=by
     intro w hw;obtain h|h|h:=(A w).mp hw
     .exact h.Sm (λg SN=>hg g<|gK SN) T
     .rw[h];exact as
     .exact((hL w).mp<|gK h).Sm T
    apply⟨_,fj,_,fj,d,_,fj,.inl ⟨_,.inr v,an,fj,n B ap,fj⟩,vW J v,_,fj,?_,?_,?_,yB B v,λw=>?_⟩
    .rw[aa,xU]
    .rw[ah bb];exact N
    .intro b o q;rw[ah<|ae q hd];exact S4 _ _ q
    .rw[DW,A,take_snoc hv,bt];simp only[bq];constructor
     .rintro((h|h|h)|h)
      .exact .inl h
      .exact .inr<|.inl h
      .exact .inr<|.inr<|.inl h
      .exact .inr<|.inr<|.inr h
     .rintro(h|h|h|h)
      .exact .inl<|.inl h
      .exact .inl<|.inr<|.inl h
      .exact .inl<|.inr<|.inr h
      .exact .inr h
   .rintro σ H4 ⟨J,bh,rfl,an,N,S4,B,A⟩;rw[ag,aX]at A;apply⟨J,_,_,fj,an,S4,B,λw=>?_⟩;rw[u,A,hL]
 .rintro σ I ⟨F,x3,x4,rfl,s,S1,nd,U⟩;rw[ag,aX]at U;have M1:=M.same S1;let⟨dx,fs,o1,o2,o3,o4,lv,qu,sg,sl,ts,a7,a8,a9,g1,a1,a2,a3,a4,_⟩:=M1.at_;apply⟨_,fj,x,dx,fs,fj,g1,a4,x,J0,J2,a,G,fj,M1,λrl a5=>⟨rl,fj,⟨_,az.of aa⟩,λf hf=>?_⟩⟩;have Y:ab H (upd I rl<|.lst<|a.map WB):=S1.trans<|ab.new a5;have p:upd I rl (.lst<|a.map WB) d=eH (.dK<|bm F):=kp s a5;have O:upd I rl (.lst<|a.map WB) rl=eH (.lst<|a.map WB):=aa;generalize upd I rl (.lst<|a.map WB)=H2 at Y p O hf ⊢
  let bi:Nat->List V->Hp->Prop:=λi D m=>D=((a.take i).filter λr=>decide (r∈F)).map WB/\ab H2 m/\m f=eH (.lst D)
  refine cu (xs:=a.map WB) bi ⟨fj,ab.new hf,aa⟩ (λi D m _ zq=>by let⟨_,S,h'⟩:=zq;exact⟨h',az.of<|S _ _ O⟩) ?_ ?_
  .rintro D m ⟨rfl,S,f'⟩;rw[ag,aX]at f';exact⟨f,_,fj,.inl ⟨az.of f',λt ht=>k t F _ aa U<|Y.trans<|S.trans<|ab.new ht⟩⟩
  .rintro i D m x' bl hi ⟨rfl,S,f'⟩;let⟨r,hr,rfl⟩:=bu bl;refine gN ?_;apply⟨_,fj,_,fj,d,_,fj,.inl ⟨_,.inr r,.inl<|S _ _ p,fj,fj⟩,_,fj,?_⟩;rw[gb];have n:(((a.take i).filter λr=>decide (r∈F)).map WB).length<ak:=by
    rw[ag];refine ao<|bH (b_ _ _) ?_;rw[aS];nofun
   refine rJ (λhq=>?_)<|λhq=>?_
   .refine⟨_,fj,f',n,oj hi ⟨?_,?_,aa⟩⟩
    .rw[dI hr,if_pos hq,au];rfl
    .intro b o q;rw[ah<|ae q hf];exact S _ _ q
   .refine oj hi ⟨?_,S,f'⟩;rw[dI hr,if_neg hq,dj]
inductive jr(K:Za)(vs:List V)(H:Hp)(Q:VK)(E:XK):Prop
 |mk (l4 l:Wk) (ts:Ze) (ds:List am) (gs J3:Zb):vs=[.ref l4,.ref l]->H l4=eH (.lst (ts.map WC))->dJ H ts ds->H l=eH (.lst (gs.map WB))->((∀d∈ds,d.b∈J3))->J3.length<=1000->gs.length<=1000->(∀(f:Wk) (F:Zb) (H':Hp),H' f=eH (.lst (F.map WB))->(∀w,w∈F↔i9 ds gs w)->F.length<=2000->H f=none->ab H H'->Q (.ref f) H')->jr K vs H Q E
structure SO(H0 H:Hp)(ds:List am)(gs:Zb)(f:Wk)(X:Zb):Prop where
 f:H f=eH (.lst ((gs++X).map WB))
 same:ab H0 H
 nd:X.Nodup
 new:∀y∈X,y∉gs
 sound:∀y∈X,i9 ds gs y
theorem i9.step(h:i9 ds f a)(e:(⟨a,aD,b⟩:am)∈ds):i9 ds f b:=by
 obtain⟨g,i,rfl|h⟩:=h
 .exact⟨_,i,.inr<|.one e⟩
 .exact⟨g,i,.inr<|.step h e⟩
theorem lh(a b:Zb):decide (nY a=nY b)=decide (a=b):=by
 by_cases e:a=b
 .rw[hH e,hH (by rw[e])]
 .rw[hB e,hB<|λz=>e<|HA z]
inductive Vq(l4 l f:Wk)(at_:Int)(H:Hp)(ds:List am)(gs X:Zb)(here:Ws)(j:Nat)(σ:L2.St)(H':Hp):Prop
 |mk (X' Y:Zb) (x y z:Option V):σ=[eH (.ref l4),eH (.ref l),eH (.ref f),eH (.int at_),x,y,z]->X'=X++Y->SO H H' ds gs f X'->(∀d∈ds.take j,d.a=here->d.sg=aD->d.b∈gs++X')->Vq l4 l f at_ H ds gs X here j σ H'
theorem Dx{K:Za}(h:jr K vs H Q E):xi K (bT Q) (start yD vs) H:=by
 let⟨l4,l,ts,ds,u,J3,rfl,h4,ap,hl,a8,hz,bI,k⟩:=h;apply⟨_,fj,.inl ⟨l,_,fj,.inl<|az.of hl,λf hf=>?_⟩⟩;have M:∀{X:Zb},X.Nodup->(∀y∈X,y∉u)->(∀y∈X,i9 ds u y)->X.length<=J3.length:=λnd nw sd=>o5 nd λy hy=>by
  obtain⟨g,hg,e|h⟩:=sd y hy
  .exact absurd (by rw[e];exact hg)<|nw y hy
  .exact h.Sm a8
 apply⟨λm σ H'=>∃(X:Zb) (p:Nat) (x y z:Option V),σ=[eH<|.ref l4,eH<|.ref l,eH<|.ref f,eH<|.int p,x,y,z]/\SO H H' ds u f X/\p<=(u++X).length/\(∀i y,i<p->(u++X)[i]?=eH y->∀c,(⟨y,aD,c⟩:am)∈ds->c∈u++X)/\m=u.length+J3.length-p,
  ⟨_,[],0,_,_,_,fj,⟨by rw[dj];exact aa,ab.new hf,qN,by simp,by simp⟩,cH _,λi y h=>by nofun,fj⟩,?_⟩
 rintro m σ H1 ⟨X,p,x4,x5,x6,rfl,D,bS,as,rfl⟩;have b0:=M D.nd D.new D.sound;apply⟨_,fj,_,fj,.inl ⟨f,_,fj,.inl<|az.of D.f,_,_,fj,fj,_,fj,?_⟩⟩;refine rJ (λO=>?_)<|λO=>?_
 .have C:p<(u++X).length:=by
   have:=of_decide_eq_true O;rw[ag]at this;nofun
  have bl:p<u.length+J3.length:=by rw[aA]at C;nofun
  generalize T:(u++X)[p]=here;have J:(u++X)[p]?=eH here:=by rw[<-T];exact bj C
  have U:∀{Y:Zb}{y:Ws},(∀y∈Y,i9 ds u y)->y∈u++Y->i9 ds u y:=λsd hy=>by
   obtain hy|hy:=bt.mp hy
   .exact⟨_,hy,.inl rfl⟩
   .exact sd _ hy
  apply⟨fun σ' H'=>∃(N:Zb) (x y z:Option V),σ'=[eH<|.ref l4,eH<|.ref l,eH<|.ref f,eH<|.int ((p+1:Nat):Int),x,y,z]/\SO H H' ds u f N/\p+1<=(u++N).length/\(∀i y,i<p+1->(u++N)[i]?=eH y->∀c,(⟨y,aD,c⟩:am)∈ds->c∈u++N),
   fun σ' H' ⟨N,x,y,z,e,D',h1,h2⟩=>⟨_,(by nofun:u.length+J3.length-(p+1)<u.length+J3.length-p),N,p+1,x,y,z,e,D',h1,h2,fj⟩,?_⟩
  apply⟨_,fj,l4,fj,⟨_,az.of<|D.same _ _ h4⟩,?_⟩;refine cb (xs:=ts.map WC) (Vq l4 l f p H ds u X here)
   ⟨X,[],_,_,_,fj,by simp,D,by simp⟩ (λj σ H' _ zq=>by let⟨_,_,_,_,_,_,_,D',_⟩:=zq;exact az.of<|D'.same _ _ h4) ?_ ?_
  .rintro j y σ H2 hj ⟨N,Y,a9,ba,bb,rfl,rfl,G,A⟩;let⟨t,ht,rfl⟩:=cJ hj;let⟨v,aC,a0⟩:=Paired.getL ap ht;let⟨s,bd,bh⟩:=a0.kt<|ab.kt G.same;have a4:=cj aC;have bn:=M G.nd G.new G.sound;have al:(u++(X++Y))[p]?=eH here:=by
    rw[<-dQ,iK C];exact J
   apply⟨t,_,fj,bE.of bd,fj,_,_,fj,_,_,fj,_,_,fj,fj,?_⟩;have B:∀(H3:Hp) (X3 Y3:Zb) (q4 q5 q6:Option V),X3=X++Y3->SO H H3 ds u f X3->(∀y∈X++Y,y∈X3)->(v.a=here->v.sg=aD->v.b∈u++X3) ->
     Vq l4 l f p H ds u X here (j+1) [eH<|.ref l4,eH<|.ref l,eH<|.ref f,eH<|.int p,q4,q5,q6] H3:=by
    intro H3 X3 Y3 q4 q5 q6 e I a5 a6;apply⟨X3,Y3,q4,q5,q6,fj,e,I,λd hd e1 e2=>?_⟩;rw[take_snoc aC]at hd;obtain hd|hd:=bt.mp hd
    .obtain h|h:=bt.mp (A d hd e1 e2)
     .exact cE _ h
     .exact dh _<|a5 _ h
    .have:d=v:=by simpa using hd
     subst this;exact a6 e1 e2
   apply⟨_,fj,_,fj,_,fj,.inl ⟨f,_,_,_,fj,fj,az.of G.f,cO (j:=p) (by rw[bV,al];rfl),dD v.a,dD here,tT _,tT _,(by show 0<=8;decide),(by show 0<=8;decide),_,fj,?_⟩⟩;rw[Nn];by_cases c1:v.a=here;rotate_left
   .rw[hB c1];exact bF<|bF<|B H2 _ _ _ _ _ rfl G (λ_ h=>h) λe=>absurd e c1
   rw[hH c1];refine cS ?_;apply⟨_,fj,(by show 1<=ak;decide),λst L=>⟨nY v.sg,nY aD,cg<|bE.of<|kp bh L,cg<|bE.of aa,by rw[c6];decide,by rw[c6];decide,_,fj,?_⟩⟩;rw[lh];have I:SO H (upd H2 st<|.tup [.str "still"]) ds u f (X++Y):=⟨kp G.f L,G.same.trans<|ab.new L,G.nd,G.new,G.sound⟩;have bz:H st=none:=G.same.free L;generalize upd H2 st (.tup [.str "still"])=H3 at I ⊢;by_cases c2:v.sg=aD;rotate_left
   .rw[hB c2];exact bF<|bF<|B H3 _ _ _ _ _ rfl I (λ_ h=>h) λ_ e=>absurd e c2
   rw[hH c2];refine cS ?_;apply⟨_,fj,_,fj,dD v.b,(u++(X++Y)).map dD,f,_,tT _,fj,.inl<|az.of I.f,iB _,(by show 0<=8;decide),by rw[gw];decide,_,fj,?_⟩;rw[if_pos rfl];by_cases c3:v.b∈u++(X++Y)
   .rw[hH<|wq.mpr c3];exact bF<|B H3 _ _ _ _ _ rfl I (λ_ h=>h) λ_ _=>c3
   rw[hB<|λz=>c3<|wq.mp z];refine cS ?_;apply⟨_,fj,.inl ⟨fj,_,az.of I.f⟩,_,fj,f,_,_,fj,fj,I.f,by rw[ag,aA];exact iQ ⋯,?_⟩;have an:(⟨here,aD,v.b⟩:am)∈ds:=by
    have:v=⟨here,aD,v.b⟩:=by cases v;simp only at c1 c2;rw[c1,c2]
    rw[<-this];exact a4
   refine B _ (X++(Y++[v.b])) _ _ _ _ rfl ⟨?_,?_,?_,?_,?_⟩ ?_ ?_
   .rw[aa];have:u++(X++(Y++[v.b]))=u++(X++Y)++[v.b]:=by simp
    rw[this,au (l₂:=[v.b])]
    rfl
   .intro b o q;rw[ah<|ae q hf];exact I.same _ _ q
   .rw[<-dQ,cQ];apply⟨I.nd,by simp,λa ha b hb e=>?_⟩;have:b=v.b:=by simpa using hb
    exact c3 (dh _ (by rw[<-this,<-e];exact ha))
   .intro y hy;rw[<-dQ]at hy;obtain hy|hy:=bt.mp hy
    .exact I.new y hy
    .have:y=v.b:=by simpa using hy
     rw[this];exact λz=>c3<|cE _ z
   .intro y hy;rw[<-dQ]at hy;obtain hy|hy:=bt.mp hy
    .exact I.sound y hy
    .have:y=v.b:=by simpa using hy
     rw[this];exact(U D.sound<|cj J).step an
   .intro y hy;rw[<-dQ];exact cE _ hy
   .intro _ _;exact dh _ ∅
  .rintro σ H2 ⟨N,Y,a9,ba,bb,rfl,rfl,G,A⟩;rw[ag,Paired.length ap,aX]at A;apply⟨_,fj,_,_,fj,fj,X++Y,_,_,_,fj,G,?_,λi y hi hy c hc=>?_⟩
   .rw[<-dQ,aA];nofun
   .by_cases e:i=p
    .subst e;rw[<-dQ,iK C,J]at hy;have:=gp hy;subst this;exact A _ hc rfl rfl
    .have bi:i<p:=by nofun
     rw[<-dQ,iK ⋯]at hy;have:=as i y bi hy c hc;rw[<-dQ];exact cE _ this
 .have a7:p=(u++X).length:=by
   have:¬(p<(u++X).length):=λz=>O (hH (by rw[ag];nofun));nofun
  apply⟨_,fj,k f (u++X) H1 D.f (λw=>⟨λhw=>?_,λhw=>?_⟩) (by rw[aA];nofun) hf D.same⟩
  .obtain hw|hw:=bt.mp hw
   .exact⟨_,hw,.inl rfl⟩
   .exact D.sound _ hw
  .have closed:∀y∈u++X,∀c,(⟨y,aD,c⟩:am)∈ds->c∈u++X:=λy hy c hc=>by
    let⟨n,hn⟩:=jE hy;exact as n y (by rw[a7];exact(bY.mp hn).1) hn c hc
   obtain⟨g,hg,rfl|h⟩:=hw
   .exact cE _ hg
   .induction h with
    |one e=>exact closed _ (cE _ hg) _ e
    |step r e ih=>exact closed _ ih _ e

theorem DD(a:List am)(d:am):(tw a d).length<=a.length+1:=by
 unfold tw;split
 .omega
 .rw[aA];exact aF _
def dW(ds:List am)(sg:Zb)(J7:Zb):List Ws:=J7.flatMap λr=>aZ ds (r,sg)
theorem zA{f:Zb}(h:f[i]?=eH r):dW a e (f.take<|i+1)=dW a e (f.take i)++aZ a (r,e):=by
 unfold dW;rw[take_snoc h,qE];simp
theorem vD(a:List am)(x:Ws×List Ws):(aZ a x).length<=a.length:=by
 unfold aZ;rw[ag];exact b_ _ _
theorem tO(a:List am)(f:Zb):∀e:List Ws,(dW a f e).length<=e.length * a.length
 |[]=>cH _
 |r::e=>by
  show((aZ a (r,f))++dW a f e).length<=(e.length+1) * a.length;rw[aA,AO];have g:=vD a (r,f);have h:=tO a f e;nofun
theorem ff:b∈dW e f g↔∃r∈g,(⟨r,f,b⟩:am)∈e:=by
 unfold dW;rw[fQ];constructor
 .rintro⟨r,a,h⟩;exact⟨r,a,c_.mp h⟩
 .rintro⟨r,a,h⟩;exact⟨r,a,c_.mpr h⟩
inductive sW(C:Wk)(vs:List V)(H:Hp)(Q:VK)(E:XK):Prop
 |mk (x t s:Wk) (J7 sg J0 J2 J3:Zb) (ds:List am):vs=[.ref x,.ref t,.ref s]->bf C H x J0 J2 J3 ds->H t=eH (.tup (J7.map WB))->H s=eH (.tup (sg.map WB))->sg≠bN->J7.length<=1000->(∀(t':Wk) (F:Zb) (H':Hp),H' t'=eH (.tup ((J3.filter λr=>decide (r∈F)).map WB))->(∀w,w∈F↔i9 ds (dW ds sg J7) w)->ab H H'->Q (.ref t') H')->sW C vs H Q E
theorem BX{K:Za}(v:∀H,bE K H N<|bN.map WB)(h:sW C O H Q E):
  qr K (mu C) C (g_ C) N z (bT Q) (start qt O) H:=by
 let⟨x,t,s,j,f,T,U,A,e,rfl,M,Y,hs,B,hz,k⟩:=h;have D:∀d∈e,d.b∈A:=λd hd=>(M.ok.good d hd).b;have z4:=M.ok.Qf;apply⟨_,fj,nY f,nY bN,cg<|bE.of hs,cg<|v _,by rw[c6];decide,by rw[c6];decide,_,fj,?_⟩;rw[lh,hB B];refine bF ?_;apply⟨(by show 0<=ak;decide),λg G=>?_⟩;apply⟨_,fj,t,fj,⟨_,bE.of<|kp Y G⟩,?_⟩
 let I:Nat->L2.St->Hp->Prop:=λi σ n=>∃J:Option V,σ=[eH<|.ref x,eH<|.ref t,eH<|.ref s,eH<|.ref g,J]/\n g=eH (.lst<|(dW e f<|j.take i).map WB)/\ab H n
 refine HB (xs:=j.map WB) I
  ⟨_,fj,aa,ab.new G⟩ (λi σ n _ zq=>by let⟨_,_,_,S⟩:=zq;exact bE.of<|S _ _ Y) ?_ ?_
 .rintro i y σ H1 hi ⟨J,rfl,a,m⟩;let⟨r,hr,rfl⟩:=bu hi;have M1:=M.same m;let⟨dx,fs,o1,o2,o3,o4,lv,qu,al,sl,ts,an,ap,as,g1,a1,a2,a3,a4,_⟩:=M1.at_;apply⟨_,fj,.inl ⟨fj,_,az.of a⟩,_,fj,x,dx,fs,fj,g1,a2,_,fj,_,fj,x,s,r,f,T,U,A,e,fj,M1,m _ _ hs,λl H2 hl fr u=>?_⟩;have L:=u _ _ a;have p:((dW e f<|j.take i).map WB).length+((aZ e (r,f)).map WB).length<=ak:=by
   rw[ag,ag];have h1:=tO e f<|j.take i;have h2:=vD e (r,f);have h3:(j.take i).length * e.length<=1000 * 1000:=t6 (by rw[aS];nofun) z4;have:(1001000:Nat)<=ak:=by decide
   nofun
  apply⟨g,l,_,_,fj,fj,L,hl,p,_,fj,?_,?_⟩
  .rw[aa,zA hr,au]
  .intro b o q;rw[ah<|ae q G];exact u _ _<|m _ _ q
 .rintro σ H1 ⟨J,rfl,a,m⟩;rw[ag,aX]at a;apply⟨_,fj,_,fj,x,g,dW e f j,T,U,A,e,fj,M.same m,a,λw hw=>?_,λt' F n h1 h2 u=>k t' F n h1 h2<|m.trans u⟩;let⟨r,_,h⟩:=ff.mp hw;exact D _ h
theorem iw{a:List am}(h:a[i]?=eH d):(a.take<|i+1).filter p=(a.take i).filter p++(if p d=true then[d]else[]):=by
 rw[take_snoc h,gJ];congr 1;by_cases c:p d=true
 .rw[if_pos c];simp[c]
 .rw[if_neg c];simp[c]
def BG(K:Za)(mu:Sp)(gi:Wk)(h7:Sp):TS :=
 bo (aM mu<|aK V0<|Ka (BY K) (cF gi "rooms" h7 [] E0 V0 aW) (jj)<|nV<|tC<|.int 1)
def CS:List Ws:=["M"]
inductive fF(C:Wk)(vs:List V)(H:Hp)(Q:VK)(E:XK):Prop
 |mk (x:Wk) (J0 J2 J3:Zb) (ds:List am):vs=[.ref x]->bf C H x J0 J2 J3 ds->(∀(t':Wk) (F:Zb) (H':Hp),H' t'=eH (.tup ((J3.filter λr=>decide (r∈F)).map WB))->(∀w,w∈F↔i9 ds (J3.take 1) w)->ab H H'->Q (.ref t') H')->fF C vs H Q E
theorem zi{K:Za}(h:fF C f H Q E):BG K (mu C) C (js C) (bT Q) (start CS f) H:=by
 let⟨x,i,j,a,m,rfl,M,k⟩:=h;let⟨o,fs,I,J,L,N,O,T,p,U,Y,q,r,s,t,a1,a2,a3,u,_⟩:=M.at_;have v:mM (a.map WB) none (eH 1)=(a.take 1).map WB:=wv a 1;apply⟨_,fj,_,fj,x,o,fs,fj,t,u,x,i,j,a,m,fj,M,λn e=>⟨_,fj,n,_,fj,az.of aa,λl w=>?_⟩⟩;rw[v];have S:ab H (upd (upd H n<|.lst<|a.map WB) l<|.lst<|(a.take 1).map WB):=(ab.new e).trans<|ab.new w;exact⟨x,l,a.take 1,i,j,a,m,fj,M.same S,aa,λg y=>gK y,λz F A B D G=>k z F A B D<|S.trans G⟩
theorem Lm{K:Za}{a b:Wk}{xs ys:List V}{g:TG}{o:TS}{D:mQ}{σ:L2.St}{H:Hp}(r:xs.length=ys.length)(Pv:Nat->L2.St->Hp->Prop)(s:Pv 0 σ H)(w:∀i σ H,i<=xs.length->Pv i σ H->az K H a xs/\az K H b ys)
  (z:∀i x y σ H p,xs[i]?=eH x->ys[i]?=eH y->Pv i σ H->H p=none->g (.ref p) σ (upd H p<|.tup [x,y]) fun σ2 k=>o {D with nx:=Pv<|i+1,ct:=Pv<|i+1,bk:=D.nx} σ2 k) (A:∀σ H,Pv xs.length σ H->D.nx σ H) :
  ∃W:Nat->Nat->L2.St->Hp->Prop,(∃m,W 0 m σ H)/\∀i m σ H,W i m σ H ->
   ((OJ K a b).stop i H/\D.nx σ H)∨((OJ K a b).go i H/\∃N:L2.St->Hp->Prop,(∀σ' f,N σ' f->∃q,q<m/\W (i+1) q σ' f)/\∀x f,(OJ K a b).Se i H x f->g x σ f fun σ2 k=>o {D with nx:=N,ct:=N,bk:=D.nx} σ2 k):=by
 apply⟨λi m σ H=>m=xs.length-i/\i<=xs.length/\Pv i σ H,⟨xs.length,by simp,cH _,s⟩,?_⟩;rintro i m σ H ⟨rfl,hi,p⟩;let⟨l,n⟩:=w i σ H hi p;by_cases h:i<xs.length
 .have j:i<ys.length:=by nofun
  refine .inr ⟨⟨xs,ys,xs[i],ys[i],l,n,by simp[h],by simp[j]⟩,Pv<|i+1,fun σ' f B=>⟨xs.length-(i+1),by nofun,fj,h,B⟩,λx f y=>?_⟩;let⟨t,u,v,rfl,C,E,G,rfl⟩:=y;exact z i u v σ H t (E xs l) (G ys n) p C
 .have e:i=xs.length:=by nofun
  subst e;exact .inl ⟨⟨xs,ys,l,n,.inl<|aF _⟩,A σ H p⟩
theorem wt(o:Ws)(L:Zb):decide (dD o∈L.map dD)=decide (o∈L):=by
 by_cases c:o∈L
 .rw[hH<|wq.mpr c,hH c]
 .rw[hB<|λz=>c<|wq.mp z,hB c]
theorem bE.same{K:Za}(S:ab H e)(h:bE K H a f):bE K e a f:=by
 obtain(h|⟨o,h⟩)|h:=h
 .exact .inl<|.inl<|S _ _ h
 .exact .inl<|.inr ⟨o,S _ _ h⟩
 .exact .inr h
theorem az.same{K:Za}(S:ab H e)(h:az K H a f):az K e a f:=by
 obtain(h|⟨o,h⟩)|h:=h
 .exact .inl<|.inl<|S _ _ h
 .exact .inl<|.inr ⟨o,S _ _ h⟩
 .exact .inr h
mutual
theorem kL.same{K:Za}(S:ab H g):∀{d:DT}{v:V},kL K H d v->kL K g d v
 |.k a,v,h=>by unfold kL at h ⊢;exact h
 |.t l,v,h=>by
  unfold kL at h ⊢;let⟨b,f,e,q,r⟩:=h;exact⟨b,f,e,bE.same S q,lR.same S r⟩
 |.s l,v,h=>by
  unfold kL at h ⊢;let⟨b,f,e,q,r⟩:=h;exact⟨b,f,e,az.same S q,lR.same S r⟩
theorem lR.same{K:Za}(S:ab H g):∀{f:List DT}{a:List V},lR K H f a->lR K g f a
 |[],a,h=>by unfold lR at h ⊢;exact h
 |d::f,a,h=>by
  unfold lR at h ⊢;let⟨v,i,e,q,r⟩:=h;exact⟨v,i,e,kL.same S q,lR.same S r⟩
end
theorem lR.get{K:Za}:∀{f:List DT}{a:List V}{i:Nat}{v:V},lR K H f a->a[i]?=eH v->∃d,f[i]?=eH d/\kL K H d v
 |[],a,i,v,h,e=>by unfold lR at h;subst h;simp at e
 |d::f,a,i,v,h,e=>by
  unfold lR at h;let⟨l,m,rfl,q,r⟩:=h;cases i with
  |zero=>simp at e;subst e;exact⟨d,fj,q⟩
  |succ i =>
   simp at e;let⟨g,j,k⟩:=lR.get r e;exact⟨g,by simpa using j,k⟩
theorem lR.len{K:Za}:∀{e:List DT}{a:List V},lR K H e a->a.length=e.length
 |[],a,h=>by unfold lR at h;subst h;rfl
 |d::e,a,h=>by
  unfold lR at h;let⟨f,g,rfl,q,r⟩:=h;rw[eT,eT,lR.len r]
theorem ye:∀{a:List DT}{i:Nat}{d:DT},DT.gg a<=n->a[i]?=eH d->d.depth<=n
 |[],i,d,_,e=>by simp at e
 |x::a,i,d,h,e=>by
  have f:max (DT.depth x) (DT.gg a)<=n:=h;cases i with
  |zero=>simp at e;subst e;nofun
  |succ i=>simp at e;exact ye ⋯ e
theorem Nl(h:(DT.t l).depth<=n+1):DT.gg l<=n:=by
 have:DT.gg l+1<=n+1:=h;nofun
theorem Nm(h:(DT.s l).depth<=n+1):DT.gg l<=n:=by
 have:DT.gg l+1<=n+1:=h;nofun
theorem Ls(h:(DT.t l).depth<=n):1<=n:=by
 have:DT.gg l+1<=n:=h;nofun
theorem Lu(h:(DT.s l).depth<=n):1<=n:=by
 have:DT.gg l+1<=n:=h;nofun
inductive Kd(K:Za)(H:Hp):DT->V->Prop
 |int (i:Int):Kd K H (.k (.inl i)) (.int i)
 |str (x:Ws):Kd K H (.k (.inr x)) (.str x)
 |tup {a:Wk}{xs:List V}{l:List DT}(q:bE K H a xs) (r:lR K H l xs):Kd K H (.t l) (.ref a)
 |lst {a:Wk}{xs:List V}{l:List DT}(q:az K H a xs) (r:lR K H l xs):Kd K H (.s l) (.ref a)
theorem kL.kd{K:Za}:∀{d:DT}{v:V},kL K H d v->Kd K H d v
 |.k (.inl i),v,h=>by unfold kL at h;subst h;exact .int i
 |.k (.inr x),v,h=>by unfold kL at h;subst h;exact .str x
 |.t l,v,h=>by
  unfold kL at h;let⟨b,a,rfl,q,r⟩:=h;exact .tup q r
 |.s l,v,h=>by
  unfold kL at h;let⟨b,a,rfl,q,r⟩:=h;exact .lst q r
def JZ(K:Za)(A4:Sp):TS :=
 aq (aU (aM A4<|aK (aI (nh K) V0<|tC<|.int 3) V1) U2)
 (bo<|dL (G7 K)<|av (cZ 1 [2] (bU K<|aI (nh K) V0<|tC<|.int 2) U0 (a_<|aI (lZ K false) V0 V1) V0) aW)
def LM:List Ws:=["told","some","there"]
open Classical in
def hJ(J3:Zb)(ds:List am)(gs:Zb):List Ws:=J3.filter λr=>decide (i9 ds gs r)
open Classical in
theorem ym{J3 F a:Zb}{e:List am}(f:∀w,w∈F↔i9 e a w):J3.filter (λr=>decide (r∈F))=hJ J3 e a:=by
 unfold hJ;refine ox λr _=>?_;by_cases c:r∈F
 .rw[hH c,hH<|(f r).mp c]
 .rw[hB c,hB λz=>c<|(f r).mpr z]
open Classical in
theorem Ev(h:∀g,g∈i↔g∈a):hJ J3 f i=hJ J3 f a:=by
 have:∀r,i9 f i r↔i9 f a r:=λr=>⟨λ⟨g,j,e⟩=>⟨g,(h g).mp j,e⟩,λ⟨g,j,e⟩=>⟨g,(h g).mpr j,e⟩⟩;unfold hJ;refine ox λr _=>?_;by_cases c:i9 f i r
 .rw[hH c,hH<|(this r).mp c]
 .rw[hB c,hB λz=>c<|(this r).mpr z]
theorem uX:∀r∈hJ J3 e a,r∈J3:=λr h=>(bW.mp h).1
theorem pU:(hJ a f e).length<=a.length:=b_ _ _
def qo(J3:Zb)(ds:List am)(J7 sg:Zb):List Ws:=if sg=bN then J7.filter (λr=>decide (r∉fJ ds))else hJ J3 ds (dW ds sg J7)
theorem Ez(hf:∀r∈a,r∈J3):∀r∈qo J3 f a e,r∈J3:=by
 intro r h;unfold qo at h;split at h
 .exact hf r (bW.mp h).1
 .exact uX r h
theorem LG(h:a.length<=1000)(hf:e.length<=1000):(qo a g e f).length<=1000:=by
 unfold qo;split
 .exact bH (b_ _ _) hf
 .exact bH pU h
theorem KP{g:Zb}{a:List am}{e:Zb}(f:∀r∈e,r∈g):(e.filter λr=>decide (r∈g.filter (ip a)))=e.filter λr=>decide (r∉fJ a):=by
 refine ox λr h=>?_;rw[<-FH];cases q:ip a r with
 |true=>exact hH<|bW.mpr ⟨f r h,q⟩
 |false=>exact hB (λz=>by rw[(bW.mp z).2]at q;cases q)
inductive wj(K:Za)(C:Wk)(vs:List V)(H:Hp)(Q:VK)(E:XK):Prop
 |mk (x t s:Wk) (J7 sg J0 J2 J3:Zb) (ds:List am):vs=[.ref x,.ref t,.ref s]->bf C H x J0 J2 J3 ds->H t=eH (.tup (J7.map WB))->bE K H s (sg.map WB)->((sg=bN∨H s=eH (.tup (sg.map WB))))->((∀r∈J7,r∈J3))->J7.length<=1000->(∀(t':Wk) (H':Hp),H' t'=eH (.tup ((qo J3 ds J7 sg).map WB))->ab H H'->Q (.ref t') H')->wj K C vs H Q E
theorem MI{K:Za}(g:∀H,bE K H I<|bN.map WB)(h:wj K C a H Q E):
  qr K (mu C) C (g_ C) I (kY C) (bT Q) (start qt a) H:=by
 let⟨x,t,s,n,J,L,N,p,u,rfl,M,w,U,y,j,Y,k⟩:=h;by_cases v:J=bN;rotate_left
 .refine BX (E:=E) g ⟨x,t,s,n,J,L,N,p,u,fj,M,w,y.resolve_left v,v,Y,λz F e h1 hF S=>k z e ?_ S⟩;rw[h1,ym hF];unfold qo;rw[if_neg v]
 subst v;apply⟨_,fj,nY bN,nY bN,cg U,cg<|g _,by rw[c6];decide,by rw[c6];decide,_,fj,?_⟩;rw[hH rfl];refine cS ?_;apply⟨_,fj,t,fj,⟨_,bE.of w⟩,λf hf=>?_⟩
 let A:Nat->List V->Hp->Prop:=λi a e=>a=((n.take i).filter λr=>decide (r∈p.filter (ip u))).map WB/\ab H e/\e f=eH (.lst a)
 refine Eu (xs:=n.map WB) A ⟨fj,ab.new hf,aa⟩ (λi a e _ zq=>by let⟨_,S,h'⟩:=zq;exact⟨h',bE.of<|S _ _ w⟩) ?_ ?_
 .rintro a e ⟨rfl,S,l⟩;rw[ag,aX]at l;apply⟨f,_,fj,.inl ⟨az.of l,λz B=>k z _ ?_<|S.trans<|ab.new B⟩⟩;rw[aa,KP j];unfold qo;rw[if_pos rfl]
 .rintro i a e x' D hi ⟨rfl,S,l⟩;let⟨r,O,rfl⟩:=bu D;have T:=M.same S;let⟨dx,fs,o1,o2,o3,o4,lv,qu,al,sl,ts,an,ap,as,g1,a1,_⟩:=T.at_;refine gN ?_;apply⟨_,fj,x,dx,fs,fj,g1,a1,_,fj,x,r,L,N,p,u,fj,T,_,fj,?_⟩;have m:(((n.take i).filter λr=>decide (r∈p.filter (ip u))).map WB).length<ak:=by
   rw[ag];refine ao<|bH (b_ _ _) ?_;rw[aS];nofun
  refine rJ (λG=>?_)<|λG=>?_
  .refine⟨_,fj,l,m,oj hi ⟨?_,?_,aa⟩⟩
   .rw[dI O,if_pos G,au];rfl
   .intro b o q;rw[ah<|ae q hf];exact S _ _ q
  .refine oj hi ⟨?_,S,l⟩;rw[dI O,if_neg G,dj]
inductive Dw (vs:List V)(H:Hp)(Q:VK)(E:XK):Prop
 |mk (t l l1 l2 l3 l4:Wk) (ts:Ze) (J0 J2 J3 gs:Zb) (ds:List am):vs=[.ref t,.ref l]->jC H t l1 l2 l3 l4 ts J0 J2 J3 ds->aE J0 J2 J3 ds->H l=eH (.lst (gs.map WB))->gs.length<=1000->(∀(t':Wk) (H':Hp),H' t'=eH (.tup ((hJ J3 ds gs).map WB))->ab H H'->Q (.ref t') H')->Dw  vs H Q E
theorem O1{K:Za}(h:Dw a H Q E):JZ K (jr K) (bT Q) (start LM a) H:=by
 let⟨t,l,l1,l2,A,B,C,J0,J2,n,D,G,rfl,T,m,I,J,k⟩:=h;have z3:=m.vr;apply⟨_,fj,.inr (.inl ⟨t,_,3,_,fj,fj,bE.of T.t,fj,_,fj,B,l,C,G,D,n,fj,T.a4,T.ds,I,λd L=>(m.good d L).b,by nofun,J,λM F N p O U fr y=>?_⟩)⟩;have s:=T.same y;apply⟨_,fj,.inr<|.inl ⟨t,_,2,_,fj,fj,bE.of s.t,fj,A,fj,⟨_,az.of s.a3⟩,λf hf=>?_⟩⟩
 let u:Nat->List V->Hp->Prop:=λi a e=>a=((n.take i).filter λr=>decide (r∈F)).map WB/\ab N e/\e f=eH (.lst a)
 refine cu (xs:=n.map WB) u ⟨fj,ab.new hf,aa⟩ (λi a e _ Y=>by let⟨_,S,h'⟩:=Y;exact⟨h',az.of<|S _ _ s.a3⟩) ?_ ?_
 .rintro a e ⟨rfl,S,g⟩;rw[ag,aX,ym O]at g;exact⟨f,_,fj,.inl ⟨az.of g,λt' v=>k t' _ aa<|(y.trans S).trans<|ab.new v⟩⟩
 .rintro i a e x' w hi ⟨rfl,S,g⟩;let⟨r,z,rfl⟩:=bu w;refine gN ?_;apply⟨_,fj,_,fj,dD r,F.map dD,M,_,tT r,fj,.inl<|az.of<|S _ _ p,iB _,(by show 0<=8;decide),by rw[gw];decide,_,fj,?_⟩;rw[if_neg h9,wt];have j:(((n.take i).filter λr=>decide (r∈F)).map WB).length<ak:=by
   rw[ag];refine ao<|bH (b_ _ _) ?_;rw[aS];nofun
  refine rJ (λx=>?_)<|λx=>?_
  .refine⟨_,fj,g,j,oj hi ⟨?_,?_,aa⟩⟩
   .rw[dI z,if_pos x,au];rfl
   .intro b o q;rw[ah<|ae q hf];exact S _ _ q
  .refine oj hi ⟨?_,S,g⟩;rw[dI z,if_neg x,dj]
theorem Ge(a:List am):DT.gg (a.map Es)<=2:=by
 induction a with
 |nil=>exact cH _
 |cons x e f=>rw[bL];show max (DT.depth<|Es x) (DT.gg _)<=2;rw[Cu];nofun
theorem Iu(g:yI j k l i):∃f a,i.sg=f::a/\(!decide (WB f=WB ("ask":Ws)))=!jA i:=by
 obtain⟨f,a,h⟩:∃f a,i.sg=f::a:=by
  obtain⟨w,_,e⟩|⟨w,_,e⟩|e:=g.sg<;>exact⟨_,_,e⟩
 apply⟨f,a,h,?_⟩;unfold jA;rw[h];congr 1;show _=decide (f=("ask":Ws));by_cases c:f=("ask":Ws)
 .rw[hH c,hH (by rw[c])]
 .rw[hB c,hB (λz=>c (by injection z))]
inductive pC (vs:List V)(H:Hp)(Q:VK)(E:XK):Prop
 |mk (t l1 l2 l3 l4:Wk) (ts:Ze) (J0 J2 J3:Zb) (ds:List am) (r:Ws):vs=[.ref t,.str r]->jC H t l1 l2 l3 l4 ts J0 J2 J3 ds->aE J0 J2 J3 ds->(∀H',ab H H'->Q (.bl (decide (r∉fJ ds))) H')->pC  vs H Q E
inductive xE(K:Za)(vs:List V)(H:Hp)(Q:VK)(E:XK):Prop
 |mk (t ft s l1 l2 l3 l4:Wk) (ts:Ze) (J0 J2 J3 J7 sg:Zb) (ds:List am):vs=[.ref t,.ref ft,.ref s]->jC H t l1 l2 l3 l4 ts J0 J2 J3 ds->aE J0 J2 J3 ds->H ft=eH (.tup (J7.map WB))->bE K H s (sg.map WB)->J7.length<=1000->(∀(t':Wk) (H':Hp),H' t'=eH (.tup ((qo J3 ds J7 sg).map WB))->ab H H'->Q (.ref t') H')->xE K vs H Q E
abbrev gy(H:Hp)(us:Ze)(L:List<|List Ws):Prop:=Paired (SignAt H) us L
theorem gy.kt(k:h_ H H')(h:gy H a L):gy H' a L:=Paired.i3 h λ_ _ r=>k _ _ r
theorem gy.RE{K:Za}:∀{a:Ze}{L:List (List Ws)},gy H a L->lR K H (L.map nY) (a.map WC)
 |_,_,.nil=>by show lR K H [] [];unfold lR;rfl
 |_,_,.cons r t=>by
  rw[bL,bL];unfold lR;exact⟨_,_,fj,cg<|bE.of r,gy.RE t⟩
theorem Gd(L:List<|List Ws):DT.gg (L.map nY)<=1:=by
 induction L with
 |nil=>exact cH _
 |cons x a e=>rw[bL];show max (DT.depth<|nY x) (DT.gg _)<=1;rw[c6];nofun
def cW(J0 J2:Zb):List (List Ws):=J0.map bQ++J2.map bZ++[bN]
theorem nz{K:Za}{ws:Zb}(t:H a=eH (.lst<|ws.map WB))(z:ws.length<=1000)(s:H l=none)(k:∀(f:Ze) (e:Hp),e l=eH (.lst<|f.map WC)->gy e f (ws.map λw=>[kd,w])->ab H e->Q e) :
  dB 1 [] σ (HW K a) U0 iN (cB<|aK (tC<|.str kd) V0) H l Q:=by
 let m:Nat->List V->Hp->Prop:=λi g e=>∃f:List Wk,g=f.map WC/\ab H e/\e l=eH (.lst g)/\gy e f ((ws.take i).map λw=>[kd,w])
 refine cu (xs:=ws.map WB) m ⟨[],fj,ab.new s,aa,.nil⟩ (λi g e _ v=>by let⟨_,_,S,n,_⟩:=v;exact⟨n,az.of<|S _ _ t⟩) ?_ ?_
 .rintro g e ⟨f,rfl,S,n,h⟩;rw[ag,aX]at h;exact k f e n h S
 .rintro i g e A p hi ⟨f,rfl,S,r,h⟩;let⟨w,x,rfl⟩:=bu p;refine gN<|su ?_;apply⟨_,fj,(by show 2<=ak;decide),λu j=>⟨kp r j,?_,oj hi ⟨f++[u],by rw[au];rfl,?_,aa,?_⟩⟩⟩
  .rw[ag,Paired.length h,ag,aS];exact ao ⋯
  .intro b o q;rw[ah<|ae q s];exact kp (S _ _ q) j
  .rw[take_snoc x,au];have y:h_ e (upd (upd e u<|.tup [.str kd,.str w]) l<|.lst<|f.map WC++[.ref u]):=(ab.kt<|ab.new j).trans<|eF<|kp r j;exact eD (gy.kt y h)<|(eF<|kp r j) _ _ aa
def Qm(J3:Zb)(ds:List am)(story:List<|List Ws):List Ws:=story.foldl (qo J3 ds)<|hJ J3 ds<|J3.take 1
theorem Ej(e:Zb)(f:List am)(a:List<|List Ws)(g:Zb):Qm e f (a++[g])=qo e f (Qm e f a) g:=by
 unfold Qm;rw[mV]
 rfl
theorem Jl(j:e.length<=1000)(a:List<|List Ws):(∀r∈Qm e ds a,r∈e)/\(Qm e ds a).length<=1000:=by
 have g:∀(L:List<|List Ws) (f:Zb),(∀r∈f,r∈e)->f.length<=1000->(∀r∈L.foldl (qo e ds) f,r∈e)/\(L.foldl (qo e ds) f).length<=1000:=by
  intro L
  induction L with
  |nil=>intro f h i;exact⟨h,i⟩
  |cons l L k=>intro f h i;exact k _ (Ez h)<|LG j i
 exact g a _ uX<|bH pU j
def xn(K:Za):TS :=
 bo (dL (eR K)<|aB<|ik K V0 "own_asks")
def yH:List Ws:=["self"]
def xm(K:Za):TS :=
 bo (dL (eR K)<|aB<|ik K V0 "own_says")
def yG:List Ws:=["self"]
def oM(K:Za):TS :=
 bo (dL (eR K)<|aB<|oR K (ik K V0 "leaving") V1<|cB<|aW)
def pc:List Ws:=["self","room"]
def Fd(K:Za)(Rv:Sp)(SS:Sp):TS :=
 aq (aU (aM SS<|aK V0<|Ka (UU K) (aI (nh K) V0<|tC<|.int 2) (jj)<|nV<|tC<|.int 1) U2)
 (aq (ee (bU K V1) U3<|aU (aM Rv<|eP V0 V2 V3) U2)
 (bo V2))
def Gz:List Ws:=["told","story","face","sign"]
theorem xC(h:bf C H x k l m n):∃(j:Wk) (fs:List<|Ws×V) (f g i:Wk) (a:List<|Ws×Wk),H x=eH (.ins C j fs)/\lk "asks" fs=none/\lk "says" fs=none/\lk "doors_from" fs=none/\lk "is_quiet" fs=none/\lk "own_asks" fs=eH (.ref f)/\lk "own_says" fs=eH (.ref g)/\lk "leaving" fs=eH (.ref i) /\
  H f=eH (.lst<|k.map WB)/\H g=eH (.lst<|l.map WB)/\a.map (·.1)=m/\H i=eH (.dK<|fD Sum.inr a)/\(∀x∈a,∃o,H x.2=eH (.lst<|o.map WC)/\dJ H o (bM n x.1)):=by
 let⟨j,fs,f,g,I,J,i,M,N,O,Q,a,q,r,p,a1,a2,a3,T,s,t,U,Y,u,b6,b7,b8,L,v,w,y,c4,G,d1,d2,d3⟩:=h.at_;let⟨z,A,e,B,D,e3,E⟩:=h.more;rw[p]at e;cases e;exact⟨j,fs,f,g,i,a,p,B,D,E,a1,s,t,u,L.a1,L.a2,v,w,y⟩
inductive kZ(C:Wk)(vs:List V)(H:Hp)(Q:VK)(E:XK):Prop
 |mk (x:Wk) (J0 J2 J3:Zb) (ds:List am):vs=[.ref x]->bf C H x J0 J2 J3 ds->(∀l,H l=none->Q (.ref l) (upd H l (.lst (J0.map WB))))->kZ C vs H Q E
theorem ML{K:Za}(M:MC K C)(h:kZ C a H Q E):xn K (bT Q) (start yH a) H:=by
 let⟨x,m,n,o,p,rfl,h,k⟩:=h;let⟨f,fs,e,q,r,g,i,a1,a2,a3,s,j,t,u,l,v,_⟩:=xC h;exact⟨_,fj,x,C,f,fs,.ref e,fj,i,M.cls,M.a1,j,.inl ⟨e,_,fj,.inl<|az.of l,k⟩⟩
inductive kW(C:Wk)(vs:List V)(H:Hp)(Q:VK)(E:XK):Prop
 |mk (x:Wk) (J0 J2 J3:Zb) (ds:List am):vs=[.ref x]->bf C H x J0 J2 J3 ds->(∀l,H l=none->Q (.ref l) (upd H l (.lst (J2.map WB))))->kW C vs H Q E
theorem ME{K:Za}(M:MC K C)(h:kW C a H Q E):xm K (bT Q) (start yG a) H:=by
 let⟨x,m,n,o,p,rfl,h,k⟩:=h;let⟨f,fs,q,e,r,g,i,a1,a2,a3,s,t,j,u,v,l,_⟩:=xC h;exact⟨_,fj,x,C,f,fs,.ref e,fj,i,M.cls,M.a2,j,.inl ⟨e,_,fj,.inl<|az.of l,k⟩⟩
inductive jk(C:Wk)(vs:List V)(H:Hp)(Q:VK)(E:XK):Prop
 |mk (x:Wk) (r:Ws) (J0 J2 J3:Zb) (ds:List am):vs=[.ref x,.str r]->bf C H x J0 J2 J3 ds->r∈J3->(∀(l:Wk) (us:Ze) (H':Hp),H' l=eH (.lst (us.map WC))->dJ H' us (bM ds r)->H l=none->ab H H'->Q (.ref l) H')->jk C vs H Q E
theorem zk{K:Za}(M:MC K C)(h:jk C n H Q E):oM K (bT Q) (start pc n) H:=by
 let⟨x,r,I,J,L,N,rfl,h,t,k⟩:=h;let⟨u,fs,O,T,o,i,v,a1,a2,a3,U,Y,b2,w,c1,c2,p,q,y⟩:=xC h;have j:=h.ok.RV.1;let⟨⟨s,a⟩,e,z⟩:=ar.mp (show r∈i.map (·.1) by rw[p];exact t);obtain rfl:s=r:=z;let⟨A,B,D⟩:=y _ e;apply⟨_,fj,x,C,u,fs,.ref o,fj,v,M.cls,M.a5,w,o,fj,.inl ⟨_,.inl q⟩,_,fj,(by show 0<=ak;decide),λG f=>⟨_,.inl ⟨_,.inr s,.inl<|kp q f,fj,fj⟩,?_⟩⟩;rw[fN jX (by rw[p];exact j) e];have g:ab H (upd H G<|.tup []):=ab.new f;refine .inl ⟨a,_,fj,.inl<|az.of<|g _ _ B,λl m=>k l A _ aa ?_ (g.free m)<|g.trans<|ab.new m⟩;exact D.kt<|ab.kt<|g.trans<|ab.new m
abbrev Sg:=List Ws
def q7(J0 J2 J3:Zb)(ds:List am)(J7:Zb):List (Sg×List Ws):=((cW J0 J2).map λsg=>(sg,qo J3 ds J7 sg)).filter λp=>decide (p.2≠[])
structure ie where
 fs:List (List Ws)
 ss:List (List Sg)
def ie.add(m:ie)(f:Zb)(s:List Sg):ie:=if f∈m.fs then m else⟨m.fs++[f],m.ss++[s]⟩
def Hk(s:List Sg)(q:ie×List (Sg×Nat))(p:Sg×List Ws):ie×List (Sg×Nat):=(q.1.add p.2<|s++[p.1],q.2++[(p.1,(q.1.add p.2<|s++[p.1]).fs.idxOf p.2)])
def fe(s:List Sg)(m:ie)(L:List<|Sg×List Ws):ie×List (Sg×Nat):=L.foldl (Hk s) (m,[])
abbrev EL:=ie×List (List<|Sg×Nat)
def Tp(J3:Zb)(ds:List am):EL:=((⟨[],[]⟩:ie).add (hJ J3 ds<|J3.take 1) [],[])
def L'(J0 J2 J3:Zb)(ds:List am)(S:EL):EL :=
 ((fe (S.1.ss.getD S.2.length []) S.1<|q7 J0 J2 J3 ds<|S.1.fs.getD S.2.length []).1,S.2++[(fe (S.1.ss.getD S.2.length []) S.1<|q7 J0 J2 J3 ds<|S.1.fs.getD S.2.length []).2])
def wy(J0 J2 J3:Zb)(ds:List am):Nat->EL
 |0=>Tp J3 ds
 |k+1=>L' J0 J2 J3 ds<|wy J0 J2 J3 ds k
def g8:List Ws->List (List Ws)
 |[]=>[[]]
 |r::rs=>(g8 rs).map (r::·)++g8 rs
theorem my:∀a:List Ws,(g8 a).length=2 ^ a.length
 |[]=>rfl
 |r::a=>by
  show((g8 a).map (r::·)++g8 a).length=2 ^ (a.length+1);rw[aA,ag,my a,Nat.pow_succ];nofun
theorem mx(p:Ws->Bool):∀a:List Ws,a.filter p∈g8 a
 |[]=>by show[]∈[[]];simp
 |r::a=>by
  show(r::a).filter p∈(g8 a).map (r::·)++g8 a;have e:=mx p a;rw[lE];split
  .exact cE _<|eC e
  .exact dh _ e
theorem j6{α:Type}[DecidableEq α]:∀{L R:List α},L.Nodup->(∀y∈L,y∈R)->L.length<=R.length
 |[],_,_,_=>cH _
 |x::L,R,h,a=>by
  rw[gj]at h;have hx:x∈R:=a x cT;have g:∀y∈L,y∈R.erase x:=λy f=>(List.mem_erase_of_ne (λe=>h.1 (by rw[<-e];exact f))).2<|a y<|eN _ f;have i:=j6 h.2 g;rw[List.length_erase_of_mem hx]at i;have j:0<R.length:=List.length_pos_of_mem hx;rw[eT];nofun
def mP(J3 f:Zb):Prop:=∃p:Ws->Bool,f=J3.filter p
theorem Hv(h:mP a f):mP a (qo a g f e):=by
 classical
 unfold qo;split
 .obtain⟨p,rfl⟩:=h;rw[List.filter_filter];exact⟨_,fj⟩
 .unfold hJ;exact⟨_,fj⟩
theorem uV:mP a (hJ a e f):=by
 classical
 unfold hJ;exact⟨_,fj⟩
theorem mP.sub(h:mP a f):∀r∈f,r∈a:=by
 let⟨p,rfl⟩:=h;exact λr e=>(bW.1 e).1
theorem mP.len(h:mP a f):f.length<=a.length:=by
 let⟨p,rfl⟩:=h;exact b_ _ _
structure Good(J3:Zb)(m:ie):Prop where
 nd:m.fs.Nodup
 len:m.ss.length=m.fs.length
 Vd:∀f∈m.fs,mP J3 f
 sl:∀(i:Nat) (s:List Sg),m.ss[i]?=eH s->s.length<=i
theorem ie.Qv{m:ie}(h:f∈m.fs):m.add f s=m:=if_pos h
theorem ie.C'{m:ie}(h:¬f∈m.fs):m.add f s=⟨m.fs++[f],m.ss++[s]⟩:=if_neg h
theorem Good.add(g:Good a m)(h:mP a f)(n:s.length<=m.fs.length):Good a (m.add f s):=by
 by_cases c:f∈m.fs
 .rw[ie.Qv c];exact g
 .rw[ie.C' c];apply⟨?_,?_,?_,?_⟩;rotate_left 3
  .intro i j e
   change (m.ss++[s])[i]?=eH j at e
   obtain z|z:=qD i m.ss.length
   .rw[iK z]at e;exact g.sl i j e
   .rw[oF z]at e;have k:i-m.ss.length=0:=by
     obtain q|q:=ud (i-m.ss.length)
     .exact q
     .rw[ig (by show 1<=_;nofun)]at e;cases e
    rw[k]at e;injection e with e;rw[<-e];have:=g.len;nofun
  .rw[cQ];exact⟨g.nd,by simp,λx hx y l e=>c (by rw[bq.1 l]at e;rw[<-e];exact hx)⟩
  .show(m.ss++[s]).length=(m.fs++[f]).length;rw[aA,aA,g.len];rfl
  .intro x hx;obtain hx|hx:=bt.1 hx
   .exact g.Vd x hx
   .rw[bq.1 hx];exact h
theorem Nv{m:ie}:f∈(m.add f s).fs:=by
 by_cases c:f∈m.fs
 .rw[ie.Qv c];exact c
 .rw[ie.C' c];simp
def tZ(m m':ie):Prop:=(∃r,m'.fs=m.fs++r)/\∃r,m'.ss=m.ss++r
theorem tZ.refl(m:ie):tZ m m:=⟨⟨[],(dj _).symm⟩,⟨[],(dj _).symm⟩⟩
theorem tZ.trans(h:tZ a b)(k:tZ b c):tZ a c:=by
 let⟨⟨r,e⟩,⟨s,f⟩⟩:=h;let⟨⟨g,i⟩,⟨j,l⟩⟩:=k;exact⟨⟨r++g,by rw[i,e,dQ]⟩,⟨s++j,by rw[l,f,dQ]⟩⟩
theorem Ed:tZ m (m.add f s):=by
 by_cases c:f∈m.fs
 .rw[ie.Qv c];exact .refl _
 .rw[ie.C' c];exact⟨⟨[f],fj⟩,⟨[s],fj⟩⟩
theorem iZ(s:List Sg)(m:ie)(L:List<|Sg×List Ws)(p:Sg×List Ws):fe s m (L++[p])=Hk s (fe s m L) p:=by
 unfold fe;rw[mV];rfl
theorem tZ.at{m a:ie}(h:tZ m a){i:Nat}{f:Zb}(e:m.fs[i]?=eH f):a.fs[i]?=eH f:=by
 let⟨⟨r,q⟩,_⟩:=h;rw[q,iK (by obtain z|z:=qD i m.fs.length;exact z;rw[ig z]at e;cases e),e]
theorem Aj(g:Good e m)(v:s.length<m.fs.length)(L:List<|Sg×List Ws)(j:∀p∈L,mP e p.2):
  Good e (fe s m L).1/\tZ m (fe s m L).1/\Paired (λ(a:Sg×Nat) (p:Sg×List Ws)=>a.1=p.1/\(fe s m L).1.fs[a.2]?=eH p.2) (fe s m L).2 L:=by
 have h:∀n,n<=L.length->Good e (fe s m<|L.take n).1/\tZ m (fe s m<|L.take n).1/\Paired (λ(a:Sg×Nat) (p:Sg×List Ws)=>a.1=p.1/\(fe s m<|L.take n).1.fs[a.2]?=eH p.2) (fe s m<|L.take n).2 (L.take n):=by
  intro n
  induction n with
  |zero=>intro _;exact⟨g,.refl _,.nil⟩
  |succ n k =>
   intro w;let⟨l,i,o⟩:=k ⋯;have t:L[n]?=eH L[n]:=bj ⋯;rw[take_snoc t,iZ];have hf:=j L[n]<|fR _;have x:m.fs.length<=(fe s m<|L.take n).1.fs.length:=by
    let⟨⟨r,q⟩,_⟩:=i;rw[q,aA];nofun
   apply⟨l.add hf (by rw[aA];show _+1<=_;nofun),i.trans Ed,?_⟩;refine eD (Paired.i3 o λa p r=>⟨r.1,Ed.at r.2⟩) ⟨fj,?_⟩;show(ie.add _ _ _).fs[(ie.add _ _ _).fs.idxOf L[n].2]?=eH L[n].2;have u:=Nv (m:=(fe s m<|L.take n).1) (f:=L[n].2) (s:=s++[L[n].1]);have hi:=List.idxOf_lt_length_of_mem u;rw[bj hi,List.getElem_idxOf]
 have:=h L.length<|aF _;rw[aX]at this;exact this
structure GG(J0 J2 J3:Zb)(ds:List am)(S:EL):Prop where
 good:Good J3 S.1
 le:S.2.length<=S.1.fs.length
 zero:S.1.fs[0]?=eH (hJ J3 ds (J3.take 1))
 st:∀(i:Nat) (l:List (Sg×Nat)),S.2[i]?=eH l->∃f,S.1.fs[i]?=eH f/\Paired (λ(a:Sg×Nat) (p:Sg×List Ws)=>a.1=p.1/\S.1.fs[a.2]?=eH p.2) l (q7 J0 J2 J3 ds f)
theorem xB(h:mP a f):∀p∈q7 J0 e a g f,mP a p.2:=by
 intro p i;let⟨j,_,rfl⟩:=ar.1 (bW.1 i).1;exact Hv h
theorem Jk:GG j k a g (Tp a g):=by
 have e:(⟨[],[]⟩:ie).add (hJ a g<|a.take 1) []=⟨[hJ a g<|a.take 1],[[]]⟩:=ie.C' ∅;apply⟨?_,cH _,?_,λi l h=>?_⟩
 .exact Good.add (m:=⟨[],[]⟩) ⟨qN,fj,(λf hf=>nomatch hf),(λi s (e:([]:List<|List Sg)[i]?=eH s)=>by rw[List.getElem?_nil]at e;cases e)⟩ uV<|cH _
 .show((⟨[],[]⟩:ie).add _ _).fs[0]?=_;rw[e];rfl
 .simp[Tp]at h
theorem Jj(h:GG n o t u S)(lt:S.2.length<S.1.fs.length):GG n o t u (L' n o t u S):=by
 have x:S.1.fs[S.2.length]?=eH S.1.fs[S.2.length]:=by simp[lt]
 have y:S.1.fs.getD S.2.length []=S.1.fs[S.2.length]:=by simp[lt]
 have z:=h.good.Vd S.1.fs[S.2.length]<|fR _;let⟨g,m,w⟩:=Aj (s:=S.1.ss.getD S.2.length []) h.good (by
  have v:S.2.length<S.1.ss.length:=by rw[h.good.len];exact lt
  have e:S.1.ss[S.2.length]?=eH (S.1.ss[S.2.length]'(v)):=bj v;have:=h.good.sl _ _ e;rw[dP,e];show(S.1.ss[S.2.length]'(v)).length<_;nofun) (q7 n o t u S.1.fs[S.2.length])<|xB z
 unfold L';rw[y];generalize fe (S.1.ss.getD S.2.length []) S.1 (q7 n o t u S.1.fs[S.2.length])=q at g m w;apply⟨g,?_,m.at h.zero,λi l j=>?_⟩
 .obtain⟨⟨r,e⟩,_⟩:=m;show(S.2++[q.2]).length<=q.1.fs.length;rw[e,aA,aA];show S.2.length+1<=_;nofun
 .change (S.2++[q.2])[i]?=eH l at j
  obtain c|c|c:=wI i S.2.length
  .rw[iK c]at j;let⟨f,e,p⟩:=h.st i l j;exact⟨f,m.at e,Paired.i3 p λa p r=>⟨r.1,m.at r.2⟩⟩
  .subst c;rw[oF<|aF _,Nat.sub_self]at j;injection j with j;subst j;exact⟨S.1.fs[S.2.length],m.at x,w⟩
  .rw[oF<|cA c]at j;let⟨k,A⟩:=Nat.exists_eq_succ_of_ne_zero (show i-S.2.length≠0 by nofun);rw[A]at j;cases j
def uz(K:Za)(gi:Wk)(hY:Sp)(hI:Sp)(sv:Wk):TS :=
 bo (aI jU (aI jU (cZ 1 [] (bU K<|cF gi "asks" hY [] E0 V0 aW) U0 (iN)<|cB<|aK (tC<|.str "ask") V0)<|cZ 1 [] (bU K<|cF gi "says" hI [] E0 V0 aW) U0 (iN)<|cB<|aK (tC<|.str "say") V0)<|bw<|aB<|tC<|.ref sv)
def u2:List Ws:=["M"]
def E_(K:Za)(Qy:Sp)(Rf:Sp):TS :=
 aq (aU (oQ) U2)
 (aq (ee (bU K<|aM Qy<|aB V0) U3 (aq (aU (aM Rf<|eP V0 V1 V3) U4)
 (cV (a_<|aI DC (dL (dO K)<|aB V4)<|tC<|.int 0) (Fq K V2 V3 V4)<|bC)))
 (bo V2))
def Gv:List Ws:=["M","face","steps","sign","behind"]
def p7(K:Za):TS :=
 aq (cV (tB<|kU K V1<|ik K V0 "numbers") (aq (cV (a_<|aI IL (dL (dO K)<|aB<|ik K V0 "faces")<|tC<|.int 400) (oO)<|bC)
 (aq (kz (ik K V0 "numbers") V1<|dL (dO K)<|aB<|ik K V0 "faces")
 (aq (cY<|wb K "list" d4 (ik K V0 "faces")<|aB V1)
 (cY<|wb K "list" d4 (ik K V0 "first_stories")<|aB V2))))<|bC)
 (bo<|oS K (ik K V0 "numbers") V1)
def qi:List Ws:=["self","face","story"]
def lY(K:Za)(RY:Sp)(w4:Wk)(r4:Sp):TS :=
 aq (aU (oQ) U2)
 (aq (ee (Hx K<|aM RY<|aK (ik K V0 "machine")<|aI (dE K) (ik K V0 "faces") V1) (gR K 2<|aY U3<|aY U4<|gf)<|Fq K V2 V3<|cF w4 "number_at" r4 [] E0 V0<|aK V4<|aI jU (aI (dE K) (ik K V0 "first_stories") V1)<|bw<|aB V3)
 (bo V2))
def me:List Ws:=["self","number","steps","sign","face"]
def rj(K:Za)(w4:Wk)(J':Sp)(r4:Sp)(fF:Sp):TS :=
 aq (tj K V0 V1 "machine")
 (aq (tj K V0 (bw<|aW) "faces")
 (aq (tj K V0 (bw<|aW) "first_stories")
 (aq (tj K V0 (oQ) "numbers")
 (aq (tj K V0 (bw<|aW) "steps")
 (aq (cY<|cF w4 "number_at" r4 [] E0 V0<|aK (aM fF<|aB V1)<|bw<|aW)
 (xo (a_<|aI FE (dL (dO K)<|aB<|ik K V0 "steps")<|dL (dO K)<|aB<|ik K V0 "faces")<|cY<|wb K "list" d4 (ik K V0 "steps")<|av (cF w4 "numbered_steps" J' [] E0 V0<|aB<|dL (dO K)<|aB<|ik K V0 "steps") aW))))))
def rZ:List Ws:=["self","M"]
def oK(K:Za):TS :=
 aq (aU (uM) U2)
 (aq (ee (Hy V1) (gR K 2<|aY U3<|aY U4<|gf)<|ee (Lg K<|aI (dE K) V0 V3) U5<|kz V2 V5<|aI fM (oR K V2 V5<|tC<|.int 0) V4)
 (bo V2))
def o_:List Ws:=["steps","counts","longer","number","count","goal"]
def Ff(K:Za)(PQ:Sp)(w4:Wk)(B2:Sp):TS :=
 aq (aU (ik K (z6 w4 B2 [] E0<|aB V0) "steps") U2)
 (aq (cV (a_<|aI FE V1<|tC<|.int 0) (bo<|tC<|.int 0)<|bC)
 (aq (aU (NK [(tC<|.int 0,tC<|.int 1)]) U3)
 (aq (ee (vA<|aB V1) U4<|aU (aM PQ<|aK V2 V3) U3)
 (bo<|NH V3))))
def GB:List Ws:=["M","n","steps","counts","turn"]
def Nw(hu:Wk)(H:Hp)(u:Wk)(sg:Zb):Prop:=H u=eH (.tup<|sg.map WB)∨(u=hu/\sg=bN)
theorem Nw.same(h:Nw a H u f)(S:ab H e):Nw a e u f:=h.imp (S _ _) id
theorem Ml{K:Za}(h:∀H,bE K H a e)(H:Hp):dg K H a e:=by
 obtain(h|⟨o,h⟩)|h:=h (λ_=>none)
 .cases h
 .cases h
 .exact .inr h
section
variable{K:Za}{hu:Wk}(hh:∀H,bE K H hu (bN.map WB))
include hh
theorem Nw.tup{H:Hp}{u:Wk}{a:Zb}(h:Nw hu H u a):dg K H u (a.map WB):=by
 obtain h|⟨rfl,rfl⟩:=h
 .exact .inl h
 .exact Ml hh H
theorem Nw.sq{H:Hp}{u:Wk}{a:Zb}(h:Nw hu H u a):bE K H u (a.map WB):=by
 obtain h|⟨rfl,rfl⟩:=h
 .exact bE.of h
 .exact hh H
end
inductive BQ(C hu:Wk)(vs:List V)(H:Hp)(Q:VK)(E:XK):Prop
 |mk (x:Wk) (J0 J2 J3:Zb) (ds:List am):vs=[.ref x]->bf C H x J0 J2 J3 ds->(∀(l:Wk) (us:Ze) (H':Hp),H' l=eH (.lst (us.map WC))->Paired (Nw hu H') us (cW J0 J2)->ab H H'->Q (.ref l) H')->BQ C hu vs H Q E
theorem Ob{K:Za}(h:BQ C g D H Q E):uz K C (kZ C) (kW C) g (bT Q) (start u2 D) H:=by
 let⟨x,l,m,G,I,rfl,M,k⟩:=h;have z1:=M.ok.B';have z2:=M.ok.A2;let⟨n,fs,Y,o2,lv,p,q,a1,a2,_⟩:=xC M;apply⟨_,fj,x,n,fs,fj,q,a1,x,l,m,G,I,fj,M,λJ s=>⟨J,fj,⟨_,az.of aa⟩,λla t=>?_⟩⟩;have L:ab H (upd H J<|.lst<|l.map WB):=ab.new s;refine nz (kd:="ask") (ws:=l) aa ⋯ t λu N h1 a O=>?_;have T:=M.same<|L.trans O;let⟨n,fs,Y,o2,lv,p,q,a1,a2,_⟩:=xC T;apply⟨_,fj,x,n,fs,fj,q,a2,x,l,m,G,I,fj,T,λU v=>⟨U,fj,⟨_,az.of aa⟩,λls w=>?_⟩⟩;have S2:ab N (upd N U<|.lst<|m.map WB):=ab.new v;refine nz (kd:="say") (ws:=m) aa ⋯ w λy H2 h2 e S3=>?_;have f:=S2.trans S3;have z:=f _ _ h1;have i:=gy.kt (ab.kt f) a;apply⟨la,ls,_,_,fj,fj,z,h2,?_,λc1 A=>?_⟩
 .rw[ag,ag,Paired.length a,Paired.length e,ag,ag];exact cA (ao ⋯)
 apply⟨(by show 1<=ak;decide),λhl j=>?_⟩;apply⟨c1,hl,_,_,fj,fj,kp aa j,aa,?_,λr hr=>?_⟩
 .rw[aA,ag,ag,Paired.length a,Paired.length e,ag,ag];exact cA (ao (by show _+1<=1000;nofun))
 have B:=((ab.new (o:=.lst<|u.map WC++y.map WC) A).trans<|ab.new (o:=.lst [.ref g]) j).trans<|ab.new (o:=.lst<|u.map WC++y.map WC++[.ref g]) hr;refine k r (u++y++[g]) _ ?_ ?_<|((L.trans O).trans f).trans B
 .rw[aa,au,au];rfl
 .exact Paired.app (Paired.app (Paired.i3 (gy.kt (ab.kt B) i) λ_ _ r=>.inl r)<|Paired.i3 (gy.kt (ab.kt B) e) λ_ _ r=>.inl r)<|.cons (.inr ⟨fj,fj⟩) .nil
theorem o6(m:aE i j n o):(cW i j).Nodup:=by
 unfold cW;have p:∀a b:Ws,bQ a=bQ b->a=b:=λa b h=>by unfold bQ at h;injection h with _ h;injection h
 have q:∀a b:Ws,bZ a=bZ b->a=b:=λa b h=>by unfold bZ at h;injection h with _ h;injection h
 have k:∀{f:Ws->List Ws}{l:Zb},(∀a b,f a=f b->a=b)->l.Nodup->(l.map f).Nodup:=by
  intro f l hf r;rw[qF,jD];exact(qF.1 r).imp λh e=>h<|hf _ _ e
 rw[cQ,cQ];apply⟨⟨k p m.To.1,k q m.Th.1,?_⟩,by simp,?_⟩
 .intro x hx y g e;let⟨a,_,rfl⟩:=ar.1 hx;let⟨b,_,rfl⟩:=ar.1 g;unfold bQ bZ at e;injection e with e _;exact absurd e Wt
 .intro x hx y g e;rw[bq.1 g]at e;obtain hx|hx:=bt.1 hx
  .obtain⟨a,_,rfl⟩:=ar.1 hx;unfold bQ bN at e;injection e with _ e;cases e
  .obtain⟨a,_,rfl⟩:=ar.1 hx;unfold bZ bN at e;injection e with _ e;cases e
abbrev Gq(H:Hp)(kvs:List<|TK×V)(L:List<|Sg×List Ws):Prop:=Paired (λ(kv:TK×V) (p:Sg×List Ws)=>kv.1=j9 p.1/\∃u,kv.2=.ref u/\H u=eH (.tup<|p.2.map WB)) kvs L
theorem Bx{κ:Type}[DecidableEq κ]{a:List (κ×V)}{k:κ}(h:∀e∈a,e.1≠k):cy a k=none:=by
 unfold cy;rw[List.find?_eq_none.2 λe f=>by simpa using h e f]
 rfl
theorem fG(e:Zb):(j9 e).depth<=8:=by
 have:∀l:List Ws,TK.gg (l.map tf)=0:=by
  intro l
  induction l with
  |nil=>rfl
  |cons a l f=>show max (TK.depth<|tf a) (TK.gg _)=0;rw[f];rfl
 show TK.gg (e.map tf)+1<=8;rw[this];decide
def Tx(J3:Zb)(ds:List am)(J7:Zb)(L:List<|List Ws):List (Sg×List Ws):=(L.map λsg=>(sg,qo J3 ds J7 sg)).filter λp=>decide (p.2≠[])
theorem Dv(a:Zb)(e:List am)(f:Zb)(L:List<|List Ws)(g:Zb):Tx a e f (L++[g])=Tx a e f L++if qo a e f g=[]then[]else[(g,qo a e f g)]:=by
 unfold Tx;rw[au,gJ];congr 1;by_cases c:qo a e f g=[]
 .rw[if_pos c];simp[c]
 .rw[if_neg c];simp[c]
theorem Mv(h:p∈Tx a e f L):p.1∈L:=by
 let⟨i,g,rfl⟩:=ar.1 (bW.1 h).1;exact g
theorem G6:(Tx J3 ds J7 L).length<=L.length:=by
 unfold Tx;exact bH (b_ _ _) (by rw[ag];exact aF _)
theorem Gq.kt(k:h_ H H')(h:Gq H a L):Gq H' a L:=Paired.i3 h λ_ _ ⟨e,u,f,r⟩=>⟨e,u,f,k _ _ r⟩
theorem Gq.no(h:Gq H f L)(n:∀p∈L,p.1≠g):cy f (j9 g)=none:=by
 refine Bx ?_
 induction h with
 |nil=>intro i hk;exact nomatch hk
 |@cons a b l bs r t j =>
  intro i hk;obtain rfl|hk:=cq.1 hk
  .rw[r.1];exact λe=>n b cT<|k_ e
  .exact j (λp k=>n p<|eN _ k) i hk
theorem tJ{α:Type}{L:List α}(f:L.Nodup){i:Nat}{x:α}(e:L[i]?=eH x):¬x∈L.take i:=by
 intro h;let⟨j,g,a⟩:=AN h;rw[aS]at g;have hi:i<L.length:=by obtain z|z:=qD i L.length;exact z;rw[ig z]at e;cases e
 rw[List.getElem_take]at a;rw[bj hi]at e;injection e with e;exact qC.1 (qF.1 f) j i ⋯ hi ⋯<|a.trans e.symm
theorem NR(h:H d=eH (.dT a)):h_ H (upd H d o):=λb f e=>by rw[ah (λz=>by rw[z,h]at e;cases e)];exact e
theorem NV{b:Bool}{P X Y:Prop}(h:b=true↔P)(a:P->X)(e:¬P->Y):if b=true then X else Y:=by
 cases b with
 |true=>exact a<|h.1 rfl
 |false=>exact e λz=>by cases h.2 z
inductive nc(C:Wk)(vs:List V)(H:Hp)(Q:VK)(E:XK):Prop
 |mk (x t:Wk) (J7 J0 J2 J3:Zb) (ds:List am):vs=[.ref x,.ref t]->bf C H x J0 J2 J3 ds->H t=eH (.tup (J7.map WB))->((∀r∈J7,r∈J3))->J7.length<=1000->(∀(d:Wk) (kvs:List (TK×V)) (H':Hp),H' d=eH (.dT kvs)->Gq H' kvs (q7 J0 J2 J3 ds J7)->H d=none->ab H H'->Q (.ref d) H')->nc C vs H Q E
theorem Fu{K:Za}(hh:∀H,bE K H U<|bN.map WB)(h:nc C vs H Q E):E_ K (BQ C U) (wj K C) (bT Q) (start Gv vs) H:=by
 let⟨x,t,N,w,A,J3,ds,rfl,M,ht,B,hz,k⟩:=h;have z1:=M.ok.B';have z2:=M.ok.A2;have zl:(cW w A).length<=9:=by unfold cW;rw[aA,aA,ag,ag];show _+1<=9;nofun
 have nd:=o6 M.ok;refine λd Y=>?_;have S0:ab H (upd H d<|.dT []):=ab.new Y;apply⟨_,fj,x,w,A,J3,ds,fj,M.same S0,λl us H1 hl hP O=>⟨l,fj,⟨_,az.of hl⟩,?_⟩⟩
 let al:Nat->L2.St->Hp->Prop:=λi σ D=>L_ λ(g:List<|TK×V) (x3 x4:Option V)=>Ma (σ=[eH<|.ref x,eH<|.ref t,eH<|.ref d,x3,x4]) (D d=eH (.dT g)) (ab H D) ((∀b o,H1 b=eH o->b≠d->D b=eH o))<|Gq D g<|Tx J3 ds N<|(cW w A).take i
 refine cb (xs:=us.map WC) al
  ⟨[],_,_,fj,O _ _ aa,S0.trans O,λ_ _ e _=>e,.nil⟩ (λi σ D _ ⟨_,_,_,_,_,_,S,_⟩=>az.of (S _ _ hl λe=>by subst e;have:=O _ _<|aa (H:=H) (a:=l) (o:=.dT []);rw[hl]at this;cases this)) ?_ ?_
 .rintro i y σ H2 hi ⟨g,x3,x4,rfl,h2,s,G,st⟩;let⟨u,an,rfl⟩:=cJ hi;let⟨m,q,ap⟩:=Paired.getL hP an;have j:Nw U H2 u m:=ap.imp (λe=>G _ _ e λz=>by subst z;have:=O _ _<|aa (H:=H) (a:=u) (o:=.dT []);rw[e]at this;cases this) id;apply⟨_,fj,_,fj,_,fj,x,t,u,N,m,w,A,J3,ds,fj,M.same s,s _ _ ht,j.sq hh,j.symm.imp (λe=>e.2) id,B,hz,λf H3 hf v=>?_⟩;have h3:=v _ _ h2;apply⟨_,fj,.inl ⟨f,_,fj,.inr<|bE.of hf,_,_,fj,fj,?_⟩⟩;apply⟨_,fj,?_⟩;have I:=j.same v;have J:∀b o,H1 b=eH o->b≠d->H3 b=eH o:=λb o e n=>v _ _<|G b o e n;have r:=st.kt<|ab.kt v;refine NV (P:=qo J3 ds N m≠[]) ?_ (λc=>?_)<|λc=>?_
  .rw[ag];constructor
   .intro h z;rw[z]at h;exact absurd h Wt
   .intro h;exact hH (by have:=List.length_pos_iff.mpr h;nofun)
  rotate_left
  .have c:=Classical.not_not.1 c;apply⟨g,_,_,fj,h3,s.trans v,J,?_⟩;rw[take_snoc q,Dv,if_pos c,dj];exact r
  .have no:cy g (j9 m)=none:=r.no λp hp e=>by
    have T:=Mv hp;rw[e]at T;exact tJ nd q T
   have ll:g.length<ak:=by
    rw[Paired.length st];refine ao ?_;have T:=G6 (J3:=J3) (ds:=ds) (J7:=N) (L:=(cW w A).take i);rw[aS]at T;nofun
   apply⟨_,fj,_,fj,_,fj,d,u,g,j9 m,fj,fj,h3,xg<|I.tup hh,fG m,ll,_,_,_,fj,aa,?_,?_,?_⟩
   .intro b o e;rw[ah<|ae e Y];exact v _ _<|s _ _ e
   .intro b o e n;rw[ah n];exact J b o e n
   .rw[jx _ no,take_snoc q,Dv,if_neg c];have kt:h_ H3 (upd H3 d<|.dT<|g++[(j9 m,.ref f)]):=NR h3;exact eD (r.kt kt) ⟨fj,f,fj,kt _ _ hf⟩
 .rintro σ H2 ⟨g,x3,x4,rfl,h2,s,_,st⟩;rw[ag,Paired.length hP,aX]at st;exact⟨_,fj,k d g H2 h2 st Y s⟩
def tG:Nat->List (List Ws)->List (TK×V)
 |_,[]=>[]
 |n,f::r=>(j9 f,.int (n:Nat))::tG (n+1) r
theorem Ak(f:Zb):∀(fs:List<|List Ws) (n:Nat),tG n (fs++[f])=tG n fs++[(j9 f,.int<|(n+fs.length:Nat))]
 |[],n=>rfl
 |x::r,n=>by
  show _::tG (n+1) (r++[f])=_::(tG (n+1) r++_);rw[Ak f r<|n+1,eT,show n+1+r.length=n+(r.length+1) by nofun]
theorem DO:∀(fs:List<|List Ws) (n:Nat),(tG n fs).length=fs.length
 |[],n=>rfl
 |x::r,n=>by show _+1=_+1;rw[DO r<|n+1]
theorem o0(f:Zb):∀(fs:List<|List Ws) (n:Nat),cy (tG n fs) (j9 f)=if f∈fs then eH (.int<|(n+fs.idxOf f:Nat))else none
 |[],n=>rfl
 |x::r,n=>by
  by_cases c:x=f
  .subst c;rw[if_pos cT];show cy ((j9 x,_)::_) _=_;rw[c8 rfl];rw[List.idxOf_cons_self];rfl
  .show cy ((j9 x,_)::_) _=_;rw[cU<|λe=>c<|k_ e,o0 f r<|n+1];by_cases d:f∈r
   .rw[if_pos d,if_pos<|eN _ d];have e:(x::r).idxOf f=r.idxOf f+1:=by rw[List.idxOf_cons,show(x==f)=false from beq_false_of_ne c];rfl
    rw[e,show n+1+r.idxOf f=n+(r.idxOf f+1) by nofun]
   .rw[if_neg d,if_neg (by simp[dA c,d])]
abbrev j3(K:Za)(H:Hp)(w:Wk)(s:List Sg):Prop:=∃gs:List Wk,H w=eH (.lst<|gs.map WC)/\Paired (λg (sg:Sg)=>dg K H g<|sg.map WB) gs s
structure FC(K:Za)(C:Wk):Prop where
 cls:HX K C
 a1:fk K C "machine"
 a2:fk K C "faces"
 a3:fk K C "first_stories"
 a4:fk K C "numbers"
 a5:fk K C "steps"
def Pk(C:Wk)(H:Hp)(x M fa sa na ta:Wk):Prop:=∃(dx:Wk) (fs:List<|Ws×V),H x=eH (.ins C dx fs)/\lk "machine" fs=eH (.ref M)/\lk "faces" fs=eH (.ref fa)/\lk "first_stories" fs=eH (.ref sa)/\lk "numbers" fs=eH (.ref na)/\lk "steps" fs=eH (.ref ta)/\lk "number_at" fs=none/\lk "numbered_steps" fs=none
structure mf(K:Za)(C:Wk)(H:Hp)(x M fa sa na ta:Wk)(us ws:Ze)(m:ie):Prop where
 ob:Pk C H x M fa sa na ta
 Ta:H fa=eH (.lst (us.map WC))
 faces:Paired (λu (f:Zb)=>H u=eH (.tup (f.map WB))) us m.fs
 Tw:H sa=eH (.lst (ws.map WC))
 Qa:Paired (λw s=>(w≠fa/\w≠sa/\w≠ta)/\j3 K H w s) ws m.ss
 S_:H na=eH (.dT (tG 0 m.fs))
 ne:fa≠sa/\fa≠ta/\sa≠ta
theorem dg.kt{K:Za}(k:h_ H e)(h:dg K H a f):dg K e a f:=h.keeps k
theorem j3.kt{K:Za}(k:h_ H a)(e:∀o,H w=eH o->a w=eH o)(h:j3 K H w s):j3 K a w s:=by
 let⟨f,g,i⟩:=h;exact⟨f,e _ g,Paired.i3 i λ_ _ r=>dg.kt k r⟩
def OM(fa sa na:Wk)(H H':Hp):Prop:=∀b o,H b=eH o->b≠fa->b≠sa->b≠na->H' b=eH o
theorem OM.refl(a f g:Wk)(H:Hp):OM a f g H H:=λ_ _ e _ _ _=>e
theorem mf.same{K:Za}(h:mf K C H x M fa a f i j k m)(S:ab H l):mf K C l x M fa a f i j k m:=by
 let⟨⟨n,fs,g,r⟩,p,q,s,t,u,v⟩:=h;exact⟨⟨n,fs,S _ _ g,r⟩,S _ _ p,Paired.i3 q λ_ _ r=>S _ _ r,S _ _ s,Paired.i3 t λ_ _ r=>⟨r.1,r.2.kt (ab.kt S) λo e=>S _ _ e⟩,S _ _ u,v⟩
theorem mf.move{K:Za}(h:mf K C H x M fa p e q t u m)(a:H d=eH (.dT f))(n:d≠e):mf K C (upd H d o) x M fa p e q t u m:=by
 have k:h_ H (upd H d o):=NR a;let⟨⟨v,fs,g,r⟩,i,y,j,A,B,D⟩:=h;apply⟨⟨v,fs,by rw[ah (λz=>by rw[z,a]at g;cases g)];exact g,r⟩,by rw[ah (λz=>by rw[z,a]at i;cases i)];exact i,Paired.i3 y λ_ _ r=>k _ _ r,by rw[ah (λz=>by rw[z,a]at j;cases j)];exact j,Paired.i3 A λw s r=>⟨r.1,?_⟩,by rw[ah n.symm];exact B,D⟩;let⟨E,l,G⟩:=r.2;exact⟨E,by rw[ah (λz=>by rw[z,a]at l;cases l)];exact l,Paired.i3 G λ_ _ r=>dg.kt k r⟩
inductive oU(K:Za)(C:Wk)(vs:List V)(H:Hp)(Q:VK)(E:XK):Prop
 |mk (x M fa sa na ta u st:Wk) (us ws:Ze) (m:ie) (J7:Zb) (story:List Sg):vs=[.ref x,.ref u,.ref st]->mf K C H x M fa sa na ta us ws m->H u=eH (.tup (J7.map WB))->j3 K H st story->((st≠fa/\st≠sa/\st≠ta))->m.fs.length<400->m.ss.length<400->(∀(UO UN:Ze) (H':Hp),mf K C H' x M fa sa na ta UO UN (m.add J7 story)->OM fa sa na H H'->Q (.int (((m.add J7 story).fs.idxOf J7:Nat))) H')->oU K C vs H Q E
theorem Kv{K:Za}(c:FC K C)(h:oU K C vs H Q E):p7 K (bT Q) (start qi vs) H:=by
 let⟨x,M,fa,q,i,ta,u,st,I,B,m,a,f,rfl,F,hu,ap,ns,z1,z2,k⟩:=h;let⟨l,fs,g,l1,l2,l3,J,l5,l6,l7⟩:=F.ob;have tk:mN K H (j9 a) (.ref u):=fX.isIn 8 (fG a)<|SignAt.tk hu;have g1:qj K H i (.ref u) (cy (tG 0 m.fs)<|j9 a):=.inr ⟨_,_,_,.inl F.S_,fj,tk,fG a,fj⟩;apply⟨_,fj,_,fj,x,C,l,fs,.ref i,fj,g,c.cls,c.a4,J,i,_,fj,g1,_,fj,?_⟩;rw[o0];refine NV (P:=¬a∈m.fs) (by by_cases c:a∈m.fs<;>simp[c]) (λy=>?_)<|λy=>?_;rotate_left
 .have A:=Classical.not_not.1 y;have e:=ie.Qv (s:=f) A;apply⟨_,fj,x,C,l,fs,.ref i,fj,g,c.cls,c.a4,J,_,fj,i,.int<|(m.fs.idxOf a:Nat),fj,?_,?_⟩
  .rw[o0,if_pos A,wG]at g1;exact g1
  .have:=k I B H (by rw[e];exact F)<|.refl _ _ _ _;rw[e]at this;exact this
 have e:=ie.C' (s:=f) y;have zl:(I.map WC).length=m.fs.length:=by rw[ag,Paired.length F.faces]
 have zs:(B.map WC).length=m.ss.length:=by rw[ag,Paired.length F.Qa]
 apply⟨_,fj,x,C,l,fs,.ref fa,fj,g,c.cls,c.a2,l2,.inl ⟨fa,_,fj,.inl<|az.of F.Ta,fj,_,fj,?_⟩⟩;refine NV (P:=False) (by rw[zl];simp;nofun) (λz=>z.elim) λ_=>?_;have as:fX H (j9 a) (.ref u):=SignAt.tk hu;apply⟨_,fj,x,C,l,fs,.ref fa,fj,g,c.cls,c.a2,l2,.inl ⟨fa,_,fj,.inl<|az.of F.Ta,_,fj,x,C,l,fs,.ref i,fj,g,c.cls,c.a4,J,_,fj,i,_,fj,.inr ⟨_,_,u,F.S_,fj,as,fG a,?_,fj⟩,?_⟩⟩
 .rw[DO];exact ao ⋯
 rw[jx _ (by rw[o0,if_neg y]),zl];have e1:tG 0 m.fs++[(j9 a,WD (m.fs.length:Nat))]=tG 0 (m.fs++[a]):=by rw[Ak,wG]
 rw[e1];have L:h_ H (upd H i<|.dT<|tG 0<|m.fs++[a]):=NR F.S_;generalize t:upd H i (.dT<|tG 0<|m.fs++[a])=N at L ⊢;have nx:x≠i:=λz=>by rw[z,F.S_]at g;cases g
 have O:x≠fa:=λz=>by rw[z,F.Ta]at g;cases g
 have aC:x≠q:=λz=>by rw[z,F.Tw]at g;cases g
 have T:fa≠i:=λz=>by have:=F.Ta;rw[z,F.S_]at this;cases this
 have U:q≠i:=λz=>by have:=F.Tw;rw[z,F.S_]at this;cases this
 have D:N fa=eH (.lst<|I.map WC):=by rw[<-t,ah T];exact F.Ta
 have a0:N q=eH (.lst<|B.map WC):=by rw[<-t,ah U];exact F.Tw
 have Y:N x=eH (.ins C l fs):=by rw[<-t,ah nx];exact g
 apply⟨_,fj,x,C,l,fs,.ref fa,fj,Y,c.cls,c.a2,l2,.inl ⟨fj,_,az.of D⟩,_,fj,fa,_,.ref u,fj,fj,D,?_,?_⟩
 .rw[zl];exact ao ⋯
 generalize j:upd N fa (.lst<|I.map WC++[.ref u])=H2;have k2:h_ N H2:=by rw[<-j];exact eF D
 have G:H2 q=eH (.lst<|B.map WC):=by rw[<-j,ah F.ne.1.symm];exact a0
 have g2:H2 x=eH (.ins C l fs):=by rw[<-j,ah O];exact Y
 apply⟨_,fj,x,C,l,fs,.ref q,fj,g2,c.cls,c.a3,l3,.inl ⟨fj,_,az.of G⟩,_,fj,q,_,.ref st,fj,fj,G,?_,?_⟩
 .rw[zs];exact ao ⋯
 generalize v:upd H2 q (.lst<|B.map WC++[.ref st])=p;have k3:h_ H2 p:=by rw[<-v];exact eF G
 have kt:h_ H p:=(L.trans k2).trans k3;have ex:OM fa q i H p:=λb o e n1 n2 n3=>by rw[<-v,ah n2,<-j,ah n1,<-t,ah n3];exact e
 have g3:p x=eH (.ins C l fs):=ex _ _ g O aC nx;have al:p i=eH (.dT<|tG 0<|m.fs++[a]):=by rw[<-v,ah U.symm,<-j,ah T.symm,<-t,aa]
 have a5:p fa=eH (.lst<|(I++[u]).map WC):=by rw[<-v,ah F.ne.1,<-j,aa,au];rfl
 have a6:p q=eH (.lst<|(B++[st]).map WC):=by rw[<-v,aa,au];rfl
 have an:∀{w:Wk}{s:List Sg},(w≠fa/\w≠q/\w≠ta)->j3 K H w s->j3 K p w s:=λn r=>by
  let⟨gs,q1,q2⟩:=r;exact⟨gs,ex _ _ q1 n.1 n.2.1 (λz=>by rw[z,F.S_]at q1;cases q1),Paired.i3 q2 λ_ _ r=>dg.kt kt r⟩
 have F3:mf K C p x M fa q i ta (I++[u]) (B++[st]) (m.add a f):=by
  rw[e];exact⟨⟨l,fs,g3,l1,l2,l3,J,l5,l6,l7⟩,a5,eD (Paired.i3 F.faces λ_ _ r=>kt _ _ r)<|kt _ _ hu,a6,eD (Paired.i3 F.Qa λ_ _ r=>⟨r.1,an r.1 r.2⟩) ⟨ns,an ns ap⟩,al,F.ne⟩
 have a7:mN K p (j9 a) (.ref u):=fX.isIn 8 (fG a)<|SignAt.tk<|kt _ _ hu;have A:a∈m.fs++[a]:=by simp
 have g5:qj K p i (.ref u) (eH<|.int ((m.add a f).fs.idxOf a:Nat)):=by
  refine .inr ⟨_,j9 a,u,.inl al,fj,a7,fG a,?_⟩;rw[o0,if_pos A,wG,e]
 exact⟨_,fj,x,C,l,fs,.ref i,fj,g3,c.cls,c.a4,J,_,fj,i,_,fj,g5,k _ _ p F3 ex⟩
theorem As{d:Wk}{o:Obj}{u:HO}{n:Nat}{f:Nat->Hp->V->V->Prop}{g:TG}{k:TS}{D:mQ}{σ:L2.St}{H:Hp}(Pv:Nat->L2.St->Hp->Prop)(r:Pv 0 σ H)(s:∀i σ H,i<=n->Pv i σ H->H d=eH (.oI o u))
  (v:∀i σ H p a b,i<n->Pv i σ H->H p=none->f i H a b->g (.ref p) σ (upd H p<|.tup [a,b]) fun σ2 j=>k {D with nx:=Pv<|i+1,ct:=Pv<|i+1,bk:=D.nx} σ2 j) (w:∀σ H,Pv n σ H->D.nx σ H) :
  ∃W:Nat->Nat->L2.St->Hp->Prop,(∃m,W 0 m σ H)/\∀i m σ H,W i m σ H ->
   ((ND d o u n f).stop i H/\D.nx σ H)∨((ND d o u n f).go i H/\∃N:L2.St->Hp->Prop,(∀σ' h,N σ' h->∃l,l<m/\W (i+1) l σ' h)/\∀x h,(ND d o u n f).Se i H x h->g x σ h fun σ2 j=>k {D with nx:=N,ct:=N,bk:=D.nx} σ2 j):=by
 apply⟨λi m σ H=>m=n-i/\i<=n/\Pv i σ H,⟨n,by simp,cH _,r⟩,?_⟩;rintro i m σ H ⟨rfl,hi,p⟩;have q:=s i σ H hi p;by_cases lt:i<n
 .refine .inr ⟨⟨q,lt⟩,Pv<|i+1,fun σ' h z=>⟨n-(i+1),by nofun,fj,lt,z⟩,λx h y=>?_⟩;let⟨t,a,b,A,rfl,B,rfl⟩:=y;exact v i σ H t a b lt p A B
 .have e:i=n:=by nofun
  subst e;exact .inl ⟨⟨q,aF _⟩,w σ H p⟩
theorem Ln{d:Wk}{o:Obj}{u:HO}{n:Nat}{f:Nat->Hp->V->V->Prop}{g:TG}{k:TS}{D:mQ}{σ:L2.St}{H:Hp}(Pv:Nat->L2.St->Hp->Prop)(r:Pv 0 σ H)(s:∀i σ H,i<=n->Pv i σ H->H d=eH (.oI o u))
  (t:∀i σ H a b,i<n->Pv i σ H->f i H a b->g b σ H fun σ2 j=>k {D with nx:=Pv<|i+1,ct:=Pv<|i+1,bk:=D.nx} σ2 j) (v:∀σ H,Pv n σ H->D.nx σ H) :
  ∃W:Nat->Nat->L2.St->Hp->Prop,(∃m,W 0 m σ H)/\∀i m σ H,W i m σ H ->
   ((N5 d o u n f).stop i H/\D.nx σ H)∨((N5 d o u n f).go i H/\∃N:L2.St->Hp->Prop,(∀σ' h,N σ' h->∃l,l<m/\W (i+1) l σ' h)/\∀x h,(N5 d o u n f).Se i H x h->g x σ h fun σ2 j=>k {D with nx:=N,ct:=N,bk:=D.nx} σ2 j):=by
 apply⟨λi m σ H=>m=n-i/\i<=n/\Pv i σ H,⟨n,by simp,cH _,r⟩,?_⟩;rintro i m σ H ⟨rfl,hi,p⟩;have q:=s i σ H hi p;by_cases lt:i<n
 .refine .inr ⟨⟨q,lt⟩,Pv<|i+1,fun σ' h w=>⟨n-(i+1),by nofun,fj,lt,w⟩,λx h y=>?_⟩;let⟨rfl,a,z⟩:=y;exact t i σ _ a x lt p z
 .have e:i=n:=by nofun
  subst e;exact .inl ⟨⟨q,aF _⟩,v σ H p⟩
def stK(l:List<|Sg×Nat):List (TK×V):=l.map λa=>(j9 a.1,.int (a.2:Nat))
def AD(L:Ze)(H H':Hp):Prop:=∀b o,H b=eH o->b∉L->H' b=eH o
theorem AD.refl(L:Ze)(H:Hp):AD L H H:=λ_ _ e _=>e
theorem AD.trans(a:AD L H f)(b:AD L f g):AD L H g:=λc o e n=>b c o (a c o e n) n
theorem ab.Vi(S:ab H a):AD L H a:=λb o e _=>S b o e
theorem OM.Vi(a:OM f g h H i)(s:f∈L/\g∈L/\h∈L):AD L H i:=λb o e n=>a b o e (λz=>n<|z▸s.1) (λz=>n<|z▸s.2.1)<|λz=>n<|z▸s.2.2
theorem AD.upd{L:Ze}{H:Hp}{d:Wk}{o:HO}(h:d∈L):AD L H (upd H d o):=λb u e n=>by rw[ah (λz:b=d=>n (by rw[z];exact h))];exact e
theorem zZ{K:Za}:∀{e:Zb}{a:List V},PN K H (e.map tf) a->a=e.map WB
 |[],a,h=>by rw[ur]at h;unfold PN at h;exact h
 |s::e,a,h=>by
  rw[bL]at h;unfold PN at h;let⟨v,i,rfl,f,g⟩:=h;unfold tf mO at f;rw[f,zZ g]
  rfl
theorem xf{K:Za}(h:mO K H (j9 e) a):∃b,a=.ref b/\dg K H b (e.map WB):=by
 unfold j9 mO at h;let⟨b,i,rfl,f,g⟩:=h;rw[zZ g]at f;exact⟨b,fj,f⟩
theorem BP(m:aE g h a f):((q7 g h a f J7).map (·.1)).Nodup:=by
 have j:=o6 m;unfold q7;refine qA.sublist (List.Sublist.map _ List.filter_sublist) ?_;rw[eZ];have e:((λp:Sg×List Ws=>p.1) ∘ λi=>(i,qo a f J7 i))=id:=rfl;rw[e,List.map_id];exact j
theorem Ai(s:List Sg)(m:ie)(L:List<|Sg×List Ws):(fe s m L).2.map (·.1)=L.map (·.1):=by
 have e:∀n,n<=L.length->(fe s m<|L.take n).2.map (·.1)=(L.take n).map (·.1):=by
  intro n
  induction n with
  |zero=>intro _;rfl
  |succ n f =>
   intro h;have g:L[n]?=eH L[n]:=bj ⋯;rw[take_snoc g,iZ];show((fe s m<|L.take n).2++[(L[n].1,_)]).map (λa:Sg×Nat=>a.1)=_;rw[au,au,f ⋯]
   rfl
 have:=e L.length<|aF _;rw[aX]at this;exact this
theorem tZ.atS{m a:ie}(h:tZ m a){i:Nat}{f:List Sg}(e:m.ss[i]?=eH f):a.ss[i]?=eH f:=by
 let⟨_,⟨r,q⟩⟩:=h;rw[q,iK (by obtain z|z:=qD i m.ss.length;exact z;rw[ig z]at e;cases e),e]
theorem mf.Sf{K:Za}(h:mf K C H x M a f g j k l m)(e:OM a f g H i):h_ H i:=λb n q =>
 e b _ q (λz=>by rw[z,h.Ta]at q;cases q) (λz=>by rw[z,h.Tw]at q;cases q) (λz=>by rw[z,h.S_]at q;cases q)
abbrev wx(H0:Hp)(na:Wk)(H:Hp)(ts:Ze)(st:List<|List<|Sg×Nat):Prop:=Paired (λd l=>H0 d=none/\d≠na/\H d=eH (.dT<|stK l)) ts st
theorem mf.Uw{K:Za}(h:mf K C H x M fa j l a n o m)(e:H a=eH (.lst q)):mf K C (upd H a<|.lst p) x M fa j l a n o m:=by
 have k:h_ H (upd H a<|.lst p):=eF e;let⟨⟨t,fs,g,r⟩,u,v,y,A,f,i⟩:=h;apply⟨⟨t,fs,by rw[ah (λz=>by rw[z,e]at g;cases g)];exact g,r⟩,by rw[ah i.2.1];exact u,Paired.i3 v λ_ _ r=>k _ _ r,by rw[ah i.2.2];exact y,Paired.i3 A λw s r=>⟨r.1,?_⟩,by rw[ah (λz=>by rw[z,e]at f;cases f)];exact f,i⟩;let⟨B,D,E⟩:=r.2;exact⟨B,by rw[ah r.1.2.2];exact D,Paired.i3 E λ_ _ r=>dg.kt k r⟩
section
variable{α:Type}[DecidableEq α]
def qh(c:List<|α×Int)(k:α):Int:=((c.find? λp=>decide (p.1=k)).map (·.2)).getD 0
def kj(c:List<|α×Int)(k:α)(n:Int):List (α×Int):=if(c.any λp=>decide (p.1=k))=true then c.map (λp=>if p.1=k then(p.1,qh c k+n)else p)else c++[(k,qh c k+n)]
def OO(succ:α->List α)(c:List<|α×Int):List (α×Int):=c.foldl (λacc p=>(succ p.1).foldl (λacc g=>kj acc g p.2) acc) []
def qg(succ:α->List α)(a:α):Nat->List (α×Int)
 |0=>[(a,1)]
 |n+1=>OO succ<|qg succ a n
def cn{κ:Type}(e:α->κ)(c:List<|α×Int):List (κ×V):=c.map λp=>(e p.1,.int p.2)
theorem ww{c:List (α×Int)}:(c.any λp=>decide (p.1=k))=true↔k∈c.map (·.1):=by
 rw[List.any_eq_true,ar];exact⟨λ⟨p,h,e⟩=>⟨p,h,of_decide_eq_true e⟩,λ⟨p,h,e⟩=>⟨p,h,hH e⟩⟩
theorem N9{c:List (α×Int)}(h:k∈c.map (·.1)):(kj c k n).map (·.1)=c.map (·.1):=by
 unfold kj;rw[if_pos<|ww.2 h,eZ];refine wR λp _=>?_;show(if p.1=k then(p.1,qh c k+n)else p).1=p.1
 split<;>rfl
theorem By{c:List (α×Int)}(h:¬k∈c.map (·.1)):kj c k n=c++[(k,qh c k+n)]:=if_neg<|λz=>h<|ww.1 z
structure fZ(P:α->Prop)(c:List (α×Int)):Prop where
 nd:(c.map (·.1)).Nodup
 all:∀p∈c,P p.1
theorem fZ.up{P:α->Prop}{c:List (α×Int)}{k:α}{n:Int}(h:fZ P c)(m:P k):fZ P (kj c k n):=by
 have f:∀{l:List (α×Int)},(∀x∈l.map (·.1),P x)->∀p∈l,P p.1:=λq p j=>q _<|eC j;have g:∀x∈c.map (·.1),P x:=λx hx=>by let⟨p,j,rfl⟩:=ar.1 hx;exact h.all p j
 by_cases i:k∈c.map (·.1)
 .have e:=N9 (n:=n) i;exact⟨by rw[e];exact h.nd,f (by rw[e];exact g)⟩
 .rw[By i];apply⟨?_,f ?_⟩
  .rw[au,cQ];exact⟨h.nd,by simp,λa g b o e=>i (by rw[<-bq.1 (show b∈[k]from o),<-e];exact g)⟩
  .rw[au];intro x hx;obtain hx|hx:=bt.1 hx
   .exact g x hx
   .have:x=k:=by simpa using hx
    rw[this];exact m
theorem fZ.ups:∀{gs:List α}{c:List (α×Int)},fZ P c->(∀g∈gs,P g)->fZ P (gs.foldl (λa g=>kj a g n) c)
 |[],c,h,_=>h
 |g::gs,c,h,e=>fZ.ups (gs:=gs) (h.up<|e g cT) λx hx=>e x<|eN _ hx
theorem fZ.on{P:α->Prop}{succ:α->List α}(f:∀a,P a->∀g∈succ a,P g):∀{c e:List (α×Int)},(∀p∈c,P p.1)->fZ P e->fZ P (c.foldl (λe p=>(succ p.1).foldl (λe g=>kj e g p.2) e) e)
 |[],e,_,h=>h
 |p::c,e,i,h=>fZ.on f (c:=c) (λx hx=>i x<|eN _ hx)<|h.ups<|f _<|i p cT
theorem fZ.nil:fZ P ([]:List<|α×Int):=⟨qN,λp h=>nomatch h⟩
theorem fZ.it{P:α->Prop}{succ:α->List α}{a:α}(e:∀a,P a->∀g∈succ a,P g)(f:P a):∀n,fZ P (qg succ a n)
 |0=>⟨by show[a].Nodup;simp,λp h=>by rw[bq.1 h];exact f⟩
 |n+1=>fZ.on e (fZ.it e f n).all .nil
variable{κ:Type}[DecidableEq κ]
theorem El{e:α->κ}(f:∀a b,e a=e b->a=b)(k:α):∀c:List<|α×Int,cy (cn e c) (e k)=(c.find? λp=>decide (p.1=k)).map λp=>WD p.2
 |[]=>rfl
 |p::c=>by
  show cy ((e p.1,WD p.2)::cn e c) (e k)=_;by_cases h:p.1=k
  .rw[c8 (by show e p.1=e k;rw[h]),List.find?_cons_of_pos ‹h›];rfl
  .rw[cU<|λz=>h<|f _ _ z,List.find?_cons_of_neg ‹h›,El f k c]
theorem En{e:α->κ}(f:∀a b,e a=e b->a=b)(k:α)(c:List<|α×Int):(cy (cn e c)<|e k).getD (.int 0)=.int (qh c k):=by
 rw[El f];unfold qh;cases c.find? λp=>decide (p.1=k)<;>rfl
theorem Em{e:α->κ}(f:∀a b,e a=e b->a=b)(k:α)(n:Int)(c:List<|α×Int):dR (cn e c) (e k) (.int<|qh c k+n)=cn e (kj c k n):=by
 have g:((cn e c).any λi=>decide (i.1=e k))=c.any λp=>decide (p.1=k):=by
  unfold cn;rw[List.any_map];congr 1;funext p;show decide (e p.1=e k)=decide (p.1=k);exact decide_eq_decide.2 ⟨f _ _,λz=>by rw[z]⟩
 unfold dR kj;rw[g];split
 .unfold cn;rw[eZ,eZ];refine wR λp _=>?_;show(if e p.1=e k then(e p.1,WD<|qh c k+n)else(e p.1,WD p.2))=(e (if p.1=k then(p.1,qh c k+n)else p).1,WD (if p.1=k then(p.1,qh c k+n)else p).2)
  by_cases h:p.1=k
  .rw[if_pos (by rw[h]),if_pos h]
  .rw[if_neg<|λz=>h<|f _ _ z,if_neg h]
 .unfold cn;rw[au]
  rfl
end
theorem N7{α β:Type}[DecidableEq α][DecidableEq β]{f:α->β}{P:α->Prop}(hf:∀a b,P a->P b->f a=f b->a=b){c:List (α×Int)}(l:∀p∈c,P p.1){k:α}(m:P k)(n:Int):
  kj (c.map λp=>(f p.1,p.2)) (f k) n=(kj c k n).map λp=>(f p.1,p.2):=by
 have s:∀g:List<|α×Int,(∀p∈g,P p.1)->((g.map λp=>(f p.1,p.2)).find? λp=>decide (p.1=f k))=(g.find? λp=>decide (p.1=k)).map λp=>(f p.1,p.2):=by
  intro g
  induction g with
  |nil=>intro _;rfl
  |cons p g t =>
   intro h;rw[bL];by_cases z:p.1=k
   .rw[List.find?_cons_of_pos (by simp[z]),List.find?_cons_of_pos ‹z›];rfl
   .rw[List.find?_cons_of_neg ‹λq=>z<|hf _ _ (h p cT) m q›,List.find?_cons_of_neg ‹z›,t λx hx=>h x<|eN _ hx]
 have r:qh (c.map λp=>(f p.1,p.2)) (f k)=qh c k:=by
  unfold qh;rw[s c l];cases c.find? λp=>decide (p.1=k)<;>rfl
 by_cases i:k∈c.map (·.1)
 .have o:f k∈(c.map λp=>(f p.1,p.2)).map (·.1):=by
   let⟨p,j,e⟩:=ar.1 i;rw[eZ];exact ar.2 ⟨p,j,by show f p.1=f k;rw[e]⟩
  unfold kj;rw[if_pos<|ww.2 i,if_pos<|ww.2 o,r,eZ,eZ];refine wR λp j=>?_;show(if f p.1=f k then(f p.1,qh c k+n)else(f p.1,p.2))=(f (if p.1=k then(p.1,qh c k+n)else p).1,(if p.1=k then(p.1,qh c k+n)else p).2)
  by_cases h:p.1=k
  .rw[if_pos (by rw[h]),if_pos h]
  .rw[if_neg<|λz=>h<|hf _ _ (l p j) m z,if_neg h]
 .have o:¬f k∈(c.map λp=>(f p.1,p.2)).map (·.1):=by
   intro z;rw[eZ]at z;let⟨p,j,e⟩:=ar.1 z;exact i<|ar.2 ⟨p,j,hf _ _ (l p j) m e⟩
  rw[By i,By o,r,au]
  rfl
section
variable{α β:Type}[DecidableEq α][DecidableEq β]{f:α->β}{P:α->Prop}(hf:∀a b,P a->P b->f a=f b->a=b){sA:α->List α}{sB:β->List β}(hs:∀a,P a->(∀g∈sA a,P g)/\sB (f a)=(sA a).map f)
include hf
theorem GZ{n:Int}:∀{gs:List α}{c:List (α×Int)},(∀g∈gs,P g)->fZ P c->(gs.map f).foldl (λe g=>kj e g n) (c.map λp=>(f p.1,p.2))=(gs.foldl (λe g=>kj e g n) c).map λp=>(f p.1,p.2)
 |[],c,_,_=>rfl
 |g::gs,c,h,i=>by
  show(gs.map f).foldl _ (kj (c.map λp=>(f p.1,p.2)) (f g) n)=_;rw[N7 hf i.all<|h g cT,GZ (gs:=gs) (λx hx=>h x<|eN _ hx)<|i.up<|h g cT]
  rfl
include hs
theorem Hj:∀{c e:List (α×Int)},(∀p∈c,P p.1)->fZ P e->(c.map λp=>(f p.1,p.2)).foldl (λe p=>(sB p.1).foldl (λe g=>kj e g p.2) e) (e.map λp=>(f p.1,p.2))=(c.foldl (λe p=>(sA p.1).foldl (λe g=>kj e g p.2) e) e).map λp=>(f p.1,p.2)
 |[],e,_,_=>rfl
 |p::c,e,h,i=>by
  let⟨j,k⟩:=hs p.1<|h p cT;show(c.map λp=>(f p.1,p.2)).foldl _ ((sB<|f p.1).foldl (λe g=>kj e g p.2)<|e.map λp=>(f p.1,p.2))=_;rw[k,GZ hf j i,Hj (c:=c) (λx hx=>h x<|eN _ hx)<|i.ups j]
  rfl
theorem FV{a:α}(e:P a):∀n,qg sB (f a) n=(qg sA a n).map λp=>(f p.1,p.2)
 |0=>rfl
 |n+1=>by
  show OO sB (qg sB (f a) n)=(OO sA<|qg sA a n).map _;rw[FV e n];exact Hj hf hs (fZ.it (λa h=>(hs a h).1) e n).all .nil
end
def ga(n:Nat):fK:=.inl (n:Int)
theorem DS(a b:Nat)(h:ga a=ga b):a=b:=by
 unfold ga at h;injection h with h;nofun
abbrev LY(H0 H:Hp)(ts:Ze)(st:List<|List<|Sg×Nat):Prop:=Paired (λd l=>H0 d=none/\Rd H d (.dT<|stK l)) ts st
theorem Rd.same(S:ab H H')(h:Rd H a u):Rd H' a u:=by
 obtain h|⟨o,h⟩:=h
 .exact .inl<|S _ _ h
 .exact .inr ⟨o,S _ _ h⟩
theorem Rd.Uo(f:H d=eH (.dK e))(h:Rd H a<|.dT k):Rd (upd H d o) a (.dT k):=by
 obtain h|⟨q,h⟩:=h
 .exact .inl (by rw[ah (λz=>by rw[z,f]at h;cases h)];exact h)
 .exact .inr ⟨q,by rw[ah (λz=>by rw[z,f]at h;cases h)];exact h⟩
theorem Rd.oI{H:Hp}{a d:Wk}{k e:List (TK×V)}{o:Obj}(f:H d=eH (.dT e))(h:Rd H a<|.dT k):Rd (upd H d<|.oI o<|.dT e) a (.dT k):=by
 by_cases z:a=d
 .subst z;obtain h|⟨q,h⟩:=h
  .rw[f]at h;cases h;exact .inr ⟨o,aa⟩
  .rw[f]at h;cases h
 .obtain h|⟨q,h⟩:=h
  .exact .inl (by rw[ah z];exact h)
  .exact .inr ⟨q,by rw[ah z];exact h⟩
def eQ(st:List<|List<|Sg×Nat)(n:Nat):List Nat:=(st.getD n []).map (·.2)
inductive sR (vs:List V)(H:Hp)(Q:VK)(E:XK):Prop
 |mk (H0:Hp) (ta cd:Wk) (ts:Ze) (st:List (List (Sg×Nat))) (c:List (Nat×Int)):vs=[.ref ta,.ref cd]->H ta=eH (.lst (ts.map WC))->LY H0 H ts st->H cd=eH (.dK (cn ga c))->H0 cd=none->ab H0 H->ts.length<=256->fZ (·<ts.length) c->((∀n,n<ts.length->∀g∈eQ st n,g<ts.length))->(∀(ld:Wk) (H':Hp),H' ta=eH (.lst (ts.map WC))->LY H0 H' ts st->H' ld=eH (.dK (cn ga (OO (eQ st) c)))->H0 ld=none->ab H0 H'->Q (.ref ld) H')->sR  vs H Q E
theorem fZ.Qf(h:fZ (·<n) c):c.length<=n:=by
 have:=j6 h.nd (R:=oq n) λx hx=>by
  let⟨p,a,rfl⟩:=ar.1 hx;exact List.mem_range.2<|h.all p a
 rw[ag,Bb]at this;exact this
def Vt(J:It)(g:TG)(tb:TS)(D:mQ)(σ:L2.St)(H:Hp):Prop:=∃W:Nat->Nat->L2.St->Hp->Prop,(∃m,W 0 m σ H)/\∀i m σ H,W i m σ H ->
 (J.stop i H/\D.nx σ H)∨(J.go i H/\∃N:L2.St->Hp->Prop,(∀σ' H',N σ' H'->∃m',m'<m/\W (i+1) m' σ' H')/\∀x H',J.Se i H x H'->g x σ H' fun σ2 H2=>tb {D with nx:=N,ct:=N,bk:=D.nx} σ2 H2)
theorem Ah{K:Za}{u H:Hp}{x y ld d:Wk}{s:Ze}{st:List (List<|Sg×Nat)}{c f:List (Nat×Int)}{o o':Obj}{l:List (Sg×Nat)}{num:Nat}{cnt:Int}{t:Option V}{D:mQ}
  (T:H d=eH (.oI o'<|.dT<|stK l)) (C:H y=eH (.oI o<|.dK<|cn ga c)) (E:H x=eH (.lst<|s.map WC)) (G:H ld=eH (.dK<|cn ga f)) (I:LY u H s st) (S:ab u H) (J:u ld=none) (z:s.length<=256) (U:fZ (·<s.length) f) (Y:∀q∈l,q.2<s.length)
  (k:∀(t:Option V) (m:Hp),m y=eH (.oI o<|.dK<|cn ga c)->m x=eH (.lst<|s.map WC)->LY u m s st->m ld=eH (.dK<|cn ga<|(l.map (·.2)).foldl (λf g=>kj f g cnt) f)->ab u m->D.nx [eH<|.ref x,eH<|.ref y,eH<|.ref ld,eH<|.int (num:Nat),eH<|.int cnt,t] m) :
  Vt (N5 d o' (.dT<|stK l) (stK l).length<|Ek K<|stK l) U5 (kz V2 V5<|aI fM (oR K V2 V5<|tC<|.int 0) V4) D [eH<|.ref x,eH<|.ref y,eH<|.ref ld,eH<|.int (num:Nat),eH<|.int cnt,t] H:=by
 have L:(stK l).length=l.length:=by unfold stK;rw[ag]
 have v:∀i,fZ (·<s.length) (((l.take i).map (·.2)).foldl (λf g=>kj f g cnt) f):=λi=>U.ups λg hg=>by
  let⟨q,M,rfl⟩:=ar.1 hg;exact Y q<|gK M
 refine Ln (λi σ m=>∃t:Option V,σ=[eH<|.ref x,eH<|.ref y,eH<|.ref ld,eH<|.int (num:Nat),eH<|.int cnt,t]/\m d=eH (.oI o'<|.dT<|stK l)/\m y=eH (.oI o<|.dK<|cn ga c)/\m x=eH (.lst<|s.map WC)/\LY u m s st/\m ld=eH (.dK<|cn ga<|((l.take i).map (·.2)).foldl (λf g=>kj f g cnt) f)/\ab u m)
  ⟨_,fj,T,C,E,I,G,S⟩ ?_ ?_ ?_
 .rintro i σ m _ ⟨_,_,h,_⟩;exact h
 .rintro i σ N a b hi ⟨t,rfl,B,n,p,w,j,O⟩ ⟨al,Q,_⟩;unfold stK at Q;rw[bV]at Q;let⟨q,M,eq⟩:=mU.1 Q;cases eq;have e1:((l.take<|i+1).map (·.2)).foldl (λf g=>kj f g cnt) f=kj (((l.take i).map (·.2)).foldl (λf g=>kj f g cnt) f) q.2 cnt:=by
   rw[take_snoc M,au,mV];rfl
  have A:=v i;rw[e1];generalize((l.take i).map (·.2)).foldl (λf g=>kj f g cnt) f=acc' at j A;have g1:qj K N ld (.int (q.2:Nat)) (cy (cn ga acc')<|ga q.2):=.inl ⟨_,ga q.2,.inl j,fj,fj⟩;apply⟨_,fj,ld,fj,.inl ⟨_,.inl j⟩,_,fj,_,g1,?_⟩;rw[En DS];have fw:=A.Qf;apply⟨_,fj,_,_,fj,fj,_,fj,_,fj,ld,_,fj,.inl ⟨_,ga q.2,j,fj,?_,fj⟩,?_⟩
  .unfold cn;rw[ag];exact ao ⋯
  rw[Em DS];apply⟨_,fj,?_,?_,?_,Paired.i3 w λ_ _ r=>⟨r.1,Rd.Uo j r.2⟩,aa,λb q e=>by rw[ah<|ae e J];exact O _ _ e⟩
  .rw[ah (λz=>by rw[z,j]at B;cases B)];exact B
  .rw[ah (λz=>by rw[z,j]at n;cases n)];exact n
  .rw[ah (λz=>by rw[z,j]at p;cases p)];exact p
 .rintro σ N ⟨t,rfl,B,n,p,w,j,O⟩;rw[L,aX]at j;exact k t N n p w j O
theorem Kt{K:Za}(h:sR vs H Q E):oK K (bT Q) (start o_ vs) H:=by
 let⟨H0,ta,n,ts,st,c,rfl,A,T,B,U,S0,z,ck,Y,k⟩:=h;refine λld C=>?_;have S1:ab H (upd H ld<|.dK []):=ab.new C;have D:H0 ld=none:=S0.free C;have al:=S1 _ _ B;apply⟨_,fj,n,_,fj,.inl ⟨al,λo=>?_⟩⟩;have bb:n≠ld:=ae B C;have an:upd (upd H ld<|.dK []) n (.oI o<|.dK<|cn ga c) n=eH (.oI o<|.dK<|cn ga c):=aa;have ap:upd (upd H ld<|.dK []) n (.oI o<|.dK<|cn ga c) ld=eH (.dK<|cn ga []):=by rw[ah bb.symm,aa];rfl
 have as:upd (upd H ld<|.dK []) n (.oI o<|.dK<|cn ga c) ta=eH (.lst<|ts.map WC):=by rw[ah (λz=>by rw[z,B]at A;cases A)];exact S1 _ _ A
 have aC:LY H0 (upd (upd H ld<|.dK []) n<|.oI o<|.dK<|cn ga c) ts st:=Paired.i3 T λ_ _ r=>⟨r.1,Rd.Uo al<|Rd.same S1 r.2⟩;have S2:ab H0 (upd (upd H ld<|.dK []) n<|.oI o<|.dK<|cn ga c):=λb q e=>by rw[ah<|ae e U];exact S1 _ _<|S0 _ _ e
 generalize upd (upd H ld<|.dK []) n (.oI o<|.dK<|cn ga c)=H2 at an ap as aC S2 ⊢;have el:(cn ga c).length=c.length:=by unfold cn;rw[ag]
 have bh:=Paired.length T;have G:∀i,fZ (·<ts.length) ((c.take i).foldl (λf p=>(eQ st p.1).foldl (λf g=>kj f g p.2) f) []):=λi=>fZ.on Y (λp hp=>ck.all p<|gK hp) .nil;refine As (λi σ y=>L_ λ(x3 x4 I:Option V)=>OI (σ=[eH<|.ref ta,eH<|.ref n,eH<|.ref ld,x3,x4,I]) (y n=eH (.oI o<|.dK<|cn ga c)) (y ta=eH (.lst<|ts.map WC)) (LY H0 y ts st) (y ld=eH (.dK<|cn ga<|(c.take i).foldl (λf p=>(eQ st p.1).foldl (λf g=>kj f g p.2) f) []))<|ab H0 y)
  ⟨_,_,_,fj,an,as,aC,ap,S2⟩ ?_ ?_ ?_
 .rintro i σ y _ ⟨_,_,_,_,h,_⟩;exact h
 .rintro i σ O p a b hi ⟨x3,x4,I,rfl,a0,J,L,s,S3⟩ hp ⟨bi,ek,rfl⟩;unfold cn at ek;rw[bV]at ek;let⟨j,a4,bd⟩:=mU.1 ek;cases bd;rw[show kV (ga j.1)=WD (j.1:Nat)from rfl];have a5:j.1<ts.length:=ck.all j<|cj a4;have Sp:ab O (upd O p<|.tup [.int (j.1:Nat),.int j.2]):=ab.new hp;have a6:upd O p (.tup [.int (j.1:Nat),.int j.2]) p=eH (.tup [.int (j.1:Nat),.int j.2]):=aa;have t:=G i;have e1:(c.take<|i+1).foldl (λf p=>(eQ st p.1).foldl (λf g=>kj f g p.2) f) []=(eQ st j.1).foldl (λf g=>kj f g j.2) ((c.take i).foldl (λf p=>(eQ st p.1).foldl (λf g=>kj f g p.2) f) []):=by
   rw[take_snoc a4,mV];rfl
  generalize(c.take i).foldl (λf p=>(eQ st p.1).foldl (λf g=>kj f g p.2) f) []=f at s t e1;apply⟨p,_,fj,bE.of a6,fj,_,_,fj,_,_,fj,fj,?_⟩;have u:=Sp _ _ a0;have m:=Sp _ _ J;have v:=Sp _ _ s;have x:LY H0 _ ts st:=Paired.i3 L λ_ _ r=>⟨r.1,Rd.same Sp r.2⟩;have S4:=S3.trans Sp;generalize upd O p (.tup [.int (j.1:Nat),.int j.2])=H4 at a6 u m v x S4 ⊢;have M:ts[j.1]?=eH ts[j.1]:=bj a5;let⟨l,hl,a7,a8⟩:=Paired.getL x M;have a9:yP (ts.map WC) (j.1:Nat)=eH (.ref ts[j.1]):=cO (by rw[bV,M];rfl);have N:eQ st j.1=l.map (·.2):=by unfold eQ;rw[dP,hl];rfl
  generalize ts[j.1]=d at a8 a9 M a7;have ba:∀q∈l,q.2<ts.length:=λq hq=>Y j.1 a5 q.2 (by rw[N];exact eC hq);apply⟨_,fj,_,fj,ta,_,_,_,fj,fj,az.of m,a9,d,stK l,fj,?_⟩;obtain e|⟨o',e⟩:=a8
  .refine .inl ⟨e,λo'=>Ah (o':=o') aa ?_ ?_ ?_ (Paired.i3 x λ_ _ r=>⟨r.1,Rd.oI e r.2⟩) (λb q w=>by rw[ah<|ae w a7];exact S4 _ _ w) D z t ba (λI y q1 q2 q3 q4 q5=>⟨_,_,I,fj,q1,q2,q3,by rw[e1,N];exact q4,q5⟩)⟩
   .rw[ah (λz=>by rw[z,e]at u;cases u)];exact u
   .rw[ah (λz=>by rw[z,e]at m;cases m)];exact m
   .rw[ah (λz=>by rw[z,e]at v;cases v)];exact v
  .exact .inr ⟨o',e,Ah e u m v x S4 D z t ba (λI y q1 q2 q3 q4 q5=>⟨_,_,I,fj,q1,q2,q3,by rw[e1,N];exact q4,q5⟩)⟩
 .rintro σ O ⟨x3,x4,I,rfl,a0,J,L,s,S3⟩;rw[el,aX]at s;exact⟨_,fj,k ld O J L s D S3⟩
def RG(J0 J2 J3:Zb)(ds:List am)(f:Zb):List (List Ws):=(q7 J0 J2 J3 ds f).map (·.2)
def SF(J0 J2 J3:Zb)(ds:List am)(n:Nat):Int:=((qg (RG J0 J2 J3 ds) (hJ J3 ds<|J3.take 1) n).map (·.2)).sum
theorem preSum_eq{α:Type}(c:List<|α×Int)(val:Nat->Int)(f:∀(i:Nat) p,c[i]?=eH p->val i=p.2):preSum val c.length=(c.map (·.2)).sum:=by
 have a:∀j,j<=c.length->preSum val j=((c.take j).map (·.2)).sum:=by
  intro j
  induction j with
  |zero=>intro _;rfl
  |succ j g =>
   intro h;have e:c[j]?=eH c[j]:=bj ⋯;rw[take_snoc e,au,List.sum_append];show preSum val j+val j=_;rw[g ⋯,f j _ e];simp
 have:=a c.length<|aF _;rw[aX]at this;exact this
theorem xO{α β γ:Type}{R:α->β->Prop}{f:α->γ}{g:β->γ}(h:∀a b,R a b->f a=g b):∀{l:List α}{m:List β},Paired R l m->l.map f=m.map g
 |_,_,.nil=>rfl
 |_,_,.cons r t=>by rw[bL,bL,h _ _ r,xO h t]
section
variable{J0 J2 J3:Zb}{ds:List am}{S:EL}(ok:GG J0 J2 J3 ds S)(le:S.2.length=S.1.fs.length)
include ok le
theorem Ct{i:Nat}(hi:i<S.1.fs.length):(∀g∈eQ S.2 i,g<S.1.fs.length)/\RG J0 J2 J3 ds (S.1.fs.getD i [])=(eQ S.2 i).map λj=>S.1.fs.getD j []:=by
 have h:i<S.2.length:=by nofun
 have l:S.2[i]?=eH S.2[i]:=bj h;let⟨f,hf,m⟩:=ok.st i _ l;have n:S.1.fs.getD i []=f:=by rw[dP,hf];rfl
 have o:eQ S.2 i=S.2[i].map (·.2):=by unfold eQ;rw[dP,l];rfl
 rw[n,o];constructor
 .intro g q;let⟨a,s,rfl⟩:=ar.1 q;let⟨k,t,u⟩:=AN s;let⟨p,_,_,e⟩:=Paired.getL m (i:=k) (x:=a) (by rw[bj t,u]);obtain z|z:=qD a.2 S.1.fs.length
  .exact z
  .rw[ig z]at e;cases e
 .unfold RG;rw[eZ];exact(xO (λa p r=>by show S.1.fs.getD a.2 []=p.2;rw[dP,r.2];rfl) m).symm
theorem Lp(n:Nat):((qg (eQ S.2) 0 n).map (·.2)).sum=SF J0 J2 J3 ds n:=by
 have inj:∀a b,a<S.1.fs.length->b<S.1.fs.length->S.1.fs.getD a []=S.1.fs.getD b []->a=b:=by
  intro a b g h e;rw[dP,dP,bj g,bj h]at e;have e:S.1.fs[a]=S.1.fs[b]:=e;obtain z|z|z:=wI a b
  .exact absurd e<|qC.1 (qF.1 ok.good.nd) a b g h z
  .exact z
  .exact absurd e.symm<|qC.1 (qF.1 ok.good.nd) b a h g z
 have i:S.1.fs.getD 0 []=hJ J3 ds (J3.take 1):=by rw[dP,ok.zero];rfl
 have k:0<S.1.fs.length:=by
  obtain z|z:=ud S.1.fs.length
  .have:=ok.zero;rw[ig ⋯]at this;cases this
  .exact z
 unfold SF;rw[<-i,FV (f:=λj=>S.1.fs.getD j []) (P:=λj=>j<S.1.fs.length) inj (sA:=eQ S.2) (λa g=>Ct ok le g) k n,eZ]
 rfl
end
theorem G4{K:Za}:∀a:List Ws,A3 K H (a.map tf) (a.map WB)
 |[]=>by show A3 K H [] [];unfold A3;rfl
 |x::a=>by
  rw[bL,bL];unfold A3;apply⟨_,_,fj,?_,G4 a⟩;unfold tf mN
  rfl
theorem dg.sq{K:Za}(h:dg K H a e):bE K H a e:=h.imp .inl id
theorem wa{K:Za}(h:dg K H a<|f.map WB):mN K H (j9 f) (.ref a):=by
 unfold j9 mN;exact⟨a,_,fj,dg.sq h,G4 f⟩
open Classical in
theorem mJ:r∈hJ J3 e a↔r∈J3/\i9 e a r:=by
 unfold hJ;rw[bW,decide_eq_true_iff]
def vL(K:Za):TS :=
 bo (dL (eR K)<|aB<|ik K V0 "own_doors")
def v8:List Ws:=["self"]
def EH:List Ws:=["found","due"]

def xD(C:Wk):Sp:=λvs H Q _=>∃(x dx o4:Wk) (fs:List<|Ws×V) (ts:Ze),vs=[.ref x]/\H x=eH (.ins C dx fs)/\lk "own_doors" fs=eH (.ref o4)/\H o4=eH (.lst<|ts.map WC)/\∀l,H l=none->Q (.ref l) (upd H l<|.lst<|ts.map WC)
theorem KC{K:Za}(M:MC K C)(h:xD C a H Q E):vL K (bT Q) (start v8 a) H:=by
 let⟨x,f,e,fs,l,rfl,g,i,j,k⟩:=h;exact⟨_,fj,x,C,f,fs,.ref e,fj,g,M.cls,M.a4,i,.inl ⟨e,_,fj,.inl<|az.of j,k⟩⟩
theorem Reach.mono(h:∀a b,(⟨a,aD,b⟩:am)∈f->(⟨a,aD,b⟩:am)∈gr)(r:Reach f a b):Reach gr a b:=by
 induction r with
 |one e=>exact .one<|h _ _ e
 |step _ e g=>exact .step g<|h _ _ e
theorem Reach.front(r:Reach f a b):∃g,(⟨a,aD,g⟩:am)∈f/\(b=g∨Reach f g b):=by
 induction r with
 |one e=>exact⟨_,e,.inl rfl⟩
 |step _ e h =>
  let⟨g,i,z⟩:=h;apply⟨g,i,.inr ?_⟩;obtain z|z:=z
  .subst z;exact .one e
  .exact .step z e
def Dg(K:Za)(K':Sp):TS :=
 aq (cV (tB<|Mq V1) (bo<|Mq V0)<|bC)
 (aq (cV (tB<|dL (oY K)<|aK V1<|tC<|.ty "bool") (bo<|vk (dL (oY K)<|aK V0<|tC<|.ty "bool")<|aI IL V0 V1)<|bC)
 (aq (cV (tB<|dL (oY K)<|aK V1<|tC<|.ty "str") (bo<|vk (dL (oY K)<|aK V0<|tC<|.ty "str")<|aI (n6 K) V0 V1)<|bC)
 (aq (cV (tB<|dL (oY K)<|aK V1<|tC<|.ty "int") (bo<|vk (dL (oY K)<|aK V0<|tC<|.ty "int")<|vk (NI<|dL (oY K)<|aK V0<|tC<|.ty "bool")<|aI (n6 K) V0 V1)<|bC)
 (aq (cV (uN (tB<|dL (oY K)<|aK V1<|tC<|.ty "tuple")<|oN<|tB<|dL (oY K)<|aK V0<|tC<|.ty "tuple") (bo<|tC<|.bl false)<|bC)
 (aq (cV (uN (tB<|dL (oY K)<|aK V1<|tC<|.ty "list")<|oN<|tB<|dL (oY K)<|aK V0<|tC<|.ty "list") (bo<|tC<|.bl false)<|bC)
 (aq (cV (a_<|aI MP (dL (dO K)<|aB V0)<|dL (dO K)<|aB V1) (bo<|tC<|.bl false)<|bC)
 (bo<|dL (MR K)<|av (cZ 2 [] (Hw K<|aK V0 V1) (gR K 2<|aY U0<|aY U1<|gf) (iN)<|aM K'<|aK V0 V1) aW)))))))
def Mo(K:Za)(gi:Wk)(sx:Sp)(ri:Sp):TS :=
 bo (dL (UY K)<|av (cZ 1 [0,2] (bU K<|aI jU (bw<|aB V1)<|cF gi "led_from" sx [] E0 V0<|aB V1) U0 (iN)<|aI DC (dL (dO K)<|av (cF gi "goals" ri [] E0 V1<|aK V0<|cB<|av (tC<|.str "ask")<|aB V2) aW)<|tC<|.int 0) aW)
def Nz:List Ws:=["I","room","ask"]
def yS(K:Za)(E':Sp)(hE:Sp)(A4:Sp):TS :=
 aq (aU V1<|gR K 4<|aY U2<|aY U3<|aY U4<|aY U5<|gf)
 (aq (aU (dL (eR K)<|aB V5) U5)
 (aq (ee (bU K V4) U6 (ee (bU K V2) U7 (aq (aU (aM A4<|aK V5<|bw<|aB V6) U8)
 (cV (a_<|aI (n6 K) (cZ 1 [8,7] (bU K V5) U0 (uN (a_<|aI (lZ K false) (aI (nh K) V0<|tC<|.int 0) V1)<|a_<|aI (n6 K) (aI (nh K) V0<|tC<|.int 1)<|cB<|aK (tC<|.str "ask") V2) V0)<|bw<|aW) (aq (aU (aI (dE K) (bw<|av V6<|av (aI (dE K) V4<|aM hE<|aK V0<|dL (dO K)<|aB V4) aW)<|aM hE<|aK V0<|tC<|.int 2) U9)
 (cY<|aM E'<|av V5<|av (cB<|eP V6 (cB<|aK (tC<|.str "ask") V7) V9) aW))<|bC))))
 (bo<|cB<|av V2<|eP V3 V4 V5)))
def zF:List Ws:=["pen","told","asks","says","rooms","doors","room","ask","there","other"]
def hW(ds:List am)(r a:Ws):Prop:=∃h,(h=r∨Reach ds r h)/\∃b,(⟨h,bQ a,b⟩:am)∈ds
open Classical in
def PX(ds:List am)(r a:Ws):Bool:=decide (hW ds r a)
theorem oJ:PX ds r a=true↔hW ds r a:=by unfold PX;exact @decide_eq_true_iff _ (Classical.propDecidable _)
theorem BA:PX ds r a=false↔¬hW ds r a:=by unfold PX;exact @decide_eq_false_iff_not _ (Classical.propDecidable _)
theorem vC:0<(aZ e (h,f)).length↔∃b,(⟨h,f,b⟩:am)∈e:=by
 rw[List.length_pos_iff_exists_mem];constructor
 .rintro⟨b,a⟩;exact⟨b,c_.mp a⟩
 .rintro⟨b,a⟩;exact⟨b,c_.mpr a⟩
theorem Ii(i:∀w,w∈L↔Reach ds r w):((r::L).map λh=>decide ((0:Int)<(aZ ds (h,bQ a)).length)).any id=PX ds r a:=by
 rw[sn,oJ,List.any_eq_true];constructor
 .rintro⟨b,f,e⟩;let⟨h,g,rfl⟩:=ar.mp f;have:=of_decide_eq_true e;apply⟨h,?_,vC.mp ⋯⟩;obtain e|e:=cq.mp g
  .exact .inl e
  .exact .inr<|(i h).mp e
 .rintro⟨h,g,f⟩;apply⟨true,ar.mpr ⟨h,?_,hH (by have:=vC.mpr f;nofun)⟩,fj⟩;obtain e|e:=g
  .rw[e];exact cT
  .exact eN _<|(i h).mpr e
inductive mB(C:Wk)(vs:List V)(H:Hp)(Q:VK)(E:XK):Prop
 |mk (x:Wk) (r a:Ws) (J0 J2 J3:Zb) (ds:List am):vs=[.ref x,.str r,.str a]->bf C H x J0 J2 J3 ds->r∈J3->(∀H',ab H H'->Q (.bl (PX ds r a)) H')->mB C vs H Q E
theorem Wx{H:L2.Hp}{p:PySem.Addr}{o:L2.HO}(h:H p=none):∃Z,upd H p o=Z∧ab H Z∧Z p=some o:=⟨_,rfl,ab.new h,aa⟩
theorem Wz(H:L2.Hp)(p:PySem.Addr)(o:L2.HO):upd H p o p=some o:=aa
theorem Kq{K:Za}(h:mB C f H Q E):Mo K C (ju C) (g_ C) (bT Q) (start Nz f) H:=by
 let⟨x,r,a,J0,J2,t,p,rfl,M,hr,k⟩:=h;apply⟨_,fj,(by show 1<=ak;decide),λl u=>?_⟩;let⟨H1,Wy,v,e1⟩:=Wx (o:=.lst [.str r]) u;rw[Wy];have M1:=M.same v;let⟨z,fs,o1,o2,o3,o4,lv,qu,A,sl,ts,B,D,G,I,a1,a2,a3,a4,_⟩:=id M1.at_;apply⟨_,fj,x,z,fs,fj,I,a3,_,fj,x,r,J0,J2,t,p,fj,M1,hr,λl2 L J e2 nd hL _ S2=>?_⟩;have N:∀w∈L,w∈t:=λw O=>((hL w).mp O).Sm λd hd=>(M.ok.good d hd).b;have zL:=o5 nd N;have z3:=M.ok.vr;apply⟨l,l2,_,_,fj,fj,S2 _ _ e1,e2,by rw[ag];show 1+L.length<=ak;exact cA (ao ⋯),λm T=>?_⟩;have eq:([.str r]++L.map WB:List V)=(r::L).map WB:=rfl;rw[eq];let⟨H3,Wy,U,Y⟩:=Wx (o:=.lst<|(r::L).map WB) T;rw[Wy];have U:=(v.trans S2).trans<|U;apply⟨m,fj,⟨_,az.of Y⟩,λq hq=>?_⟩
 let al:Nat->List V->Hp->Prop:=λi f j=>f=(((r::L).take i).map λh=>decide ((0:Int)<(aZ p (h,bQ a)).length)).map V.bl/\ab H3 j/\j q=eH (.lst f)
 refine cu (xs:=(r::L).map WB) al ⟨fj,ab.new hq,aa⟩ (λi f j _ zq=>by let⟨_,S,h⟩:=zq;exact⟨h,az.of<|S _ _ Y⟩) ?_ ?_
 .rintro f j ⟨rfl,S,h⟩;rw[ag,aX]at h;apply⟨q,_,fj,az.of h,?_⟩;rw[Ii hL];exact k j<|U.trans S
 .rintro i f j y hy hi ⟨rfl,S,h⟩;let⟨w,O,rfl⟩:=bu hy;refine gN<|su ?_;have M':=M.same<|U.trans S;let⟨z,fs,o1,o2,o3,o4,lv,qu,A,sl,ts,B,D,G,I,a1,a2,a3,a4,_⟩:=id M'.at_;apply⟨_,fj,x,z,fs,fj,I,a2,_,fj,_,fj,(by show 2<=ak;decide),λs hs=>?_⟩;have S4:=ab.new (o:=.tup<|(bQ a).map WB) hs;apply⟨x,s,w,bQ a,J0,J2,t,p,fj,M'.same S4,aa,λg H5 hg _ S5=>?_⟩;have n:=S4.trans S5;refine .inl ⟨g,_,fj,.inl<|az.of hg,_,_,fj,fj,n _ _ h,?_,?_⟩
  .rw[ag,ag,aS];exact ao (by rw[eT];nofun)
  refine oj hi ⟨?_,λb o e=>?_,aa⟩
  .rw[take_snoc O,au,au];show _++[V.bl<|decide ((0:Int)<(((aZ p (w,bQ a)).map WB).length:Nat))]=_;rw[ag];rfl
  .rw[ah<|ae e hq];exact n _ _<|S _ _ e
def EB(F:Zb)(a:Ws)(d:am):Bool:=decide (d.a∈F) && decide (d.sg=bQ a)
theorem EA(i:∀w,w∈F↔i9 f [r] w):f.filter (EB F a)=[]↔PX f r a=false:=by
 rw[BA,wH];constructor
 .rintro h ⟨w,j,b,k⟩;refine h _ k ?_;unfold EB;rw[hH,hH]
  .rfl
  .rfl
  .exact(i w).mpr ⟨r,cT,j⟩
 .intro n d hd q;unfold EB at q;rw[lQ]at q;have l:=of_decide_eq_true q.1;have m:=of_decide_eq_true q.2;let⟨g,o,e⟩:=(i _).mp l;have:g=r:=by simpa using o
  subst this;let⟨x,p,b⟩:=d;exact n ⟨x,e,b,by rw[<-m];exact hd⟩
theorem LH{K:Za}(st:σ[jt]?=eH (eH<|.ref f))(N:σ[ja]?=eH (eH<|.str a))(O:m I=eH (.lst<|B.map WC))(hd:dJ m B r)(hf:m f=eH (.lst<|F.map WB))(z:r.length<=1000)(J:m l=none)(k:∀(g:Ze) (e:Hp),e l=eH (.lst<|g.map WC)->dJ e g (r.filter<|EB F a)->ab m e->Q e) :
  dB 1 [jt,ja] σ (HW K I) U0 (uN (a_<|aI (lZ K false) (aI (nh K) V0<|tC<|.int 0) V1)<|a_<|aI (n6 K) (aI (nh K) V0<|tC<|.int 1)<|cB<|aK (tC<|.str "ask") V2) V0 m l Q:=by
 have T:de 1 [jt,ja] σ=[none,eH<|.ref f,eH<|.str a]:=by simp[de,st,N]
 let C:Nat->List V->Hp->Prop:=λi t e=>∃g:List Wk,t=g.map WC/\dJ e g ((r.take i).filter<|EB F a)/\ab m e/\e l=eH (.lst t)
 refine cu (xs:=B.map WC) C
  ⟨[],fj,.nil,ab.new J,aa⟩ (λi t e _ U=>by let⟨_,_,_,S,n⟩:=U;exact⟨n,az.of<|S _ _ O⟩) ?_ ?_
 .rintro t e ⟨g,rfl,D,S,n⟩;rw[ag,Paired.length hd,aX]at D;exact k g e n D S
 .rintro i t e y Y hi ⟨g,rfl,D,S,n⟩;let⟨u,hu,rfl⟩:=cJ Y;let⟨w,j,E⟩:=Paired.getL hd hu;let⟨sb,p,v⟩:=E.kt<|ab.kt S;have al:i<r.length:=(bY.mp j).1;have zu:g.length<=i:=by
   have:=Paired.length D;rw[this];refine bH (b_ _ _) ?_;rw[aS];nofun
  rw[T];refine gN ?_;apply⟨_,fj,.inr (.inl ⟨u,_,0,_,fj,fj,bE.of p,fj,_,fj,dD w.a,F.map dD,f,_,tT _,fj,.inl<|az.of<|S _ _ hf,iB _,(by show 0<=8;decide),by rw[gw];decide,_,fj,?_⟩)⟩;rw[if_neg h9,wt];by_cases x:w.a∈F;rotate_left
  .rw[hB x];refine bF<|bF<|oj hi ⟨g,fj,?_,S,n⟩;rw[iw j,if_neg (by unfold EB;rw[hB x,GR];decide),dj];exact D
  rw[hH x];refine cS ?_;apply⟨_,fj,.inr (.inl ⟨u,_,1,_,fj,fj,bE.of p,fj,_,fj,(by show 2<=ak;decide),λs hs=>?_⟩)⟩;have h:=ab.new (o:=.tup<|(bQ a).map WB) hs;have L:=Wz e s (.tup<|(bQ a).map WB);have G:(.tup [.str "ask",.str a]:HO)=.tup ((bQ a).map WB):=rfl;rw[G];generalize upd e s (.tup<|(bQ a).map WB)=H at h L ⊢;have M:=D.kt<|ab.kt h;apply⟨nY w.sg,nY<|bQ a,cg<|bE.of<|h _ _ v,cg<|bE.of L,by rw[c6];decide,by rw[c6];decide,_,fj,?_⟩;rw[lh];by_cases A:w.sg=bQ a;rotate_left
  .rw[hB A];refine bF<|oj hi ⟨g,fj,?_,S.trans h,h _ _ n⟩;rw[iw j,if_neg (by unfold EB;rw[hB A,Bs];decide),dj];exact M
  rw[hH A];refine cS ?_;have S3:ab m (upd H l<|.lst<|g.map WC++[.ref u]):=λb o q=>by
   rw[ah<|ae q J];exact h _ _<|S _ _ q
  have kt:h_ H (upd H l<|.lst<|g.map WC++[.ref u]):=λb xs q=>by
   rw[ah (λz=>by rw[z,h _ _ n]at q;cases q)];exact q
  apply⟨_,fj,h _ _ n,by rw[ag];exact ao ⋯,oj hi ⟨g++[u],by rw[au];rfl,?_,S3,aa⟩⟩;rw[iw j,if_pos (by unfold EB;rw[hH x,hH A];rfl)];exact eD (M.kt kt) ⟨sb,kt _ _<|h _ _ p,kt _ _<|h _ _ v⟩
theorem Lq{K:Za}(f:H l=eH (.lst<|e.map WC))(g:dJ H e a)(i:H q=eH (.lst []))(h:Q (.bl<|decide (a=[])) H):n6 K (.ref l) (.ref q) H Q:=by
 apply⟨.s<|a.map Es,.s [],(by unfold kL;exact⟨l,_,fj,az.of f,g.RE⟩),(by unfold kL;exact⟨q,_,fj,az.of i,by unfold lR;rfl⟩),?_,Wt,?_⟩
 .show DT.gg _+1<=8;have:=Ge a;nofun
 .rw[decide_eq_decide.mpr (show DT.s (a.map Es)=DT.s []↔a=[]from⟨λz=>List.map_eq_nil_iff.mp (by injection z),λz=>by rw[z];rfl⟩)];exact h
theorem Reach.Uq(n:d.sg≠aD)(r:Reach (ds++[d]) a b):Reach ds a b:=by
 have f:∀{x y:Ws},(⟨x,aD,y⟩:am)∈ds++[d]->(⟨x,aD,y⟩:am)∈ds:=λq=>by
  obtain q|q:=bt.mp q
  .exact q
  .have e:=bq.mp q;exact absurd (by rw[<-e]) n
 induction r with
 |one q=>exact .one<|f q
 |step _ q g=>exact .step g<|f q
theorem hW.mono(h:∀d∈ds,d∈e):hW ds r a->hW e r a:=λ⟨w,f,b,g⟩=>⟨w,f.imp id<|Reach.mono λx y=>h _,b,h _ g⟩
theorem mem_putD:x∈tw a d↔x∈a∨x=d:=by
 unfold tw;split
 .rename_i h;exact⟨.inl,λz=>z.elim id λe=>by rw[e];exact h⟩
 .simp
theorem aE.Ua(m:aE i j k f)(g:yI i j k d)(n:d.sg≠aD)(z:f.length+1<=1000):aE i j k (tw f d):=by
 apply⟨m.To,m.Th,m.apart,m.RV,m.Tv,m.SJ,m.P5,m.B',m.A2,m.vr,?_,λx hx=>?_,?_,λr q=>?_⟩
 .unfold tw;split
  .exact m.nodup
  .rename_i h;rw[cQ];exact⟨m.nodup,by simp,λa l b o e=>h (by rw[<-bq.1 o,<-e];exact l)⟩
 .obtain h|h:=mem_putD.mp hx
  .exact m.good x h
  .rw[h];exact g
 .have:=DD f d;nofun
 .refine m.Qc r ?_;unfold tw at q;split at q
  .exact q
  .exact q.Uq n
theorem Jy(a:Ws):bQ a≠aD:=by unfold bQ aD;intro h;injection h with _ h;cases h
structure TX(H0:Hp)(p c l:Wk)(R:List am->Prop)(H:Hp):Prop where
 pen:jL H p c
 ds:∃ts ds,H l=eH (.lst (ts.map WC))/\dJ H ts ds/\R ds
 ex:fO p H0 H
 fr:H0 l=none
 pl:p≠l
 cl:c≠l
section
variable{H0 H H':Hp}{p c l:Wk}{R R':List am->Prop}
theorem TX.Qx(h:TX H0 p c l R H)(a:jL H' p c)(e:fO p H H'):TX H0 p c l R H':=by
 let⟨f,g,i,j,k⟩:=h.ds;let⟨m,hx⟩:=h.pen.lst;exact⟨a,⟨f,g,e _ _ i h.pl.symm,j.kt<|e.kt hx,k⟩,h.ex.trans e,h.fr,h.pl,h.cl⟩
theorem TX.same(h:TX H0 p c l R H)(S:ab H H'):TX H0 p c l R H':=h.Qx (h.pen.ex S)<|ab.T6 S
theorem TX.imp(h:TX H0 p c l R H)(q:∀a,R a->R' a):TX H0 p c l R' H:=by
 let⟨e,a,f,g,i⟩:=h.ds;exact⟨h.pen,⟨e,a,f,g,q _ i⟩,h.ex,h.fr,h.pl,h.cl⟩
theorem TX.put(h:TX H0 p c l R H)(g:∃f,H l=eH (.lst f))(i:dJ H a e)(r:R' e):TX H0 p c l R' (upd H l<|.lst<|a.map WC):=by
 let⟨f,hx⟩:=g;apply⟨h.pen.upd h.pl h.cl,⟨a,e,aa,i.kt λb j q=>?_,r⟩,λb o q n=>?_,h.fr,h.pl,h.cl⟩
 .rw[ah (λz=>by rw[z,hx]at q;cases q)];exact q
 .rw[ah<|ae q h.fr];exact h.ex _ _ q n
end
def WR(J0 J2 J3:Zb)(D:List<|Ws×Ws)(n:Nat)(ds:List am):Prop:=aE J0 J2 J3 ds/\ds.length<=n/\∀x∈D,hW ds x.1 x.2
theorem WR.up(h:WR J0 a e D n g)(z:n<=f):WR J0 a e D f g:=⟨h.1,bH h.2.1 z,h.2.2⟩
inductive m_ (vs:List V)(H:Hp)(Q:VK)(E:XK):Prop
 |mk (p c t l1 l2 l3 l4:Wk) (ts:Ze) (J0 J2 J3:Zb) (ds:List am):vs=[.ref p,.ref t]->jL H p c->jC H t l1 l2 l3 l4 ts J0 J2 J3 ds->aE J0 J2 J3 ds->J3.length<=26->ds.length<=800->(∀(t' R4:Wk) (RH:Ze) (gr:List am) (H':Hp),jC H' t' l1 l2 l3 R4 RH J0 J2 J3 gr->aE J0 J2 J3 gr->(∀r∈J3,∀a∈J0,hW gr r a)->gr.length<=ds.length+4 * J3.length->jL H' p c->fO p H H'->Q (.ref t') H')->m_  vs H Q E
theorem Ft{K:Za}(h:m_ vs H Q E):yS K uO im (jr K) (bT Q) (start zF vs) H:=by
 let⟨p,c,t,l1,l2,N,l4,ts,J0,O,A,ds,rfl,hp,T,m,b2,z8,k⟩:=h;have a4:=m.B';apply⟨_,fj,t,_,fj,bE.of T.t,fj,_,_,fj,_,_,fj,_,_,fj,_,_,fj,fj,?_⟩;apply⟨_,fj,.inl ⟨l4,_,fj,.inl<|az.of T.a4,λf hf=>?_⟩⟩;have B0:TX H p c f (WR J0 O A [] ds.length) (upd H f<|.lst<|ts.map WC):=⟨hp.ex<|ab.new hf,⟨ts,ds,aa,T.ds.kt<|ab.kt<|ab.new hf,m,aF _,by simp⟩,fO.new hf,hf,hp.Sh hf,hp.Uk hf⟩;generalize upd H f (.lst<|ts.map WC)=H1 at B0 ⊢;have keep:∀{G:Hp}{R:List am->Prop},TX H p c f R G->G l1=eH (.lst<|J0.map WB)/\G l2=eH (.lst<|O.map WB)/\G N=eH (.lst<|A.map WB):=λB =>
  ⟨B.ex _ _ T.a1<|hp.lN T.a1,B.ex _ _ T.a2<|hp.lN T.a2,B.ex _ _ T.a3<|hp.lN T.a3⟩
 apply⟨_,fj,N,fj,⟨_,az.of (keep B0).2.2⟩,?_⟩
 let ba:Nat->L2.St->Hp->Prop:=λi σ G=>OS λ(a6 U Y a9:Option V)=>σ=[eH<|.ref p,eH<|.ref t,eH<|.ref l1,eH<|.ref l2,eH<|.ref N,eH<|.ref f,a6,U,Y,a9]/\TX H p c f (WR J0 O A ((A.take i).flatMap λr=>J0.map λa=>(r,a))<|ds.length+4 * i) G
 refine cb (xs:=A.map WB) ba
  ⟨_,_,_,_,fj,B0⟩ (λi σ G _ zq=>by let⟨_,_,_,_,_,B⟩:=zq;exact az.of (keep B).2.2) ?_ ?_
 .rintro i v σ H2 hi ⟨a6,U,Y,a9,rfl,J⟩;let⟨r,hr,rfl⟩:=bu hi;have b3:i<A.length:=(bY.mp hr).1;have al:=cj hr;apply⟨_,fj,l1,fj,⟨_,az.of (keep J).1⟩,?_⟩
  let bb:Nat->L2.St->Hp->Prop:=λj σ G=>L_ λ(U Y a9:Option V)=>σ=[eH<|.ref p,eH<|.ref t,eH<|.ref l1,eH<|.ref l2,eH<|.ref N,eH<|.ref f,eH<|.str r,U,Y,a9]/\TX H p c f (WR J0 O A ((A.take i).flatMap (λr=>J0.map λa=>(r,a))++(J0.take j).map λa=>(r,a))<|ds.length+4 * i+j) G
  refine cb (xs:=J0.map WB) bb
   ⟨_,_,_,fj,J.imp λds h=>by simpa using h⟩ (λi σ G _ zq=>by let⟨_,_,_,_,B⟩:=zq;exact az.of (keep B).1) ?_ ?_
  .rintro j v σ H3 hj ⟨U,Y,a9,rfl,B3⟩;let⟨a,ha,rfl⟩:=bu hj;have b4:j<J0.length:=(bY.mp ha).1;have bd:=cj ha;have an:∀C n,WR J0 O A ((A.take i).flatMap (λr=>J0.map λa=>(r,a))++(J0.take j).map λa=>(r,a)) n C->hW C r a->WR J0 O A ((A.take i).flatMap (λr=>J0.map λa=>(r,a))++(J0.take<|j+1).map λa=>(r,a)) n C:=λC n w tk=>by
    apply⟨w.1,w.2.1,λx hx=>?_⟩;rw[take_snoc ha,au,<-dQ]at hx;obtain h|h:=bt.mp hx
    .exact w.2.2 x h
    .have:x=(r,a):=by simpa using h
     rw[this];exact tk
   apply⟨_,fj,_,fj,(by show 1<=ak;decide),λq hq=>?_⟩;have B4:=B3.same<|ab.new (o:=.lst [.str r]) hq;have q4:=Wz H3 q (.lst [.str r]);generalize upd H3 q (.lst [.str r])=H4 at B4 q4 ⊢;let⟨us,C,g1,g2,D⟩:=B4.ds;apply⟨f,q,us,C,[r],A,fj,g1,g2,q4,λd hd=>(D.1.good d hd).b,by nofun,(by show 1<=1000;decide),λth F H5 bh hF _ _ S5=>?_⟩;have B5:=B4.same S5;have f5:=S5 _ _ g1;have d5:=g2.kt<|ab.kt S5;apply⟨_,fj,f,fj,⟨_,az.of f5⟩,λl hl=>?_⟩;refine LH (K:=K) (jt:=8) (ja:=7) rfl rfl f5 d5 bh D.1.Qf hl λvs H6 h6 D6 S6=>⟨(by show 0<=ak;decide),λe he=>?_⟩;refine Lq (kp h6 he) (D6.kt<|ab.kt<|ab.new he) aa ⟨_,fj,?_⟩;have S7:ab H5 (upd H6 e<|.lst []):=S6.trans<|ab.new he;generalize upd H6 e (.lst [])=H7 at S7 ⊢;have f7:=S7 _ _ f5;have d7:=d5.kt<|ab.kt S7;have B7:TX H p c f (λap=>ap=C) H7:=by
    have B:=B5.same S7;exact⟨B.pen,⟨us,C,f7,d7,fj⟩,B.ex,B.fr,B.pl,B.cl⟩
   cases q:PX C r a with
   |true =>
    rw[hB (λz=>by rw[EA hF,q]at z;cases z)];exact bF ⟨_,_,_,fj,B7.imp λap e=>by rw[e];exact an _ _ (D.up ⋯)<|oJ.mp q⟩
   |false =>
    rw[hH<|(EA hF).mpr q];refine cS ?_;have bi:=(keep B7).2.2;apply⟨_,fj,_,fj,_,fj,_,fj,.inl ⟨N,_,fj,.inl<|az.of bi,?_⟩⟩;rw[ag];refine fT B7.pen ⋯ ⋯ λx H8 x0 x1 bl bn=>?_;let⟨n,rfl⟩:=lH x0;have B8:=B7.Qx bl bn;obtain⟨w,hw⟩:∃w,A[n]?=eH w:=⟨_,bj ⋯⟩;apply⟨N,_,(n:Int),.str w,fj,fj,az.of (keep B8).2.2,cO (j:=n) (by rw[bV,hw];rfl),(by show 2<=ak;decide),λu hu=>?_⟩;have B9:=B8.same<|ab.new (o:=.lst [.str r,.str w]) hu;have u9:upd H8 u (.lst [.str r,.str w]) u=eH (.lst<|[r,w].map WB):=aa;generalize upd H8 u (.lst [.str r,.str w])=H9 at B9 u9 ⊢;apply⟨_,fj,fT B9.pen Wt Wt λy I y0 y1 as L=>?_⟩;have bz:=B9.Qx as L;obtain⟨g,hg,bI⟩:∃g,yP ([r,w].map WB) y=eH (.str g)/\g∈A:=by
     have:y=0∨y=1:=by nofun
     obtain rfl|rfl:=this
     .exact⟨r,fj,al⟩
     .exact⟨w,fj,cj hw⟩
    apply⟨u,_,y,.str g,fj,fj,az.of<|L _ _ u9<|B9.pen.lN u9,hg,?_⟩;apply⟨_,fj,_,fj,_,fj,(by show 2<=ak;decide),λs hs=>⟨_,fj,(by show 3<=ak;decide),λd hd=>?_⟩⟩;have aC:ab I (upd (upd I s<|.tup [.str "ask",.str a]) d<|.tup [.str r,.ref s,.str g]):=(ab.new hs).trans<|ab.new hd;have M:jb (upd (upd I s<|.tup [.str "ask",.str a]) d<|.tup [.str r,.ref s,.str g]) d ⟨r,bQ a,g⟩:=⟨s,aa,kp aa hd⟩;generalize upd (upd I s<|.tup [.str "ask",.str a]) d (.tup [.str r,.ref s,.str g])=b5 at aC M ⊢;have a0:=bz.same aC;let⟨bS,b0,k1,k2,rfl⟩:=id a0.ds;have zz:=D.2.1;have a5:yI J0 O A ⟨r,bQ a,g⟩:=⟨al,bI,.inl ⟨a,bd,fj⟩⟩;apply⟨f,d,bS,_,⟨r,bQ a,g⟩,fj,k1,k2,M,D.1.Qf,λb6 D2=>?_⟩;apply⟨_,_,_,fj,a0.put ⟨_,k1⟩ D2 (an _ _ ⟨D.1.Ua a5 (Jy a) ⋯,?_,λx hx=>(D.2.2 x hx).mono λy hy=>mem_putD.mpr<|.inl hy⟩ ⟨r,.inl rfl,g,mem_putD.mpr<|.inr rfl⟩)⟩;have:=DD b0 ⟨r,bQ a,g⟩;nofun
  .rintro σ H3 ⟨U,Y,a9,rfl,B3⟩;apply⟨_,_,_,_,fj,B3.imp λC h=>?_⟩;rw[ag]at h;apply⟨h.1,by have:=h.2.1;nofun,λx hx=>h.2.2 x ?_⟩;rw[take_snoc hr,qE]at hx;rw[aX];simpa using hx
 .rintro σ H2 ⟨a6,U,Y,a9,rfl,J⟩;rw[ag,aX]at J;let⟨us,C,g1,g2,D⟩:=J.ds;let⟨q1,q2,q3⟩:=keep J;apply⟨_,fj,_,fj,_,fj,_,fj,(by show 4<=ak;decide),λt' b1=>?_⟩;have S3:=ab.new (o:=.tup [.ref l1,.ref l2,.ref N,.ref f]) b1;exact k t' f us C _ ⟨aa,S3 _ _ q1,S3 _ _ q2,S3 _ _ q3,S3 _ _ g1,g2.kt<|ab.kt S3⟩ D.1 (λr hr a ha=>D.2.2 (r,a)<|fQ.mpr ⟨r,hr,ar.mpr ⟨a,ha,fj⟩⟩) D.2.1 (J.pen.ex S3)<|J.ex.trans<|ab.T6 S3
def CL(ds:List am)(f:Zb):Prop:=∀d∈ds,d.sg=aD->d.a∈f->d.b∈f
theorem Aa(k:∀d∈e,d.b∈h):CL e (hJ h e j):=by
 classical
 intro d i f g;unfold hJ at g ⊢;rw[bW]at g ⊢;let⟨a,l,b⟩:=d;have f:l=aD:=f;subst f;exact⟨k _ i,hH<|i9.step (of_decide_eq_true g.2) i⟩
def m8(K:Za)(gi:Wk)(h7:Sp)(hY:Sp)(mB:Sp):TS :=
 ee (bU K<|cF gi "rooms" h7 [] E0 V0 aW) U1 (ee (bU K<|cF gi "asks" hY [] E0 V0 aW) U2<|cV (oN<|tB<|aM mB<|eP V0 V1 V2) (oO)<|bC)
def nE:List Ws:=["I","room","ask"]
inductive jS(C:Wk)(vs:List V)(H:Hp)(Q:VK)(E:XK):Prop
 |mk (x:Wk) (J0 J2 J3:Zb) (ds:List am):vs=[.ref x]->bf C H x J0 J2 J3 ds->((∀r∈J3,∀a∈J0,hW ds r a))->(∀H',ab H H'->Q .zr H')->jS C vs H Q E
theorem BW{K:Za}(h:jS C L H Q E):m8 K C (js C) (kZ C) (mB C) (bT Q) (start nE L) H:=by
 let⟨x,e,s,f,t,rfl,M,tk,k⟩:=h;let⟨u,fs,o1,o2,o3,o4,lv,qu,T,sl,ts,U,Y,al,w,a1,a2,a3,a4,_⟩:=id M.at_;apply⟨_,fj,x,u,fs,fj,w,a4,x,e,s,f,t,fj,M,λg h1=>?_⟩;let⟨N,Wy,o,A⟩:=Wx (o:=.lst<|f.map WB) h1;rw[Wy];apply⟨g,fj,⟨_,az.of A⟩,?_⟩
 let B:Nat->L2.St->Hp->Prop:=λi σ l=>∃y z,σ=[eH<|.ref x,y,z]/\ab N l
 refine cb (xs:=f.map WB) B ⟨_,_,fj,ab.refl _⟩ (λi σ l _ D=>by let⟨_,_,_,S⟩:=D;exact az.of<|S _ _ A) ?_ ?_
 .rintro i v σ m hi ⟨y,z,rfl,p⟩;let⟨r,O,rfl⟩:=bu hi;have M2:=M.same<|o.trans p;let⟨u,fs,w,a1,_⟩:=id M2.more;apply⟨_,fj,x,u,fs,fj,w,a1,x,e,s,f,t,fj,M2,λn h2=>?_⟩;let⟨H3,Wy,G,I⟩:=Wx (o:=.lst<|e.map WB) h2;rw[Wy];have G:=p.trans<|G;apply⟨n,fj,⟨_,az.of I⟩,?_⟩
  let J:Nat->L2.St->Hp->Prop:=λj σ l=>∃z,σ=[eH<|.ref x,eH<|.str r,z]/\ab H3 l
  refine cb (xs:=e.map WB) J ⟨_,fj,ab.refl _⟩ (λi σ l _ D=>by let⟨_,_,S⟩:=D;exact az.of<|S _ _ I) ?_ ?_
  .rintro j v σ H4 hj ⟨z,rfl,q⟩;let⟨a,ha,rfl⟩:=bu hj;apply⟨_,fj,_,fj,_,fj,x,r,a,e,s,f,t,fj,M.same<|(o.trans G).trans q,cj O,λH5 S5=>⟨_,fj,?_⟩⟩;rw[oJ.2<|tk r (cj O) a<|cj ha];exact bF ⟨_,fj,q.trans S5⟩
  .rintro σ H4 ⟨z,rfl,q⟩;exact⟨_,_,fj,G.trans q⟩
 .rintro σ m ⟨y,z,rfl,p⟩;exact k m<|o.trans p
abbrev LP:=(List Ws×List Ws)×List Sg
abbrev iD:=List Ws×List Ws
def b9(k:iD):TK:=.t [j9 k.1,j9 k.2]
theorem xL(h:b9 a=b9 b):a=b:=by
 unfold b9 at h;injection h with h;injection h with f e;injection e with e _;let⟨a1,a2⟩:=a;let⟨g,i⟩:=b;rw[show a1=g from k_ f,show a2=i from k_ e]
theorem cp(k:iD):(b9 k).depth<=8:=by
 show max (j9 k.1).depth (max (j9 k.2).depth 0)+1<=8;rw[pk,pk]
 decide
def r_(H:Hp)(b:Wk)(k:iD):Prop:=∃u v,H b=eH (.tup [.ref u,.ref v])/\SignAt H u k.1/\SignAt H v k.2
theorem r_.kt(kt:h_ H a):r_ H b k->r_ a b k:=λ⟨u,v,e,f,g⟩=>⟨u,v,kt _ _ e,kt _ _ f,kt _ _ g⟩
theorem r_.tk(h:r_ H b k):fX H (b9 k) (.ref b):=by
 let⟨u,v,a,e,f⟩:=h;unfold b9 fX;apply⟨b,_,fj,a,?_⟩;unfold ub;apply⟨_,_,fj,SignAt.tk e,?_⟩;unfold ub;apply⟨_,_,fj,SignAt.tk f,?_⟩;unfold ub
 rfl
def zo(L:List iD):List (TK×V):=L.map λk=>(b9 k,.bl true)
theorem Cd(k:iD):∀L:List iD,(cy (zo L)<|b9 k).isSome=decide (k∈L)
 |[]=>rfl
 |x::L=>by
  show(cy ((b9 x,V.bl true)::zo L)<|b9 k).isSome=_;by_cases c:x=k
  .rw[c8 (by show b9 x=b9 k;rw[c])];simp[c]
  .rw[cU<|λz=>c<|xL z,Cd k L];simp[dA c]
theorem Nf(n:¬k∈L):dR (zo L) (b9 k) (.bl true)=zo (L++[k]):=by
 have a:cy (zo L) (b9 k)=none:=by
  have:=Cd k L;rw[hB n]at this;cases e:cy (zo L) (b9 k)with
  |none=>rfl
  |some v=>rw[e]at this;cases this
 rw[jx _ a];unfold zo;rw[au];rfl

abbrev JA(K:Za)(H:Hp)(gs:Ze)(s:List Sg):Prop:=Paired (λg (sg:Sg)=>dg K H g<|sg.map WB) gs s
def Fg(K:Za)(w4:Wk)(B2:Sp):TS :=
 aq (aU (z6 w4 B2 [] E0<|aB V0) U1)
 (bo<|Kb K<|aK (ik K V1 "faces")<|ik K V1 "first_stories")
def GC:List Ws:=["M","found"]
theorem Jh{d:Wk}{o:Obj}{u:HO}{n:Nat}{f:Nat->Hp->V->V->Prop}{g:TG}{k:TS}{D:mQ}{σ:L2.St}{H:Hp}(Pv:Nat->L2.St->Hp->Prop)(r:Pv 0 σ H)(s:∀i σ H,i<=n->Pv i σ H->H d=eH (.oI o u))
  (t:∀i σ H a b,i<n->Pv i σ H->f i H a b->g a σ H fun σ2 j=>k {D with nx:=Pv<|i+1,ct:=Pv<|i+1,bk:=D.nx} σ2 j) (v:∀σ H,Pv n σ H->D.nx σ H) :
  ∃W:Nat->Nat->L2.St->Hp->Prop,(∃m,W 0 m σ H)/\∀i m σ H,W i m σ H ->
   ((Mc d o u n f).stop i H/\D.nx σ H)∨((Mc d o u n f).go i H/\∃N:L2.St->Hp->Prop,(∀σ' h,N σ' h->∃l,l<m/\W (i+1) l σ' h)/\∀x h,(Mc d o u n f).Se i H x h->g x σ h fun σ2 j=>k {D with nx:=N,ct:=N,bk:=D.nx} σ2 j):=by
 apply⟨λi m σ H=>m=n-i/\i<=n/\Pv i σ H,⟨n,by simp,cH _,r⟩,?_⟩;rintro i m σ H ⟨rfl,hi,p⟩;have q:=s i σ H hi p;by_cases lt:i<n
 .refine .inr ⟨⟨q,lt⟩,Pv<|i+1,fun σ' h w=>⟨n-(i+1),by nofun,fj,lt,w⟩,λx h y=>?_⟩;let⟨rfl,b,z⟩:=y;exact t i σ _ x b lt p z
 .have e:i=n:=by nofun
  subst e;exact .inl ⟨⟨q,aF _⟩,v σ H p⟩
open Builtin.Int (intBits)
def uB(K:Za):TS :=
 aq (aU (dL G_<|aK V0<|dL (dO K)<|aB<|tC<|.str "abcdefghijklmnopqrstuvwxyz")<|gR K 2<|aY U1<|aY U2<|gf)
 (bo<|aI KO (aI FG (tC<|.str "abcdefghijklmnopqrstuvwxyz") V1)<|aI FG (tC<|.str "abcdefghijklmnopqrstuvwxyz") V2)
def u4:List Ws:=["number","tens","ones"]
def J_(K:Za):TS :=
 bo (cZ 1 [1] (bU K V0) U0 (a_<|aI (lZ K false) V0 V1) V0)
def LO:List Ws:=["words","others"]
def EZ(K:Za)(ny:Sp)(gi:Wk)(hY:Sp)(hI:Sp):TS :=
 bo (aI jU (aM ny<|aK (cF gi "says" hI [] E0 V0 aW)<|cF gi "asks" hY [] E0 V1 aW)<|aM ny<|aK (cF gi "says" hI [] E0 V1 aW)<|cF gi "asks" hY [] E0 V0 aW)
def Gu:List Ws:=["M","N"]
def xk(K:Za)(gi:Wk)(hY:Sp)(PY:Sp):TS :=
 aq (aU (aM PY<|aK V0 V1) U2)
 (bo<|cZ 1 [2] (bU K<|aI jU (cF gi "asks" hY [] E0 V0 aW)<|cF gi "asks" hY [] E0 V1 aW) U0 (a_<|aI (lZ K true) V0 V1) V0)
def yF:List Ws:=["M","N","wires"]
def Fe(K:Za)(gi:Wk)(QJ:Sp)(h7:Sp):TS :=
 bo (vk (aI Od (dL (dO K)<|aB<|cF gi "rooms" h7 [] E0 V0 aW)<|tC<|.int 10)<|aI Od (dL (dO K)<|aB<|cF gi "doors" QJ [] E0 V0 aW)<|tC<|.int 40)
def GA:List Ws:=["M"]
def Df(K:Za)(gi:Wk)(hI:Sp)(vn:Sp)(ny:Sp)(hY:Sp)(QV:Sp):TS :=
 aq (cV (C3 (oN<|tB<|aM QV<|aB V0)<|oN<|tB<|aM QV<|aB V1) (oO)<|bC)
 (aq (cV (C3 (a_<|aI DC (dL (dO K)<|aB<|aM ny<|aK (cF gi "asks" hY [] E0 V0 aW)<|cF gi "asks" hY [] E0 V1 aW)<|tC<|.int 0)<|a_<|aI DC (dL (dO K)<|aB<|aM ny<|aK (cF gi "says" hI [] E0 V0 aW)<|cF gi "says" hI [] E0 V1 aW)<|tC<|.int 0) (oO)<|bC)
 (aq (cV (a_<|aI IL (dL (dO K)<|aB<|aM vn<|aK V0 V1)<|tC<|.int 0) (oO)<|bC)
 (cV (C3 (a_<|aI DC (dL (dO K)<|aB<|aM vn<|aK V0 V1)<|tC<|.int 4)<|a_<|aI DC (dL (dO K)<|aB<|aI jU (cF gi "says" hI [] E0 V0 aW)<|cF gi "says" hI [] E0 V1 aW)<|tC<|.int 4) (oO)<|bC)))
def EG:List Ws:=["M","N"]
def BI(K:Za)(gi:Wk)(PR:Sp)(ro:Wk):TS :=
 bo (cZ 3 [2] (bU K<|cF gi "doors_from" PR [] E0 V0<|aB V1) (gR K 3<|aY U0<|aY U1<|aY U2<|gf) (C3 (a_<|aI (n6 K) V1<|tC<|.ref ro)<|a_<|aI (lZ K true) (aI (io K) V1<|tC<|.int 1) V3)<|cB<|aK V1 V2)
def CU:List Ws:=["M","room","wires"]
def yW(K:Za)(Qk:Sp):TS :=
 aq (aU V2<|gR K 2<|aY U4<|aY U5<|gf)
 (aq (aU (cZ 2 [2,5] (bU K<|aM Qk<|eP V0 V4 V3) (gR K 2<|aY U0<|aY U1<|gf) (iN)<|cB<|eP V2 V0<|cB<|aK V1 V3) U6)
 (bo<|aI jU V6<|cZ 2 [2,4] (bU K<|aM Qk<|eP V1 V5 V3) (gR K 2<|aY U0<|aY U1<|gf) (iN)<|cB<|eP V2 V0<|cB<|aK V3 V1))
def zM:List Ws:=["M","N","here","wires","one","other","doors"]
def BC(K:Za)(gi:Wk)(ri:Sp)(hI:Sp):TS :=
 bo (cF gi "goals" ri [] E0 V0<|av V1<|av (cB<|aK (Vw (a_<|aI (lZ K false) V2<|cF gi "says" hI [] E0 V0 aW) (tC<|.str "say")<|tC<|.str "ask") V2) aW)
def CN:List Ws:=["M","room","word"]
def uF(K:Za)(Qi:Sp):TS :=
 aq (aU (bw<|aW) U4)
 (aq (ee (bU K V3) U5 (aq (aU (aM Qi<|eP V1 (aI (io K) V2<|tC<|.int 1) V5) U6)
 (ee (bU K<|aM Qi<|eP V0 (aI (io K) V2<|tC<|.int 0) V5) U7<|cY<|wb K "list" tu V4<|av (cZ 1 [2,5,7] (bU K V6) U0 (iN)<|cB<|eP V1 (cB<|aK (tC<|.str "say") V2)<|cB<|aK V3 V0) aW)))
 (bo V4))
def u_:List Ws:=["M","N","here","wires","doors","word","others","goal"]
def uA(K:Za)(gi:Wk)(h7:Sp):TS :=
 aq (aU (bw<|aW) U2)
 (aq (ee (bU K<|cF gi "rooms" h7 [] E0 V0 aW) U3<|cY<|wb K "list" tu V2<|aB<|cZ 1 [3] (bU K<|cF gi "rooms" h7 [] E0 V1 aW) U0 (iN)<|cB<|aK V1 V0)
 (bo V2))
def u3:List Ws:=["M","N","pairs","room"]
theorem bf.RW(h:bf C H x g i j k):∃(e:Wk) (fs:List<|Ws×V),H x=eH (.ins C e fs)/\lk "asks" fs=none/\lk "says" fs=none/\lk "rooms" fs=none/\lk "doors" fs=none/\lk "doors_from" fs=none/\lk "goals" fs=none:=by
 let⟨e,fs,v,w,y,z,A,B,D,E,G,l,m,n,f,a1,a2,a3,o,_⟩:=h.at_;let⟨p,q,a,r,s,t,u⟩:=h.more;rw[f]at a;cases a;exact⟨e,fs,f,r,s,o,t,u,a2⟩
theorem i6:∀a:List Ws,DT.gg (a.map dD)=0
 |[]=>rfl
 |w::a=>by show max 0 (DT.gg<|a.map dD)=0;rw[i6 a];rfl
theorem rN{K:Za}{g os:Zb}(hσ:de 1 fi σ=[none,eH<|.ref b])(r:H a=eH (.lst<|g.map WB))(s:H b=eH (.lst<|os.map WB))(n:H l=none)(D:g.length<=900)(k:∀f,ab H f->f l=eH (.lst<|(g.filter λw=>if neg=true then !decide (w∈os)else decide (w∈os)).map WB)->Q f) :
  dB 1 fi σ (HW K a) U0 (a_<|aI (lZ K neg) V0 V1) V0 H l Q:=by
 let t:Nat->List V->Hp->Prop:=λi j f=>j=((g.take i).filter λw=>if neg=true then !decide (w∈os)else decide (w∈os)).map WB/\ab H f/\f l=eH (.lst j)
 refine cu (xs:=g.map WB) t ⟨fj,ab.new n,aa⟩ (λi j f _ u=>by let⟨_,S,y⟩:=u;exact⟨y,az.of<|S _ _ r⟩) ?_ ?_
 .rintro j p ⟨rfl,S,m⟩;rw[ag,aX]at m;exact k p S m
 .rintro i j p x hx hi ⟨rfl,S,m⟩;let⟨w,q,rfl⟩:=bu hx;rw[hσ];refine gN ⟨_,fj,_,fj,dD w,os.map dD,b,_,fj,fj,.inl<|az.of<|S _ _ s,iB os,cH _,by rw[i6];decide,_,fj,?_⟩;have A:(dD w∈os.map dD)↔w∈os:=⟨λz=>by let⟨v,B,e⟩:=ar.1 z;have e:DT.k (.inr v)=DT.k (.inr w):=e;injection e with e;injection e with e;rw[<-e];exact B,eC⟩;have C:(if neg=true then !decide (dD w∈os.map dD)else decide (dD w∈os.map dD))=(if neg=true then !decide (w∈os)else decide (w∈os)):=by rw[decide_eq_decide.2 A]
  rw[C];by_cases c:(if neg=true then !decide (w∈os)else decide (w∈os))=true
  .rw[c];refine cS ⟨_,fj,m,?_,oj hi ⟨?_,λb o e=>?_,aa⟩⟩
   .have:=b_ (λw=>if neg=true then !decide (w∈os)else decide (w∈os))<|g.take i
    rw[aS]at this;rw[ag]at hi ⊢;exact ao ⋯
   .rw[take_snoc q,gJ,au];have:[w].filter (λw=>if neg=true then !decide (w∈os)else decide (w∈os))=[w]:=by rw[lE,if_pos c];rfl
    rw[this];rfl
   .rw[ah<|ae e n];exact S _ _ e
  .rw[Bool.eq_false_iff.2 c];refine bF<|oj hi ⟨?_,S,m⟩;rw[take_snoc q,gJ];have:[w].filter (λw=>if neg=true then !decide (w∈os)else decide (w∈os))=[]:=by rw[lE,if_neg c];rfl
   rw[this,dj]
inductive ny(vs:List V)(H:Hp)(Q:VK)(E:XK):Prop
 |mk (a b:Wk) (ws os:Zb):vs=[.ref a,.ref b]->H a=eH (.lst (ws.map WB))->H b=eH (.lst (os.map WB))->ws.length<=900->(∀(l:Wk) (H':Hp),H' l=eH (.lst ((ws.filter λw=>decide (w∈os)).map WB))->H l=none->ab H H'->Q (.ref l) H')->ny vs H Q E
theorem IG{K:Za}(h:ny e H Q E):J_ K (bT Q) (start LO e) H:=by
 let⟨a,b,o,os,rfl,f,i,j,k⟩:=h;apply⟨_,fj,a,fj,⟨_,az.of f⟩,λl g=>?_⟩;exact rN (neg:=false) rfl f i g j λm S n=>k l m n g S
def aG(J0 J2 Ww Wv:Zb):List Ws:=J2.filter (λw=>decide (w∈Ww))++Wv.filter λw=>decide (w∈J0)
def cX(J0 J2 Ww Wv:Zb):List Ws:=(J0++Ww).filter λw=>!decide (w∈aG J0 J2 Ww Wv)
inductive oT(C:Wk)(vs:List V)(H:Hp)(Q:VK)(E:XK):Prop
 |mk (M N:Wk) (J0 J2 J3 Ww Wv Wu:Zb) (ds gr:List am):vs=[.ref M,.ref N]->bf C H M J0 J2 J3 ds->bf C H N Ww Wv Wu gr->(∀(l:Wk) (H':Hp),H' l=eH (.lst ((aG J0 J2 Ww Wv).map WB))->H l=none->ab H H'->Q (.ref l) H')->oT C vs H Q E
theorem Ko{K:Za}(h:oT C vs H Q E):EZ K ny C (kZ C) (kW C) (bT Q) (start Gu vs) H:=by
 let⟨M,N,g,i,J3,a,e,f,ds,t,rfl,L,U,k⟩:=h;have z1:=L.ok.A2;have z2:=U.ok.A2;let⟨Y,al,g1,b0,an,_⟩:=L.RW;apply⟨_,fj,M,Y,al,fj,g1,an,M,g,i,J3,ds,fj,L,λr ap=>?_⟩;let⟨v,Wy,j,u⟩:=Wx (o:=.lst<|i.map WB) ap;rw[Wy];have x:=U.same j;let⟨as,aC,h1,a0,b1,_⟩:=x.RW;apply⟨_,fj,N,as,aC,fj,h1,a0,N,a,e,f,t,fj,x,λm a4=>?_⟩;have n:=ab.new (o:=.lst<|a.map WB) a4;have y:=Wz v m (.lst<|a.map WB);have z:=n _ _ u;show ny [.ref r,.ref m] (upd v m<|.lst<|a.map WB) _ _;generalize upd v m (.lst<|a.map WB)=F1 at n y z ⊢;apply⟨r,m,i,a,fj,z,y,by nofun,λla O a5 bI a6=>?_⟩;have T:=(j.trans n).trans a6;have a7:=L.same T;have A:=U.same T;let⟨a8,a9,g2,b2,ba,_⟩:=A.RW;apply⟨_,fj,N,a8,a9,fj,g2,ba,N,a,e,f,t,fj,A,λs bb=>?_⟩;let⟨D,Wy,o,B⟩:=Wx (o:=.lst<|e.map WB) bb;rw[Wy];have G:=a7.same o;let⟨bd,bh,h2,bi,b3,_⟩:=G.RW;apply⟨_,fj,M,bd,bh,fj,h2,bi,M,g,i,J3,ds,fj,G,λp bl=>?_⟩;have q:=ab.new (o:=.lst<|g.map WB) bl;have I:=Wz D p (.lst<|g.map WB);have J:=q _ _ B;show ny [.ref s,.ref p] (upd D p<|.lst<|g.map WB) _ _;generalize upd D p (.lst<|g.map WB)=F2 at q I J ⊢;apply⟨s,p,e,g,fj,J,I,by nofun,λlb H2 bn bS bz=>?_⟩;have S2:=(o.trans q).trans bz;apply⟨la,lb,_,_,fj,fj,S2 _ _ a5,bn,?_,λl hl=>?_⟩
 .rw[ag,ag];have h1:=b_ (λw=>decide (w∈a)) i;have h2:=b_ (λw=>decide (w∈g)) e;exact cA (ao ⋯)
 exact k l _ (by rw[aa,<-au];rfl) ((T.trans S2).free hl)<|(T.trans S2).trans<|ab.new hl
inductive oX(C:Wk)(vs:List V)(H:Hp)(Q:VK)(E:XK):Prop
 |mk (M N:Wk) (J0 J2 J3 Ww Wv Wu:Zb) (ds gr:List am):vs=[.ref M,.ref N]->bf C H M J0 J2 J3 ds->bf C H N Ww Wv Wu gr->(∀(l:Wk) (H':Hp),H' l=eH (.lst ((cX J0 J2 Ww Wv).map WB))->H l=none->ab H H'->Q (.ref l) H')->oX C vs H Q E
theorem KD{K:Za}(h:oX C B H Q E):xk K C (kZ C) (oT C) (bT Q) (start yF B) H:=by
 let⟨M,N,i,D,G,a,f,e,I,m,rfl,t,u,k⟩:=h;have z1:=t.ok.B';have z2:=u.ok.B';apply⟨_,fj,_,fj,M,N,i,D,G,a,f,e,I,m,fj,t,u,λwl q x _ r=>?_⟩;have n:=t.same r;let⟨U,fs,g,a1,_⟩:=n.RW;apply⟨_,fj,M,U,fs,fj,g,a1,M,i,D,G,I,fj,n,λw Y=>?_⟩;let⟨o,Wy,y,J⟩:=Wx (o:=.lst<|i.map WB) Y;rw[Wy];have p:=u.same<|r.trans y;let⟨dy,gs,g',b1,_⟩:=p.RW;apply⟨_,fj,N,dy,gs,fj,g',b1,N,a,f,e,m,fj,p,λv hv=>?_⟩;have z:=ab.new (o:=.lst<|a.map WB) hv;have L:=Wz o v (.lst<|a.map WB);show jU (.ref w) (.ref v) (upd o v<|.lst<|a.map WB) _;generalize upd o v (.lst<|a.map WB)=s at z L ⊢;apply⟨w,v,_,_,fj,fj,z _ _ J,L,by rw[ag,ag];exact cA (ao ⋯),λc hc=>?_⟩;have O:=ab.new (o:=.lst<|i.map WB++a.map WB) hc;have T:upd s c (.lst<|i.map WB++a.map WB) c=eH (.lst<|(i++a).map WB):=by rw[aa,au]
 apply⟨c,fj,⟨_,az.of aa⟩,λl A=>?_⟩;generalize upd s c (.lst<|i.map WB++a.map WB)=H4 at O T A ⊢;have j:=y.trans<|z.trans O;refine rN (neg:=true) rfl T (j _ _ x) A (by rw[aA];nofun) λH' S h'=>k l H' h' ((r.trans j).free A)<|r.trans<|j.trans S
theorem bf.own(h:bf C H x k l m i):∃(g e:Wk) (fs:List<|Ws×V) (f:Ze),H x=eH (.ins C g fs)/\lk "rooms" fs=none/\lk "doors" fs=none/\lk "own_doors" fs=eH (.ref e)/\H e=eH (.lst<|f.map WC)/\dJ H f i:=by
 let⟨g,fs,v,w,y,e,z,A,B,D,f,n,o,p,j,a1,a2,a3,q,E,G,I,r,J,M,N,O,L,_⟩:=h.at_;let⟨s,t,a,Q,T,u,U⟩:=h.more;rw[j]at a;cases a;exact⟨g,e,fs,f,j,q,u,r,L.a4,L.ds⟩
inductive sQ(C:Wk)(vs:List V)(H:Hp)(Q:VK)(E:XK):Prop
 |mk (M:Wk) (J0 J2 J3:Zb) (ds:List am):vs=[.ref M]->bf C H M J0 J2 J3 ds->J3.length<=10->ds.length<=40->(∀H',ab H H'->Q (.bl true) H')->sQ C vs H Q E
theorem Kr{K:Za}(h:sQ C t H Q E):Fe K C (xD C) (js C) (bT Q) (start GA t) H:=by
 let⟨M,y,z,e,A,rfl,j,N,O,k⟩:=h;let⟨B,T,fs,U,g,a1,a2,_⟩:=j.own;apply⟨_,fj,M,B,fs,fj,g,a1,M,y,z,e,A,fj,j,λw D=>?_⟩;let⟨m,Wy,l,u⟩:=Wx (o:=.lst<|e.map WB) D;rw[Wy];refine .inl ⟨w,_,fj,.inl<|az.of u,_,_,fj,fj,_,fj,?_⟩;rw[ag,hH ⋯];refine cS ?_;have n:=j.same l;let⟨f,o,i,a,x,G,p,q,r,s⟩:=n.own;apply⟨_,fj,M,f,i,fj,x,p,M,f,o,i,a,fj,x,q,r,λv I=>?_⟩;have J:=ab.new (o:=.lst<|a.map WC) I;have L:=Wz m v (.lst<|a.map WC);refine .inl ⟨v,_,fj,.inl<|az.of L,_,_,fj,fj,?_⟩;have:=Paired.length s;rw[ag];show Q (.bl<|decide ((a.length:Int)<=40)) _;rw[hH ⋯];exact k _<|l.trans J
structure JoinOk(J0 J2 J3 Ww Wv Wu:Zb)(ds gr:List am):Prop where
 r1:J3.length<=10
 d1:ds.length<=40
 r2:Wu.length<=10
 d2:gr.length<=40
 UE:∀w∈J0,w∉Ww
 TV:∀w∈J2,w∉Wv
 a0:cX J0 J2 Ww Wv≠[]
 a4:(cX J0 J2 Ww Wv).length<=4
 s4:(J2++Wv).length<=4
inductive sS(C:Wk)(vs:List V)(H:Hp)(Q:VK)(E:XK):Prop
 |mk (M N:Wk) (J0 J2 J3 Ww Wv Wu:Zb) (ds gr:List am):vs=[.ref M,.ref N]->bf C H M J0 J2 J3 ds->bf C H N Ww Wv Wu gr->JoinOk J0 J2 J3 Ww Wv Wu ds gr->(∀H',ab H H'->Q .zr H')->sS C vs H Q E
theorem vE{a os:Zb}(h:∀w∈a,w∉os):a.filter (λw=>decide (w∈os))=[]:=wH.2 λw e z=>h w e<|of_decide_eq_true z
theorem Kw{K:Za}(h:sS C vs H Q E):Df K C (kW C) (oX C) ny (kZ C) (sQ C) (bT Q) (start EG vs) H:=by
 let⟨M,N,n,i,L,e,a,f,O,l,rfl,o,p,J,k⟩:=h;have y1:=o.ok.B';have y2:=o.ok.A2;have y3:=p.ok.B';have y4:=p.ok.A2;apply⟨_,fj,M,n,i,L,O,fj,o,J.r1,J.d1,λH1 S1=>⟨_,fj,bF ?_⟩⟩;apply⟨_,fj,N,e,a,f,l,fj,p.same S1,J.r2,J.d2,λH2 S2=>⟨_,fj,bF ?_⟩⟩;have u:=S1.trans S2;let⟨dx,fs,g,a1,_⟩:=(o.same u).RW;apply⟨_,fj,M,dx,fs,fj,g,a1,M,n,i,L,O,fj,o.same u,λw hw=>?_⟩;let⟨U,Wy,S3,w3⟩:=Wx (o:=.lst<|n.map WB) hw;rw[Wy];have x:=u.trans S3;let⟨a7,a8,g',b1,_⟩:=(p.same x).RW;apply⟨_,fj,N,a7,a8,fj,g',b1,N,e,a,f,l,fj,p.same x,λv hv=>?_⟩;have S4:=ab.new (o:=.lst<|e.map WB) hv;have v4:=Wz U v (.lst<|e.map WB);show ny [.ref w,.ref v] (upd U v<|.lst<|e.map WB) _ _;generalize upd U v (.lst<|e.map WB)=H4 at S4 v4 ⊢;apply⟨w,v,n,e,fj,S4 _ _ w3,v4,by nofun,λc H5 hc _ S5=>?_⟩;rw[vE J.UE]at hc;refine .inl ⟨c,_,fj,.inl<|az.of hc,_,_,fj,fj,_,fj,?_⟩;rw[hB Wt];refine bF ?_;have y:=x.trans<|S4.trans S5;let⟨ex,es,e1,_,e2,_⟩:=(o.same y).RW;apply⟨_,fj,M,ex,es,fj,e1,e2,M,n,i,L,O,fj,o.same y,λT a9=>?_⟩;let⟨Y,Wy,S6,w6⟩:=Wx (o:=.lst<|i.map WB) a9;rw[Wy];have A:=y.trans S6;let⟨ba,bb,bd,_,bh,_⟩:=(p.same A).RW;apply⟨_,fj,N,ba,bb,fj,bd,bh,N,e,a,f,l,fj,p.same A,λB bi=>?_⟩;have S7:=ab.new (o:=.lst<|a.map WB) bi;have v7:=Wz Y B (.lst<|a.map WB);show ny [.ref T,.ref B] (upd Y B<|.lst<|a.map WB) _ _;generalize upd Y B (.lst<|a.map WB)=H7 at S7 v7 ⊢;apply⟨T,B,i,a,fj,S7 _ _ w6,v7,by nofun,λc2 H8 an _ S8=>?_⟩;rw[vE J.TV]at an;refine .inl ⟨c2,_,fj,.inl<|az.of an,_,_,fj,fj,_,fj,?_⟩;rw[hB Wt];refine bF ?_;have D:=A.trans<|S7.trans S8;apply⟨_,fj,_,fj,M,N,n,i,L,e,a,f,O,l,fj,o.same D,p.same D,λal H9 bl _ S9=>?_⟩;refine .inl ⟨al,_,fj,.inl<|az.of bl,fj,_,fj,?_⟩;have b7:=List.length_pos_iff.2 J.a0;rw[ag,hB (by intro z;injection z with z;nofun)];refine bF ?_;have G:=D.trans S9;apply⟨_,fj,_,fj,M,N,n,i,L,e,a,f,O,l,fj,o.same G,p.same G,λbn t ap _ bz=>?_⟩;have a4:=J.a4;have s4:=J.s4;refine .inl ⟨bn,_,fj,.inl<|az.of ap,_,_,fj,fj,_,fj,?_⟩;rw[ag,hB ⋯];refine bF ?_;have q:=G.trans bz;let⟨fx,fz,f1,_,f2,_⟩:=(o.same q).RW;apply⟨_,fj,M,fx,fz,fj,f1,f2,M,n,i,L,O,fj,o.same q,λm bI=>?_⟩;let⟨r,Wy,as,aC⟩:=Wx (o:=.lst<|i.map WB) bI;rw[Wy];have s:=q.trans as;let⟨bS,b0,b2,_,b3,_⟩:=(p.same s).RW;apply⟨_,fj,N,bS,b0,fj,b2,b3,N,e,a,f,l,fj,p.same s,λj b4=>?_⟩;have I:=ab.new (o:=.lst<|a.map WB) b4;have a5:=Wz r j (.lst<|a.map WB);show jU (.ref m) (.ref j) (upd r j<|.lst<|a.map WB) _;generalize upd r j (.lst<|a.map WB)=a6 at I a5 ⊢;rw[aA]at s4;apply⟨m,j,_,_,fj,fj,I _ _ aC,a5,by rw[ag,ag];exact cA (ao ⋯),λc3 b5=>?_⟩;have b6:=ab.new (o:=.lst<|i.map WB++a.map WB) b5;refine .inl ⟨c3,_,fj,.inl<|az.of aa,_,_,fj,fj,_,fj,?_⟩;rw[aA,ag,ag,hB ⋯];exact bF<|k _<|s.trans<|I.trans b6
def aL(J3 Wu:Zb):List (Ws×Ws):=J3.flatMap λr=>Wu.map λo=>(r,o)
def Py(H:Hp)(u:Wk)(p:Ws×Ws):Prop:=H u=eH (.tup [.str p.1,.str p.2])
theorem DM{e:Zb}(h:e[i]?=eH r):aL (e.take<|i+1) a=aL (e.take i) a++a.map λo=>(r,o):=by
 unfold aL;rw[take_snoc h,qE,AM]
theorem iV:(aL e a).length=e.length * a.length:=by
 unfold aL
 induction e with
 |nil=>simp
 |cons r g f=>rw[List.flatMap_cons,aA,f,ag,eT,AO,Nat.add_comm]
inductive pB(C:Wk)(vs:List V)(H:Hp)(Q:VK)(E:XK):Prop
 |mk (M N:Wk) (J0 J2 J3 Ww Wv Wu:Zb) (ds gr:List am):vs=[.ref M,.ref N]->bf C H M J0 J2 J3 ds->bf C H N Ww Wv Wu gr->J3.length<=10->Wu.length<=10->(∀(l:Wk) (us:Ze) (H':Hp),H' l=eH (.lst (us.map WC))->Paired (Py H') us (aL J3 Wu)->H l=none->ab H H'->Q (.ref l) H')->pB C vs H Q E
theorem Iy{K:Za}(h:pB C vs H Q E):uA K C (js C) (bT Q) (start u3 vs) H:=by
 let⟨M,N,J0,J2,j,p,s,a,ds,al,rfl,MM,MN,z1,z2,k⟩:=h;apply⟨(by show 0<=ak;decide),λe t=>?_⟩;have T:=ab.new (o:=.lst []) t;have p0:upd H e (.lst []) e=eH (.lst<|([]:Ze).map WC):=aa;generalize upd H e (.lst [])=U at T p0 ⊢;let⟨dx,fs,g,_,_,a1,_⟩:=(MM.same T).RW;apply⟨_,fj,M,dx,fs,fj,g,a1,M,J0,J2,j,ds,fj,MM.same T,λv D=>?_⟩;have S1:=ab.new (o:=.lst<|j.map WB) D;have r1:=Wz U v (.lst<|j.map WB);have an:v≠e:=(ae p0 D).symm;apply⟨v,fj,⟨_,az.of aa⟩,?_⟩;generalize upd U v (.lst<|j.map WB)=H1 at S1 r1 ⊢
 let zI:Nat->L2.St->Hp->Prop:=λi σ f=>JG λ(w:Ze) (x3:Option V)=>Ma (σ=[eH<|.ref M,eH<|.ref N,eH<|.ref e,x3]) (f e=eH (.lst<|w.map WC)) (Paired (Py f) w<|aL (j.take i) a) (ab H f)<|f v=eH (.lst<|j.map WB)
 refine cb (xs:=j.map WB) zI ⟨[],_,fj,S1 _ _ p0,.nil,T.trans S1,r1⟩ (λi σ f _ zq=>by let⟨_,_,_,_,_,_,h'⟩:=zq;exact az.of h') ?_ ?_;rotate_left
 .rintro σ A ⟨w,x3,rfl,Y,G,I,_⟩;rw[ag,aX]at G;exact⟨_,fj,k e w A Y G t I⟩
 rintro i x σ A hx ⟨w,x3,rfl,Y,G,I,ap⟩;let⟨r,hr,rfl⟩:=bu hx;have il:=(bY.1 hr).1;let⟨dy,gs,g',_,_,b1,_⟩:=(MN.same I).RW;apply⟨_,fj,.inl ⟨fj,_,az.of Y⟩,_,fj,N,dy,gs,fj,g',b1,N,p,s,a,al,fj,MN.same I,λJ as=>?_⟩;have S3:=ab.new (o:=.lst<|a.map WB) as;have o3:=Wz A J (.lst<|a.map WB);apply⟨J,fj,⟨_,az.of aa⟩,λcl y=>?_⟩;generalize upd A J (.lst<|a.map WB)=H3 at S3 o3 y ⊢
 let zC:Nat->List V->Hp->Prop:=λn vs f=>∃m:List Wk,Mb (vs=m.map WC) (ab H3 f) (f cl=eH (.lst vs)) (Paired (Py f) m<|(a.take n).map λo=>(r,o))
 refine cu (xs:=a.map WB) zC ⟨[],fj,ab.new y,aa,.nil⟩ (λi vs f _ zq=>by let⟨_,_,S,h',_⟩:=zq;exact⟨h',az.of<|S _ _ o3⟩) ?_ ?_
 .rintro vs z ⟨m,rfl,S4,h4,B⟩;rw[ag,aX]at B;have l:=S3.trans S4;have L:=l _ _ Y;have lu:=Paired.length G;have lw:=Paired.length B;rw[iV,aS]at lu;rw[ag]at lw;have a0:min i j.length * a.length<=10 * 10:=t6 ⋯ z2;have kt:h_ z (upd z e<|.lst<|w.map WC++m.map WC):=eF L;apply⟨e,cl,_,_,fj,fj,L,h4,by rw[ag,ag];exact cA (ao ⋯),w++m,_,fj,by rw[aa,au],?_,λb o q=>?_,?_⟩
  .rw[DM hr];exact Paired.app (Paired.i3 G λ_ _ q=>kt _ _<|l _ _ q)<|Paired.i3 B λ_ _ q=>kt _ _ q
  .rw[ah<|ae q t];exact l _ _<|I _ _ q
  .rw[ah an];exact l _ _ ap
 .rintro n vs z x hx hn ⟨m,rfl,S4,h4,B⟩;let⟨o,ho,rfl⟩:=bu hx;have nl:=(bY.1 ho).1;refine gN (su ⟨_,fj,_,fj,(by show 2<=ak;decide),λu aC=>?_⟩);let⟨H5,Wy,O,u5⟩:=Wx (o:=.tup [.str r,.str o]) aC;rw[Wy];have kt:h_ H5 (upd H5 cl<|.lst<|m.map WC++[.ref u]):=eF<|O _ _ h4;apply⟨O _ _ h4,by rw[ag,Paired.length B,ag,aS];exact ao ⋯,oj hn ⟨m++[u],by rw[au];rfl,λb o q=>?_,aa,?_⟩⟩
  .rw[ah<|ae q y];exact O _ _<|S4 _ _ q
  .rw[take_snoc ho,au];exact eD (Paired.i3 B λ_ _ q=>kt _ _<|O _ _ q)<|kt _ _ u5
def dv(J2:Zb)(w:Ws):List Ws:=if w∈J2 then bZ w else bQ w
inductive sN(C:Wk)(vs:List V)(H:Hp)(Q:VK)(E:XK):Prop
 |mk (M:Wk) (r w:Ws) (J0 J2 J3:Zb) (ds:List am):vs=[.ref M,.str r,.str w]->bf C H M J0 J2 J3 ds->(∀(l:Wk) (H':Hp),H' l=eH (.lst ((aZ ds (r,dv J2 w)).map WB))->H l=none->ab H H'->Q (.ref l) H')->sN C vs H Q E
theorem Kp{K:Za}(h:sN C t H Q E):BC K C (g_ C) (kW C) (bT Q) (start CN t) H:=by
 let⟨M,r,w,u,a,x,y,rfl,o,k⟩:=h;let⟨A,fs,g,a1,a2,a3,U,Y,D⟩:=o.RW;apply⟨_,fj,M,A,fs,fj,g,D,_,fj,_,fj,_,fj,M,A,fs,fj,g,a2,M,u,a,x,y,fj,o,λf p=>?_⟩;let⟨n,Wy,m,B⟩:=Wx (o:=.lst<|a.map WB) p;rw[Wy];apply⟨dD w,a.map dD,f,_,fj,fj,.inl<|az.of B,iB a,cH _,by rw[i6];decide,_,fj,?_⟩;have G:(dD w∈a.map dD)↔w∈a:=⟨λz=>by let⟨v,I,e⟩:=ar.1 z;have e:DT.k (.inr v)=DT.k (.inr w):=e;injection e with e;injection e with e;rw[<-e];exact I,eC⟩;have J:(if false=true then !decide (dD w∈a.map dD)else decide (dD w∈a.map dD))=decide (w∈a):=decide_eq_decide.2 G
 rw[J];have i:∀(kd:Ws),dv a w=[kd,w]->∀(q:Wk),n q=none->g_ C [.ref M,.str r,.ref q] (upd n q<|.tup [.str kd,.str w]) Q E0:=λkd e q j=>by
  have s:=ab.new (o:=.tup [.str kd,.str w]) j;apply⟨M,q,r,dv a w,u,a,x,y,fj,o.same<|m.trans s,by rw[e];exact aa,λl L N O T=>k l L N ((m.trans s).free O)<|(m.trans s).trans T⟩
 by_cases c:w∈a
 .rw[hH c];refine cS ⟨_,fj,(by show 2<=ak;decide),λq j=>?_⟩;exact i "say" (if_pos c) q j
 .rw[hB c];refine bF ⟨_,fj,(by show 2<=ak;decide),λq j=>?_⟩;exact i "ask" (if_neg c) q j
def q0(sg:Zb):Ws:=sg.getD 1 ""
def df(wires:Zb)(d:am):Bool:=decide (d.sg=aD) || !decide (q0 d.sg∈wires)
def nB(ds:List am)(r:Ws)(wires:Zb):List am:=(bM ds r).filter<|df wires
def GJ(H:Hp)(u:Wk)(d:am):Prop:=∃s,H u=eH (.tup [.ref s,.str d.b])/\SignAt H s d.sg
theorem GJ.kt(k:h_ H H')(h:GJ H u d):GJ H' u d:=by
 let⟨s,a,e⟩:=h;exact⟨s,k _ _ a,k _ _ e⟩
theorem tQ{l:List am}(h:l[i]?=eH e):(l.take<|i+1).filter p=(l.take i).filter p++(if p e=true then[e]else[]):=by
 rw[take_snoc h,gJ];by_cases c:p e=true
 .rw[if_pos c];simp[c]
 .rw[if_neg c];simp[c]
theorem vw:(bM ds r).length<=ds.length:=by
 unfold bM
 first|exact b_ _ _|(rw[ag];exact b_ _ _)
inductive sY(C:Wk)(vs:List V)(H:Hp)(Q:VK)(E:XK):Prop
 |mk (M wl:Wk) (r:Ws) (J0 J2 J3 wires:Zb) (ds:List am):vs=[.ref M,.str r,.ref wl]->bf C H M J0 J2 J3 ds->r∈J3->H wl=eH (.lst (wires.map WB))->ds.length<=40->(∀(l:Wk) (us:Ze) (H':Hp),H' l=eH (.lst (us.map WC))->Paired (GJ H') us (nB ds r wires)->H l=none->ab H H'->Q (.ref l) H')->sY C vs H Q E
theorem KG{K:Za}{C st:Wk}(al:∀H,bE K H st<|aD.map WB){p:List V}{H:Hp}{Q:VK}{E:XK}(h:sY C p H Q E):BI K C (jk C) st (bT Q) (start CU p) H:=by
 let⟨M,wl,r,J0,J2,J3,f,ds,rfl,MA,hr,an,zd,k⟩:=h;let⟨dx,fs,g,_,_,_,_,a5,_⟩:=MA.RW;apply⟨_,fj,M,dx,fs,fj,g,a5,_,fj,M,r,J0,J2,J3,ds,fj,MA,hr,λdl us H1 N y _ S1=>⟨dl,fj,⟨_,az.of N⟩,λO A=>?_⟩⟩;have t:∀d∈bM ds r,yI J0 J2 J3 d:=λd B=>MA.ok.good d (by unfold bM at B;exact(bW.1 B).1);have ll:=vw (ds:=ds) (r:=r);unfold nB at k;generalize bM ds r=L at y t ll k
 let zC:Nat->List V->Hp->Prop:=λn p Y=>∃l:List Wk,Mb (p=l.map WC) (ab H1 Y) (Y O=eH (.lst p)) (Paired (GJ Y) l<|(L.take n).filter<|df f)
 refine cu (xs:=us.map WC) zC ⟨[],fj,ab.new A,aa,.nil⟩ (λi p Y _ zq=>by let⟨_,_,S,h',_⟩:=zq;exact⟨h',az.of<|S _ _ N⟩) ?_ ?_
 .rintro p m ⟨l,rfl,D,T,I⟩;rw[ag,Paired.length y,aX]at I;exact k O l m T I (S1.free A)<|S1.trans D
 .rintro n p m x hx hn ⟨l,rfl,D,T,I⟩;let⟨u,hu,rfl⟩:=cJ hx;let⟨d,B,s,g1,g2⟩:=Paired.getL y hu;have nl:=(bY.1 B).1;have ap:=D _ _ g1;have G:m s=eH (.tup<|d.sg.map WB):=D _ _ g2;apply⟨u,_,fj,bE.of ap,fj,_,_,fj,_,_,fj,_,_,fj,fj,?_⟩;apply⟨_,fj,nY d.sg,nY aD,cg<|bE.of G,cg<|al m,by rw[c6];decide,by rw[c6];decide,_,fj,?_⟩;rw[lh];have U:df f d=true->(cB<|aK V1 V2) [eH<|.str d.a,eH<|.ref s,eH<|.str d.b,eH<|.ref wl] m λv H6=>H6 O=eH (.lst<|l.map WC)/\(l.map WC).length<ak/\∃m',m'<(us.map WC).length-n/\Wc (us.map WC).length zC (n+1) m' (l.map WC++[v]) (upd H6 O<|.lst<|l.map WC++[v]):=λc=>by
   apply⟨_,fj,_,fj,(by show 2<=ak;decide),λq hq=>?_⟩;let⟨H3,Wy,J,q3⟩:=Wx (o:=.tup [.ref s,.str d.b]) hq;rw[Wy];have kt:h_ H3 (upd H3 O<|.lst<|l.map WC++[.ref q]):=eF<|J _ _ T;apply⟨J _ _ T,?_,oj hn ⟨l++[q],by rw[au];rfl,λb o e=>?_,aa,?_⟩⟩
   .have:=b_ (df f)<|L.take n;rw[aS]at this;rw[ag,Paired.length I];exact ao ⋯
   .rw[ah<|ae e A];exact J _ _<|D _ _ e
   .rw[tQ B,if_pos c];exact eD (Paired.i3 I λ_ _ x=>GJ.kt (λb xs e=>kt _ _<|J _ _ e) x) ⟨s,kt _ _ q3,kt _ _<|J _ _ G⟩
  by_cases c:d.sg=aD
  .rw[hH c];exact cS (cS (U (by unfold df;rw[hH c];rfl)))
  rw[hB c];obtain⟨kd,w,ew⟩:∃kd w,d.sg=[kd,w]:=by
   obtain⟨w,_,e⟩|⟨w,_,e⟩|e:=(t d<|cj B).sg
   .exact⟨_,w,e⟩
   .exact⟨_,w,e⟩
   .exact absurd e c
  have ea:df f d=!decide (w∈f):=by unfold df q0;rw[hB c,ew];rfl
  refine bF ⟨_,fj,s,_,1,.str w,fj,fj,bE.of G,by rw[ew];exact cO (j:=1) rfl,_,fj,dD w,f.map dD,wl,_,fj,fj,.inl<|az.of<|(S1.trans D) _ _ an,iB f,cH _,by rw[i6];decide,_,fj,?_⟩;have em:(dD w∈f.map dD)↔w∈f:=⟨λz=>by let⟨v,hv,e⟩:=ar.1 z;have e:DT.k (.inr v)=DT.k (.inr w):=e;injection e with e;injection e with e;rw[<-e];exact hv,eC⟩;have ec:(if true=true then !decide (dD w∈f.map dD)else decide (dD w∈f.map dD))=df f d:=by
   rw[ea];show(!decide (dD w∈f.map dD))=_;rw[decide_eq_decide.2 em]
  rw[ec];by_cases cc:df f d=true
  .rw[cc];exact cS<|U cc
  .rw[Bool.eq_false_iff.2 cc];refine bF<|oj hn ⟨l,fj,D,T,?_⟩;rw[tQ B,if_neg cc,dj];exact I
structure JD where
 a:Ws×Ws
 sg:List Ws
 b:Ws×Ws
def KU(p:Ws×Ws):List V:=[.str p.1,.str p.2]
def i7(K:Za)(H:Hp)(u:Wk)(e:JD):Prop:=∃h s g:Wk,H u=eH (.tup [.ref h,.ref s,.ref g])/\dg K H h (KU e.a)/\SignAt H s e.sg/\H g=eH (.tup<|KU e.b)
theorem i7.kt{K:Za}(k:h_ H a)(h:i7 K H u e):i7 K a u e:=by
 let⟨x,s,g,f,i,j,l⟩:=h;exact⟨x,s,g,k _ _ f,dg.kt k i,k _ _ j,k _ _ l⟩
theorem yi{K:Za}(hσ:de 2 fi σ=[none,none,eH<|.ref w,eH<|.str x])(C:H M=eH (.lst<|B.map WC))(O:Paired (GJ H) B L)(Y:dg K H w<|KU p)(m:H l=none)(hz:L.length<=900)(D:∀(d:am) (s:Wk) (J:Hp) (R:VK),J s=eH (.tup<|d.sg.map WB)->dg K J w (KU p)->(∀(q:Wk) (E:Hp),i7 K E q (f d)->ab J E->R (.ref q) E)->N [eH<|.ref s,eH<|.str d.b,eH<|.ref w,eH<|.str x] J R)(k:∀(a:Ze) (g:Hp),g l=eH (.lst<|a.map WC)->Paired (i7 K g) a (L.map f)->ab H g->Q g) :
  dB 2 fi σ (HW K M) (gR K 2<|aY U0<|aY U1<|gf) (iN) N H l Q:=by
 let zC:Nat->List V->Hp->Prop:=λn t g=>∃a:List Wk,Mb (t=a.map WC) (ab H g) (g l=eH (.lst t)) (Paired (i7 K g) a<|(L.take n).map f)
 refine cu (xs:=B.map WC) zC ⟨[],fj,ab.new m,aa,.nil⟩ (λi t g _ zq=>by let⟨_,_,S,h',_⟩:=zq;exact⟨h',az.of<|S _ _ C⟩) ?_ ?_
 .rintro t G ⟨a,rfl,j,z,v⟩;rw[ag,Paired.length O,aX]at v;exact k a G z v j
 .rintro n t G y hy hn ⟨a,rfl,j,z,v⟩;let⟨u,I,rfl⟩:=cJ hy;let⟨d,T,s,g1,g2⟩:=Paired.getL O I;have nl:=(bY.1 T).1;rw[hσ];apply⟨u,_,fj,bE.of<|j _ _ g1,fj,_,_,fj,_,_,fj,fj,su ?_⟩;refine D d s G _ (j _ _ g2) (dg.kt (ab.kt j) Y) λq U hq A=>?_;have kt:h_ U (upd U l<|.lst<|a.map WC++[.ref q]):=eF<|A _ _ z;apply⟨A _ _ z,by rw[ag,Paired.length v,ag,aS];exact ao ⋯,oj hn ⟨a++[q],by rw[au];rfl,λb o e=>?_,aa,?_⟩⟩
  .rw[ah<|ae e m];exact A _ _<|j _ _ e
  .rw[take_snoc T,au];exact eD (Paired.i3 v λ_ _ r=>i7.kt (λb xs e=>kt _ _<|A _ _ e) r)<|hq.kt kt
def rP(ds gr:List am)(wires:Zb)(p:Ws×Ws):List JD:=(nB ds p.1 wires).map (λd=>⟨p,d.sg,(d.b,p.2)⟩)++(nB gr p.2 wires).map λd=>⟨p,d.sg,(p.1,d.b)⟩
theorem yy:(nB ds r wires).length<=ds.length:=bH (b_ _ _) vw
inductive pG(K:Za)(C:Wk)(vs:List V)(H:Hp)(Q:VK)(E:XK):Prop
 |mk (M N hr wl:Wk) (p:Ws×Ws) (J0 J2 J3 Ww Wv Wu wires:Zb) (ds gr:List am):vs=[.ref M,.ref N,.ref hr,.ref wl]->bf C H M J0 J2 J3 ds->bf C H N Ww Wv Wu gr->dg K H hr (KU p)->p.1∈J3->p.2∈Wu->H wl=eH (.lst (wires.map WB))->ds.length<=40->gr.length<=40->(∀(l:Wk) (us:Ze) (H':Hp),H' l=eH (.lst (us.map WC))->Paired (i7 K H') us (rP ds gr wires p)->H l=none->ab H H'->Q (.ref l) H')->pG K C vs H Q E
theorem IF{K:Za}(h:pG K C vs H Q E):yW K (sY C) (bT Q) (start zM vs) H:=by
 let⟨M,N,o,wl,p,J0,J2,J3,t,u,i,a,ds,x,rfl,MM,MN,O,p1,p2,y,z1,z2,k⟩:=h;apply⟨_,fj,o,_,fj,dg.sq O,fj,_,_,fj,_,_,fj,fj,?_⟩;apply⟨_,fj,_,fj,_,fj,M,wl,p.1,J0,J2,J3,a,ds,fj,MM,p1,y,z1,λal us H1 z T _ S1=>⟨al,fj,⟨_,az.of z⟩,λcl U=>?_⟩⟩;have l1:=yy (ds:=ds) (r:=p.1) (wires:=a);have l2:=yy (ds:=x) (r:=p.2) (wires:=a);refine yi (p:=p) (f:=λd=>⟨p,d.sg,(d.b,p.2)⟩) rfl z T (dg.kt (ab.kt S1) O) U ⋯ (λd s J R Y v kk=>?_) λws H2 h2 hw S2=>?_
 .refine⟨_,fj,_,fj,_,fj,_,fj,(by show 2<=ak;decide),λg hg=>⟨(by show 3<=ak;decide),λq w=>?_⟩⟩;have Sg:=ab.new (o:=.tup [.str d.b,.str p.2]) hg;have A:upd J g (.tup [.str d.b,.str p.2]) g=eH (.tup<|KU (d.b,p.2)):=aa
  change upd J g (.tup [.str d.b,.str p.2]) q=none at w
  show R (.ref q) (upd (upd J g<|.tup [.str d.b,.str p.2]) q<|.tup [.ref o,.ref s,.ref g]);generalize upd J g (.tup [.str d.b,.str p.2])=B at Sg A w ⊢;have j:=ab.new (o:=.tup [.ref o,.ref s,.ref g]) w;exact kk q _ ⟨o,s,g,aa,dg.kt (ab.kt<|Sg.trans j) v,(Sg.trans j) _ _ Y,j _ _ A⟩<|Sg.trans j
 have e:=S1.trans S2;apply⟨_,fj,_,fj,_,fj,_,fj,N,wl,p.2,t,u,i,a,x,fj,MN.same e,p2,e _ _ y,z2,λan a0 H3 n D _ S3=>⟨an,fj,⟨_,az.of n⟩,λap G=>?_⟩⟩;have as:=e.trans S3;refine yi (p:=p) (f:=λd=>⟨p,d.sg,(p.1,d.b)⟩) rfl n D (dg.kt (ab.kt as) O) G ⋯ (λd s J R Y v kk=>?_) λI H4 h4 L S4=>?_
 .refine⟨_,fj,_,fj,_,fj,_,fj,(by show 2<=ak;decide),λg hg=>⟨(by show 3<=ak;decide),λq w=>?_⟩⟩;have Sg:=ab.new (o:=.tup [.str p.1,.str d.b]) hg;have A:upd J g (.tup [.str p.1,.str d.b]) g=eH (.tup<|KU (p.1,d.b)):=aa
  change upd J g (.tup [.str p.1,.str d.b]) q=none at w
  show R (.ref q) (upd (upd J g<|.tup [.str p.1,.str d.b]) q<|.tup [.ref o,.ref s,.ref g]);generalize upd J g (.tup [.str p.1,.str d.b])=B at Sg A w ⊢;have j:=ab.new (o:=.tup [.ref o,.ref s,.ref g]) w;exact kk q _ ⟨o,s,g,aa,dg.kt (ab.kt<|Sg.trans j) v,(Sg.trans j) _ _ Y,j _ _ A⟩<|Sg.trans j
 have m:=S3.trans S4;have lw:=Paired.length hw;have aC:=Paired.length L;rw[ag]at lw aC;apply⟨cl,ap,_,_,fj,fj,m _ _ h2,h4,by rw[ag,ag];exact cA (ao ⋯),λl hl=>?_⟩;have S5:=ab.new (o:=.lst<|ws.map WC++I.map WC) hl;refine k l (ws++I) _ (by rw[aa,au]) ?_ ((e.trans m).free hl)<|e.trans<|m.trans S5;exact Paired.app (Paired.i3 hw λ_ _ r=>i7.kt (ab.kt<|m.trans S5) r)<|Paired.i3 L λ_ _ r=>i7.kt (ab.kt S5) r
def pZ(p:Ws×Ws)(w:Ws)(os:Zb)(g:Ws):List JD:=os.map λo=>⟨p,bZ w,(g,o)⟩
def yR(ds gr:List am)(J2 Wv:Zb)(p:Ws×Ws)(w:Ws):List JD:=(aZ ds (p.1,dv J2 w)).flatMap<|pZ p w<|aZ gr (p.2,dv Wv w)
def uy(ds gr:List am)(J2 Wv wires:Zb)(p:Ws×Ws):List JD:=wires.flatMap<|yR ds gr J2 Wv p
theorem pQ:(aZ ds x).length<=ds.length:=by
 unfold aZ;rw[ag];exact b_ _ _
theorem lg{α β:Type}{f:α->List β}{n:Nat}(h:∀a,(f a).length<=n):∀l:List α,(l.flatMap f).length<=l.length * n
 |[]=>by simp
 |a::l=>by
  rw[List.flatMap_cons,aA,eT,AO];have:=h a;have:=lg h l;nofun
theorem JV(j:ds.length<=40)(k:h.length<=40):(yR ds h i e p w).length<=1600:=by
 have a:=pQ (ds:=ds) (x:=(p.1,dv i w));have b:=pQ (ds:=h) (x:=(p.2,dv e w));have:=lg (f:=pZ p w<|aZ h (p.2,dv e w)) (n:=40) (λg=>by unfold pZ;rw[ag];nofun)<|aZ ds (p.1,dv i w);unfold yR;nofun
theorem Lz{K:Za}{os:Zb}(hσ:de 1 fi σ=[none,eH<|.ref l,eH<|.str w,eH<|.str g])(E:H J=eH (.lst<|os.map WB))(Y:dg K H l<|KU p)(u:H t=none)(hz:os.length<=900)(k:∀(f:Ze) (j:Hp),j t=eH (.lst<|f.map WC)->Paired (i7 K j) f (pZ p w os g)->ab H j->Q j) :
  dB 1 fi σ (HW K J) U0 (iN) (cB<|eP V1 (cB<|aK (tC<|.str "say") V2)<|cB<|aK V3 V0) H t Q:=by
 let zC:Nat->List V->Hp->Prop:=λn v j=>∃f:List Wk,Mb (v=f.map WC) (ab H j) (j t=eH (.lst v)) (Paired (i7 K j) f<|pZ p w (os.take n) g)
 refine cu (xs:=os.map WB) zC ⟨[],fj,ab.new u,aa,.nil⟩ (λi v j _ zq=>by let⟨_,_,S,h',_⟩:=zq;exact⟨h',az.of<|S _ _ E⟩) ?_ ?_
 .rintro v m ⟨f,rfl,A,B,x⟩;rw[ag,aX]at x;exact k f m B x A
 .rintro n v m y hy hn ⟨f,rfl,A,B,x⟩;let⟨o,L,rfl⟩:=bu hy;have nl:=(bY.1 L).1;rw[hσ];refine gN (su ⟨_,fj,_,fj,(by show 2<=ak;decide),λs hs=>?_⟩);have M:=ab.new (o:=.tup [.str "say",.str w]) hs;have N:upd m s (.tup [.str "say",.str w]) s=eH (.tup<|(bZ w).map WB):=aa;generalize upd m s (.tup [.str "say",.str w])=z at M N ⊢;apply⟨_,fj,_,fj,(by show 2<=ak;decide),λq hq=>⟨(by show 3<=ak;decide),λd G=>?_⟩⟩;have I:=ab.new (o:=.tup [.str g,.str o]) hq;have O:upd z q (.tup [.str g,.str o]) q=eH (.tup<|KU (g,o)):=aa
  change upd z q (.tup [.str g,.str o]) d=none at G
  generalize upd z q (.tup [.str g,.str o])=C at I O G ⊢;let⟨U,Wy,D,T⟩:=Wx (o:=.tup [.ref l,.ref s,.ref q]) G;rw[Wy];have a:=M.trans<|I.trans D;have kt:h_ U (upd U t<|.lst<|f.map WC++[.ref d]):=eF<|a _ _ B;apply⟨a _ _ B,by rw[ag,Paired.length x];unfold pZ;rw[ag,aS];exact ao ⋯,oj hn ⟨f++[d],by rw[au];rfl,λb o e=>?_,aa,?_⟩⟩
  .rw[ah<|ae e u];exact a _ _<|A _ _ e
  .unfold pZ;rw[take_snoc L,au];refine eD (Paired.i3 x λ_ _ r=>i7.kt (λb xs e=>kt _ _<|a _ _ e) r)<|i7.kt kt ⟨l,s,q,T,dg.kt (ab.kt<|(A.trans a)) Y,(I.trans D) _ _ N,D _ _ O⟩
inductive pF(K:Za)(C:Wk)(vs:List V)(H:Hp)(Q:VK)(E:XK):Prop
 |mk (M N hr wl:Wk) (p:Ws×Ws) (J0 J2 J3 Ww Wv Wu wires:Zb) (ds gr:List am):vs=[.ref M,.ref N,.ref hr,.ref wl]->bf C H M J0 J2 J3 ds->bf C H N Ww Wv Wu gr->dg K H hr (KU p)->H wl=eH (.lst (wires.map WB))->wires.length<=8->ds.length<=40->gr.length<=40->(∀(l:Wk) (us:Ze) (H':Hp),H' l=eH (.lst (us.map WC))->Paired (i7 K H') us (uy ds gr J2 Wv wires p)->H l=none->ab H H'->Q (.ref l) H')->pF K C vs H Q E
theorem IE{K:Za}(h:pF K C vs H Q E):uF K (sN C) (bT Q) (start u_ vs) H:=by
 let⟨M,N,hr,wl,p,J0,u,J3,L,a,z,l,ds,m,rfl,MM,MN,hp,as,zw,z1,z2,k⟩:=h;apply⟨(by show 0<=ak;decide),λdl U=>?_⟩;have S0:=ab.new (o:=.lst []) U;have d0:upd H dl (.lst []) dl=eH (.lst<|([]:Ze).map WC):=aa;generalize upd H dl (.lst [])=H0 at S0 d0 ⊢;apply⟨_,fj,wl,fj,⟨_,az.of<|S0 _ _ as⟩,?_⟩
 let zI:Nat->L2.St->Hp->Prop:=λi σ s=>OS λ(v:Ze) (x5 x6 Y:Option V)=>Mb (σ=[eH<|.ref M,eH<|.ref N,eH<|.ref hr,eH<|.ref wl,eH<|.ref dl,x5,x6,Y]) (s dl=eH (.lst<|v.map WC)) (Paired (i7 K s) v<|uy ds m u a (l.take i) p)<|ab H s
 refine cb (xs:=l.map WB) zI ⟨[],_,_,_,fj,d0,.nil,S0⟩ (λi σ s _ zq=>by let⟨_,_,_,_,_,_,_,S⟩:=zq;exact az.of<|S _ _ as) ?_ ?_;rotate_left
 .rintro σ H1 ⟨v,x5,x6,Y,rfl,hd,hu,S1⟩;rw[ag,aX]at hu;exact⟨_,fj,k dl v H1 hd hu U S1⟩
 rintro i x σ H1 hx ⟨v,x5,x6,Y,rfl,A,aC,S1⟩;let⟨w,hw,rfl⟩:=bu hx;have il:=(bY.1 hw).1;apply⟨_,fj,_,fj,hr,_,1,.str p.2,fj,fj,dg.sq<|dg.kt (ab.kt S1) hp,cO (j:=1) rfl,_,fj,N,p.2,w,L,a,z,m,fj,MN.same S1,λol H2 a0 a8 S2=>?_⟩;have al:=S1.trans S2;apply⟨_,fj,_,fj,hr,_,0,.str p.1,fj,fj,dg.sq<|dg.kt (ab.kt al) hp,cO (j:=0) rfl,_,fj,M,p.1,w,J0,u,J3,ds,fj,MM.same al,λgl H3 an a9 S3=>⟨gl,fj,⟨_,az.of an⟩,?_⟩⟩;have ap:=S2.trans S3;have ba:=S1.trans ap;have bb:ol≠dl:=(ae A a8).symm;have bd:gl≠dl:=(ae (S2 _ _ A) a9).symm;have J:=S3 _ _ a0;have bh:=ap _ _ A;have lG:=pQ (ds:=ds) (x:=(p.1,dv u w));have lO:=pQ (ds:=m) (x:=(p.2,dv a w));have eW:uy ds m u a (l.take<|i+1) p=uy ds m u a (l.take i) p++yR ds m u a p w:=by unfold uy;rw[take_snoc hw,qE,AM]
 have lT:(uy ds m u a (l.take i) p).length<=12800:=by
  have h1:=lg (f:=yR ds m u a p) (n:=1600) (λw=>JV z1 z2)<|l.take i;rw[aS]at h1;unfold uy;have:min i l.length * 1600<=8 * 1600:=Nat.mul_le_mul_right _ ⋯;nofun
 have a4:=Paired.i3 aC λ_ _ r=>i7.kt (ab.kt ap) r;unfold yR at eW;generalize aZ ds (p.1,dv u w)=G at an lG eW;generalize aZ m (p.2,dv a w)=O at J lO eW;generalize uy ds m u a (l.take i) p=T at a4 eW lT;clear a0 A aC S2 S3 al
 let zJ:Nat->L2.St->Hp->Prop:=λj σ s=>JG λ(v:Ze) (Y:Option V)=>OI (σ=[eH<|.ref M,eH<|.ref N,eH<|.ref hr,eH<|.ref wl,eH<|.ref dl,eH<|.str w,eH<|.ref ol,Y]) (s dl=eH (.lst<|v.map WC)) (Paired (i7 K s) v<|T++(G.take j).flatMap (pZ p w O)) (ab H s) (s ol=eH (.lst<|O.map WB))<|s gl=eH (.lst<|G.map WB)
 refine cb (xs:=G.map WB) zJ ⟨v,_,fj,bh,by show Paired _ v (T++[]);rw[dj];exact a4,ba,J,an⟩ (λj σ s _ zq=>by let⟨_,_,_,_,_,_,_,h'⟩:=zq;exact az.of h') ?_ ?_
 .rintro j y σ H4 hy ⟨B,Y,rfl,D,t,S4,I,a5⟩;let⟨g,hg,rfl⟩:=bu hy;have jl:=(bY.1 hg).1;apply⟨_,fj,.inl ⟨fj,_,az.of D⟩,_,fj,ol,fj,⟨_,az.of I⟩,λcl bi=>?_⟩;refine Lz (p:=p) (w:=w) (g:=g) rfl I (dg.kt (ab.kt S4) hp) bi ⋯ λws H5 h5 a6 S5=>?_;have a7:=S5 _ _ D;have kt:h_ H5 (upd H5 dl<|.lst<|B.map WC++ws.map WC):=eF a7;have lu:=Paired.length t;have lw:=Paired.length a6;have lf:=lg (f:=pZ p w O) (n:=40) (λg=>by unfold pZ;rw[ag];nofun)<|G.take j;rw[aS]at lf;have lm:min j G.length * 40<=40 * 40:=Nat.mul_le_mul_right _ ⋯;rw[aA]at lu;unfold pZ at lw;rw[ag]at lw;apply⟨dl,cl,_,_,fj,fj,a7,h5,by rw[ag,ag];have:100000<=ak:=(by decide);nofun,B++ws,_,fj,by rw[aa,au],?_,λb o q=>?_,by rw[ah bb];exact S5 _ _ I,by rw[ah bd];exact S5 _ _ a5⟩
  .rw[take_snoc hg,qE,AM,<-dQ];exact Paired.app (Paired.i3 t λ_ _ r=>i7.kt (λb xs e=>kt _ _<|S5 _ _ e) r)<|Paired.i3 a6 λ_ _ r=>r.kt kt
  .rw[ah<|ae q U];exact S5 _ _<|S4 _ _ q
 .rintro σ H4 ⟨B,Y,rfl,D,t,S4,I,a5⟩;rw[ag,aX,<-eW]at t;exact⟨B,_,_,_,fj,D,t,S4⟩
def JI(n:Nat):Ws:=⟨#[97+n / 26,97+n % 26]⟩
theorem Nb(h:JI n=JI m):n=m:=by
 unfold JI at h;injection h with h;injection h with h;injection h with e a;injection a with a _;nofun
theorem K7(h:n<200):r8 (JI n):=⟨by show 1<=2;decide,by show 2<=8;decide,λc a=>by
 have a:c∈[97+n / 26,97+n % 26]:=a;simp only[cq,mY,or_false]at a;unfold xS;nofun⟩
def kO(J3 Wu:Zb)(p:Ws×Ws):Ws:=JI<|List.idxOf p<|aL J3 Wu
def kI(ds gr:List am)(J2 Wv wires:Zb)(p:Ws×Ws):List JD:=rP ds gr wires p++uy ds gr J2 Wv wires p
def Om(J3 Wu:Zb)(e:JD):am:=⟨kO J3 Wu e.a,e.sg,kO J3 Wu e.b⟩
def D0(ds gr:List am)(J2 Wv J3 Wu wires:Zb):List JD:=(aL J3 Wu).flatMap<|kI ds gr J2 Wv wires
def n_(ds gr:List am)(J2 Wv J3 Wu wires:Zb):List am:=(D0 ds gr J2 Wv J3 Wu wires).map<|Om J3 Wu
def bP(J3 Wu:Zb):List Ws:=(aL J3 Wu).map<|kO J3 Wu
theorem br:p∈aL J3 a↔p.1∈J3/\p.2∈a:=by
 unfold aL;rw[fQ];constructor
 .rintro⟨r,e,h⟩;let⟨o,f,rfl⟩:=ar.1 h;exact⟨e,f⟩
 .rintro⟨g,i⟩;exact⟨p.1,g,ar.2 ⟨p.2,i,fj⟩⟩
theorem ni(g:f.Nodup)(h:e.Nodup):(aL f e).Nodup:=by
 unfold aL qA;rw[AL];apply⟨λa _=>?_,qz (fun{a b} n x hx y i=>?_) g⟩
 .rw[jD];exact qz (fun{a b} n z=>n (by injection z)) h
 .obtain⟨_,_,rfl⟩:=ar.1 hx;let⟨_,_,rfl⟩:=ar.1 i;intro z;injection z with z;exact n z
theorem jm(a:p∈aL J3 Wu)(f:q∈aL J3 Wu)(h:kO J3 Wu p=kO J3 Wu q):p=q:=by
 have e:=Nb h;have g:=List.idxOf_lt_length_iff.2 a;have i:=List.idxOf_lt_length_iff.2 f;have j:=List.getElem_idxOf g;have k:=List.getElem_idxOf i;rw[<-j,<-k];congr 1
inductive LZ(ds gr:List am)(J2 Wv wires:Zb)(p:Ws×Ws)(sg:Zb)(q:Ws×Ws):Prop
 |l (b:Ws):⟨p.1,sg,b⟩∈ds->df wires ⟨p.1,sg,b⟩=true->q=(b,p.2)->LZ ds gr J2 Wv wires p sg q
 |r (b:Ws):⟨p.2,sg,b⟩∈gr->df wires ⟨p.2,sg,b⟩=true->q=(p.1,b)->LZ ds gr J2 Wv wires p sg q
 |t (w g o:Ws):w∈wires->sg=bZ w->⟨p.1,dv J2 w,g⟩∈ds->⟨p.2,dv Wv w,o⟩∈gr->q=(g,o)->LZ ds gr J2 Wv wires p sg q
theorem dw:d∈nB f r e↔d∈f/\d.a=r/\df e d=true:=by
 unfold nB bM;rw[bW,bW,decide_eq_true_iff,and_assoc]
theorem gP:e∈kI x gr y f i p↔e.a=p/\LZ x gr y f i p e.sg e.b:=by
 unfold kI rP uy yR pZ;rw[bt,bt,ar,ar,fQ];constructor
 .rintro((⟨d,m,rfl⟩|⟨d,m,rfl⟩)|⟨w,n,h⟩)
  .obtain⟨j,k,q⟩:=dw.1 m;let⟨a,s,b⟩:=d;cases k;exact⟨fj,.l b j q rfl⟩
  .obtain⟨j,k,q⟩:=dw.1 m;let⟨a,s,b⟩:=d;cases k;exact⟨fj,.r b j q rfl⟩
  .obtain⟨g,z,h⟩:=fQ.1 h;let⟨o,A,rfl⟩:=ar.1 h;exact⟨fj,.t w g o n rfl (c_.1 z) (c_.1 A) rfl⟩
 .obtain⟨a,B,b⟩:=e;rintro⟨e,h⟩;have e:a=p:=e;subst e;obtain⟨u,j,k,e⟩|⟨u,j,k,e⟩|⟨w,g,o,n,v,j,k,e⟩:=h
  .have e:b=(u,a.2):=e;subst e;exact .inl<|.inl ⟨_,dw.2 ⟨j,fj,k⟩,fj⟩
  .have e:b=(a.1,u):=e;subst e;exact .inl<|.inr ⟨_,dw.2 ⟨j,fj,k⟩,fj⟩
  .have e:b=(g,o):=e;have v:B=bZ w:=v;subst e;subst v;exact .inr ⟨w,n,fQ.2 ⟨g,c_.2 j,ar.2 ⟨o,c_.2 k,fj⟩⟩⟩
theorem LZ.Sm{s l J3 f e a i:Zb}{n j:List am}(m:aE s l J3 n)(r:aE f e a j){p q:Ws×Ws}{t:Zb}(u:p∈aL J3 a)(h:LZ n j l e i p t q):q∈aL J3 a:=by
 let⟨v,x⟩:=br.1 u;obtain⟨b,k,_,rfl⟩|⟨b,k,_,rfl⟩|⟨w,g,o,_,_,k,y,rfl⟩:=h
 .exact br.2 ⟨(m.good _ k).b,x⟩
 .exact br.2 ⟨v,(r.good _ k).b⟩
 .exact br.2 ⟨(m.good _ k).b,(r.good _ y).b⟩
theorem jn(m:aE t o l r)(u:aE j g f k):d∈n_ r k o g l f i↔∃p q,p∈aL l f/\q∈aL l f/\LZ r k o g i p d.sg q/\d=⟨kO l f p,d.sg,kO l f q⟩:=by
 unfold n_ D0;rw[ar];constructor
 .rintro⟨e,s,rfl⟩;let⟨p,n,s⟩:=fQ.1 s;let⟨rfl,h⟩:=gP.1 s;exact⟨e.a,e.b,n,h.Sm m u n,h,fj⟩
 .rintro⟨p,q,n,v,h,e⟩;exact⟨⟨p,d.sg,q⟩,fQ.2 ⟨p,n,gP.2 ⟨fj,h⟩⟩,e.symm⟩
theorem vB(h:f.Nodup)(x:Ws×List Ws):(aZ f x).Nodup:=by
 unfold aZ;have j:(f.filter λd=>decide (d.a=x.1/\d.sg=x.2)).Nodup:=h.filter _;unfold qA;rw[jD];refine t5 (fun{d e} k l n z=>n ?_) j;let⟨a1,a2⟩:=of_decide_eq_true (bW.1 k).2;let⟨g,i⟩:=of_decide_eq_true (bW.1 l).2;let⟨a,s,b⟩:=d;let⟨m,o,p⟩:=e;simp only at a1 a2 g i z;rw[a1,a2,g,i,z]
theorem fW(h:df e ⟨a,[k,w],b⟩=true):w∉e:=by
 unfold df q0 at h;rw[hB (show ¬[k,w]=aD from λz=>by cases z)]at h;intro z;have h:(!decide (w∈e))=true:=h;rw[hH z]at h;cases h
theorem Db(j:g.Nodup)(k:e.Nodup)(l:∀w∈g,w∉e):(aG i g f e).Nodup:=by
 unfold aG;refine cQ.2 ⟨j.filter _,k.filter _,λa h b m z=>?_⟩;rw[z]at h;exact l b (bW.1 h).1 (bW.1 m).1
theorem du:w∈aG f g a e↔(w∈g/\w∈a)∨(w∈e/\w∈f):=by
 unfold aG;rw[bt,bW,bW,decide_eq_true_iff,decide_eq_true_iff]
theorem i5:w∈cX J0 f a e↔(w∈J0∨w∈a)/\w∉aG J0 f a e:=by
 unfold cX;rw[bW,bt,Bool.not_eq_true',decide_eq_false_iff_not]
section
variable{J0 J2 J3 Ww Wv Wu:Zb}{ds gr:List am}
theorem Av(m:aE J0 J2 J3 ds)(r:aE Ww Wv Wu gr)(J:JoinOk J0 J2 J3 Ww Wv Wu ds gr):(n_ ds gr J2 Wv J3 Wu<|aG J0 J2 Ww Wv).Nodup:=by
 unfold n_ D0 qA;rw[jD,AL];have inj:=fun{p q:Ws×Ws}=>jm (J3:=J3) (Wu:=Wu) (p:=p) (q:=q);apply⟨λp v=>?_,t5 (fun{p q} v I n x hx y i z=>?_)<|ni m.RV.1 r.RV.1⟩
 .obtain⟨U,Y⟩:=br.1 v;have same:∀{x y:JD},x∈kI ds gr J2 Wv (aG J0 J2 Ww Wv) p->y∈kI ds gr J2 Wv (aG J0 J2 Ww Wv) p->Om J3 Wu x=Om J3 Wu y->x.sg=y.sg/\x.b=y.b:=fun{x y} hx i z=>by
   unfold Om at z;injection z with _ h H;exact⟨h,inj ((gP.1 hx).2.Sm m r v) ((gP.1 i).2.Sm m r v) H⟩
  have big:(kI ds gr J2 Wv (aG J0 J2 Ww Wv) p).Pairwise λx y=>¬(x.sg=y.sg/\x.b=y.b):=by
   have L:∀{x:JD},x∈rP ds gr (aG J0 J2 Ww Wv) p->∀{k w:Ws},x.sg=[k,w]->w∉aG J0 J2 Ww Wv:=fun{x} hx {k w} e=>by
    unfold rP at hx;obtain hx|hx:=bt.1 hx
    .obtain⟨d,j,rfl⟩:=ar.1 hx;let⟨_,_,A⟩:=dw.1 j;let⟨a,s,b⟩:=d;have e:s=[k,w]:=e;rw[e]at A;exact fW A
    .obtain⟨d,j,rfl⟩:=ar.1 hx;let⟨_,_,A⟩:=dw.1 j;let⟨a,s,b⟩:=d;have e:s=[k,w]:=e;rw[e]at A;exact fW A
   unfold kI;refine List.pairwise_append.2 ⟨?_,?_,λx hx y i z=>?_⟩
   .unfold rP;refine List.pairwise_append.2 ⟨?_,?_,λx hx y i z=>?_⟩
    .rw[jD];have C:(nB ds p.1<|aG J0 J2 Ww Wv).Nodup:=(m.nodup.filter _).filter _;refine t5 (fun{d e} j B n z=>n ?_) C;let⟨_,a1,_⟩:=dw.1 j;let⟨_,u,_⟩:=dw.1 B;let⟨a,s,b⟩:=d;let⟨M,N,O⟩:=e;let⟨f,h⟩:=z;simp only at a1 u f h;injection h with h;rw[a1,u,f,h]
    .rw[jD];have C:(nB gr p.2<|aG J0 J2 Ww Wv).Nodup:=(r.nodup.filter _).filter _;refine t5 (fun{d e} j B n z=>n ?_) C;let⟨_,a1,_⟩:=dw.1 j;let⟨_,u,_⟩:=dw.1 B;let⟨a,s,b⟩:=d;let⟨M,N,O⟩:=e;let⟨f,h⟩:=z;simp only at a1 u f h;injection h with _ h;rw[a1,u,f,h]
    .obtain⟨d,j,rfl⟩:=ar.1 hx;let⟨e,B,rfl⟩:=ar.1 i;let⟨D,a1,_⟩:=dw.1 j;let⟨E,u,_⟩:=dw.1 B;let⟨f,h⟩:=z;have f:d.sg=e.sg:=f;have h:(d.b,p.2)=(p.1,e.b):=h;injection h with h H;obtain⟨w,l,q⟩|⟨w,l,q⟩|q:=(m.good d D).sg<;>obtain⟨G,t,q'⟩|⟨G,t,q'⟩|q':=(r.good e E).sg<;>rw[q,q']at f
     .injection f with _ f;injection f with f;rw[f]at l;exact J.UE _ l t
     .injection f with f;exact absurd f Wt
     .cases f
     .injection f with f;exact absurd f Wt
     .injection f with _ f;injection f with f;rw[f]at l;exact J.TV _ l t
     .cases f
     .cases f
     .cases f
     .refine m.Qc p.1<|.one ?_;let⟨a,s,b⟩:=d;simp only at a1 q h;rw[<-q];rw[a1,h]at D;exact D
   .unfold uy;rw[AL];apply⟨λw l=>?_,qz (fun{w G} n x hx y i z=>n ?_)<|Db m.Th.1 r.Th.1 J.TV⟩
    .unfold yR;rw[AL];apply⟨λg hg=>?_,qz (fun{g g'} n x hx y i z=>n ?_)<|vB m.nodup _⟩
     .unfold pZ;rw[jD];refine qz (fun{o Q} n z=>n ?_)<|vB r.nodup _;have h:(g,o)=(g,Q):=z.2;injection h
     .unfold pZ at hx i;let⟨_,_,rfl⟩:=ar.1 hx;let⟨_,_,rfl⟩:=ar.1 i;have h:=z.2;simp only at h;injection h
    .unfold yR pZ at hx i;let⟨_,_,hx⟩:=fQ.1 hx;let⟨_,_,i⟩:=fQ.1 i;let⟨_,_,rfl⟩:=ar.1 hx;let⟨_,_,rfl⟩:=ar.1 i;have f:bZ w=bZ G:=z.1;unfold bZ at f;injection f with _ f;injection f
   .unfold uy yR pZ at i;let⟨w,l,i⟩:=fQ.1 i;let⟨_,_,i⟩:=fQ.1 i;let⟨_,_,rfl⟩:=ar.1 i;exact L hx (show x.sg=[("say":Ws),w]from z.1) l
  exact t5 (fun{x y} hx i n z=>n<|same hx i z) big
 .have E:=(gP.1 hx).1;have T:=(gP.1 i).1;unfold Om at z;injection z with z;rw[E,T]at z;exact n<|inj v I z
def oh(ds:List am)(a b:Ws):Prop:=b=a∨Reach ds a b
theorem oh.trans(h1:oh ds a b)(h2:oh ds b c):oh ds a c:=by
 obtain rfl|h1:=h1
 .exact h2
 .obtain rfl|h2:=h2
  .exact .inr h1
  .exact .inr<|h1.trans h2
theorem pq:LZ ds gr J2 Wv f p aD q↔(∃b,(⟨p.1,aD,b⟩:am)∈ds/\q=(b,p.2))∨∃b,(⟨p.2,aD,b⟩:am)∈gr/\q=(p.1,b):=by
 constructor
 .rintro(⟨b,h,_,rfl⟩|⟨b,h,_,rfl⟩|⟨w,g,o,j,e,_⟩)
  .exact .inl ⟨b,h,fj⟩
  .exact .inr ⟨b,h,fj⟩
  .cases e
 .have i:∀a b:Ws,df f ⟨a,aD,b⟩=true:=λa b=>by unfold df;rw[hH rfl];rfl
  rintro(⟨b,h,rfl⟩|⟨b,h,rfl⟩)
  .exact .l b h (i _ _) rfl
  .exact .r b h (i _ _) rfl
theorem Kn(m:aE J0 J2 J3 ds)(n:aE Ww Wv Wu gr)(h:Reach (n_ ds gr J2 Wv J3 Wu f) x y):∃p q,p∈aL J3 Wu/\q∈aL J3 Wu/\x=kO J3 Wu p/\y=kO J3 Wu q/\oh ds p.1 q.1/\oh gr p.2 q.2/\(Reach ds p.1 q.1∨Reach gr p.2 q.2):=by
 induction h with
 |one h =>
  let⟨p,q,g,i,st,e⟩:=(jn m n).1 h;injection e with j _ k;apply⟨p,q,g,i,j,k,?_⟩;obtain⟨b,a,rfl⟩|⟨b,a,rfl⟩:=pq.1 st
  .exact⟨.inr<|.one a,.inl rfl,.inl<|.one a⟩
  .exact⟨.inl rfl,.inr<|.one a,.inr<|.one a⟩
 |step r h o =>
  let⟨p,q,g,i,j,k,l1,l2,z⟩:=o;let⟨t,s,l,u,st,e⟩:=(jn m n).1 h;injection e with v _ w;obtain rfl:q=t:=jm i l<|k.symm.trans v;apply⟨p,s,g,u,j,w,?_⟩;obtain⟨b,a,rfl⟩|⟨b,a,rfl⟩:=pq.1 st
  .exact⟨l1.trans<|.inr<|.one a,l2,.inl (by obtain e|l1:=l1;rw[<-e];exact .one a;exact .step l1 a)⟩
  .exact⟨l1,l2.trans<|.inr<|.one a,.inr (by obtain e|l2:=l2;rw[<-e];exact .one a;exact .step l2 a)⟩
theorem Oq(m:aE J0 J2 J3 ds)(j:aE Ww Wv Wu gr)(g:a∈J3)(i:o∈Wu)(h:oh ds a b):oh (n_ ds gr J2 Wv J3 Wu e) (kO J3 Wu (a,o)) (kO J3 Wu (b,o)):=by
 obtain rfl|h:=h
 .exact .inl rfl
 .have f:∀{a b:Ws},a∈J3->(⟨a,aD,b⟩:am)∈ds->(⟨kO J3 Wu (a,o),aD,kO J3 Wu (b,o)⟩:am)∈n_ ds gr J2 Wv J3 Wu e:=fun{a b} g h=>(jn m j).2 ⟨(a,o),(b,o),br.2 ⟨g,i⟩,br.2 ⟨(m.good _ h).b,i⟩,pq.2<|.inl ⟨b,h,fj⟩,fj⟩;refine .inr ?_
  induction h with
  |one h=>exact .one<|f g h
  |step r h k=>exact .step k<|f (m.good _ h).a h
theorem Op(m:aE J0 J2 J3 ds)(g:aE Ww Wv Wu gr)(i:a∈Wu)(j:o∈J3)(h:oh gr a b):oh (n_ ds gr J2 Wv J3 Wu e) (kO J3 Wu (o,a)) (kO J3 Wu (o,b)):=by
 obtain rfl|h:=h
 .exact .inl rfl
 .have f:∀{a b:Ws},a∈Wu->(⟨a,aD,b⟩:am)∈gr->(⟨kO J3 Wu (o,a),aD,kO J3 Wu (o,b)⟩:am)∈n_ ds gr J2 Wv J3 Wu e:=fun{a b} i h=>(jn m g).2 ⟨(o,a),(o,b),br.2 ⟨j,i⟩,br.2 ⟨j,(g.good _ h).b⟩,pq.2<|.inr ⟨b,h,fj⟩,fj⟩;refine .inr ?_
  induction h with
  |one h=>exact .one<|f i h
  |step r h k=>exact .step k<|f (g.good _ h).a h
theorem Nd(m:aE J0 J2 J3 ds)(f:aE Ww Wv Wu gr)(g:p∈aL J3 Wu)(i:q∈aL J3 Wu):oh (n_ ds gr J2 Wv J3 Wu a) (kO J3 Wu p) (kO J3 Wu q)↔oh ds p.1 q.1/\oh gr p.2 q.2:=by
 constructor
 .rintro(e|h)
  .rw[jm i g e];exact⟨.inl rfl,.inl rfl⟩
  .obtain⟨x,y,j,k,n,o,r,s,_⟩:=Kn m f h;rw[jm g j n,jm i k o];exact⟨r,s⟩
 .rintro⟨t,u⟩;let⟨v,l⟩:=br.1 g;let⟨w,z⟩:=br.1 i;exact(Oq m f v l t).trans<|Op m f l w u
theorem Oo(m:aE J0 J2 J3 ds)(i:aE Ww Wv Wu gr)(J:JoinOk J0 J2 J3 Ww Wv Wu ds gr)(Qf:(n_ ds gr J2 Wv J3 Wu<|aG J0 J2 Ww Wv).length<=1000):
  aE (cX J0 J2 Ww Wv) (J2++Wv) (bP J3 Wu) (n_ ds gr J2 Wv J3 Wu<|aG J0 J2 Ww Wv) where
 To:=⟨by unfold cX;exact(cQ.2 ⟨m.To.1,i.To.1,λa ha b t z=>J.UE a ha<|z▸t⟩).filter _,λw f=>(i5.1 f).1.elim (m.To.2 w)<|i.To.2 w⟩
 Th:=⟨cQ.2 ⟨m.Th.1,i.Th.1,λa ha b t z=>J.TV a ha<|z▸t⟩,λw f=>(bt.1 f).elim (m.Th.2 w)<|i.Th.2 w⟩
 apart:=λw f z=>by
  let⟨k,j⟩:=i5.1 z;obtain hs|hs:=bt.1 f<;>obtain ha|ha:=k
  .exact m.apart w hs ha
  .exact j<|du.2<|.inl ⟨hs,ha⟩
  .exact j<|du.2<|.inr ⟨hs,ha⟩
  .exact i.apart w hs ha
 RV:=by
  unfold bP;apply⟨?_,λw f=>?_⟩
  .unfold qA;rw[jD];exact t5 (fun{p q} l s n z=>n<|jm l s z)<|ni m.RV.1 i.RV.1
  .obtain⟨p,l,rfl⟩:=ar.1 f;have:=List.idxOf_lt_length_iff.2 l;rw[iV]at this;have:J3.length * Wu.length<=10 * 10:=t6 J.r1 J.r2;exact K7 ⋯
 Tv:=J.a0
 SJ:=λz=>m.SJ (List.append_eq_nil_iff.1 z).1
 P5:=λz=>by
  unfold bP at z;have z:=congrArg List.length z;rw[ag,iV,lU]at z;have k:=List.length_pos_iff.2 m.P5;have j:=List.length_pos_iff.2 i.P5;have:=Nat.mul_pos k j;nofun
 B':=J.a4
 A2:=J.s4
 vr:=by
  unfold bP;rw[ag,iV];have:J3.length * Wu.length<=10 * 10:=t6 J.r1 J.r2;nofun
 nodup:=Av m i J
 good:=λd v=>by
  let⟨p,q,l,s,st,e⟩:=(jn m i).1 v;apply⟨by rw[e];exact eC l,by rw[e];exact eC s,?_⟩;obtain⟨b,k,j,_⟩|⟨b,k,j,_⟩|⟨w,g,o,f,x,_⟩:=st
  .obtain⟨w,f,e'⟩|⟨w,f,e'⟩|e':=(m.good _ k).sg
   .have e':d.sg=[("ask":Ws),w]:=e';rw[e']at j;exact .inl ⟨w,i5.2 ⟨.inl f,fW j⟩,e'⟩
   .exact .inr<|.inl ⟨w,cE _ f,e'⟩
   .exact .inr<|.inr e'
  .obtain⟨w,f,e'⟩|⟨w,f,e'⟩|e':=(i.good _ k).sg
   .have e':d.sg=[("ask":Ws),w]:=e';rw[e']at j;exact .inl ⟨w,i5.2 ⟨.inr f,fW j⟩,e'⟩
   .exact .inr<|.inl ⟨w,dh _ f,e'⟩
   .exact .inr<|.inr e'
  .refine .inr<|.inl ⟨w,?_,x⟩;obtain h|h:=du.1 f
   .exact cE _ h.1
   .exact dh _ h.1
 Qf:=Qf
 Qc:=λr h=>by
  let⟨p,q,l,s,y,A,_,_,u⟩:=Kn m i h;rw[jm l s<|y.symm.trans A]at u;exact u.elim (m.Qc _)<|i.Qc _
end
def k7(J3 Wu f g:Zb):List Ws:=((aL J3 Wu).filter λp=>decide (p.1∈f) && decide (p.2∈g)).map<|kO J3 Wu
def gQ(J0 J2 sg:Zb):Option (List Ws):=if sg=bN then eH sg else if q0 sg∈J0 then eH (bQ<|q0 sg)else if q0 sg∈J2 then eH (bZ<|q0 sg)else none
def PM(J0 J2 J3:Zb)(ds:List am)(f sg:Zb):List Ws:=((gQ J0 J2 sg).map<|qo J3 ds f).getD f
theorem j7:x∈k7 J3 a f g↔∃p,p∈aL J3 a/\p.1∈f/\p.2∈g/\x=kO J3 a p:=by
 unfold k7;rw[ar];constructor
 .rintro⟨p,i,rfl⟩;let⟨h,e⟩:=bW.1 i;rw[lQ,decide_eq_true_iff,decide_eq_true_iff]at e;exact⟨p,h,e.1,e.2,fj⟩
 .rintro⟨p,h,e,j,rfl⟩;exact⟨p,bW.2 ⟨h,by rw[lQ,decide_eq_true_iff,decide_eq_true_iff];exact⟨e,j⟩⟩,fj⟩
theorem KS(hf:∀r∈f,r∈J3)(m:∀r∈g,r∈e):k7 J3 e f g≠[]↔f≠[]/\g≠[]:=by
 constructor
 .intro h;let⟨x,hx⟩:=ow _ h;let⟨p,_,i,j,_⟩:=j7.1 hx;exact⟨AK i,AK j⟩
 .rintro⟨i,j⟩;let⟨a,k⟩:=ow _ i;let⟨b,l⟩:=ow _ j;exact AK<|j7.2 ⟨(a,b),br.2 ⟨hf a k,m b l⟩,k,l,fj⟩
def LV(ds:List am)(f sg:Zb)(r:Ws):Prop:=∃a∈f,∃b,(⟨a,sg,b⟩:am)∈ds/\oh ds b r
theorem jy(l:e≠bN)(m:r∈k):r∈qo k ds f e↔LV ds f e r:=by
 unfold qo;rw[if_neg l,mJ];constructor
 .rintro⟨_,g,n,h⟩;let⟨a,i,j⟩:=ff.1 n;exact⟨a,i,g,j,h⟩
 .rintro⟨a,i,b,j,h⟩;exact⟨m,b,ff.2 ⟨a,i,j⟩,h⟩
theorem CL.led(h:CL g f)(i:a∈f)(r:oh g a b):b∈f:=by
 obtain rfl|r:=r
 .exact i
 .induction r with
  |one e=>exact h _ e rfl i
  |step _ e j=>exact h _ e rfl j
section
variable{J0 J2 J3 Ww Wv Wu:Zb}{ds gr:List am}
def XJ(ds gr:List am)(J2 Wv J3 Wu wires f f' sg:Zb)(q:Ws×Ws):Prop:=∃p b,p∈aL J3 Wu/\p.1∈f/\p.2∈f'/\LZ ds gr J2 Wv wires p sg b/\oh ds b.1 q.1/\oh gr b.2 q.2
theorem Nj(m:aE J0 J2 J3 ds)(j:aE Ww Wv Wu gr)(w:q∈aL J3 Wu):i9 (n_ ds gr J2 Wv J3 Wu a) (dW (n_ ds gr J2 Wv J3 Wu a) v<|k7 J3 Wu f u) (kO J3 Wu q)↔XJ ds gr J2 Wv J3 Wu a f u v q:=by
 constructor
 .rintro⟨g,x,h⟩;let⟨r,y,z⟩:=ff.1 x;let⟨p,i,l,n,rfl⟩:=j7.1 y;let⟨C,b,o,k,st,e⟩:=(jn m j).1 z;injection e with A _ B;obtain rfl:=jm i o A;have h:oh _ g _:=h;rw[B]at h;let⟨s,t⟩:=(Nd m j k w).1 h;exact⟨p,b,i,l,n,st,s,t⟩
 .rintro⟨p,b,i,l,n,st,s,t⟩;have k:=st.Sm m j i;exact⟨kO J3 Wu b,ff.2 ⟨kO J3 Wu p,j7.2 ⟨p,i,l,n,fj⟩,(jn m j).2 ⟨p,b,i,k,st,fj⟩⟩,(Nd m j k w).2 ⟨s,t⟩⟩
theorem Ax(h:∀q∈aL J3 Wu,i9 D a (kO J3 Wu q)↔q.1∈g/\q.2∈e):hJ (bP J3 Wu) D a=k7 J3 Wu g e:=by
 unfold hJ k7 bP;rw[List.filter_map];congr 1;refine ox λq f=>?_;rw[sn];simp only[Function.comp,decide_eq_true_iff,lQ];exact h q f
theorem HN(hf:∀r∈f,r∈J3)(k:∀r∈j,r∈Wu)(s:CL gr j)(t:∀a b,(⟨a,h,b⟩:am)∉gr)(u:∀a b,df g ⟨a,h,b⟩=true)(v:∀w∈g,h≠bZ w):
  XJ ds gr J2 Wv J3 Wu g f j h q↔LV ds f h q.1/\q.2∈j:=by
 constructor
 .rintro⟨p,b,B,x,y,st,m,z⟩;obtain⟨c,i,_,rfl⟩|⟨c,i,_⟩|⟨w,_,_,A,e,_⟩:=st
  .exact⟨⟨p.1,x,c,i,m⟩,s.led y z⟩
  .exact absurd i<|t _ _
  .exact absurd e<|v w A
 .rintro⟨⟨a,n,c,i,m⟩,o⟩;exact⟨(a,q.2),(c,q.2),br.2 ⟨hf a n,k _ o⟩,n,o,.l c i (u _ _) rfl,m,.inl rfl⟩
theorem EC(hf:∀r∈f,r∈J3)(k:∀r∈j,r∈Wu)(o:CL ds f)(s:∀a b,(⟨a,h,b⟩:am)∉ds)(t:∀a b,df g ⟨a,h,b⟩=true)(u:∀w∈g,h≠bZ w):
  XJ ds gr J2 Wv J3 Wu g f j h q↔q.1∈f/\LV gr j h q.2:=by
 constructor
 .rintro⟨p,b,A,v,x,st,l,y⟩;obtain⟨c,i,_⟩|⟨c,i,_,rfl⟩|⟨w,_,_,z,e,_⟩:=st
  .exact absurd i<|s _ _
  .exact⟨o.led v l,⟨p.2,x,c,i,y⟩⟩
  .exact absurd e<|u w z
 .rintro⟨m,⟨a,n,c,i,l⟩⟩;exact⟨(q.1,a),(q.1,c),br.2 ⟨hf _ m,k _ n⟩,m,n,.r c i (t _ _) rfl,.inl rfl,l⟩
theorem HP(hf:∀r∈f,r∈J3)(m:∀r∈l,r∈Wu)(n:w∈h):
  XJ ds gr J2 Wv J3 Wu h f l (bZ w) q↔LV ds f (dv J2 w) q.1/\LV gr l (dv Wv w) q.2:=by
 constructor
 .rintro⟨p,b,E,z,A,st,s,B⟩;obtain⟨c,i,j,_⟩|⟨c,i,j,_⟩|⟨G,g,o,C,e,i,j,rfl⟩:=st
  .exact absurd n<|fW j
  .exact absurd n<|fW j
  .unfold bZ at e;injection e with _ e;injection e with e;rw[<-e]at i j;exact⟨⟨p.1,z,g,i,s⟩,⟨p.2,A,o,j,B⟩⟩
 .rintro⟨⟨a,x,c,i,s⟩,⟨D,k,y,u,v⟩⟩;exact⟨(a,D),(c,y),br.2 ⟨hf _ x,m _ k⟩,x,k,.t w c y n rfl i u rfl,s,v⟩
theorem mH:r∈fJ ds↔∃d∈ds,jA d=false/\d.a=r:=by
 unfold fJ;rw[ar];constructor
 .rintro⟨d,h,e⟩;let⟨f,g⟩:=bW.1 h;exact⟨d,f,by simpa using g,e⟩
 .rintro⟨d,f,g,e⟩;exact⟨d,bW.2 ⟨f,by rw[g];rfl⟩,e⟩
theorem mK(h:(⟨a,bZ w,b⟩:am)∈ds):a∈fJ ds:=mH.2 ⟨_,h,by show decide (("say":Ws)="ask")=false;decide,fj⟩
theorem kF(h:(⟨a,aD,b⟩:am)∈ds):a∈fJ ds:=mH.2 ⟨_,h,by show decide (("still":Ws)="ask")=false;decide,fj⟩
theorem DX(m:aE J0 J2 J3 ds)(h:r∈fJ ds):∃b,(∃w∈J2,(⟨r,bZ w,b⟩:am)∈ds)∨(⟨r,aD,b⟩:am)∈ds:=by
 let⟨d,f,g,rfl⟩:=mH.1 h;let⟨a,s,b⟩:=d;obtain⟨w,i,e⟩|⟨w,i,e⟩|e:=(m.good _ f).sg
 .have e:s=[("ask":Ws),w]:=e;subst e;have g:decide (("ask":Ws)="ask")=false:=g;exact absurd g Wt
 .have e:s=[("say":Ws),w]:=e;subst e;exact⟨b,.inl ⟨w,i,f⟩⟩
 .have e:s=aD:=e;subst e;exact⟨b,.inr f⟩
theorem O5(m:aE J0 J2 J3 ds)(u:aE Ww Wv Wu gr)(J:JoinOk J0 J2 J3 Ww Wv Wu ds gr)(tk:∀r∈J3,∀a∈J0,hW ds r a)(A:∀r∈Wu,∀a∈Ww,hW gr r a)(v:p∈aL J3 Wu):
  kO J3 Wu p∈fJ (n_ ds gr J2 Wv J3 Wu<|aG J0 J2 Ww Wv)↔p.1∈fJ ds∨p.2∈fJ gr:=by
 let⟨L,M⟩:=br.1 v;have f:∀{y q},LZ ds gr J2 Wv (aG J0 J2 Ww Wv) p y q->(⟨kO J3 Wu p,y,kO J3 Wu q⟩:am)∈n_ ds gr J2 Wv J3 Wu (aG J0 J2 Ww Wv):=fun{y q} st=>(jn m u).2 ⟨p,q,v,st.Sm m u v,st,fj⟩;constructor
 .intro h;let⟨d,hd,G,e⟩:=mH.1 h;let⟨O,q,B,Q,st,N⟩:=(jn m u).1 hd;have H:=congrArg am.a N;rw[e]at H;obtain rfl:=jm v B H;let⟨T,y,U⟩:=d;obtain⟨c,k,_⟩|⟨c,k,_⟩|⟨w,g,o,j,Y,k,C,_⟩:=st
  .exact .inl<|mH.2 ⟨_,k,G,fj⟩
  .exact .inr<|mH.2 ⟨_,k,G,fj⟩
  .obtain⟨a,_⟩|⟨a,_⟩:=du.1 j
   .unfold dv at k;rw[if_pos a]at k;exact .inl<|mK k
   .unfold dv at C;rw[if_pos a]at C;exact .inr<|mK C
 .have i:∀(W:Zb) (a b:Ws),df W ⟨a,aD,b⟩=true:=λW a b=>by unfold df;rw[hH rfl];rfl
  have s:∀{W:Zb}{w:Ws}(a b:Ws),w∉W->df W ⟨a,bZ w,b⟩=true:=fun{W w} a b h=>by
   unfold df;rw[Bo];refine .inr ?_;show(!decide (w∈W))=true;rw[hB h];rfl
  rintro(h|h)
  .obtain⟨b,⟨w,j,hd⟩|hd⟩:=DX m h
   .by_cases c:w∈aG J0 J2 Ww Wv
    .have n:w∈Ww:=by
      obtain⟨_,a⟩|⟨a,_⟩:=du.1 c
      .exact a
      .exact absurd a<|J.TV w j
     let⟨x,hx,o,D⟩:=A p.2 M w n;obtain rfl|hx:=hx
     .refine mK (w:=w)<|f<|.t w b o c rfl ?_ ?_ rfl
      .unfold dv;rw[if_pos j];exact hd
      .unfold dv;rw[if_neg<|J.TV w j];exact D
     .obtain⟨g,E,_⟩:=hx.front;exact kF<|f<|.r g E (i _ _ _) rfl
    .exact mK<|f<|.l b hd (s _ _ c) rfl
   .exact kF<|f<|.l b hd (i _ _ _) rfl
  .obtain⟨b,⟨w,j,hd⟩|hd⟩:=DX u h
   .have I:w∉J2:=λz=>J.TV w z j;by_cases c:w∈aG J0 J2 Ww Wv
    .have n:w∈J0:=by
      obtain⟨a,_⟩|⟨_,a⟩:=du.1 c
      .exact absurd a I
      .exact a
     let⟨x,hx,o,D⟩:=tk p.1 L w n;obtain rfl|hx:=hx
     .refine mK (w:=w)<|f<|.t w o b c rfl ?_ ?_ rfl
      .unfold dv;rw[if_neg I];exact D
      .unfold dv;rw[if_pos j];exact hd
     .obtain⟨g,E,_⟩:=hx.front;exact kF<|f<|.l g E (i _ _ _) rfl
    .exact mK<|f<|.r b hd (s _ _ c) rfl
   .exact kF<|f<|.r b hd (i _ _ _) rfl
theorem rK:gQ A S bN=eH bN:=by unfold gQ;rw[if_pos rfl]
theorem Ar:gQ A S (bQ w)=if w∈A then eH (bQ w)else if w∈S then eH (bZ w)else none:=by unfold gQ;rw[if_neg (λz=>by cases z)];rfl
theorem Aq:gQ A S (bZ w)=if w∈A then eH (bQ w)else if w∈S then eH (bZ w)else none:=by unfold gQ;rw[if_neg (λz=>by cases z)];rfl
def Pc(J0 J2 Ww Wv sg:Zb):Prop:=(∃w∈cX J0 J2 Ww Wv,sg=bQ w)∨(∃w∈J2++Wv,sg=bZ w)∨sg=bN
theorem LF(m:aE J0 J2 J3 ds)(v:aE Ww Wv Wu gr)(J:JoinOk J0 J2 J3 Ww Wv Wu ds gr)(tk:∀r∈J3,∀a∈J0,hW ds r a)(U:∀r∈Wu,∀a∈Ww,hW gr r a)(hf:∀r∈f,r∈J3)(i:∀r∈g,r∈Wu)(sh:CL ds f)(x:CL gr g)(hs:Pc J0 J2 Ww Wv l):
  qo (bP J3 Wu) (n_ ds gr J2 Wv J3 Wu<|aG J0 J2 Ww Wv) (k7 J3 Wu f g) l=k7 J3 Wu (PM J0 J2 J3 ds f l) (PM Ww Wv Wu gr g l):=by
 by_cases Y:l=bN
 .subst Y;unfold PM;rw[rK,rK];show qo _ _ _ bN=k7 _ _ (qo J3 ds f bN) (qo Wu gr g bN);unfold qo;rw[if_pos rfl,if_pos rfl,if_pos rfl];unfold k7;rw[List.filter_map,List.filter_filter];congr 1;refine ox λp hp=>?_;have:=O5 m v J tk U hp;rw[sn];simp only[lQ,decide_eq_true_iff,bW,Function.comp];rw[this,not_or];constructor
  .rintro⟨⟨a,b⟩,c,d⟩;exact⟨⟨c,a⟩,d,b⟩
  .rintro⟨⟨c,a⟩,d,b⟩;exact⟨⟨a,b⟩,c,d⟩
 have y:∀q∈aL J3 Wu,XJ ds gr J2 Wv J3 Wu (aG J0 J2 Ww Wv) f g l q↔q.1∈PM J0 J2 J3 ds f l/\q.2∈PM Ww Wv Wu gr g l:=by
  intro q I;let⟨L,N⟩:=br.1 I;have O:∀{w:Ws},bQ w≠bN:=λz=>by cases z
  have Q:∀{w:Ws},bZ w≠bN:=λz=>by cases z
  have B:∀{w:Ws},w∉aG J0 J2 Ww Wv->∀a b,df (aG J0 J2 Ww Wv) ⟨a,bQ w,b⟩=true:=fun{w} h a b=>by
   unfold df;rw[Bo];refine .inr ?_;show(!decide (w∈aG J0 J2 Ww Wv))=true;rw[hB h];rfl
  have C:∀{w:Ws},w∉aG J0 J2 Ww Wv->∀a b,df (aG J0 J2 Ww Wv) ⟨a,bZ w,b⟩=true:=fun{w} h a b=>by
   unfold df;rw[Bo];refine .inr ?_;show(!decide (w∈aG J0 J2 Ww Wv))=true;rw[hB h];rfl
  have E:∀{A S R:Zb}{D:List am}{w:Ws},aE A S R D->w∉A->∀a b,(⟨a,bQ w,b⟩:am)∉D:=fun{A S R D w} M h a b z=>by
   obtain⟨j,t,e⟩|⟨j,_,e⟩|e:=(M.good _ z).sg
   .have e:bQ w=[("ask":Ws),j]:=e;unfold bQ at e;injection e with _ e;injection e with e;exact h<|e▸t
   .have e:bQ w=[("say":Ws),j]:=e;unfold bQ at e;injection e with e;exact absurd e Wt
   .have e:bQ w=aD:=e;cases e
  have G:∀{A S R:Zb}{D:List am}{w:Ws},aE A S R D->w∉S->∀a b,(⟨a,bZ w,b⟩:am)∉D:=fun{A S R D w} M h a b z=>by
   obtain⟨j,_,e⟩|⟨j,t,e⟩|e:=(M.good _ z).sg
   .have e:bZ w=[("ask":Ws),j]:=e;unfold bZ at e;injection e with e;exact absurd e Wt
   .have e:bZ w=[("say":Ws),j]:=e;unfold bZ at e;injection e with _ e;injection e with e;exact h<|e▸t
   .have e:bZ w=aD:=e;cases e
  have o:∀{w:Ws},∀j∈aG J0 J2 Ww Wv,bQ w≠bZ j:=fun{w} j _ e=>by
   unfold bQ bZ at e;injection e with e;exact absurd e Wt
  have s:∀{w:Ws},w∉aG J0 J2 Ww Wv->∀j∈aG J0 J2 Ww Wv,bZ w≠bZ j:=fun{w} h j al e=>by
   unfold bZ at e;injection e with _ e;injection e with e;exact h<|e▸al
  unfold PM;obtain⟨w,t,rfl⟩|⟨w,t,rfl⟩|e:=hs
  .obtain⟨h1,T⟩:=i5.1 t;rw[Ar,Ar];obtain ha|ha:=h1
   .have k:=J.UE w ha;have u:w∉Wv:=λz=>T<|du.2<|.inr ⟨z,ha⟩;rw[if_pos ha,if_neg k,if_neg u];show _↔q.1∈qo J3 ds f (bQ w)/\q.2∈g;rw[HN hf i x (E v k) (B T) o,jy O L]
   .have k:w∉J0:=λz=>J.UE w z ha;have u:w∉J2:=λz=>T<|du.2<|.inl ⟨z,ha⟩;rw[if_pos ha,if_neg k,if_neg u];show _↔q.1∈f/\q.2∈qo Wu gr g (bQ w);rw[EC hf i sh (E m k) (B T) o,jy O N]
  .rw[Aq,Aq];obtain hs|hs:=bt.1 t
   .have n1:=m.apart w hs;have n:=J.TV w hs;rw[if_neg n1,if_pos hs];by_cases c:w∈Ww
    .rw[if_pos c];show _↔q.1∈qo J3 ds f (bZ w)/\q.2∈qo Wu gr g (bQ w);rw[HP hf i<|du.2<|.inl ⟨hs,c⟩,jy Q L,jy O N];unfold dv;rw[if_pos hs,if_neg n]
    .rw[if_neg c,if_neg n];have H:w∉aG J0 J2 Ww Wv:=λz=>by
      obtain z|z:=du.1 z
      .exact c z.2
      .exact n z.1
     show _↔q.1∈qo J3 ds f (bZ w)/\q.2∈g;rw[HN hf i x (G v n) (C H)<|s H,jy Q L]
   .have n1:=v.apart w hs;have n:w∉J2:=λz=>J.TV w z hs;rw[if_neg n1,if_pos hs];by_cases c:w∈J0
    .rw[if_pos c];show _↔q.1∈qo J3 ds f (bQ w)/\q.2∈qo Wu gr g (bZ w);rw[HP hf i<|du.2<|.inr ⟨hs,c⟩,jy O L,jy Q N];unfold dv;rw[if_pos hs,if_neg n]
    .rw[if_neg c,if_neg n];have H:w∉aG J0 J2 Ww Wv:=λz=>by
      obtain z|z:=du.1 z
      .exact n z.1
      .exact c z.2
     show _↔q.1∈f/\q.2∈qo Wu gr g (bZ w);rw[EC hf i sh (G m n) (C H)<|s H,jy Q N]
  .exact absurd e Y
 have e0:∀(R:Zb) (D:List am) (F:Zb),qo R D F l=hJ R D (dW D l F):=λR D F=>by unfold qo;rw[if_neg Y]
 rw[e0];exact Ax λq I=>(Nj m v I).trans<|y q I
end
structure LS(J3:Zb)(ds:List am)(f:Zb):Prop where
 sub:∀r∈f,r∈J3
 ne:f≠[]
 SU:CL ds f
 len:f.length<=J3.length
theorem At(m:aE h i a f):LS a f (hJ a f<|a.take 1):=by
 apply⟨uX,?_,Aa λd j=>(m.good d j).b,pU⟩;let⟨r,g⟩:=ow _ m.P5;cases e:a with
 |nil=>rw[e]at g;cases g
 |cons x k=>exact AK<|mJ.2 ⟨cT,x,cT,.inl rfl⟩
section
variable{J0 J2 J3 Ww Wv Wu:Zb}{ds gr:List am}
theorem rL(m:aE J0 J2 J3 ds)(l:aE Ww Wv Wu gr):hJ (bP J3 Wu) (n_ ds gr J2 Wv J3 Wu f) ((bP J3 Wu).take 1)=k7 J3 Wu (hJ J3 ds<|J3.take 1) (hJ Wu gr<|Wu.take 1):=by
 refine Ax λq n=>?_;let⟨s,t⟩:=br.1 n;obtain⟨x,a,rfl⟩:∃x a,J3=x::a:=by
  cases e:J3 with
  |nil=>exact absurd e m.P5
  |cons x a=>exact⟨x,a,fj⟩
 obtain⟨y,i,rfl⟩:∃y i,Wu=y::i:=by
  cases e:Wu with
  |nil=>exact absurd e l.P5
  |cons x a=>exact⟨x,a,fj⟩
 have r:(x,y)∈aL (x::a) (y::i):=br.2 ⟨cT,cT⟩;have e:(bP (x::a)<|y::i).take 1=[kO (x::a) (y::i) (x,y)]:=rfl;rw[e,mJ,mJ];constructor
 .rintro⟨g,o,h⟩;rw[bq.1 o]at h;let⟨j,k⟩:=(Nd m l r n).1 h;exact⟨⟨s,x,cT,j⟩,t,y,cT,k⟩
 .rintro⟨⟨_,g,o,j⟩,_,u,p,k⟩;rw[bq.1 o]at j;rw[bq.1 p]at k;exact⟨_,cT,(Nd m l r n).2 ⟨j,k⟩⟩
theorem yu(h:gQ J0 J2 a=none):PM J0 J2 J3 ds f a=f:=by unfold PM;rw[h];rfl
theorem yt(h:gQ J0 J2 a=eH g):PM J0 J2 J3 ds f a=qo J3 ds f g:=by unfold PM;rw[h];rfl
theorem Nk(m:aE J0 J2 J3 ds)(t:aE Ww Wv Wu gr)(J:JoinOk J0 J2 J3 Ww Wv Wu ds gr)(D:J3.length<=3)(u:Wu.length<=3):(n_ ds gr J2 Wv J3 Wu<|aG J0 J2 Ww Wv).length<=1000:=by
 have E:=Av m t J
 let S:List (List Ws):=hV (cX J0 J2 Ww Wv)<|J2++Wv
 let R:List (Ws×List Ws×Ws):=(bP J3 Wu).flatMap λa=>S.flatMap λs=>(bP J3 Wu).map λb=>(a,s,b)
 have G:(bP J3 Wu).length<=9:=by
  unfold bP;rw[ag,iV];exact t6 D u
 have N:S.length<=9:=by
  show(hV (cX J0 J2 Ww Wv)<|J2++Wv).length<=9;unfold hV;have:=J.a4;have:=J.s4;rw[aA,aA,ag,ag];show _+_+1<=9;nofun
 have O:R.length<=1000:=by
  have j:∀a:Ws,(S.flatMap λs=>(bP J3 Wu).map λb=>(a,s,b)).length<=81:=λa=>by
   have:=lg (f:=λs=>(bP J3 Wu).map λb=>(a,s,b)) (n:=9) (λs=>by rw[ag];exact G) S;nofun
  have:=lg (f:=λa=>S.flatMap λs=>(bP J3 Wu).map λb=>(a,s,b)) (n:=81) j<|bP J3 Wu;show(List.flatMap _ _).length<=1000;nofun
 have v:((n_ ds gr J2 Wv J3 Wu<|aG J0 J2 Ww Wv).map λd=>(d.a,d.sg,d.b)).Nodup:=by
  unfold qA;rw[jD];refine qz (fun{d e} n z=>n ?_) E;let⟨a,s,b⟩:=d;let⟨Q,T,U⟩:=e;injection z with y r;injection r with r A;simp only at y r A;rw[y,r,A]
 have:=j6 v (R:=R) λx hx=>by
  let⟨d,H,rfl⟩:=ar.1 hx;let⟨p,q,I,L,st,e⟩:=(jn m t).1 H;have k:d.sg∈S:=by
   show d.sg∈(cX J0 J2 Ww Wv).map bQ++(J2++Wv).map bZ++[aD];obtain⟨b,j,l,_⟩|⟨b,j,l,_⟩|⟨w,g,o,i,M,_⟩:=st
   .obtain⟨w,i,e'⟩|⟨w,i,e'⟩|e':=(m.good _ j).sg
    .have e':d.sg=[("ask":Ws),w]:=e';rw[e']at l;exact cE _<|cE _<|ar.2 ⟨w,i5.2 ⟨.inl i,fW l⟩,e'.symm⟩
    .exact cE _<|dh _<|ar.2 ⟨w,cE _ i,e'.symm⟩
    .exact dh _<|bq.2 e'
   .obtain⟨w,i,e'⟩|⟨w,i,e'⟩|e':=(t.good _ j).sg
    .have e':d.sg=[("ask":Ws),w]:=e';rw[e']at l;exact cE _<|cE _<|ar.2 ⟨w,i5.2 ⟨.inr i,fW l⟩,e'.symm⟩
    .exact cE _<|dh _<|ar.2 ⟨w,dh _ i,e'.symm⟩
    .exact dh _<|bq.2 e'
   .refine cE _<|dh _<|ar.2 ⟨w,?_,M.symm⟩;obtain h|h:=du.1 i
    .exact cE _ h.1
    .exact dh _ h.1
  have B:=congrArg am.a e;have C:=congrArg am.b e;simp only at B C;rw[B,C];exact fQ.2 ⟨_,eC I,fQ.2 ⟨d.sg,k,ar.2 ⟨_,eC L,fj⟩⟩⟩
 rw[ag]at this;nofun
end
def J9(K:Za)(gi:Wk)(A':Sp)(hI:Sp)(vn:Sp)(Rg:Sp)(QD:Sp)(Qz:Sp)(QA:Sp)(PY:Sp)(A0:Sp)(RJ:Sp):TS :=
 aq (cY<|aM RJ<|aK V0 V1)
 (aq (cY<|aM A0<|aB V0)
 (aq (cY<|aM A0<|aB V1)
 (aq (aU (aM PY<|aK V0 V1) U2)
 (aq (aU (dL (KN K)<|av (cZ 2 [] (xZ K<|aB<|aM Qz<|aK V0 V1) (gR K 2<|aY U0<|aY U1<|gf) (iN)<|cB<|aK V1<|aM QA<|aB V0) aW) U3)
 (aq (aU (bw<|aW) U4)
 (aq (ee (FZ K V3) U5<|cY<|wb K "list" tu V4<|aB<|aI jU (aM Rg<|av V0<|eP V1 V5 V2)<|aM QD<|av V0<|eP V1 V5 V2)
 (aq (aU (cZ 3 [3] (bU K V4) (gR K 3<|aY U0<|aY U1<|aY U2<|gf) (iN)<|cB<|eP (oS K V3 V0) V1<|oS K V3 V2) U6)
 (bo<|z6 gi A' [] E0<|av (aM vn<|aK V0 V1)<|eP (aI jU (cF gi "says" hI [] E0 V0 aW)<|cF gi "says" hI [] E0 V1 aW) (Kc V3) V6))))))))
def LN:List Ws:=["M","N","wires","names","doors","here","named_doors"]
def vH(K:Za)(A1:Sp)(hE:Sp)(PL:Sp):TS :=
 aq (aU (aM PL<|aK V0<|tC<|.int 13) U2)
 (aq (aU (bw<|av (bw<|aW)<|eP (bw<|aW) (bw<|aW)<|bw<|aW) U3)
 (aq (aU (bw<|av (bw<|aB<|tC<|.int 0)<|av (bw<|aB<|tC<|.int 0)<|av (bw<|aB<|tC<|.int 1)<|av (bw<|aB<|tC<|.int 1)<|av (bw<|aB<|tC<|.int 2)<|av (bw<|aB<|tC<|.int 2)<|av (bw<|aB<|tC<|.int 3)<|av (bw<|aB<|tC<|.int 3)<|av (bw<|aK (tC<|.int 1)<|tC<|.int 2)<|av (bw<|aK (tC<|.int 1)<|tC<|.int 2)<|av (bw<|aK (tC<|.int 0)<|tC<|.int 3)<|av (bw<|aK (tC<|.int 0)<|tC<|.int 3)<|av (bw<|aW)<|av (bw<|aK (tC<|.int 0)<|tC<|.int 2)<|aB<|bw<|aK (tC<|.int 1)<|tC<|.int 3) U4)
 (aq (ee (bU K<|Ka (BY K) V2 (jj)<|nV<|tC<|.int 8) U5<|ee (bU K<|aI (dE K) V4<|aM hE<|aK V0<|aI fM (tC<|.int 13)<|aI kB (tC<|.int 2) V1) U6<|cV (a_<|aI FE (dL (dO K)<|aB<|aI (dE K) V3 V6)<|aI fM (tC<|.int 2)<|aI kB (tC<|.int 2) V1) (cY<|wb K "list" d4 (aI (dE K) V3 V6)<|aB V5)<|bC)
 (aq (ee (vA<|aB<|tC<|.int 4) U6<|cV (a_<|aI (n6 K) (aI (dE K) V3 V6)<|bw<|aW) (cY<|wb K "list" d4 (aI (dE K) V3 V6)<|aB<|aI (dE K) V2<|aI fM (tC<|.int 8) V6)<|bC)
 (aq (cV (uN (a_<|aI IL V1<|tC<|.int 0)<|a_<|aI (n6 K) (aM A1<|aB V3)<|bw<|aW) (cY<|wb K "list" d4 (aI (dE K) V3<|tC<|.int 0)<|aB<|aI (dE K) V2<|tC<|.int 12)<|bC)
 (bo V3))))))
def vY:List Ws:=["pen","loose","words","some","ways","word","at"]
def vI(K:Za):TS :=
 aq (aU (aI jU (cZ 1 [0] (bU K<|aI (dE K) V0<|tC<|.int 1) U0 (a_<|aI (lZ K false) V0<|aI (dE K) V1<|tC<|.int 2) V0)<|cZ 1 [0] (bU K<|aI (dE K) V0<|tC<|.int 3) U0 (a_<|aI (lZ K false) V0<|aI (dE K) V1<|tC<|.int 0) V0) U1)
 (bo<|cZ 1 [1] (bU K<|aI jU (aI (dE K) V0<|tC<|.int 0)<|aI (dE K) V0<|tC<|.int 2) U0 (a_<|aI (lZ K true) V0 V1) V0)
def vZ:List Ws:=["some","wired"]
def Fb(K:Za)(QC:Sp)(hE:Sp)(PL:Sp):TS :=
 aq (aU (aM PL<|aK V0<|aI fM (tC<|.int 1)<|aM hE<|av V0<|aB V3) U4)
 (aq (aU (aM QC<|av V0<|av V1<|av V2<|av V4<|aB<|aM hE<|aK V0<|tC<|.int 2) U5)
 (bo<|cB<|av V1<|eP V2 V4 V5))
def Gx:List Ws:=["pen","asks","says","most","rooms","doors"]
def uC(K:Za)(PZ:Sp)(QU:Sp)(QI:Sp):TS :=
 aq (aU (aM QI<|aK V0<|tC<|.int 0) U3)
 (aq (aU (aM PZ<|av V0<|av (aM QU<|av V0<|eP (aI (nh K) V3<|tC<|.int 0) (aI (nh K) V3<|tC<|.int 1) V1) aW) U4)
 (aq (aU (aM PZ<|av V0<|av (aM QU<|av V0<|eP (aI (nh K) V3<|tC<|.int 2) (aI (nh K) V3<|tC<|.int 3) V2) aW) U5)
 (bo<|bw<|aK V4 V5)))
def u6:List Ws:=["pen","one","two","some","first","second"]
def Dj(K:Za):TS :=
 aq (cV (a_<|aI (n6 K) V1<|cB<|aB<|tC<|.str "hush") (bo V1)<|bC)
 (aq (cV (a_<|aI (lZ K false) (aI (nh K) V1<|tC<|.int 1)<|aI (nh K) V0<|tC<|.int 0) (bo<|cB<|aK (tC<|.str "ask")<|aI (nh K) V1<|tC<|.int 1)<|bC)
 (aq (cV (a_<|aI (lZ K false) (aI (nh K) V1<|tC<|.int 1)<|aI (nh K) V0<|tC<|.int 1) (bo<|cB<|aK (tC<|.str "say")<|aI (nh K) V1<|tC<|.int 1)<|bC)
 (bo<|tC .zr)))
def EK:List Ws:=["told","sign"]
def BF(K:Za)(Rb:Sp)(RL:Sp):TS :=
 aq (aU (aM RL<|aK V0 V2) U3)
 (aq (cV (tB<|Mq V3) (bo V1)<|bC)
 (bo<|aM Rb<|eP V0 V1 V3))
def CQ:List Ws:=["told","face","sign","heard"]

def lB:Nat->Nat
 |0=>0
 |d+1=>30+25 * lB d
theorem Jt{K:Za}(z:xs.length<=ys.length)(Pv:Nat->List V->Hp->Prop)(A:Pv 0 []<|upd r l<|.lst [])(m:∀i e H,i<=xs.length->Pv i e H->H l=eH (.lst e)/\az K H a xs/\az K H b ys)(B:∀e H,Pv xs.length e H->Q H)(C:∀i e H x y p,xs[i]?=eH x->ys[i]?=eH y->i<xs.length->Pv i e H->H p=none->g (.ref p) (de k fi σ) (upd H p<|.tup [x,y]) fun σ2 D=>o σ2 D λb s =>
   if b=true then q σ2 s λv w=>w l=eH (.lst e)/\e.length<ak/\∃f,f<xs.length-i/\Wc xs.length Pv (i+1) f (e++[v]) (upd w l<|.lst<|e++[v])else ∃f,f<xs.length-i/\Wc xs.length Pv (i+1) f e s) :
  dB k fi σ (OJ K a b) g o q r l Q:=by
 refine kJ xs.length Pv A (λi e H hi p=>(m i e H hi p).1) (λi e H hi p=>?_) (λe H p=>?_) λi e H x J hi p y=>?_
 .obtain⟨_,h,j⟩:=m i e H (cA hi) p;have n:i<ys.length:=by nofun
  exact⟨xs,ys,xs[i],ys[i],h,j,by simp[hi],by simp[n]⟩
 .obtain⟨_,h,j⟩:=m _ e H (aF _) p;exact⟨⟨xs,ys,h,j,.inl<|aF _⟩,B e H p⟩
 .obtain⟨_,h,j⟩:=m i e H (cA hi) p;let⟨t,u,v,rfl,E,G,I,rfl⟩:=y;exact C i e H u v t (G xs h) (I ys j) hi p E
open Builtin.Int (intBits)
open Builtin.Int (intBits)
open Builtin.Int (intBits)
open Builtin.Int (intBits)
open Builtin.Int (intBits)
open Builtin.Int (intBits)

def Dh(K:Za):TS :=
 aq (aU (cZ 1 [1] (bU K<|aI (io K) V0<|tC<|.int 3) U0 (a_<|aI IL (aI (io K) V0<|tC<|.int 0) V1) V0) U2)
 (bo<|dL (MR K)<|av (cZ 1 [] (bU K V2) U0 (iN)<|aI IL (aI (io K) (aI (io K) V0<|tC<|.int 1)<|tC<|.int 0)<|tC<|.str "ask") aW)
def EI:List Ws:=["told","room","doors"]
def yU(K:Za)(QY:Sp)(RK:Sp):TS :=
 aq (cV (a_<|aI (n6 K) V2<|cB<|aB<|tC<|.str "hush") (bo<|dL (G7 K)<|aB<|cZ 1 [0] (Ng K V1) U0 (tB<|aM RK<|aK V1 V0) V0)<|bC)
 (aq (aU (bw<|aW) U3)
 (aq (ee (bU K<|aI (io K) V0<|tC<|.int 3) (gR K 3<|aY U4<|aY U5<|aY U6<|gf)<|cV (uN (a_<|aI (lZ K false) V4 V1)<|uN (a_<|aI (n6 K) V5 V2)<|a_<|aI (lZ K true) V6 V3) (cY<|wb K "list" d4 V3<|aB V6)<|bC)
 (bo<|aM QY<|aK V0 V3)))
def zH:List Ws:=["told","face","sign","some","room","own","other"]
theorem Jz:((f.filter λd=>decide (d.a=r)).map jA).all id=decide (r∉fJ f):=by
 by_cases c:r∈fJ f
 .rw[hB<|λz=>z c,List.all_eq_false];unfold fJ at c;let⟨d,g,i⟩:=ar.mp c;let⟨h,e⟩:=bW.mp g;apply⟨jA d,eC<|bW.mpr ⟨h,hH i⟩,?_⟩;intro z;have z:jA d=true:=z;rw[z]at e;cases e
 .rw[hH c,Bp];intro b j;let⟨d,g,rfl⟩:=ar.mp j;let⟨h,e⟩:=bW.mp g;show jA d=true;cases q:jA d with
  |true=>rfl
  |false=>exact absurd (ar.mpr ⟨d,bW.mpr ⟨h,by rw[q];rfl⟩,of_decide_eq_true e⟩) c
theorem Ix{K:Za}(h:pC e H Q E):Dh K (bT Q) (start EI e) H:=by
 let⟨t,l1,l2,l3,l4,ts,J0,J2,J3,C,r,rfl,T,m,k⟩:=h;have z4:=m.Qf;apply⟨_,fj,t,_,3,_,fj,fj,bE.of T.t,fj,l4,fj,⟨_,az.of T.a4⟩,λf hf=>?_⟩
 let G:Nat->List V->Hp->Prop:=λi e n=>∃v:List Wk,e=v.map WC/\ab H n/\n f=eH (.lst e)/\dJ n v ((C.take i).filter λd=>decide (d.a=r))
 refine cu (xs:=ts.map WC) G ⟨[],fj,ab.new hf,aa,.nil⟩ (λi e n _ I=>by let⟨_,_,S,J,_⟩:=I;exact⟨J,az.of<|S _ _ T.a4⟩) ?_ ?_;rotate_left
 .rintro i e n x' x hi ⟨v,rfl,S,L,w⟩;let⟨u,M,rfl⟩:=cJ x;let⟨A,p,l⟩:=Paired.getL T.ds M;have B:=l.kt<|ab.kt S;let⟨Y,y,s⟩:=l.kt<|ab.kt S;refine gN ?_;apply⟨_,fj,u,_,0,_,fj,fj,bE.of y,fj,_,fj,fj,_,fj,?_⟩;have e1:decide (WB A.a=WB r)=decide (A.a=r):=decide_eq_decide.2 ⟨λz=>by injection z,λz=>by rw[z]⟩;rw[e1];by_cases D:A.a=r
  .rw[hH D];refine cS ?_;apply⟨_,fj,L,?_,oj hi ⟨v++[u],by rw[au];rfl,?_,aa,?_⟩⟩
   .rw[ag,Paired.length w];refine ao<|bH (b_ _ _) ?_;rw[aS];nofun
   .intro b o q;rw[ah<|ae q hf];exact S _ _ q
   .rw[iw p,if_pos<|hH D];have hk:h_ n (upd n f<|.lst<|v.map WC++[.ref u]):=eF L;exact eD (w.kt hk)<|B.kt hk
  .rw[hB D];refine bF<|oj hi ⟨v,fj,S,L,?_⟩;rw[iw p,if_neg (by rw[hB D];decide),dj];exact w
 rintro e H1 ⟨v,rfl,S1,f1,w⟩;rw[ag,Paired.length T.ds,aX]at w;apply⟨_,fj,f,fj,⟨_,az.of f1⟩,λg hg=>?_⟩;have zf:(C.filter λd=>decide (d.a=r)).length<=1000:=bH (b_ _ _) z4;have gd:∀d∈C.filter λd=>decide (d.a=r),yI J0 J2 J3 d:=λd hd=>m.good d (bW.1 hd).1;rw[<-Jz]at k;generalize(C.filter λd=>decide (d.a=r))=F at w zf gd k
 let N:Nat->List V->Hp->Prop:=λi e n=>e=((F.take i).map jA).map V.bl/\ab H1 n/\n g=eH (.lst e)
 refine cu (xs:=v.map WC) N ⟨fj,ab.new hg,aa⟩ (λi e n _ I=>by let⟨_,S,J⟩:=I;exact⟨J,az.of<|S _ _ f1⟩) ?_ ?_
 .rintro e H2 ⟨rfl,S2,g2⟩;rw[ag,Paired.length w,aX]at g2;exact⟨g,_,fj,az.of g2,k H2<|S1.trans S2⟩
 .rintro i e n x' x hi ⟨rfl,S,g'⟩;let⟨u,M,rfl⟩:=cJ x;let⟨A,p,l⟩:=Paired.getL w M;let⟨Y,y,s⟩:=l.kt<|ab.kt S;let⟨s0,al,O,U⟩:=Iu<|gd A<|cj p;unfold SignAt at s;rw[O]at s;refine gN<|su ?_;apply⟨_,fj,u,_,1,_,fj,fj,bE.of y,fj,Y,_,0,.str s0,fj,fj,bE.of s,cO (j:=0) rfl,fj,g',?_,oj hi ⟨?_,?_,aa⟩⟩
  .rw[ag,ag,aS];exact ao ⋯
  .have U:decide (WB s0=WB ("ask":Ws))=jA A:=by
    have:=congrArg (!·) U;simpa using this
   rw[take_snoc p,au,au,U];rfl
  .intro b o q;rw[ah<|ae q hg];exact S _ _ q
theorem ID{K:Za}(h:xE K x H Q E):yU K Dw pC (bT Q) (start zH x) H:=by
 let⟨t,ft,s,l1,l2,l3,L,ts,J0,J2,J3,n,w,p,rfl,T,m,al,hs,hz,k⟩:=h;have z4:=m.Qf;apply⟨_,fj,(by show 1<=ak;decide),λhh M=>⟨nY w,nY bN,cg<|bE.same (ab.new M) hs,cg<|bE.of aa,by rw[c6];decide,by rw[c6];decide,_,fj,?_⟩⟩;rw[lh];have D:=ab.new (o:=.tup [.str "hush"]) M;generalize upd H hh (.tup [.str "hush"])=y at D ⊢;have I:=T.same D;have B:=D _ _ al;have an:=bE.same D hs;by_cases c:w=bN
 .rw[hH c];refine cS ?_;apply⟨_,fj,ft,fj,⟨_,bE.of B⟩,λf hf=>?_⟩
  let ap:Nat->List V->Hp->Prop:=λi x H'=>x=((n.take i).filter λr=>decide (r∉fJ p)).map WB/\ab y H'/\H' f=eH (.lst x)
  refine Eu (xs:=n.map WB) ap ⟨fj,ab.new hf,aa⟩ (λi x H' _ zq=>by let⟨_,S,h'⟩:=zq;exact⟨h',bE.of<|S _ _ B⟩) ?_ ?_
  .rintro x H' ⟨rfl,S,l⟩;rw[ag,aX]at l;apply⟨f,_,fj,.inl ⟨az.of l,λt' as=>k t' _ ?_<|(D.trans S).trans<|ab.new as⟩⟩;rw[aa];unfold qo;rw[if_pos c]
  .rintro i x H' x' C hi ⟨rfl,S,l⟩;let⟨r,hr,rfl⟩:=bu C;refine gN ?_;apply⟨_,fj,_,fj,t,l1,l2,l3,L,ts,J0,J2,J3,p,r,fj,I.same S,m,λH2 A=>⟨_,fj,?_⟩⟩;have N:(((n.take i).filter λr=>decide (r∉fJ p)).map WB).length<ak:=by
    rw[ag];refine ao<|bH (b_ _ _) ?_;rw[aS];nofun
   refine rJ (λhq=>?_)<|λhq=>?_
   .refine⟨_,fj,A _ _ l,N,oj hi ⟨?_,?_,aa⟩⟩
    .rw[dI hr,if_pos hq,au];rfl
    .intro b o q;rw[ah<|ae q hf];exact A _ _<|S _ _ q
   .refine oj hi ⟨?_,S.trans A,A _ _ l⟩;rw[dI hr,if_neg hq,dj]
 rw[hB c];refine bF ?_;apply⟨(by show 0<=ak;decide),λf hf=>?_⟩;let⟨H2,Wy,A,f2⟩:=Wx (o:=.lst []) hf;rw[Wy];have T2:=I.same A;have n4:L≠f:=ae I.a4 hf;apply⟨_,fj,t,_,3,.ref L,fj,fj,bE.of T2.t,fj,L,fj,⟨_,az.of T2.a4⟩,?_⟩
 let O:Nat->L2.St->Hp->Prop:=λi σ H'=>OS λ(G:Zb) (x4 x5 x6:Option V)=>Ma (σ=[eH<|.ref t,eH<|.ref ft,eH<|.ref s,eH<|.ref f,x4,x5,x6]) (H' f=eH (.lst<|G.map WB)) (∀b o,y b=eH o->H' b=eH o) (G.length<=i) (∀g,g∈G↔∃d∈p.take i,d.a∈n/\d.sg=w/\d.b=g)
 refine cb (xs:=ts.map WC) O ⟨[],_,_,_,fj,f2,λb o e=>A _ _ e,aF _,λg=>⟨λh=>(by cases h),λ⟨_,h,_⟩=>(by simp at h)⟩⟩ (λi σ H' _ zq=>by let⟨_,_,_,_,_,_,S,_,_⟩:=zq;exact az.of<|S _ _ I.a4) ?_ ?_
 .rintro i x' σ H' C ⟨G,x4,x5,x6,rfl,l,S,hl,J⟩;have S:ab y H':=S;let⟨u,hu,rfl⟩:=cJ C;let⟨j,U,Y⟩:=Paired.getL I.ds hu;let⟨sb,aC,a0⟩:=Y.kt<|ab.kt S;have a5:i<p.length:=(bY.mp U).1;have v:∀g,(∃d∈p.take (i+1),d.a∈n/\d.sg=w/\d.b=g)↔((∃d∈p.take i,d.a∈n/\d.sg=w/\d.b=g)∨(j.a∈n/\j.sg=w/\j.b=g)):=by
   intro g;rw[take_snoc U];constructor
   .rintro⟨d,hd,h⟩;obtain hd|hd:=bt.mp hd
    .exact .inl ⟨d,hd,h⟩
    .have:d=j:=by simpa using hd
     subst this;exact .inr h
   .rintro(⟨d,hd,h⟩|h)
    .exact⟨d,cE _ hd,h⟩
    .exact⟨j,dh _ ∅,h⟩
  apply⟨u,_,fj,bE.of aC,fj,_,_,fj,_,_,fj,_,_,fj,fj,?_⟩;have keep:¬(j.a∈n/\j.sg=w/\j.b∉G)->O (i+1) [eH<|.ref t,eH<|.ref ft,eH<|.ref s,eH<|.ref f,eH<|.str j.a,eH<|.ref sb,eH<|.str j.b] H':=λz=>by
   apply⟨G,_,_,_,fj,l,S,by nofun,λg=>?_⟩;rw[v,J];apply⟨.inl,λh=>h.elim id λh=>?_⟩;rw[<-J];by_cases q:g∈G
   .exact q
   .exact absurd ⟨h.1,h.2.1,by rw[h.2.2];exact q⟩ z
  apply⟨_,fj,_,fj,dD j.a,n.map dD,ft,_,tT _,fj,.inr<|bE.of<|S _ _ B,iB _,(by show 0<=8;decide),by rw[gw];decide,_,fj,?_⟩;rw[if_neg h9,wt];by_cases c1:j.a∈n;rotate_left
  .rw[hB c1];exact bF<|bF<|keep λz=>c1 z.1
  rw[hH c1];refine cS ?_;apply⟨_,fj,_,fj,nY j.sg,nY w,cg<|bE.of a0,cg<|bE.same S an,by rw[c6];decide,by rw[c6];decide,_,fj,?_⟩;rw[lh];by_cases c2:j.sg=w;rotate_left
  .rw[hB c2];exact bF<|bF<|keep λz=>c2 z.2.1
  rw[hH c2];refine cS ?_;apply⟨_,fj,_,fj,dD j.b,G.map dD,f,_,tT _,fj,.inl<|az.of l,iB _,(by show 0<=8;decide),by rw[gw];decide,_,fj,?_⟩;rw[if_pos rfl,wt];by_cases c3:j.b∈G
  .rw[hH c3];exact bF<|keep λz=>z.2.2 c3
  rw[hB c3];refine cS ?_;apply⟨_,fj,.inl ⟨fj,_,az.of l⟩,_,fj,f,_,_,fj,fj,l,by rw[ag];exact ao ⋯,G++[j.b],_,_,_,fj,by rw[aa,au];rfl,λb o e=>?_,by rw[aA];show G.length+1<=i+1;nofun,λg=>?_⟩
  .rw[ah<|ae e hf];exact S _ _ e
  .rw[v,<-J,bt];simp only[bq];exact⟨λh=>h.imp id λh=>⟨c1,c2,h.symm⟩,λh=>h.imp id λh=>h.2.2.symm⟩
 .rintro σ H' ⟨G,x4,x5,x6,rfl,l,S,hl,J⟩;have S:ab y H':=S;rw[ag,Paired.length T.ds]at hl;rw[ag,Paired.length T.ds,aX]at J;apply⟨_,fj,_,fj,t,f,l1,l2,l3,L,ts,J0,J2,J3,G,p,fj,I.same S,m,l,by nofun,λt' H' h1 S'=>k t' H' ?_<|(D.trans S).trans S'⟩;rw[h1];unfold qo;rw[if_neg c]
  suffices e0:hJ J3 p G=hJ J3 p (dW p w n) by rw[e0]
  refine Ev λg=>?_;rw[J,ff];constructor
  .rintro⟨⟨a,a6,b⟩,hd,h1,h2,h3⟩;simp only at h1 h2 h3;subst h2 h3;exact⟨a,h1,hd⟩
  .rintro⟨r,hr,h⟩;exact⟨_,h,hr,fj,fj⟩
open Classical in
theorem Gi{K:Za}(Pv:Nat->List V->Hp->Prop)(r:Pv 0 []<|upd n l<|.lst [])(h:∀i e H,i<=xs.length->Pv i e H->H l=eH (.lst e)/\az K H a xs)(s:∀e H,Pv xs.length e H->Q H)(w:∀i e H x p,xs[i]?=eH x->i<xs.length->Pv i e H->H p=none->g (.ref p) (de k fi σ) (upd H p<|.tup [.int i,x]) fun σ2 z=>j σ2 z λb o =>
   if b=true then m σ2 o λv q=>q l=eH (.lst e)/\e.length<ak/\∃f,f<xs.length-i/\Wc xs.length Pv (i+1) f (e++[v]) (upd q l<|.lst<|e++[v])else ∃f,f<xs.length-i/\Wc xs.length Pv (i+1) f e o) :
  dB k fi σ (OU K a) g j m n l Q:=by
 refine kJ xs.length Pv r (λi e H hi p=>(h i e H hi p).1) (λi e H hi p=>?_) (λe H p=>?_) λi e H x C hi p y=>?_
 .exact⟨xs,xs[i],(h i e H (cA hi) p).2,by simp[hi]⟩
 .exact⟨⟨xs,(h _ e H (aF _) p).2,aF _⟩,s e H p⟩
 .obtain⟨t,u,rfl,A,B,rfl⟩:=y;exact w i e H u t (B xs (h i e H (cA hi) p).2) hi p A
inductive sT(vs:List V)(H:Hp)(Q:VK)(E:XK):Prop
 |mk (n:Nat):vs=[.int n]->n<200->(∀H',ab H H'->Q (.str (JI n)) H')->sT vs H Q E
theorem Pb{c:Nat}(h:c<26):yP (Str.cps "abcdefghijklmnopqrstuvwxyz").toList (c:Int)=eH (97+c):=by
 refine cO ?_;have:∀c:_root_.Fin 26,(Str.cps "abcdefghijklmnopqrstuvwxyz").toList[c.1]?=eH (97+c.1):=by decide
 exact this ⟨c,h⟩
theorem Kz{K:Za}(h:sT a H Q E):uB K (bT Q) (start u4 a) H:=by
 let⟨n,rfl,i,k⟩:=h;apply⟨_,fj,.inr ⟨_,fj,(by show 26<=ak;decide),n,26,fj,⟨Wt,Wt⟩,λp e=>?_⟩⟩;have S:=ab.new (o:=.tup [.int<|(n:Int) / 26,.int<|(n:Int) % 26]) e;have f:(n:Int) / 26=((n / 26:Nat):Int):=by nofun
 have g:(n:Int) % 26=((n % 26:Nat):Int):=by nofun
 apply⟨p,_,fj,bE.of aa,fj,_,_,fj,_,_,fj,fj,?_⟩;apply⟨_,fj,_,_,_,fj,fj,(by show 26<=ak;decide),by rw[f];exact Pb (c:=n / 26) ⋯,_,fj,_,_,_,fj,fj,(by show 26<=ak;decide),by rw[g];exact Pb (c:=n % 26) ⋯,_,_,fj,fj,(by show 1+1<=ak;decide),k _ S⟩
theorem Ji{d:Wk}{o:Obj}{u:HO}{n:Nat}{f:Nat->Hp->V->V->Prop}{g:TG}{k:TS}{D:mQ}{σ:L2.St}{H:Hp}(Pv:Nat->L2.St->Hp->Prop)(r:Pv 0 σ H)(s:∀i σ H,i<=n->Pv i σ H->H d=eH (.oI o u))
  (t:∀i σ H a b,i<n->Pv i σ H->f i H a b->g a σ H fun σ2 j=>k {D with nx:=Pv<|i+1,ct:=Pv<|i+1,bk:=D.nx} σ2 j) (v:∀σ H,Pv n σ H->D.nx σ H) :
  ∃W:Nat->Nat->L2.St->Hp->Prop,(∃m,W 0 m σ H)/\∀i m σ H,W i m σ H ->
   ((Mc d o u n f).stop i H/\D.nx σ H)∨((Mc d o u n f).go i H/\∃N:L2.St->Hp->Prop,(∀σ' h,N σ' h->∃l,l<m/\W (i+1) l σ' h)/\∀x h,(Mc d o u n f).Se i H x h->g x σ h fun σ2 j=>k {D with nx:=N,ct:=N,bk:=D.nx} σ2 j):=by
 apply⟨λi m σ H=>m=n-i/\i<=n/\Pv i σ H,⟨n,by simp,cH _,r⟩,?_⟩;rintro i m σ H ⟨rfl,hi,p⟩;have q:=s i σ H hi p;by_cases lt:i<n
 .refine .inr ⟨⟨q,lt⟩,Pv<|i+1,fun σ' h w=>⟨n-(i+1),by nofun,fj,lt,w⟩,λx h y=>?_⟩;let⟨rfl,b,z⟩:=y;exact t i σ _ x b lt p z
 .have e:i=n:=by nofun
  subst e;exact .inl ⟨⟨q,aF _⟩,v σ H p⟩
def IM(p:Ws×Ws):List Ws:=[p.1,p.2]
theorem Hc(h:j9 (IM p)=j9 (IM q)):p=q:=by
 have h:=k_ h;unfold IM at h;injection h with e a;injection a with a;exact Prod.ext e a
def vz(J3 Wu:Zb)(L:List<|Ws×Ws):List (TK×V):=L.map λp=>(j9<|IM p,.str<|kO J3 Wu p)
theorem xI:∀(f a:List<|TK×V),((a++f).map Prod.fst).Nodup->putAll a f=a++f
 |[],a,_=>(dj _).symm
 |kv::f,a,h=>by
  show putAll (dR a kv.1 kv.2) f=_;have no:cy a kv.1=none:=Bx λx hx z=>by
   rw[au,cQ]at h;exact h.2.2 _ (eC hx) kv.1 (cT) z
  rw[jx _ no];have e:a++[(kv.1,kv.2)]++f=a++kv::f:=by rw[dQ];rfl
  rw[xI f _ (by rw[e];exact h),e]
theorem I_(h:L.Nodup):((vz e a L).map Prod.fst).Nodup:=by
 unfold vz qA;rw[jD,jD];exact qz (fun{p q} n z=>n<|Hc z) h
theorem Ce:∀{L:List (Ws×Ws)}{p:Ws×Ws},p∈L->cy (vz e a L) (j9<|IM p)=eH (.str<|kO e a p)
 |q::L,p,h=>by
  show cy ((j9<|IM q,WB<|kO e a q)::vz e a L) _=_;by_cases c:q=p
  .rw[c,c8 rfl]
  .rw[cU<|λz=>c<|Hc z];exact Ce<|(cq.1 h).resolve_left<|λz=>c z.symm
inductive iP(C:Wk)(vs:List V)(H:Hp)(Q:VK)(E:XK):Prop
 |mk (M N:Wk) (J0 J2 J3 Ww Wv Wu:Zb) (ds gr:List am):vs=[.ref M,.ref N]->bf C H M J0 J2 J3 ds->bf C H N Ww Wv Wu gr->JoinOk J0 J2 J3 Ww Wv Wu ds gr->(∀r∈J3,∀a∈J0,hW ds r a)->(∀r∈Wu,∀a∈Ww,hW gr r a)->((n_ ds gr J2 Wv J3 Wu (aG J0 J2 Ww Wv)).length<=1000) ->
  (∀(x:Wk) (H':Hp),bf C H' x (cX J0 J2 Ww Wv) (J2++Wv) (bP J3 Wu) (n_ ds gr J2 Wv J3 Wu (aG J0 J2 Ww Wv))->ab H H'->Q (.ref x) H')->iP C vs H Q E
theorem IB{K:Za}(h:iP C vs H Q E):J9 K C (sU C) (kW C) (oX C) (pG K C) (pF K C) (pB C) sT (oT C) (jS C) (sS C) (bT Q) (start LN vs) H:=by
 let⟨M,N,D,A,J3,y,v,l,Y,B,rfl,MM,MN,J,tk,cs,Qf,k⟩:=h;have m:=MM.ok;have m':=MN.ok;have z1:=m.A2;have z2:=m'.A2;have MJ:=Oo m m' J Qf;have b1:=ni m.RV.1 m'.RV.1;have lP:(aL J3 l).length<=100:=by rw[iV];exact t6 J.r1 J.r2
 apply⟨_,fj,_,fj,M,N,D,A,J3,y,v,l,Y,B,fj,MM,MN,J,λH1 S1=>?_⟩;apply⟨_,fj,M,D,A,J3,Y,fj,MM.same S1,tk,λH2 T=>?_⟩;have G:=S1.trans T;apply⟨_,fj,N,y,v,l,B,fj,MN.same G,cs,λH3 S3=>?_⟩;have an:=G.trans S3;apply⟨_,fj,_,fj,M,N,D,A,J3,y,v,l,Y,B,fj,MM.same an,MN.same an,λwl H4 b2 _ S4=>?_⟩;have ap:=an.trans S4;have lW:(aG D A y v).length<=8:=by
  unfold aG;have h1:=b_ (λw=>decide (w∈y)) A;have h2:=b_ (λw=>decide (w∈D)) v;rw[aA];nofun
 clear S1 T G S3 an S4;apply⟨_,fj,_,fj,M,N,D,A,J3,y,v,l,Y,B,fj,MM.same ap,MN.same ap,J.r1,J.r2,λpl us H5 bb bd _ S5=>⟨pl,fj,⟨_,az.of bb⟩,λcl bh=>?_⟩⟩;have b3:=ap.trans S5;have a8:=S5 _ _ b2;have b4:=Paired.length bd;clear ap S5 b2
 let zE:Nat->List V->Hp->Prop:=λi vs U=>∃ts:List Wk,Ma (vs=ts.map WC) (ab H5 U) (U cl=eH (.lst vs)) (ts.length=i) (∀(j:Nat) (t u:Wk),ts[j]?=eH t->us[j]?=eH u->U t=eH (.tup [.ref u,.str<|JI j]))
 refine Gi (xs:=us.map WC) zE ⟨[],fj,ab.new bh,aa,fj,λj t u e=>by simp at e⟩ (λi vs U _ zq=>by let⟨_,_,S,h',_⟩:=zq;exact⟨h',az.of<|S _ _ bb⟩) ?_ ?_;rotate_left
 .rintro i vs H6 x p hx hi ⟨ts,rfl,S6,h6,lt,a6⟩ hp;let⟨u,hu,rfl⟩:=cJ hx;rw[ag]at hi;let⟨H7,Wy,Sp,pp⟩:=Wx (o:=.tup [.int i,.ref u]) hp;rw[Wy];apply⟨p,_,fj,bE.of pp,fj,_,_,fj,_,_,fj,fj,su ⟨_,fj,_,fj,i,fj,by nofun,λH8 S8=>⟨(by show 2<=ak;decide),λt ht=>?_⟩⟩⟩;have S9:=ab.new (o:=.tup [.ref u,.str<|JI i]) ht;have t9:=Wz H8 t (.tup [.ref u,.str<|JI i]);show _/\_/\_;generalize upd H8 t (.tup [.ref u,.str<|JI i])=H9 at S9 t9 ⊢;have a7:=Sp.trans<|S8.trans S9;have kt:h_ H9 (upd H9 cl<|.lst<|ts.map WC++[.ref t]):=eF<|a7 _ _ h6;apply⟨a7 _ _ h6,by rw[ag];exact ao ⋯,oj (by rw[ag];exact hi) ⟨ts++[t],by rw[au];rfl,λb o e=>?_,aa,by rw[aA,lt];rfl,λj t' u' h1 h2=>?_⟩⟩
  .rw[ah<|ae e bh];exact a7 _ _<|S6 _ _ e
  .by_cases c:j<ts.length
   .rw[iK c]at h1;exact kt _ _<|a7 _ _<|a6 j t' u' h1 h2
   .have ej:j=ts.length:=by
     have:=(bY.1 h1).1;rw[aA]at this;have:j<ts.length+1:=this;nofun
    rw[ej,oF<|aF _,Nat.sub_self]at h1;have h1:eH t=eH t':=h1;cases h1;rw[ej,lt,hu]at h2;cases h2;rw[ej,lt];exact kt _ _ t9
 rintro vs H6 ⟨ts,rfl,S6,h6,lt,a6⟩;rw[ag]at lt;have a9:Paired (Py H6) us (aL J3 l):=Paired.i3 bd λ_ _ r=>S6 _ _ r;have bi:=b3.trans S6;have ba:=S6 _ _ a8;apply⟨cl,ts,us,vz J3 l<|aL J3 l,fj,az.of h6,by rw[lt,b4];unfold vz;rw[ag],by rw[b4];unfold vz;rw[ag],λj t b kv h1 h2 h3=>?_,λI bl=>?_⟩
 .unfold vz at h3;rw[bV]at h3;let⟨p,hp,rfl⟩:=mU.1 h3;let⟨b',b5,pr⟩:=Paired.get a9 hp;rw[h2]at b5;cases b5;have en:kO J3 l p=JI j:=by
   let⟨hj,e⟩:=bY.1 hp;unfold kO;rw[<-e,b1.idxOf_getElem j hj]
  apply⟨by rw[a6 j t b h1 h2];show _=eH (HO.tup [.ref b,.str<|kO J3 l p]);rw[en],xg (xs:=IM p)<|.inl pr,fG _⟩
 rw[xI _ [] (by rw[List.nil_append];exact I_ b1),List.nil_append];let⟨H7,Wy,Sn,n7⟩:=Wx (o:=.dT<|vz J3 l<|aL J3 l) bl;rw[Wy];have n0:H I=none:=bi.free bl;have bn:=bi.trans Sn;have a0:=Sn _ _ ba;clear b3 S6 bi Sn a8 ba a6 lt h6 bd a9 bb bh bl;apply⟨(by show 0<=ak;decide),λdl a4=>?_⟩;have Sd:=ab.new (o:=.lst []) a4;have d8:upd H7 dl (.lst []) dl=eH (.lst<|([]:Ze).map WC):=aa;generalize upd H7 dl (.lst [])=H8 at Sd d8 ⊢;have b6:H dl=none:=bn.free a4;have n8:=Sd _ _ n7;have bz:I≠dl:=ae n7 a4;have b7:wl≠dl:=ae a0 a4;have b8:=bn.trans Sd;have as:=Sd _ _ a0;clear bn Sd a0 n7 a4;apply⟨_,fj,I,_,fj,.inl ⟨n8,λob=>?_⟩⟩;have ca:h_ H8 (upd H8 I<|.oI ob<|.dT<|vz J3 l<|aL J3 l):=λb xs e=>by rw[ah (λz=>by rw[z,n8]at e;cases e)];exact e
 have bI:ab H (upd H8 I<|.oI ob<|.dT<|vz J3 l<|aL J3 l):=λb o e=>by rw[ah<|ae e n0];exact b8 _ _ e
 have d9:upd H8 I (.oI ob<|.dT<|vz J3 l<|aL J3 l) dl=eH (.lst<|([]:Ze).map WC):=by rw[ah bz.symm];exact d8
 have n9:=Wz H8 I (.oI ob<|.dT<|vz J3 l<|aL J3 l);have w9:upd H8 I (.oI ob<|.dT<|vz J3 l<|aL J3 l) wl=eH (.lst<|(aG D A y v).map WB):=by rw[ah (λz=>by rw[z,n8]at as;cases as)];exact as
 generalize upd H8 I (.oI ob<|.dT<|vz J3 l<|aL J3 l)=H9 at ca bI d9 n9 w9 ⊢;have ct:wl≠I:=λz=>by rw[z,n9]at w9;cases w9
 clear n8 d8 as b8 ca;have lJ:∀i,((aL J3 l).take i |>.flatMap (kI Y B A v<|aG D A y v)).length<=1000:=λi=>by
  refine bH ?_ Qf;unfold n_ D0;rw[ag]
  conv=>rhs;rw[<-List.take_append_drop i (aL J3 l),qE,aA]
  exact uq _ _
 let zI:Nat->L2.St->Hp->Prop:=λi σ U=>L_ λ(us:Ze) (x5 x6:Option V)=>OI (σ=[eH<|.ref M,eH<|.ref N,eH<|.ref wl,eH<|.ref I,eH<|.ref dl,x5,x6]) (U dl=eH (.lst<|us.map WC)) (Paired (i7 K U) us<|((aL J3 l).take i).flatMap<|kI Y B A v<|aG D A y v) (ab H U) (U I=eH (.oI ob<|.dT<|vz J3 l<|aL J3 l))<|U wl=eH (.lst<|(aG D A y v).map WB)
 have cc:(vz J3 l<|aL J3 l).length=(aL J3 l).length:=by unfold vz;rw[ag]
 refine Ji zI ⟨[],_,_,fj,d9,.nil,bI,n9,w9⟩ (λi σ U _ zq=>by let⟨_,_,_,_,_,_,_,h',_⟩:=zq;exact h') ?_ ?_
 .rintro i σ H1 a b hi ⟨us,x5,x6,rfl,aC,O,S1,n1,w1⟩ ⟨ky,hk,cd⟩;rw[cc]at hi;have hp:(aL J3 l)[i]?=eH (aL J3 l)[i]:=bj hi;have ek:ky=j9 (IM (aL J3 l)[i]):=by
   unfold vz at hk;rw[bV,hp]at hk;have hk:eH (j9<|IM (aL J3 l)[i],WB<|kO J3 l (aL J3 l)[i])=eH (ky,b):=hk;injection hk with hk;injection hk with hk _;exact hk.symm
  have ce:=cj hp;generalize(aL J3 l)[i]=p at hp ek ce;rw[ek]at cd;let⟨hr,rfl,tup⟩:=JT cd;have tup:dg K H1 hr (KU p):=tup;let⟨p1,p2⟩:=br.1 ce;refine gN ⟨_,fj,.inl ⟨fj,_,az.of aC⟩,_,fj,_,fj,_,fj,_,fj,M,N,hr,wl,p,D,A,J3,y,v,l,aG D A y v,Y,B,fj,MM.same S1,MN.same S1,tup,p1,p2,w1,J.d1,J.d2,λla ua H2 c0 ch _ T=>?_⟩;have G:=S1.trans T;apply⟨_,fj,_,fj,_,fj,_,fj,M,N,hr,wl,p,D,A,J3,y,v,l,aG D A y v,Y,B,fj,MM.same G,MN.same G,dg.kt (ab.kt T) tup,T _ _ w1,lW,J.d1,J.d2,λlt ut H3 c1 ci _ S3=>?_⟩;have c2:=T.trans S3;have snoc:((aL J3 l).take<|i+1).flatMap (kI Y B A v<|aG D A y v)=((aL J3 l).take i).flatMap (kI Y B A v<|aG D A y v)++(rP Y B (aG D A y v) p++uy Y B A v (aG D A y v) p):=by
   rw[take_snoc hp,qE,AM];rfl
  have l0:=lJ<|i+1;rw[snoc,aA,aA,<-Paired.length ch,<-Paired.length ci,<-Paired.length O]at l0;apply⟨la,lt,_,_,fj,fj,S3 _ _ c0,c1,by rw[ag,ag];exact cA (ao ⋯),λlc c3=>?_⟩;have S4:=ab.new (o:=.lst<|ua.map WC++ut.map WC) c3;have c4:upd H3 lc (.lst<|ua.map WC++ut.map WC) lc=eH (.lst<|(ua++ut).map WC):=by rw[aa,au]
  generalize upd H3 lc (.lst<|ua.map WC++ut.map WC)=H4 at S4 c4 ⊢;have a5:=c2.trans S4;have ck:=a5 _ _ aC;have kt:h_ H4 (upd H4 dl<|.lst<|us.map WC++(ua++ut).map WC):=eF ck;apply⟨dl,lc,_,_,fj,fj,ck,c4,by rw[ag,ag,aA];exact cA (ao ⋯),us++(ua++ut),_,_,fj,by rw[aa,<-au],?_,λb o q=>?_,?_,?_⟩
  .rw[snoc];exact Paired.app (Paired.i3 O λ_ _ r=>i7.kt kt<|i7.kt (ab.kt a5) r)<|Paired.app (Paired.i3 ch λ_ _ r=>i7.kt kt<|i7.kt (ab.kt<|S3.trans S4) r)<|Paired.i3 ci λ_ _ r=>i7.kt kt<|i7.kt (ab.kt S4) r
  .rw[ah<|ae q b6];exact a5 _ _<|S1 _ _ q
  .rw[ah bz];exact a5 _ _ n1
  .rw[ah b7];exact a5 _ _ w1
 rintro σ H1 ⟨us,x5,x6,rfl,aC,O,S1,n1,w1⟩;rw[cc,aX]at O;have lj:=Qf;unfold n_ at lj;rw[ag]at lj;have O:Paired (i7 K H1) us (D0 Y B A v J3 l<|aG D A y v):=O;have bS:∀e∈D0 Y B A v J3 l (aG D A y v),e.a∈aL J3 l/\e.b∈aL J3 l:=λe he=>by
  unfold D0 at he;let⟨p,hp,he⟩:=fQ.1 he;let⟨rfl,st⟩:=gP.1 he;exact⟨hp,st.Sm m m' hp⟩
 clear lJ n9 d9 w9 bI b7 ct b6 bz;apply⟨_,fj,dl,fj,⟨_,az.of aC⟩,λfl cm=>?_⟩;unfold n_ at MJ k;generalize D0 Y B A v J3 l (aG D A y v)=L at O lj bS MJ k
 let zC:Nat->List V->Hp->Prop:=λn vs U=>∃ws:List Wk,Mb (vs=ws.map WC) (ab H1 U) (U fl=eH (.lst vs)) (dJ U ws<|(L.take n).map<|Om J3 l)
 refine cu (xs:=us.map WC) zC ⟨[],fj,ab.new cm,aa,.nil⟩ (λi vs U _ zq=>by let⟨_,_,S,h',_⟩:=zq;exact⟨h',az.of<|S _ _ aC⟩) ?_ ?_;rotate_left
 .rintro n vs H2 x hx hn ⟨ws,rfl,T,h2,hw⟩;let⟨u,hu,rfl⟩:=cJ hx;let⟨e,he,hh,s,g,g1,g2,g3,g4⟩:=Paired.getL O hu;have nl:=(bY.1 he).1;let⟨ia,ib⟩:=bS e<|cj he;have rd:Rd H2 I (.dT<|vz J3 l<|aL J3 l):=.inr ⟨ob,T _ _ n1⟩;apply⟨u,_,fj,bE.of<|T _ _ g1,fj,_,_,fj,_,_,fj,_,_,fj,fj,su ?_⟩;apply⟨_,fj,_,fj,I,_,fj,.inr ⟨_,j9<|IM e.a,hh,rd,fj,wa (f:=IM e.a)<|dg.kt (ab.kt T) g2,fG _,(Ce ia).symm⟩,?_⟩;apply⟨_,fj,_,fj,_,fj,I,_,fj,.inr ⟨_,j9<|IM e.b,g,rd,fj,wa (f:=IM e.b)<|.inl<|T _ _ g4,fG _,(Ce ib).symm⟩,(by show 3<=ak;decide),λq hq=>?_⟩;have S3:=ab.new (o:=.tup [.str<|kO J3 l e.a,.ref s,.str<|kO J3 l e.b]) hq;have q3:=Wz H2 q (.tup [.str<|kO J3 l e.a,.ref s,.str<|kO J3 l e.b]);show _/\_/\_;generalize upd H2 q (.tup [.str<|kO J3 l e.a,.ref s,.str<|kO J3 l e.b])=H3 at S3 q3 ⊢;have kt:h_ H3 (upd H3 fl<|.lst<|ws.map WC++[.ref q]):=eF<|S3 _ _ h2;apply⟨S3 _ _ h2,by rw[ag,Paired.length hw,ag,aS];exact ao ⋯,oj hn ⟨ws++[q],by rw[au];rfl,λb o z=>?_,aa,?_⟩⟩
  .rw[ah<|ae z cm];exact S3 _ _<|T _ _ z
  .rw[take_snoc he,au];exact eD (Paired.i3 hw λ_ _ r=>jb.kt (λb xs z=>kt _ _<|S3 _ _ z) r) ⟨s,kt _ _ q3,kt _ _<|S3 _ _<|T _ _ g3⟩
 rintro vs H2 ⟨ws,rfl,T,h2,hw⟩;rw[ag,Paired.length O,aX]at hw;have G:=S1.trans T;have n2:=T _ _ n1;clear O bS lj aC n1 w1 S1 T;apply⟨_,fj,_,fj,M,N,D,A,J3,y,v,l,Y,B,fj,MM.same G,MN.same G,λal H3 c5 _ S3=>?_⟩;have an:=G.trans S3;let⟨dx,fs,g1,_,g2,_⟩:=(MM.same an).RW;apply⟨_,fj,M,dx,fs,fj,g1,g2,M,D,A,J3,Y,fj,MM.same an,λs1 da=>?_⟩;let⟨H4,Wy,S4,s4⟩:=Wx (o:=.lst<|A.map WB) da;rw[Wy];have ap:=an.trans S4;let⟨db,dc,dd,_,di,_⟩:=(MN.same ap).RW;apply⟨_,fj,N,db,dc,fj,dd,di,N,y,v,l,B,fj,MN.same ap,λs2 dm=>?_⟩;have S5:=ab.new (o:=.lst<|v.map WB) dm;have s5:=Wz H4 s2 (.lst<|v.map WB);show jU (.ref s1) (.ref s2) (upd H4 s2<|.lst<|v.map WB) _;generalize upd H4 s2 (.lst<|v.map WB)=H5 at S5 s5 ⊢;apply⟨s1,s2,_,_,fj,fj,S5 _ _ s4,s5,by rw[ag,ag];exact cA (ao ⋯),λsl dn=>?_⟩;have S6:=ab.new (o:=.lst<|A.map WB++v.map WB) dn;have s6:upd H5 sl (.lst<|A.map WB++v.map WB) sl=eH (.lst<|(A++v).map WB):=by rw[aa,au]
 generalize upd H5 sl (.lst<|A.map WB++v.map WB)=H6 at S6 s6 ⊢;have co:=S3.trans<|S4.trans<|S5.trans S6;apply⟨_,fj,I,_,fj,.inr ⟨ob,co _ _ n2⟩,λrl dp=>?_⟩;have e7:(vz J3 l<|aL J3 l).map AQ=(bP J3 l).map WB:=by unfold vz bP;rw[eZ,eZ];rfl
 rw[e7];let⟨H7,Wy,S7,r7⟩:=Wx (o:=.lst<|(bP J3 l).map WB) dp;rw[Wy];have b0:=co.trans S7;apply⟨_,fj,λx dx hx dr dt=>?_⟩;have S8:ab H7 (upd (upd H7 dx<|.own x) x<|.ins C dx []):=(ab.new dr).trans (ab.new (by rw[ah dt.symm];exact hx));apply⟨x,dx,al,sl,rl,fl,ws,cX D A y v,A++v,bP J3 l,L.map<|Om J3 l,fj,aa,⟨S8 _ _<|(S4.trans<|S5.trans<|S6.trans S7) _ _ c5,S8 _ _<|S7 _ _ s6,S8 _ _ r7,(b0.trans S8) _ _ h2,hw.kt<|ab.kt<|b0.trans S8⟩,MJ,λU Mx ex=>⟨fj,k x U Mx λb o q=>?_⟩⟩;have hq:=(G.trans b0) _ _ q;exact ex _ _ (S8 _ _ hq)<|ae hq hx
inductive sX (vs:List V)(H:Hp)(Q:VK)(E:XK):Prop
 |mk (p c l1 l2 l3:Wk) (J0 J2 J3:Zb) (full:Int):vs=[.ref p,.ref l1,.ref l2,.ref l3,.int full]->jL H p c->H l1=eH (.lst (J0.map WB))->H l2=eH (.lst (J2.map WB))->H l3=eH (.lst (J3.map WB))->J0.length<=3->J2≠[]->J2.length<=4->J3≠[]->J3.length<=26->0<=full->full<=2->(∀(l:Wk) (ts:Ze) (ds:List am) (up:Bool) (H':Hp),H l=none->H' l=eH (.lst (ts.map WC))->dJ H' ts ds->ds.Nodup->(∀d∈ds,pd J0 J2 J3 up d)->ds.length<=9 * J3.length->jL H' p c->fO p H H'->Q (.ref l) H')->sX  vs H Q E
inductive Vu(G:am->Prop)(H:Hp)(p c l l1 l2 l3:Wk)(full dn:Int)(i:Nat)(σ:L2.St)(H':Hp):Prop
 |mk (a7 a8 a9 Wg Wf We:Option V):σ=[eH (.ref p),eH (.ref l1),eH (.ref l2),eH (.ref l3),eH (.int full),eH (.ref l),eH (.int dn),a7,a8,a9,Wg,Wf,We]->DI G H p c l (9 * i) H'->Vu G H p c l l1 l2 l3 full dn i σ H'
theorem KB{K:Za}(h:sX vs H Q E):uD K im uO (bT Q) (start u7 vs) H:=by
 let⟨p,c,l1,l2,l3,J0,J2,J3,a,rfl,hp,h1,h2,h3,ha,b3,hs,a4,hr,f0,f2,k⟩:=h;have n1:=hp.lN h1;have n2:=hp.lN h2;have n3:=hp.lN h3;apply⟨(by show 0<=ak;decide),λl hl=>?_⟩;have a5:=hp.Sh hl;have b4:=hp.Uk hl;apply⟨_,fj,fT (hp.ex<|ab.new hl) Wt Wt λM H1 d0 d1 b5 a6=>?_⟩;generalize hG:pd J0 J2 J3 (decide (M=0))=G;have base:DI G H p c l 0 H1:=⟨b5,⟨[],[],a6 _ _ aa a5.symm,.nil,qN,by simp,cH _⟩,(fO.new hl).trans a6,hl,a5,b4⟩;apply⟨_,fj,l3,fj,⟨_,az.of<|base.ex _ _ h3 n3⟩,?_⟩;refine o8 (xs:=J3.map WB) (Vu G H p c l l1 l2 l3 a M)
  ⟨_,_,_,_,_,_,fj,base⟩ (λi σ H' _ zq=>by let⟨_,_,_,_,_,_,_,D⟩:=zq;exact az.of<|D.ex _ _ h3 n3) ?_ ?_
 .rintro i x σ H' t hi ⟨a7,a8,C,m,v,A,rfl,D⟩ ht;obtain⟨room,f,rfl⟩:∃room,J3[i]?=eH room/\x=WB room:=by
   rw[bV]at hi;cases q:J3[i]? with
   |none=>rw[q]at hi;cases hi
   |some r=>rw[q]at hi;exact⟨r,fj,(gp hi).symm⟩
  have c3:i<J3.length:=(bY.mp f).1;have N:room∈J3:=cj f;apply⟨t,_,fj,bE.of aa,fj,_,_,fj,_,_,fj,fj,?_⟩;have D1:=D.new ht (o:=.tup [.int i,.str room]);apply⟨(by show 4<=ak;decide),λq hq=>⟨_,fj,fT (D1.new hq).pen Wt Wt λr H2 r0 r1 b6 ba=>?_⟩⟩;let⟨j,hj,j0,j2⟩:=VH (x:=0) Wt Wt r0 r1;have D2:=(D1.new hq).Qx b6 ba;apply⟨q,_,_,_,fj,fj,az.of<|ba q _ aa (D1.pen.Sh hq).symm,hj,j,fj,by nofun,by nofun,?_⟩
  let b7:Nat->L2.St->Hp->Prop:=λi' σ O=>JG λ(C m:Option V)=>σ=[eH<|.ref p,eH<|.ref l1,eH<|.ref l2,eH<|.ref l3,eH<|.int a,eH<|.ref l,eH<|.int M,eH<|.int i,eH<|.str room,C,m,v,A]/\DI G H p c l (9 * i+i') O
  refine j_ (lo:=0) (n:=j.toNat) b7
   ⟨_,_,fj,D2⟩ ?_ ?_
  .rintro i' σ H3 I ⟨C,m,rfl,D3⟩;refine wm (λ_ _ _ _ h=>h) rfl rfl D3.pen (D3.ex _ _ h2 n2) b3 ⋯ λw hw H4 b8 ca=>?_;have D4:=D3.Qx b8 ca;apply⟨(by show 2<=ak;decide),λL g=>?_⟩;have D5:=D4.new g (o:=.tup [.str "say",.str w]);apply⟨_,fj,_,fj,_,fj,wm (λ_ _ _ _ h=>h) rfl rfl D5.pen (D5.ex _ _ h3 n3) a4 ⋯ λU J H6 cc bb=>?_⟩;have D6:=D5.Qx cc bb;apply⟨(by show 3<=ak;decide),λdr u=>?_⟩;have D7:=D6.new u (o:=.tup [.str room,.ref L,.str U]);have bd:H6 L=eH (.tup [.str "say",.str w]):=bb _ _ aa (D4.pen.Sh g).symm;refine D7.put (d:=⟨room,["say",w],U⟩) ⟨L,aa,kp bd u⟩ ?_ ⋯ λH8 Y=>⟨_,_,fj,Y⟩;rw[<-hG];exact⟨N,J,.inr<|.inl ⟨w,hw,fj⟩⟩
  rintro σ H3 ⟨C,m,rfl,bh⟩;have D3:DI G H p c l (9 * i+2) H3:=bh.up ⋯;clear bh;apply⟨_,fj,l1,fj,⟨_,az.of<|D3.ex _ _ h1 n1⟩,?_⟩
  let cd:Nat->L2.St->Hp->Prop:=λi' σ O=>JG λ(C v:Option V)=>σ=[eH<|.ref p,eH<|.ref l1,eH<|.ref l2,eH<|.ref l3,eH<|.int a,eH<|.ref l,eH<|.int M,eH<|.int i,eH<|.str room,C,m,v,A]/\DI G H p c l (9 * i+2+2 * i') O
  refine cb (xs:=J0.map WB) cd
   ⟨_,_,fj,D3⟩ (λi σ H' _ zq=>by let⟨_,_,_,D⟩:=zq;exact az.of<|D.ex _ _ h1 n1) ?_ ?_
  .rintro i' x σ H4 I ⟨C,v,rfl,D4⟩;obtain⟨ask,an,rfl⟩:∃ask,J0[i']?=eH ask/\x=WB ask:=by
    rw[bV]at I;cases q:J0[i']? with
    |none=>rw[q]at I;cases I
    |some r=>rw[q]at I;exact⟨r,fj,(gp I).symm⟩
   have c4:i'<J0.length:=(bY.mp an).1;have ce:ask∈J0:=cj an;apply⟨_,fj,(by show 4<=ak;decide),λq hq=>⟨_,fj,fT (D4.new hq).pen Wt Wt λr H5 r0 r1 ch bi=>?_⟩⟩;let⟨j,hj,j0,j2⟩:=VH f0 f2 r0 r1;have D5:=(D4.new hq).Qx ch bi;apply⟨q,_,_,_,fj,fj,az.of<|bi q _ aa (D4.pen.Sh hq).symm,hj,j,fj,by nofun,by nofun,?_⟩
   let ci:Nat->L2.St->Hp->Prop:=λbl σ O=>∃C:Option V,σ=[eH<|.ref p,eH<|.ref l1,eH<|.ref l2,eH<|.ref l3,eH<|.int a,eH<|.ref l,eH<|.int M,eH<|.int i,eH<|.str room,C,m,eH<|.str ask,A]/\DI G H p c l (9 * i+2+2 * i'+bl) O
   refine j_ (lo:=0) (n:=j.toNat) ci
    ⟨_,fj,D5⟩ ?_ ?_
   .rintro bl σ H6 c2 ⟨C,rfl,D6⟩;apply⟨_,fj,_,fj,_,fj,(by show 2<=ak;decide),λL g=>?_⟩;have D7:=D6.new g (o:=.tup [.str "ask",.str ask]);refine wm (λ_ _ _ _ h=>h) rfl rfl D7.pen (D7.ex _ _ h3 n3) a4 ⋯ λU J H8 ck bn=>?_;have Y:=D7.Qx ck bn;apply⟨(by show 3<=ak;decide),λdr u=>?_⟩;have D9:=Y.new u (o:=.tup [.str room,.ref L,.str U]);have bz:H8 L=eH (.tup [.str "ask",.str ask]):=bn _ _ aa (D6.pen.Sh g).symm;refine D9.put (d:=⟨room,["ask",ask],U⟩) ⟨L,aa,kp bz u⟩ ?_ ⋯ λH8 Y=>⟨_,fj,Y⟩;rw[<-hG];exact⟨N,J,.inl ⟨ask,ce,fj⟩⟩
   .rintro σ H6 ⟨C,rfl,D6⟩;exact⟨_,_,fj,D6.up ⋯⟩
  rintro σ H4 ⟨C,v,rfl,bI⟩;have D4:DI G H p c l (9 * i+8) H4:=bI.up (by rw[ag];nofun);clear bI;have B:∀(H9:Hp) (A:Option V),DI G H p c l (9 * i+9) H9->Vu G H p c l l1 l2 l3 a M (i+1) [eH<|.ref p,eH<|.ref l1,eH<|.ref l2,eH<|.ref l3,eH<|.int a,eH<|.ref l,eH<|.int M,eH<|.int i,eH<|.str room,C,m,v,A] H9:=λH9 A D9=>⟨_,_,_,_,_,_,fj,D9.up ⋯⟩;apply⟨_,fj,_,fj,_,_,fj,fj,_,fj,l3,_,fj,az.of<|D4.ex _ _ h3 n3,λq1 cl=>?_⟩;have D5:=D4.new cl (o:=.lst<|mM (J3.map WB) (eH<|(i:Int)+1) none);apply⟨_,fj,_,fj,_,fj,l3,_,fj,az.of<|D5.ex _ _ h3 n3,λq2 bS=>?_⟩;have e1:mM (J3.map WB) (eH<|(i:Int)+1) none=(J3.drop<|i+1).map WB:=Jq J3<|i+1;rw[wv];have D6:=D5.new bS (o:=.lst<|(J3.take i).map WB);apply⟨(by show 2<=ak;decide),λq3 as=>?_⟩;have D7:=D6.new as (o:=.lst [.ref q1,.ref q2]);obtain⟨lt,q,hq,al,T⟩:∃(lt:Zb) (q:Wk),yP [WC q1,.ref q2] M=eH (.ref q) /\
    upd (upd (upd H4 q1<|.lst<|mM (J3.map WB) (eH<|(i:Int)+1) none) q2<|.lst<|(J3.take i).map WB) q3 (.lst [.ref q1,.ref q2]) q=eH (.lst<|lt.map WB)/\lt.length<=26 /\
    ∀w∈lt,w∈J3/\Up (decide (M=0)) J3 room w:=by
   have:M=0∨M=1:=by nofun
   obtain rfl|rfl:=this
   .refine⟨J3.drop<|i+1,q1,fj,?_,by rw[lX];nofun,λw hw=>⟨List.mem_of_mem_drop hw,?_⟩⟩
    .refine(kp (kp aa bS) as).trans ?_;rw[e1]
    .obtain⟨n,hn⟩:=jE hw;rw[List.getElem?_drop]at hn;exact⟨i,i+1+n,f,hn,by rw[if_pos Wt];nofun⟩
   .refine⟨J3.take i,q2,fj,?_,by rw[aS];nofun,λw hw=>⟨gK hw,?_⟩⟩
    .exact kp aa as
    .obtain⟨n,hn⟩:=jE hw;have cm:n<i:=by
      have:=(bY.mp hn).1;rw[aS]at this;nofun
     rw[qX cm]at hn;exact⟨i,n,f,hn,by rw[if_neg Wt];nofun⟩
  apply⟨_,fj,q3,_,_,_,fj,fj,az.of aa,hq,?_⟩;generalize upd (upd (upd H4 q1<|.lst<|mM (J3.map WB) (eH<|(i:Int)+1) none) q2<|.lst<|(J3.take i).map WB) q3 (.lst [.ref q1,.ref q2])=H7 at D7 al ⊢;apply⟨_,fj,(by show 0<=ak;decide),λe he=>⟨.s<|lt.map dD,.s [],yf<|az.of<|kp al he,Cv<|az.of aa,?_,Wt,_,fj,?_⟩⟩
  .show DT.gg (lt.map dD)+1<=8;rw[gw];decide
  have Y:=D7.new he (o:=.lst []);by_cases hz:lt=[]
  .have ez:(!decide (DT.s (lt.map dD)=DT.s []))=false:=by rw[hz,hH (by rfl)];rfl
   rw[ez];exact bF (bF (B _ _ (Y.up ⋯)))
  .have ez:(!decide (DT.s (lt.map dD)=DT.s []))=true:=by
    rw[hB (λz=>hz (hC (y:=[]) (by injection z)))];rfl
   rw[ez];refine cS ?_;apply⟨_,fj,fT Y.pen Wt Wt λr H9 r0 r1 co b0=>⟨fj,_,fj,?_⟩⟩;have D9:=Y.Qx co b0;refine rJ (λ_=>?_) (λ_=>B _ _ (D9.up ⋯));apply⟨_,fj,_,fj,(by show 1<=ak;decide),λL g=>?_⟩;have b1:=D9.new g (o:=.tup [.str "still"]);have aC:upd H9 L (.tup [.str "still"]) q=eH (.lst<|lt.map WB):=kp (b0 _ _ (kp al he)<|Y.pen.lN<|kp al he) g;refine wm (λ_ _ _ _ h=>.inl h) rfl rfl b1.pen aC hz ⋯ λU J cs b2 ap=>?_;have ct:=b1.Qx b2 ap;apply⟨(by show 3<=ak;decide),λdr u=>?_⟩;have c0:=ct.new u (o:=.tup [.str room,.ref L,.str U]);have a0:cs L=eH (.tup [.str "still"]):=ap _ _ aa (D9.pen.Sh g).symm;refine c0.put (d:=⟨room,[("still":Ws)],U⟩) ⟨L,aa,kp a0 u⟩ ?_ ⋯ λc5 c1=>B _ _ c1;rw[<-hG];exact⟨N,(T.2 U J).1,.inr<|.inr ⟨fj,(T.2 U J).2⟩⟩
 .rintro σ H' ⟨a7,a8,C,m,v,A,rfl,D⟩;let⟨ts,ds,g1,g2,g3,g4,g5⟩:=D.ds;rw[ag]at g5;rw[<-hG]at g4;exact⟨_,fj,k l ts ds _ H' hl g1 g2 g3 g4 ⋯ D.pen D.ex⟩
theorem vG{K:Za}{g os:Zb}(hσ:de 1 fi σ=[none,eH<|.ref sm])(t:H sm=eH (.lst p))(u:yP p j=eH (.ref b))(y:H a=eH (.lst<|g.map WB))(A:H b=eH (.lst<|os.map WB))(q:H l=none)(J:g.length<=900)(k:∀f,ab H f->f l=eH (.lst<|(g.filter λw=>decide (w∈os)).map WB)->Q f) :
  dB 1 fi σ (HW K a) U0 (a_<|aI (lZ K false) V0<|aI (dE K) V1<|tC<|.int j) V0 H l Q:=by
 let B:Nat->List V->Hp->Prop:=λi m f=>m=((g.take i).filter λw=>decide (w∈os)).map WB/\ab H f/\f l=eH (.lst m)
 refine cu (xs:=g.map WB) B ⟨fj,ab.new q,aa⟩ (λi m f _ C=>by let⟨_,S,D⟩:=C;exact⟨D,az.of<|S _ _ y⟩) ?_ ?_
 .rintro m r ⟨rfl,S,n⟩;rw[ag,aX]at n;exact k r S n
 .rintro i m r x hx hi ⟨rfl,S,n⟩;let⟨w,s,rfl⟩:=bu hx;rw[hσ];refine gN ⟨_,fj,_,fj,sm,p,j,_,fj,fj,az.of<|S _ _ t,u,dD w,os.map dD,b,_,fj,fj,.inl<|az.of<|S _ _ A,iB os,cH _,by rw[i6];decide,_,fj,?_⟩;have E:(dD w∈os.map dD)↔w∈os:=⟨λz=>by let⟨v,G,e⟩:=ar.1 z;have e:DT.k (.inr v)=DT.k (.inr w):=e;injection e with e;injection e with e;rw[<-e];exact G,eC⟩;have I:(if false=true then !decide (dD w∈os.map dD)else decide (dD w∈os.map dD))=decide (w∈os):=decide_eq_decide.2 E
  rw[I];by_cases c:w∈os
  .rw[hH c];refine cS ⟨_,fj,n,?_,oj hi ⟨?_,λb o e=>?_,aa⟩⟩
   .rw[ag]at hi ⊢;exact ao (bH (b_ _ _) (by rw[aS];nofun))
   .rw[take_snoc s,gJ,au];have:[w].filter (λw=>decide (w∈os))=[w]:=by rw[lE,if_pos<|hH c];rfl
    rw[this];rfl
   .rw[ah<|ae e q];exact S _ _ e
  .rw[hB c];refine bF<|oj hi ⟨?_,S,n⟩;rw[take_snoc s,gJ];have:[w].filter (λw=>decide (w∈os))=[]:=by rw[lE,if_neg (by rw[hB c];decide)];rfl
   rw[this,dj]
structure F4(H:Hp)(sm:Wk)(A:Nat->Wk)(S:Nat->List Ws):Prop where
 l:H sm=eH (.lst [.ref (A 0),.ref (A 1),.ref (A 2),.ref (A 3)])
 s:∀k,k<4->H (A k)=eH (.lst ((S k).map WB))
theorem F4.same(h:F4 H a A S)(e:ab H H'):F4 H' a A S:=⟨e _ _ h.l,λk f=>e _ _<|h.s k f⟩
theorem F4.ix{A:Nat->Wk}{k:Nat}(h:k<4):yP [WC<|A 0,.ref<|A 1,.ref<|A 2,.ref<|A 3] (k:Int)=eH (.ref<|A k):=by
 refine cO ?_;obtain _|_|_|_|k:=k
 .rfl
 .rfl
 .rfl
 .rfl
 .omega
inductive mC(vs:List V)(H:Hp)(Q:VK)(E:XK):Prop
 |mk (sm:Wk) (A:Nat->Wk) (S:Nat->List Ws):vs=[.ref sm]->F4 H sm A S->((∀k,k<4->(S k).length<=4))->(∀(l:Wk) (H':Hp),H' l=eH (.lst ((cX (S 0) (S 1) (S 2) (S 3)).map WB))->H l=none->ab H H'->Q (.ref l) H')->mC vs H Q E
theorem KF{K:Za}(h:mC t H Q E):vI K (bT Q) (start vZ t) H:=by
 let⟨sm,A,S,rfl,F,z,k⟩:=h;have O:=z 0 Wt;have T:=z 1 Wt;have U:=z 2 Wt;have Y:=z 3 Wt;apply⟨_,fj,sm,_,1,_,fj,fj,az.of F.l,F4.ix (k:=1) Wt,A 1,fj,⟨_,az.of (F.s 1 Wt)⟩,λC o=>?_⟩;refine vG (sm:=sm) (j:=((2:Nat):Int)) rfl F.l (F4.ix (k:=2) Wt) (F.s 1 Wt) (F.s 2 Wt) o ⋯ λH1 u D=>?_;have e:=F.same u;apply⟨_,fj,sm,_,3,_,fj,fj,az.of e.l,F4.ix (k:=3) Wt,A 3,fj,⟨_,az.of (e.s 3 Wt)⟩,λG p=>?_⟩;refine vG (sm:=sm) (j:=((0:Nat):Int)) rfl e.l (F4.ix (k:=0) Wt) (e.s 3 Wt) (e.s 0 Wt) p ⋯ λf v I=>?_;have f1:=b_ (λw=>decide (w∈S 2))<|S 1;have f2:=b_ (λw=>decide (w∈S 0))<|S 3;apply⟨C,G,_,_,fj,fj,v _ _ D,I,by rw[ag,ag];exact cA (ao ⋯),λg q=>?_⟩;have x:=ab.new (o:=.lst<|((S 1).filter λw=>decide (w∈S 2)).map WB++((S 3).filter λw=>decide (w∈S 0)).map WB) q;have y:upd f g (.lst<|((S 1).filter λw=>decide (w∈S 2)).map WB++((S 3).filter λw=>decide (w∈S 0)).map WB) g=eH (.lst<|(aG (S 0) (S 1) (S 2)<|S 3).map WB):=by rw[aa,<-au];rfl
 generalize upd f g (.lst<|((S 1).filter λw=>decide (w∈S 2)).map WB++((S 3).filter λw=>decide (w∈S 0)).map WB)=i at x y ⊢;have a:=u.trans<|v.trans x;have m:=F.same a;apply⟨_,fj,sm,_,0,_,fj,fj,az.of m.l,F4.ix (k:=0) Wt,_,fj,sm,_,2,_,fj,fj,az.of m.l,F4.ix (k:=2) Wt,A 0,A 2,_,_,fj,fj,m.s 0 Wt,m.s 2 Wt,by rw[ag,ag];exact cA (ao ⋯),λc J=>?_⟩;have n:=ab.new (o:=.lst<|(S 0).map WB++(S 2).map WB) J;have B:upd i c (.lst<|(S 0).map WB++(S 2).map WB) c=eH (.lst<|(S 0++S 2).map WB):=by rw[aa,au]
 apply⟨c,fj,⟨_,az.of aa⟩,λl r=>?_⟩;generalize upd i c (.lst<|(S 0).map WB++(S 2).map WB)=H4 at n B r ⊢;exact rN (neg:=true) rfl B (n _ _ y) r (by rw[aA];nofun) λL M N=>k l L N ((a.trans n).free r)<|a.trans<|n.trans M
def UR(l:List Int):TA:=l.foldr (λi t=>av (tC<|.int i) t) aW
def Pu(L:List<|List Int):TA:=L.foldr (λl t=>av (bw<|UR l) t) aW
theorem Kf:∀(l:List Int) {H:Hp}{Q:List V->Hp->Prop},Q (l.map WD) H->UR l σ H Q
 |[],_,_,h=>h
 |i::l,H,Q,h=>Kf (σ:=σ) l (H:=H) (Q:=λa e=>Q (.int i::a) e) h
theorem Ke:∀(L:List<|List Int) {H:Hp}{Q:List V->Hp->Prop},(∀l∈L,l.length<=1000) ->
  (∀(f:Ze) (g:Hp),ab H g->Paired (λa (l:List Int)=>g a=eH (.lst<|l.map WD)) f L->(∀a∈f,H a=none)->f.Nodup->Q (f.map WC) g)->Pu L σ H Q
 |[],H,Q,_,k=>k [] H (λ_ _ e=>e) .nil (λa h=>by cases h) .nil
 |l::L,H,Q,j,k=>by
  show UR l σ H λi m=>i.length<=ak/\∀p,m p=none->Pu L σ (upd m p<|.lst i) λi r=>Q (.ref p::i) r;refine Kf l ⟨by rw[ag];exact cA<|ao<|j l cT,λp n=>?_⟩;have S:=ab.new (o:=.lst<|l.map WD) n;refine Ke L (λs h=>j s<|eN _ h) λf g o t q u=>k (p::f) g (S.trans o) (.cons (o _ _ aa) t) (λa ha=>?_) ?_
  .obtain rfl|ha:=cq.1 ha
   .exact n
   .exact S.free<|q a ha
  .refine gj.2 ⟨λz=>?_,u⟩;have:=q p z;rw[aa]at this;cases this
theorem Kj(h:∀l∈L,l.length<=1000)(i:L.length<=1000)(k:∀(e:Ze) (f:Hp) (y:Wk),ab H f->Paired (λa (l:List Int)=>f a=eH (.lst<|l.map WD)) e L->(∀a∈e,H a=none)->e.Nodup->f y=none->rest D (σ.set j<|some<|.ref y) (upd f y<|.lst<|e.map WC)):aq (aU (bw<|Pu L)<|eX j) rest D σ H :=
 show Pu L σ H _ from Ke L h λe f S g m n=>⟨by rw[ag,Paired.length g];exact cA<|ao i,λy o=>k e f y S g m n o⟩
def cf(i j:Nat):Bool:=decide ((i,j)∈[(0,1),(0,2),(1,3),(2,3)])
structure WI(P:Zb)(S:Nat->List Ws):Prop where
 nd:∀k,k<4->(S k).Nodup
 len:∀k,k<4->(S k).length<=2
 sub:∀k,k<4->∀w∈S k,w∈P
 ap:∀i j,cf i j=true->∀w∈S i,w∉S j
def DE(S:Nat->List Ws)(k:Nat)(w:Ws):Nat->List Ws:=λj=>if j=k then S k++[w]else S j
theorem mE:DE S k w k=S k++[w]:=if_pos rfl
theorem tD(h:j≠k):DE S k w j=S j:=if_neg h
theorem LC(h:cf i j=true):i<4/\j<4/\i≠j:=by
 have h:=of_decide_eq_true h;simp only[cq,mY,or_false,Prod.mk.injEq]at h;nofun
structure PF(S0:Nat->List Ws)(w:Ws)(l:List Nat)(S:Nat->List Ws):Prop where
 at_:∀k,k<4->S k=S0 k∨(k∈l/\S k=S0 k++[w]/\(S0 k).length<2)
theorem PF.wi(h:PF S0 w l S)(W:WI P S0)(m:w∉P)(o:∀i j,cf i j=true->¬(i∈l/\j∈l)):WI (P++[w]) S:=by
 have g:∀k,k<4->∀x∈S k,x∈S0 k∨(x=w/\k∈l):=λk f x hx=>by
  obtain e|⟨p,q,_⟩:=h.at_ k f
  .rw[e]at hx;exact .inl hx
  .rw[q]at hx;obtain z|z:=bt.1 hx
   .exact .inl z
   .exact .inr ⟨bq.1 z,p⟩
 apply⟨λk f=>?_,λk f=>?_,λk f x hx=>?_,λi j c x hx r=>?_⟩
 .obtain e|⟨_,e,_⟩:=h.at_ k f
  .rw[e];exact W.nd k f
  .rw[e];refine cQ.2 ⟨W.nd k f,gj.2 ⟨by simp,.nil⟩,λa s b t z=>?_⟩;rw[bq.1 t]at z;exact m<|z▸W.sub k f a s
 .obtain e|⟨_,e,z⟩:=h.at_ k f
  .rw[e];exact W.len k f
  .rw[e,aA];show _+1<=2;nofun
 .obtain z|z:=g k f x hx
  .exact cE _<|W.sub k f x z
  .exact dh _<|bq.2 z.1
 .obtain⟨hi,n,ne⟩:=LC c;obtain z|z:=g i hi x hx<;>obtain y|y:=g j n x r
  .exact W.ap i j c x z y
  .exact m<|y.1▸W.sub i hi x z
  .exact m<|z.1▸W.sub j n x y
  .exact o i j c ⟨z.2,y.2⟩
structure TW(H0:Hp)(p c:Wk)(A:Nat->Wk)(S:Nat->List Ws)(H':Hp):Prop where
 pen:jL H' p c
 ex:∀b o,H0 b=eH o->b≠p->(∀k,k<4->b≠A k)->H' b=eH o
 s:∀k,k<4->H' (A k)=eH (.lst ((S k).map WB))
structure Vp(p c:Wk)(A:Nat->Wk):Prop where
 p:∀k,k<4->A k≠p
 c:∀k,k<4->A k≠c
 inj:∀i j,i<4->j<4->A i=A j->i=j
section
variable{H0 H' UH:Hp}{p c:Wk}{A:Nat->Wk}{S:Nat->List Ws}
theorem TW.Qx(h:TW H0 p c A S H')(a:Vp p c A)(f:jL UH p c)(ex:fO p H' UH):TW H0 p c A S UH:=⟨f,λb o q n m=>ex _ _ (h.ex b o q n m) n,λk e=>ex _ _ (h.s k e)<|a.p k e⟩
theorem TW.same(h:TW H0 p c A S H')(e:ab H' UH):TW H0 p c A S UH:=⟨h.pen.ex e,λb o q n m=>e _ _<|h.ex b o q n m,λk a=>e _ _<|h.s k a⟩
theorem TW.put(h:TW H0 p c A S H')(a:Vp p c A)(f:k<4)(w:Ws):TW H0 p c A (DE S k w) (upd H' (A k)<|.lst<|(S k).map WB++[.str w]):=by
 apply⟨h.pen.upd (a.p k f).symm (a.c k f).symm,λb o q n m=>?_,λj g=>?_⟩
 .rw[ah<|m k f];exact h.ex b o q n m
 .by_cases e:j=k
  .subst e;rw[aa,mE,au];rfl
  .rw[ah<|λz=>e<|a.inj j k g f z,tD e];exact h.s j g
end
structure HQ(S:Nat->List Ws):Prop where
 ok:∀k,k<4->jp (S k)
 ne:∀k,k<4->S k≠[]
 l0:(S 0).length<=3
 l1:(S 1).length<=2
 l2:(S 2).length<=2
 l3:(S 3).length<=2
 ap:∀i j,cf i j=true->∀w∈S i,w∉S j
 a0:cX (S 0) (S 1) (S 2) (S 3)≠[]
 a4:(cX (S 0) (S 1) (S 2) (S 3)).length<=4
inductive wc(vs:List V)(H:Hp)(Q:VK)(E:XK):Prop
 |mk (p c:Wk):vs=[.ref p,.int 0]->jL H p c->(∀(sm:Wk) (A:Nat->Wk) (S:Nat->List Ws) (H':Hp),F4 H' sm A S->HQ S->jL H' p c->fO p H H'->Q (.ref sm) H')->wc vs H Q E
def zS:List (List Int):=[[0],[0],[1],[1],[2],[2],[3],[3],[1,2],[1,2],[0,3],[0,3],[],[0,2],[1,3]]
def kT:List (List Nat):=[[0],[0],[1],[1],[2],[2],[3],[3],[1,2],[1,2],[0,3],[0,3],[]]
theorem Mi(h:r<13):∃l:List Nat,zS[r]?=eH (l.map AJ)/\l.Nodup/\(∀k∈l,k<4)/\(∀i j,cf i j=true->¬(i∈l/\j∈l)):=by
 have a:∀r:_root_.Fin 13,∃l,kT[r.1]?=eH l/\zS[r.1]?=eH (l.map AJ)/\l.Nodup/\(∀k∈l,k<4)/\¬(0∈l/\1∈l)/\¬(0∈l/\2∈l)/\¬(1∈l/\3∈l)/\¬(2∈l/\3∈l):=by
  have:∀r:_root_.Fin 13,zS[r.1]?=eH ((kT.getD r.1 []).map AJ)/\kT[r.1]?=eH (kT.getD r.1 [])/\(kT.getD r.1 []).Nodup/\(∀k∈kT.getD r.1 [],k<4)/\¬(0∈kT.getD r.1 []/\1∈kT.getD r.1 [])/\¬(0∈kT.getD r.1 []/\2∈kT.getD r.1 [])/\¬(1∈kT.getD r.1 []/\3∈kT.getD r.1 [])/\¬(2∈kT.getD r.1 []/\3∈kT.getD r.1 []):=by decide
  intro r;let⟨e,f,g⟩:=this r;exact⟨_,f,e,g⟩
 let⟨l,_,e,f,g,m,n,o,p⟩:=a ⟨r,h⟩;apply⟨l,e,f,g,λi j c=>?_⟩;have c:=of_decide_eq_true c;simp only[cq,mY,or_false,Prod.mk.injEq]at c;obtain⟨rfl,rfl⟩|⟨rfl,rfl⟩|⟨rfl,rfl⟩|⟨rfl,rfl⟩:=c
 .exact m
 .exact n
 .exact o
 .exact p
theorem My{K:Za}(h:wc vs H Q E):vH K mC im oW (bT Q) (start vY vs) H:=by
 let⟨p,c,rfl,hp,k⟩:=h;apply⟨_,fj,p,c,13,fj,hp,Wt,λwl t H1 ok len _ bd as cm=>?_⟩;show aq _ _ _ _ _;refine Kj (L:=[[],[],[],[]]) Wt Wt λys H2 v S2 pr fr nd aC=>?_;obtain⟨b0,b1,b2,b3,rfl⟩:∃b0 b1 b2 b3,ys=[b0,b1,b2,b3]:=by
  have:=Paired.length pr;obtain _|⟨b0,_|⟨b1,_|⟨b2,_|⟨b3,_|⟨b4,ys⟩⟩⟩⟩⟩:=ys
  .cases this
  .cases this
  .cases this
  .cases this
  .exact⟨_,_,_,_,fj⟩
  .simp at this
 let A:Nat->Wk:=λk=>[b0,b1,b2,b3].getD k 0
 have hA:∀k,k<4->H2 (A k)=eH (.lst [])/\H1 (A k)=none:=λk m=>by
  have g:[b0,b1,b2,b3][k]?=eH (A k):=by
   obtain _|_|_|_|k:=k
   .rfl
   .rfl
   .rfl
   .rfl
   .omega
  let⟨l,hl,h⟩:=Paired.getL pr g;have:l=[]:=by
   have:=cj hl;simpa using this
  rw[this]at h;exact⟨h,fr _<|cj g⟩
 have a9:∀i j,i<4->j<4->A i=A j->i=j:=λi j hi G e=>by
  have l4:[b0,b1,b2,b3].length=4:=rfl;have g:∀k (h:k<4),A k=[b0,b1,b2,b3][k]:=λk h=>by
   show[b0,b1,b2,b3].getD k 0=_;rw[dP,bj ⋯]
   rfl
  rw[g i hi,g j G]at e;have pw:=qC.1 nd;obtain h|h|h:=wI i j
  .exact absurd e (pw i j ⋯ ⋯ h)
  .exact h
  .exact absurd e.symm (pw j i ⋯ ⋯ h)
 have S3:=ab.new (o:=.lst<|[b0,b1,b2,b3].map WC) aC;have b5:upd H2 v (.lst<|[b0,b1,b2,b3].map WC) v=eH (.lst [.ref<|A 0,.ref<|A 1,.ref<|A 2,.ref<|A 3]):=aa;have ba:∀k,k<4->v≠A k:=λk m=>(ae (hA k m).1 aC).symm;show aq _ _ _ _ _;refine Kj (L:=zS) Wt Wt λys H4 yl S4 py fy _ a0=>?_;let⟨H5,Wy,S5,bh⟩:=Wx (o:=.lst<|ys.map WC) a0;rw[Wy];have bi:=as.ex S2;have a4:=bi.ex S3;have bl:=(a4.ex S4).ex S5;have w5:=S5 _ _<|S4 _ _<|S3 _ _<|S2 _ _ bd;have b6:=S5 _ _<|S4 _ _ b5;have A5:∀k,k<4->H5 (A k)=eH (.lst []):=λk m=>S5 _ _<|S4 _ _<|S3 _ _ (hA k m).1;have b7:Paired (λa (l:List Int)=>H5 a=eH (.lst<|l.map WD)) ys zS:=Paired.i3 py λ_ _ r=>S5 _ _ r;have TA:Vp p c A:=⟨λk m=>(as.Sh (hA k m).2).symm,λk m=>(as.Uk (hA k m).2).symm,a9⟩;have nw:wl≠p/\∀k,k<4->wl≠A k:=⟨as.lN bd,λk m=>ae bd (hA k m).2⟩;have N:v≠p/\∀k,k<4->v≠A k:=⟨(bi.Sh aC).symm,ba⟩;have b8:yl≠p/\∀k,k<4->yl≠A k:=⟨((a4.ex S4).Sh a0).symm,λk m=>(ae (S4 _ _<|S3 _ _ (hA k m).1) a0).symm⟩;have a5:∀a∈ys,a≠p/\∀k,k<4->a≠A k:=λa ha=>⟨(a4.Sh<|fy a ha).symm,λk m=>(ae (S3 _ _ (hA k m).1)<|fy a ha).symm⟩;have fA:∀k,k<4->H1 (A k)=none:=λk m=>(hA k m).2;have ca:ab H1 H5:=S2.trans<|S3.trans<|S4.trans S5;clear hA nd fr pr a9 b5 S2 S3 S4 S5 bi a4 py fy a0 aC ba
 clear_value A
 apply⟨_,fj,_,fj,wl,_,fj,az.of w5,λq hq=>?_⟩;have cd:mM (t.map WB) none (eH (8:Int))=(t.take 8).map WB:=wv t 8;rw[cd];have S6:=ab.new (o:=.lst<|(t.take 8).map WB) hq;have q6:=Wz H5 q (.lst<|(t.take 8).map WB);apply⟨q,fj,⟨_,az.of aa⟩,?_⟩;generalize upd H5 q (.lst<|(t.take 8).map WB)=H6 at S6 q6 ⊢;have nq:q≠p/\∀k,k<4->q≠A k:=⟨(bl.Sh hq).symm,λk m=>(ae (A5 k m) hq).symm⟩;have T0:TW H6 p c A (λ_=>[]) H6:=⟨bl.ex S6,λb o e _ _=>e,λk m=>S6 _ _<|A5 k m⟩;have w6:=S6 _ _ w5;have I:=S6 _ _ b6;have co:=S6 _ _ bh;have cs:Paired (λa (l:List Int)=>H6 a=eH (.lst<|l.map WD)) ys zS:=Paired.i3 b7 λ_ _ r=>S6 _ _ r;have ct:=ca.trans S6;clear ca S6 w5 b6 bh b7 hq bl A5;have bn:=ok.1
 let zI:Nat->L2.St->Hp->Prop:=λi σ H'=>L_ λ(S:Nat->List Ws) (x5 U:Option V)=>PD (σ=[eH<|.ref p,eH<|.int 0,eH<|.ref wl,eH<|.ref v,eH<|.ref yl,x5,U]) (TW H6 p c A S H')<|WI (t.take i) S
 refine cb (xs:=(t.take 8).map WB) zI ⟨_,_,_,fj,T0,⟨λ_ _=>.nil,λ_ _=>cH _,(λ_ _ w h=>by cases h),(λ_ _ _ w h=>by cases h)⟩⟩ (λi σ H' _ zq=>by let⟨_,_,_,_,T,_⟩:=zq;exact az.of<|T.ex _ _ q6 nq.1 nq.2) ?_ ?_
 .rintro i x σ H7 hx ⟨S,x5,U,rfl,T7,W7⟩;let⟨w,hw,rfl⟩:=bu hx;have i8:i<8:=by
   have:=(bY.1 hw).1;rw[aS]at this;nofun
  have u:t[i]?=eH w:=by rw[qX i8]at hw;exact hw
  have wn:w∉t.take i:=λz=>by
   let⟨j,G⟩:=jE z;have jl:=(bY.1 G).1;rw[aS]at jl;rw[qX ⋯]at G;have:=tP bn G u;nofun
  refine gN ⟨_,fj,_,fj,_,fj,_,_,fj,fj,.inl ⟨Wt,Wt⟩,_,_,fj,fj,fT T7.pen Wt Wt λr H8 r0 r1 c0 c3=>?_⟩;have Y:=T7.Qx TA c0 c3;obtain⟨n,rfl⟩:∃n:Nat,r=n:=⟨r.toNat,by nofun⟩;have c4:n<13:=by
   have:(13:Int)+2 * 0=13:=by decide
   nofun
  let⟨l,hl,c5,l4,lc⟩:=Mi c4;let⟨yr,ce,ya⟩:=Paired.get cs hl;have a6:=cj ce;apply⟨yl,_,n,_,fj,fj,az.of<|Y.ex _ _ co b8.1 b8.2,cO (by rw[bV,ce];rfl),yr,fj,⟨_,az.of<|Y.ex _ _ ya (a5 yr a6).1 (a5 yr a6).2⟩,?_⟩
  let zJ:Nat->L2.St->Hp->Prop:=λj σ H'=>JG λ(f:Nat->List Ws) (U:Option V)=>PD (σ=[eH<|.ref p,eH<|.int 0,eH<|.ref wl,eH<|.ref v,eH<|.ref yl,eH<|.str w,U]) (TW H6 p c A f H')<|PF S w (l.take j) f
  refine cb (xs:=(l.map AJ).map WD) zJ ⟨S,_,fj,Y,⟨λk m=>.inl rfl⟩⟩ (λi σ H' _ zq=>by let⟨_,_,_,T,_⟩:=zq;exact az.of<|T.ex _ _ ya (a5 yr a6).1 (a5 yr a6).2) ?_ ?_
  .rintro j y σ O hy ⟨f,U,rfl,J,M9⟩;rw[bV,bV]at hy;let⟨y',da,rfl⟩:=mU.1 hy;let⟨B,a7,rfl⟩:=mU.1 da;have k4:=l4 B<|cj a7;have kn:B∉l.take j:=λz=>by
    let⟨j',bz⟩:=jE z;have jl:=(bY.1 bz).1;rw[aS]at jl;rw[qX ⋯]at bz;let⟨a1,e1⟩:=bY.1 bz;let⟨a2,e2⟩:=bY.1 a7;exact qC.1 c5 j' j a1 a2 ⋯<|e1.trans e2.symm
   have eS:f B=S B:=(M9.at_ B k4).elim id λz=>absurd z.1 kn;have C:=J.s B k4;have an:=J.ex _ _ I N.1 N.2;refine gN ⟨_,fj,_,fj,v,_,B,_,fj,fj,az.of an,F4.ix k4,.inl ⟨A B,_,fj,.inl<|az.of C,_,fj,_,_,fj,fj,.inl ⟨Wt,Wt⟩,_,_,fj,fj,_,_,fj,fj,_,fj,?_⟩⟩;have lS:=W7.len B k4;have ec:decide ((((f B).map WB).length:Int)<2+2 * 0)=decide ((S B).length<2):=by rw[ag,eS];exact decide_eq_decide.2 ⋯
   rw[ec];have bI:l.take (j+1)=l.take j++[B]:=by
    let⟨a1,e1⟩:=bY.1 a7;rw[List.take_succ,a7];rfl
   by_cases c2:(S B).length<2
   .rw[hH c2];refine cS ⟨_,fj,_,fj,v,_,B,_,fj,fj,az.of an,F4.ix k4,.inl ⟨fj,_,az.of C⟩,_,fj,A B,_,_,fj,fj,C,by rw[ag,eS];exact ao ⋯,DE f B w,_,fj,J.put TA k4 w,⟨λk m=>?_⟩⟩;by_cases e:k=B
    .subst e;refine .inr ⟨by rw[bI];exact dh _<|bq.2 rfl,by rw[mE,eS],c2⟩
    .rw[tD e,bI];exact(M9.at_ k m).imp id λz=>⟨cE _ z.1,z.2⟩
   .rw[hB c2];refine bF ⟨f,_,fj,J,⟨λk m=>?_⟩⟩;rw[bI];exact(M9.at_ k m).imp id λz=>⟨cE _ z.1,z.2⟩
  .rintro σ O ⟨f,U,rfl,J,M9⟩;rw[ag,ag,aX]at M9;apply⟨f,_,_,fj,J,?_⟩;rw[take_snoc u];exact M9.wi W7 wn lc
 rintro σ H7 ⟨S,x5,U,rfl,T7,W7⟩;have l8:((t.take 8).map WB).length=8:=by rw[ag,aS,len];rfl
 rw[l8]at W7;apply⟨4,fj,Wt,Wt,?_⟩
 let zR:Nat->L2.St->Hp->Prop:=λi σ H'=>JG λ(S:Nat->List Ws) (U:Option V)=>Mb (σ=[eH<|.ref p,eH<|.int 0,eH<|.ref wl,eH<|.ref v,eH<|.ref yl,x5,U]) (TW H6 p c A S H') (WI (t.take<|8+i) S) (∀k,k<i->S k≠[])
 refine j_ (lo:=0) (n:=4) zR ⟨S,_,fj,T7,W7,λk m=>by nofun⟩ ?_ ?_
 .rintro i σ H8 i4 ⟨f,dn,rfl,Y,D,N8⟩;have e0:(0:Int)+(i:Int)=(i:Int):=Int.zero_add _;rw[e0];have bS:=Y.ex _ _ I N.1 N.2;have dp:=Y.s i i4;refine gN ⟨_,fj,_,fj,v,_,i,_,fj,fj,az.of bS,F4.ix i4,(by show 0<=ak;decide),λe he=>?_⟩;have J:=Y.same<|ab.new (o:=.lst []) he;have e9:=Wz H8 e (.lst []);have C:upd H8 e (.lst []) (A i)=eH (.lst<|(f i).map WB):=J.s i i4;have an:upd H8 e (.lst []) v=_:=J.ex _ _ I N.1 N.2;have w9:upd H8 e (.lst []) wl=_:=J.ex _ _ w6 nw.1 nw.2;show n6 K (.ref<|A i) (.ref e) (upd H8 e<|.lst []) _;generalize upd H8 e (.lst [])=O at J e9 C an w9 ⊢;apply⟨.s<|(f i).map dD,.s [],yf<|az.of C,Cv<|az.of e9,by show DT.gg ((f i).map dD)+1<=8;rw[gw];decide,Wt,_,fj,?_⟩;have ec:decide (DT.s ((f i).map dD)=DT.s [])=decide (f i=[]):=decide_eq_decide.2 ⟨λz=>by injection z with z;exact hC (y:=[]) z,λz=>by rw[z];rfl⟩;rw[ec];have u:t[8+i]?=eH t[8+i]:=bj ⋯;have wn:t[8+i]∉t.take (8+i):=λz=>by
   let⟨j,G⟩:=jE z;have jl:=(bY.1 G).1;rw[aS]at jl;rw[qX ⋯]at G;have:=tP bn G u;nofun
  have ch:t.take (8+(i+1))=t.take (8+i)++[t[8+i]]:=take_snoc u;by_cases c:f i=[]
  .rw[hH c];refine cS ⟨_,fj,_,fj,v,_,i,_,fj,fj,az.of an,F4.ix i4,.inl ⟨fj,_,az.of C⟩,_,fj,_,fj,_,_,fj,fj,wl,_,((8+i:Nat):Int),_,fj,by simp,az.of w9,cO (by rw[bV,u];rfl),A i,_,_,fj,fj,C,by rw[c];decide,DE f i t[8+i],_,fj,J.put TA i4 _,?_,λk m=>?_⟩
   .rw[ch];refine PF.wi (S0:=f) (l:=[i]) ⟨λk m=>?_⟩ D wn λa b cc z=>?_
    .by_cases e:k=i
     .subst e;exact .inr ⟨bq.2 rfl,mE,by rw[c];decide⟩
     .exact .inl<|tD e
    .exact(LC cc).2.2<|(bq.1 z.1).trans (bq.1 z.2).symm
   .by_cases e:k=i
    .subst e;rw[mE];simp
    .rw[tD e];exact N8 k ⋯
  .rw[hB c];refine bF ⟨f,_,fj,J,⟨D.nd,D.len,λk m w hw=>?_,D.ap⟩,λk m=>?_⟩
   .rw[ch];exact cE _<|D.sub k m w hw
   .by_cases e:k=i
    .subst e;exact c
    .exact N8 k ⋯
 clear W7 T7 U;rintro σ H8 ⟨f,U,rfl,Y,D,N8⟩;clear S;have bS:=Y.ex _ _ I N.1 N.2;have F8:F4 H8 v A f:=⟨bS,Y.s⟩;have ci:∀(a8:Nat->List Ws) (O:Hp),TW H6 p c A a8 O->HQ a8->Q (.ref v) O:=λa8 O T W=>by
  refine k v A a8 O ⟨T.ex _ _ I N.1 N.2,T.s⟩ W T.pen λb o e n=>?_;have e1:=cm _ _ e n;exact T.ex _ _ (ct _ _ e1) n λk m=>ae e1<|fA k m
 have names:∀k,k<4->jp (f k):=λk m=>⟨D.nd k m,λw hw=>ok.2 w<|gK<|D.sub k m w hw⟩;have l0:=D.len 0 Wt;have l1:=D.len 1 Wt;have l2:=D.len 2 Wt;have l3:=D.len 3 Wt;apply⟨_,fj,fj,_,fj,cS ?_⟩;apply⟨_,fj,v,A,f,fj,F8,λk m=>bH (D.len k m) Wt,λal O db _ S9=>⟨(by show 0<=ak;decide),λe he=>?_⟩⟩;have M:=(Y.same S9).same<|ab.new (o:=.lst []) he;have ck:=Wz O e (.lst []);have bb:upd O e (.lst []) al=eH (.lst<|(cX (f 0) (f 1) (f 2)<|f 3).map WB):=ab.new he _ _ db;show n6 K (.ref al) (.ref e) (upd O e<|.lst []) _;generalize upd O e (.lst [])=dc at M ck bb ⊢;apply⟨.s<|(cX (f 0) (f 1) (f 2)<|f 3).map dD,.s [],yf<|az.of bb,Cv<|az.of ck,by show DT.gg (List.map dD _)+1<=8;rw[gw];decide,Wt,_,fj,?_⟩;have ec:decide (DT.s ((cX (f 0) (f 1) (f 2)<|f 3).map dD)=DT.s [])=decide (cX (f 0) (f 1) (f 2) (f 3)=[]):=decide_eq_decide.2 ⟨λz=>by injection z with z;exact hC (y:=[]) z,λz=>by rw[z];rfl⟩;rw[ec];by_cases c:cX (f 0) (f 1) (f 2) (f 3)=[]
 .rw[hH c];have cl:=M.ex _ _ I N.1 N.2;have dd:=M.ex _ _ w6 nw.1 nw.2;have h0:=M.s 0 Wt;have u:t[12]?=eH t[12]:=bj ⋯;have wn:∀k,k<4->t[12]∉f k:=λk m z=>by
   let⟨j,G⟩:=jE<|D.sub k m _ z;have jl:=(bY.1 G).1;rw[aS]at jl;rw[qX ⋯]at G;have:=tP bn G u;nofun
  refine cS ⟨_,fj,v,_,0,_,fj,fj,az.of cl,F4.ix (k:=0) Wt,.inl ⟨fj,_,az.of h0⟩,_,fj,wl,_,((12:Nat):Int),_,fj,fj,az.of dd,cO (by rw[bV,u];rfl),A 0,_,_,fj,fj,h0,by rw[ag];exact ao ⋯,_,fj,ci (DE f 0 t[12]) _ (M.put TA Wt _) ?_⟩;generalize t[12]=w at wn u;have di:=cj u;have p0:DE f 0 w 0=f 0++[w]:=mE;have pn:∀k,k≠0->DE f 0 w k=f k:=λk m=>tD m;have p1:=pn 1 Wt;have p2:=pn 2 Wt;have p3:=pn 3 Wt;have eW:aG (f 0++[w]) (f 1) (f 2) (f 3)=aG (f 0) (f 1) (f 2) (f 3):=by
   unfold aG;congr 1;refine ox λx hx=>decide_eq_decide.2 ⟨λz=>?_,λz=>cE _ z⟩;obtain z|z:=bt.1 z
   .exact z
   .rw[bq.1 z]at hx;exact absurd hx (wn 3 Wt)
  have dm:w∉aG (f 0) (f 1) (f 2) (f 3):=λz=>by
   obtain z|z:=du.1 z
   .exact wn 1 Wt z.1
   .exact wn 3 Wt z.1
  have eJ:cX (f 0++[w]) (f 1) (f 2) (f 3)=[w]:=by
   unfold cX at c ⊢;rw[eW,dQ,gJ,gJ];rw[gJ]at c;let⟨c1,c2⟩:=List.append_eq_nil_iff.1 c;rw[c1,c2];show[w].filter _++[]=[w];rw[dj,lE,if_pos (by rw[hB dm];rfl)]
   rfl
  apply⟨λk m=>?_,λk m=>?_,?_,?_,?_,?_,λi j cc x hx=>?_,?_,?_⟩
  .by_cases e:k=0
   .subst e;rw[p0];apply⟨cQ.2 ⟨D.nd 0 m,gj.2 ⟨by simp,.nil⟩,λa ha b hb z=>?_⟩,λx hx=>?_⟩
    .rw[bq.1 hb]at z;exact wn 0 m<|z▸ha
    .obtain z|z:=bt.1 hx
     .exact(names 0 m).2 x z
     .rw[bq.1 z];exact ok.2 w di
   .rw[pn k e];exact names k m
  .by_cases e:k=0
   .subst e;rw[p0];simp
   .rw[pn k e];exact N8 k m
  .rw[p0,aA];show _+1<=3;nofun
  .rw[p1];exact l1
  .rw[p2];exact l2
  .rw[p3];exact l3
  .obtain⟨hi,G,ne⟩:=LC cc;have old:=D.ap i j cc;by_cases e:i=0
   .subst e;rw[p0]at hx;rw[pn j<|λz=>ne z.symm];obtain z|z:=bt.1 hx
    .exact old x z
    .rw[bq.1 z];exact wn j G
   .rw[pn i e]at hx;have:j≠0:=λz=>by
     subst z;have:=of_decide_eq_true cc;simp at this
    rw[pn j this];exact old x hx
  .rw[p0,p1,p2,p3,eJ];simp
  .rw[p0,p1,p2,p3,eJ];show 1<=4;decide
 .rw[hB c];refine bF ⟨_,fj,ci f dc M ⟨names,N8,by nofun,l1,l2,l3,D.ap,c,?_⟩⟩;unfold cX;exact bH (b_ _ _) (by rw[aA];nofun)
inductive we(vs:List V)(H:Hp)(Q:VK)(E:XK):Prop
 |mk (p c l1 l2:Wk) (J0 J2:Zb) (most:Int):vs=[.ref p,.ref l1,.ref l2,.int most]->jL H p c->H l1=eH (.lst (J0.map WB))->H l2=eH (.lst (J2.map WB))->jp J0->jp J2->((∀w∈J2,w∉J0))->J0≠[]->J2≠[]->J0.length<=3->J2.length<=4->0<most->(most<=3) ->
  (∀(t l3 l4:Wk) (ts:Ze) (J3:Zb) (ds:List am) (H':Hp),jC H' t l1 l2 l3 l4 ts J0 J2 J3 ds->aE J0 J2 J3 ds->J3.length<=3->ds.length<=9 * J3.length->jL H' p c->fO p H H'->Q (.ref t) H')->we vs H Q E
theorem MF{K:Za}(h:we Y H Q E):Fb K sX im oW (bT Q) (start Gx Y) H:=by
 let⟨p,c,l1,l2,J0,J2,al,rfl,x,h1,h2,y,A,apart,a0,s0,a3,s4,m0,m3,k⟩:=h;apply⟨_,fj,_,fj,_,fj,fT x m0 ⋯ λr H1 r0 r1 B C=>?_⟩;let⟨rn,rfl⟩:=lH r0;apply⟨_,_,fj,fj,p,c,1+rn,fj,B,by nofun,λD G H2 l i an s a I=>?_⟩;have J:=C.trans I;have u:=J _ _ h1<|x.lN h1;have v:=J _ _ h2<|x.lN h2;have w:G≠[]:=λz=>by rw[z]at i;rw[lU]at i;nofun
 apply⟨_,fj,_,fj,_,fj,_,fj,_,fj,fT a Wt Wt λf H3 f0 f1 e Sf=>?_⟩;have e3:=J.trans Sf;have m:=Sf _ _ u<|a.lN u;have n:=Sf _ _ v<|a.lN v;have o:=Sf _ _ s<|a.lN s;apply⟨p,c,l1,l2,D,J0,J2,G,f,fj,e,m,n,o,a3,s0,s4,w,by nofun,f0,by nofun,λl4 ts ds up H4 _ L M nd j Qf N g=>?_⟩;have e4:=e3.trans g;have O:=g _ _ m<|e.lN m;have T:=g _ _ n<|e.lN n;have U:=g _ _ o<|e.lN o;apply⟨_,fj,_,fj,_,fj,_,fj,(by show 4<=ak;decide),λt ht=>?_⟩;have q:=ab.new (o:=.tup [.ref l1,.ref l2,.ref D,.ref l4]) ht;refine k t D l4 ts G ds _ ⟨aa,q _ _ O,q _ _ T,q _ _ U,q _ _ L,M.kt<|ab.kt q⟩ ⟨y,A,apart,l,a0,s0,w,by nofun,s4,by nofun,nd,λd hd=>(j d hd).d,by nofun,λr h=>(JR l.1 j h).VU l.1⟩ ⋯ Qf (N.ex q)<|e4.trans<|fO.new ht
inductive sP(vs:List V)(H:Hp)(Q:VK)(E:XK):Prop
 |mk (p c:Wk):vs=[.ref p,.int 3,.int 3]->(jL H p c) ->
  (∀(l t l1 l2 l3 l4 t' Sk Sj Si R4:Wk) (ts RH:Ze) (J0 J2 J3 Ww Wv Wu:Zb) (ds gr:List am) (H':Hp),H' l=eH (.lst [.ref t,.ref t'])->jC H' t l1 l2 l3 l4 ts J0 J2 J3 ds->jC H' t' Sk Sj Si R4 RH Ww Wv Wu gr->aE J0 J2 J3 ds->aE Ww Wv Wu gr->(∀r∈J3,∀a∈J0,hW ds r a)->(∀r∈Wu,∀a∈Ww,hW gr r a)->JoinOk J0 J2 J3 Ww Wv Wu ds gr->J3.length<=3->Wu.length<=3->jL H' p c->fO p H H'->Q (.ref l) H')->sP vs H Q E
theorem Mz{K:Za}(h:sP vs H Q E):uC K m_ we wc (bT Q) (start u6 vs) H:=by
 let⟨p,c,rfl,C,k⟩:=h;apply⟨_,fj,p,c,fj,C,λj A S H1 F W e D=>?_⟩;have y:(0:Nat)<4:=by decide
 have B:(1:Nat)<4:=by decide
 have m:(2:Nat)<4:=by decide
 have n:(3:Nat)<4:=by decide
 have l0:=W.l0;have l1:=W.l1;have l2:=W.l2;have l3:=W.l3;have i:∀{H:Hp},jL H p c->H j=eH (.lst [.ref<|A 0,.ref<|A 1,.ref<|A 2,.ref<|A 3])->j≠p:=λC h=>C.SM (ts:=[A 0,A 1,A 2,A 3]) h;apply⟨_,fj,_,fj,_,fj,.inl ⟨j,_,0,_,fj,fj,az.of F.l,F4.ix (k:=0) y,_,fj,.inl ⟨j,_,1,_,fj,fj,az.of F.l,F4.ix (k:=1) B,_,fj,?_⟩⟩⟩;apply⟨p,c,A 0,A 1,S 0,S 1,3,fj,e,F.s 0 y,F.s 1 B,W.ok 0 y,W.ok 1 B,λw G z=>W.ap 0 1 Wt w z G,W.ne 0 y,W.ne 1 B,l0,by nofun,Wt,Wt,λt a3 a4 ts J3 ds H2 T2 m2 r3 a5 g f=>?_⟩;apply⟨p,c,t,A 0,A 1,a3,a4,ts,S 0,S 1,J3,ds,fj,g,T2,m2,by nofun,by nofun,λt1 b4 us I H3 T3 m3 tk a6 o Sf=>?_⟩;have q:=Sf _ _ (f _ _ F.l<|i e F.l)<|i g<|f _ _ F.l<|i e F.l;have s2:=f _ _ (F.s 2 m)<|e.lN<|F.s 2 m;have s3:=f _ _ (F.s 3 n)<|e.lN<|F.s 3 n;have J:=Sf _ _ s2<|g.lN s2;have L:=Sf _ _ s3<|g.lN s3;apply⟨_,fj,_,fj,_,fj,.inl ⟨j,_,2,_,fj,fj,az.of q,F4.ix (k:=2) m,_,fj,.inl ⟨j,_,3,_,fj,fj,az.of q,F4.ix (k:=3) n,_,fj,?_⟩⟩⟩;apply⟨p,c,A 2,A 3,S 2,S 3,3,fj,o,J,L,W.ok 2 m,W.ok 3 n,λw G z=>W.ap 2 3 Wt w z G,W.ne 2 m,W.ne 3 n,by nofun,by nofun,Wt,Wt,λt' r M N a O H4 T4 m4 T a7 u v=>?_⟩;apply⟨p,c,t',A 2,A 3,r,M,N,S 2,S 3,a,O,fj,u,T4,m4,by nofun,by nofun,λt2 U Y al H5 T5 m5 an a8 as x=>?_⟩;have aC:=(T3.ex o v).ex u x;apply⟨_,fj,_,fj,(by show 2<=ak;decide),λl hl=>?_⟩;have S6:=ab.new (o:=.lst [.ref t1,.ref t2]) hl;refine k l t1 (A 0) (A 1) a3 b4 t2 (A 2) (A 3) r U us Y (S 0) (S 1) J3 (S 2) (S 3) a I al _ aa (aC.same S6) (T5.same S6) m3 m5 tk an ⟨by nofun,by nofun,by nofun,by nofun,W.ap 0 2 Wt,W.ap 1 3 Wt,W.a0,W.a4,by rw[aA];nofun⟩ r3 T (as.ex S6)<|((((D.trans f).trans Sf).trans v).trans x).trans<|fO.new hl
theorem JA.RE{K:Za}:∀{a:Ze}{s:List Sg},JA K H a s->lR K H (s.map nY) (a.map WC)
 |_,_,.nil=>by show lR K H [] [];unfold lR;rfl
 |_,_,.cons r t=>by
  rw[bL,bL];unfold lR;exact⟨_,_,fj,cg<|dg.sq r,JA.RE t⟩
theorem Kh{K:Za}(h:H l=eH (.lst<|a.map WC))(r:JA K H a s):kL K H (.s<|s.map nY) (.ref l):=by
 unfold kL;exact⟨l,_,fj,az.of h,JA.RE r⟩
inductive pD(K:Za)(vs:List V)(H:Hp)(Q:VK)(E:XK):Prop
 |mk (t st l1 l2 l3 l4:Wk) (ts us:Ze) (story:List Sg) (J0 J2 J3:Zb) (ds:List am):vs=[.ref t,.ref st]->jC H t l1 l2 l3 l4 ts J0 J2 J3 ds->aE J0 J2 J3 ds->H st=eH (.lst (us.map WC))->JA K H us story->(∀(t':Wk) (H':Hp),H' t'=eH (.tup ((Qm J3 ds story).map WB))->ab H H'->Q (.ref t') H')->pD K vs H Q E
theorem IA{K:Za}(h:pD K x H Q E):Fd K (xE K) Dw (bT Q) (start Gz x) H:=by
 let⟨t,st,z,A,l,B,C,O,a,D,G,e,ds,rfl,T,m,g,I,k⟩:=h;have z3:=m.vr;have U:mM (e.map WB) none (eH 1)=(e.take 1).map WB:=wv e 1;apply⟨_,fj,_,fj,.inr<|.inl ⟨t,_,2,_,fj,fj,bE.of T.t,fj,_,fj,.inl ⟨l,_,fj,az.of T.a3,λJ n=>?_⟩⟩⟩;rw[U];have L:=ab.new (o:=.lst<|(e.take 1).map WB) n;apply⟨t,J,z,A,l,B,C,D,G,e,e.take 1,ds,fj,T.same L,m,aa,by rw[aS];nofun,λY H1 o p=>?_⟩;have M:=L.trans p;apply⟨_,fj,st,fj,⟨_,az.of<|M _ _ g⟩,?_⟩;refine cb (xs:=O.map WC) (λi σ q=>JG λ(f:Wk) (r:Option V)=>PD (σ=[eH<|.ref t,eH<|.ref st,eH<|.ref f,r]) (q f=eH (.tup<|(Qm e ds<|a.take i).map WB))<|ab H q)
  ⟨Y,_,fj,o,M⟩ (λi σ q _ zq=>by let⟨_,_,_,_,S⟩:=zq;exact az.of<|S _ _ g) ?_ ?_
 .rintro i y σ N hi ⟨f,r,rfl,hf,j⟩;let⟨u,hu,rfl⟩:=cJ hi;let⟨sg,s,v⟩:=Paired.getL I hu;let⟨o1,o2⟩:=Jl (ds:=ds) (show e.length<=1000 by nofun)<|a.take i;apply⟨_,fj,_,fj,_,fj,t,f,u,z,A,l,B,C,D,G,e,_,sg,ds,fj,T.same j,m,hf,dg.sq<|dg.kt (ab.kt j) v,o2,λf' H3 w S3=>⟨f',_,fj,?_,j.trans S3⟩⟩;rw[take_snoc s,Ej];exact w
 .rintro σ N ⟨f,r,rfl,hf,j⟩;rw[ag,Paired.length I,aX]at hf;exact⟨_,fj,k f N hf j⟩
theorem Js{K:Za}(z:xs.length<=ys.length)(Pv:Nat->List V->Hp->Prop)(A:Pv 0 []<|upd r l<|.lst [])(m:∀i e H,i<=xs.length->Pv i e H->H l=eH (.lst e)/\bE K H a xs/\bE K H b ys)(B:∀e H,Pv xs.length e H->Q H)(C:∀i e H x y p,xs[i]?=eH x->ys[i]?=eH y->i<xs.length->Pv i e H->H p=none->g (.ref p) (de k fi σ) (upd H p<|.tup [x,y]) fun σ2 D=>o σ2 D λb s =>
   if b=true then q σ2 s λv w=>w l=eH (.lst e)/\e.length<ak/\∃f,f<xs.length-i/\Wc xs.length Pv (i+1) f (e++[v]) (upd w l<|.lst<|e++[v])else ∃f,f<xs.length-i/\Wc xs.length Pv (i+1) f e s) :
  dB k fi σ (NC K a b) g o q r l Q:=by
 refine kJ xs.length Pv A (λi e H hi p=>(m i e H hi p).1) (λi e H hi p=>?_) (λe H p=>?_) λi e H x J hi p y=>?_
 .obtain⟨_,h,j⟩:=m i e H (cA hi) p;have n:i<ys.length:=by nofun
  exact⟨xs,ys,xs[i],ys[i],h,j,by simp[hi],by simp[n]⟩
 .obtain⟨_,h,j⟩:=m _ e H (aF _) p;exact⟨⟨xs,ys,h,j,.inl<|aF _⟩,B e H p⟩
 .obtain⟨_,h,j⟩:=m i e H (cA hi) p;let⟨t,u,v,rfl,E,G,I,rfl⟩:=y;exact C i e H u v t (G xs h) (I ys j) hi p E
mutual
def DT.Qf:DT->Prop
 |.k _=>True
 |.t l=>l.length<=1000/\DT.Sq l
 |.s l=>l.length<=1000/\DT.Sq l
def DT.Sq:List DT->Prop
 |[]=>True
 |a::r=>DT.Qf a/\DT.Sq r
end
theorem Eh:∀{l:List DT}{i:Nat}{d:DT},DT.Sq l->l[i]?=eH d->DT.Qf d
 |[],_,_,_,h=>by cases h
 |a::r,0,d,h,e=>by injection e with e;rw[<-e];exact h.1
 |a::r,i+1,d,h,e=>Eh h.2 (by rw[List.getElem?_cons_succ]at e;exact e)
theorem yz:∀n:Nat,(qY n true).all id=true
 |0=>rfl
 |n+1=>yz n
theorem Km{α:Type}(a:α)(n:Nat):qY n a++[a]=qY (n+1) a:=by
 rw[List.replicate_succ']
inductive d_(K:Za)(n:Nat)(vs:List V)(H:Hp)(Q:VK)(E:XK):Prop
 |mk (x y:V) (d:DT):vs=[x,y]->kL K H d x->kL K H d y->d.depth<=n->DT.Qf d->(∀H',ab H H'->Q (.bl true) H')->d_ K n vs H Q E
 |bb (b:Bool):(vs=[.bl b,.bl b])->(Q (.bl true) H)->d_ K n vs H Q E
theorem vo{K:Za}(O:(J=OJ K f b/\az K H f xs/\az K H b ys)∨(J=NC K f b/\bE K H f xs/\bE K H b ys))(C:lR K H j xs)(D:lR K H j ys)(T:DT.gg j<=n)(hz:j.length<=1000)(hf:DT.Sq j)(E:H l=none)(k:∀a,ab H a->a l=eH (.lst<|(qY j.length true).map V.bl)->Q a) :
  dB 2 [] σ J (gR K 2<|aY U0<|aY U1<|gf) (iN) (aM (d_ K n)<|aK V0 V1) H l Q:=by
 have U:=lR.len C;have ly:=lR.len D
 let g:Nat->List V->Hp->Prop:=λi h a=>h=(qY i true).map V.bl/\ab H a/\a l=eH (.lst h)
 have q:∀h a,g xs.length h a->Q a:=by
  rintro h a ⟨rfl,S,m⟩;rw[U]at m;exact k a S m
 have step:∀i h a x y p,xs[i]?=eH x->ys[i]?=eH y->i<xs.length->g i h a->a p=none->(gR K 2<|aY U0<|aY U1<|gf) (.ref p) (de 2 [] σ) (upd a p<|.tup [x,y]) fun σ2 Y=>(iN) σ2 Y λb G =>
   if b=true then(aM (d_ K n)<|aK V0 V1) σ2 G λv I=>I l=eH (.lst h)/\h.length<ak/\∃m',m'<xs.length-i/\Wc xs.length g (i+1) m' (h++[v]) (upd I l<|.lst<|h++[v])else ∃m',m'<xs.length-i/\Wc xs.length g (i+1) m' h G:=by
  rintro i h s x y p hx hy hi ⟨rfl,S,h1⟩ hp;let⟨H2,Wy,t,L⟩:=Wx (o:=.tup [x,y]) hp;rw[Wy];let⟨d,w,dx⟩:=lR.get C hx;let⟨d',u,M⟩:=lR.get D hy;rw[w]at u;injection u with u;rw[<-u]at M;apply⟨p,_,fj,bE.of L,fj,_,_,fj,_,_,fj,fj,su ?_⟩;apply⟨_,fj,_,fj,.mk x y d rfl (kL.same (S.trans t) dx) (kL.same (S.trans t) M) (ye T w) (Eh hf w) λH3 S3=>?_⟩;have r:=t.trans S3;apply⟨r _ _ h1,by rw[ag,List.length_replicate];exact ao ⋯,oj hi ⟨by rw[<-Km,au];rfl,λb o e=>?_,aa⟩⟩;rw[ah<|ae e E];exact r _ _<|S _ _ e
 have N:g 0 [] (upd H l<|.lst []):=⟨fj,ab.new E,aa⟩;obtain⟨rfl,z,A⟩|⟨rfl,z,A⟩:=O
 .exact Jt (xs:=xs) (ys:=ys) ⋯ g N (λi h a _ B=>by let⟨_,S,m⟩:=B;exact⟨m,az.same S z,az.same S A⟩) q step
 .exact Js (xs:=xs) (ys:=ys) ⋯ g N (λi h a _ B=>by let⟨_,S,m⟩:=B;exact⟨m,bE.same S z,bE.same S A⟩) q step
theorem Iw{K:Za}(N:n<=8)(o:∀m,n=m+1->I=d_ K m)(h:d_ K n J H Q E):Dg K I (bT Q) (start EH J) H:=by
 obtain⟨x,y,d,rfl,hx,w,u,v,k⟩|⟨b,rfl,k⟩:=h;rotate_left
 .refine⟨_,fj,_,fj,?_⟩;rw[hB (show ¬V.bl b=V.zr from λz=>by cases z)];refine bF ⟨_,fj,_,"bool",.type "bool",true,fj,.inl<|.bl b,fj,_,fj,cS ?_⟩;apply⟨_,fj,_,"bool",.type "bool",true,fj,.inl<|.bl b,fj,_,fj,cS ⟨_,fj,_,fj,?_,?_⟩⟩
  .cases b<;>rfl
  .rw[hH rfl];exact k
 have a:=kL.kd hx;have p:=kL.kd w;apply⟨_,fj,_,fj,?_⟩;have L:decide (y=V.zr)=false:=by cases p<;>exact hB nofun
 rw[L];refine bF ?_;cases p with
 |int i =>
  cases a;apply⟨_,fj,.int i,"bool",_,false,fj,.inl<|jZ.int i,fj,_,fj,bF ?_⟩;apply⟨_,fj,.int i,"str",_,false,fj,.inl<|jZ.int i,fj,_,fj,bF ?_⟩;apply⟨_,fj,.int i,"int",_,true,fj,.inl<|jZ.int i,fj,_,fj,cS ?_⟩;apply⟨_,fj,.int i,"int",_,true,fj,.inl<|jZ.int i,fj,_,fj,cS ?_⟩;apply⟨_,fj,.int i,"bool",_,false,fj,.inl<|jZ.int i,fj,_,fj,_,fj,cS ?_⟩;apply⟨_,fj,_,fj,_,_,hx,w,by nofun,by nofun,?_⟩;rw[hH rfl];exact k H<|ab.refl _
 |str i =>
  cases a;apply⟨_,fj,.str i,"bool",_,false,fj,.inl<|jZ.str i,fj,_,fj,bF ?_⟩;apply⟨_,fj,.str i,"str",_,true,fj,.inl<|jZ.str i,fj,_,fj,cS ?_⟩;apply⟨_,fj,.str i,"str",_,true,fj,.inl<|jZ.str i,fj,_,fj,cS ?_⟩;apply⟨_,fj,_,fj,_,_,hx,w,by nofun,by nofun,?_⟩;rw[hH rfl];exact k H<|ab.refl _
 |@tup b q M e r =>
  cases a with
  |@tup f s _ g t =>
  have ty:OF K H (.ref b) (.type "tuple"):=.inr<|.inl ⟨_,_,fj,fj,e⟩;have A:OF K H (.ref f) (.type "tuple"):=.inr<|.inl ⟨_,_,fj,fj,g⟩;obtain⟨m,rfl⟩:∃m,n=m+1:=⟨n-1,by have:=Ls u;nofun⟩;obtain rfl:=o m rfl;apply⟨_,fj,.ref b,"bool",_,false,fj,ty,fj,_,fj,bF ?_⟩;apply⟨_,fj,.ref b,"str",_,false,fj,ty,fj,_,fj,bF ?_⟩;apply⟨_,fj,.ref b,"int",_,false,fj,ty,fj,_,fj,bF ?_⟩;apply⟨_,fj,.ref b,"tuple",_,true,fj,ty,fj,_,fj,cS ⟨_,fj,.ref f,"tuple",_,true,fj,A,fj,_,fj,bF ?_⟩⟩;apply⟨_,fj,.ref b,"list",_,false,fj,ty,fj,_,fj,bF<|bF ?_⟩;apply⟨_,fj,.inl ⟨f,_,fj,.inr g,_,fj,.inl ⟨b,_,fj,.inr e,fj,_,fj,?_⟩⟩⟩;have B:s.length=q.length:=by rw[lR.len t,lR.len r]
  have C:(!decide (WD (s.length:Nat)=WD (q.length:Nat)))=false:=by rw[hH (by rw[B])];rfl
  rw[C];refine bF ⟨_,fj,_,fj,f,b,fj,.inr ⟨⟨_,g⟩,⟨_,e⟩,λl j=>?_⟩⟩;exact vo (.inr ⟨fj,g,e⟩) t r (Nl u) v.1 v.2 j λD S G=>⟨l,_,fj,az.of G,by rw[yz];exact k D S⟩
 |@lst b q M e r =>
  cases a with
  |@lst f s _ g t =>
  have ty:OF K H (.ref b) (.type "list"):=.inr<|.inr ⟨_,_,fj,fj,e⟩;have A:OF K H (.ref f) (.type "list"):=.inr<|.inr ⟨_,_,fj,fj,g⟩;obtain⟨m,rfl⟩:∃m,n=m+1:=⟨n-1,by have:=Lu u;nofun⟩;obtain rfl:=o m rfl;apply⟨_,fj,.ref b,"bool",_,false,fj,ty,fj,_,fj,bF ?_⟩;apply⟨_,fj,.ref b,"str",_,false,fj,ty,fj,_,fj,bF ?_⟩;apply⟨_,fj,.ref b,"int",_,false,fj,ty,fj,_,fj,bF ?_⟩;apply⟨_,fj,.ref b,"tuple",_,false,fj,ty,fj,_,fj,bF<|bF ?_⟩;apply⟨_,fj,.ref b,"list",_,true,fj,ty,fj,_,fj,cS ⟨_,fj,.ref f,"list",_,true,fj,A,fj,_,fj,bF ?_⟩⟩;apply⟨_,fj,.inl ⟨f,_,fj,.inl g,_,fj,.inl ⟨b,_,fj,.inl e,fj,_,fj,?_⟩⟩⟩;have B:s.length=q.length:=by rw[lR.len t,lR.len r]
  have C:(!decide (WD (s.length:Nat)=WD (q.length:Nat)))=false:=by rw[hH (by rw[B])];rfl
  rw[C];refine bF ⟨_,fj,_,fj,f,b,fj,.inl ⟨⟨_,g⟩,⟨_,e⟩,λl j=>?_⟩⟩;exact vo (.inl ⟨fj,g,e⟩) t r (Nm u) v.1 v.2 j λD S G=>⟨l,_,fj,az.of G,by rw[yz];exact k D S⟩
inductive pE(K:Za)(vs:List V)(H:Hp)(Q:VK)(E:XK):Prop
 |mk (t s l1 l2 l3 l4:Wk) (ts:Ze) (J0 J2 J3 sg:Zb) (ds:List am):vs=[.ref t,.ref s]->jC H t l1 l2 l3 l4 ts J0 J2 J3 ds->bE K H s (sg.map WB)->((sg=bN∨∃kd w,sg=[kd,w])) ->
  (∀(v:V) (H':Hp),(gQ J0 J2 sg=none/\v=.zr)∨(∃g b,gQ J0 J2 sg=eH g/\v=.ref b/\bE K H' b (g.map WB))->ab H H'->Q v H')->pE K vs H Q E
theorem IC{K:Za}(h:pE K x H Q E):Dj K (bT Q) (start EK x) H:=by
 let⟨t,s,D,G,M,N,O,i,l,U,y,Y,rfl,T,A,r,k⟩:=h;apply⟨_,fj,(by show 1<=ak;decide),λB m=>⟨nY y,nY bN,cg<|bE.same (ab.new m) A,cg<|bE.of aa,by rw[c6];decide,by rw[c6];decide,_,fj,?_⟩⟩;rw[lh];have g:=ab.new (o:=.tup [.str "hush"]) m;generalize upd H B (.tup [.str "hush"])=H1 at g ⊢;have n:=T.same g;have a:=bE.same g A;by_cases c:y=bN
 .rw[hH c];subst c;exact cS ⟨_,fj,k _ _ (.inr ⟨_,s,rK,fj,a⟩) g⟩
 rw[hB c];let⟨kd,w,rfl⟩:=r.resolve_left c;have I:gQ i l [kd,w]=if w∈i then eH (bQ w)else if w∈l then eH (bZ w)else none:=by unfold gQ;rw[if_neg c];rfl
 rw[I]at k;have J:∀os:List Ws,(dD w∈os.map dD)↔w∈os:=λos=>⟨λz=>by let⟨v,L,e⟩:=ar.1 z;have e:DT.k (.inr v)=DT.k (.inr w):=e;injection e with e;injection e with e;rw[<-e];exact L,eC⟩;have C:∀os:List Ws,(if false=true then !decide (dD w∈os.map dD)else decide (dD w∈os.map dD))=decide (w∈os):=λos=>decide_eq_decide.2<|J os
 have f:yP ([kd,w].map WB) 1=eH (.str w):=cO (j:=1) rfl;refine bF ⟨_,fj,.inr (.inl ⟨s,_,1,.str w,fj,fj,a,f,_,fj,.inr (.inl ⟨t,_,0,_,fj,fj,bE.of n.t,fj,dD w,i.map dD,D,_,fj,fj,.inl<|az.of n.a1,iB i,cH _,by rw[i6];decide,_,fj,?_⟩)⟩)⟩;rw[C];by_cases o:w∈i
 .rw[hH o];rw[if_pos o]at k;exact cS ⟨_,fj,.inr (.inl ⟨s,_,1,.str w,fj,fj,a,f,(by show 2<=ak;decide),λq u=>k _ _ (.inr ⟨_,q,fj,fj,bE.of aa⟩)<|g.trans<|ab.new u⟩)⟩
 rw[hB o];rw[if_neg o]at k;refine bF ⟨_,fj,.inr (.inl ⟨s,_,1,.str w,fj,fj,a,f,_,fj,.inr (.inl ⟨t,_,1,_,fj,fj,bE.of n.t,fj,dD w,l.map dD,G,_,fj,fj,.inl<|az.of n.a2,iB l,cH _,by rw[i6];decide,_,fj,?_⟩)⟩)⟩;rw[C];by_cases p:w∈l
 .rw[hH p];rw[if_pos p]at k;exact cS ⟨_,fj,.inr (.inl ⟨s,_,1,.str w,fj,fj,a,f,(by show 2<=ak;decide),λq u=>k _ _ (.inr ⟨_,q,fj,fj,bE.of aa⟩)<|g.trans<|ab.new u⟩)⟩
 .rw[hB p];rw[if_neg p]at k;exact bF<|k _ _ (.inl ⟨fj,fj⟩) g
inductive pH(K:Za)(vs:List V)(H:Hp)(Q:VK)(E:XK):Prop
 |mk (t ft s l1 l2 l3 l4:Wk) (ts:Ze) (J0 J2 J3 J7 sg:Zb) (ds:List am):vs=[.ref t,.ref ft,.ref s]->jC H t l1 l2 l3 l4 ts J0 J2 J3 ds->aE J0 J2 J3 ds->H ft=eH (.tup (J7.map WB))->bE K H s (sg.map WB)->((sg=bN∨∃kd w,sg=[kd,w]))->J7.length<=1000->(∀(t':Wk) (H':Hp),H' t'=eH (.tup ((PM J0 J2 J3 ds J7 sg).map WB))->ab H H'->Q (.ref t') H')->pH K vs H Q E
theorem MK{K:Za}(h:pH K j H Q E):BF K (xE K) (pE K) (bT Q) (start CQ j) H:=by
 let⟨t,l,s,n,o,p,q,r,u,w,x,A,B,y,rfl,T,m,a,C,i,D,k⟩:=h;apply⟨_,fj,_,fj,t,s,n,o,p,q,r,u,w,x,B,y,fj,T,C,i,λv G I f=>?_⟩;obtain⟨e,rfl⟩|⟨g,b,e,rfl,J⟩:=I
 .refine⟨_,fj,_,fj,?_⟩;rw[hH rfl];refine cS ⟨_,fj,k l G ?_ f⟩;rw[yu e];exact f _ _ a
 .refine⟨_,fj,_,fj,?_⟩;rw[hB (λz=>by cases z)];refine bF ⟨_,fj,_,fj,_,fj,t,l,b,n,o,p,q,r,u,w,x,A,g,y,fj,T.same f,m,f _ _ a,J,D,λL M N O=>k L M ?_<|f.trans O⟩;rw[yt e];exact N
theorem Ei:∀{a:Zb},DT.Sq (a.map dD)
 |[]=>trivial
 |w::a=>⟨trivial,Ei⟩
def NO{α:Type}(a b c d:α)(k:Nat):α:=[a,b,c].getD k d
theorem HC:∀{L:List (List Ws)},(∀sg∈L,sg.length<=1000)->DT.Sq (L.map nY)
 |[],_=>trivial
 |sg::L,h=>⟨⟨by rw[ag];exact h sg cT,Ei⟩,HC λe a=>h e<|eN _ a⟩
def q_(K:Za)(A1:Sp):TS :=
 aq (aU (aM A1<|av (bw<|av (aI (nh K) V0<|tC<|.int 0)<|eP (aI (nh K) V0<|tC<|.int 1) (aI (nh K) V1<|tC<|.int 0)<|aI (nh K) V1<|tC<|.int 1) aW) U2)
 (aq (aU (cZ 1 [] (bU K V2) U0 (iN)<|cB<|aK (tC<|.str "ask") V0) U3)
 (bo<|aI jU (aI jU V3<|cZ 1 [] (bU K<|aI jU (aI (nh K) V0<|tC<|.int 1)<|aI (nh K) V1<|tC<|.int 1) U0 (iN)<|cB<|aK (tC<|.str "say") V0)<|bw<|aB<|cB<|aB<|tC<|.str "hush"))
def rT:List Ws:=["first","second","asks","signs"]
structure FI(J3:Zb)(ds:List am)(f:Zb):Prop where
 sub:∀r∈f,r∈J3
 SU:CL ds f
 len:f.length<=J3.length
theorem LS.fi(h:LS J3 a f):FI J3 a f:=⟨h.sub,h.SU,h.len⟩
theorem OE(m:aE l n e g)(F:FI e g f):FI e g (qo e g f k):=by
 apply⟨Ez F.sub,?_,?_⟩
 .by_cases c:k=bN
  .intro d h i j;unfold qo at j;rw[if_pos c]at j;have o:=of_decide_eq_true (bW.1 j).2;let⟨a,s,b⟩:=d;have i:s=aD:=i;subst i;exact absurd (kF h) o
  .unfold qo;rw[if_neg c];exact Aa λd h=>(m.good d h).b
 .unfold qo;split
  .exact bH (b_ _ _) F.len
  .exact pU
theorem CD(m:aE h i a e)(F:FI a e f):FI a e (PM h i a e f sg):=by
 cases c:gQ h i sg with
 |none=>rw[yu c];exact F
 |some g=>rw[yt c];exact OE m F
theorem HJ:qo e g [] f=[]:=by
 unfold qo;split
 .rfl
 .refine List.eq_nil_iff_forall_not_mem.2 λr h=>?_;let⟨_,x,hx,_⟩:=mJ.1 h;let⟨a,i,_⟩:=ff.1 hx;cases i
def Ki(sg:Zb):Prop:=sg=bN∨(∃w,sg=bQ w)∨∃w,sg=bZ w
theorem Ki.two(h:Ki a):a=bN∨∃kd w,a=[kd,w]:=by
 obtain h|⟨w,h⟩|⟨w,h⟩:=h
 .exact .inl h
 .exact .inr ⟨_,w,h⟩
 .exact .inr ⟨_,w,h⟩
theorem Pc.Vx(h:Pc g i a f sg):Ki sg:=by
 obtain⟨w,_,e⟩|⟨w,_,e⟩|e:=h
 .exact .inr<|.inl ⟨w,e⟩
 .exact .inr<|.inr ⟨w,e⟩
 .exact .inl e
def dH(J0 J2 Ww Wv:Zb):List (List Ws):=(cX J0 J2 Ww Wv).map bQ++(J2++Wv).map bZ++[bN]
theorem uR:i∈dH g h Ww a↔Pc g h Ww a i:=by
 unfold dH Pc;rw[bt,bt,ar,ar,bq];constructor
 .rintro((⟨w,f,e⟩|⟨w,f,e⟩)|e)
  .exact .inl ⟨w,f,e.symm⟩
  .exact .inr<|.inl ⟨w,f,e.symm⟩
  .exact .inr<|.inr e
 .rintro(⟨w,f,e⟩|⟨w,f,e⟩|e)
  .exact .inl<|.inl ⟨w,f,e.symm⟩
  .exact .inl<|.inr ⟨w,f,e.symm⟩
  .exact .inr e
theorem AC:(cX J0 J2 Ww Wv).length<=J0.length+Ww.length:=by
 unfold cX;refine bH (b_ _ _) ?_;rw[aA];exact aF _
theorem Ir:(dH J0 J2 Ww Wv).length<=J0.length+Ww.length+J2.length+Wv.length+1:=by
 unfold dH;have:=AC (J0:=J0) (J2:=J2) (Ww:=Ww) (Wv:=Wv);rw[aA,aA,ag,ag,aA];show _+1<=_;nofun
inductive wd(vs:List V)(H:Hp)(Q:VK)(E:XK):Prop
 |mk (t l1 l2 l3 l4 t' Sk Sj Si R4:Wk) (ts RH:Ze) (J0 J2 J3 Ww Wv Wu:Zb) (ds gr:List am):vs=[.ref t,.ref t']->jC H t l1 l2 l3 l4 ts J0 J2 J3 ds->jC H t' Sk Sj Si R4 RH Ww Wv Wu gr->aE J0 J2 J3 ds->(aE Ww Wv Wu gr) ->
  (∀(l:Wk) (us:Ze) (H':Hp),H' l=eH (.lst (us.map WC))->gy H' us (dH J0 J2 Ww Wv)->H l=none->ab H H'->Q (.ref l) H')->wd vs H Q E
theorem MD{K:Za}(h:wd vs H Q E):q_ K mC (bT Q) (start rT vs) H:=by
 let⟨t,x,p,l3,l4,t',f,a,a6,a7,ts,a8,J0,J2,J3,Ww,Wv,O,ds,a9,rfl,T,U,m,m',k⟩:=h;have z1:=m.A2;have z2:=m'.A2;have z3:=m.B';have z4:=m'.B';have zj:=AC (J0:=J0) (J2:=J2) (Ww:=Ww) (Wv:=Wv);apply⟨_,fj,.inr (.inl ⟨t,_,0,_,fj,fj,bE.of T.t,fj,_,fj,.inr (.inl ⟨t,_,1,_,fj,fj,bE.of T.t,fj,_,fj,.inr (.inl ⟨t',_,0,_,fj,fj,bE.of U.t,fj,_,fj,.inr (.inl ⟨t',_,1,_,fj,fj,bE.of U.t,fj,(by show 4<=ak;decide),λn an=>?_⟩)⟩)⟩)⟩)⟩;have g:=ab.new (o:=.lst [.ref x,.ref p,.ref f,.ref a]) an;have q:=Wz H n (.lst [.ref x,.ref p,.ref f,.ref a]);show mC [.ref n] (upd H n<|.lst [.ref x,.ref p,.ref f,.ref a]) _ _;generalize upd H n (.lst [.ref x,.ref p,.ref f,.ref a])=H1 at g q ⊢;have T1:=T.same g;have s:=U.same g;have F:F4 H1 n (NO x p f a) (NO J0 J2 Ww Wv):=⟨q,λk hk=>by
  obtain _|_|_|_|k:=k
  .exact T1.a1
  .exact T1.a2
  .exact s.a1
  .exact s.a2
  .omega⟩
 apply⟨n,_,_,fj,F,λk hk=>?_,λal H2 i _ S2=>?_⟩
 .obtain _|_|_|_|k:=k
  .exact z3
  .exact z1
  .exact z4
  .exact z2
  .omega
 have i:H2 al=eH (.lst<|(cX J0 J2 Ww Wv).map WB):=i;have ap:=g.trans S2;clear F T1 s g q S2;apply⟨_,fj,al,fj,⟨_,az.of i⟩,λla as=>?_⟩;refine nz (kd:="ask") i ⋯ as λu Y h3 A S3=>?_;have j:=ap.trans S3;have T3:=T.same j;have B:=U.same j;apply⟨_,fj,_,fj,.inr (.inl ⟨t,_,1,_,fj,fj,bE.of T3.t,fj,_,fj,.inr (.inl ⟨t',_,1,_,fj,fj,bE.of B.t,fj,p,a,_,_,fj,fj,T3.a2,B.a2,by rw[ag,ag];exact cA (ao ⋯),λc hc=>?_⟩)⟩)⟩;have S4:=ab.new (o:=.lst<|J2.map WB++Wv.map WB) hc;have c4:upd Y c (.lst<|J2.map WB++Wv.map WB) c=eH (.lst<|(J2++Wv).map WB):=by rw[aa,au]
 apply⟨c,fj,⟨_,az.of aa⟩,λls C=>?_⟩;generalize upd Y c (.lst<|J2.map WB++Wv.map WB)=H4 at S4 c4 C ⊢;refine nz (kd:="say") c4 (by rw[aA];nofun) C λv H5 h5 D S5=>?_;have l:=S4.trans S5;have aC:=l _ _ h3;have G:=gy.kt (ab.kt l) A;have a0:=Paired.length A;have I:=Paired.length D;rw[ag]at a0 I;rw[aA]at I;apply⟨la,ls,_,_,fj,fj,aC,h5,by rw[ag,ag];exact cA (ao ⋯),λy a4=>?_⟩;have S6:=ab.new (o:=.lst<|u.map WC++v.map WC) a4;have J:upd H5 y (.lst<|u.map WC++v.map WC) y=eH (.lst<|(u++v).map WC):=by rw[aa,au]
 generalize upd H5 y (.lst<|u.map WC++v.map WC)=z at S6 J ⊢;apply⟨(by show 1<=ak;decide),λe a5=>⟨(by show 1<=ak;decide),λo L=>?_⟩⟩;have g:ab z (upd (upd z e<|.tup [.str "hush"]) o<|.lst [.ref e]):=(ab.new a5).trans<|ab.new L;have M:upd (upd z e<|.tup [.str "hush"]) o (.lst [.ref e]) e=eH (.tup<|bN.map WB):=kp aa L;have N:=Wz (upd z e<|.tup [.str "hush"]) o (.lst [.ref e]);show jU (.ref y) (.ref o) (upd (upd z e<|.tup [.str "hush"]) o<|.lst [.ref e]) _;generalize upd (upd z e<|.tup [.str "hush"]) o (.lst [.ref e])=H7 at g M N ⊢;apply⟨y,o,_,_,fj,fj,g _ _ J,N,by rw[ag,aA];exact cA (ao (by show _+1<=1000;nofun)),λr hr=>?_⟩;have S8:=ab.new (o:=.lst<|(u++v).map WC++[.ref e]) hr;have w:=S6.trans<|g.trans S8;refine k r (u++v++[e]) _ (by rw[aa,au (l₁:=u++v)];rfl) ?_ ((j.trans<|l.trans<|S6.trans g).free hr)<|j.trans<|l.trans w;exact Paired.app (Paired.app (gy.kt (ab.kt w) G)<|gy.kt (ab.kt w) D)<|.cons (S8 _ _ M) .nil
structure CY(J0 J2 J3:Zb)(ds:List am)(R:List (List Ws)):Prop where
 len:R.length<=256
 first:hJ J3 ds (J3.take 1)∈R
 Wd:∀f∈R,∀sg∈cW J0 J2,qo J3 ds f sg≠[]->qo J3 ds f sg∈R
theorem Good.TJ(g:Good a m)(k:CY e i a j R)(h:∀f∈m.fs,f∈R):m.fs.length<=256:=bH (j6 g.nd h) k.len
theorem Good.Tb(g:Good a m)(k:CY e i a j R)(h:∀f∈m.fs,f∈R):m.fs.length<400/\m.ss.length<400:=by
 have l:=g.TJ k h;have n:=g.len;nofun
theorem z_(i:CY J0 a e g R)(h:f∈R):∀p∈q7 J0 a e g f,p.2∈R:=λp j=>by
 let⟨k,l⟩:=bW.1 j;let⟨m,n,rfl⟩:=ar.1 k;exact i.Wd f h m n<|of_decide_eq_true l
theorem LI{m:ie}{f:Zb}{s:List Sg}{R:List (List Ws)}(a:∀x∈m.fs,x∈R)(h:f∈R):∀x∈(m.add f s).fs,x∈R:=by
 by_cases c:f∈m.fs
 .rw[ie.Qv c];exact a
 .rw[ie.C' c];intro x hx;obtain hx|hx:=bt.1 hx
  .exact a x hx
  .rw[bq.1 hx];exact h
theorem Hl{s:List Sg}{m:ie}{R:List (List Ws)}(e:∀x∈m.fs,x∈R){L:List (Sg×List Ws)}(f:∀p∈L,p.2∈R):∀x∈(fe s m L).1.fs,x∈R:=by
 have a:∀n,n<=L.length->∀x∈(fe s m<|L.take n).1.fs,x∈R:=by
  intro n
  induction n with
  |zero=>intro _;exact e
  |succ n g =>
   intro i;have h:L[n]?=eH L[n]:=bj ⋯;rw[take_snoc h,iZ];exact LI (g ⋯)<|f L[n]<|fR _
 have:=a L.length<|aF _;rw[aX]at this;exact this
theorem xY(g:CY J0 J2 a e R):∀j,∀f∈(wy J0 J2 a e j).1.fs,f∈R
 |0=>LI (λ_ z=>nomatch z) g.first
 |j+1=>by
  show ∀f∈(L' J0 J2 a e<|wy J0 J2 a e j).1.fs,f∈R;unfold L';refine Hl (xY g j) ?_;by_cases c:(wy J0 J2 a e j).2.length<(wy J0 J2 a e j).1.fs.length
  .refine z_ g<|xY (J0:=J0) (J2:=J2) g j _ ?_;rw[dP,bj c];exact fR _
  .rw[dP,ig ⋯];intro p h;let⟨i,k⟩:=bW.1 h;let⟨l,_,rfl⟩:=ar.1 i;exact absurd HJ<|of_decide_eq_true k
theorem Hn{K:Za}(h:H a=eH (.tup<|f.map WB))(k:∀g,ab H g->Q (.bl (!decide (f=[]))) g):∀e,H e=none->FD K (.ref a) (.ref e) (upd H e<|.tup []) Q:=λe i=>by
 apply⟨nY f,nY [],cg<|bE.of<|ab.new i _ _ h,cg<|bE.of (xs:=([]:Zb).map WB) aa,by rw[c6];decide,by rw[c6];decide,?_⟩;rw[lh];exact k _<|ab.new i
section
variable(J0 J2 J3 Ww Wv Wu:Zb)(ds gr:List am)
def rB(p:iD):List Ws:=k7 J3 Wu p.1 p.2
def Qu(p:iD)(sg:Sg):iD:=(PM J0 J2 J3 ds p.1 sg,PM Ww Wv Wu gr p.2 sg)
def LW(p:iD):Bool:=!decide (p.1=[]) && !decide (p.2=[])
def l'(L:List Sg)(p:iD):List (Sg×iD):=(L.map λsg=>(sg,Qu J0 J2 J3 Ww Wv Wu ds gr p sg)).filter λq=>LW q.2
def Qh(p:iD):List iD:=(l' J0 J2 J3 Ww Wv Wu ds gr (dH J0 J2 Ww Wv) p).map (·.2)
structure t3(p:iD):Prop where
 F:LS J3 ds p.1
 F':LS Wu gr p.2
 i:mP J3 p.1
 i':mP Wu p.2
structure nC:Prop where
 m:aE J0 J2 J3 ds
 m':aE Ww Wv Wu gr
 J:JoinOk J0 J2 J3 Ww Wv Wu ds gr
 tk:∀r∈J3,∀a∈J0,hW ds r a
 VO:∀r∈Wu,∀a∈Ww,hW gr r a
 r3:J3.length<=3
 Vy:Wu.length<=3
end
theorem tH:LW p=true↔p.1≠[]/\p.2≠[]:=by
 unfold LW;rw[lQ,Bool.not_eq_true',Bool.not_eq_true',decide_eq_false_iff_not,decide_eq_false_iff_not]
section
variable{J0 J2 J3 Ww Wv Wu:Zb}{ds gr:List am}
theorem Hu(h:mP J3 f):mP J3 (PM J0 J2 J3 ds f a):=by
 cases c:gQ J0 J2 a with
 |none=>rw[yu c];exact h
 |some g=>rw[yt c];exact Hv h
theorem t3.Vl(T:nC J0 J2 J3 Ww Wv Wu ds gr)(h:t3 J3 Wu ds gr p)(n:LW (Qu J0 J2 J3 Ww Wv Wu ds gr p sg)=true):t3 J3 Wu ds gr (Qu J0 J2 J3 Ww Wv Wu ds gr p sg):=by
 let⟨e,f⟩:=tH.1 n;have a:=CD (sg:=sg) T.m h.F.fi;have b:=CD (sg:=sg) T.m' h.F'.fi;exact⟨⟨a.sub,e,a.SU,a.len⟩,⟨b.sub,f,b.SU,b.len⟩,Hu h.i,Hu h.i'⟩
theorem Cp(hf:mP R f)(i:mP R g)(h:∀r∈R,r∈f↔r∈g):f=g:=by
 let⟨a,rfl⟩:=hf;let⟨b,rfl⟩:=i;refine ox λr e=>?_;have:=h r e;rw[bW,bW]at this;rw[sn];exact⟨λz=>(this.1 ⟨e,z⟩).2,λz=>(this.2 ⟨e,z⟩).2⟩
theorem Hb(j:t3 J3 Wu ds gr p)(k:t3 J3 Wu ds gr q)(e:rB J3 Wu p=rB J3 Wu q):p=q:=by
 have f:∀{p q:iD},rB J3 Wu p=rB J3 Wu q->∀r∈J3,∀o∈Wu,r∈p.1->o∈p.2->r∈q.1/\o∈q.2:=fun{p q} e r g o n y A=>by
  have hx:kO J3 Wu (r,o)∈rB J3 Wu p:=j7.2 ⟨(r,o),br.2 ⟨g,n⟩,y,A,fj⟩;rw[e]at hx;let⟨z,B,s,t,C⟩:=j7.1 hx;have:=jm (br.2 ⟨g,n⟩) B C;rw[<-this]at s t;exact⟨s,t⟩
 let⟨a,u⟩:=ow _ j.F.ne;let⟨b,v⟩:=ow _ j.F'.ne;let⟨w,l⟩:=ow _ k.F.ne;let⟨x,m⟩:=ow _ k.F'.ne;let⟨D,E⟩:=p;let⟨G,H⟩:=q;have I:D=G:=Cp j.i k.i λr g=>⟨λh=>(f e r g b (j.F'.sub b v) h v).1,λh=>(f e.symm r g x (k.F'.sub x m) h m).1⟩;have J:E=H:=Cp j.i' k.i' λr g=>⟨λh=>(f e a (j.F.sub a u) r g u h).2,λh=>(f e.symm w (k.F.sub w l) r g l h).2⟩;rw[I,J]
theorem CF(T:nC J0 J2 J3 Ww Wv Wu ds gr)(h:t3 J3 Wu ds gr p)(e:a∈dH J0 J2 Ww Wv):qo (bP J3 Wu) (n_ ds gr J2 Wv J3 Wu<|aG J0 J2 Ww Wv) (rB J3 Wu p) a=rB J3 Wu (Qu J0 J2 J3 Ww Wv Wu ds gr p a):=LF T.m T.m' T.J T.tk T.VO h.F.sub h.F'.sub h.F.SU h.F'.SU<|uR.1 e
theorem Go(T:nC J0 J2 J3 Ww Wv Wu ds gr)(h:t3 J3 Wu ds gr p)(e:a∈dH J0 J2 Ww Wv):qo (bP J3 Wu) (n_ ds gr J2 Wv J3 Wu<|aG J0 J2 Ww Wv) (rB J3 Wu p) a≠[]↔LW (Qu J0 J2 J3 Ww Wv Wu ds gr p a)=true:=by
 rw[CF T h e,tH];exact KS (CD T.m h.F.fi).sub (CD T.m' h.F'.fi).sub
theorem z9(T:nC J0 J2 J3 Ww Wv Wu ds gr)(h:t3 J3 Wu ds gr p):∀(L:List Sg),(∀sg∈L,sg∈dH J0 J2 Ww Wv)->Tx (bP J3 Wu) (n_ ds gr J2 Wv J3 Wu<|aG J0 J2 Ww Wv) (rB J3 Wu p) L=(l' J0 J2 J3 Ww Wv Wu ds gr L p).map λq=>(q.1,rB J3 Wu q.2)
 |[],_=>rfl
 |sg::L,f=>by
  have a:=z9 T h L λx hx=>f x<|eN _ hx;have e:=f sg cT;unfold Tx l' at a ⊢;rw[bL,bL,lE,lE];by_cases c:LW (Qu J0 J2 J3 Ww Wv Wu ds gr p sg)=true
  .rw[if_pos<|hH<|(Go T h e).2 c,if_pos c,bL,a,CF T h e]
  .rw[if_neg<|λz=>c<|(Go T h e).1<|of_decide_eq_true z,if_neg c,a]
theorem xA(T:nC J0 J2 J3 Ww Wv Wu ds gr)(h:t3 J3 Wu ds gr p):q7 (cX J0 J2 Ww Wv) (J2++Wv) (bP J3 Wu) (n_ ds gr J2 Wv J3 Wu<|aG J0 J2 Ww Wv) (rB J3 Wu p)=(l' J0 J2 J3 Ww Wv Wu ds gr (dH J0 J2 Ww Wv) p).map λq=>(q.1,rB J3 Wu q.2):=z9 T h _ λ_ z=>z
theorem JO(T:nC J0 J2 J3 Ww Wv Wu ds gr)(h:t3 J3 Wu ds gr p):RG (cX J0 J2 Ww Wv) (J2++Wv) (bP J3 Wu) (n_ ds gr J2 Wv J3 Wu<|aG J0 J2 Ww Wv) (rB J3 Wu p)=(Qh J0 J2 J3 Ww Wv Wu ds gr p).map (rB J3 Wu):=by
 unfold RG Qh;rw[xA T h,eZ,eZ]
 rfl
theorem mz(T:nC J0 J2 J3 Ww Wv Wu ds gr)(h:t3 J3 Wu ds gr p):∀q∈l' J0 J2 J3 Ww Wv Wu ds gr L p,t3 J3 Wu ds gr q.2:=λq a=>by
 let⟨e,f⟩:=bW.1 a;let⟨g,_,rfl⟩:=ar.1 e;exact h.Vl T f
theorem o9(T:nC J0 J2 J3 Ww Wv Wu ds gr):t3 J3 Wu ds gr (hJ J3 ds<|J3.take 1,hJ Wu gr<|Wu.take 1):=⟨At T.m,At T.m',uV,uV⟩
theorem Vg(T:nC J0 J2 J3 Ww Wv Wu ds gr):∃R,CY (cX J0 J2 Ww Wv) (J2++Wv) (bP J3 Wu) (n_ ds gr J2 Wv J3 Wu<|aG J0 J2 Ww Wv) R:=by
 classical
 let A:List iD:=(g8 J3).flatMap λf=>(g8 Wu).map λg=>(f,g)
 have t:A.length<=64:=by
  have u:(g8 J3).length<=8:=by rw[my];exact bH (AI Wt T.r3) Wt
  have o:(g8 Wu).length<=8:=by rw[my];exact bH (AI Wt T.Vy) Wt
  have:=lg (f:=λf=>(g8 Wu).map λg=>((f,g):iD)) (n:=8) (λf=>by rw[ag];exact o)<|g8 J3;show(List.flatMap _ _).length<=64;nofun
 have e:∀{p:iD},t3 J3 Wu ds gr p->p∈A:=fun{p} h=>by
  let⟨a,q⟩:=h.i;let⟨b,r⟩:=h.i';exact fQ.2 ⟨p.1,by rw[q];exact mx a J3,ar.2 ⟨p.2,by rw[r];exact mx b Wu,fj⟩⟩
 apply⟨(A.filter λp=>decide (t3 J3 Wu ds gr p)).map<|rB J3 Wu,?_,?_,?_⟩
 .rw[ag];exact bH (b_ _ _) ⋯
 .refine ar.2 ⟨_,bW.2 ⟨e<|o9 T,hH<|o9 T⟩,?_⟩;exact(rL T.m T.m').symm
 .intro f hf v k s;let⟨p,j,rfl⟩:=ar.1 hf;have j:=of_decide_eq_true (bW.1 j).2;have l:=j.Vl T<|(Go T j k).1 s;exact ar.2 ⟨_,bW.2 ⟨e l,hH l⟩,(CF T j k).symm⟩
theorem MS(T:nC J0 J2 J3 Ww Wv Wu ds gr)(h:t3 J3 Wu ds gr p):(rB J3 Wu p).length=p.1.length * p.2.length:=by
 have a:∀(R:Zb),((R.flatMap λr=>Wu.map λo=>(r,o)).filter λq=>decide (q.1∈p.1) && decide (q.2∈p.2)).length=(R.filter λr=>decide (r∈p.1)).length * (Wu.filter λr=>decide (r∈p.2)).length:=λR=>by
  induction R with
  |nil=>rw[List.flatMap_nil];simp
  |cons r R e =>
   rw[List.flatMap_cons,gJ,aA,e,lE];by_cases c:r∈p.1
   .rw[if_pos<|hH c,eT,AO,Nat.add_comm];congr 1;rw[List.filter_map,ag];refine congrArg List.length<|ox λo _=>?_;show(decide (r∈p.1) && decide (o∈p.2))=_;rw[hH c,t7]
   .rw[if_neg<|λz=>c<|of_decide_eq_true z];have:((Wu.map λo=>(r,o)).filter λq:Ws×Ws=>decide (q.1∈p.1) && decide (q.2∈p.2))=[]:=by
     refine wH.2 λq g z=>?_;let⟨o,_,rfl⟩:=ar.1 g;rw[lQ]at z;exact c<|of_decide_eq_true z.1
    rw[this,lU,wG]
 have own:∀{R f:Zb},mP R f->(R.filter λr=>decide (r∈f))=f:=fun{R f} hf=>Cp ⟨_,fj⟩ hf λr j=>by rw[bW];exact⟨λz=>of_decide_eq_true z.2,λz=>⟨j,hH z⟩⟩
 unfold rB k7;rw[ag];show((J3.flatMap λr=>Wu.map λo=>(r,o)).filter _).length=_;rw[a J3,own h.i,own h.i']
end
structure zD where
 ps:List iD
 ss:List (List Sg)
def zD.add(m:zD)(p:iD)(s:List Sg):zD:=if p∈m.ps then m else⟨m.ps++[p],m.ss++[s]⟩
def fU(s:List Sg)(m:zD)(L:List<|Sg×iD):zD:=L.foldl (λm q=>m.add q.2<|s++[q.1]) m
theorem pL(s:List Sg)(m:zD)(L:List<|Sg×iD)(q:Sg×iD):fU s m (L++[q])=(fU s m L).add q.2 (s++[q.1]):=by
 unfold fU;rw[mV];rfl
section
variable(J0 J2 J3 Ww Wv Wu:Zb)(ds gr:List am)
def rk:Nat->zD
 |0=>⟨[(hJ J3 ds<|J3.take 1,hJ Wu gr<|Wu.take 1)],[[]]⟩
 |j+1=>fU ((rk j).ss.getD j []) (rk j)<|l' J0 J2 J3 Ww Wv Wu ds gr (dH J0 J2 Ww Wv)<|(rk j).ps.getD j ([],[])
end
section
variable{J0 J2 J3 Ww Wv Wu:Zb}{ds gr:List am}
theorem Nu{m:zD}(f:∀q∈m.ps,t3 J3 Wu ds gr q)(g:t3 J3 Wu ds gr p):(⟨m.ps.map<|rB J3 Wu,m.ss⟩:ie).add (rB J3 Wu p) s=⟨(m.add p s).ps.map<|rB J3 Wu,(m.add p s).ss⟩/\(∀q∈(m.add p s).ps,t3 J3 Wu ds gr q):=by
 by_cases c:p∈m.ps
 .have e:m.add p s=m:=if_pos c;rw[e,ie.Qv<|eC c];exact⟨fj,f⟩
 .have e:m.add p s=⟨m.ps++[p],m.ss++[s]⟩:=if_neg c;rw[e,ie.C' (λz=>by
   let⟨q,a,eq⟩:=ar.1 z;rw[Hb (f q a) g eq]at a;exact c a)]
  apply⟨by rw[au];rfl,λq a=>?_⟩;obtain z|z:=bt.1 a
  .exact f q z
  .rw[bq.1 z];exact g
theorem Na(e:∀q∈m.ps,t3 J3 Wu ds gr q):∀{L:List (Sg×iD)},(∀q∈L,t3 J3 Wu ds gr q.2)->(fe s ⟨m.ps.map<|rB J3 Wu,m.ss⟩<|L.map λq=>(q.1,rB J3 Wu q.2)).1=⟨(fU s m L).ps.map<|rB J3 Wu,(fU s m L).ss⟩/\(∀q∈(fU s m L).ps,t3 J3 Wu ds gr q):=by
 intro L f;have a:∀n,n<=L.length->(fe s ⟨m.ps.map<|rB J3 Wu,m.ss⟩<|(L.take n).map λq=>(q.1,rB J3 Wu q.2)).1=⟨(fU s m<|L.take n).ps.map<|rB J3 Wu,(fU s m<|L.take n).ss⟩/\(∀q∈(fU s m<|L.take n).ps,t3 J3 Wu ds gr q):=by
  intro n
  induction n with
  |zero=>intro _;exact⟨fj,e⟩
  |succ n g =>
   intro k;let⟨h,i⟩:=g ⋯;have j:L[n]?=eH L[n]:=bj ⋯;rw[take_snoc j,au,bL,ur,iZ,pL];show(ie.add (fe s _ _).1 _ _)=_/\_;rw[h];exact Nu i<|f L[n]<|fR _
 have:=a L.length<|aF _;rw[aX]at this;exact this
theorem Eb:∀j,(wy A S R D j).2.length=j
 |0=>rfl
 |j+1=>by
  show((wy A S R D j).2++[_]).length=j+1;rw[aA,Eb j];rfl
theorem Co(T:nC J0 J2 J3 Ww Wv Wu ds gr):∀j,(∀i<j,i<(rk J0 J2 J3 Ww Wv Wu ds gr i).ps.length)->(wy (cX J0 J2 Ww Wv) (J2++Wv) (bP J3 Wu) (n_ ds gr J2 Wv J3 Wu<|aG J0 J2 Ww Wv) j).1=⟨(rk J0 J2 J3 Ww Wv Wu ds gr j).ps.map<|rB J3 Wu,(rk J0 J2 J3 Ww Wv Wu ds gr j).ss⟩/\∀q∈(rk J0 J2 J3 Ww Wv Wu ds gr j).ps,t3 J3 Wu ds gr q
 |0,_=>by
  apply⟨?_,λq g=>by rw[bq.1 g];exact o9 T⟩;show(⟨[],[]⟩:ie).add (hJ _ _ _) []=_;rw[ie.C' ∅,rL T.m T.m']
  rfl
 |j+1,h=>by
  let⟨e,a⟩:=Co T j λi hi=>h i ⋯;have lt:=h j ⋯;have k:(rk J0 J2 J3 Ww Wv Wu ds gr j).ps.getD j ([],[])=(rk J0 J2 J3 Ww Wv Wu ds gr j).ps[j]:=by rw[dP,bj lt];rfl
  have f:=a _<|fR lt;show(L' _ _ _ _<|wy _ _ _ _ j).1=_/\_;unfold L';rw[Eb,e];have l:(List.map (rB J3 Wu) (rk J0 J2 J3 Ww Wv Wu ds gr j).ps).getD j []=rB J3 Wu (rk J0 J2 J3 Ww Wv Wu ds gr j).ps[j]:=by rw[dP,bV,bj lt];rfl
  have n:rk J0 J2 J3 Ww Wv Wu ds gr (j+1)=fU ((rk J0 J2 J3 Ww Wv Wu ds gr j).ss.getD j []) (rk J0 J2 J3 Ww Wv Wu ds gr j) (l' J0 J2 J3 Ww Wv Wu ds gr (dH J0 J2 Ww Wv) (rk J0 J2 J3 Ww Wv Wu ds gr j).ps[j]):=by rw[<-k];rfl
  rw[n];show(fe _ _<|q7 _ _ _ _<|List.getD _ _ _).1=_/\_;rw[l,xA T f];exact Na a<|mz T f
end
def xj(K:Za)(Qj:Sp)(P1:Sp)(Qd:Sp):TS :=
 aq (aU (aM Qd<|aK V0 V1) U2)
 (aq (aU (cB<|av (aM P1<|aK V0<|bw<|aW)<|aB<|aM P1<|aK V1<|bw<|aW) U3)
 (aq (aU (bw<|aB<|cB<|aK V3<|bw<|aW) U4)
 (aq (aU (oQ) U5)
 (aq (aU (BJ K V3<|tC<|.bl true) U6)
 (aq (aU (tC<|.int 0) U7)
 (aq (xo (a_<|aI FE V7<|dL (dO K)<|aB V4) (aq (aU (aI (dE K) V4 V7)<|gR K 2<|aY U8<|aY U9<|gf)
 (aq (kz V5 V8<|bw<|aW)
 (aq (ee (bU K V2) OQ (aq (aU (cB<|av (aM Qj<|eP V0 (aI (io K) V8<|tC<|.int 0) Gp)<|av (aM Qj<|eP V1 (aI (io K) V8<|tC<|.int 1) Gp) aW) OP)
 (cV (uN (a_<|aI (FD K) (aI (io K) ED<|tC<|.int 0)<|cB<|aW)<|a_<|aI (FD K) (aI (io K) ED<|tC<|.int 1)<|cB<|aW) (aq (cY<|wb K "list" d4 (oS K V5 V8)<|aB ED)
 (cV (tB<|kU K ED V6) (aq (kz V6 ED<|tC<|.bl true)
 (cY<|wb K "list" d4 V4<|av (cB<|aK ED<|aI jU V9<|bw<|aB Gp) aW))<|bC))<|bC)))
 (aU (aI fM V7<|tC<|.int 1) U7)))))
 (bo<|cB<|aK V4 V5)))))))
def yE:List Ws:=["first","second","signs","start","found","behind","known","at","pair","story","sign","other"]
def yV(K:Za):TS :=
 aq (aU (BJ K V0<|tC<|.int 1) U3)
 (aq (ee (vA<|aB V2) U4 (aq (aU (oQ) U5)
 (aq (ee (FZ K V3) U6<|ee (bU K<|oS K V1 V6) U7<|kz V5 V7<|aI fM (oR K V5 V7<|tC<|.int 0)<|oS K V3 V6)
 (aU V5 U3))))
 (bo<|NG V3))
def zK:List Ws:=["start","behind","number","counts","turn","later","pair","other"]
def Mp(K:Za)(K':Sp)(R1:Sp)(Rc:Sp)(R0:Sp)(QX:Sp)(iP:Sp)(P0:Sp)(QB:Sp)(hE:Sp)(RZ:Sp):TS :=
 aq (aU (aM RZ<|aB V0) U1)
 (aq (aU (aM hE<|aK V1<|tC<|.int 15) U2)
 (aq (cV (a_<|aI IL (aM hE<|aK V1<|tC<|.int 6)<|tC<|.int 0) (aU (aM hE<|aK V1<|tC<|.int 61) U2)<|bC)
 (aq (aU (aM QB<|eP V1 (tC<|.int 3)<|tC<|.int 3)<|OA K 2<|aY U3<|aY U4<|gf)
 (aq (aU (aM iP<|aK (aM P0<|aB V3)<|aM P0<|aB V4) U5)
 (aq (aU (aM QX<|aK V3 V4)<|gR K 2<|aY U6<|aY U7<|gf)
 (aq (cV (oN<|tB<|aM K'<|av (aM R0<|aK V5 V2)<|av (aM Rc<|eP (aI (nh K) (aI (dE K) V6<|tC<|.int 0)<|tC<|.int 0) V7 V2) aW) (bo<|tC<|.bl false)<|bC)
 (aq (aU (aM R1<|aB V5) U8)
 (aq (cV (C3 (oN<|tB<|dL (oY K)<|aK V8<|tC<|.ty "list")<|a_<|aI MP (dL (dO K)<|aB V8)<|dL (dO K)<|aB V6) (bo<|tC<|.bl false)<|bC)
 (aq (ee (Hw K<|aK V8 V6) (gR K 2<|aY U9<|aY (gR K 2<|aY OQ<|aY OP<|gf)<|gf) (aq (cV (C3 (oN<|tB<|dL (oY K)<|aK V9<|tC<|.ty "tuple")<|C3 (a_<|aI MP (dL (dO K)<|aB V9)<|tC<|.int 2)<|oN<|tB<|dL (oY K)<|aK (aI (io K) V9<|tC<|.int 0)<|tC<|.ty "tuple") (bo<|tC<|.bl false)<|bC)
 (cV (C3 (oN<|tB<|aM K'<|aK (aI (io K) V9<|tC<|.int 1) ED)<|a_<|aI MP (dL (dO K)<|aB<|aI (io K) V9<|tC<|.int 0)<|aI kB (dL (dO K)<|aB<|aI (io K) Gp<|tC<|.int 0)<|dL (dO K)<|aB<|aI (io K) Gp<|tC<|.int 1) (bo<|tC<|.bl false)<|bC)))
 (bo<|tC<|.bl true))))))))))
def HV:List Ws:=["script","pen","number","first","second","whole","found","behind","told","entry","pair","story"]
def KR:List Ws:=["script"]
def rS(H:Hp)(RF:Ze)(e:Wk)(x:LP):Prop:=∃b st gs,H e=eH (.tup [.ref b,.ref st])/\r_ H b x.1/\H st=eH (.lst<|gs.map WC)/\gy H gs x.2/\st∉RF
theorem rS.kt(kt:h_ H a)(h:∀b f,b∉RF->H b=eH (.lst f)->a b=eH (.lst f)):rS H RF e x->rS a RF e x:=λ⟨b,st,i,j,k,l,m,g⟩=>⟨b,st,i,kt _ _ j,k.kt kt,h _ _ g l,gy.kt kt m,g⟩
theorem rS.RF{H:Hp}{RF a:Ze}{e:Wk}{x:LP}(h:∀b g,b∉RF->H b=eH (.lst g)->b∉a):rS H RF e x->rS H a e x:=λ⟨b,st,i,j,k,f,l,m⟩=>⟨b,st,i,j,k,f,l,h _ _ m f⟩
section
variable(J0 J2 J3 Ww Wv Wu:Zb)(ds gr:List am)
def C1(H:Hp)(RF:Ze)(kv:List<|TK×V)(p:iD):Prop:=∃l us,cy kv (b9 p)=eH (.ref l)/\H l=eH (.lst<|us.map WC)/\Paired (r_ H) us (Qh J0 J2 J3 Ww Wv Wu ds gr p)/\l∉RF
end
section
variable{J0 J2 J3 Ww Wv Wu:Zb}{ds gr:List am}
theorem C1.kt(kt:h_ H a)(h:∀b f,b∉RF->H b=eH (.lst f)->a b=eH (.lst f)):C1 J0 J2 J3 Ww Wv Wu ds gr H RF e p->C1 J0 J2 J3 Ww Wv Wu ds gr a RF e p:=λ⟨l,i,j,k,m,g⟩=>⟨l,i,j,h _ _ g k,Paired.i3 m λ_ _ r=>r.kt kt,g⟩
theorem C1.RF{H:Hp}{RF a:Ze}{e:List (TK×V)}{p:iD}(h:∀b g,b∉RF->H b=eH (.lst g)->b∉a):C1 J0 J2 J3 Ww Wv Wu ds gr H RF e p->C1 J0 J2 J3 Ww Wv Wu ds gr H a e p:=λ⟨l,i,j,f,k,m⟩=>⟨l,i,j,f,k,h _ _ m f⟩
structure vX(J3 Wu:Zb)(ds gr:List am)(m:zD):Prop where
 nd:m.ps.Nodup
 len:m.ss.length=m.ps.length
 fc:∀q∈m.ps,t3 J3 Wu ds gr q
 sl:∀(i:Nat) (s:List Sg),m.ss[i]?=eH s->s.length<=i
theorem vX.add(h:vX J3 Wu ds gr m)(f:t3 J3 Wu ds gr p)(l:s.length<=m.ps.length):vX J3 Wu ds gr (m.add p s):=by
 by_cases c:p∈m.ps
 .rw[show m.add p s=m from if_pos c];exact h
 .rw[show m.add p s=⟨m.ps++[p],m.ss++[s]⟩from if_neg c];apply⟨cQ.2 ⟨h.nd,by simp,λx hx y g e=>c (by rw[bq.1 g]at e;rw[<-e];exact hx)⟩,?_,λq j=>?_,λi a e=>?_⟩
  .show(m.ss++[s]).length=(m.ps++[p]).length;rw[aA,aA,h.len];rfl
  .obtain z|z:=bt.1 j
   .exact h.fc q z
   .rw[bq.1 z];exact f
  .change (m.ss++[s])[i]?=eH a at e
   obtain z|z:=qD i m.ss.length
   .rw[iK z]at e;exact h.sl i a e
   .rw[oF z]at e;have k:i-m.ss.length=0:=by
     obtain q|q:=ud (i-m.ss.length)
     .exact q
     .rw[ig (by show 1<=_;nofun)]at e;cases e
    rw[k]at e;injection e with e;have:=h.len;rw[<-e];nofun
theorem zD.grow(m:zD)(p:iD)(s:List Sg):∃a b,(m.add p s).ps=m.ps++a/\(m.add p s).ss=m.ss++b:=by
 by_cases c:p∈m.ps
 .rw[show m.add p s=m from if_pos c];exact⟨[],[],(dj _).symm,(dj _).symm⟩
 .rw[show m.add p s=⟨m.ps++[p],m.ss++[s]⟩from if_neg c];exact⟨_,_,fj,fj⟩
theorem wo(h:vX J3 Wu ds gr m)(u:s.length<m.ps.length)(g:∀q∈L,t3 J3 Wu ds gr q.2):vX J3 Wu ds gr (fU s m L)/\∃a b,(fU s m L).ps=m.ps++a/\(fU s m L).ss=m.ss++b:=by
 have e:∀n,n<=L.length->vX J3 Wu ds gr (fU s m<|L.take n)/\∃a b,(fU s m<|L.take n).ps=m.ps++a/\(fU s m<|L.take n).ss=m.ss++b:=by
  intro n
  induction n with
  |zero=>intro _;exact⟨h,[],[],(dj _).symm,(dj _).symm⟩
  |succ n i =>
   intro v;let⟨j,a,b,f,k⟩:=i ⋯;have l:L[n]?=eH L[n]:=bj ⋯;rw[take_snoc l,pL];let⟨o,p,r,t⟩:=(fU s m<|L.take n).grow L[n].2<|s++[L[n].1];apply⟨j.add (g _<|fR _) ?_,a++o,b++p,by rw[r,f,dQ],by rw[t,k,dQ]⟩;rw[f,aA,aA];show _+1<=_;nofun
 have:=e L.length<|aF _;rw[aX]at this;exact this
theorem xW(T:nC J0 J2 J3 Ww Wv Wu ds gr):∀j,(∀i<j,i<(rk J0 J2 J3 Ww Wv Wu ds gr i).ps.length)->vX J3 Wu ds gr (rk J0 J2 J3 Ww Wv Wu ds gr j)
 |0,_=>⟨by show[_].Nodup;simp,fj,λq g=>by rw[bq.1 g];exact o9 T,λi s e=>by
  change ([[]]:List<|List Sg)[i]?=eH s at e
  cases i with
  |zero=>injection e with e;rw[<-e];exact cH _
  |succ i=>simp at e⟩
 |j+1,h=>by
  have a:=xW T j λi hi=>h i ⋯;have lt:=h j ⋯;have k:(rk J0 J2 J3 Ww Wv Wu ds gr j).ps.getD j ([],[])=(rk J0 J2 J3 Ww Wv Wu ds gr j).ps[j]:=by rw[dP,bj lt];rfl
  have f:j<(rk J0 J2 J3 Ww Wv Wu ds gr j).ss.length:=by rw[a.len];exact lt
  show vX J3 Wu ds gr (fU _ _<|l' _ _ _ _ _ _ _ _ _<|List.getD _ _ _);rw[k];refine(wo a ?_<|mz T<|a.fc _<|fR lt).1;have:=a.sl j _<|bj f;rw[dP,bj f];exact qM this lt
theorem vX.Qf(T:nC J0 J2 J3 Ww Wv Wu ds gr)(h:vX J3 Wu ds gr m):m.ps.length<=64:=by
 have o:(g8 J3).length<=8:=by rw[my];exact bH (AI Wt T.r3) Wt
 have j:(g8 Wu).length<=8:=by rw[my];exact bH (AI Wt T.Vy) Wt
 have q:=lg (f:=λf=>(g8 Wu).map λg=>((f,g):iD)) (n:=8) (λf=>by rw[ag];exact j)<|g8 J3;have r:=j6 h.nd (R:=(g8 J3).flatMap λf=>(g8 Wu).map λg=>((f,g):iD)) λp e=>by
  let⟨a,k⟩:=(h.fc p e).i;let⟨b,l⟩:=(h.fc p e).i';exact fQ.2 ⟨p.1,by rw[k];exact mx a J3,ar.2 ⟨p.2,by rw[l];exact mx b Wu,fj⟩⟩
 nofun
theorem Mg{m:zD}(h:m.ss.length=m.ps.length)(c:p∉m.ps):(m.add p s).ps.zip (m.add p s).ss=m.ps.zip m.ss++[(p,s)]:=by
 rw[show m.add p s=⟨m.ps++[p],m.ss++[s]⟩from if_neg c];show(m.ps++[p]).zip (m.ss++[s])=_;rw[List.zip_append h.symm];rfl
theorem vm:l' J0 J2 J3 Ww Wv Wu ds gr (L++[a]) p=l' J0 J2 J3 Ww Wv Wu ds gr L p++(if LW (Qu J0 J2 J3 Ww Wv Wu ds gr p a)=true then[(a,Qu J0 J2 J3 Ww Wv Wu ds gr p a)]else[]):=by
 unfold l';rw[au,gJ];by_cases c:LW (Qu J0 J2 J3 Ww Wv Wu ds gr p a)=true
 .rw[if_pos c];simp[c]
 .rw[if_neg c];simp[c]
end
section
variable{K:Za}{J0 J2 J3 Ww Wv Wu:Zb}{ds gr:List am}{H0 G1:Hp}{t t' l1 l2 l3 l4 Sk Sj Si R4 gl s0 fl bd kd pu SG bl:Wk}{ts RH gs:Ze}{RX:List (TK×V)}
structure OR(J0 J2 J3 Ww Wv Wu:Zb)(ds gr:List am)(H0 G1:Hp)(t l1 l2 l3 l4 t' Sk Sj Si R4 gl fl bd kd pu SG bl:Wk)(ts RH gs ws:Ze)(RX:List (TK×V))(p:iD)(s:List Sg):Prop where
 S:ab H0 G1
 T:jC G1 t l1 l2 l3 l4 ts J0 J2 J3 ds
 T':jC G1 t' Sk Sj Si R4 RH Ww Wv Wu gr
 nT:∀b∈[l1,l2,l3,l4,Sk,Sj,Si,R4,gl,SG],b∉[fl,bl,kd]
 Ul:G1 gl=eH (.lst (gs.map WC))
 UB:gy G1 gs (dH J0 J2 Ww Wv)
 Ti:G1 bd=eH (.dT RX)
 VS:bd∉[fl,bl,kd]
 VY:cy RX (b9 p)=eH (.ref bl)
 VE:r_ G1 pu p
 VW:G1 SG=eH (.lst (ws.map WC))
 VD:gy G1 ws s
 Wb:∃xs,G1 fl=eH (.lst xs)
 dbl:∃xs,G1 bl=eH (.lst xs)
 Wa:∃kv,G1 kd=eH (.dT kv)
 ne:fl≠bl/\fl≠kd/\bl≠kd
end
section
variable{K:Za}{J0 J2 J3 Ww Wv Wu:Zb}{ds gr:List am}{H0 G1:Hp}{t t' l1 l2 l3 l4 Sk Sj Si R4 gl fl bd kd pu SG bl:Wk}{ts RH gs ws:Ze}{RX:List (TK×V)}{p:iD}{s:List Sg}
theorem OR.kt(A:OR J0 J2 J3 Ww Wv Wu ds gr H0 G1 t l1 l2 l3 l4 t' Sk Sj Si R4 gl fl bd kd pu SG bl ts RH gs ws RX p s)(e:AD [fl,bl,kd] G1 H):h_ G1 H:=λb h q=>e b _ q λz=>by
 let⟨i,a⟩:=A.Wb;let⟨j,f⟩:=A.dbl;let⟨k,g⟩:=A.Wa;obtain z|z:=cq.1 z
 .rw[z,a]at q;cases q
 obtain z|z:=cq.1 z
 .rw[z,f]at q;cases q
 .rw[bq.1 z,g]at q;cases q
theorem OR.told(A:OR J0 J2 J3 Ww Wv Wu ds gr H0 G1 t l1 l2 l3 l4 t' Sk Sj Si R4 gl fl bd kd pu SG bl ts RH gs ws RX p s)(e:AD [fl,bl,kd] G1 H):jC H t l1 l2 l3 l4 ts J0 J2 J3 ds/\jC H t' Sk Sj Si R4 RH Ww Wv Wu gr:=by
 have kt:=A.kt e;exact⟨⟨kt _ _ A.T.t,e _ _ A.T.a1 (A.nT _ ∅),e _ _ A.T.a2 (A.nT _ ∅),e _ _ A.T.a3 (A.nT _ ∅),e _ _ A.T.a4 (A.nT _ ∅),A.T.ds.kt kt⟩,⟨kt _ _ A.T'.t,e _ _ A.T'.a1 (A.nT _ ∅),e _ _ A.T'.a2 (A.nT _ ∅),e _ _ A.T'.a3 (A.nT _ ∅),e _ _ A.T'.a4 (A.nT _ ∅),A.T'.ds.kt kt⟩⟩
theorem DK(T2:nC J0 J2 J3 Ww Wv Wu ds gr)(A:OR J0 J2 J3 Ww Wv Wu ds gr H0 G1 t l1 l2 l3 l4 t' Sk Sj Si R4 gl fl bd kd pu SG bl ts RH gs ws RX p s)(hF:t3 J3 Wu ds gr p)(c4:vX J3 Wu ds gr M)(hs:s.length<M.ps.length)(c5:G1 fl=eH (.lst<|es.map WC))(b4:Paired (rS G1 [fl,bl]) es<|M.ps.zip M.ss)(da:G1 bl=eH (.lst []))(db:G1 kd=eH (.dT<|zo M.ps))(k:∀(f v:Ze) (x B:Option V) (C:Hp),AD [fl,bl,kd] G1 C->C fl=eH (.lst<|f.map WC)->Paired (rS C [fl,bl]) f ((fU s M<|l' J0 J2 J3 Ww Wv Wu ds gr (dH J0 J2 Ww Wv) p).ps.zip (fU s M<|l' J0 J2 J3 Ww Wv Wu ds gr (dH J0 J2 Ww Wv) p).ss)->C bl=eH (.lst<|v.map WC)->Paired (r_ C) v (Qh J0 J2 J3 Ww Wv Wu ds gr p)->C kd=eH (.dT<|zo (fU s M<|l' J0 J2 J3 Ww Wv Wu ds gr (dH J0 J2 Ww Wv) p).ps)->D.nx [eH<|.ref t,eH<|.ref t',eH<|.ref gl,y3,eH<|.ref fl,eH<|.ref bd,eH<|.ref kd,y7,eH<|.ref pu,eH<|.ref SG,x,B] C) :
  ee (bU K V2) OQ (aq (aU (cB<|av (aM (pH K)<|eP V0 (aI (io K) V8<|tC<|.int 0) Gp)<|av (aM (pH K)<|eP V1 (aI (io K) V8<|tC<|.int 1) Gp) aW) OP)<|cV (uN (a_<|aI (FD K) (aI (io K) ED<|tC<|.int 0)<|cB<|aW)<|a_<|aI (FD K) (aI (io K) ED<|tC<|.int 1)<|cB<|aW) (aq (cY<|wb K "list" d4 (oS K V5 V8)<|aB ED)<|cV (tB<|kU K ED V6) (aq (kz V6 ED<|tC<|.bl true)<|cY<|wb K "list" d4 V4<|av (cB<|aK ED<|aI jU V9<|bw<|aB Gp) aW)<|bC)<|bC) D [eH<|.ref t,eH<|.ref t',eH<|.ref gl,y3,eH<|.ref fl,eH<|.ref bd,eH<|.ref kd,y7,eH<|.ref pu,eH<|.ref SG,x,B] G1:=by
 have m:=T2.m;have m':=T2.m';have q1:=m.vr;have q2:=m'.vr;have z1:=m.A2;have z2:=m'.A2;have z3:=m.B';have z4:=m'.B';have zs:=Ir (J0:=J0) (J2:=J2) (Ww:=Ww) (Wv:=Wv);have lF:=hF.F.len;have dx:=hF.F'.len;have b5:=Paired.length A.UB;let⟨b6,b7,bz⟩:=A.ne;have dc:gl∉[fl,bl,kd]:=A.nT _ ∅;have dd:SG∉[fl,bl,kd]:=A.nT _ ∅
 let g:Nat->zD:=λi=>fU s M<|l' J0 J2 J3 Ww Wv Wu ds gr ((dH J0 J2 Ww Wv).take i) p
 have di:∀i,vX J3 Wu ds gr (g i)/\s.length<(g i).ps.length:=λi=>by
  let⟨h1,a,b,e1,e2⟩:=wo c4 hs<|mz T2 hF (L:=(dH J0 J2 Ww Wv).take i);apply⟨h1,?_⟩;show _<(fU _ _ _).ps.length;rw[e1,aA];nofun
 apply⟨_,fj,gl,fj,⟨_,az.of A.Ul⟩,?_⟩
 let zI:Nat->L2.St->Hp->Prop:=λi σ C=>OS λ(f v:Ze) (x B:Option V)=>VJ (σ=[eH<|.ref t,eH<|.ref t',eH<|.ref gl,y3,eH<|.ref fl,eH<|.ref bd,eH<|.ref kd,y7,eH<|.ref pu,eH<|.ref SG,x,B]) (AD [fl,bl,kd] G1 C) (C fl=eH (.lst<|f.map WC)) (Paired (rS C [fl,bl]) f<|(g i).ps.zip (g i).ss) (C bl=eH (.lst<|v.map WC)) (Paired (r_ C) v<|(l' J0 J2 J3 Ww Wv Wu ds gr ((dH J0 J2 Ww Wv).take i) p).map (·.2))<|C kd=eH (.dT<|zo (g i).ps)
 refine cb (xs:=gs.map WC) zI ⟨es,[],_,_,fj,λ_ _ e _=>e,c5,b4,da,.nil,db⟩ (λi σ C _ zq=>by let⟨_,_,_,_,_,e,_⟩:=zq;exact az.of<|e _ _ A.Ul dc) ?_ ?_;rotate_left
 .rintro σ C ⟨f,v,x,B,rfl,e,h1,h2,h3,h4,h5⟩;rw[ag,b5]at h4;have eI:g (gs.map WC).length=fU s M (l' J0 J2 J3 Ww Wv Wu ds gr (dH J0 J2 Ww Wv) p):=by
   show fU _ _ (l' _ _ _ _ _ _ _ _ (List.take _ _) _)=_;rw[ag,b5,aX]
  rw[aX]at h4;rw[eI]at h2 h5;exact k f v x B C e h1 h2 h3 h4 h5
 rintro i y σ H1 hi ⟨f,v,x,B,rfl,e1,Y,j,al,an,ap⟩;let⟨u,hu,rfl⟩:=cJ hi;let⟨w,b8,dm⟩:=Paired.getL A.UB hu;have il:=(bY.1 hu).1;have ca:=A.kt e1;have as:H1 u=eH (.tup<|w.map WB):=ca _ _ dm;have sJ:=uR.1<|cj b8;have sh:=sJ.Vx;let⟨T1,dn⟩:=A.told e1;let⟨pa,pb,cc,bI,bS⟩:=A.VE.kt ca;have bI:H1 pa=eH (.tup<|p.1.map WB):=bI;have bS:H1 pb=eH (.tup<|p.2.map WB):=bS;have et:(dH J0 J2 Ww Wv).take (i+1)=(dH J0 J2 Ww Wv).take i++[w]:=take_snoc b8;let⟨b0,dy⟩:=di i;have dt:=b0.Qf T2;have cd:=Paired.length j;rw[AH,b0.len,um]at cd;refine gN ⟨_,fj,_,fj,pu,_,0,_,fj,fj,bE.of cc,fj,_,fj,t,pa,u,l1,l2,l3,l4,ts,J0,J2,J3,p.1,w,ds,fj,T1,m,bI,bE.of as,sh.two,by nofun,λoa H2 ce S2=>?_⟩;apply⟨_,fj,_,fj,pu,_,1,_,fj,fj,bE.of<|S2 _ _ cc,fj,_,fj,t',pb,u,Sk,Sj,Si,R4,RH,Ww,Wv,Wu,p.2,w,gr,fj,dn.same S2,m',S2 _ _ bS,bE.of<|S2 _ _ as,sh.two,by nofun,λob H3 ch S3=>⟨(by show 2<=ak;decide),λo ho=>?_⟩⟩;let⟨H4,Wy,S4,o4⟩:=Wx (o:=.tup [.ref oa,.ref ob]) ho;rw[Wy];have a7:=S2.trans<|S3.trans S4;have fo:r_ H4 o (Qu J0 J2 J3 Ww Wv Wu ds gr p w):=⟨oa,ob,o4,S4 _ _<|S3 _ _ ce,S4 _ _ ch⟩;have no:LW (Qu J0 J2 J3 Ww Wv Wu ds gr p w)≠true->∀{H5:Hp},ab H1 H5->zI (i+1) [eH<|.ref t,eH<|.ref t',eH<|.ref gl,y3,eH<|.ref fl,eH<|.ref bd,eH<|.ref kd,y7,eH<|.ref pu,eH<|.ref SG,eH<|.ref u,eH<|.ref o] H5:=λnn H5 J=>by
  have ek:l' J0 J2 J3 Ww Wv Wu ds gr ((dH J0 J2 Ww Wv).take<|i+1) p=l' J0 J2 J3 Ww Wv Wu ds gr ((dH J0 J2 Ww Wv).take i) p:=by rw[et,vm,if_neg nn,dj]
  apply⟨f,v,_,_,fj,λb o q n=>J _ _<|e1 b o q n,J _ _ Y,?_,J _ _ al,?_,?_⟩
  .show Paired _ _ ((fU _ _<|l' _ _ _ _ _ _ _ _ (List.take _ _) _).ps.zip (fU _ _<|l' _ _ _ _ _ _ _ _ (List.take _ _) _).ss);rw[ek];exact Paired.i3 j λ_ _ r=>r.kt (ab.kt J) λ_ _ _ q=>J _ _ q
  .rw[ek];exact Paired.i3 an λ_ _ r=>r.kt<|ab.kt J
  .show _=eH (HO.dT<|zo (fU _ _<|l' _ _ _ _ _ _ _ _ (List.take _ _) _).ps);rw[ek];exact J _ _ ap
 have ba:H4 oa=eH (.tup<|(PM J0 J2 J3 ds p.1 w).map WB):=S4 _ _<|S3 _ _ ce;have bb:H4 ob=eH (.tup<|(PM Ww Wv Wu gr p.2 w).map WB):=S4 _ _ ch;apply⟨_,fj,o,_,0,_,fj,fj,bE.of o4,fj,(by show 0<=ak;decide),?_⟩;refine Hn ba λH5 J=>⟨_,fj,?_⟩;by_cases c1:PM J0 J2 J3 ds p.1 w=[]
 .rw[hH c1];exact bF<|bF<|no (λz=>(tH.1 z).1 c1)<|a7.trans J
 rw[hB c1];refine cS ⟨_,fj,o,_,1,_,fj,fj,bE.of<|J _ _ o4,fj,(by show 0<=ak;decide),?_⟩;refine Hn (J _ _ bb) λH6 S6=>⟨_,fj,?_⟩;by_cases c2:PM Ww Wv Wu gr p.2 w=[]
 .rw[hH c2];exact bF<|no (λz=>(tH.1 z).2 c2)<|a7.trans<|J.trans S6
 rw[hB c2];refine cS ?_;have nn:LW (Qu J0 J2 J3 Ww Wv Wu ds gr p w)=true:=tH.2 ⟨c1,c2⟩;have b1:=J.trans S6;have l:=a7.trans b1;have e6:AD [fl,bl,kd] G1 H6:=λb o q n=>l _ _<|e1 b o q n;have dp:=A.kt e6;have b2:=fo.kt<|ab.kt b1;have ci:=l _ _ as;have fq:=hF.Vl T2 nn;have ek:l' J0 J2 J3 Ww Wv Wu ds gr ((dH J0 J2 Ww Wv).take<|i+1) p=l' J0 J2 J3 Ww Wv Wu ds gr ((dH J0 J2 Ww Wv).take i) p++[(w,Qu J0 J2 J3 Ww Wv Wu ds gr p w)]:=by rw[et,vm,if_pos nn]
 have em:g (i+1)=(g i).add (Qu J0 J2 J3 Ww Wv Wu ds gr p w) (s++[w]):=by
  show fU _ _ (l' _ _ _ _ _ _ _ _ (List.take _ _) _)=_;rw[ek,pL]
 generalize Qu J0 J2 J3 Ww Wv Wu ds gr p w=q at fo b2 nn fq ek em;clear no fo ba bb;have dr:=Paired.length an;have dK:(l' J0 J2 J3 Ww Wv Wu ds gr ((dH J0 J2 Ww Wv).take i) p).length<=i:=by
  unfold l';refine bH (b_ _ _) ?_;rw[ag,aS];nofun
 rw[ag]at dr;have g6:qj K H6 bd (.ref pu) (eH<|.ref bl):=.inr ⟨RX,b9 p,pu,.inl<|e6 _ _ A.Ti A.VS,fj,fX.isIn 8 (cp _) (A.VE.kt dp).tk,cp _,A.VY.symm⟩;have N:=l _ _ al;apply⟨_,fj,_,fj,bd,_,fj,g6,.inl ⟨fj,_,az.of N⟩,_,fj,bl,_,_,fj,fj,N,by rw[ag];exact ao ⋯,?_⟩;have h:h_ H6 (upd H6 bl<|.lst<|v.map WC++[.ref o]):=eF N;have O:upd H6 bl (.lst<|v.map WC++[.ref o]) bl=eH (.lst<|(v++[o]).map WC):=by rw[aa,au];rfl
 have Q:∀b E,H6 b=eH E->b≠bl->upd H6 bl (.lst<|v.map WC++[.ref o]) b=eH E:=λb E q n=>by rw[ah n];exact q
 have aC:Paired (r_<|upd H6 bl<|.lst<|v.map WC++[.ref o]) (v++[o]) ((l' J0 J2 J3 Ww Wv Wu ds gr ((dH J0 J2 Ww Wv).take<|i+1) p).map (·.2)):=by
  rw[ek,au];exact eD (Paired.i3 an λ_ _ r=>(r.kt<|ab.kt l).kt h)<|b2.kt h
 generalize upd H6 bl (.lst<|v.map WC++[.ref o])=H7 at h O Q aC ⊢;have e7:AD [fl,bl,kd] G1 H7:=λb E q n=>Q _ _ (e6 b E q n) λz=>n (by rw[z];simp);have bh:H7 fl=eH (.lst<|f.map WC):=Q _ _ (l _ _ Y) b6;have G:H7 kd=eH (.dT<|zo (g i).ps):=Q _ _ (l _ _ ap) bz.symm;have a0:Paired (rS H7 [fl,bl]) f ((g i).ps.zip (g i).ss):=Paired.i3 j λ_ _ r=>r.kt (h_.trans (ab.kt l) h) λb xs n q=>Q _ _ (l _ _ q) λz=>n (by rw[z];simp);have b3:=b2.kt h;have ck:=h _ _ ci;clear Q N g6 l b1 a7 J S6 S2 S3 S4 ap Y j al e1 e6;apply⟨_,fj,_,fj,kd,_,fj,.inr ⟨_,b9 q,o,.inl G,fj,fX.isIn 8 (cp _) b3.tk,cp _,fj⟩,_,fj,?_⟩;rw[Cd];by_cases c3:q∈(g i).ps
 .rw[hH c3];have e9:g (i+1)=g i:=by rw[em];exact if_pos c3
  exact bF ⟨f,v++[o],_,_,fj,e7,bh,by rw[e9];exact a0,O,aC,by rw[e9];exact G⟩
 rw[hB c3];refine cS ?_;have lk:(zo (g i).ps).length<ak:=by unfold zo;rw[ag];exact ao ⋯
 apply⟨_,fj,_,fj,kd,_,fj,.inr ⟨_,b9 q,o,G,fj,b3.tk,cp _,lk,fj⟩,?_⟩;rw[Nf c3];have a4:h_ H7 (upd H7 kd<|.dT<|zo<|(g i).ps++[q]):=NR G;have bi:=Wz H7 kd (.dT<|zo<|(g i).ps++[q]);have T:∀b E,H7 b=eH E->b≠kd->upd H7 kd (.dT<|zo<|(g i).ps++[q]) b=eH E:=λb E q n=>by rw[ah n];exact q
 generalize upd H7 kd (.dT<|zo<|(g i).ps++[q])=H8 at a4 bi T ⊢;have e8:AD [fl,bl,kd] G1 H8:=λb E q n=>T _ _ (e7 b E q n) λz=>n (by rw[z];simp);have a5:H8 fl=eH (.lst<|f.map WC):=T _ _ bh b7;have cl:H8 SG=eH (.lst<|ws.map WC):=e8 _ _ A.VW dd;have dV:=Paired.length A.VD;have cm:=a4 _ _ ck;apply⟨_,fj,.inl ⟨fj,_,az.of a5⟩,_,fj,_,fj,_,fj,(by show 1<=ak;decide),λn1 a8=>⟨SG,n1,_,_,fj,fj,kp cl a8,aa,by rw[ag];exact cA (ao (by show _+1<=1000;nofun)),λU a6=>⟨(by show 2<=ak;decide),λe he=>?_⟩⟩⟩;have S9:ab H8 (upd (upd (upd H8 n1<|.lst [.ref u]) U<|.lst<|ws.map WC++[.ref u]) e<|.tup [.ref o,.ref U]):=((ab.new a8).trans<|ab.new a6).trans<|ab.new he;have co:upd (upd (upd H8 n1<|.lst [.ref u]) U<|.lst<|ws.map WC++[.ref u]) e (.tup [.ref o,.ref U]) U=eH (.lst<|(ws++[u]).map WC):=by rw[au];exact kp aa he
 have cs:upd (upd (upd H8 n1<|.lst [.ref u]) U<|.lst<|ws.map WC++[.ref u]) e (.tup [.ref o,.ref U]) e=eH (.tup [.ref o,.ref U]):=aa;have ct:U∉[fl,bl]:=λz=>by
  obtain z|z:=cq.1 z
  .have:=ab.new (o:=.lst [.ref u]) a8 _ _ a5;rw[z]at a6;rw[a6]at this;cases this
  .have:=ab.new (o:=.lst [.ref u]) a8 _ _<|T _ _ O bz;rw[bq.1 z]at a6;rw[a6]at this;cases this
 generalize upd (upd (upd H8 n1<|.lst [.ref u]) U<|.lst<|ws.map WC++[.ref u]) e (.tup [.ref o,.ref U])=H9 at S9 co cs ⊢;have bn:=S9 _ _ a5;apply⟨fl,_,.ref e,fj,fj,bn,by rw[ag];exact ao ⋯,?_⟩;have a9:h_ H9 (upd H9 fl<|.lst<|f.map WC++[.ref e]):=eF bn;have H:∀b E,H9 b=eH E->b≠fl->upd H9 fl (.lst<|f.map WC++[.ref e]) b=eH E:=λb E q n=>by rw[ah n];exact q
 have c0:h_ H7 H9:=h_.trans a4<|ab.kt S9;have I:=h_.trans c0 a9;apply⟨f++[e],v++[o],_,_,fj,λb E q n=>H _ _ (S9 _ _<|e8 b E q n) λz=>n (by rw[z];simp),by rw[aa,au];rfl,?_,H _ _ (S9 _ _<|T _ _ O bz) b6.symm,Paired.i3 aC λ_ _ r=>r.kt I,?_⟩
 .rw[em,Mg b0.len c3];refine eD (Paired.i3 a0 λ_ _ r=>r.kt I λb xs n q=>?_) ⟨o,U,ws++[u],a9 _ _ cs,b3.kt I,H _ _ co λz=>ct (by rw[z];simp),eD (gy.kt a9<|gy.kt (ab.kt S9)<|gy.kt (A.kt e8) A.VD)<|a9 _ _<|S9 _ _ cm,ct⟩;refine H _ _ (S9 _ _<|T _ _ q λz=>?_) λz=>n (by rw[z];simp);rw[z,G]at q;cases q
 .rw[em,show((g i).add q<|s++[w])=⟨(g i).ps++[q],(g i).ss++[s++[w]]⟩from if_neg c3];exact H _ _ (S9 _ _ bi) b7.symm
end
inductive ko(K:Za)(vs:List V)(H:Hp)(Q:VK)(E:XK):Prop
 |mk (t l1 l2 l3 l4 t' Sk Sj Si R4:Wk) (ts RH:Ze) (J0 J2 J3 Ww Wv Wu:Zb) (ds gr:List am):vs=[.ref t,.ref t']->jC H t l1 l2 l3 l4 ts J0 J2 J3 ds->jC H t' Sk Sj Si R4 RH Ww Wv Wu gr->(nC J0 J2 J3 Ww Wv Wu ds gr) ->
  (∀(u fl bd:Wk) (es:Ze) (RX:List (TK×V)) (j:Nat) (H':Hp),H' u=eH (.tup [.ref fl,.ref bd])->H' fl=eH (.lst (es.map WC))->Paired (rS H' []) es ((rk J0 J2 J3 Ww Wv Wu ds gr j).ps.zip (rk J0 J2 J3 Ww Wv Wu ds gr j).ss)->H' bd=eH (.dT RX)->(∀p∈(rk J0 J2 J3 Ww Wv Wu ds gr j).ps,C1 J0 J2 J3 Ww Wv Wu ds gr H' [] RX p)->(rk J0 J2 J3 Ww Wv Wu ds gr j).ps.length=j->(∀i<j,i<(rk J0 J2 J3 Ww Wv Wu ds gr i).ps.length)->ab H H'->Q (.ref u) H')->ko K vs H Q E
section
variable{J0 J2 J3 Ww Wv Wu:Zb}{ds gr:List am}
structure Vr(J0 J2 J3 Ww Wv Wu:Zb)(ds gr:List am)(H0 H:Hp)(gl fl bd kd:Wk)(gs es:Ze)(RX:List (TK×V))(j:Nat):Prop where
 S:ab H0 H
 TF:H fl=eH (.lst (es.map WC))
 rows:Paired (rS H [fl]) es ((rk J0 J2 J3 Ww Wv Wu ds gr j).ps.zip (rk J0 J2 J3 Ww Wv Wu ds gr j).ss)
 Ti:H bd=eH (.dT RX)
 Vc:RX.length<=j
 bh:∀i p,i<j->(rk J0 J2 J3 Ww Wv Wu ds gr j).ps[i]?=eH p->C1 J0 J2 J3 Ww Wv Wu ds gr H [fl] RX p
 Ve:H kd=eH (.dT (zo (rk J0 J2 J3 Ww Wv Wu ds gr j).ps))
 Ul:H gl=eH (.lst (gs.map WC))
 UB:gy H gs (dH J0 J2 Ww Wv)
 Va:∀i<j,i<(rk J0 J2 J3 Ww Wv Wu ds gr i).ps.length
 le:j<=(rk J0 J2 J3 Ww Wv Wu ds gr j).ps.length
theorem xX(lt:j<(rk J0 J2 J3 Ww Wv Wu ds gr j).ps.length)(a:j<(rk J0 J2 J3 Ww Wv Wu ds gr j).ss.length):rk J0 J2 J3 Ww Wv Wu ds gr (j+1)=fU ((rk J0 J2 J3 Ww Wv Wu ds gr j).ss[j]) (rk J0 J2 J3 Ww Wv Wu ds gr j) (l' J0 J2 J3 Ww Wv Wu ds gr (dH J0 J2 Ww Wv) (rk J0 J2 J3 Ww Wv Wu ds gr j).ps[j]):=by
 have e:(rk J0 J2 J3 Ww Wv Wu ds gr j).ps.getD j ([],[])=(rk J0 J2 J3 Ww Wv Wu ds gr j).ps[j]:=by rw[dP,bj lt];rfl
 have f:(rk J0 J2 J3 Ww Wv Wu ds gr j).ss.getD j []=(rk J0 J2 J3 Ww Wv Wu ds gr j).ss[j]:=by rw[dP,bj a];rfl
 rw[<-e,<-f]
 rfl
theorem ET{α β:Type}{a:List α}{b:List β}{i:Nat}(e:i<a.length)(f:i<b.length):(a.zip b)[i]?=eH (a[i],b[i]):=by
 rw[bj (by rw[AH];nofun),List.getElem_zip]
end
theorem Fv{K:Za}(h:ko K vs H Q E):xj K (pH K) (pD K) wd (bT Q) (start yE vs) H:=by
 let⟨t,l1,l2,l3,l4,t',cd,ce,ch,ci,ts,ck,J,M,y,f,g,a,B,v,rfl,T,T',T2,k⟩:=h;have m:=T2.m;have m':=T2.m';apply⟨_,fj,_,fj,t,l1,l2,l3,l4,t',cd,ce,ch,ci,ts,ck,J,M,y,f,g,a,B,v,fj,T,T',m,m',λgl gs H1 c1 c2 _ S1=>?_⟩;apply⟨_,fj,(by show 0<=ak;decide),λe1 dK=>?_⟩;have S2:=ab.new (o:=.lst []) dK;apply⟨t,e1,l1,l2,l3,l4,ts,[],[],J,M,y,B,fj,T.same<|S1.trans S2,m,aa,.nil,λfa H3 bz S3=>?_⟩;have bz:H3 fa=eH (.tup<|(hJ y B<|y.take 1).map WB):=bz;apply⟨_,fj,(by show 0<=ak;decide),λe2 dV=>?_⟩;have S4:=ab.new (o:=.lst []) dV;have cl:=S2.trans<|S3.trans S4;apply⟨t',e2,cd,ce,ch,ci,ck,[],[],f,g,a,v,fj,T'.same<|S1.trans cl,m',aa,.nil,λfb H5 bI S5=>⟨(by show 2<=ak;decide),λs0 d0=>?_⟩⟩;have bI:H5 fb=eH (.tup<|(hJ a v<|a.take 1).map WB):=bI;have S6:=ab.new (o:=.tup [.ref fa,.ref fb]) d0;have bS:r_ (upd H5 s0<|.tup [.ref fa,.ref fb]) s0 (hJ y B<|y.take 1,hJ a v<|a.take 1):=⟨fa,fb,aa,S6 _ _<|S5 _ _<|S4 _ _ bz,S6 _ _ bI⟩;generalize upd H5 s0 (.tup [.ref fa,.ref fb])=H6 at S6 bS ⊢;have b0:=cl.trans<|S5.trans S6;have aC:=S1.trans b0;have a0:=b0 _ _ c1;have b7:=gy.kt (ab.kt b0) c2;clear S1 S2 S3 S4 cl S5 S6 b0 bz bI c1 c2;apply⟨_,fj,(by show 0<=ak;decide),λst c3=>⟨(by show 2<=ak;decide),λe he=>⟨(by show 1<=ak;decide),λfl al=>?_⟩⟩⟩;have S7:ab H6 (upd (upd H6 st<|.lst []) e<|.tup [.ref s0,.ref st]):=(ab.new c3).trans<|ab.new he;have b3:upd (upd H6 st<|.lst []) e (.tup [.ref s0,.ref st]) st=eH (.lst<|([]:Ze).map WC):=kp aa he;have e7:=Wz (upd H6 st<|.lst []) e (.tup [.ref s0,.ref st]);generalize upd (upd H6 st<|.lst []) e (.tup [.ref s0,.ref st])=H7 at S7 b3 e7 al ⊢;have S8:=ab.new (o:=.lst [.ref e]) al;have cm:upd H7 fl (.lst [.ref e]) fl=eH (.lst<|([e]:Ze).map WC):=aa;have d1:st≠fl:=ae b3 al;have d2:gl≠fl:=ae (S7 _ _ a0) al;have d3:H fl=none:=(aC.trans S7).free al;generalize upd H7 fl (.lst [.ref e])=H8 at S8 cm ⊢;refine λC Ti=>?_;have S9:=ab.new (o:=.dT []) Ti;have b4:=Wz H8 C (.dT []);have d5:H C=none:=((aC.trans S7).trans S8).free Ti;generalize upd H8 C (.dT [])=H9 at S9 b4 ⊢;have b5:=S7.trans<|S8.trans S9;refine λkd an=>⟨_,fj,aa,s0,b9 (hJ y B<|y.take 1,hJ a v<|a.take 1),fj,fX.c 8 (cp _)<|(bS.kt<|(ab.kt b5).trans<|ab.kt<|ab.new an).tk,cp _,?_⟩;have ap:ab H9 (upd (upd H9 kd<|.dT []) kd<|.dT [(b9 (hJ y B<|y.take 1,hJ a v<|a.take 1),.bl true)]):=λb o q=>by rw[ah<|ae q an];exact kp q an
 have a5:upd (upd H9 kd<|.dT []) kd (.dT [(b9 (hJ y B<|y.take 1,hJ a v<|a.take 1),.bl true)]) kd=eH (.dT<|zo (rk J M y f g a B v 0).ps):=aa;have d7:H kd=none:=(aC.trans b5).free an;have c4:C≠kd:=ae b4 an;generalize upd (upd H9 kd<|.dT []) kd (.dT [(b9 (hJ y B<|y.take 1,hJ a v<|a.take 1),.bl true)])=d8 at ap a5 ⊢;have N:=b5.trans ap;have b8:=aC.trans N;have a6:=S8.trans<|S9.trans ap;have c5:Vr J M y f g a B v H d8 gl fl C kd gs [e] [] 0:=⟨b8,ap _ _<|S9 _ _ cm,.cons ⟨s0,st,[],a6 _ _ e7,bS.kt<|ab.kt N,a6 _ _ b3,.nil,by simp[d1]⟩ .nil,ap _ _ b4,aF _,λi p hi=>absurd hi<|Nat.not_lt_zero _,a5,N _ _ a0,gy.kt (ab.kt N) b7,λi hi=>absurd hi<|Nat.not_lt_zero _,cH _⟩;clear S7 b3 e7 S8 cm S9 b4 b5 ap a5 N a6 bS a0 b7 aC b8;apply⟨λn σ H'=>∃j,n=100-j/\Vs λ(es:Ze) (w:List<|TK×V) (x8 x9 a7 a8:Option V)=>σ=[eH<|.ref t,eH<|.ref t',eH<|.ref gl,eH<|.ref s0,eH<|.ref fl,eH<|.ref C,eH<|.ref kd,eH<|.int (j:Nat),x8,x9,a7,a8]/\Vr J M y f g a B v H H' gl fl C kd gs es w j,⟨100,0,fj,[e],[],_,_,_,_,fj,c5⟩,?_⟩;clear c5 c3 he al Ti an;rintro n σ G ⟨j,rfl,es,w,x8,x9,a7,a8,rfl,O⟩;have ok:=xW T2 j O.Va;have Qf:=ok.Qf T2;have d9:=Paired.length O.rows;rw[AH,ok.len,um]at d9;apply⟨_,fj,_,fj,.inl ⟨fl,_,fj,.inl<|az.of O.TF,_,_,fj,fj,_,fj,?_⟩⟩;refine NV (P:=j<es.length) (by rw[ag];simp) (λlt=>?_)<|λge=>?_;rotate_left
 .refine⟨_,fj,_,fj,(by show 2<=ak;decide),λu hu=>?_⟩;have Su:=ab.new (o:=.tup [.ref fl,.ref C]) hu;have el:(rk J M y f g a B v j).ps.length=j:=by have:=O.le;nofun
  refine k u fl C es w j _ aa (Su _ _ O.TF) (Paired.i3 O.rows λ_ _ r=>(r.kt (ab.kt Su) λ_ _ _ q=>Su _ _ q).RF λ_ _ _ _=>by simp) (Su _ _ O.Ti) (λp hp=>?_) el O.Va<|O.S.trans Su;let⟨i,hi,ei⟩:=AN hp;exact((O.bh i p ⋯ (by rw[bj hi,ei])).kt (ab.kt Su) λ_ _ _ q=>Su _ _ q).RF λ_ _ _ _=>by simp
 have as:j<(rk J M y f g a B v j).ps.length:=by nofun
 have co:j<(rk J M y f g a B v j).ss.length:=by rw[ok.len];exact as
 have en:=xX as co;let⟨e,ea,b,st,ws,h1,h2,h3,h4,h5⟩:=Paired.get O.rows<|ET as co;have hF:=ok.fc _<|fR as;have sl:=ok.sl j _<|bj co;have cs:(rk J M y f g a B v j).ps[j]?=eH (rk J M y f g a B v j).ps[j]:=bj as;dsimp only at h2 h4;generalize ef:(rk J M y f g a B v j).ps[j]=p at h2 hF cs en;generalize(rk J M y f g a B v j).ss[j]=s at h4 sl en;have da:=h2;let⟨ba,bb,hb,eg,eh⟩:=h2;apply⟨fun σ' H'=>Vs λ(es:Ze) (w:List<|TK×V) (x8 x9 a7 a8:Option V)=>σ'=[eH<|.ref t,eH<|.ref t',eH<|.ref gl,eH<|.ref s0,eH<|.ref fl,eH<|.ref C,eH<|.ref kd,eH<|.int<|(j+1:Nat),x8,x9,a7,a8]/\Vr J M y f g a B v H H' gl fl C kd gs es w (j+1),fun σ' H' zq=>⟨100-(j+1),by nofun,j+1,fj,zq⟩,?_⟩;apply⟨_,fj,_,fj,fl,_,_,.ref e,fj,fj,az.of O.TF,cO (j:=j) (by rw[bV,ea];rfl),e,_,fj,bE.of h1,fj,_,_,fj,_,_,fj,fj,?_⟩;apply⟨(by show 0<=ak;decide),λD db=>?_⟩;let⟨G1,Wy,S1,dc⟩:=Wx (o:=.lst []) db;rw[Wy];have ca:=S1 _ _ O.Ti;have lB:=O.Vc;apply⟨_,fj,_,fj,C,_,fj,.inr ⟨w,b9 p,b,ca,fj,(da.kt<|ab.kt S1).tk,cp _,ao ⋯,fj⟩,?_⟩;have dd:h_ G1 (upd G1 C<|.dT<|dR w (b9 p)<|.ref D):=NR ca;have ct:=Wz G1 C (.dT<|dR w (b9 p)<|.ref D);have a9:∀x o',G1 x=eH o'->x≠C->upd G1 C (.dT<|dR w (b9 p)<|.ref D) x=eH o':=λx o' q n=>by rw[ah n];exact q
 generalize upd G1 C (.dT<|dR w (b9 p)<|.ref D)=G2 at dd ct a9 ⊢;have Y:∀{x:Wk}{xs:List V},G x=eH (.lst xs)->G2 x=eH (.lst xs):=fun{x xs} q=>a9 _ _ (S1 _ _ q) λz=>by rw[z,O.Ti]at q;cases q
 have I:h_ G G2:=h_.trans (ab.kt S1) dd;have U:∀{x:Wk}{o:HO},G x=eH o->x≠D:=λq=>ae q db;have b6:ab H G2:=λx o' q=>a9 _ _ (S1 _ _<|O.S _ _ q) λz=>by rw[z,d5]at q;cases q
 have di:G2 D=eH (.lst []):=a9 _ _ dc (U O.Ti).symm;have dm:=a9 _ _ (S1 _ _ O.Ve) c4.symm;have lk:∀{x:Wk}{xs:List V},G x=eH (.lst xs)->x≠kd:=fun{x xs} q z=>by rw[z,O.Ve]at q;cases q
 have own:∀{x:Wk}{o:HO},H x=eH o->x∉[fl,D,kd]:=fun{x o} q z=>by
  obtain z|z:=cq.1 z
  .rw[z,d3]at q;cases q
  obtain z|z:=cq.1 z
  .exact U (O.S _ _ q) z
  .rw[bq.1 z,d7]at q;cases q
 have bi:∀{x:Wk}{xs:List V},G x=eH (.lst xs)->x≠fl->x∉[fl,D,kd]:=fun{x xs} q n z=>by
  obtain z|z:=cq.1 z
  .exact n z
  obtain z|z:=cq.1 z
  .exact U q z
  .exact lk q<|bq.1 z
 have dn:gl∉[fl,D,kd]:=bi O.Ul d2;have eb:st≠fl:=λz=>h5 (by rw[z];simp);have dp:C∉[fl,D,kd]:=λz=>by
  obtain z|z:=cq.1 z
  .have:=O.TF;rw[<-z,O.Ti]at this;cases this
  obtain z|z:=cq.1 z
  .exact U O.Ti z
  .exact c4<|bq.1 z
 have A:OR J M y f g a B v H G2 t l1 l2 l3 l4 t' cd ce ch ci gl fl C kd b st D ts ck gs ws (dR w (b9 p)<|.ref D) p s:=by
  apply⟨b6,T.same b6,T'.same b6,λx dr=>?_,Y O.Ul,gy.kt I O.UB,ct,dp,by rw[oH,if_pos rfl],da.kt I,Y h3,gy.kt I h4,⟨_,Y O.TF⟩,⟨_,di⟩,⟨_,dm⟩,U O.TF,lk O.TF,(U O.Ve).symm⟩;simp only[cq,mY,or_false]at dr;obtain rfl|rfl|rfl|rfl|rfl|rfl|rfl|rfl|rfl|rfl:=dr
  .exact own T.a1
  .exact own T.a2
  .exact own T.a3
  .exact own T.a4
  .exact own T'.a1
  .exact own T'.a2
  .exact own T'.a3
  .exact own T'.a4
  .exact dn
  .exact bi h3 eb
 have c0:Paired (rS G2 [fl,D]) es ((rk J M y f g a B v j).ps.zip (rk J M y f g a B v j).ss):=Paired.i3 O.rows λ_ _ r=>(r.RF λx xs n q z=>by
  obtain z|z:=cq.1 z
  .exact n (by rw[z];simp)
  .exact U q<|bq.1 z).kt I λ_ _ _ q=>Y q
 refine DK T2 A hF ok ⋯ (Y O.TF) c0 di dm λec us a7 a8 H' e' dt bn dx dy cc=>?_;let⟨_,pa,pb,ep,_⟩:=wo (s:=s) ok ⋯<|mz T2 hF (L:=dH J M f g);rw[<-en]at bn cc ep;have pl:=xH w (b9 p)<|.ref D;apply⟨_,fj,_,_,fj,fj,ec,dR w (b9 p)<|.ref D,_,_,_,_,fj,λx o q=>e' _ _ (b6 _ _ q)<|own q,dt,Paired.i3 bn λ_ _ r=>r.RF λx _ n _ z=>n (by rw[bq.1 z];simp),e' _ _ ct dp,by nofun,λi q hi hq=>?_,cc,e' _ _ (Y O.Ul) dn,gy.kt (A.kt e')<|gy.kt I O.UB,λi hi=>?_,by rw[ep,aA];nofun⟩
 .rw[ep,iK ⋯]at hq;by_cases ij:i=j
  .rw[ij,cs]at hq;injection hq with hq;rw[<-hq];exact⟨D,us,by rw[oH,if_pos rfl],dx,dy,by simp[(U O.TF).symm]⟩
  .obtain⟨l,ed,v1,v2,v3,v4⟩:=O.bh i q ⋯ hq;have qp:q≠p:=λz=>by
    let⟨a1,a2⟩:=bY.1 hq;let⟨b1,b2⟩:=bY.1 cs;have ne:=qC.1<|qF.1 ok.nd;obtain c|c:=Nat.lt_or_gt_of_ne ij
    .exact ne i j a1 b1 c (by rw[a2,b2,z])
    .exact ne j i b1 a1 c (by rw[a2,b2,z])
   exact⟨l,ed,by rw[oH,if_neg<|λz=>qp<|xL z];exact v1,e' _ _ (Y v2) (bi v2 λz=>v4 (by rw[z];simp)),Paired.i3 v3 λ_ _ r=>r.kt<|h_.trans I<|A.kt e',v4⟩
 .obtain c|c:=qD i j
  .exact O.Va i c
  .have:i=j:=by nofun
   rw[this];exact as
theorem JW{K:Za}(h:mO K H (b9 p) a):∃b,a=.ref b/\mN K H (b9 p) (.ref b):=by
 unfold b9 mO at h;let⟨b,m,rfl,f,e⟩:=h;unfold PN at e;let⟨n,o,rfl,g,e⟩:=e;unfold PN at e;let⟨q,i,rfl,j,e⟩:=e;unfold PN at e;subst e;let⟨r,rfl,k⟩:=xf g;let⟨s,rfl,l⟩:=xf j;apply⟨b,fj,?_⟩;unfold b9 mN;apply⟨b,_,fj,dg.sq f,?_⟩;unfold A3;apply⟨_,_,fj,wa k,?_⟩;unfold A3;apply⟨_,_,fj,wa l,?_⟩;unfold A3
 rfl
theorem JX{K:Za}(h:mO K H (b9 p)<|.ref b):mN K H (b9 p) (.ref b):=by
 let⟨a,e,h⟩:=JW h;cases e;exact h
theorem Au{α κ:Type}[DecidableEq α][DecidableEq κ]{e:α->κ}(g:∀a b,e a=e b->a=b):∀{c:List (α×Int)},(c.map (·.1)).Nodup->∀{i:Nat}{p:α×Int},c[i]?=eH p->cy (cn e c) (e p.1)=eH (.int p.2)
 |[],_,i,p,h=>by simp at h
 |x::c,f,i,p,h=>by
  rw[bL,gj]at f;show cy ((e x.1,WD x.2)::cn e c) (e p.1)=_;cases i with
  |zero=>injection h with h;rw[h,c8 rfl]
  |succ i =>
   have h:c[i]?=eH p:=by simpa using h
   rw[cU (λz=>f.1 (by rw[g _ _ z];exact eC<|cj h))];exact Au g f.2 h
section
variable{J0 J2 J3 Ww Wv Wu:Zb}{ds gr:List am}
theorem K4:∀x∈L,x.2∈(fU s m L).ps:=by
 have f:∀n,n<=L.length->∀x∈L.take n,x.2∈(fU s m<|L.take n).ps:=by
  intro n
  induction n with
  |zero=>intro _ x hx;cases hx
  |succ n g =>
   intro i x hx;have h:L[n]?=eH L[n]:=bj ⋯;rw[take_snoc h]at hx ⊢;rw[pL];let⟨a,b,e,_⟩:=(fU s m<|L.take n).grow L[n].2<|s++[L[n].1];obtain z|z:=bt.1 hx
   .rw[e];exact cE _ (g ⋯ x z)
   .rw[bq.1 z];by_cases c:L[n].2∈(fU s m<|L.take n).ps
    .rw[show zD.add _ L[n].2 _=_ from if_pos c];exact c
    .rw[show zD.add _ L[n].2 _=_ from if_neg c];exact dh _ cT
 have:=f L.length<|aF _;rw[aX]at this;exact this
theorem tN(T:nC J0 J2 J3 Ww Wv Wu ds gr)(i:Nat):∀d,(∀x<i+d,x<(rk J0 J2 J3 Ww Wv Wu ds gr x).ps.length)->∃a,(rk J0 J2 J3 Ww Wv Wu ds gr<|i+d).ps=(rk J0 J2 J3 Ww Wv Wu ds gr i).ps++a
 |0,_=>⟨[],(dj _).symm⟩
 |d+1,h=>by
  let⟨a,e⟩:=tN T i d λx hx=>h x ⋯;have ok:=xW T (i+d) λx hx=>h x ⋯;have lt:=h (i+d) ⋯;have f:i+d<(rk J0 J2 J3 Ww Wv Wu ds gr<|i+d).ss.length:=by rw[ok.len];exact lt
  let⟨_,j,_,g,_⟩:=wo (s:=(rk J0 J2 J3 Ww Wv Wu ds gr<|i+d).ss[i+d]) ok (qM (ok.sl _ _<|bj f) lt)<|mz T (ok.fc _<|fR lt) (L:=dH J0 J2 Ww Wv);rw[<-xX lt f]at g;exact⟨a++j,by show(rk _ _ _ _ _ _ _ _<|i+d+1).ps=_;rw[g,e,dQ]⟩
theorem Lf(T:nC J0 J2 J3 Ww Wv Wu ds gr)(f:∀i<j,i<(rk J0 J2 J3 Ww Wv Wu ds gr i).ps.length)(s:(rk J0 J2 J3 Ww Wv Wu ds gr j).ps.length=j):∀p∈(rk J0 J2 J3 Ww Wv Wu ds gr j).ps,∀q∈Qh J0 J2 J3 Ww Wv Wu ds gr p,q∈(rk J0 J2 J3 Ww Wv Wu ds gr j).ps:=λp k q l=>by
 let⟨i,hi,m⟩:=AN k;have n:i<j:=by nofun
 have lt:=f i n;have ok:=xW T i λx hx=>f x ⋯;have o:i<(rk J0 J2 J3 Ww Wv Wu ds gr i).ss.length:=by rw[ok.len];exact lt
 let⟨a,e⟩:=tN T i (j-i) λx hx=>f x ⋯;let⟨a2,g⟩:=tN T (i+1) (j-(i+1)) λx hx=>f x ⋯;rw[show i+(j-i)=j by nofun]at e;rw[show i+1+(j-(i+1))=j by nofun]at g;have r:(rk J0 J2 J3 Ww Wv Wu ds gr i).ps[i]=p:=by
  have h:(rk J0 J2 J3 Ww Wv Wu ds gr j).ps[i]?=eH p:=by rw[bj hi,m]
  rw[e,iK lt,bj lt]at h;injection h
 let⟨x,hx,rfl⟩:=ar.1 l;rw[g];refine cE _ ?_;rw[xX lt o,r];exact K4 x hx
theorem Jr(T:nC J0 J2 J3 Ww Wv Wu ds gr)(n:Nat):((qg (Qh J0 J2 J3 Ww Wv Wu ds gr) (hJ J3 ds<|J3.take 1,hJ Wu gr<|Wu.take 1) n).map (·.2)).sum=SF (cX J0 J2 Ww Wv) (J2++Wv) (bP J3 Wu) (n_ ds gr J2 Wv J3 Wu<|aG J0 J2 Ww Wv) n:=by
 unfold SF;rw[rL T.m T.m'];have:=FV (f:=rB J3 Wu) (P:=t3 J3 Wu ds gr) (λa b h i e=>Hb h i e) (sA:=Qh J0 J2 J3 Ww Wv Wu ds gr) (sB:=RG (cX J0 J2 Ww Wv) (J2++Wv) (bP J3 Wu)<|n_ ds gr J2 Wv J3 Wu<|aG J0 J2 Ww Wv) (λa h=>⟨λg j=>by let⟨x,hx,rfl⟩:=ar.1 j;exact mz T h x hx,JO T h⟩) (o9 T) n;rw[show k7 J3 Wu (hJ J3 ds<|J3.take 1) (hJ Wu gr<|Wu.take 1)=rB J3 Wu (hJ J3 ds<|J3.take 1,hJ Wu gr<|Wu.take 1)from rfl,this,eZ]
 rfl
end
inductive kr(K:Za)(vs:List V)(H:Hp)(Q:VK)(E:XK):Prop
 |mk (u bd:Wk) (RX:List (TK×V)) (n:Nat) (p0:iD) (PS:List iD) (J0 J2 J3 Ww Wv Wu:Zb) (ds gr:List am):(vs=[.ref u,.ref bd,.int (n:Nat)])->r_ H u p0->H bd=eH (.dT RX)->(∀p∈PS,C1 J0 J2 J3 Ww Wv Wu ds gr H [] RX p)->p0∈PS->(∀p∈PS,∀q∈Qh J0 J2 J3 Ww Wv Wu ds gr p,q∈PS)->PS.length<=64->n<=1000->(∀H',ab H H'->Q (.int ((qg (Qh J0 J2 J3 Ww Wv Wu ds gr) p0 n).map (·.2)).sum) H')->kr K vs H Q E
theorem Fz{K:Za}(h:kr K vs H Q E):yV K (bT Q) (start zK vs) H:=by
 let⟨u,M,bz,n,x,PS,J0,J2,J3,U,Y,I,ds,bI,rfl,fp,bS,bh,b0,A,Qf,hn,k⟩:=h;generalize hw:Qh J0 J2 J3 U Y I ds bI=wf at k A;have inj:∀a b,b9 a=b9 b->a=b:=λ_ _ z=>xL z;have b1:∀i,fZ (·∈PS) (qg wf x i):=λi=>fZ.it A b0 i;have a0:∀{c:List (iD×Int)},fZ (·∈PS) c->c.length<=64:=fun{c} h=>by
  have:=j6 h.nd (R:=PS) λf hf=>by let⟨p,hp,rfl⟩:=ar.1 hf;exact h.all p hp
  rw[ag]at this;nofun
 refine λr J=>⟨_,fj,aa,u,b9 x,fj,fX.c 8 (cp _) (fp.kt<|ab.kt<|ab.new J).tk,cp _,?_⟩;have S1:ab H (upd (upd H r<|.dT []) r<|.dT [(b9 x,.int 1)]):=λb o q=>by rw[ah<|ae q J];exact kp q J
 have a4:upd (upd H r<|.dT []) r (.dT [(b9 x,.int 1)]) r=eH (.dT<|cn b9<|qg wf x 0):=aa;generalize upd (upd H r<|.dT []) r (.dT [(b9 x,.int 1)])=H1 at S1 a4 ⊢;apply⟨_,fj,(n:Int),fj,by nofun,by nofun,?_⟩
 let zI:Nat->L2.St->Hp->Prop:=λi σ H'=>VI λ(r:Wk) (x4 x5 x6 D:Option V)=>Mb (σ=[eH<|.ref u,eH<|.ref M,eH<|.int (n:Nat),eH<|.ref r,x4,x5,x6,D]) (H' r=eH (.dT<|cn b9<|qg wf x i)) (H r=none)<|ab H H'
 refine j_ (lo:=0) (n:=(n:Int).toNat) zI ⟨r,_,_,_,_,fj,a4,J,S1⟩ ?_ ?_
 .rintro i σ N hi ⟨r,x4,x5,x6,D,rfl,B,al,S2⟩;refine λld an=>?_;have S3:=ab.new (o:=.dT []) an;have b2:=Wz N ld (.dT []);have a5:=S3 _ _ B;have ck:=b1 i;have e1:qg wf x (i+1)=OO wf (qg wf x i):=rfl;have a6:∀(ld:Wk) (y6 y7:Option V) (H':Hp),H' ld=eH (.dT<|cn b9<|OO wf<|qg wf x i)->H ld=none->ab H H'->zI (i+1) [eH<|.ref u,eH<|.ref M,eH<|.int (n:Nat),eH<|.ref ld,eH<|.int<|0+(i:Nat),eH<|.ref ld,y6,y7] H':=λld y6 y7 H' h1 h2 h3=>⟨ld,_,_,_,_,fj,by rw[e1];exact h1,h2,h3⟩;generalize qg wf x i=c at B a5 ck a6;have b3:r≠ld:=ae B an;have a7:H ld=none:=S2.free an;apply⟨_,fj,r,_,fj,.inl ⟨a5,λo=>?_⟩⟩;have a8:=Wz (upd N ld<|.dT []) r (.oI o<|.dT<|cn b9 c);have a9:upd (upd N ld<|.dT []) r (.oI o<|.dT<|cn b9 c) ld=eH (.dT<|cn b9 []):=by rw[ah b3.symm];exact b2
  have S4:ab H (upd (upd N ld<|.dT []) r<|.oI o<|.dT<|cn b9 c):=λb q e=>by rw[ah<|ae e al];exact S3 _ _<|S2 _ _ e
  generalize upd (upd N ld<|.dT []) r (.oI o<|.dT<|cn b9 c)=H4 at a8 a9 S4 ⊢;have el:(cn b9 c).length=c.length:=by unfold cn;rw[ag]
  have ap:∀j,fZ (·∈PS) ((c.take j).foldl (λm p=>(wf p.1).foldl (λm g=>kj m g p.2) m) []):=λj=>fZ.on A (λp hp=>ck.all p<|gK hp) .nil
  let zJ:Nat->L2.St->Hp->Prop:=λj σ H'=>JG λ(x6 D:Option V)=>Mb (σ=[eH<|.ref u,eH<|.ref M,eH<|.int (n:Nat),eH<|.ref r,eH<|.int<|0+(i:Nat),eH<|.ref ld,x6,D]) (H' r=eH (.oI o<|.dT<|cn b9 c)) (H' ld=eH (.dT<|cn b9<|(c.take j).foldl (λm p=>(wf p.1).foldl (λm g=>kj m g p.2) m) []))<|ab H H'
  refine Jh zJ ⟨_,_,fj,a8,a9,S4⟩ (λj σ H' _ zq=>by let⟨_,_,_,h,_⟩:=zq;exact h) ?_ ?_;rotate_left
  .rintro σ H5 ⟨x6,D,rfl,ba,G,S5⟩;rw[el,aX]at G;exact⟨_,fj,a6 ld _ _ H5 G a7 S5⟩
  rintro j σ H5 a b hj ⟨x6,D,rfl,ba,G,S5⟩ ⟨b4,ek,as⟩;unfold cn at ek;rw[bV]at ek;let⟨s,aC,b5⟩:=mU.1 ek;cases b5;let⟨L,rfl,b6⟩:=JW as;clear b6;have bb:=ck.all s<|cj aC;let⟨l,us,v1,v2,v3,_⟩:=bh s.1 bb;rw[hw]at v3;have O:=ap j;have e2:(c.take<|j+1).foldl (λm p=>(wf p.1).foldl (λm g=>kj m g p.2) m) []=(wf s.1).foldl (λm g=>kj m g s.2) ((c.take j).foldl (λm p=>(wf p.1).foldl (λm g=>kj m g p.2) m) []):=by
   rw[take_snoc aC,mV];rfl
  have fin2:∀(y7:Option V) (H':Hp),H' r=eH (.oI o<|.dT<|cn b9 c)->H' ld=eH (.dT<|cn b9<|(wf s.1).foldl (λm g=>kj m g s.2)<|(c.take j).foldl (λm p=>(wf p.1).foldl (λm g=>kj m g p.2) m) [])->ab H H'->zJ (j+1) [eH<|.ref u,eH<|.ref M,eH<|.int (n:Nat),eH<|.ref r,eH<|.int<|0+(i:Nat),eH<|.ref ld,eH<|.ref L,y7] H':=λy7 H' h1 h2 h3=>⟨_,_,fj,h1,by rw[e2];exact h2,h3⟩;generalize(c.take j).foldl (λm p=>(wf p.1).foldl (λm g=>kj m g p.2) m) []=m at G O fin2;have g1:qj K H5 M (.ref L) (eH<|.ref l):=.inr ⟨bz,b9 s.1,L,.inl<|S5 _ _ bS,fj,JX as,cp _,v1.symm⟩;refine gN ⟨_,fj,_,fj,M,_,fj,g1,l,fj,⟨_,az.of<|S5 _ _ v2⟩,?_⟩;have bi:∀q,fZ (·∈PS) (((wf s.1).take q).foldl (λm g=>kj m g s.2) m):=λq=>O.ups λg hg=>A _ bb g<|gK hg
  let zL:Nat->L2.St->Hp->Prop:=λq σ H'=>JG λ(D:Option V) (_:Unit)=>Ma (σ=[eH<|.ref u,eH<|.ref M,eH<|.int (n:Nat),eH<|.ref r,eH<|.int<|0+(i:Nat),eH<|.ref ld,eH<|.ref L,D]) (H' r=eH (.oI o<|.dT<|cn b9 c)) (H' ld=eH (.dT<|cn b9<|((wf s.1).take q).foldl (λm g=>kj m g s.2) m)) (ab H H')<|mO K H' (b9 s.1)<|.ref L
  refine cb (xs:=us.map WC) zL ⟨_,(),fj,ba,G,S5,as⟩ (λq σ H' _ zq=>by let⟨_,_,_,_,_,S,_⟩:=zq;exact az.of<|S _ _ v2) ?_ ?_;rotate_left
  .rintro σ H6 ⟨D,_,rfl,C,t,S6,_⟩;rw[ag,Paired.length v3,aX]at t;exact fin2 _ H6 C t S6
  rintro q y σ H6 hq ⟨D,_,rfl,C,t,S6,bl⟩;let⟨w,b7,rfl⟩:=cJ hq;let⟨g,hg,b8⟩:=Paired.getL v3 b7;have fg:=b8.kt<|ab.kt S6;have e3:((wf s.1).take<|q+1).foldl (λm g=>kj m g s.2) m=kj (((wf s.1).take q).foldl (λm g=>kj m g s.2) m) g s.2:=by
   rw[take_snoc hg,mV];rfl
  have bn:=bi q;have T:∀(H':Hp),H' r=eH (.oI o<|.dT<|cn b9 c)->H' ld=eH (.dT<|cn b9<|kj (((wf s.1).take q).foldl (λm g=>kj m g s.2) m) g s.2)->ab H H'->mO K H' (b9 s.1) (.ref L)->zL (q+1) [eH<|.ref u,eH<|.ref M,eH<|.int (n:Nat),eH<|.ref r,eH<|.int<|0+(i:Nat),eH<|.ref ld,eH<|.ref L,eH<|.ref w] H':=λH' h1 h2 h3 h4=>⟨_,(),fj,h1,by rw[e3];exact h2,h3,h4⟩;generalize((wf s.1).take q).foldl (λm g=>kj m g s.2) m=acc' at t bn T;have g2:qj K H6 ld (.ref w) (cy (cn b9 acc')<|b9 g):=.inr ⟨_,b9 g,w,.inl t,fj,fX.isIn 8 (cp _) fg.tk,cp _,fj⟩;have g3:qj K H6 r (.ref L) (eH<|.int s.2):=.inr ⟨_,b9 s.1,L,.inr ⟨o,C⟩,fj,JX bl,cp _,(Au inj ck.nd aC).symm⟩;refine gN ⟨_,fj,ld,fj,.inr ⟨_,.inl t⟩,_,fj,_,g2,?_⟩;rw[En inj];have fw:=a0 bn;apply⟨_,fj,_,fj,r,_,fj,g3,_,_,fj,fj,_,fj,_,fj,ld,_,fj,.inr ⟨_,b9 g,w,t,fj,fg.tk,cp _,?_,fj⟩,?_⟩
  .unfold cn;rw[ag];exact ao ⋯
  rw[Em inj];refine T _ ?_ aa (λb q e=>by rw[ah<|ae e a7];exact S6 _ _ e) ?_
  .rw[ah (λz=>by rw[z,t]at C;cases C)];exact C
  .exact mO.keeps (NR t) 8 (cp _) bl
 .rintro σ N ⟨r,x4,x5,x6,D,rfl,B,al,S2⟩;rw[gM]at B;apply⟨_,fj,r,_,λi=>((qg wf x n).getD i (([],[]),0)).2,fj,λi b4 v e=>?_,.inl ⟨B,λo=>?_⟩⟩
  .unfold cn at e;rw[bV]at e;let⟨p,hp,ep⟩:=mU.1 e;cases ep;show WD p.2=WD ((qg wf x n).getD i (([],[]),0)).2;rw[dP,hp];rfl
  .have e:preSum (λi=>((qg wf x n).getD i (([],[]),0)).2) (cn b9<|qg wf x n).length=((qg wf x n).map (·.2)).sum:=by
    unfold cn;rw[ag,preSum_eq _ _ (λi p hp=>by rw[dP,hp];rfl)]
   rw[e];exact k _ λb q w=>by rw[ah<|ae w al];exact S2 _ _ w
theorem Fo:q7 a e f g []=[]:=wH.2 λp h z=>by
 let⟨i,_,rfl⟩:=ar.1 h;exact absurd HJ<|of_decide_eq_true z
theorem Ea:∀j,(wy A S R D j).2.length=j
 |0=>rfl
 |j+1=>by
  show((wy A S R D j).2++[_]).length=j+1;rw[aA,Ea j];rfl
theorem D_(h:(wy A S R D i).1.fs.length<=i):∀k,(wy A S R D<|i+k).1=(wy A S R D i).1
 |0=>rfl
 |k+1=>by
  have a:=D_ h k;show(fe _ (wy A S R D<|i+k).1<|q7 A S R D<|(wy A S R D<|i+k).1.fs.getD (wy A S R D<|i+k).2.length []).1=_;have e:(wy A S R D i).1.fs.getD (i+k) []=[]:=by rw[dP,ig ⋯];rfl
  rw[a,Ea<|i+k,e,Fo];rfl
theorem Oy(h:(wy A S R D j).1.fs.length=j)(i:Nat)(hi:i<j):i<(wy A S R D i).1.fs.length:=by
 refine Nat.lt_of_not_le λz=>?_;have:=D_ z<|j-i;rw[show i+(j-i)=j by nofun]at this;rw[this]at h;nofun
theorem Ox:∀j,∀s∈(wy A S R D j).1.ss,∀x∈s,x∈cW A S:=by
 have add:∀{m:ie}{f:Zb}{s:List Sg},(∀s∈m.ss,∀x∈s,x∈cW A S)->(∀x∈s,x∈cW A S)->∀t∈(m.add f s).ss,∀x∈t,x∈cW A S:=fun{m f s} k h=>by
  by_cases c:f∈m.fs
  .rw[ie.Qv c];exact k
  .rw[ie.C' c];intro t ht;obtain ht|ht:=bt.1 ht
   .exact k t ht
   .rw[bq.1 ht];exact h
 intro j
 induction j with
 |zero=>exact add (m:=⟨[],[]⟩) (s:=[]) (λ_ z=>nomatch z)<|λ_ z=>nomatch z
 |succ j a =>
  show ∀s∈(L' A S R D<|wy A S R D j).1.ss,_;unfold L';have l:∀x∈(wy A S R D j).1.ss.getD (wy A S R D j).2.length [],x∈cW A S:=by
   rw[dP];cases e:(wy A S R D j).1.ss[(wy A S R D j).2.length]? with
   |none=>exact λ_ z=>nomatch z
   |some s=>exact a s<|cj e
  have o:∀p∈q7 A S R D ((wy A S R D j).1.fs.getD (wy A S R D j).2.length []),p.1∈cW A S:=λp g=>by
   let⟨u,q,rfl⟩:=ar.1 (bW.1 g).1;exact q
  generalize(wy A S R D j).1.ss.getD (wy A S R D j).2.length []=r at l ⊢;generalize q7 A S R D ((wy A S R D j).1.fs.getD (wy A S R D j).2.length [])=L at o ⊢;generalize(wy A S R D j).1=m at a ⊢;have i:∀n,n<=L.length->∀s∈(fe r m<|L.take n).1.ss,∀x∈s,x∈cW A S:=by
   intro n
   induction n with
   |zero=>intro _;exact a
   |succ n a =>
    intro v;have g:L[n]?=eH L[n]:=bj ⋯;rw[take_snoc g,iZ];refine add (a ⋯) λx hx=>?_;obtain z|z:=bt.1 hx
    .exact l x z
    .rw[bq.1 z];exact o _<|fR _
  have:=i L.length<|aF _;rw[aX]at this;exact this
inductive jR(K:Za)(C Cm:Wk)(vs:List V)(H:Hp)(Q:VK)(E:XK):Prop
 |mk (x M fa sa na ta:Wk) (us ws:Ze) (m:ie) (n:Nat) (J0 J2 J3:Zb) (ds:List am):(vs=[.ref x,.int (n:Nat)])->mf K C H x M fa sa na ta us ws m->bf Cm H M J0 J2 J3 ds->Good J3 m->(R:List (List Ws))->CY J0 J2 J3 ds R->(∀f∈m.fs,f∈R)->n<m.fs.length->((∃vs,H ta=eH (.lst vs)))->(∀(d:Wk) (UO UN:Ze) (H':Hp),mf K C H' x M fa sa na ta UO UN (fe (m.ss.getD n []) m (q7 J0 J2 J3 ds (m.fs.getD n []))).1->H' d=eH (.dT (stK (fe (m.ss.getD n []) m (q7 J0 J2 J3 ds (m.fs.getD n []))).2))->H d=none->AD [fa,sa,na] H H'->Q (.ref d) H')->jR K C Cm vs H Q E
theorem BU{K:Za}(c:FC K C)(h:jR K C Cm vs H Q E):lY K (nc Cm) C (oU K C) (bT Q) (start me vs) H:=by
 let⟨x,M,fa,sa,na,ta,us,ws,m,n,J0,J2,T,ds,rfl,F,MA,gd,R,hr,mR,hn,⟨as,v⟩,k⟩:=h;have cs:=MA.ok.vr;have b1:m.fs[n]?=eH m.fs[n]:=bj hn;have aC:n<m.ss.length:=by rw[gd.len];exact hn
 have I:m.ss[n]?=eH m.ss[n]:=bj aC;have ef:m.fs.getD n []=m.fs[n]:=by simp[hn]
 have es:m.ss.getD n []=m.ss[n]:=by simp[aC]
 rw[ef,es]at k;have hF:=gd.Vd m.fs[n]<|fR _;have c0:=hF.len;let⟨u,hu,b2⟩:=Paired.get F.faces b1;let⟨w,hw,c1,c2⟩:=Paired.get F.Qa I;have c3:yP (ws.map WC) n=eH (.ref w):=cO (by rw[bV,hw];rfl);have b3:yP (us.map WC) n=eH (.ref u):=cO (by rw[bV,hu];rfl);refine λd hd=>?_;have S0:=ab.new (o:=.dT []) hd;have F0:=F.same S0;let⟨dx,fs,g,l1,l2,l3,l4,l5,l6,l7⟩:=F0.ob;apply⟨_,fj,x,C,dx,fs,.ref M,fj,g,c.cls,c.a1,l1,_,fj,x,C,dx,fs,.ref fa,fj,g,c.cls,c.a2,l2,_,fj,fa,_,_,_,fj,fj,az.of F0.Ta,b3,M,u,m.fs[n],J0,J2,T,ds,fj,MA.same S0,S0 _ _ b2,hF.sub,by nofun,λD j U Y st y S1=>?_⟩;have F1:=F0.same S1;have a0:D≠d:=λz=>by rw[z,aa]at y;cases y
 have fr:∀{b:Wk}{o:HO},H b=eH o->b≠D:=λe=>ae (S0 _ _ e) y;have A:∀{b:Wk}{o:HO},H b=eH o->b≠d:=λe=>ae e hd;let⟨c4,c5,gx,_⟩:=F.ob;apply⟨D,j,fj,.inl ⟨Y,λo=>?_⟩⟩;have F2:=F1.move (o:=.oI o<|.dT j) Y<|dA<|fr F.S_;have J:h_ U (upd U D<|.oI o<|.dT j):=NR Y;have d2:upd U D (.oI o<|.dT j) d=eH (.dT []):=by rw[ah a0.symm];exact S1 _ _ aa
 have a4:upd U D (.oI o<|.dT j) ta=eH (.lst as):=by rw[ah<|fr v];exact S1 _ _<|S0 _ _ v
 have f2:=Wz U D (.oI o<|.dT j);have a5:∀b o',H b=eH o'->upd U D (.oI o<|.dT j) b=eH o':=λb o' e=>by rw[ah<|fr e];exact S1 _ _<|S0 _ _ e
 have al:=st.kt J;generalize upd U D (.oI o<|.dT j)=H2 at F2 J d2 a4 f2 al a5 ⊢;have a6:∀p∈q7 J0 J2 T ds m.fs[n],p.2∈R:=z_ hr<|mR _<|fR _;have a7:∀p∈q7 J0 J2 T ds m.fs[n],mP T p.2:=xB hF;have zL:(q7 J0 J2 T ds m.fs[n]).length<=9:=by
  have z1:=MA.ok.B';have z2:=MA.ok.A2;refine bH (G6 (L:=cW J0 J2)) ?_;unfold cW;rw[aA,aA,ag,ag];show _+1<=9;nofun
 have a8:=BP (J7:=m.fs[n]) MA.ok;generalize q7 J0 J2 T ds m.fs[n]=L at st al a7 a6 a8 zL k ⊢;have gq:∀i,Good T (fe m.ss[n] m<|L.take i).1/\tZ m (fe m.ss[n] m<|L.take i).1:=λi=>by
  let⟨h1,h2,_⟩:=Aj (s:=m.ss[n]) gd (by have:=gd.sl _ _ I;nofun) (L.take i) λp hp=>a7 p<|gK hp;exact⟨h1,h2⟩
 have b4:fa≠d:=A F.Ta;have b5:sa≠d:=A F.Tw;have a9:na≠d:=A F.S_;refine As (λi σ H'=>OS λ(B t:Ze) (x3 x4:Option V)=>Ma (σ=[eH<|.ref x,eH<|.int (n:Nat),eH<|.ref d,x3,x4]) (mf K C H' x M fa sa na ta B t (fe m.ss[n] m<|L.take i).1) (H' d=eH (.dT<|stK (fe m.ss[n] m<|L.take i).2)) (AD [fa,sa,na,d] H2 H')<|h_ H2 H')
  ⟨us,ws,_,_,fj,F2,d2,.refl _ _,λ_ _ e=>e⟩ ?_ ?_ ?_
 .rintro i σ H' _ ⟨_,_,_,_,_,_,_,ex,_⟩;exact ex _ _ f2 (by simp[dA<|fr F.Ta,dA<|fr F.Tw,dA<|fr F.S_,a0])
 .rintro i σ G p a b hi ⟨B,t,x3,x4,rfl,N,d3,Sf,an⟩ hp ⟨da,ek,b6⟩;let⟨pr,ap,rfl,uf,rfl,b7⟩:=Paired.getL al ek;let⟨f,rfl,O⟩:=xf b6;let⟨b8,ca⟩:=gq i;let⟨z1,z2⟩:=b8.Tb hr<|Hl mR λp hp=>a6 p<|gK hp;let⟨w',cc,ct,gs,cd,ba⟩:=Paired.get N.Qa<|ca.atS I;have bb:yP (t.map WC) n=eH (.ref w'):=cO (by rw[bV,cc];rfl);let⟨H4,Wy,Sp,bd⟩:=Wx (o:=.tup [.ref f,.ref uf]) hp;rw[Wy];apply⟨p,_,fj,bE.of bd,fj,_,_,fj,_,_,fj,fj,?_⟩;have F4:=N.same Sp;let⟨bh,bi,g4,m1,m2,m3,m4,m5,m6,m7⟩:=F4.ob;have ce:=Sp _ _ cd;apply⟨_,fj,x,bh,bi,fj,g4,m6,_,fj,_,fj,x,C,bh,bi,.ref sa,fj,g4,c.cls,c.a3,m3,_,fj,sa,_,_,_,fj,fj,az.of F4.Tw,bb,_,fj,(by show 1<=ak;decide),λll ch=>?_⟩;let⟨H5,Wy,Sl,bl⟩:=Wx (o:=.lst [.ref f]) ch;rw[Wy];have zw:gs.length<=400:=by rw[Paired.length ba];have:=gd.sl _ _ I;have:=gd.TJ hr mR;nofun
  apply⟨w',ll,_,_,fj,fj,Sl _ _ ce,bl,(by rw[ag];exact cA (ao (by show _+1<=1000;nofun))),λp2 bn=>?_⟩;have S2:=ab.new (o:=.lst<|gs.map WC++[.ref f]) bn;have bz:upd H5 p2 (.lst<|gs.map WC++[.ref f]) p2=eH (.lst<|(gs++[f]).map WC):=by rw[aa,au];rfl
  generalize upd H5 p2 (.lst<|gs.map WC++[.ref f])=H6 at S2 bz ⊢;have l:ab G H6:=(Sp.trans Sl).trans S2;have F6:=N.same l;have ci:G ta=eH (.lst as):=Sf _ _ a4 (by simp[F.ne.2.1.symm,F.ne.2.2.symm,A v];exact λz=>by rw[z,F.S_]at v;cases v);have np:∀{b:Wk}{o:HO},G b=eH o->p2≠b:=λe=>dA<|ae (Sl _ _<|Sp _ _ e) bn;have ck:j3 K H6 p2 (m.ss[n]++[pr.1]):=⟨gs++[f],bz,eD (Paired.i3 ba λ_ _ r=>dg.kt (ab.kt l) r)<|dg.kt (ab.kt l) O⟩;apply⟨x,M,fa,sa,na,ta,uf,p2,B,t,_,pr.2,m.ss[n]++[pr.1],fj,F6,l _ _<|an _ _ b7,ck,⟨np N.Ta,np N.Tw,np ci⟩,z1,z2,λbI bS H7 F7 e7=>?_⟩;have cl:=F6.Sf e7;have b0:h_ G H7:=(ab.kt l).trans cl;have d7:H7 d=eH (.dT<|stK (fe m.ss[n] m<|L.take i).2):=e7 _ _ (l _ _ d3) b4.symm b5.symm a9.symm;have cm:cy (stK (fe m.ss[n] m<|L.take i).2) (j9 pr.1)=none:=by
   refine Bx λkv co e=>?_;let⟨q,hq,rfl⟩:=ar.1 co;have h1:q.1∈(L.take i).map (·.1):=by rw[<-Ai m.ss[n] m];exact eC hq
   rw[k_ e,List.map_take]at h1;exact tJ a8 (by rw[bV,ap];rfl) h1
  have l7:(stK (fe m.ss[n] m<|L.take i).2).length<ak:=by
   have h1:=congrArg List.length<|Ai m.ss[n] m<|L.take i;rw[ag,ag,aS]at h1;unfold stK;rw[ag,h1];exact ao ⋯
  apply⟨_,fj,_,fj,d,f,_,j9 pr.1,fj,fj,d7,xg<|dg.kt b0 O,fG _,l7,bI,bS,_,_,fj,?_,?_,?_,?_⟩
  .rw[take_snoc ap,iZ];exact F7.move d7<|dA a9
  .rw[aa,jx _ cm,take_snoc ap,iZ];show _=eH (HO.dT<|stK<|(fe m.ss[n] m<|L.take i).2++[_]);unfold stK;rw[au]
   rfl
  .exact(Sf.trans<|ab.Vi l).trans ((e7.Vi ⟨by simp,by simp,by simp⟩).trans (AD.upd ∅))
  .exact(an.trans b0).trans<|NR d7
 .rintro σ G ⟨B,t,x3,x4,rfl,N,d3,Sf,an⟩;rw[Paired.length st,aX]at N d3;apply⟨_,fj,k d B t G N d3 hd λb o' e nb=>Sf _ _ (a5 _ _ e) ?_⟩;simp at nb ⊢;exact⟨nb.1,nb.2.1,nb.2.2,A e⟩
inductive kq(K:Za)(C Cm:Wk)(vs:List V)(H:Hp)(Q:VK)(E:XK):Prop
 |mk (H0:Hp) (x dx M:Wk) (J0 J2 J3:Zb) (ds:List am):vs=[.ref x,.ref M]->H x=eH (.ins C dx [])->bf Cm H0 M J0 J2 J3 ds->H0 x=none->ab H0 H->(R:List (List Ws))->CY J0 J2 J3 ds R->(∀(fa sa na ta:Wk) (us ws ts:Ze) (S:EL) (j:Nat) (H':Hp),mf K C H' x M fa sa na ta us ws S.1->H' ta=eH (.lst (ts.map WC))->wx H0 na H' ts S.2->GG J0 J2 J3 ds S->S.2.length=S.1.fs.length->S=wy J0 J2 J3 ds j->S.2.length=j->ab H0 H'->Q .zr H')->kq K C Cm vs H Q E
theorem Fy{K:Za}(c:FC K C)(h:kq K C Cm vs H Q E):rj K C (jR K C Cm) (oU K C) (fF Cm) (bT Q) (start rZ vs) H:=by
 let⟨H0,x,dx,M,a,f,g,i,rfl,hx,MA,cd,S0,R,hr,k⟩:=h;have up:∀{H1 H2:Hp}{o:HO},ab H0 H1->H2=upd H1 x o->ab H0 H2:=λS e b o q=>by rw[e,ah<|ae q cd];exact S _ _ q
 apply⟨_,fj,_,fj,x,C,dx,[],fj,hx,c.cls,c.a1,Wt,?_⟩;let⟨H1,e1,N,X1⟩:=uW "machine" (.ref M) hx;rw[<-e1];have S1:=up S0 e1;have a8:(dF ("machine":Ws) (.ref M) []).length<=1:=fC _ _ _;apply⟨(by show 0<=ak;decide),λfa y=>⟨_,fj,x,C,dx,_,fj,kp N y,c.cls,c.a2,by nofun,?_⟩⟩;let⟨H2,e2,O,X2⟩:=uW "faces" (.ref fa)<|kp (x:=.lst []) N y;rw[<-e2];have S2:=up (S1.trans<|ab.new y) e2;have nf:fa≠x:=(ae N y).symm;have an:=X2 _ _ aa nf;have a9:=fC ("faces":Ws) (.ref fa)<|dF ("machine":Ws) (.ref M) [];apply⟨(by show 0<=ak;decide),λv r=>⟨_,fj,x,C,dx,_,fj,kp O r,c.cls,c.a3,by nofun,?_⟩⟩;let⟨H3,e3,T,X3⟩:=uW "first_stories" (.ref v)<|kp (x:=.lst []) O r;rw[<-e3];have S3:=up (S2.trans<|ab.new r) e3;have ns:v≠x:=(ae O r).symm;have ba:=X3 _ _ aa ns;have bb:=X3 _ _ (kp (x:=.lst []) an r) nf;have ce:fa≠v:=ae an r;have bd:=fC ("first_stories":Ws) (.ref v)<|dF ("faces":Ws) (.ref fa)<|dF ("machine":Ws) (.ref M) [];refine λs t=>⟨_,fj,x,C,dx,_,fj,kp T t,c.cls,c.a4,by nofun,?_⟩;let⟨H4,e4,U,X4⟩:=uW "numbers" (.ref s)<|kp (x:=.dT []) T t;rw[<-e4];have S4:=up (S3.trans<|ab.new t) e4;have nn:s≠x:=(ae T t).symm;have bh:=X4 _ _ aa nn;have ap:=X4 _ _ (kp (x:=.dT []) bb t) nf;have as:=X4 _ _ (kp (x:=.dT []) ba t) ns;have bi:=fC ("numbers":Ws) (.ref s)<|dF ("first_stories":Ws) (.ref v)<|dF ("faces":Ws) (.ref fa)<|dF ("machine":Ws) (.ref M) [];apply⟨(by show 0<=ak;decide),λp n=>⟨_,fj,x,C,dx,_,fj,kp U n,c.cls,c.a5,by nofun,?_⟩⟩;let⟨H5,e5,bl,X5⟩:=uW "steps" (.ref p)<|kp (x:=.lst []) U n;rw[<-e5];have S5:=up (S4.trans<|ab.new n) e5;have nt:p≠x:=(ae U n).symm;have Y:=X5 _ _ aa nt;have bn:=X5 _ _ (kp (x:=.lst []) ap n) nf;have bz:=X5 _ _ (kp (x:=.lst []) as n) ns;have bI:=X5 _ _ (kp (x:=.lst []) bh n) nn;have F5:mf K C H5 x M fa v s p [] [] ⟨[],[]⟩:=by
  apply⟨⟨dx,_,bl,?_,?_,?_,?_,?_,?_,?_⟩,bn,.nil,bz,.nil,bI,ce,ae ap n,ae as n⟩
  all_goals(show nP _ _=_;repeat (rw[fV];first|rw[if_pos rfl] | rw[if_neg (by decide +kernel)]))
  all_goals rfl
 clear e1 N X1 a8 e2 O X2 an a9 e3 T X3 ba bb bd e4 U X4 bh ap as bi e5 bl X5 up;let⟨ch,ci,g5,l1,l2,l3,l4,l5,l6,l7⟩:=id F5.ob;have M5:=MA.same S5;apply⟨_,fj,x,ch,ci,fj,g5,l6,_,fj,M,a,f,g,i,fj,M5,λf0 FF H6 bS hF S6=>⟨(by show 0<=ak;decide),λst b0=>?_⟩⟩;rw[ym hF]at bS;let⟨H7,Wy,S7,b1⟩:=Wx (o:=.lst []) b0;rw[Wy];have aC:ab H5 H7:=ab.trans S6 S7;have F7:=F5.same aC;have np:∀{b:Wk}{o:HO},H5 b=eH o->st≠b:=λe=>dA<|ae (S6 _ _ e) b0;apply⟨x,M,fa,v,s,p,f0,st,[],[],⟨[],[]⟩,_,[],fj,F7,S7 _ _ bS,⟨[],b1,.nil⟩,⟨np bn,np bz,np Y⟩,(by show 0<400;decide),(by show 0<400;decide),λus ws H8 F8 e8=>?_⟩;have b2:p≠s:=λz=>by rw[z,bI]at Y;cases Y
 have ck:H8 p=eH (.lst<|([]:Ze).map WC):=e8 _ _ (aC _ _ Y) F5.ne.2.1.symm F5.ne.2.2.symm b2;have b3:∀{b:Wk}{o:HO},H0 b=eH o->b≠fa/\b≠v/\b≠s:=λe=>⟨ae (S1 _ _ e) y,ae (S2 _ _ e) r,ae (S3 _ _ e) t⟩;have cl:ab H0 H8:=λb o e=>by
  let⟨n1,n2,n3⟩:=b3 e;exact e8 _ _ (aC _ _<|S5 _ _ e) n1 n2 n3
 apply⟨λm σ J=>σ=[eH<|.ref x,eH<|.ref M]/\∃(us ws w:Ze) (j:Nat),m=300-j/\mf K C J x M fa v s p us ws (wy a f g i j).1/\J p=eH (.lst<|w.map WC)/\wx H0 s J w (wy a f g i j).2/\GG a f g i (wy a f g i j)/\(wy a f g i j).2.length=j/\ab H0 J,⟨300,fj,us,ws,[],0,fj,F8,ck,.nil,Jk,fj,cl⟩,?_⟩;rintro m σ H9 ⟨rfl,a0,b4,w,j,rfl,L,u,a6,A,lj,al⟩;let⟨B,D,g9,m1,m2,m3,m4,m5,m6,m7⟩:=id L.ob;apply⟨_,fj,x,C,B,D,.ref p,fj,g9,c.cls,c.a5,m5,.inl ⟨p,_,fj,.inl<|az.of u,_,fj,x,C,B,D,.ref fa,fj,g9,c.cls,c.a2,m2,.inl ⟨fa,_,fj,.inl<|az.of L.Ta,_,_,fj,fj,_,fj,?_⟩⟩⟩;have z1:(w.map WC).length=j:=by rw[ag,Paired.length a6,lj]
 have z2:(a0.map WC).length=(wy a f g i j).1.fs.length:=by rw[ag,Paired.length L.faces]
 have z3:=A.good.TJ hr<|xY hr j;refine NV (P:=j<(wy a f g i j).1.fs.length) (by rw[z1,z2];simp) (λlt=>?_)<|λge=>?_
 .have oj:L' a f g i (wy a f g i j)=wy a f g i (j+1):=rfl;have b5:GG a f g i (wy a f g i<|j+1):=Jj A (by rw[lj];exact lt);have b6:∀{b:Wk}{o:HO},H9 b=eH o->∀{d:Wk},H9 d=none->d≠b:=λe d h=>dA<|ae e h;apply⟨fun σ' J=>σ'=[eH<|.ref x,eH<|.ref M]/\∃(us ws w:Ze),mf K C J x M fa v s p us ws (wy a f g i<|j+1).1/\J p=eH (.lst<|w.map WC)/\wx H0 s J w (wy a f g i<|j+1).2/\ab H0 J,fun σ' J ⟨e,us,ws,w,q1,q2,G,q4⟩=>⟨300-(j+1),by nofun,e,us,ws,w,j+1,fj,q1,q2,G,b5,?_,q4⟩,?_⟩
  .show(_++[_]).length=j+1;rw[aA,lj];rfl
  apply⟨_,fj,x,C,B,D,.ref p,fj,g9,c.cls,c.a5,m5,.inl ⟨fj,_,az.of u⟩,_,fj,x,B,D,fj,g9,m7,_,fj,x,C,B,D,.ref p,fj,g9,c.cls,c.a5,m5,.inl ⟨p,_,fj,.inl<|az.of u,?_⟩⟩;apply⟨x,M,fa,v,s,p,a0,b4,_,j,a,f,g,i,by rw[z1];rfl,L,MA.same al,A.good,R,hr,xY hr j,lt,⟨_,u⟩,λd cm co b7 cs hd a7 ex=>?_⟩;have b8:p∉[fa,v,s]:=by simp[L.ne.2.1.symm,L.ne.2.2.symm,b2]
  have I:=ex _ _ u b8;have ca:ab H0 b7:=λb o e=>by
   let⟨n1,n2,n3⟩:=b3 e;exact ex _ _ (al _ _ e) (by simp[n1,n2,n3])
  have cc:wx H0 s b7 w (wy a f g i j).2:=Paired.i3 a6 λd l ⟨q1,q2,G⟩=>⟨q1,q2,ex _ _ G (by
   simp[q2];exact⟨(λz=>by rw[z,L.Ta]at G;cases G),(λz=>by rw[z,L.Tw]at G;cases G)⟩)⟩
  have d0:H0 d=none:=al.free a7;have ct:d≠p:=b6 u a7;apply⟨p,_,.ref d,fj,fj,I,?_,fj,cm,co,w++[d],?_,?_,?_,?_⟩
  .rw[z1];exact ao ⋯
  .have e:(wy a f g i<|j+1).1=(fe ((wy a f g i j).1.ss.getD j []) (wy a f g i j).1<|q7 a f g i<|(wy a f g i j).1.fs.getD j []).1:=by
    show(L' a f g i<|wy a f g i j).1=_;unfold L';rw[lj]
   rw[e];exact cs.Uw I
  .rw[aa,au];rfl
  .have e:(wy a f g i<|j+1).2=(wy a f g i j).2++[(fe ((wy a f g i j).1.ss.getD j []) (wy a f g i j).1<|q7 a f g i<|(wy a f g i j).1.fs.getD j []).2]:=by
    show(L' a f g i<|wy a f g i j).2=_;unfold L';rw[lj]
   rw[e];exact eD (Paired.i3 cc λd l ⟨q1,q2,G⟩=>⟨q1,q2,by rw[ah (λz=>by rw[z,I]at G;cases G)];exact G⟩) ⟨d0,b6 L.S_ a7,by rw[ah ct];exact hd⟩
  .intro b o e;have h1:=ca _ _ e;rw[ah<|λz=>?_]
   .exact h1
   .have h4:=S4 _ _ e;rw[z,n]at h4;cases h4
 .have e:=A.le;exact k fa v s p a0 b4 w _ j H9 L u a6 A ⋯ rfl lj al
inductive jv(K:Za)(Cm:Wk)(vs:List V)(H:Hp)(Q:VK)(E:XK):Prop
 |mk (M:Wk) (n:Nat) (J0 J2 J3:Zb) (ds:List am):(vs=[.ref M,.int (n:Nat)])->bf Cm H M J0 J2 J3 ds->(R:List (List Ws))->CY J0 J2 J3 ds R->n<=1000->(∀H',ab H H'->Q (.int (SF J0 J2 J3 ds n)) H')->jv K Cm vs H Q E
theorem DA{K:Za}(c:FC K C)(h:jv K Cm vs H Q E):Ff K sR C (kq K C Cm) (bT Q) (start GB vs) H:=by
 let⟨M,n,J0,J2,J3,ds,rfl,MA,R,T,hn,k⟩:=h;apply⟨_,fj,λx U hx Y ne=>?_⟩;have S0:ab H (upd (upd H U<|.own x) x<|.ins C U []):=λb o e=>by rw[ah<|ae e hx];exact kp e Y
 apply⟨H,x,U,M,J0,J2,J3,ds,fj,aa,MA,hx,S0,R,T,λfa sa na L us ws y S j A F1 al B l g eS _ S1=>⟨fj,?_⟩⟩;let⟨an,ap,g1,l1,l2,l3,l4,l5,l6,l7⟩:=F1.ob;apply⟨x,C,an,ap,.ref L,fj,g1,c.cls,c.a5,l5,?_⟩;have zt:y.length=S.1.fs.length:=by rw[Paired.length B,g]
 have zf:=l.good.TJ T (by rw[eS];exact xY T j);have z0:0<S.1.fs.length:=by
  obtain z|z:=ud S.1.fs.length
  .have:=l.zero;rw[ig ⋯]at this;cases this
  .exact z
 apply⟨_,fj,_,_,fj,fj,_,fj,?_⟩;refine NV (P:=False) ∅ (λz=>z.elim) λ_=>?_;refine λf u=>⟨aa,[(.inl 0,.int 1)],fj,Wt,?_⟩;have as:LY H A y S.2:=Paired.i3 B λ_ _ r=>⟨r.1,.inl r.2.2⟩;have D:∀i,fZ (·<y.length) (qg (eQ S.2) 0 i):=λi=>by
  rw[zt];exact fZ.it (λa ha=>(Ct l g ha).1) z0 i
 have N:ab A (upd (upd A f<|.dK []) f<|.dK<|cn ga<|qg (eQ S.2) 0 0):=λb o e=>by rw[ah<|ae e u];exact kp e u
 have G:=Wz (upd A f<|.dK []) f (.dK<|cn ga<|qg (eQ S.2) 0 0);show aq _ _ _ _ (upd (upd A f<|.dK []) f<|.dK<|cn ga<|qg (eQ S.2) 0 0);generalize upd (upd A f<|.dK []) f (.dK<|cn ga<|qg (eQ S.2) 0 0)=H2 at N G ⊢;have aC:H f=none:=S1.free u;apply⟨_,fj,(n:Int),fj,by nofun,by nofun,?_⟩;refine j_ (lo:=0) (n:=(n:Int).toNat) (λi σ O=>JG λ(f:Wk) (x4:Option V)=>OI (σ=[eH<|.ref M,eH<|.int (n:Nat),eH<|.ref L,eH<|.ref f,x4]) (O L=eH (.lst<|y.map WC)) (LY H O y S.2) (O f=eH (.dK<|cn ga<|qg (eQ S.2) 0 i)) (H f=none)<|ab H O)
  ⟨f,_,fj,N _ _ al,Paired.i3 as λ_ _ r=>⟨r.1,Rd.same N r.2⟩,G,aC,S1.trans N⟩ ?_ ?_
 .rintro i σ H3 hi ⟨f,x4,rfl,I,J,t,s,S3⟩;apply⟨_,fj,_,fj,H,L,f,y,S.2,_,fj,I,J,t,s,S3,by nofun,D i,λm hm=>?_,λld H4 a0 a4 a6 a7 S4=>⟨ld,_,fj,a0,a4,a6,a7,S4⟩⟩;rw[zt]at hm ⊢;exact(Ct l g hm).1
 .rintro σ H3 ⟨f,x4,rfl,I,J,t,s,S3⟩;rw[gM]at t;apply⟨_,fj,f,_,λi=>((qg (eQ S.2) 0 n).getD i (0,0)).2,fj,λi a8 v e=>?_,.inl ⟨t,λo=>?_⟩⟩
  .unfold cn at e;rw[bV]at e;let⟨p,hp,ep⟩:=mU.1 e;cases ep;show WD p.2=WD ((qg (eQ S.2) 0 n).getD i (0,0)).2;rw[dP,hp];rfl
  .have e:preSum (λi=>((qg (eQ S.2) 0 n).getD i (0,0)).2) (cn ga<|qg (eQ S.2) 0 n).length=SF J0 J2 J3 ds n:=by
    unfold cn;rw[ag,preSum_eq _ _ (λi p hp=>by rw[dP,hp];rfl)];exact Lp l g n
   rw[e];exact k _ λb q w=>by rw[ah<|ae w s];exact S3 _ _ w
inductive jw(K:Za)(Cm:Wk)(vs:List V)(H:Hp)(Q:VK)(E:XK):Prop
 |mk (M:Wk) (J0 J2 J3:Zb) (ds:List am):vs=[.ref M]->bf Cm H M J0 J2 J3 ds->(R:List (List Ws))->CY J0 J2 J3 ds R->(∀(l:Wk) (qs us ws:Ze) (j:Nat) (H':Hp),H' l=eH (.lst (qs.map WC))->(∀(i:Nat) (q u w:Wk),qs[i]?=eH q->us[i]?=eH u->ws[i]?=eH w->H' q=eH (.tup [.ref u,.ref w]))->qs.length=(wy J0 J2 J3 ds j).1.fs.length->Paired (λu (f:Zb)=>H' u=eH (.tup (f.map WB))) us (wy J0 J2 J3 ds j).1.fs->Paired (j3 K H') ws (wy J0 J2 J3 ds j).1.ss->(wy J0 J2 J3 ds j).1.fs.length=j->ab H H'->Q (.ref l) H')->jw K Cm vs H Q E
theorem DB{K:Za}(c:FC K C)(h:jw K I J H Q E):Fg K C (kq K C I) (bT Q) (start GC J) H:=by
 let⟨M,J0,J2,J3,ds,rfl,MA,R,t,k⟩:=h;apply⟨_,fj,λx v hx y ne=>?_⟩;have S0:ab H (upd (upd H v<|.own x) x<|.ins C v []):=λb o e=>by rw[ah<|ae e hx];exact kp e y
 apply⟨H,x,v,M,J0,J2,J3,ds,fj,aa,MA,hx,S0,R,t,λL N na ta g l ts S j m f al an A a eS lj S1=>⟨fj,?_⟩⟩;subst eS;rw[lj]at a;let⟨n,p,O,l1,l2,l3,l4,l5,l6,l7⟩:=f.ob;apply⟨_,fj,x,C,n,p,.ref L,fj,O,c.cls,c.a2,l2,_,fj,x,C,n,p,.ref N,fj,O,c.cls,c.a3,l3,L,N,_,_,fj,az.of f.Ta,az.of f.Tw,λD qs hD hq nq T=>?_⟩;have zu:=Paired.length f.faces;have zw:=Paired.length f.Qa;have zg:=A.good.len;rw[ag,ag,zu,zw,zg,um]at T;let⟨B,G⟩:=gj.1 nq;have s:ab m (upd (rG m qs (g.map WC)<|l.map WC) D<|.lst<|qs.map .ref):=λb o e=>by
  rw[ah<|ae e hD,tL λz=>by rw[hq b z]at e;cases e];exact e
 have U:upd (rG m qs (g.map WC)<|l.map WC) D (.lst<|qs.map .ref) D=eH (.lst<|qs.map WC):=aa;have Y:∀(i:Nat) (q u w:Wk),qs[i]?=eH q->g[i]?=eH u->l[i]?=eH w->upd (rG m qs (g.map WC)<|l.map WC) D (.lst<|qs.map .ref) q=eH (.tup [.ref u,.ref w]):=λi q u w a1 a2 a3=>by
  rw[ah (λz=>B (by rw[<-z];exact cj a1))];exact Cc G a1 (by rw[bV,a2];rfl) (by rw[bV,a3];rfl)
 generalize upd (rG m qs (g.map WC)<|l.map WC) D (.lst<|qs.map .ref)=H2 at s U Y ⊢;exact k D qs g l j H2 U Y T (Paired.i3 f.faces λ_ _ h=>s _ _ h) (Paired.i3 f.Qa λ_ _ ⟨_,gs,h3,h4⟩=>⟨gs,s _ _ h3,Paired.i3 h4 λ_ _ r=>dg.kt (ab.kt s) r⟩) a.symm<|S1.trans s
abbrev Ou(K:Za)(C:Wk):TS :=
 (aq (aU (aM sP<|eP V1 (tC<|.int 3)<|tC<|.int 3)<|OA K 2<|aY U3<|aY U4<|gf)<|aq (aU (aM (iP C)<|aK (aM (iO C)<|aB V3)<|aM (iO C)<|aB V4) U5)<|aq (aU (aM (ko K)<|aK V3 V4)<|gR K 2<|aY U6<|aY U7<|gf)<|aq (cV (oN<|tB<|aM (d_ K 4)<|av (aM (jv K C)<|aK V5 V2)<|av (aM (kr K)<|eP (aI (nh K) (aI (dE K) V6<|tC<|.int 0)<|tC<|.int 0) V7 V2) aW) (bo<|tC<|.bl false)<|bC)<|aq (aU (aM (jw K C)<|aB V5) U8)<|aq (cV (C3 (oN<|tB<|dL (oY K)<|aK V8<|tC<|.ty "list")<|a_<|aI MP (dL (dO K)<|aB V8)<|dL (dO K)<|aB V6) (bo<|tC<|.bl false)<|bC)<|aq (ee (Hw K<|aK V8 V6) (gR K 2<|aY U9<|aY (gR K 2<|aY OQ<|aY OP<|gf)<|gf)<|aq (cV (C3 (oN<|tB<|dL (oY K)<|aK V9<|tC<|.ty "tuple")<|C3 (a_<|aI MP (dL (dO K)<|aB V9)<|tC<|.int 2)<|oN<|tB<|dL (oY K)<|aK (aI (io K) V9<|tC<|.int 0)<|tC<|.ty "tuple") (bo<|tC<|.bl false)<|bC)<|cV (C3 (oN<|tB<|aM (d_ K 4)<|aK (aI (io K) V9<|tC<|.int 1) ED)<|a_<|aI MP (dL (dO K)<|aB<|aI (io K) V9<|tC<|.int 0)<|aI kB (dL (dO K)<|aB<|aI (io K) Gp<|tC<|.int 0)<|dL (dO K)<|aB<|aI (io K) Gp<|tC<|.int 1) (bo<|tC<|.bl false)<|bC)<|bo<|tC<|.bl true)
theorem Ki.len(h:Ki a):a.length<=1000:=by
 obtain rfl|⟨w,rfl⟩|⟨w,rfl⟩:=h
 .show 1<=1000;decide
 .show 2<=1000;decide
 .show 2<=1000;decide
inductive P2(K:Za)(vs:List V)(H:Hp)(Q:VK)(E:XK):Prop
 |mk (a:Wk) (ns:List Int):vs=[.ref a]->az K H a (ns.map WD)->ns.length<=63->(∀H',Q (.bl true) H')->P2 K vs H Q E
theorem Kl{K:Za}(k:∀H',Q (.bl true) H')(n:Nat)(hn:n<=60)(hp:jL H p c):Ou K C (bT Q) [eH<|.ref a,eH<|.ref p,eH<|.int (n:Nat),none,none,none,none,none,none,none,none,none] H:=by
 apply⟨_,fj,p,c,fj,hp,λl t l1 l2 l3 l4 t' ba bb bi bn ts bz B J2 w o g f E v H2 bI TA TB m m' tk bS J r3 b0 cd _=>⟨l,_,fj,az.of bI,fj,_,_,fj,_,_,fj,fj,?_⟩⟩;clear hp;have Qf:=Nk m m' J r3 b0;have O:nC B J2 w o g f E v:=⟨m,m',J,tk,bS,r3,b0⟩;let⟨R,hR⟩:=Vg O;apply⟨_,fj,t,l1,l2,l3,l4,ts,B,J2,w,E,fj,TA,m,λM H3 M3 S3=>?_⟩;apply⟨_,fj,t',ba,bb,bi,bn,bz,o,g,f,v,fj,TB.same S3,m',λN H4 N4 S4=>?_⟩;apply⟨M,N,B,J2,w,o,g,f,E,v,fj,M3.same S4,N4,J,tk,bS,Qf,λx H5 X5 S5=>?_⟩;have aC:=S3.trans<|S4.trans S5;apply⟨_,fj,_,fj,t,l1,l2,l3,l4,t',ba,bb,bi,bn,ts,bz,B,J2,w,o,g,f,E,v,fj,TA.same aC,TB.same aC,O,λu fl bd es ce j H6 hu a0 L b1 bh el Y S6=>⟨u,_,fj,bE.of hu,fj,_,_,fj,_,_,fj,fj,?_⟩⟩;have X6:=X5.same S6;clear TA TB M3 N4 X5 S3 S4 S5 aC S6 cd bI;have ok:=xW O j Y;have fw:=ok.Qf O;have a4:=Paired.length L;rw[AH,ok.len,um]at a4;let⟨g0,a5⟩:=tN O 0 j (λx hx=>Y x ⋯);rw[wG]at a5;have p0:0<(rk B J2 w o g f E v j).ps.length:=by rw[a5,aA];show 0<1+_;nofun
 have ch:0<(rk B J2 w o g f E v j).ss.length:=by rw[ok.len];exact p0
 have e0:(rk B J2 w o g f E v j).ps[0]=(hJ w E<|w.take 1,hJ f v<|f.take 1):=by
  have h1:(rk B J2 w o g f E v j).ps[0]?=eH (hJ w E<|w.take 1,hJ f v<|f.take 1):=by rw[a5];rfl
  rw[bj p0]at h1;injection h1
 apply⟨_,fj,_,fj,x,n,_,_,_,_,fj,X6,R,hR,by nofun,λH7 S7=>?_⟩;let⟨e,he,b,st,ws,h1,h2,h3,h4,h5⟩:=Paired.get L<|ET p0 ch;have h2:r_ H6 b (hJ w E<|w.take 1,hJ f v<|f.take 1):=by rw[<-e0];exact h2
 have b2:∀b xs,b∉([]:Ze)->H6 b=eH (.lst xs)->H7 b=eH (.lst xs):=λ_ _ _ q=>S7 _ _ q;apply⟨_,fj,fl,_,0,_,fj,fj,az.of<|S7 _ _ a0,cO (j:=0) (by rw[bV,he];rfl),.inr<|.inl ⟨e,_,0,_,fj,fj,bE.of<|S7 _ _ h1,fj,_,fj,_,fj,?_⟩⟩;apply⟨b,bd,ce,n,_,(rk B J2 w o g f E v j).ps,B,J2,w,o,g,f,E,v,fj,h2.kt<|ab.kt S7,S7 _ _ b1,λp hp=>(bh p hp).kt (ab.kt S7) b2,by rw[<-e0];exact fR p0,Lf O Y el,fw,by nofun,λH8 S8=>?_⟩;rw[Jr O n];refine .mk _ _ (.k<|.inl<|SF (cX B J2 o g) (J2++g) (bP w f) (n_ E v J2 g w f<|aG B J2 o g) n) rfl (by unfold kL;rfl) (by unfold kL;rfl) (cH _) trivial λH9 S9=>⟨_,fj,bF ?_⟩;have T:=S7.trans<|S8.trans S9;have X9:=X6.same T;have b3:=T _ _ a0;have a6:Paired (rS H9 []) es ((rk B J2 w o g f E v j).ps.zip (rk B J2 w o g f E v j).ss):=Paired.i3 L λ_ _ r=>r.kt (ab.kt T) λ_ _ _ q=>T _ _ q;clear S7 S8 S9 T X6 a0 L b1 bh h1 h2 h3 h4 h5 he b2 hu;apply⟨_,fj,x,_,_,_,_,fj,X9,R,hR,λtl qs us vs U b4 al hq lq b5 b6 b7 a7=>?_⟩;have ej:U=j:=by
  have ci:∀{a b},(∀i<b,i<(rk B J2 w o g f E v i).ps.length)->(wy (cX B J2 o g) (J2++g) (bP w f) (n_ E v J2 g w f<|aG B J2 o g) a).1.fs.length=a->¬a<b:=fun{a b} Y h z=>by
   rw[(Co O a λi hi=>Y i<|uu hi z).1,ag]at h;have:=Y a z;nofun
  obtain z|z|z:=wI U j
  .exact absurd z<|ci Y b7
  .exact z
  .have h1:=Oy b7 j z;rw[(Co O j Y).1,ag]at h1;nofun
 subst ej;have b8:=Ox (A:=cX B J2 o g) (S:=J2++g) (R:=bP w f) (D:=n_ E v J2 g w f<|aG B J2 o g) U;rw[(Co O U Y).1]at lq b5 b6 b8;have ca:qs.length=(rk B J2 w o g f E v U).ps.length:=by rw[lq,ag]
 have I:=a7 _ _ b3;apply⟨_,fj,.ref tl,"list",_,true,fj,.inl<|jZ.lst al,fj,_,fj,bF ?_⟩;apply⟨_,fj,.inl ⟨tl,_,fj,.inl<|az.of al,_,fj,.inl ⟨fl,_,fj,.inl<|az.of I,fj,_,fj,?_⟩⟩⟩;rw[ag,ag,ca,a4,hH rfl];refine bF ⟨_,fj,_,fj,tl,fl,fj,.inl ⟨⟨_,az.of al⟩,⟨_,az.of I⟩,?_⟩⟩;have an:Paired (rS b4 []) es ((rk B J2 w o g f E v U).ps.zip (rk B J2 w o g f E v U).ss):=Paired.i3 a6 λ_ _ r=>r.kt (ab.kt a7) λ_ _ _ q=>a7 _ _ q
 let zI:Nat->L2.St->Hp->Prop:=λi σ H'=>L_ λ(x9 a8 a9:Option V)=>σ=[eH<|.ref a,eH<|.ref p,eH<|.int (n:Nat),eH<|.ref t,eH<|.ref t',eH<|.ref x,eH<|.ref fl,eH<|.ref bd,eH<|.ref tl,x9,a8,a9]/\ab b4 H'
 refine Lm (xs:=qs.map WC) (ys:=es.map WC) (by rw[ag,ag,ca,a4]) zI ⟨_,_,_,fj,ab.refl _⟩ (λi σ H' _ zq=>by let⟨_,_,_,_,S⟩:=zq;exact⟨az.of<|S _ _ al,az.of<|S _ _ I⟩) ?_ ?_;rotate_left
 .rintro σ G ⟨x9,a8,a9,rfl,_⟩;exact k _
 rintro i xv yv σ G pz hx hy ⟨x9,a8,a9,rfl,S⟩ ck;let⟨q,cl,rfl⟩:=cJ hx;let⟨e,he,rfl⟩:=cJ hy;let⟨y,ap,⟨b,st,ws,h1,h2,h3,h4,_⟩⟩:=Paired.getL an he;have il:i<(rk B J2 w o g f E v U).ps.length:=by have:=(bY.1 he).1;nofun
 have as:i<(rk B J2 w o g f E v U).ss.length:=by rw[ok.len];exact il
 rw[ET il as]at ap;injection ap with ap;subst ap;have fc:=ok.fc _<|fR il;let⟨fu,cm,f2⟩:=Paired.get b5 (i:=i) (by rw[bV,bj il];rfl);let⟨sw,co,gs,f3,f4⟩:=Paired.get b6<|bj as;have f1:=hq i q fu sw cl cm co;have sl:=ok.sl i _<|bj as;have lp:=MS O fc;have cc:=b8 _<|fR as;dsimp only at h2 h4;generalize(rk B J2 w o g f E v U).ps[i]=P at h2 f2 fc lp;generalize(rk B J2 w o g f E v U).ss[i]=s at h4 f4 sl cc;let⟨G1,Wy,Sz,z1⟩:=Wx (o:=.tup [.ref q,.ref e]) ck;rw[Wy];have S1:=S.trans Sz;have f1:=S1 _ _ f1;have f2:=S1 _ _ f2;have f3:=S1 _ _ f3;have f4:=Paired.i3 f4 λ_ _ r=>dg.kt (ab.kt S1) r;let⟨pa,pb,g1,g2,g3⟩:=h2.kt<|ab.kt S1;have g2:G1 pa=eH (.tup<|P.1.map WB):=g2;have g3:G1 pb=eH (.tup<|P.2.map WB):=g3;apply⟨pz,_,fj,bE.of z1,fj,_,_,fj,_,_,fj,⟨e,_,fj,bE.of<|S1 _ _ h1,fj,_,_,fj,_,_,fj,fj,fj,?_⟩⟩;apply⟨_,fj,.ref q,"tuple",_,true,fj,.inl<|jZ.tup f1,fj,_,fj,bF ?_⟩;apply⟨_,fj,.inl ⟨q,_,fj,.inr<|bE.of f1,fj,_,fj,?_⟩⟩;refine NV (P:=False) ∅ (λz=>z.elim) λ_=>?_;apply⟨_,fj,q,_,0,_,fj,fj,bE.of f1,fj,.ref fu,"tuple",_,true,fj,.inl<|jZ.tup f2,fj,_,fj,bF ?_⟩;apply⟨_,fj,q,_,1,_,fj,fj,bE.of f1,fj,_,fj,.mk _ _ (.s<|s.map nY) rfl (Kh f3 f4) (by unfold kL;exact⟨st,_,fj,az.of<|S1 _ _ h3,gy.RE<|gy.kt (ab.kt S1) h4⟩) (by show DT.gg _+1<=4;have:=Gd s;nofun) ⟨by rw[ag];nofun,HC λsg cs=>?_⟩ λG2 S2=>⟨_,fj,bF ?_⟩⟩
 .exact(uR.1<|cc sg cs).Vx.len
 have ct:=S2 _ _ f1;apply⟨_,fj,q,_,0,_,fj,fj,bE.of ct,fj,.inl ⟨fu,_,fj,.inr<|bE.of<|S2 _ _ f2,?_⟩⟩;apply⟨_,fj,b,_,0,_,fj,fj,bE.of<|S2 _ _ g1,fj,.inl ⟨pa,_,fj,.inr<|bE.of<|S2 _ _ g2,?_⟩⟩;apply⟨_,fj,b,_,1,_,fj,fj,bE.of<|S2 _ _ g1,fj,.inl ⟨pb,_,fj,.inr<|bE.of<|S2 _ _ g3,?_⟩⟩;rw[ag,ag,ag,lp];have l1:=fc.F.len;have l2:=fc.F'.len;apply⟨_,_,fj,fj,.inl ⟨by nofun,by nofun⟩,fj,_,fj,?_⟩;refine NV (P:=False) ∅ (λz=>z.elim) λ_=>?_;exact⟨_,_,_,fj,S1.trans S2⟩
theorem KA{K:Za}{C:Wk}{l:List V}{H:Hp}{Q:VK}{E:XK}(h:P2 K l H Q E):Mp K (d_ K 4) (jw K C) (kr K) (jv K C) (ko K) (iP C) (iO C) sP im (wg K) (bT Q) (start HV l) H:=by
 let⟨a,m,rfl,o,s,k⟩:=h;apply⟨_,fj,a,m,fj,o,s,λp c u _ f v=>?_⟩;apply⟨_,fj,fT f Wt Wt λr w g t i _=>?_⟩;let⟨n,rfl⟩:=lH g;apply⟨_,fj,fT i Wt Wt λq x _ _ e _=>⟨fj,_,fj,?_⟩⟩;refine rJ (λ_=>?_)<|λ_=>?_
 .refine⟨_,fj,fT e Wt Wt λr y g t j _=>?_⟩;let⟨n,rfl⟩:=lH g;exact Kl k n ⋯ j
 .exact Kl k n ⋯ e
def fP(i:Nat):Stmt:=PySem.Challenge.pw_mumtrial_k71_whole_joined_counted.main.body.getD i<|.Pass ⟨0,0,0,0⟩
local macro_rules | `(tactic| walk_at "s")=>`(tactic| exact⟨fj,fj,fj,by decide +kernel,fj,by decide +kernel,by decide +kernel⟩)
local macro_rules | `(tactic| walk_at "l")=>`(tactic| (intro _ _ _ _ h;first|exact VA h|exact VB h|(cases h;subst_vars;rfl)|(let⟨_,_,h,_⟩:=h;subst h;rfl)|((repeat let⟨_,h⟩:=h);subst_vars;rfl)))
theorem UM{e:List Wm}{n:Nat}(h:e.length=n+1):∃ a t,e=a::t∧t.length=n:=by
  cases e with
  |nil=>cases h
  |cons a t=>exact⟨a,t,fj,Nat.succ.inj h⟩
local macro_rules | `(tactic| walk_at "b")=>`(tactic| (intro _ _ _ _ _ _ us hl;(repeat (have h:=UM hl;clear hl;let⟨_,_,e,hl⟩:=h;subst e));cases List.eq_nil_of_length_eq_zero hl;rfl))
def Pj(K:Za)(x qual:Ws)(st:Stmt)(f:Wk):Prop:=∃(oc:Wm) (od an:Option Wk) (sl:Array<|Option Wm) (kV dc pm cd ct:Wm),
 K.lookup f=eH ⟨oc,od,.func<|ki x qual (jY st) (iA st) (cN st) .none kV dc pm an cd ct,sl⟩/\qW K cd qual=true/\ka K (.ref f)=true
theorem Lo{K:Za}{x a:Ws}{st:Stmt}{f:Wk}{g:Wm}{h i:Option Wk}{j:Array (Option Wm)}{kV m n e o:Wm}(l:K.lookup f=eH ⟨g,h,.func<|ki x a (jY st) (iA st) (cN st) .none kV m n i e o,j⟩)
  (c:qW K e a=true) (k:ka K (.ref f)=true):Pj K x a st f:=⟨g,h,i,j,kV,m,n,e,o,l,c,k⟩
def ic(K:Za)(x:Ws)(st:Stmt):Prop:=∃f,cI K cw x=eH (eH<|.ref f)/\Pj K x x st f
theorem Ui{K:Za}{x:Ws}{st:Stmt}{f:Wk}{g:Wm}{h i:Option Wk}{j:Array (Option Wm)}{kV m n e o:Wm}(a:cI K cw x=eH (eH<|.ref f))(l:K.lookup f=eH ⟨g,h,.func<|ki x x (jY st) (iA st) (cN st) .none kV m n i e o,j⟩)
  (c:qW K e x=true) (k:ka K (.ref f)=true):ic K x st:=⟨f,a,Lo l c k⟩
def GF(K:Za)(C:Wk)(m qual:Ws)(st:Stmt):Prop:=∃f,eM K (.ref C) m=eH (eH<|.ref f)/\C5 K (.ref f)=true/\Pj K m qual st f
theorem Uh{K:Za}{C:Wk}{m e:Ws}{st:Stmt}{f:Wk}{h:Wm}{j n:Option Wk}{o:Array (Option Wm)}{kV p q g r:Wm}(a:eM K (.ref C) m=eH (eH<|.ref f))(i:C5 K (.ref f)=true)
  (l:K.lookup f=eH ⟨h,j,.func<|ki m e (jY st) (iA st) (cN st) .none kV p q n g r,o⟩) (c:qW K g e=true) (k:ka K (.ref f)=true):GF K C m e st:=⟨f,a,i,Lo l c k⟩
theorem Pj.TH{K:Za}{x a:Ws}{st:Stmt}{f:Wk}(T:Pj K x a st f):∃e,OV K x a st f e:=by
 let⟨g,h,i,j,kV,m,n,o,p,l,c,k⟩:=T;exact⟨_,Lk (st:=st) l c k⟩
def OZ:Sp:=λ_ _ _ _=>False
theorem O4{P:bR}{w:Wn}{K:Za}{a:Ws->Option Wm}{base:Wq}{k:Nat}{f:Wk}{e:nO}{g:Zb}:pe P w K a base Tg k f e g OZ:=⟨λ_ _ _ _ h=>h.elim,λ_ _ _ _ _ _ _ _ _ _ _ _ _ h=>h.elim⟩
def OG(K:Za)(a:Wk)(ws:Zb):Prop:=∀H,bE K H a (ws.map WB)
theorem G3{K:Za}{a:Wk}{f:Zb}{o:Obj}{e:Array Wm}{n:Nat}(l:K.lookup a=eH o)(c:o.cls=.type "tuple")(d:o.data=.seq e n)(z:e.size<=ak)(v:bG (f.map WB) e.toList):OG K a f :=
 λ_=>.inr ⟨o,e,n,l,c,d,z,v⟩
section
variable{P:bR}{w:Wn}{K:Za}{mg:Ws->Option Wm}{base h:Wq}{C:Wk}{x qual:Ws}{st:Stmt}{N ps:Zb}{k:Nat}{sp:Sp}
abbrev LR(ps:Zb)(sp:Sp):Prop:=∀vs H Q E,sp vs H Q E->vs.length=ps.length
abbrev BodyOk(CX:JK)(P:bR)(w:Wn)(K:Za)(mg:Ws->Option Wm)(base:Wq)(qual:Ws)(st:Stmt)(N:Zb)(k:Nat)(sp:Sp)(Tz:Cx->Cx):Prop:=∀{f:Wk}{T8:Wm}{A:Wo}{outer:List Env}{s:Wl}{H:Hp}{vs:List V}{Q:VK}{E:XK},N.Nodup->gh k (A.deeper<|envOfC qual (cN st) ↑s f T8)->(A.deeper<|envOfC qual (cN st) ↑s f T8).units+16<cLine->sp vs H Q E ->
 ∃t,EQ (Tz<|Gg CX P w K mg base N qual (cN st) f T8 A outer s H E) (iA st) t/\t (bT Q) (start N vs) H
abbrev GI(x qual:Ws)(st:Stmt)(ps:Zb):Prop:=∀(kV doc pm:Wm) (an:Option Wk) (T8 ct:Wm) (us:Zf),us.length=ps.length->bindArgs (ki x qual (jY st) (iA st) (cN st) .none kV doc pm an T8 ct) ⟨us,[]⟩=pure (ps.zip us)
theorem dG(X:K.In h)(G:h.Ns cw mg)(T:ic K x st)(b:BodyOk Tg P w K mg base x st N k sp Cx.Tz)(i:GI x x st ps:=by walk_at "b")(S:nF N ps (cN st):=by walk_at "s")(l:LR ps sp:=by walk_at "l"):gS P w K mg base x ps (k+1) sp:=by
 let⟨f,a,t⟩:=T;let⟨j,F⟩:=t.TH;exact⟨f,j,F.ok S l λe A outer s H m Q E g h=>b S.nd g (Hz g) h,gH X G a,F.kp,F.binds i⟩
theorem dM(j:HX K C)(T:GF K C x qual st)(b:BodyOk Tg P w K mg base qual st N k sp Cx.Tz)(m:GI x qual st ps:=by walk_at "b")(S:nF N ps (cN st):=by walk_at "s")(l:LR ps sp:=by walk_at "l"):GD P w K mg base C x ps (k+1) sp:=by
 let⟨f,a,i,t⟩:=T;let⟨n,F⟩:=t.TH;exact⟨f,n,F.ok S l λe A outer s H o Q E g h=>b S.nd g (Hz g) h,j,⟨a,i,F.kp⟩,F.binds m⟩
theorem dN{y:Ws}(j:mg y=eH (.ref C))(m:wC K C=true)(n:ka K (.ref C)=true)(T:GF K C "__init__" qual st)(b:BodyOk Tg P w K mg base qual st N k sp Cx.Tz)(o:GI "__init__" qual st ps:=by walk_at "b")(S:nF N ps (cN st):=by walk_at "s")(l:LR ps sp:=by walk_at "l"):PB P w K mg base y C ps (k+1) sp:=by
 let⟨f,a,i,t⟩:=T;let⟨p,F⟩:=t.TH;exact⟨f,p,F.ok S l λe A outer s H q Q E g h=>b S.nd g (Hz g) h,j,⟨m,a,i,n⟩,F.binds o⟩
end
structure Zs(mg:Ws->Option Wm):Prop where
 all:mg "all"=none
 any:mg "any"=none
 bool:mg "bool"=none
 dict:mg "dict"=none
 divmod:mg "divmod"=none
 enumerate:mg "enumerate"=none
 int:mg "int"=none
 isinstance:mg "isinstance"=none
 len:mg "len"=none
 list:mg "list"=none
 range:mg "range"=none
 str:mg "str"=none
 sum:mg "sum"=none
 tuple:mg "tuple"=none
 zip:mg "zip"=none
structure Cs(K:Za)(mg:Ws->Option Wm)(C Cf ro sv:Wk):Prop where
 LETTERS:Gc mg "LETTERS" (.str "abcdefghijklmnopqrstuvwxyz")
 LONGEST_NAME:Gc mg "LONGEST_NAME" (.int 8)
 MOST_WORDS:Gc mg "MOST_WORDS" (.int 4)
 MOST_ROOMS:Gc mg "MOST_ROOMS" (.int 150)
 MOST_DOORS:Gc mg "MOST_DOORS" (.int 2000)
 MOST_FACES:Gc mg "MOST_FACES" (.int 400)
 MOST_JOINED_ROOMS:Gc mg "MOST_JOINED_ROOMS" (.int 10)
 MOST_JOINED_DOORS:Gc mg "MOST_JOINED_DOORS" (.int 40)
 STILL:Gc mg "STILL" (.ref ro)
 HUSH:Gc mg "HUSH" (.ref sv)
 still:OG K ro aD
 hush:OG K sv bN
 mc:MC K C
 cm:mg "Machine"=eH (.ref C)
 makes:wC K C=true
 kc:ka K (.ref C)=true
 fc:FC K Cf
 Vk:mg "FaceMap"=eH (.ref Cf)
 TC:wC K Cf=true
 kcfc:ka K (.ref Cf)=true
structure Ts(K:Za)(C Cf:Wk):Prop where
 RP:ic K "_law_spread" (fP 58)
 Sx:ic K "_law_open" (fP 59)
 Sv:ic K "_law_take" (fP 61)
 R9:ic K "_law_names" (fP 62)
 Tc:ic K "_law_put" (fP 64)
 QP:ic K "_law_draw_doors" (fP 65)
 Td:ic K "is_name" (fP 26)
 Te:ic K "as_keys" (fP 28)
 Qo:ic K "first_wrong_name" (fP 29)
 RT:ic K "door_signs" (fP 30)
 Qp:ic K "first_wrong_door" (fP 31)
 Kx:ic K "goals_by_start_and_sign" (fP 32)
 Rj:ic K "led_by_still" (fP 33)
 QF:ic K "first_led_round" (fP 34)
 R6:ic K "need_none" (fP 35)
 RO:ic K "need_parts" (fP 36)
 QS:ic K "doors_by_start" (fP 37)
 QQ:ic K "has_asks_alone" (fP 38)
 Qs:GF K C "__init__" "Machine.__init__" (gC (fP 39) 0)
 Rx:ic K "_law_machine" (fP 79)
 Q8:GF K C "rooms" "Machine.rooms" (gC (fP 39) 3)
 Qq:GF K C "led_from" "Machine.led_from" (gC (fP 39) 8)
 RM:ic K "with_still" (fP 9)
 Q9:GF K C "goals" "Machine.goals" (gC (fP 39) 7)
 Qr:GF K C "is_quiet" "Machine.is_quiet" (gC (fP 39) 5)
 Rk:ic K "_law_still_on" (fP 63)
 Q_:GF K C "doors" "Machine.doors" (gC (fP 39) 4)
 P9:GF K C "doors_from" "Machine.doors_from" (gC (fP 39) 6)
 Rq:GF K C "asks" "Machine.asks" (gC (fP 39) 1)
 Rp:GF K C "says" "Machine.says" (gC (fP 39) 2)
 RS:ic K "first_face" (fP 10)
 RB:ic K "face_behind" (fP 11)
 QL:ic K "signs_in_order" (fP 8)
 Ss:ic K "steps_at" (fP 12)
 Qg:GF K Cf "number_at" "FaceMap.number_at" (gC (fP 15) 1)
 Mr:GF K Cf "numbered_steps" "FaceMap.numbered_steps" (gC (fP 15) 2)
 Qt:GF K Cf "__init__" "FaceMap.__init__" (gC (fP 15) 0)
 P8:ic K "counts_one_sign_on" (fP 17)
 SA:ic K "how_many" (fP 18)
 SD:ic K "faces_of" (fP 16)
 TL:ic K "takes" (fP 41)
 PU:ic K "need_all_asks_taken" (fP 42)
 Tr:ic K "common" (fP 46)
 Sr:ic K "wires_of" (fP 47)
 Ro:ic K "asks_of_both" (fP 48)
 Sy:ic K "is_small" (fP 49)
 R7:ic K "need_join" (fP 50)
 RU:ic K "alone_from" (fP 51)
 RC:ic K "doors_alone" (fP 52)
 RN:ic K "wire_goals" (fP 53)
 QR:ic K "doors_together" (fP 54)
 QM:ic K "pairs_of_rooms" (fP 55)
 QN:ic K "name_of_number" (fP 27)
 Tq:ic K "joined" (fP 56)
 Rw:ic K "_law_willing" (fP 66)
 Q7:ic K "_law_asks_left" (fP 68)
 Q5:ic K "_law_two_words" (fP 67)
 Sw:ic K "_law_part" (fP 69)
 QO:ic K "_law_two_takers" (fP 70)
 R8:ic K "_law_quiet" (fP 75)
 Rn:ic K "_law_in_order" (fP 76)
 Ry:ic K "_law_face_on" (fP 77)
 Rz:ic K "_law_face_at" (fP 78)
 R_:ic K "_law_heard" (fP 72)
 RQ:ic K "_law_beside" (fP 73)
 Rl:ic K "_law_same" (fP 74)
 Qn:ic K "_law_signs_of_two" (fP 71)
 Rm:ic K "_law_pairs_of" (fP 80)
 RA:ic K "_law_counted" (fP 81)
 TM:ic K "law" (fP 82)
section
variable{P:bR}{w:Wn}{K:Za}{mg:Ws->Option Wm}{base h:Wq}{C Cf ro sv:Wk}
section
variable(P:bR)(w:Wn)(K:Za)(mg:Ws->Option Wm)(C Cf ro sv:Wk)
abbrev nJ:Prop:=∀base,gS P w K mg base "_law_spread" ["cell","at"] 1 pA
abbrev yL:Prop:=∀base,gS P w K mg base "_law_open" ["script"] 1 (wg K)
abbrev gU:Prop:=∀base,gS P w K mg base "_law_take" ["pen","many"] 2 im
abbrev lD:Prop:=∀base,gS P w K mg base "_law_names" ["pen","many"] 3 oW
abbrev pW:Prop:=∀base,gS P w K mg base "_law_put" ["doors","door"] 1 uO
abbrev jf:Prop:=∀base,gS P w K mg base "_law_draw_doors" ["pen","asks","says","rooms","full"] 3 sX
abbrev vb:Prop:=∀base,gS P w K mg base "is_name" ["text"] 1 wh
abbrev mT:Prop:=∀base,gS P w K mg base "as_keys" ["things"] 1 (oD K)
abbrev gW:Prop:=∀base,gS P w K mg base "first_wrong_name" ["names","most","taken"] 2 (i0 K)
abbrev nM:Prop:=∀base,gS P w K mg base "door_signs" ["asks","says"] 1 (rz K)
abbrev gX:Prop:=∀base,gS P w K mg base "first_wrong_door" ["doors","rooms","signs"] 2 (mv K)
abbrev d6:Prop:=∀base,gS P w K mg base "goals_by_start_and_sign" ["doors"] 1 sV
abbrev kK:Prop:=∀base,gS P w K mg base "led_by_still" ["goals","room"] 1 BR
abbrev iG:Prop:=∀base,gS P w K mg base "first_led_round" ["rooms","led"] 1 mI
abbrev lC:Prop:=∀base,gS P w K mg base "need_none" ["part","number"] 1 lA
abbrev nI:Prop:=∀base,gS P w K mg base "need_parts" ["asks","says","rooms","doors"] 3 rr
abbrev ji:Prop:=∀base,gS P w K mg base "doors_by_start" ["rooms","doors"] 1 qy
abbrev jg:Prop:=∀base,gS P w K mg base "has_asks_alone" ["doors"] 1 qx
abbrev pX:Prop:=∀base,PB P w K mg base "Machine" C ["self","asks","says","rooms","doors"] 4 (sU C)
abbrev qv:Prop:=∀base,gS P w K mg base "_law_machine" ["told"] 6 (iO C)
abbrev dz:Prop:=∀base,GD P w K mg base C "rooms" ["self"] 1 (js C)
abbrev fm:Prop:=∀base,GD P w K mg base C "led_from" ["self","room"] 1 (ju C)
abbrev j4:Prop:=∀base,gS P w K mg base "with_still" ["M","rooms"] 2 (mu C)
abbrev fE:Prop:=∀base,GD P w K mg base C "goals" ["self","room","sign"] 1 (g_ C)
abbrev gZ:Prop:=∀base,GD P w K mg base C "is_quiet" ["self","room"] 1 (kY C)
abbrev iE:Prop:=∀base,gS P w K mg base "_law_still_on" ["doors","rooms"] 1 (jr K)
abbrev jN:Prop:=∀base,GD P w K mg base C "doors" ["self"] 1 (xD C)
abbrev f8:Prop:=∀base,GD P w K mg base C "doors_from" ["self","room"] 1 (jk C)
abbrev dZ:Prop:=∀base,GD P w K mg base C "asks" ["self"] 1 (kZ C)
abbrev dY:Prop:=∀base,GD P w K mg base C "says" ["self"] 1 (kW C)
abbrev nL:Prop:=∀base,gS P w K mg base "first_face" ["M"] 3 (fF C)
abbrev mj:Prop:=∀base,gS P w K mg base "face_behind" ["M","face","sign"] 3 (wj K C)
abbrev jc:Prop:=∀base,gS P w K mg base "signs_in_order" ["M"] 2 (BQ C sv)
abbrev sf:Prop:=∀base,gS P w K mg base "steps_at" ["M","face"] 4 (nc C)
abbrev eL:Prop:=∀base,GD P w K mg base Cf "number_at" ["self","face","story"] 1 (oU K Cf)
abbrev eG:Prop:=∀base,GD P w K mg base Cf "numbered_steps" ["self","number"] 5 (jR K Cf C)
abbrev pY:Prop:=∀base,PB P w K mg base "FaceMap" Cf ["self","M"] 6 (kq K Cf C)
abbrev f6:Prop:=∀base,gS P w K mg base "counts_one_sign_on" ["steps","counts"] 1 sR
abbrev yM:Prop:=∀base,gS P w K mg base "how_many" ["M","n"] 8 (jv K C)
abbrev yN:Prop:=∀base,gS P w K mg base "faces_of" ["M"] 8 (jw K C)
abbrev C2:Prop:=∀base,gS P w K mg base "takes" ["I","room","ask"] 2 (mB C)
abbrev fL:Prop:=∀base,gS P w K mg base "need_all_asks_taken" ["I"] 4 (jS C)
abbrev t4:Prop:=∀base,gS P w K mg base "common" ["words","others"] 1 ny
abbrev nG:Prop:=∀base,gS P w K mg base "wires_of" ["M","N"] 2 (oT C)
abbrev iH:Prop:=∀base,gS P w K mg base "asks_of_both" ["M","N"] 3 (oX C)
abbrev sj:Prop:=∀base,gS P w K mg base "is_small" ["M"] 2 (sQ C)
abbrev pf:Prop:=∀base,gS P w K mg base "need_join" ["M","N"] 4 (sS C)
abbrev nN:Prop:=∀base,gS P w K mg base "alone_from" ["M","room","wires"] 2 (sY C)
abbrev ml:Prop:=∀base,gS P w K mg base "doors_alone" ["M","N","here","wires"] 3 (pG K C)
abbrev nH:Prop:=∀base,gS P w K mg base "wire_goals" ["M","room","word"] 2 (sN C)
abbrev jh:Prop:=∀base,gS P w K mg base "doors_together" ["M","N","here","wires"] 3 (pF K C)
abbrev jd:Prop:=∀base,gS P w K mg base "pairs_of_rooms" ["M","N"] 2 (pB C)
abbrev je:Prop:=∀base,gS P w K mg base "name_of_number" ["number"] 1 sT
abbrev EM:Prop:=∀base,gS P w K mg base "joined" ["M","N"] 6 (iP C)
abbrev mh:Prop:=∀base,gS P w K mg base "_law_willing" ["pen","told"] 3 m_
abbrev gD:Prop:=∀base,gS P w K mg base "_law_asks_left" ["some"] 1 mC
abbrev jM:Prop:=∀base,gS P w K mg base "_law_two_words" ["pen","loose"] 4 wc
abbrev si:Prop:=∀base,gS P w K mg base "_law_part" ["pen","asks","says","most"] 4 we
abbrev mS:Prop:=∀base,gS P w K mg base "_law_two_takers" ["pen","one","two"] 5 sP
abbrev ph:Prop:=∀base,gS P w K mg base "_law_quiet" ["told","room"] 1 pC
abbrev iF:Prop:=∀base,gS P w K mg base "_law_in_order" ["told","some"] 2 Dw
abbrev jq:Prop:=∀base,gS P w K mg base "_law_face_on" ["told","face","sign"] 3 (xE K)
abbrev mi:Prop:=∀base,gS P w K mg base "_law_face_at" ["told","story"] 4 (pD K)
abbrev pj:Prop:=∀base,gS P w K mg base "_law_heard" ["told","sign"] 1 (pE K)
abbrev nK:Prop:=∀base,gS P w K mg base "_law_beside" ["told","face","sign"] 4 (pH K)
abbrev yJ:Prop:=∀base,gS P w K mg base "_law_same" ["found","due"] 5 (d_ K 4)
abbrev gV:Prop:=∀base,gS P w K mg base "_law_signs_of_two" ["first","second"] 2 wd
abbrev pi:Prop:=∀base,gS P w K mg base "_law_pairs_of" ["first","second"] 5 (ko K)
abbrev qw:Prop:=∀base,gS P w K mg base "_law_counted" ["start","behind","number"] 1 (kr K)
end
theorem IQ{X:L2.Cx}:PE X (.List [.List [.Constant (.int 0) 0 ⟨346,13,346,14⟩] ⟨346,12,346,15⟩,.List [.Constant (.int 0) 0 ⟨346,18,346,19⟩] ⟨346,17,346,20⟩,.List [.Constant (.int 1) 0 ⟨346,23,346,24⟩] ⟨346,22,346,25⟩,.List [.Constant (.int 1) 0 ⟨346,28,346,29⟩] ⟨346,27,346,30⟩,.List [.Constant (.int 2) 0 ⟨346,33,346,34⟩] ⟨346,32,346,35⟩,.List [.Constant (.int 2) 0 ⟨346,38,346,39⟩] ⟨346,37,346,40⟩,.List [.Constant (.int 3) 0 ⟨346,43,346,44⟩] ⟨346,42,346,45⟩,.List [.Constant (.int 3) 0 ⟨346,48,346,49⟩] ⟨346,47,346,50⟩,.List [.Constant (.int 1) 0 ⟨346,53,346,54⟩,.Constant (.int 2) 0 ⟨346,56,346,57⟩] ⟨346,52,346,58⟩,.List [.Constant (.int 1) 0 ⟨346,61,346,62⟩,.Constant (.int 2) 0 ⟨346,64,346,65⟩] ⟨346,60,346,66⟩,.List [.Constant (.int 0) 0 ⟨346,69,346,70⟩,.Constant (.int 3) 0 ⟨346,72,346,73⟩] ⟨346,68,346,74⟩,.List [.Constant (.int 0) 0 ⟨346,77,346,78⟩,.Constant (.int 3) 0 ⟨346,80,346,81⟩] ⟨346,76,346,82⟩,.List [] ⟨346,84,346,86⟩,.List [.Constant (.int 0) 0 ⟨346,89,346,90⟩,.Constant (.int 2) 0 ⟨346,92,346,93⟩] ⟨346,88,346,94⟩,.List [.Constant (.int 1) 0 ⟨346,97,346,98⟩,.Constant (.int 3) 0 ⟨346,100,346,101⟩] ⟨346,96,346,102⟩] ⟨346,11,346,103⟩) (bw<|av (bw<|aB<|tC<|.int 0)<|av (bw<|aB<|tC<|.int 0)<|av (bw<|aB<|tC<|.int 1)<|av (bw<|aB<|tC<|.int 1)<|av (bw<|aB<|tC<|.int 2)<|av (bw<|aB<|tC<|.int 2)<|av (bw<|aB<|tC<|.int 3)<|av (bw<|aB<|tC<|.int 3)<|av (bw<|aK (tC<|.int 1)<|tC<|.int 2)<|av (bw<|aK (tC<|.int 1)<|tC<|.int 2)<|av (bw<|aK (tC<|.int 0)<|tC<|.int 3)<|av (bw<|aK (tC<|.int 0)<|tC<|.int 3)<|av (bw aW)<|av (bw<|aK (tC<|.int 0)<|tC<|.int 2)<|aB<|bw<|aK (tC<|.int 1)<|tC<|.int 3):=by
 refine aN ?_;refine cL ?_ ?_
 .refine aN ?_;refine bg ?_ ?_ ?_
  .exact aj
  rotate_left
  .rfl
  exact bc
 refine cL ?_ ?_
 .refine aN ?_;refine bg ?_ ?_ ?_
  .exact aj
  rotate_left
  .rfl
  exact bc
 refine cL ?_ ?_
 .refine aN ?_;refine bg ?_ ?_ ?_
  .exact aj
  rotate_left
  .rfl
  exact bc
 refine cL ?_ ?_
 .refine aN ?_;refine bg ?_ ?_ ?_
  .exact aj
  rotate_left
  .rfl
  exact bc
 refine cL ?_ ?_
 .refine aN ?_;refine bg ?_ ?_ ?_
  .exact aj
  rotate_left
  .rfl
  exact bc
 refine cL ?_ ?_
 .refine aN ?_;refine bg ?_ ?_ ?_
  .exact aj
  rotate_left
  .rfl
  exact bc
 refine cL ?_ ?_
 .refine aN ?_;refine bg ?_ ?_ ?_
  .exact aj
  rotate_left
  .rfl
  exact bc
 refine cL ?_ ?_
 .refine aN ?_;refine bg ?_ ?_ ?_
  .exact aj
  rotate_left
  .rfl
  exact bc
 refine cL ?_ ?_
 .refine aN ?_;refine bg ?_ ?_ ?_
  .exact aj
  rotate_left
  .rfl
  refine bg ?_ ?_ ?_
  .exact aj
  rotate_left
  .rfl
  exact bc
 refine cL ?_ ?_
 .refine aN ?_;refine bg ?_ ?_ ?_
  .exact aj
  rotate_left
  .rfl
  refine bg ?_ ?_ ?_
  .exact aj
  rotate_left
  .rfl
  exact bc
 refine cL ?_ ?_
 .refine aN ?_;refine bg ?_ ?_ ?_
  .exact aj
  rotate_left
  .rfl
  refine bg ?_ ?_ ?_
  .exact aj
  rotate_left
  .rfl
  exact bc
 refine cL ?_ ?_
 .refine aN ?_;refine bg ?_ ?_ ?_
  .exact aj
  rotate_left
  .rfl
  refine bg ?_ ?_ ?_
  .exact aj
  rotate_left
  .rfl
  exact bc
 refine cL ?_ ?_
 .refine aN ?_;exact bc
 refine cL ?_ ?_
 .refine aN ?_;refine bg ?_ ?_ ?_
  .exact aj
  rotate_left
  .rfl
  refine bg ?_ ?_ ?_
  .exact aj
  rotate_left
  .rfl
  exact bc
 refine cL ?_ ?_
 .refine aN ?_;refine bg ?_ ?_ ?_
  .exact aj
  rotate_left
  .rfl
  refine bg ?_ ?_ ?_
  .exact aj
  rotate_left
  .rfl
  exact bc
 exact bc
theorem IR{X:L2.Cx}:PE X (.List [.List [] ⟨345,12,345,14⟩,.List [] ⟨345,16,345,18⟩,.List [] ⟨345,20,345,22⟩,.List [] ⟨345,24,345,26⟩] ⟨345,11,345,27⟩) (bw<|av (bw aW)<|eP (bw aW) (bw aW)<|bw aW):=by
 refine aN ?_;refine cL ?_ ?_
 .refine aN ?_;exact bc
 refine cL ?_ ?_
 .refine aN ?_;exact bc
 refine cL ?_ ?_
 .refine aN ?_;exact bc
 refine cL ?_ ?_
 .refine aN ?_;exact bc
 exact bc
section
variable(X:K.In h)(G:h.Ns cw mg)(z:Zs mg)(c:Cs K mg C Cf ro sv)(T:Ts K C Cf)
include X G z c T
theorem y8:nJ P w K mg:=λbase=>dG X G T.RP (λS a e h=>bK (Iv (K:=K) h)<|ac (bX (mm O3 (pv 0)<|aV K2 aj aj) (af<|aw<|pv 0) aP)<|ac (qs 2 S<|aV iX (aV dU (aV dU (aV iu (aV iX (pv 0) aj) aj)<|aV iu (pv 1) aj) aj) aj)<|ac (qs 3 S<|aV iX (aV dU (aV dU (aV iu (pv 2)<|pv 2)<|aV iu (pv 1) aj)<|aV iX (pv 0) aj) aj)<|ac (qs 4 S<|aV iX (aV dU (aV dU (aV iu (pv 3)<|pv 3)<|aV iu (pv 2) aj) aj) aj)<|af<|aw<|aV dU (aV iu (aV dU (aV iu (pv 2) aj)<|pv 3) aj)<|pv 4)
theorem Dp:yL P w K mg:=λbase=>dG X G T.Sx (λS a e h=>bK (MG h)<|ac (qs 1 S<|qL rfl z.list<|a1<|gu ng (pv 0) jV<|iq aj)<|ac (bD bp rfl (pJ rfl z.enumerate<|a1<|gu ng (pv 0) (iq aj)<|iq aj) (dS rfl<|ay (gn 2 S)<|ay (gn 3 S) cG)<|af<|ma (aV dU (xl (pv 1)<|aV iX (pv 2) aj)<|pv 3)<|BZ (pv 1) (aV iX (pv 2) aj) s_)<|af<|aw<|aN<|a3 (pv 1) aj aj)
theorem Dm(a:nJ P w K mg):gU P w K mg:=λbase=>dG X G T.Sv (λS e f h=>bK (MB h)<|ac (bX (mm xP (xl (pv 0) aj)<|pv 1) (ac (qs 2 S<|xl (pv 0) aj)<|ac (qs 3 S aj)<|ac (bX (mm xP (pv 2)<|ql z.len<|a1<|xl (pv 0) aj) (af<|qs 3 S<|xl (xl (pv 0) aj)<|pv 2)<|af<|bX (mm vp (ql z.len<|a1<|xl (pv 0) aj) aj) (af<|qs 3 S<|aV iX (xl (xl (pv 0) aj)<|aV iX (aV dU (aV iu (pv 2) aj) aj)<|ql z.len<|a1<|xl (pv 0) aj)<|aV dU (aV K2 aj aj)<|pv 2) aP)<|ac (ma (aV dU (pv 2) aj)<|BZ (pv 0) aj s_)<|af<|ma (qf e (a base)<|a2 (pv 3)<|pv 2)<|BZ (pv 0) aj s_) aP)<|ac (qs 4 S<|aV iX (xl (pv 0) aj)<|pv 1)<|ac (ma (aV Hi (xl (pv 0) aj)<|pv 1)<|BZ (pv 0) aj s_)<|af<|aw<|pv 4)
theorem BN(a:gU P w K mg):lD P w K mg:=λbase=>dG X G T.R9 (λS e f h=>bK (Ky h) (ac (qs 2 S cC) (ac (qs 3 S (gv PySem.F.plainAttrs_str PySem.F.slot_str_join PySem.F.type_str_join Nc cC (a1 (qc (iT rfl z.range<|a1 aj) (aO Wt) λ_ _ _ _ _ _=>⟨gc 0,cK,QT (pv 1)<|qf e (a base)<|a2 (pv 2) aj⟩))))<|ac (qs 4 S<|qf e (a base)<|a2 (pv 0) aj)<|ac (qs 5 S<|qf e (a base)<|a2 (pv 0) aj)<|ac (qs 6 S<|qf e (a base)<|a2 (pv 0) aj)<|ac (qs 7 S<|aN bc)<|ac (bD bp rfl (iT rfl z.range<|a1<|pv 1) (gn 8 S)<|ac (qs 9 S<|QT (pv 2)<|aV iX (aV dU (pv 5)<|aV iu aj<|pv 8) aj)<|ac (qs 10 S<|gu BT (pv 3) jV<|iq<|aV iX (aV dU (pv 6)<|aV iu (pv 8)<|aV iX (pv 4) aj) aj)<|ac (qs 11 S<|xl (aN<|a3 aj (ql z.len<|a1<|pv 10)<|aV Hi (ql z.len<|a1<|pv 10) aj)<|pv 4)<|af<|bB<|gv eO gG gF cP (pv 7)<|a1<|aV rF (aV rF (gu BT (pv 10) jV<|iq<|pv 11)<|pv 9)<|gu BT (pv 10) (iq<|pv 11) jV)<|af<|aw<|pv 7)))
theorem Fi:pW P w K mg:=λbase=>dG X G T.Tc (λS e a h=>bK (Oc h)<|af<|bX (EO (iW a) (pv 1)<|pv 0) (af<|bB<|gv eO gG gF cP (pv 0)<|a1<|pv 1) aP)
theorem sG(a:gU P w K mg)(e:pW P w K mg):jf P w K mg:=λbase=>dG X G T.QP (λS f g h=>bK (KB h)<|ac (qs 5 S<|aN bc)<|ac (qs 6 S<|qf f (a base)<|a2 (pv 0) aj)<|ac (bD bp rfl (pJ rfl z.enumerate<|a1<|pv 3) (dS rfl<|ay (gn 7 S)<|ay (gn 8 S) cG)<|ac (bD bp rfl (iT rfl z.range<|a1<|xl (aN<|bg aj<|a3 aj aj aj)<|qf f (a base)<|a2 (pv 0) aj) (gn 9 S)<|ac (qs 10 S<|be<|a2 cC<|xl (pv 2)<|qf f (a base)<|a2 (pv 0)<|ql z.len<|a1<|pv 2)<|af<|bB<|qf f (e base)<|a2 (pv 5)<|be<|a3 (pv 8) (pv 10)<|xl (pv 3)<|qf f (a base)<|a2 (pv 0)<|ql z.len<|a1<|pv 3)<|ac (bD bp rfl (aQ<|pv 1) (gn 11 S)<|af<|bD bp rfl (iT rfl z.range<|a1<|xl (aN<|bg (pv 4)<|a3 aj aj aj)<|qf f (a base)<|a2 (pv 0) aj) (gn 9 S)<|af<|bB<|qf f (e base)<|a2 (pv 5)<|be<|a3 (pv 8) (be<|a2 cC<|pv 11)<|xl (pv 3)<|qf f (a base)<|a2 (pv 0)<|ql z.len<|a1<|pv 3)<|ac (qs 12 S<|xl (aN<|a2 (gu ng (pv 3) (iq<|aV dU (pv 7) aj) jV)<|gu ng (pv 3) jV<|iq<|pv 7)<|pv 6)<|af<|bX (PW.pt<|l_ (mm (FN g) (pv 12)<|aN bc)<|k6<|mm nW (qf f (a base)<|a2 (pv 0) aj) aj) (af<|bB<|qf f (e base)<|a2 (pv 5)<|be<|a3 (pv 8) (be<|a1 cC)<|xq (pv 12)<|qf f (a base)<|a2 (pv 0)<|ql z.len<|a1<|pv 12) aP)<|af<|aw<|pv 5)
theorem Fj:vb P w K mg:=λbase=>dG X G T.Td (λS a e h=>bK (Fx h) (af (aw (rE (LX DN (pv 0) cC) (rE (LX K3 (ql z.len<|a1<|pv 0)<|ir rfl c.LONGEST_NAME) (xM (qB (ln rfl) z.all AG (a1 (qc (Oe<|pv 0) (aO Wt) λ_ _ _ _ _ _=>⟨gc 0,cK,V' FO (pv 0)<|ir rfl c.LETTERS⟩)))))))))
theorem Fk:mT P w K mg:=λbase=>dG X G T.Te (λS e a h=>bK (FA h)<|ac (qs 1 S oZ)<|ac (bD bp rfl (aQ<|pv 0) (gn 2 S)<|af<|gB a (pv 1) (pv 2) jP rfl)<|af<|aw<|pv 1)
theorem qa(a:vb P w K mg)(e:mT P w K mg):gW P w K mg:=λbase=>dG X G T.Qo (λS f g h=>bK (qd h)<|ac (bX (mm nW (ql z.len<|a1<|pv 0) aj) (af<|aw aj) aP)<|ac (qs 3 S<|qf f (e base)<|a1<|pv 2)<|ac (bD bp rfl (pJ rfl z.enumerate<|a1<|pv 0) (dS rfl<|ay (gn 4 S)<|ay (gn 5 S) cG)<|ac (bX (PW.pt<|mD (mm nW (pv 4)<|pv 1)<|mD (iR<|xN g (pv 5)<|pv 3)<|l9<|kC<|e_<|qf f (a base)<|a1<|pv 5) (af<|aw<|pv 4) aP)<|af<|gB g (pv 3) (pv 5) jP rfl)<|af<|aw B1)
theorem za:nM P w K mg:=λbase=>dG X G T.RT (λS a e h=>bK (zm c.still h) (af (aw (aV fI (aV fI (qc (aQ<|pv 0) (aO Wt) λ_ _ _ _ _ _=>⟨gc 0,cK,be<|a2 cC<|pv 0⟩) (qc (aQ<|pv 1) (aO Wt) λ_ _ _ _ _ _=>⟨gc 0,cK,be<|a2 cC<|pv 0⟩))<|aN<|a1<|ir rfl c.STILL))))
theorem qb(a:mT P w K mg):gX P w K mg:=λbase=>dG X G T.Qp (λS f e h=>bK (qe h)<|ac (qs 3 S<|qf f (a base)<|a1<|pv 1)<|ac (qs 4 S kE)<|ac (bD bp rfl (pJ rfl z.enumerate<|a1<|pv 0) (dS rfl<|ay (gn 5 S)<|ay (gn 6 S) cG)<|ac (bX (PW.pt<|mD (mm nW (pv 5)<|ir rfl c.MOST_DOORS)<|l9<|iR<|xN e (pv 6)<|pv 4) (af<|aw<|pv 5) aP)<|ac (bX (PW.pt<|mD (iR<|j5 e (xq (pv 6) aj)<|pv 3)<|mD (EO (iW e) (xq (pv 6) aj)<|pv 2)<|l9<|iR<|j5 e (xq (pv 6) aj)<|pv 3) (af<|aw<|pv 5) aP)<|af<|gB e (pv 4) (pv 6) jP rfl)<|af<|aw B1)
theorem km:d6 P w K mg:=λbase=>dG X G T.Kx (λS e a h=>bK (kA h)<|ac (qs 1 S kE)<|ac (bD bp rfl (aQ<|pv 0) (dS rfl<|ay (gn 2 S)<|ay (gn 3 S)<|ay (gn 4 S) cG)<|af<|bB<|gv eO gG gF cP (gv PySem.F.plainAttrs_dict PySem.F.slot_dict_setdefault PySem.F.type_dict_setdefault (IU a) (pv 1)<|a2 (be<|a2 (pv 2)<|pv 3)<|aN bc)<|a1<|pv 4)<|af<|aw<|pv 1)
theorem vO:kK P w K mg:=λbase=>dG X G T.Rj (λS e a h=>bK (vT c.still h)<|ac (qs 2 S oZ)<|ac (qs 3 S<|aN<|a1<|pv 1)<|ac (tE bp (mm vp (ql z.len<|a1<|pv 3) aj)<|ac (qs 4 S<|Ol eO PySem.F.slot_list_pop PySem.F.type_list_pop On<|pv 3)<|af<|bD bp rfl (Of<|mF a (pv 0) (be<|a2 (pv 4)<|ir rfl c.STILL) (be bc) ⟨fj,fj,fj,fj⟩) (gn 5 S)<|af<|bX (iR<|j5 a (pv 5)<|pv 2) (ac (gB a (pv 2) (pv 5) jP rfl)<|af<|bB<|gv eO gG gF cP (pv 3)<|a1<|pv 5) aP)<|af<|aw<|pv 2)
theorem rp:iG P w K mg:=λbase=>dG X G T.QF (λS e a h=>bK (rq h)<|ac (bD bp rfl (pJ rfl z.enumerate<|a1<|pv 0) (dS rfl<|ay (gn 2 S)<|ay (gn 3 S) cG)<|af<|bX (iR<|xN a (pv 3)<|jW a (pv 1) (pv 3)<|λ_ _=>rfl) (af<|aw<|pv 2) aP)<|af<|aw B1)
theorem BK:lC P w K mg:=λbase=>dG X G T.R6 (λS a e h=>bK (BV (K:=K) h)<|af<|bX (iR<|M7<|pv 1) (af<|kD) aP)
theorem yZ(a:gW P w K mg)(g:nM P w K mg)(f:gX P w K mg)(e:lC P w K mg):nI P w K mg:=λbase=>dG X G T.RO (λS i j h=>bK (zh (K:=K) h)<|ac (bB<|qf i (e base)<|a2 cC<|qf i (a base)<|a3 (pv 0) (ir rfl c.MOST_WORDS)<|aN bc)<|ac (bB<|qf i (e base)<|a2 cC<|qf i (a base)<|a3 (pv 1) (ir rfl c.MOST_WORDS)<|pv 0)<|ac (bB<|qf i (e base)<|a2 cC<|qf i (a base)<|a3 (pv 2) (ir rfl c.MOST_ROOMS)<|aN bc)<|af<|bB<|qf i (e base)<|a2 cC<|qf i (f base)<|a3 (pv 3) (pv 2)<|qf i (g base)<|a2 (pv 0)<|pv 1)
theorem sL:ji P w K mg:=λbase=>dG X G T.QS (λS e a h=>bK (tq h)<|ac (qs 2 S oZ)<|ac (bD bp rfl (aQ<|pv 0) (gn 3 S)<|af<|gB a (pv 2) (pv 3) (aN bc) rfl)<|ac (bD bp rfl (aQ<|pv 1) (gn 4 S)<|af<|bB<|gv eO gG gF cP (jW a (pv 2) (xq (pv 4) aj)<|λ_ _=>rfl)<|a1<|pv 4)<|af<|aw<|pv 2)
theorem sH:jg P w K mg:=λbase=>dG X G T.QQ (λS a e h=>bK (tp h) (af (aw (qB (ln rfl) z.all AG (a1 (qc (aQ<|pv 0) (aO Wt) λ_ _ _ _ _ _=>⟨gc 0,cK,LX nW (xq (xq (pv 0) aj) aj) cC⟩))))))
theorem Fl(l:mT P w K mg)(a:d6 P w K mg)(i:kK P w K mg)(e:iG P w K mg)(k:lC P w K mg)(j:nI P w K mg)(f:ji P w K mg)(g:jg P w K mg):pX P w K mg C:=λbase=>dN c.cm c.makes c.kc T.Qs (λS m n h=>bK (MH c.mc h) (ac (bB<|qf m (j base)<|bg (pv 1)<|a3 (pv 2) (pv 3)<|pv 4) (ac (iS (pv 0) (qL rfl z.list<|a1<|pv 1) rfl) (ac (iS (pv 0) (qL rfl z.list<|a1<|pv 2) rfl) (ac (iS (pv 0) (qL rfl z.list<|a1<|pv 3) rfl) (ac (iS (pv 0) (qL rfl z.list<|a1<|pv 4) rfl) (ac (iS (pv 0) (qf m (f base)<|a2 (pv 3)<|pv 4) rfl) (ac (iS (pv 0) (qf m (l base) (a1 (qc (aQ<|pv 3) (aO Wt) λ_ _ _ _ _ _=>⟨gc 0,f_<|e_<|qf m (g base)<|a1<|jW n (cR (pv 1) rfl) (pv 0)<|λ_ _=>rfl,pv 0⟩))) rfl) (ac (iS (pv 0) (qf m (a base)<|a1<|pv 4) rfl) (ac (iS (pv 0) (iU (CC rfl) rfl z.dict yq (a1 (qc (aQ<|pv 3) (aO Wt) λ_ _ _ _ _ _=>⟨gc 0,cK,be<|a2 (pv 0)<|qf m (i base)<|a2 (cR (pv 1) rfl)<|pv 0⟩))) rfl)<|af<|bB<|qf m (k base)<|a2 cC<|qf m (e base)<|a2 (pv 3)<|cR (pv 0) rfl))))))))))
theorem xr(a:pX P w K mg C):qv P w K mg C:=λbase=>dG X G T.Rx (λS e f h=>bK (Fw h) (af (aw (B6 (a base) (e.mono Wt) rfl<|bg (qL rfl z.list<|a1<|xq (pv 0) aj)<|a3 (qL rfl z.list<|a1<|xq (pv 0) aj) (qL rfl z.list<|a1<|xq (pv 0) aj)<|qL rfl z.list<|a1<|xq (pv 0) aj))))
theorem uH:dz P w K mg C:=λbase=>dM c.mc.cls T.Q8 (λS a e h=>bK (Ks c.mc h)<|af<|aw<|qL rfl z.list<|a1<|cR (pv 0) rfl)
theorem p8:fm P w K mg C:=λbase=>dM c.mc.cls T.Qq (λS e a h=>bK (Dy c.mc h)<|af<|aw<|qL rfl z.list<|a1<|mF a (cR (pv 0) rfl) (pv 1) (be bc) ⟨fj,fj,fj,fj⟩)
theorem yX(e:dz P w K mg C)(a:fm P w K mg C):j4 P w K mg C:=λbase=>dG X G T.RM (λS g f h=>bK (ze h) (ac (qs 2 S oZ) (ac (bD bp rfl (aQ<|pv 1) (gn 3 S)<|af<|bX (iR<|j5 f (pv 3)<|pv 2) (ac (gB f (pv 2) (pv 3) jP rfl)<|af<|bD bp rfl (aQ<|qm g (a base) (pv 0)<|a1<|pv 3) (gn 4 S)<|af<|gB f (pv 2) (pv 4) jP rfl) aP) (af (aw (iU jo rfl z.tuple jB (a1 (qc (aQ<|vU g (e base)<|pv 0) (aO Wt) λ_ _ _ _ _ _=>⟨gc 0,f_<|iR<|xN f (pv 0)<|pv 1,pv 0⟩))))))))
theorem uI:fE P w K mg C:=λbase=>dM c.mc.cls T.Q9 (λS e a h=>bK (Iz c.mc h)<|af<|aw<|qL rfl z.list<|a1<|mF a (cR (pv 0) rfl) (be<|a2 (pv 1)<|pv 2) (be bc) ⟨fj,fj,fj,fj⟩)
theorem p9:gZ P w K mg C:=λbase=>dM c.mc.cls T.Qr (λS e a h=>bK (Dz c.mc h)<|af<|aw<|K1<|xN a (pv 1)<|cR (pv 0) rfl)
theorem vP:iE P w K mg:=λbase=>dG X G T.Rk (λS e a h=>bK (Dx h)<|ac (qs 2 S<|qL rfl z.list<|a1<|pv 1)<|ac (qs 3 S aj)<|ac (tE bp (mm xP (pv 3)<|ql z.len<|a1<|pv 2)<|ac (bD bp rfl (aQ<|pv 0) (dS rfl<|ay (gn 4 S)<|ay (gn 5 S)<|ay (gn 6 S) cG)<|af<|bX (PW.pt<|l_ (mm (iY a) (pv 4)<|xq (pv 2)<|pv 3)<|l_ (mm (iY a) (pv 5)<|be<|a1 cC)<|k6<|EO (iW a) (pv 6)<|pv 2) (af<|bB<|gv eO gG gF cP (pv 2)<|a1<|pv 6) aP)<|af<|qs 3 S<|aV dU (pv 3) aj)<|af<|aw<|pv 2)
theorem uJ:jN P w K mg C:=λbase=>dM c.mc.cls T.Q_ (λS a e h=>bK (KC c.mc h)<|af<|aw<|qL rfl z.list<|a1<|cR (pv 0) rfl)
theorem nZ:f8 P w K mg C:=λbase=>dM c.mc.cls T.P9 (λS e a h=>bK (zk c.mc h)<|af<|aw<|qL rfl z.list<|a1<|mF a (cR (pv 0) rfl) (pv 1) (be bc) ⟨fj,fj,fj,fj⟩)
theorem vN:dZ P w K mg C:=λbase=>dM c.mc.cls T.Rq (λS a e h=>bK (ML c.mc h)<|af<|aw<|qL rfl z.list<|a1<|cR (pv 0) rfl)
theorem vM:dY P w K mg C:=λbase=>dM c.mc.cls T.Rp (λS a e h=>bK (ME c.mc h)<|af<|aw<|qL rfl z.list<|a1<|cR (pv 0) rfl)
theorem y_(a:dz P w K mg C)(e:j4 P w K mg C):nL P w K mg C:=λbase=>dG X G T.RS (λS f g h=>bK (zi h)<|af<|aw<|qf f (e base)<|a2 (pv 0)<|gu ng (vU f (a base)<|pv 0) jV<|iq aj)
theorem xy(f:j4 P w K mg C)(e:fE P w K mg C)(a:gZ P w K mg C):mj P w K mg C:=λbase=>dG X G T.RB (λS g i h=>bK (MI c.hush h) (ac (bX (mm (iY i) (pv 2)<|ir rfl c.HUSH) (af (aw (iU jo rfl z.tuple jB (a1 (qc (FK<|pv 1) (aO Wt) λ_ _ _ _ _ _=>⟨gc 0,f_<|e_<|qm g (a base) (pv 1)<|a1<|pv 0,pv 0⟩))))) aP)<|ac (qs 3 S<|aN bc)<|ac (bD bp rfl (FK<|pv 1) (gn 4 S)<|af<|bB<|gv eO AF AE pM (pv 3)<|a1<|qm g (e base) (pv 0)<|a2 (pv 4)<|pv 2)<|af<|aw<|qf g (f base)<|a2 (pv 0)<|pv 3))
theorem sC(a:dZ P w K mg C)(e:dY P w K mg C):jc P w K mg C sv:=λbase=>dG X G T.QL (λS f g h=>bK (Ob h) (af (aw (aV fI (aV fI (qc (aQ<|vU f (a base)<|pv 0) (aO Wt) λ_ _ _ _ _ _=>⟨gc 0,cK,be<|a2 cC<|pv 0⟩) (qc (aQ<|vU f (e base)<|pv 0) (aO Wt) λ_ _ _ _ _ _=>⟨gc 0,cK,be<|a2 cC<|pv 0⟩))<|aN<|a1<|ir rfl c.HUSH))))
theorem Dl(e:mj P w K mg C)(a:jc P w K mg C sv):sf P w K mg C:=λbase=>dG X G T.Ss (λS f g h=>bK (Fu c.hush h)<|ac (qs 2 S kE)<|ac (bD bp rfl (aQ<|qf f (a base)<|a1<|pv 0) (gn 3 S)<|ac (qs 4 S<|qf f (e base)<|a3 (pv 0) (pv 1)<|pv 3)<|af<|bX (mm vp (ql z.len<|a1<|pv 4) aj) (af<|DF g (pv 2) (pv 3) (pv 4) rfl) aP)<|af<|aw<|pv 2)
theorem oP:eL P w K mg Cf:=λbase=>dM c.fc.cls T.Qg (λS e a h=>bK (Kv c.fc h)<|ac (bX (iR<|j5 a (pv 1)<|cR (pv 0) rfl) (ac (bX (mm nW (ql z.len<|a1<|cR (pv 0) rfl)<|ir rfl c.MOST_FACES) (af<|kD) aP)<|ac (gB a (cR (pv 0) rfl) (pv 1) (ql z.len<|a1<|cR (pv 0) rfl) rfl)<|ac (bB<|gv eO gG gF cP (cR (pv 0) rfl)<|a1<|pv 1)<|af<|bB<|gv eO gG gF cP (cR (pv 0) rfl)<|a1<|pv 2) aP)<|af<|aw<|jW a (cR (pv 0) rfl) (pv 1)<|λ_ _=>rfl)
theorem kN(e:sf P w K mg C)(a:eL P w K mg Cf):eG P w K mg C Cf:=λbase=>dM c.fc.cls T.Mr (λS f g h=>bK (BU c.fc h)<|ac (qs 2 S kE)<|ac (bD bp rfl (IN<|qf f (e base)<|a2 (cR (pv 0) rfl)<|xl (cR (pv 0) rfl)<|pv 1) (dS rfl<|ay (gn 3 S)<|ay (gn 4 S) cG)<|af<|DF g (pv 2) (pv 3) (qm f (a base) (pv 0)<|a2 (pv 4)<|aV fI (xl (cR (pv 0) rfl)<|pv 1)<|aN<|a1<|pv 3) rfl)<|af<|aw<|pv 2)
theorem Fm(f:nL P w K mg C)(e:eL P w K mg Cf)(a:eG P w K mg C Cf):pY P w K mg C Cf:=λbase=>dN c.Vk c.TC c.kcfc T.Qt (λS g i h=>bK (Fy c.fc h)<|ac (iS (pv 0) (pv 1) rfl)<|ac (iS (pv 0) (aN bc) rfl)<|ac (iS (pv 0) (aN bc) rfl)<|ac (iS (pv 0) kE rfl)<|ac (iS (pv 0) (aN bc) rfl)<|ac (bB<|qm g (e base) (pv 0)<|a2 (qf g (f base)<|a1<|pv 1)<|aN bc)<|af<|tE bp (mm xP (ql z.len<|a1<|cR (pv 0) rfl)<|ql z.len<|a1<|cR (pv 0) rfl)<|af<|bB<|gv eO gG gF cP (cR (pv 0) rfl)<|a1<|qm g (a base) (pv 0)<|a1<|ql z.len<|a1<|cR (pv 0) rfl)
theorem n5:f6 P w K mg:=λbase=>dG X G T.P8 (λS e a h=>bK (Kt h)<|ac (qs 2 S oZ)<|ac (bD bp rfl (IP<|pv 1) (dS rfl<|ay (gn 3 S)<|ay (gn 4 S) cG)<|af<|bD bp rfl (KY<|xl (pv 0)<|pv 3) (gn 5 S)<|af<|gB a (pv 2) (pv 5) (aV dU (mF a (pv 2) (pv 5) aj ⟨fj,fj,fj,fj⟩)<|pv 4) rfl)<|af<|aw<|pv 2)
theorem Dr(e:pY P w K mg C Cf)(a:f6 P w K mg):yM P w K mg C:=λbase=>dG X G T.SA (λS f g h=>bK (DA c.fc h) (ac (qs 2 S (cR (B6 (e base) (f.mono Wt) rfl<|a1<|pv 0) rfl)) (ac (bX (mm xP (pv 1) aj) (af<|aw aj) aP) (ac (qs 3 S (M0 (KW aj aj MT) rfl rfl nofun Wt))<|ac (bD bp rfl (iT rfl z.range<|a1<|pv 1) (gn 4 S)<|af<|qs 3 S<|qf f (a base)<|a2 (pv 2)<|pv 3)<|af<|aw<|MV (pv 3) rfl rfl z.sum))))
theorem Ds(a:pY P w K mg C Cf):yN P w K mg C:=λbase=>dG X G T.SD (λS e f h=>bK (DB c.fc h) (ac (qs 1 S (B6 (a base) (e.mono Wt) rfl<|a1<|pv 0))<|af<|aw<|FL rfl rfl z.list rfl z.zip<|a2 (cR (pv 1) rfl)<|cR (pv 1) rfl))
theorem Kg(a:fm P w K mg C)(e:fE P w K mg C):C2 P w K mg C:=λbase=>dG X G T.TL (λS f g h=>bK (Kq h) (af (aw (qB (Ey rfl) z.any boot_any (a1 (qc (aQ<|aV fI (aN<|a1<|pv 1)<|qm f (a base) (pv 0)<|a1<|pv 1) (aO Wt) λ_ _ _ _ _ _=>⟨gc 0,cK,LX vp (ql z.len<|a1<|qm f (e base) (pv 1)<|a2 (pv 0)<|be<|a2 cC<|pv 2) aj⟩))))))
theorem m9(a:dz P w K mg C)(e:dZ P w K mg C)(f:C2 P w K mg C):fL P w K mg C:=λbase=>dG X G T.PU (λS g i h=>bK (BW h)<|af<|bD bp rfl (aQ<|vU g (a base)<|pv 0) (gn 1 S)<|af<|bD bp rfl (aQ<|vU g (e base)<|pv 0) (gn 2 S)<|af<|bX (kC<|e_<|qf g (f base)<|a3 (pv 0) (pv 1)<|pv 2) (af<|kD) aP)
theorem Io:t4 P w K mg:=λbase=>dG X G T.Tr (λS e a h=>bK (IG h) (af (aw (qc (aQ<|pv 0) (aO Wt) λ_ _ _ _ _ _=>⟨gc 0,f_<|EO (nj a) (pv 0)<|pv 1,pv 0⟩))))
theorem Dk(a:dZ P w K mg C)(e:dY P w K mg C)(f:t4 P w K mg):nG P w K mg C:=λbase=>dG X G T.Sr (λS g i h=>bK (Ko (K:=K) h)<|af<|aw<|aV fI (qf g (f base)<|a2 (vU g (e base)<|pv 0)<|vU g (a base)<|pv 1)<|qf g (f base)<|a2 (vU g (e base)<|pv 1)<|vU g (a base)<|pv 0)
theorem vS(a:dZ P w K mg C)(e:nG P w K mg C):iH P w K mg C:=λbase=>dG X G T.Ro (λS f g h=>bK (KD h) (ac (qs 2 S<|qf f (e base)<|a2 (pv 0)<|pv 1) (af (aw (qc (aQ<|aV fI (vU f (a base)<|pv 0)<|vU f (a base)<|pv 1) (aO Wt) λ_ _ _ _ _ _=>⟨gc 0,f_<|EO (iW g) (pv 0)<|pv 1,pv 0⟩)))))
theorem Dq(a:dz P w K mg C)(e:jN P w K mg C):sj P w K mg C:=λbase=>dG X G T.Sy (λS f g h=>bK (Kr h)<|af<|aw<|rE (LX K3 (ql z.len<|a1<|vU f (a base)<|pv 0)<|ir rfl c.MOST_JOINED_ROOMS)<|xM<|LX K3 (ql z.len<|a1<|vU f (e base)<|pv 0)<|ir rfl c.MOST_JOINED_DOORS)
theorem BL(e:dZ P w K mg C)(a:dY P w K mg C)(i:t4 P w K mg)(f:iH P w K mg C)(g:sj P w K mg C):pf P w K mg C:=λbase=>dG X G T.R7 (λS j k h=>bK (Kw h)<|ac (bX (PW.pt<|mD (kC<|e_<|qf j (g base)<|a1<|pv 0)<|l9<|kC<|e_<|qf j (g base)<|a1<|pv 1) (af<|kD) aP)<|ac (bX (PW.pt<|mD (mm vp (ql z.len<|a1<|qf j (i base)<|a2 (vU j (e base)<|pv 0)<|vU j (e base)<|pv 1) aj)<|l9<|mm vp (ql z.len<|a1<|qf j (i base)<|a2 (vU j (a base)<|pv 0)<|vU j (a base)<|pv 1) aj) (af<|kD) aP)<|ac (bX (mm nW (ql z.len<|a1<|qf j (f base)<|a2 (pv 0)<|pv 1) aj) (af<|kD) aP)<|af<|bX (PW.pt<|mD (mm vp (ql z.len<|a1<|qf j (f base)<|a2 (pv 0)<|pv 1)<|ir rfl c.MOST_WORDS)<|l9<|mm vp (ql z.len<|a1<|aV fI (vU j (a base)<|pv 0)<|vU j (a base)<|pv 1)<|ir rfl c.MOST_WORDS) (af<|kD) aP)
theorem zb(a:f8 P w K mg C):nN P w K mg C:=λbase=>dG X G T.RU (λS f e h=>bK (KG c.still h) (af (aw (qc (aQ<|qm f (a base) (pv 0)<|a1<|pv 1) (pK (dk (aO Wt) bv (dk (aO Wt) bv (dk (aO Wt) bv (mG)<|dq)<|eE bv<|dq)<|eE bv<|eE bv<|dq)) λ_ _ _ _ _ _=>⟨dS rfl<|ay (gc 0)<|ay (gc 1)<|ay (gc 2) cG,f_<|PW.pt<|mD (mm (iY e) (pv 1)<|ir rfl c.STILL)<|l9<|EO (iW e) (xt (pv 1) aj)<|pv 3,be<|a2 (pv 1)<|pv 2⟩))))
theorem xz(a:nN P w K mg C):ml P w K mg C:=λbase=>dG X G T.RC (λS e f h=>bK (IF h) (ac (ma (pv 2)<|dS rfl<|ay (gn 4 S)<|ay (gn 5 S) cG) (ac (Pw 6 S (aQ<|qf e (a base)<|a3 (pv 0) (pv 4)<|pv 3) (pK (dk (aO Wt) bv (dk (aO Wt) bv (mG)<|dq)<|eE bv<|dq)) λ_ _ _ _ _ _=>⟨dS rfl<|ay (gc 0)<|ay (gc 1) cG,cK,be<|a3 (pv 2) (pv 0)<|be<|a2 (pv 1)<|pv 3⟩) (af (aw (aV fI (pv 6) (qc (aQ<|qf e (a base)<|a3 (pv 1) (pv 5)<|pv 3) (pK (dk (aO Wt) bv (dk (aO Wt) bv (mG)<|dq)<|eE bv<|dq)) λ_ _ _ _ _ _=>⟨dS rfl<|ay (gc 0)<|ay (gc 1) cG,cK,be<|a3 (pv 2) (pv 0)<|be<|a2 (pv 3)<|pv 1⟩)))))))
theorem yY(a:fE P w K mg C)(e:dY P w K mg C):nH P w K mg C:=λbase=>dG X G T.RN (λS f g h=>bK (Kp h)<|af<|aw<|qm f (a base) (pv 0)<|a2 (pv 1)<|be<|a2 (K0 (EO (nj g) (pv 2)<|vU f (e base)<|pv 0) cC cC)<|pv 2)
theorem sK(a:nH P w K mg C):jh P w K mg C:=λbase=>dG X G T.QR (λS e f h=>bK (IE h) (ac (qs 4 S<|aN bc) (ac (bD bp rfl (aQ<|pv 3) (gn 5 S) (ac (qs 6 S<|qf e (a base)<|a3 (pv 1) (xt (pv 2) aj)<|pv 5) (af (bD bp rfl (aQ<|qf e (a base)<|a3 (pv 0) (xt (pv 2) aj)<|pv 5) (gn 7 S) (af (bB (gv eO AF AE pM (pv 4) (a1 (qc (aQ<|pv 6) (aO Wt) λ_ _ _ _ _ _=>⟨gc 0,cK,be<|a3 (pv 1) (be<|a2 cC<|pv 2)<|be<|a2 (pv 3)<|pv 0⟩)))))))))<|af<|aw<|pv 4)))
theorem sD(a:dz P w K mg C):jd P w K mg C:=λbase=>dG X G T.QM (λS e f h=>bK (Iy h) (ac (qs 2 S<|aN bc) (ac (bD bp rfl (aQ<|vU e (a base)<|pv 0) (gn 3 S) (af (bB (gv eO AF AE pM (pv 2) (a1 (qc (aQ<|vU e (a base)<|pv 1) (aO Wt) λ_ _ _ _ _ _=>⟨gc 0,cK,be<|a2 (pv 1)<|pv 0⟩))))))<|af<|aw<|pv 2)))
theorem sE:je P w K mg:=λbase=>dG X G T.QN (λS a e h=>bK (Kz h)<|ac (ma (qB CB z.divmod boot_divmod<|a2 (pv 0)<|ql z.len<|a1<|ir rfl c.LETTERS)<|dS rfl<|ay (gn 1 S)<|ay (gn 2 S) cG)<|af<|aw<|aV rF (QT (ir rfl c.LETTERS)<|pv 1)<|QT (ir rfl c.LETTERS)<|pv 2)
theorem Im(n:pX P w K mg C)(e:dY P w K mg C)(a:fL P w K mg C)(m:nG P w K mg C)(j:iH P w K mg C)(l:pf P w K mg C)(k:ml P w K mg C)(f:jh P w K mg C)(g:jd P w K mg C)(i:je P w K mg):EM P w K mg C:=λbase=>dG X G T.Tq (λS o p h=>bK (IB h) (ac (bB<|qf o (l base)<|a2 (pv 0)<|pv 1) (ac (bB<|qf o (a base)<|a1<|pv 0) (ac (bB<|qf o (a base)<|a1<|pv 1) (ac (qs 2 S<|qf o (m base)<|a2 (pv 0)<|pv 1) (ac (qs 3 S (iU (zB rfl p) rfl z.dict yq (a1 (qc (pJ rfl z.enumerate<|a1<|qf o (g base)<|a2 (pv 0)<|pv 1) (pK (dk (aO Wt) bv (dk (aO Wt) bv (mG)<|dq)<|eE bv<|dq)) λ_ _ _ _ _ _=>⟨dS rfl<|ay (gc 0)<|ay (gc 1) cG,cK,be<|a2 (pv 1)<|qf o (i base)<|a1<|pv 0⟩)))) (ac (qs 4 S<|aN bc) (ac (bD bp rfl (DG<|pv 3) (gn 5 S)<|af<|bB<|gv eO AF AE pM (pv 4)<|a1<|aV fI (qf o (k base)<|bg (pv 0)<|a3 (pv 1) (pv 5)<|pv 2)<|qf o (f base)<|bg (pv 0)<|a3 (pv 1) (pv 5)<|pv 2) (ac (Pw 6 S (aQ<|pv 4) (pK (dk (aO Wt) bv (dk (aO Wt) bv (dk (aO Wt) bv (mG)<|dq)<|eE bv<|dq)<|eE bv<|eE bv<|dq)) λ_ _ _ _ _ _=>⟨dS rfl<|ay (gc 0)<|ay (gc 1)<|ay (gc 2) cG,cK,be<|a3 (jW p (pv 3) (pv 0)<|λ_ _=>rfl) (pv 1)<|jW p (pv 3) (pv 2)<|λ_ _=>rfl⟩) (af (aw (B6 (n base) (o.mono Wt) rfl<|bg (qf o (j base)<|a2 (pv 0)<|pv 1)<|a3 (aV fI (vU o (e base)<|pv 0)<|vU o (e base)<|pv 1) (DH rfl rfl z.list<|pv 3)<|pv 6))))))))))))
theorem xp(a:gU P w K mg)(f:pW P w K mg)(e:iE P w K mg):mh P w K mg:=λbase=>dG X G T.Rw (λS g i h=>bK (Ft h) (ac (ma (pv 1)<|dS rfl<|ay (gn 2 S)<|ay (gn 3 S)<|ay (gn 4 S)<|ay (gn 5 S) cG) (ac (qs 5 S<|qL rfl z.list<|a1<|pv 5) (ac (bD bp rfl (aQ<|pv 4) (gn 6 S) (af (bD bp rfl (aQ<|pv 2) (gn 7 S) (ac (qs 8 S<|qf g (e base)<|a2 (pv 5)<|aN<|a1<|pv 6) (af (bX (mm (iY i) (qc (aQ<|pv 5) (aO Wt) λ_ _ _ _ _ _=>⟨gc 0,f_<|PW.pt<|l_ (EO (nj i) (xq (pv 0) aj)<|pv 1)<|k6<|mm (iY i) (xq (pv 0) aj)<|be<|a2 cC<|pv 2,pv 0⟩)<|aN bc) (ac (qs 9 S<|xl (aN<|a2 (pv 6)<|xl (pv 4)<|qf g (a base)<|a2 (pv 0)<|ql z.len<|a1<|pv 4)<|qf g (a base)<|a2 (pv 0) aj)<|af<|bB<|qf g (f base)<|a2 (pv 5)<|be<|a3 (pv 6) (be<|a2 cC<|pv 7)<|pv 9) aP))))))<|af<|aw<|be<|bg (pv 2)<|a3 (pv 3) (pv 4)<|pv 5))))
theorem uL:gD P w K mg:=λbase=>dG X G T.Q7 (λS e a h=>bK (KF h) (ac (qs 1 S (aV fI (qc (aQ<|xl (pv 0) aj) (aO Wt) λ_ _ _ _ _ _=>⟨gc 0,f_<|EO (nj a) (pv 0)<|xl (pv 1) aj,pv 0⟩) (qc (aQ<|xl (pv 0) aj) (aO Wt) λ_ _ _ _ _ _=>⟨gc 0,f_<|EO (nj a) (pv 0)<|xl (pv 1) aj,pv 0⟩))) (af (aw (qc (aQ<|aV fI (xl (pv 0) aj)<|xl (pv 0) aj) (aO Wt) λ_ _ _ _ _ _=>⟨gc 0,f_<|EO (iW a) (pv 0)<|pv 1,pv 0⟩)))))
theorem uK(f:gU P w K mg)(e:lD P w K mg)(a:gD P w K mg):jM P w K mg:=λbase=>dG X G T.Q5 (λS g i h=>bK (My h) (by(refine ac (qs 2 S<|qf g (e base)<|a2 (pv 0) aj) ?_);(with_reducible refine ac ?_ ?_);(with_reducible refine Vz 3 ?_ ?_ (hi:=?_) (hx:=?_) (hf:=?_));(exact S);(with_reducible exact IR);(rfl);(first|exact Or.inl rfl|exact Or.inr rfl);(first|exact .inl rfl|exact .inr rfl|assumption);(with_reducible refine ac ?_ ?_);(with_reducible refine Vz 4 ?_ ?_ (hi:=?_) (hx:=?_) (hf:=?_));(exact S);(with_reducible exact IQ);(rfl);(first|exact Or.inl rfl|exact Or.inr rfl);(first|exact .inl rfl|exact .inr rfl|assumption);(refine ac (bD bp rfl (aQ<|gu ng (pv 2) jV<|iq aj) (gn 5 S)<|af<|bD bp rfl (aQ<|xl (pv 4)<|qf g (f base)<|a2 (pv 0)<|aV dU aj<|aV iu aj<|pv 1) (gn 6 S)<|af<|bX (mm xP (ql z.len<|a1<|xl (pv 3)<|pv 6)<|aV dU aj<|aV iu aj<|pv 1) (af<|bB<|gv eO gG gF cP (xl (pv 3)<|pv 6)<|a1<|pv 5) aP) ?_);(refine ac (bD bp rfl (iT rfl z.range<|a1 aj) (gn 6 S)<|af<|bX (mm (iY i) (xl (pv 3)<|pv 6)<|aN bc) (af<|bB<|gv eO gG gF cP (xl (pv 3)<|pv 6)<|a1<|xl (pv 2)<|aV dU aj<|pv 6) aP) ?_);(refine ac (bX (PW.pt<|l_ (mm nW (pv 1) aj)<|k6<|mm (iY i) (qf g (a base)<|a1<|pv 3)<|aN bc) (af<|bB<|gv eO gG gF cP (xl (pv 3) aj)<|a1<|xl (pv 2) aj) aP) ?_);exact(af<|aw<|pv 3)))
theorem Do(e:gU P w K mg)(f:lD P w K mg)(a:jf P w K mg):si P w K mg:=λbase=>dG X G T.Sw (λS g i h=>bK (MF (K:=K) h)<|ac (qs 4 S<|qf g (f base)<|a2 (pv 0)<|aV dU aj<|qf g (e base)<|a2 (pv 0)<|pv 3)<|ac (qs 5 S<|qf g (a base)<|bg (pv 0)<|bg (pv 1)<|a3 (pv 2) (pv 4)<|qf g (e base)<|a2 (pv 0) aj)<|af<|aw<|be<|bg (pv 1)<|a3 (pv 2) (pv 4)<|pv 5)
theorem sF(a:mh P w K mg)(e:jM P w K mg)(f:si P w K mg):mS P w K mg:=λbase=>dG X G T.QO (λS g i h=>bK (Mz h)<|ac (qs 3 S<|qf g (e base)<|a2 (pv 0) aj)<|ac (qs 4 S<|qf g (a base)<|a2 (pv 0)<|qf g (f base)<|bg (pv 0)<|a3 (xq (pv 3) aj) (xq (pv 3) aj)<|pv 1)<|ac (qs 5 S<|qf g (a base)<|a2 (pv 0)<|qf g (f base)<|bg (pv 0)<|a3 (xq (pv 3) aj) (xq (pv 3) aj)<|pv 2)<|af<|aw<|aN<|a2 (pv 4)<|pv 5)
theorem BM:ph P w K mg:=λbase=>dG X G T.R8 (λS a e h=>bK (Ix h) (ac (Pw 2 S (aQ<|xt (pv 0) aj) (aO Wt) λ_ _ _ _ _ _=>⟨gc 0,f_<|mm nW (xt (pv 0) aj)<|pv 1,pv 0⟩) (af (aw (qB (ln rfl) z.all AG (a1 (qc (aQ<|pv 2) (aO Wt) λ_ _ _ _ _ _=>⟨gc 0,cK,LX nW (xt (xt (pv 0) aj) aj) cC⟩)))))))
theorem vR(a:iE P w K mg):iF P w K mg:=λbase=>dG X G T.Rn (λS e f h=>bK (O1 h) (ac (qs 2 S<|qf e (a base)<|a2 (xq (pv 0) aj)<|pv 1) (af (aw (iU jo rfl z.tuple jB (a1 (qc (aQ<|xq (pv 0) aj) (aO Wt) λ_ _ _ _ _ _=>⟨gc 0,f_<|EO (nj f) (pv 0)<|pv 1,pv 0⟩)))))))
theorem xu(e:ph P w K mg)(a:iF P w K mg):jq P w K mg:=λbase=>dG X G T.Ry (λS g f h=>bK (ID h) (ac (bX (mm (iY f) (pv 2)<|be<|a1 cC) (af (aw (iU jo rfl z.tuple jB (a1 (qc (FK<|pv 1) (aO Wt) λ_ _ _ _ _ _=>⟨gc 0,f_<|e_<|qf g (e base)<|a2 (pv 1)<|pv 0,pv 0⟩))))) aP)<|ac (qs 3 S<|aN bc)<|ac (bD bp rfl (aQ<|xt (pv 0) aj) (dS rfl<|ay (gn 4 S)<|ay (gn 5 S)<|ay (gn 6 S) cG)<|af<|bX (PW.pt<|l_ (EO (nj f) (pv 4)<|pv 1)<|l_ (mm (iY f) (pv 5)<|pv 2)<|k6<|EO (iW f) (pv 6)<|pv 3) (af<|bB<|gv eO gG gF cP (pv 3)<|a1<|pv 6) aP)<|af<|aw<|qf g (a base)<|a2 (pv 0)<|pv 3))
theorem xw(a:iF P w K mg)(e:jq P w K mg):mi P w K mg:=λbase=>dG X G T.Rz (λS f g h=>bK (IA h)<|ac (qs 2 S<|qf f (a base)<|a2 (pv 0)<|gu Oa (xq (pv 0) aj) jV<|iq aj)<|ac (bD bp rfl (aQ<|pv 1) (gn 3 S)<|af<|qs 2 S<|qf f (e base)<|a3 (pv 0) (pv 2)<|pv 3)<|af<|aw<|pv 2)
theorem BO:pj P w K mg:=λbase=>dG X G T.R_ (λS e a h=>bK (IC h)<|ac (bX (mm (iY a) (pv 1)<|be<|a1 cC) (af<|aw<|pv 1) aP)<|ac (bX (EO (nj a) (xq (pv 1) aj)<|xq (pv 0) aj) (af<|aw<|be<|a2 cC<|xq (pv 1) aj) aP)<|ac (bX (EO (nj a) (xq (pv 1) aj)<|xq (pv 0) aj) (af<|aw<|be<|a2 cC<|xq (pv 1) aj) aP)<|af<|aw B1)
theorem y9(a:jq P w K mg)(e:pj P w K mg):nK P w K mg:=λbase=>dG X G T.RQ (λS f g h=>bK (MK (K:=K) h)<|ac (qs 3 S<|qf f (e base)<|a2 (pv 0)<|pv 2)<|ac (bX (iR<|FM<|pv 3) (af<|aw<|pv 1) aP)<|af<|aw<|qf f (a base)<|a3 (pv 0) (pv 1)<|pv 3)
theorem Dn:yJ P w K mg:=λbase=>by
  have E0:gS P w K mg base "_law_same" ["found","due"] 0 OZ:=by
   let⟨f,a,t⟩:=T.Rl;let⟨k,F⟩:=t.TH;exact⟨f,k,O4,gH X G a,F.kp,F.binds (ps:=["found","due"]) (by walk_at "b")⟩
  have g:∀(n D:Nat) (i:Sp),0<=n->D<=4->(∀m,D=m+1->i=(d_ K m))->gS P w K mg base "_law_same" ["found","due"] n i->gS P w K mg base "_law_same" ["found","due"] (n+1) (d_ K D):=λn D i A o p q=>dG X G T.Rl (λS r j h=>bK (Iw (bH o Wt) p h) (ac (bX (iR<|FM<|pv 1) (af<|aw<|K1<|FM<|pv 0) aP) (ac (bX (e_<|qB eA z.isinstance eB<|a2 (pv 1)<|rD rfl z.bool) (af<|aw<|rE (qB eA z.isinstance eB<|a2 (pv 0)<|rD rfl z.bool)<|xM<|LX nW (pv 0)<|pv 1) aP) (ac (bX (e_<|qB eA z.isinstance eB<|a2 (pv 1)<|Ad rfl z.str) (af<|aw<|rE (qB eA z.isinstance eB<|a2 (pv 0)<|Ad rfl z.str)<|xM<|LX (iY j) (pv 0)<|pv 1) aP) (ac (bX (e_<|qB eA z.isinstance eB<|a2 (pv 1)<|Ae rfl z.int) (af<|aw<|rE (qB eA z.isinstance eB<|a2 (pv 0)<|Ae rfl z.int)<|rE (Oi<|qB eA z.isinstance eB<|a2 (pv 0)<|rD rfl z.bool)<|xM<|LX (iY j) (pv 0)<|pv 1) aP) (ac (bX (PW.pt<|l_ (e_<|qB eA z.isinstance eB<|a2 (pv 1)<|k9 rfl z.tuple)<|k6<|kC<|e_<|qB eA z.isinstance eB<|a2 (pv 0)<|k9 rfl z.tuple) (af<|aw jP) aP) (ac (bX (PW.pt<|l_ (e_<|qB eA z.isinstance eB<|a2 (pv 1)<|rC rfl z.list)<|k6<|kC<|e_<|qB eA z.isinstance eB<|a2 (pv 0)<|rC rfl z.list) (af<|aw jP) aP) (ac (bX (mm DN (ql z.len<|a1<|pv 0)<|ql z.len<|a1<|pv 1) (af<|aw jP) aP) (af (aw (qB (ln rfl) z.all AG (a1 (qc (Hd rfl z.zip<|a2 (pv 0)<|pv 1) (pK (dk (aO Wt) bv (dk (aO Wt) bv (mG)<|dq)<|eE bv<|dq)) λ_ _ _ _ _ _=>⟨dS rfl<|ay (gc 0)<|ay (gc 1) cG,cK,NP q r rfl<|a2 (pv 0)<|pv 1⟩))))))))))))) (l:=λB H Q E h=>by obtain⟨_,_,_,h,_⟩|⟨_,h,_⟩:=h<;>(rw[h];rfl));have s:=g 0 0 _ Wt Wt (λm e=>by cases e) E0;have u:=g 1 1 _ Wt Wt (λm e=>by cases e;rfl) s;have v:=g 2 2 _ Wt Wt (λm e=>by cases e;rfl) u;have x:=g 3 3 _ Wt Wt (λm e=>by cases e;rfl) v;have y:=g 4 4 _ Wt Wt (λm e=>by cases e;rfl) x;exact y
theorem p_(a:gD P w K mg):gV P w K mg:=λbase=>dG X G T.Qn (λS e f h=>bK (MD h) (ac (qs 2 S<|qf e (a base)<|a1<|aN<|bg (xq (pv 0) aj)<|a3 (xq (pv 0) aj) (xq (pv 1) aj)<|xq (pv 1) aj) (ac (Pw 3 S (aQ<|pv 2) (aO Wt) λ_ _ _ _ _ _=>⟨gc 0,cK,be<|a2 cC<|pv 0⟩) (af (aw (aV fI (aV fI (pv 3) (qc (aQ<|aV fI (xq (pv 0) aj)<|xq (pv 1) aj) (aO Wt) λ_ _ _ _ _ _=>⟨gc 0,cK,be<|a2 cC<|pv 0⟩))<|aN<|a1<|be<|a1 cC))))))
theorem vQ(a:mi P w K mg)(f:nK P w K mg)(e:gV P w K mg):pi P w K mg:=λbase=>dG X G T.Rm (λS i g h=>bK (Fv h)<|ac (qs 2 S<|qf i (e base)<|a2 (pv 0)<|pv 1)<|ac (qs 3 S<|be<|a2 (qf i (a base)<|a2 (pv 0)<|aN bc)<|qf i (a base)<|a2 (pv 1)<|aN bc)<|ac (qs 4 S<|aN<|a1<|be<|a2 (pv 3)<|aN bc)<|ac (qs 5 S kE)<|ac (qs 6 S<|Af g (pv 3) jP)<|ac (qs 7 S aj)<|ac (tE bp (mm xP (pv 7)<|ql z.len<|a1<|pv 4)<|ac (ma (xl (pv 4)<|pv 7)<|dS rfl<|ay (gn 8 S)<|ay (gn 9 S) cG)<|ac (gB g (pv 5) (pv 8) (aN bc) rfl)<|ac (bD bp rfl (aQ<|pv 2) (gn 10 S)<|ac (qs 11 S<|be<|a2 (qf i (f base)<|a3 (pv 0) (xt (pv 8) aj)<|pv 10)<|qf i (f base)<|a3 (pv 1) (xt (pv 8) aj)<|pv 10)<|af<|bX (PW.pt<|l_ (mm (FN g) (xt (pv 11) aj)<|be bc)<|k6<|mm (FN g) (xt (pv 11) aj)<|be bc) (ac (bB<|gv eO gG gF cP (jW g (pv 5) (pv 8)<|λ_ _=>rfl)<|a1<|pv 11)<|af<|bX (iR<|j5 g (pv 11)<|pv 6) (ac (gB g (pv 6) (pv 11) jP rfl)<|af<|bB<|gv eO gG gF cP (pv 4)<|a1<|be<|a2 (pv 11)<|aV fI (pv 9)<|aN<|a1<|pv 10) aP) aP)<|af<|qs 7 S<|aV dU (pv 7) aj)<|af<|aw<|be<|a2 (pv 4)<|pv 5)
theorem xx:qw P w K mg:=λbase=>dG X G T.RA (λS e a h=>bK (Fz h)<|ac (qs 3 S<|Af a (pv 0) aj)<|ac (bD bp rfl (iT rfl z.range<|a1<|pv 2) (gn 4 S)<|ac (qs 5 S kE)<|ac (bD bp rfl (DG<|pv 3) (gn 6 S)<|af<|bD bp rfl (aQ<|jW a (pv 1) (pv 6)<|λ_ _=>rfl) (gn 7 S)<|af<|gB a (pv 5) (pv 7) (aV dU (mF a (pv 5) (pv 7) aj ⟨fj,fj,fj,fj⟩)<|jW a (pv 3) (pv 6)<|λ_ _=>rfl) rfl)<|af<|qs 3 S<|pv 5)<|af<|aw<|MU (pv 3) rfl rfl z.sum)
end
theorem Ot(X:K.In h)(G:h.Ns cw mg)(z:Zs mg)(c:Cs K mg C Cf ro sv)(T:Ts K C Cf):∃f fd,mg "law"=eH (.ref f)/\(∀(s:Wl) (v:Wm),wA s fd ⟨[v],[]⟩ [("script",v)])/\∀base:Wq,pe P w K mg base Tg 9 f fd ["script"] (P2 K):=by
 have b1:nJ P w K mg:=y8 X G z c T;have ch:yL P w K mg:=Dp X G z c T;have g:gU P w K mg:=Dm X G z c T b1;have U:lD P w K mg:=BN X G z c T g;have bh:pW P w K mg:=Fi X G z c T;have Y:jf P w K mg:=sG X G z c T g bh;have cs:vb P w K mg:=Fj X G z c T;have O:mT P w K mg:=Fk X G z c T;have I:gW P w K mg:=qa X G z c T cs O;have b2:nM P w K mg:=za X G z c T;have J:gX P w K mg:=qb X G z c T O;have p:d6 P w K mg:=km X G z c T;have bb:kK P w K mg:=vO X G z c T;have Q:iG P w K mg:=rp X G z c T;have al:lC P w K mg:=BK X G z c T;have b3:nI P w K mg:=yZ X G z c T I b2 J al;have ap:ji P w K mg:=sL X G z c T;have as:jg P w K mg:=sH X G z c T;have bi:pX P w K mg C:=Fl X G z c T O p bb Q al b3 ap as;have E:qv P w K mg C:=xr X G z c T bi;have e:dz P w K mg C:=uH X G z c T;have o:fm P w K mg C:=p8 X G z c T;have N:j4 P w K mg C:=yX X G z c T e o
 have m:fE P w K mg C:=uI X G z c T;have L:gZ P w K mg C:=p9 X G z c T;have x:iE P w K mg:=vP X G z c T;have a7:jN P w K mg C:=uJ X G z c T;have B:f8 P w K mg C:=nZ X G z c T;have i:dZ P w K mg C:=vN X G z c T;have j:dY P w K mg C:=vM X G z c T;have b4:nL P w K mg C:=y_ X G z c T e N;have bl:mj P w K mg C:=xy X G z c T N m L;have aC:jc P w K mg C sv:=sC X G z c T i j;have ci:sf P w K mg C:=Dl X G z c T bl aC;have n:eL P w K mg Cf:=oP X G z c T;have q:eG P w K mg C Cf:=kN X G z c T ci n;have bn:pY P w K mg C Cf:=Fm X G z c T b4 n q;have D:f6 P w K mg:=n5 X G z c T;have ck:yM P w K mg C:=Dr X G z c T bn D;have cl:yN P w K mg C:=Ds X G z c T bn;have c2:C2 P w K mg C:=Kg X G z c T o m;have u:fL P w K mg C:=m9 X G z c T e i c2;have b8:t4 P w K mg:=Io X G z c T;have a9:nG P w K mg C:=Dk X G z c T i j b8;have y:iH P w K mg C:=vS X G z c T i a9;have cm:sj P w K mg C:=Dq X G z c T e a7;have ca:pf P w K mg C:=BL X G z c T i j b8 y cm;have b5:nN P w K mg C:=zb X G z c T B
 have bz:ml P w K mg C:=xz X G z c T b5
 have b6:nH P w K mg C:=yY X G z c T m j;have a0:jh P w K mg C:=sK X G z c T b6;have a4:jd P w K mg C:=sD X G z c T e;have a5:je P w K mg:=sE X G z c T;have c0:EM P w K mg C:=Im X G z c T bi j u a9 y ca bz a0 a4 a5;have bI:mh P w K mg:=xp X G z c T g bh x;have r:gD P w K mg:=uL X G z c T;have a8:jM P w K mg:=uK X G z c T g U r;have co:si P w K mg:=Do X G z c T g U Y;have a6:mS P w K mg:=sF X G z c T bI a8 co;have cc:ph P w K mg:=BM X G z c T;have A:iF P w K mg:=vR X G z c T x;have H:jq P w K mg:=xu X G z c T cc A;have bS:mi P w K mg:=xw X G z c T A H;have ce:pj P w K mg:=BO X G z c T;have b7:nK P w K mg:=y9 X G z c T H ce;have ba:yJ P w K mg:=Dn X G z c T;have M:gV P w K mg:=p_ X G z c T r;have bd:pi P w K mg:=vQ X G z c T bS b7 M;have b0:qw P w K mg:=xx X G z c T;let⟨f,a,t⟩:=T.TM;let⟨oc,od,an,sl,kV,dc,pm,cd,ct,l,c1,k1⟩:=t;have F:=Lk (st:=(fP 82)) l c1 k1;have sc:nF HV KR (cN<|fP 82):=by walk_at "s"
 have S:=sc.nd;exact⟨f,_,gH X G a,λs v=>.of_eq rfl,λbase=>F.ok (k:=8) sc (by walk_at "l") (λ_ _ _ _ _ _ _ _ hr h=>by have hu:=Hz hr;exact bK (KA (C:=C) h)<|ac (qs 1 S<|qf hr (ch base)<|a1<|pv 0)<|ac (qs 2 S<|qf hr (g base)<|a2 (pv 1) aj)<|ac (bX (mm nW (qf hr (g base)<|a2 (pv 1) aj) aj) (af<|qs 2 S<|qf hr (g base)<|a2 (pv 1) aj) aP)<|ac (ma (qf hr (a6 base)<|a3 (pv 1) aj aj)<|Og rfl<|ay (gn 3 S)<|ay (gn 4 S) cG)<|ac (qs 5 S<|qf hr (c0 base)<|a2 (qf hr (E base)<|a1<|pv 3)<|qf hr (E base)<|a1<|pv 4)<|ac (ma (qf hr (bd base)<|a2 (pv 3)<|pv 4)<|dS rfl<|ay (gn 6 S)<|ay (gn 7 S) cG)<|ac (bX (kC<|e_<|qf hr (ba base)<|a2 (qf hr (ck base)<|a2 (pv 5)<|pv 2)<|qf hr (b0 base)<|a3 (xq (xl (pv 6) aj) aj) (pv 7)<|pv 2) (af<|aw jP) aP)<|ac (qs 8 S<|qf hr (cl base)<|a1<|pv 5)<|ac (bX (PW.pt<|mD (kC<|e_<|qB eA z.isinstance eB<|a2 (pv 8)<|rC rfl z.list)<|l9<|mm DN (ql z.len<|a1<|pv 8)<|ql z.len<|a1<|pv 6) (af<|aw jP) aP)<|ac (bD bp rfl (Hd rfl z.zip<|a2 (pv 8)<|pv 6) (dS rfl<|ay (gn 9 S)<|ay (dS rfl<|ay (gn 10 S)<|ay (gn 11 S) cG) cG)<|ac (bX (PW.pt<|mD (kC<|e_<|qB eA z.isinstance eB<|a2 (pv 9)<|k9 rfl z.tuple)<|mD (mm DN (ql z.len<|a1<|pv 9) aj)<|l9<|kC<|e_<|qB eA z.isinstance eB<|a2 (xt (pv 9) aj)<|k9 rfl z.tuple) (af<|aw jP) aP)<|af<|bX (PW.pt<|mD (kC<|e_<|qf hr (ba base)<|a2 (xt (pv 9) aj)<|pv 11)<|l9<|mm DN (ql z.len<|a1<|xt (pv 9) aj)<|aV iu (ql z.len<|a1<|xt (pv 10) aj)<|ql z.len<|a1<|xt (pv 10) aj) (af<|aw jP) aP)<|af<|aw jP)⟩
theorem all_mk{l:PySem.W.OpenLaw}{fa:Wk}{y:Wm}{i:Wm}{p:Wm}{q:Wm}{r:Wm}{t:Wm}{a:Wm}{g:Wm}{A:Obj}{B:Array Wm}{as:Nat}{Q:Obj}{U:Array Wm}{bb:Nat}(X:K.In h)(G:h.Ns cw mg)(cs:mg "law"=eH (.ref fa))
  (aC:cI K cw "Machine"=eH (eH<|.ref C))
  (pg:zP K C Str.empty=true)
  (hd:C6 K C=true)
  (po:GN K C=true)
  (sa:eM K (.ref C) "__setattr__"=eH (eH<|.builtin "object.__setattr__"))
  (mk:wC K C=true)
  (kc:ka K (.ref C)=true)
  (ct:eM K (.ref C) "own_asks"=eH none)
  (c0:eM K (.ref C) "own_says"=eH none)
  (c1:eM K (.ref C) "own_rooms"=eH none)
  (c2:eM K (.ref C) "own_doors"=eH none)
  (c3:eM K (.ref C) "leaving"=eH none)
  (c4:eM K (.ref C) "quiet"=eH none)
  (c5:eM K (.ref C) "sign_goals"=eH none)
  (da:eM K (.ref C) "still_led"=eH none)
  (db:cI K cw "FaceMap"=eH (eH<|.ref Cf))
  (b8:zP K Cf Str.empty=true)
  (ca:C6 K Cf=true)
  (cc:GN K Cf=true)
  (cd:eM K (.ref Cf) "__setattr__"=eH (eH<|.builtin "object.__setattr__"))
  (ce:wC K Cf=true)
  (ch:ka K (.ref Cf)=true)
  (ci:eM K (.ref Cf) "machine"=eH none)
  (ck:eM K (.ref Cf) "faces"=eH none)
  (cl:eM K (.ref Cf) "first_stories"=eH none)
  (cm:eM K (.ref Cf) "numbers"=eH none)
  (co:eM K (.ref Cf) "steps"=eH none)
  (b1:cI K cw "all"=eH none)
  (b2:cI K cw "any"=eH none)
  (bd:cI K cw "bool"=eH none)
  (bh:cI K cw "dict"=eH none)
  (ap:cI K cw "divmod"=eH none)
  (Y:cI K cw "enumerate"=eH none)
  (b3:cI K cw "int"=eH none)
  (D:cI K cw "isinstance"=eH none)
  (b4:cI K cw "len"=eH none)
  (bi:cI K cw "list"=eH none)
  (a0:cI K cw "range"=eH none)
  (b5:cI K cw "str"=eH none)
  (b6:cI K cw "sum"=eH none)
  (a4:cI K cw "tuple"=eH none)
  (b7:cI K cw "zip"=eH none)
  (al:cI K cw "LETTERS"=eH (eH y))
  (an:RelV (.str "abcdefghijklmnopqrstuvwxyz") y)
  (u:cI K cw "LONGEST_NAME"=eH (eH i))
  (x:RelV (.int 8) i)
  (E:cI K cw "MOST_WORDS"=eH (eH p))
  (H:RelV (.int 4) p)
  (I:cI K cw "MOST_ROOMS"=eH (eH q))
  (J:RelV (.int 150) q)
  (L:cI K cw "MOST_DOORS"=eH (eH r))
  (M:RelV (.int 2000) r)
  (N:cI K cw "MOST_FACES"=eH (eH t))
  (O:RelV (.int 400) t)
  (j:cI K cw "MOST_JOINED_ROOMS"=eH (eH a))
  (m:RelV (.int 10) a)
  (n:cI K cw "MOST_JOINED_DOORS"=eH (eH g))
  (o:RelV (.int 40) g)
  (a5:cI K cw "STILL"=eH (eH<|.ref ro))
  (a6:K.lookup ro=eH A)
  (a7:A.cls=.type "tuple")
  (a8:A.data=.seq B as)
  (a9:B.size<=ak)
  (ba:bG (aD.map WB) B.toList)
  (bl:cI K cw "HUSH"=eH (eH<|.ref sv))
  (bn:K.lookup sv=eH Q)
  (bz:Q.cls=.type "tuple")
  (bI:Q.data=.seq U bb)
  (bS:U.size<=ak)
  (b0:bG (bN.map WB) U.toList)
  (T:Ts K C Cf)
 :∃fd:nO,(∀(s:Wl) (v:Wm),wA s fd ⟨[v],[]⟩ [("script",v)])/\∀base:Wq,K.In base->base.Ns cw mg->pe l.prog w K mg base Tg 9 fa fd ["script"] (P2 K):=by
 have z:Zs mg:=⟨gE X G b1,gE X G b2,gE X G bd,gE X G bh,gE X G ap,gE X G Y,gE X G b3,gE X G D,gE X G b4,gE X G bi,gE X G a0,gE X G b5,gE X G b6,gE X G a4,gE X G b7⟩;have c:Cs K mg C Cf ro sv:=⟨⟨_,gH X G al,an⟩,⟨_,gH X G u,x⟩,⟨_,gH X G E,H⟩,⟨_,gH X G I,J⟩,⟨_,gH X G L,M⟩,⟨_,gH X G N,O⟩,⟨_,gH X G j,m⟩,⟨_,gH X G n,o⟩,⟨_,gH X G a5,fj⟩,⟨_,gH X G bl,fj⟩,G3 a6 a7 a8 a9 ba,G3 bn bz bI bS b0,⟨⟨pg,hd,po,sa⟩,ct,c0,c1,c2,c3,c4,c5,da⟩,gH X G aC,mk,kc,⟨⟨b8,ca,cc,cd⟩,ci,ck,cl,cm,co⟩,gH X G db,ce,ch⟩;let⟨f,fd,e,b,k⟩:=Ot (P:=l.prog) (w:=w) X G z c T;have e0:=cs.symm.trans e;cases e0;exact⟨fd,b,λbase _ _=>k base⟩
end
end UG
namespace PySem.W.Fast
def tw18023761797907125412:=0
def tw12945750107438631280:=0
def tw790232755573851361:=0
def tw11237962875154083504:=0
def tw14026098018676794220:=0
def tw18416472140767474709:=0
def tw10677283641820754873:=0
def tw764134905001056863:=0
def tw13193510833150620581:=0
def tw14570654094672938961:=0
def tw10977841755016038173:=0
def tw18090281814605067926:=0
def tw7140659086960894361:=0
def tw3741702170675362707:=0
def tw8314387592195880329:=0
def tw15958932640072915914:=0
def tw14911989272232741054:=0
def tw16254189239673706347:=0
def tw16828444802761800224:=0
def tw14125413054921260962:=0
def tw16427935817674367850:=0
def tw1866227822100475600:=0
def tw10342712394769949283:=0
def tw17786782145839643679:=0
def tw13614298623644650187:=0
def tw1868480839636959040:=0
def tw10559711681675821666:=0
def tw3124516316927800217:=0
def tw17571167525873983648:=0
def tw7767027833926538241:=0
def tw10771881530645289483:=0
def tw11552418333519764330:=0
def tw11757555209048920372:=0
def tw16422199968860184262:=0
def tw1380507872634788626:=0
def tw1295161320902268498:=0
def tw13729977131552248013:=0
def tw6043864515119047038:=0
def tw8600500006609306722:=0
def tw4099709170786991628:=0
def tw2044038357048701187:=0
def tw6608357349359094371:=0
def tw6920929817743326891:=0
def tw299984959459802130:=0
def tw6636448923441548611:=0
def tw6315510225310568807:=0
def tw3906379108272050185:=0
def tw4990766774365167175:=0
def tw9806787968511188787:=0
def tw9205753710597797593:=0
def tw4542928938681618609:=0
def tw4369515009645493964:=0
def tw2016959175758187919:=0
def tw9776778542163907700:=0
def tw18181737979581655650:=0
def tw11916344053466230970:=0
def tw8548461488505995314:=0
def tw8680162372295214115:=0
def tw2142978525857688312:=0
def tw16711026428841056105:=0
def tw8595692421311163442:=0
def tw7267113929993036254:=0
def tw15752320676892401199:=0
def tw8117851224642492715:=0
def tw713272440520512383:=0
def tw13600103847282680672:=0
def tw12363781051098564566:=0
def tw13498505294023450654:=0
def tw11803358223954239212:=0
def tw15984641316902983638:=0
def tw9521891819518573261:=0
def tw11157606961682437068:=0
def tw1523468937280403428:=0
def tw14382566614967897416:=0
def tw11512413990833334648:=0
def tw2247900092016866250:=0
def tw9848766761339703124:=0
def tw15408333362630740618:=0
def tw15155643355850422700:=0
def tw9728644215589802908:=0
def tw4789521636982855964:=0
def tw16983558228591240089:=0
def tw13625069642328015823:=0
def tw9564810213623479444:=0
def tw5544032915485605520:=0
def tw12662384864553562509:=0
def tw10649957236716059327:=0
def tw15000540829676270458:=0
def tw18060810753447480902:=0
def tw14542150826632189816:=0
def tw286208999834206074:=0
def tw14311656879786396160:=0
def tw14034271615066714675:=0
def tw7327298650294023585:=0
def tw2779851739244654805:=0
def tw2542373325986651918:=0
def tw10594858927091086666:=0
def tw271543037311160205:=0
def tw1024421539765294089:=0
def tw8534558798624616885:=0
def tw256645064488312683:=0
def tw6337122772439787012:=0
def tw4618880836952413855:=0
def tw10593264992640372495:=0
def tw10879128748516208909:=0
def tw2483591870499692890:=0
def tw15191134815448259839:=0
def tw9154975204986414152:=0
def tw15622502946320580753:=0
def tw6309335530818987361:=0
def tw322491015754401071:=0
def tw16007270162092764133:=0
def tw10002877118787950690:=0
def tw79415493260689550:=0
def tw6278494587874062693:=0
def tw16086467498443508394:=0
def tw6426038234688504972:=0
def tw706751765383309305:=0
def tw13772133230471679224:=0
def tw3497920995228663716:=0
def tw1051439267526863327:=0
def tw17473626885305251461:=0
def tw7827595440995829666:=0
def tw685821176711996685:=0
def tw12011972758759928964:=0
def tw2792183113517479023:=0
def tw17623498508911460738:=0
def tw8643773462957332238:=0
def tw13394172417752186117:=0
def tw5571110581602064313:=0
def tw2208555347046880336:=0
def tw3052416018575708403:=0
def tw13542044934425374704:=0
def tw777535025213131648:=0
def tw7161710644241124317:=0
def tw1311410893257532202:=0
def tw2415568759775854674:=0
def tw11077681827741225680:=0
def tw15156692328001512464:=0
def tw2368265184884896500:=0
def tw4650978302906492009:=0
def tw3745302270851252401:=0
def tw15313458239919493209:=0
def tw16919080579372558014:=0
def tw17520228671493914093:=0
def tw13893587322701633580:=0
def tw4257916442802878795:=0
def tw7805840286484575709:=0
def tw9357762043679604556:=0
def tw3624485229476171256:=0
def tw11628229924653108153:=0
def tw4604524683775062516:=0
def tw14075243931148173589:=0
def tw11351872248788640828:=0
def tw9247135598312902442:=0
def tw12327302410662489198:=0
def tw9784473908550888581:=0
def tw11697867795025933147:=0
def tw6541491357133682496:=0
def tw8550928713649096670:=0
def tw6540109929225874387:=0
def tw6684667256971430085:=0
def tw17823628000845636848:=0
def tw11941487637342780856:=0
def tw9080167655581069716:=0
def tw1777459190800989817:=0
def tw16036678809779199336:=0
def tw11074680152210970804:=0
def tw481366541249177560:=0
def tw4805926771839054717:=0
def tw13323986665801798853:=0
def tw9002369372973461142:=0
def tw14891741995392257957:=0
def tw12192201308929403549:=0
def tw11801285259432778327:=0
def tw7838989177195507730:=0
def tw3546766698651728750:=0
def tw8613318655009902904:=0
def tw15096164272598442223:=0
def tw10293063579841597612:=0
def tw5899444990153320695:=0
def tw13671122936353224670:=0
def tw13046116967650442740:=0
def tw15800999448596324998:=0
def tw13512898197047170348:=0
def tw4786566610351736155:=0
def tw15011774431765586985:=0
def tw8332072546381978907:=0
def tw13640603935296710403:=0
def tw11483431771011202925:=0
def tw12954679457223868764:=0
def tw1577179118211010413:=0
def tw297350077017537735:=0
def tw5691674516474213037:=0
def tw11889945799082319228:=0
def tw14995739546736340718:=0
def tw1505547940965624388:=0
def tw5042626887396771511:=0
def tw3000347158836892387:=0
def tw10583441491132238418:=0
def tw7403197350190404322:=0
def tw6905715229135772100:=0
def tw14378008701874214548:=0
def tw6415867223351053798:=0
def tw5625434124234633261:=0
def tw5305812834451581965:=0
def tw15037750250627238877:=0
def tw16079009519098842445:=0
def tw1056569597432326824:=0
def tw9644824481389372764:=0
def tw9476106491541545662:=0
def tw16550904349824903493:=0
def tw7555985737166219701:=0
def tw5112279021243231667:=0
def tw17914276720726317184:=0
def tw10300397934877474499:=0
def tw8962745231037227820:=0
def tw8899081174126866723:=0
def tw1813493672312911526:=0
def tw8205053021674298487:=0
def tw6330184570834364784:=0
def tw1754905530357252490:=0
def tw7129554993215923163:=0
def tw929535424498570211:=0
def tw8413835470571376315:=0
def tw9966265621059023720:=0
def tw12537563649020740324:=0
def tw17209058399021187179:=0
def tw13595861280244914265:=0
def tw4627431271076541973:=0
def tw9932612427743835763:=0
def tw10934096786055158486:=0
def tw5903518165449306979:=0
def tw7021342206379804980:=0
def tw11978614534955333426:=0
def tw3260777338344025438:=0
def tw6295854193546240584:=0
def tw3795315274030815641:=0
def tw10443721235941328039:=0
def tw7434978620352723111:=0
def tw3211733442806043346:=0
def tw10507332478224090557:=0
def tw14384661615680341210:=0
def tw3869268940447000796:=0
def tw8469368814059229461:=0
def tw111318649271153450:=0
def tw9696253273050923479:=0
def tw6554780047403270339:=0
def tw13489729992583685931:=0
def tw9362280598971056261:=0
def tw9901108930923155374:=0
def tw10606778601003253157:=0
def tw1495303161768374779:=0
def tw14679851544851144709:=0
def tw9895162541395219837:=0
def tw14091816486112188925:=0
def tw14379385077068329383:=0
def tw16035613021275577230:=0
def tw6279444290014070645:=0
def tw4544946997166954264:=0
def tw16154854936257048965:=0
def tw2600608603624626822:=0
def tw4807456328487118399:=0
def tw4538936327975625637:=0
def tw2659372273579688554:=0
def tw16750480453360241649:=0
def tw17213470693595306707:=0
def tw12059462678553613533:=0
def tw12002850070410904656:=0
def tw13167753372480828677:=0
def tw8881996725057164330:=0
def tw6198039148714133481:=0
def tw4961424655598748765:=0
def tw681830544647332417:=0
def tw2556748409475724803:=0
def tw3128042030873268998:=0
def tw12750125311264091882:=0
def tw2554635241252779156:=0
def tw15661354276492854892:=0
def tw9461670011141794690:=0
def tw8288537502474432773:=0
def tw16081630421674829389:=0
def tw6466085816571175029:=0
def tw5594384965963998692:=0
def tw13012245297197668178:=0
def tw1745087799306905744:=0
def tw12886467146729283405:=0
def tw10929611889735742348:=0
def tw10129545199390646251:=0
def tw6635174236397217999:=0
def tw649185283335023698:=0
def tw10792312087576313213:=0
def tw13941387435191931879:=0
def tw10679709118156102101:=0
def tw608103658534275575:=0
def tw10885771649613207063:=0
def tw3584706228003827193:=0
def tw5748193258426156456:=0
def tw11719856840350368662:=0
def tw6541008486749630551:=0
def tw5133053079738453743:=0
def tw9481938138841738821:=0
def tw16925188461334090996:=0
def tw6381907637389807362:=0
def tw13300662285011315959:=0
def tw13007191874891347678:=0
def tw3271397081586919370:=0
def tw6575959516633887789:=0
def tw7123643568702506035:=0
def tw16379432799502028903:=0
def tw10797612717532871783:=0
def tw5735519767675649793:=0
def tw14811053217415339639:=0
def tw1139935855550187860:=0
def tw7949550488093857547:=0
def tw17712767136058971815:=0
def tw7122492790553085011:=0
def tw2446742111691068946:=0
def tw10402516421383950211:=0
def tw388340017404347513:=0
def tw11272991789257317641:=0
def tw8510236164332585562:=0
def tw3019385800446694231:=0
def tw14047583604809220420:=0
def tw2382336306340749550:=0
def tw16331784965370912612:=0
def tw18013981552245874210:=0
def tw12790587126431960072:=0
def tw1695409803546940789:=0
def tw16953670908217554221:=0
def tw1671277680549726813:=0
def tw8909744431081838446:=0
def tw7507158949675810483:=0
def tw15322728613610663497:=0
def tw13001209616656294270:=0
def tw4906609290500600561:=0
def tw13111383820227191603:=0
def tw8892410114227587766:=0
def tw12244084091712530720:=0
def tw10416809150315477277:=0
def tw2265782315146346882:=0
def tw637241246575959777:=0
def tw17169798691537548153:=0
def tw17911528050338757107:=0
def tw3196303647869799216:=0
def tw6464650436846506868:=0
def tw14289542662136692591:=0
def tw12344500581420948085:=0
def tw2544330728398734811:=0
def tw15866977113564016846:=0
def tw13957299088971427300:=0
def tw1386028525614323129:=0
def tw12402390359245075937:=0
def tw12106415984802592130:=0
def tw13302109538627584861:=0
def tw16563803074936820592:=0
def tw10672122967295172794:=0
def tw2882891774394459591:=0
def tw1373059492624084916:=0
def tw14779864792752498135:=0
def tw14801683336734095295:=0
def tw16858275199261148145:=0
def tw15936878513002998512:=0
def tw14016419934768294866:=0
def tw7849449500025241564:=0
def tw18306785006923175957:=0
def tw17626105850375183462:=0
def tw5193245318205292022:=0
def tw14998035444395043094:=0
def tw6303324297688446467:=0
def tw802573909374882797:=0
def tw13360278089999105916:=0
def tw13724138624553774901:=0
def tw8281734469484862699:=0
def tw11393023001481171948:=0
def tw6005242858690046473:=0
def tw10276370231605834465:=0
def tw5126569281928478077:=0
def tw299811667440986839:=0
def tw57138910270393340:=0
def tw8956641617530400778:=0
def tw18196497471935310894:=0
def tw3753026515232950648:=0
def tw13215127328500374643:=0
def tw1035174424017781939:=0
def tw11964233800099066830:=0
def tw7663678444896989924:=0
def tw13318537991653776544:=0
def tw4278392973656421032:=0
def tw9539574892415540194:=0
def tw14440773460971676632:=0
def tw18134116516353941157:=0
def tw12173792525483345871:=0
def tw11081582222742984293:=0
def tw7458971129672864398:=0
def tw1462660046173932558:=0
def tw5188306651049760760:=0
def tw3195501542987438835:=0
def tw7825712989633332360:=0
def tw13724821799995139635:=0
end PySem.W.Fast
open PySem PySem.W PyProof.Rows
set_option maxRecDepth 100000 in
set_option maxHeartbeats 0 in
theorem PySem.Challenge.cw_mumtrial_k71_whole_joined_counted_holds : PySem.Challenge.rw_mumtrial_k71_whole_joined_counted.Holds := by
 w_on;o_law;k_head;(case hw=>w_witness2)
 k_fill
 refine L2.Tj (l:=PySem.Challenge.rw_mumtrial_k71_whole_joined_counted) (n:=63) (k:=9) (x:="script") (CX:=L2.Tg) (sp:=UG.P2) rfl (by decide) rfl ⟨rfl,by decide,by decide⟩ (fun w h Y=>PySem.W.kIn_of Y) ?F (fun _ _ a ns hl _ hS=>⟨a,ns,rfl,hS,hl,fun _=>rfl⟩) (fun _ _ _ _ z=>z)
 case F =>
  intro w mg fa h KX G VX;refine' UG.all_mk KX G VX ?aC ?pg ?hd ?po ?sa ?mk ?kc ?na1 ?na2 ?na3 ?na4 ?na5 ?na6 ?na7 ?na8 ?afc ?pgfc ?hdfc ?pofc ?safc ?mkfc ?kcfc ?nfc1 ?nfc2 ?nfc3 ?nfc4 ?nfc5 ?z_all ?z_any ?z_bool ?z_dict ?z_divmod ?z_enumerate ?z_int ?z_isinstance ?z_len ?z_list ?z_range ?z_str ?z_sum ?z_tuple ?z_zip ?g_LETTERS ?r_LETTERS ?g_LONGEST_NAME ?r_LONGEST_NAME ?g_MOST_WORDS ?r_MOST_WORDS ?g_MOST_ROOMS ?r_MOST_ROOMS ?g_MOST_DOORS ?r_MOST_DOORS ?g_MOST_FACES ?r_MOST_FACES ?g_MOST_JOINED_ROOMS ?r_MOST_JOINED_ROOMS ?g_MOST_JOINED_DOORS ?r_MOST_JOINED_DOORS ?g_STILL ?l_STILL ?c_STILL ?d_STILL ?s_STILL ?v_STILL ?g_HUSH ?l_HUSH ?c_HUSH ?d_HUSH ?s_HUSH ?v_HUSH ?T
  (case aC|pg|hd|po|sa|mk|kc|na1|na2|na3|na4|na5|na6|na7|na8|afc|pgfc|hdfc|pofc|safc|mkfc|kcfc|nfc1|nfc2|nfc3|nfc4|nfc5|z_all|z_any|z_bool|z_dict|z_divmod|z_enumerate|z_int|z_isinstance|z_len|z_list|z_range|z_str|z_sum|z_tuple|z_zip|g_LETTERS=>k_is)
  (case r_LETTERS=>exact⟨_,rfl⟩)
  (case g_LONGEST_NAME=>k_is)
  (case r_LONGEST_NAME=>exact⟨_,rfl⟩)
  (case g_MOST_WORDS=>k_is)
  (case r_MOST_WORDS=>exact⟨_,rfl⟩)
  (case g_MOST_ROOMS=>k_is)
  (case r_MOST_ROOMS=>exact⟨_,rfl⟩)
  (case g_MOST_DOORS=>k_is)
  (case r_MOST_DOORS=>exact⟨_,rfl⟩)
  (case g_MOST_FACES=>k_is)
  (case r_MOST_FACES=>exact⟨_,rfl⟩)
  (case g_MOST_JOINED_ROOMS=>k_is)
  (case r_MOST_JOINED_ROOMS=>exact⟨_,rfl⟩)
  (case g_MOST_JOINED_DOORS=>k_is)
  (case r_MOST_JOINED_DOORS=>exact⟨_,rfl⟩)
  (case g_STILL|l_STILL=>k_is)
  (case c_STILL|d_STILL=>rfl)
  (case s_STILL=>decide)
  (case v_STILL=>exact .cons ⟨_,rfl⟩ .nil)
  (case g_HUSH|l_HUSH=>k_is)
  (case c_HUSH|d_HUSH=>rfl)
  (case s_HUSH=>decide)
  (case v_HUSH=>exact .cons ⟨_,rfl⟩ .nil)
  (case T=>constructor<;>first|(refine' UG.Ui ?a ?l ?c ?k;(case a=>k_is);(case l=>k_is);(case c=>k_is);(case k=>k_is))|(refine' UG.Uh ?a ?i ?l ?c ?k;(case a=>k_is);(case i=>k_is);(case l=>k_is);(case c=>k_is);(case k=>k_is)))
