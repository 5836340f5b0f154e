
import PyProof.Rows.All
import Wide.All
import OpenK.AllK
import Wide.FinOn
import Lean
import PyProof.EqAt
import PyProof.EqKinds
import PyProof.TupleCall
import PyProof.NeKinds
import PyProof.RaisesMany
import PyProof.RulesAs
import PyProof.NsDelKeeps
import PyProof.InstStoreFacts
import PyProof.ExcClass3
import PyProof.ExcInit
import KE.KTryMore
import PyProof.AutoSeq1
import PyProof.WalkInts
import PyProof.DictIter
import PyProof.DictWalks
import PyProof.DictItems
import PyProof.DictItemsLoops
import KE.KPairComp
import PyProof.DictValues
import PyProof.SumAny
import PyProof.Rows.SumAny
import PyProof.Rows.RuleDivmod
import KE.KRevIter
import PyProof.TupleOfGen
import KE.KMinKey
import PyProof.Rows.CallKwBuiltin
import KE.KDictSum
import KE.IntBitsLaws
import PySem.Challenge.RW_mumtrial_k32_blames_refused
def WJ:Nat->Lean.TSyntax `term->Lean.MacroM (Lean.TSyntax `rcasesPat)
 |0,_=>Lean.Macro.throwUnsupported
 |n+1,p=>do match p with
  |`(⟨$x,*⟩)=>do let y<-x.getElems.mapM (WJ n);`(rcasesPat|⟨$[$(y):rcasesPat],*⟩)
  |`($i:ident)=>`(rcasesPat|$i:ident)
  |`(_)=>`(rcasesPat|_)
  |_=>Lean.Macro.throwUnsupported
noncomputable section
local macro_rules|`(tactic|nofun)=>`(tactic|first|(with_reducible first|assumption|exact Nat.le_of_lt (by assumption)|exact Nat.le_succ_of_le (by assumption)|exact Nat.succ_le_succ (by assumption)|exact Nat.le_trans (by assumption) (by decide)|exact Nat.lt_of_le_of_lt (by assumption) (by decide)|exact Nat.le_trans (by assumption) (by assumption))|omega)
local macro_rules|`(⋯)=>`(by nofun)
local macro_rules|`(∅)=>`(by simp)
local macro_rules|`(↑$s)=>`(($s).heap.objs.size)
local macro_rules|`(tactic|apply ⟨$x,*⟩)=>`(tactic|refine ⟨$x,*⟩)
local macro_rules|`(tactic|let $p:term:=$e)=>do let q<-WJ 9 p;`(tactic|obtain $q:rcasesPat:=$e)
open PySem renaming Program->bI,reduceHash->HW,wpAny_mono->c6,wpAny_bind->ap,wpAny_specialOf->Kj,wpAny_call_entry->Bp,wpAny_pure->aR,wpAny_rule->pT,Builtin->bW,isInstance->vh,wpAny_holding->iN,wpAny_truthy_bool->pS,wpAny_seqItems->og,sizeLine->ai,sysModules->jC,Within->Bt,mainGlobals->bq,bootBuiltins->iM,GenState->Fi,starEach->aK,compareOp->fV,behindInMarks->lV,standAt->pQ,holding->kr,wpAny_execs_nil->pO,wpAny_execs_cons->Fg,swapsWith->pN,assignEach->xN,wpAny_standAt->uK,PassesOwn->Bs,wpAny_passesOwn->iy,letOwnedTupleGo->Ff,wpAny_pyIter_list->xM,wpAny_pyIter_tuple->Fd,foldedSetIterable->tH,binaryOp->lU,sizeLine_eq->lT,getAttr->Bo,getMethod->pM,wpAny_loadPart->Fa,codeAny->O0,attributeBase->xL,FuncData->iL,BindsTo->oP,wpAny_call->j9,codeAny_mono->si,wpAny_Call_Name_kw->oO,callWith->oM,backToKw->k_,keywordEach->k9,NameKind->h_,mem_of_lookup->r_,wpAny_field->c7,getItem->i_,wpAny_callSpecial?_slot->r8,wpAny_typeOf->rX,wpAny_newObj_type->ml,typeLookup->k7,seqIndex?->zP,subscripted->zO,sliceBounds->oH,slicePick->zN,call_meets->vf,valueAt->oG,callerA->mh,noteFrame->rS,ZipApart->rR,wpAny_pyIter_zip->zJ,wpAny_setField->oC,wpAny_setField_rec->rQ,wpAny_onRaise->u5,wpAny_letGo->zG,wpAny_attempt->u4,sliceRange->u1,getAttr?->zi,excClassObj->cZ,checkBuiltinCall->zf,wpAny_loadPart_at->iE,wpAny_isSubtype_exc->rN,codeAny_call_builtin->zc,onTheHeap->y_,setFlight->uV,ExceptHandler->y9
open PySem.Builtin.Tuple renaming tupleHashOf->Dl,tupleExact->zS
open PySem.Value renaming builtin->rD
open Bool renaming false_ne_true->jZ,not_true->Fj,false_eq_true->xO,false_and->Fe,eq_iff_iff->uJ,and_eq_true->oJ,and_false->rP,true_and->uQ
open Nat renaming add_assoc->Fk,le_refl->aB,lt_of_lt_of_le->gH,lt_irrefl->tI,ne_of_lt->cG,le_trans->bh,le_of_lt->eo,ne_of_gt->gF,zero_le->cw,lt_succ_self->Bm,le_succ->iG,succ_le_succ->i9,lt_of_le_of_lt->zM,min_self->zC,not_le_of_lt->j6,min_eq_left->uT,mod_lt->uS,sub_self->j4,zero_add->yY,add_sub_cancel->uL
open List renaming append_nil->eI,range->kA,mem_filter->gv,filterMap_cons->pR,mem_cons_self->cF,mem_cons_of_mem->de,mem_cons->b_,mem_append->bp,mem_append_left->ej,getElem?_eq_some_iff->cx,getElem?_set_ne->Fh,mem_append_right->cE,length_cons->da,lookup->ix,map_cons->bP,length_map->am,nodup_cons->j8,replicate->eM,length_take->aP,getElem?_append_right->iF,getElem?_append_left->vi,getElem?_map->eL,mem_of_getElem?->cH,length_append->aH,length_replicate->dh,size_toArray->bM,length_drop->d_,reverse_cons->rW,length_reverse->mj,find?_cons->fL,any_cons->mi,length_nil->vc,nodup_nil->rT,lookup_cons->i8,forIn_cons->va,all_eq_true->u_,mem_map->aV,not_mem_nil->u8,any_toArray->zB,map_congr_left->zA,drop_zero->uY,take_length->bC,getElem?_eq_getElem->dH,mem_singleton->dF,map_append->ay,nodup_append->eK,drop_of_length_le->rO,drop_eq_getElem_cons->zh,contains_cons->gJ,map_take->uU,map_drop->y8,take_of_length_le->kY,drop_length->y6,mem_of_mem_take->j5,mem_of_mem_drop->y4,append_assoc->d9,map_map->uR,mem_map_of_mem->ma,getElem?_of_mem->rJ,take_append_drop->y3,foldl_append->uP,take_zero->uO,length_filter_le->j3,filter_append->rH,map_eq_nil_iff->oA,length_pos_iff->y2,length_zip->rG,zipWith->iC,length_zipWith->yZ,take_left'->uN,reverse_append->uM,dropLast_concat->yX
open Option.some renaming inj->ff
open PySem.W renaming instObj->tJ,lookIn->Fc,plainGet->Bq,hasDictIn->Fb,findIn->aF,isFn->tG,makesIn->Bn,emptyDict->pL,keepIn->db,specialIn->E_,kitOne->l_,kia_one->jB,callWith_K->sh,fnOf->jb,codeIn->oK,Looks->uX,looks_findIn->uW,exmOne->kZ,kitAny->oB,nsIn->br,mg_of->bX,mg_none_of->fK
open PySem.Heap renaming lt_size->a_,SameBut->kz,get?_push_of_some->bc,get?_push_size->dS,size_push->kq,get?_update_self->k4,get?_update_other->j7
open PyProof.Rows renaming AllBare->n_,callWith_type1->Br,slot_tuple_getitem->rY,Subscript_->zR,subscriptTail->zQ,IntsAre->vb
open Ne renaming symm->dD
open Array renaming length_toList->pP,getElem?_eq_some_iff->iD
open False renaming elim->dU
open True renaming intro->fU
open Option renaming isSome_iff_exists->vj,map_some->vd,map_eq_some_iff->rV
open Int renaming toNat_natCast->r9,emod_nonneg->rM,emod_lt_of_pos->rK,eq_ofNat_of_zero_le->i6
open PySem.Builtin.Slice renaming slicePlaces->zT
open PySem.Str renaming ofString->rZ
open PySem.Obj renaming mapSeq->vg,isFreed_of_fields->u6,data_mapFields->md,mapFields->i7
open PySem.Paired renaming snoc->dI
open ForInStep renaming yield->zK
open PySem.NameKind renaming free->mf
open PySem.Builtin.SmallTypes renaming nextOf->me,ownedTupleIsFree->zH
open PySem.F renaming slot_tuple_iterator_next->zI,slot_zip_next->zD,plainAttrs_list->eA,slot_list_append->hZ,type_list_append->hV,slot_list_pop->rF,type_list_pop->rE
open PySem.Heap.SameBut renaming update->u7
open Classical renaming byContradiction->u3
open PySem.SeqAt renaming EqAt->bF
open PySem.Builtin.Str renaming strSliceIndices->uZ
open PySem.Txt renaming join->zo
open PySem.Code renaming quiet_builtin->ze
open PySem.Builtin.ObjectAttr renaming storeInDict->zb
open PySem.PassesOwn renaming never->bQ
open Option renaming some->pe
open PySem renaming Addr->Wv,Shared->Ww,Value->Wx,World->Wy,Around->Wz,Heap->WA,Expr->WB,Stmt->WC,Str->WD
theorem WE{p:Prop}[Decidable p](h:decide p=true:=by rfl):p:=of_decide_eq_true h
theorem pw{α:Sort u}{a:α}:a=a:=.refl a
theorem Q0:0<=PySem.sizeLine:=by decide
theorem Q1:1<=PySem.sizeLine:=by decide
theorem Q2:2<=PySem.sizeLine:=by decide
theorem Q3:3<=PySem.sizeLine:=by decide
theorem Q4:4<=PySem.sizeLine:=by decide
theorem Q6:6<=PySem.sizeLine:=by decide
theorem qb[Decidable p](h:¬p):decide p=false:=decide_eq_false h
theorem qh[Decidable p](h:p):decide p=true:=decide_eq_true h
abbrev Za:=PySem.W.Frag
abbrev Zb:=List PySem.Str
abbrev Zc:=PySem.Value->PySem.Shared->Prop
abbrev Zd:=List<|PySem.Addr×PySem.Obj
abbrev Ze:=List PySem.Addr
abbrev Zf:=List PySem.Value
section
set_option Elab.async false
set_option linter.all false
set_option maxRecDepth 100000
set_option maxHeartbeats 4000000
namespace L2
open PySem Spec PyProof.Rows
open Sem (wp)
abbrev cD:=Sum Int WD
def dZ:cD->Wx->Bool
 |.inl k,v=>Value.isInt k v
 |.inr x,v=>Value.isStrOf x v
def NN(w:Wy):cD->Int
 |.inl k=>hashInt k
 |.inr x=>hashStr w x
theorem aJ:∀{k:cD}{v:Wx},dZ k v=true->(∃i t,k=Sum.inl i/\v=Value.int i t)∨(∃x t,k=Sum.inr x/\v=Value.str x t)
 |.inl i,v,h=>by
  let⟨t,e⟩:=Value.isInt_shape (k:=i) (v:=v) h;exact .inl ⟨i,t,pw,e⟩
 |.inr x,v,h=>by
  let⟨t,e⟩:=Value.isStrOf_shape (x:=x) (v:=v) h;exact .inr ⟨x,t,pw,e⟩
theorem nM(i:Int)(t:Tok):dZ (.inl i) (.int i t)=true:=by simp[dZ,Value.isInt]
theorem nL(x:WD)(t:Tok):dZ (.inr x) (.str x t)=true:=by simp[dZ,Value.isStrOf]
theorem AH(a b:Int):decide ((Sum.inl a:cD)=Sum.inl b)=(a==b):=by
 by_cases e:a=b
 .subst e;simp
 .have h:¬(Sum.inl a:cD)=Sum.inl b:=λq=>e<|Sum.inl.inj q;rw[qb h];exact(beq_eq_false_iff_ne.mpr e).symm
theorem AE(a b:WD):decide ((Sum.inr a:cD)=Sum.inr b)=decide (a=b):=by
 by_cases e:a=b
 .subst e;simp
 .have h:¬(Sum.inr a:cD)=Sum.inr b:=λq=>e<|Sum.inr.inj q;rw[qb h,qb e]
theorem AG(a:Int)(b:WD):decide ((Sum.inl a:cD)=Sum.inr b)=false:=qb<|λq=>nomatch q
theorem AF(a:WD)(b:Int):decide ((Sum.inr a:cD)=Sum.inl b)=false:=qb<|λq=>nomatch q
def cp(prog:bI)(w:Wy):PySem.KeyKind prog w cD where
 is:=dZ
 hash:=NN w
 inj:=λv a b ha hb=>by
  obtain⟨i,t,rfl,rfl⟩|⟨x,t,rfl,rfl⟩:=aJ ha
  .obtain⟨j,u,rfl,e⟩|⟨y,u,rfl,e⟩:=aJ hb
   .injection e with e1 _;rw[e1]
   .exact nomatch e
  .obtain⟨j,u,rfl,e⟩|⟨y,u,rfl,e⟩:=aJ hb
   .exact nomatch e
   .injection e with e1 _;rw[e1]
 byValue:=λk v h=>by
  obtain⟨i,t,rfl,rfl⟩|⟨x,t,rfl,rfl⟩:=aJ h<;>rfl
 pyHash:=λhv h=>by
  obtain⟨i,t,rfl,rfl⟩|⟨x,t,rfl,rfl⟩:=aJ hv
  .exact wpAny_pyHash_int h
  .exact wpAny_pyHash_str h
 eqBool:=λhu hv h=>by
  obtain⟨i,t,rfl,rfl⟩|⟨x,t,rfl,rfl⟩:=aJ hu
  .obtain⟨j,u,rfl,rfl⟩|⟨y,u,rfl,rfl⟩:=aJ hv
   .rw[AH]at h;exact wpAny_eqBool_int h
   .rw[AG]at h;exact bF.int_str i t y u _ _ _ _ h
  .obtain⟨j,u,rfl,rfl⟩|⟨y,u,rfl,rfl⟩:=aJ hv
   .rw[AF]at h;exact bF.str_int x t j u _ _ _ _ h
   .rw[AE]at h;exact wpAny_eqBool_str h
 «strs»:=λk x t v h=>by
  obtain⟨i,u,rfl,e⟩|⟨y,u,rfl,e⟩:=aJ h
  .exact nomatch e
  .injection e with e1 _;subst e1;cases v<;>rfl
theorem Cz(a:bI)(w:Wy)(i:Int)(t:Tok):(cp a w).is (.inl i) (.int i t)=true:=nM i t
theorem Cy(a:bI)(w:Wy)(x:WD)(t:Tok):(cp a w).is (.inr x) (.str x t)=true:=nL x t
end L2
namespace L2
open PySem Spec PyProof.Rows
open Sem (wp)
abbrev pI:=Option cD
def jm:pI->Wx->Bool
 |none,v=>match v with
  |.none=>true
  |_=>false
 |some k,v=>dZ k v
def LX(w:Wy):pI->Int
 |none=>HW 4238894112
 |some k=>NN w k
theorem bU:∀{k:pI}{v:Wx},jm k v=true->(∃i t,k=pe (Sum.inl i)/\v=Value.int i t)∨(∃x t,k=pe (Sum.inr x)/\v=Value.str x t)∨(k=none/\v=Value.none)
 |none,v,h=>by
  refine .inr<|.inr ⟨pw,?_⟩;cases v<;>first|rfl|cases h
 |some k,v,h=>by
  obtain⟨i,t,rfl,rfl⟩|⟨i,t,rfl,rfl⟩:=aJ (show dZ k v=true from h)
  .exact .inl ⟨i,t,pw,pw⟩
  .exact .inr<|.inl ⟨i,t,pw,pw⟩
theorem v3(f:jm a v=true)(g:jm b v=true):a=b:=by
 obtain⟨i,t,rfl,rfl⟩|⟨i,t,rfl,rfl⟩|⟨rfl,rfl⟩:=bU f<;>obtain⟨j,u,rfl,e⟩|⟨j,u,rfl,e⟩|⟨rfl,e⟩:=bU g<;>first|rfl|(cases e;rfl)|cases e
def Cv(prog:bI)(w:Wy):PySem.KeyKind prog w pI where
 is:=jm
 hash:=LX w
 inj:=λv a b ha hb=>v3 ha hb
 byValue:=λk v h=>by
  obtain⟨i,t,rfl,rfl⟩|⟨x,t,rfl,rfl⟩|⟨rfl,rfl⟩:=bU h<;>rfl
 pyHash:=fun{A E s k v Q} hv h=>by
  obtain⟨i,t,rfl,rfl⟩|⟨x,t,rfl,rfl⟩|⟨rfl,rfl⟩:=bU hv
  .exact wpAny_pyHash_int h
  .exact wpAny_pyHash_str h
  .refine PySem.W.pyHash_slot (T:="NoneType") rfl F.slot_NoneType_hash F.entry_NoneType_hash (F.args_NoneType_hash_1 _) (by rw[beq_builtin_none]) (.inl rfl) ?_;show wpAny _ _ (retInt 4238894112) _ _ _;refine c6 (wpAny_ret_mkInt (Q:=λv s'=>∃n t,v=Value.int n t/\Q (HW n) s') ⟨_,_,pw,h⟩) (λfin s' ⟨v,e,n,t,e2,q⟩=>⟨n,t,by rw[e,e2],q⟩)<|λ_ _ z=>z
 eqBool:=fun{A E s a b u v Q} hu hv h=>by
  obtain⟨i,t,rfl,rfl⟩|⟨x,t,rfl,rfl⟩|⟨rfl,rfl⟩:=bU hu
  .obtain⟨j,u,rfl,rfl⟩|⟨y,u,rfl,rfl⟩|⟨rfl,rfl⟩:=bU hv
   .exact(cp prog w).eqBool (a:=.inl i) (b:=.inl j) (nM i t) (nM j u) (by rw[show decide ((Sum.inl i:cD)=Sum.inl j)=decide ((pe (Sum.inl i):pI)=pe (Sum.inl j))from decide_eq_decide.mpr ⟨λz=>by rw[z],λz=>by injection z⟩];exact h)
   .rw[qb (by intro z;injection z with z;cases z)]at h;exact bF.int_str i t y u _ _ _ _ h
   .rw[qb (by intro z;cases z)]at h;exact bF.int_none i t _ _ _ _ h
  .obtain⟨j,u,rfl,rfl⟩|⟨y,u,rfl,rfl⟩|⟨rfl,rfl⟩:=bU hv
   .rw[qb (by intro z;injection z with z;cases z)]at h;exact bF.str_int x t j u _ _ _ _ h
   .exact(cp prog w).eqBool (a:=.inr x) (b:=.inr y) (nL x t) (nL y u) (by rw[show decide ((Sum.inr x:cD)=Sum.inr y)=decide ((pe (Sum.inr x):pI)=pe (Sum.inr y))from decide_eq_decide.mpr ⟨λz=>by rw[z],λz=>by injection z⟩];exact h)
   .rw[qb (by intro z;cases z)]at h;exact bF.str_none x t _ _ _ _ h
  .obtain⟨j,u,rfl,rfl⟩|⟨y,u,rfl,rfl⟩|⟨rfl,rfl⟩:=bU hv
   .rw[qb (by intro z;cases z)]at h;exact bF.none_int j u _ _ _ _ h
   .rw[qb (by intro z;cases z)]at h;exact bF.none_str y u _ _ _ _ h
   .rw[qh rfl]at h;exact bF.same _ _ _ _ _ h
 «strs»:=λk x t v h=>by
  obtain⟨i,u,rfl,e⟩|⟨y,u,rfl,e⟩|⟨rfl,e⟩:=bU h
  .exact nomatch e
  .injection e with e1 _;subst e1;cases v<;>rfl
  .exact nomatch e
inductive TK where
 |k (a:pI)
 |t (l:List TK)
mutual
def Mg:(x y:TK)->Decidable (x=y)
 |.k a,.k b=>if h:a=b then Decidable.isTrue (by rw[h])else Decidable.isFalse λe=>h (by injection e)
 |.t l,.t m=>match To l m with
  |Decidable.isTrue h=>Decidable.isTrue (by rw[h])
  |Decidable.isFalse h=>Decidable.isFalse λe=>h (by injection e)
 |.k _,.t _=>Decidable.isFalse nofun
 |.t _,.k _=>Decidable.isFalse nofun
def To:(x y:List TK)->Decidable (x=y)
 |[],[]=>Decidable.isTrue rfl
 |[],_::_=>Decidable.isFalse nofun
 |_::_,[]=>Decidable.isFalse nofun
 |a::l,b::m=>match Mg a b with
  |Decidable.isTrue h=>match To l m with
   |Decidable.isTrue h'=>Decidable.isTrue (by rw[h,h'])
   |Decidable.isFalse h'=>Decidable.isFalse λe=>h' (by injection e)
  |Decidable.isFalse h=>Decidable.isFalse λe=>h (by injection e)
end
instance:DecidableEq TK:=Mg
mutual
def TK.depth:TK->Nat
 |.k _=>0
 |.t l=>TK.l' l+1
def TK.l':List TK->Nat
 |[]=>0
 |a::r=>max (TK.depth a)<|TK.l' r
end
mutual
def TK.hash(w:Wy):TK->Int
 |.k a=>LX w a
 |.t l=>HW<|Dl<|TK.Pt w l
def TK.Pt(w:Wy):List TK->List Int
 |[]=>[]
 |a::r=>TK.hash w a::TK.Pt w r
end
mutual
def TK.draws:TK->Nat
 |.k _=>1
 |.t l=>TK.Pu l+1
def TK.Pu:List TK->Nat
 |[]=>0
 |a::r=>TK.draws a+TK.Pu r
end
mutual
def n5(h:WA):TK->Wx->Prop
 |.k a,v=>jm a v=true
 |.t l,v=>∃a o items n,v=.ref a/\h.get? a=pe o/\o.cls=.type "tuple"/\o.data=.seq items n/\Qa h l items.toList
def Qa(h:WA):List TK->List Wx->Prop
 |[],vs=>vs=[]
 |k::r,vs=>∃v us,vs=v::us/\n5 h k v/\Qa h r us
end
theorem n5.inj:∀(d:Nat) {x y:TK}{v:Wx},x.depth<=d->n5 h x v->n5 h y v->x=y:=by
 have w:∀(d:Nat) (s:∀{x y:TK}{v:Wx},x.depth<=d->n5 h x v->n5 h y v->x=y) (xs i:List TK) (m:Zf),TK.l' xs<=d->Qa h xs m->Qa h i m->xs=i:=by
  intro d s xs
  induction xs with
  |nil =>
   intro i m _ hx f;have z:m=[]:=hx;subst z;cases i with
   |nil=>rfl
   |cons y i=>let⟨_,_,e,_⟩:=f;cases e
  |cons x xs A =>
   intro i m p hx f;let⟨v,L,rfl,B,C⟩:=hx;cases i with
   |nil=>have D:v::L=[]:=f;cases D
   |cons y i =>
    let⟨v',N,e,E,G⟩:=f;cases e;have O:max x.depth (TK.l' xs)<=d:=p;rw[s ⋯ B E,A i L ⋯ C G]
 have g:∀(a:pI) (l:List TK) (v:Wx),n5 h (.k a) v->n5 h (.t l) v->False:=by
  intro a l v q H;let⟨b,o,items,n,rfl,_⟩:=H;obtain⟨_,_,_,e⟩|⟨_,_,_,e⟩|⟨_,e⟩:=bU (show jm a (.ref b)=true from q)<;>cases e
 have M:∀(a b:pI) (v:Wx),jm a v=true->jm b v=true->a=b:=λa b v q H=>v3 q H;intro d
 induction d with
 |zero =>
  intro x y v p hx f;cases x with
  |t l=>exact absurd p (by show ¬(TK.l' l+1<=0);nofun)
  |k a =>
   cases y with
   |k b=>rw[M a b v hx f]
   |t l=>exact(g a l v hx f).elim
 |succ d s =>
  intro x y v p hx f;cases x with
  |k a =>
   cases y with
   |k b=>rw[M a b v hx f]
   |t l=>exact(g a l v hx f).elim
  |t l =>
   cases y with
   |k b=>exact(g b l v f hx).elim
   |t Q =>
    let⟨a,o,items,n,rfl,T,hc,I,hi⟩:=hx;let⟨a',o',u,n',e,r,U,j,J⟩:=f;cases e;rw[T]at r;cases r;rw[I]at j;injection j with Y _;subst Y;rw[w d (λq=>s q) l Q items.toList (by have:TK.l' l+1<=d+1:=p;nofun) hi J]
theorem n5.mono(k:∀a o items n,h.get? a=pe o->o.cls=.type "tuple"->o.data=.seq items n->g.get? a=pe o):∀(d:Nat) {x:TK}{v:Wx},x.depth<=d->n5 h x v->n5 g x v:=by
 have m:∀(d:Nat) (i:∀{x:TK}{v:Wx},x.depth<=d->n5 h x v->n5 g x v) (xs:List TK) (j:Zf),TK.l' xs<=d->Qa h xs j->Qa g xs j:=by
  intro d i xs
  induction xs with
  |nil=>intro j _ hx;exact hx
  |cons x xs p =>
   intro j e hx;let⟨v,s,rfl,q,r⟩:=hx;have w:max x.depth (TK.l' xs)<=d:=e;exact⟨v,s,pw,i ⋯ q,p s ⋯ r⟩
 intro d
 induction d with
 |zero =>
  intro x v e hx;cases x with
  |t l=>exact absurd e (by show ¬(TK.l' l+1<=0);nofun)
  |k a=>exact hx
 |succ d i =>
  intro x v e hx;cases x with
  |k a=>exact hx
  |t l =>
   let⟨a,o,items,n,rfl,y,u,f,hi⟩:=hx;exact⟨a,o,items,n,pw,k a o items n y u f,u,f,m d (λz=>i z) l _ (by have:TK.l' l+1<=d+1:=e;nofun) hi⟩
section
variable{prog:bI}{w:Wy}
theorem Kr:∀(d:Nat) {A:Wz}{E:Zc}{s:Ww}{k:TK}{v:Wx}{Q:Int->Ww->Prop},k.depth<=d->A.units+d<cLine->n5 s.heap k v->Q (k.hash w) {s with toks:=s.toks+k.draws} ->
  wpAny (model prog w) A (pyHash v) Q E s:=by
 intro d
 induction d with
 |zero =>
  intro A E s k v Q C hu u h;cases k with
  |t l=>exact absurd C (by show ¬(TK.l' l+1<=0);nofun)
  |k a=>exact(Cv prog w).pyHash (k:=a) u h
 |succ d ih =>
  intro A E s k v Q C hu u h;cases k with
  |k a=>exact(Cv prog w).pyHash (k:=a) u h
  |t l =>
   let⟨a,o,items,n,rfl,U,hc,D,hi⟩:=u;have y:s.TypeIs (.ref a) "tuple":=⟨o,U,hc⟩;have G:TK.l' l<=d:=by have:TK.l' l+1<=d+1:=C;nofun
   unfold pyHash
   first|unfold pyHashByItsType|skip
   first|refine ap (wpAny_cRoomFor_or (.inr ⋯) ?_)|skip
   refine ap<|Kj y F.slot_tuple_hash.lookup ?_;show wpAny _ _ (if(pe (rD "tuple.__hash__")==pe Value.none)=true then _ else _) Q E s
   rw[if_neg (by rw[beq_builtin_none];exact jZ)];refine ap<|Kj y F.slot_tuple_hash.lookup ?_;show wpAny _ _ (callSpecialIfBoundUnlessNone? (.ref a) "__hash__" _ >>= _) Q E s;refine ap<|wpAny_callSpecialIfBoundUnlessNone?_slot y F.slot_tuple_hash<|Bp F.slot_tuple_hash y F.entry_tuple_hash ?_<|F.args_tuple_hash_1 _;show wpAny _ _ (bW.Tuple.tupleItemsOf (.ref a) >>= _) _ _ s;refine ap<|wpAny_tupleItemsOf U D ?_;refine ap ?_;rw[<-Array.forIn_toList];refine wpAny_forIn_list _
    (λg (b:Array Int) H=>∃done left,l=done++left/\Qa s.heap left g/\b.toList=TK.Pt w done/\H={s with toks:=s.toks+TK.Pu done})
    _ ?_ ?_ _ _ ⟨[],l,pw,hi,pw,pw⟩
   .rintro x g b H ⟨done,left,e,z,j,rfl⟩;cases left with
    |nil=>have I:x::g=[]:=z;cases I
    |cons f left =>
     let⟨x',J,L,h1,Y⟩:=z;cases L;have M:f.depth<=d:=by
      have gen:∀(p:List TK),TK.l' (p++f::left)<=d->f.depth<=d:=by
       intro p
       induction p with
       |nil=>intro N;have O:max f.depth (TK.l' left)<=d:=N;nofun
       |cons q p i=>intro N;have O:max q.depth (TK.l'<|p++f::left)<=d:=N;exact i ⋯
      exact gen done (by rw[<-e];exact G)
     have T:TK.Pt w (done++[f])=TK.Pt w done++[f.hash w]:=by
      clear e j
      induction done with
      |nil=>rfl
      |cons q p i=>show _::TK.Pt w (p++[f])=_;rw[i];rfl
     have m:TK.Pu (done++[f])=TK.Pu done+f.draws:=by
      clear e j T
      induction done with
      |nil=>show f.draws+0=0+f.draws;nofun
      |cons q p i=>show q.draws+TK.Pu (p++[f])=q.draws+TK.Pu p+f.draws;rw[i];nofun
     refine ap (ih (k:=f) M (by show A.units+1+d<cLine;nofun) h1 ?_)
     first
      |exact aR ⟨done++[f],left,by rw[e];simp,Y,by rw[T];simp[j],by rw[m];simp[Fk]⟩
      |exact ap (aR (aR ⟨done++[f],left,by rw[e];simp,Y,by rw[T];simp[j],by rw[m];simp[Fk]⟩))
   .rintro b H ⟨done,left,e,z,j,rfl⟩;cases left with
    |cons f left=>let⟨_,_,L,_⟩:=z;cases L
    |nil =>
     rw[eI]at e;subst e;show wpAny _ _ (retInt<|Dl b.toList) _ _ _;rw[j];refine wpAny_ret_mkInt ?_;have r:Q (HW<|Dl<|TK.Pt w l) {s with toks:=s.toks+(TK.Pu l+1)}:=h;show wpAny _ _ (if(decide (-(2:Int) ^ 63<=Dl (TK.Pt w l)) && decide (Dl (TK.Pt w l)<2 ^ 63))=true then _ else _) Q E _
     unfold HW at r;by_cases B:(decide (-(2:Int) ^ 63<=Dl (TK.Pt w l)) && decide (Dl (TK.Pt w l)<2 ^ 63))=true
     .rw[if_pos B];rw[if_pos B]at r;exact aR (by simpa[Fk]using r)
     .rw[if_neg B];rw[if_neg B]at r;exact ap (pT (aR (by simpa[Fk]using r)))
theorem Gu(d:Nat)(ih:∀{A:Wz}{E:Zc}{s:Ww}{x y:TK}{u v:Wx}{Q:Bool->Ww->Prop},x.depth<=d->y.depth<=d->A.units+d<cLine->n5 s.heap x u->n5 s.heap y v->Q (decide (x=y)) s->wpAny (model prog w) A (eqBool u v) Q E s)(hx:TK.l' x<=d)(hy:TK.l' y<=d)(hu:A.units+d<cLine)(M:s.heap.get? a=pe oa)(N:oa.data=.seq xs na)(O:Qa s.heap x xs.toList)(z:s.heap.get? b=pe J)(T:J.cls=.type "tuple")(U:J.data=.seq q nb)(Y:Qa s.heap y q.toList)(h:P (.done<|.ret<|.bool<|decide (x=y)) s):wpAny (model prog w) A (bW.«tuple.__eq__» ⟨[.ref a,.ref b],[]⟩) P E s:=by
 have ab:s.TypeIs (.ref b) "tuple":=⟨J,z,T⟩;show wpAny _ _ (vh (.ref b) (.type "tuple") >>= _) _ _ s;refine ap<|wpAny_isInstance ab isSubtype_tuple_tuple ?_;simp only[Fj,xO,if_false];refine ap<|wpAny_tupleItemsOf M N ?_;refine ap<|wpAny_tupleItemsOf z U ?_;refine ap ?_;refine wpAny_forIn_list _
  (λl r L=>r.1=none/\L=s/\∃n m Tq f,l=List.zip Tq f/\Qa s.heap n Tq/\Qa s.heap m f/\TK.l' n<=d/\TK.l' m<=d/\decide (n=m)=decide (x=y)/\(Tq.length==f.length)=(xs.size==q.size))
  _ ?_ ?_ _ _ ⟨pw,pw,x,y,xs.toList,q.toList,pw,O,Y,hx,hy,pw,by simp⟩
 .rintro⟨u,v⟩ l r L ⟨hr,rfl,n,m,Tq,f,t,j,g,dx,dy,i,k⟩;cases n with
  |nil =>
   have e:Tq=[]:=j;subst e;simp at t
  |cons k1 o =>
   let⟨u',B,rfl,h1,C⟩:=j;cases m with
   |nil =>
    have e:f=[]:=g;subst e;simp at t
   |cons k2 p =>
    let⟨v',D,rfl,h2,G⟩:=g;simp only[List.zip_cons_cons,List.cons.injEq,Prod.mk.injEq]at t;let⟨⟨rfl,rfl⟩,rfl⟩:=t;have al:max k1.depth (TK.l' o)<=d:=dx;have an:max k2.depth (TK.l' p)<=d:=dy;refine ap (ih (x:=k1) (y:=k2) ⋯ ⋯ hu h1 h2 ?_);by_cases hk:k1=k2
    .subst hk;rw[qh rfl];simp only[Fj,xO,if_false];refine aR ⟨pw,pw,o,p,B,D,pw,C,G,by nofun,by nofun,?_,by simpa using k⟩;rw[<-i];by_cases H:o=p
     .simp[H]
     .simp[H]
    .rw[qb hk];simp only[Bool.not_false,if_true];have hf:decide (x=y)=false:=by rw[<-i];simp[hk]
     rw[hf]at h;exact ap<|aR<|aR<|aR h
 .rintro⟨r1,r2⟩ L ⟨hr,rfl,n,m,Tq,f,t,j,g,dx,dy,i,k⟩;simp only at hr;subst hr;refine aR ?_;have I:(xs.size==q.size)=decide (x=y):=by
   rw[<-i,<-k];cases n with
   |nil =>
    have e:Tq=[]:=j;subst e;cases m with
    |nil=>have e:f=[]:=g;subst e;simp
    |cons _ _=>let⟨_,_,rfl,_⟩:=g;simp
   |cons _ _ =>
    let⟨_,_,rfl,_⟩:=j;cases m with
    |nil=>have e:f=[]:=g;subst e;simp
    |cons _ _=>let⟨_,_,rfl,_⟩:=g;simp at t
  show P (.done<|.ret<|.bool<|xs.size==q.size) L;rw[I];exact h
theorem Nr:∀(d:Nat) {A:Wz}{E:Zc}{s:Ww}{x y:TK}{u v:Wx}{Q:Bool->Ww->Prop},x.depth<=d->y.depth<=d->A.units+d<cLine->n5 s.heap x u->n5 s.heap y v->Q (decide (x=y)) s ->
  wpAny (model prog w) A (eqBool u v) Q E s:=by
 have g:∀{A:Wz}{E:Zc}{s:Ww}{a:pI}{l:List TK}{u v:Wx}{Q:Bool->Ww->Prop},A.units<cLine->n5 s.heap (.k a) u->n5 s.heap (.t l) v->Q false s->wpAny (model prog w) A (eqBool u v) Q E s:=by
  intro A E s a l u v Q j hx f h;let⟨b,o,items,n,rfl,L,M,q,hi⟩:=f;have r:s.heap.IsTuple b items:=⟨o,L,M,n,q⟩;obtain⟨i,t,rfl,rfl⟩|⟨i,t,rfl,rfl⟩|⟨rfl,rfl⟩:=bU (show jm a u=true from hx)
  .exact bF.int_tuple i t r j prog w E Q h
  .exact bF.str_tuple i t r j prog w E Q h
  .exact bF.none_tuple r j prog w E Q h
 have p:∀{A:Wz}{E:Zc}{s:Ww}{a:pI}{l:List TK}{u v:Wx}{Q:Bool->Ww->Prop},A.units<cLine->n5 s.heap (.t l) u->n5 s.heap (.k a) v->Q false s->wpAny (model prog w) A (eqBool u v) Q E s:=by
  intro A E s a l u v Q j hx f h;let⟨b,o,items,n,rfl,L,M,q,hi⟩:=hx;have r:s.heap.IsTuple b items:=⟨o,L,M,n,q⟩;obtain⟨i,t,rfl,rfl⟩|⟨i,t,rfl,rfl⟩|⟨rfl,rfl⟩:=bU (show jm a v=true from f)
  .exact bF.tuple_int i t r j prog w E Q h
  .exact bF.tuple_str i t r j prog w E Q h
  .exact bF.tuple_none r j prog w E Q h
 have leaves:∀{A:Wz}{E:Zc}{s:Ww}{a b:pI}{u v:Wx}{Q:Bool->Ww->Prop},n5 s.heap (.k a) u->n5 s.heap (.k b) v->Q (decide (TK.k a=TK.k b)) s->wpAny (model prog w) A (eqBool u v) Q E s:=by
  intro A E s a b u v Q hx f h;refine(Cv prog w).eqBool (a:=a) (b:=b) hx f ?_;by_cases e:a=b
  .subst e;simpa using h
  .have:¬(TK.k a=TK.k b):=λz=>e (by injection z);rw[qb this]at h;rw[qb e];exact h
 intro d
 induction d with
 |zero =>
  intro A E s x y u v Q B C j hx f h;cases x with
  |t l=>exact absurd B (by show ¬(TK.l' l+1<=0);nofun)
  |k a =>
   cases y with
   |t l=>exact absurd C (by show ¬(TK.l' l+1<=0);nofun)
   |k b=>exact leaves hx f h
 |succ d ih =>
  intro A E s x y u v Q B C j hx f h;cases x with
  |k a =>
   cases y with
   |k b=>exact leaves hx f h
   |t l =>
    rw[qb (by intro z;cases z)]at h;exact g ⋯ hx f h
  |t l =>
   cases y with
   |k b =>
    rw[qb (by intro z;cases z)]at h;exact p ⋯ hx f h
   |t m =>
    have hl:TK.l' l<=d:=by have:TK.l' l+1<=d+1:=B;nofun
    have hm:TK.l' m<=d:=by have:TK.l' m+1<=d+1:=C;nofun
    have N:=hx;have O:=f;let⟨a,oa,xs,na,rfl,G,T,U,Y⟩:=hx;let⟨b,ob,ys,nb,rfl,H,I,ab,al⟩:=f;have J:s.TypeIs (.ref a) "tuple":=⟨oa,G,T⟩;have an:s.TypeIs (.ref b) "tuple":=⟨ob,H,I⟩;have as:decide (TK.t l=TK.t m)=decide (l=m):=by
     by_cases e:l=m
     .subst e;simp
     .have:¬(TK.t l=TK.t m):=λz=>e (by injection z);rw[qb this,qb e]
    unfold eqBool
    try with_reducible refine iN ?_
    show wpAny _ _ (if(Value.ref a==Value.ref b)=true then _ else _) Q E s
    by_cases D:(Value.ref a==Value.ref b)=true
    .rw[if_pos D];have e:a=b:=by have:=eq_of_beq D;injection this
     subst e;have e2:TK.t l=TK.t m:=n5.inj _ (aB _) N O;rw[qh e2]at h;exact ap<|pT<|aR h
    .rw[if_neg D];rw[as]at h;exact ap (wpAny_richCompare_same_room (op:=.Eq) J an F.slot_tuple_eq
      (Bp F.slot_tuple_eq J F.entry_tuple_eq (Gu d (λh1 h2 h3 h4 h5 h6=>ih h1 h2 h3 h4 h5 h6) hl hm (by show A.units+1+d<cLine;nofun) G U Y H I ab al ⟨_,pw,(λe=>nomatch e),pS h⟩)<|F.args_tuple_eq_2 _ _) ⋯)
theorem Il:∀(d:Nat) {A:Wz}{E:Zc}{s:Ww}{k:TK}{v:Wx}{Q:Bool->Ww->Prop},k.depth<=d->n5 s.heap k v->Q true s->wpAny (model prog w) A (eqIsQuiet d v) Q E s:=by
 intro d
 induction d with
 |zero =>
  intro A E s k v Q j i h;cases k with
  |t l=>exact absurd j (by show ¬(TK.l' l+1<=0);nofun)
  |k a=>rw[eqIsQuiet_byValue _<|(Cv prog w).byValue a v i];exact aR h
 |succ d D =>
  intro A E s k v Q j i h;cases k with
  |k a=>rw[eqIsQuiet_byValue _<|(Cv prog w).byValue a v i];exact aR h
  |t l =>
   have G:TK.l' l<=d:=by have:TK.l' l+1<=d+1:=j;nofun
   let⟨a,o,items,n,rfl,y,H,m,hi⟩:=i;have z:s.TypeIs (.ref a) "tuple":=⟨o,y,H⟩;unfold eqIsQuiet;refine ap<|Kj z F.slot_tuple_eq.lookup ?_;show wpAny _ _ (vh (.ref a) (.type "tuple") >>= _) _ _ s;refine ap<|wpAny_isInstance z isSubtype_tuple_tuple ?_;simp only[Fj,xO,if_false];refine ap<|og y m ?_;refine ap ?_;show wpAny _ _ (forIn items _ _) _ _ s;rw[<-Array.forIn_toList];refine wpAny_forIn_list _ (λf r p=>r.1=none/\p=s/\∃left,Qa s.heap left f/\TK.l' left<=d) _ ?_ ?_ _ _ ⟨pw,pw,l,hi,G⟩
   .rintro v f r p ⟨q,rfl,left,g,u⟩;cases left with
    |nil=>have e:v::f=[]:=g;cases e
    |cons B left =>
     let⟨L,x,e,I,J⟩:=g;cases e;have C:max B.depth (TK.l' left)<=d:=u;refine ap (D (k:=B) ⋯ I ?_);simp only[Fj,xO,if_false];exact aR ⟨pw,pw,left,J,by nofun⟩
   .rintro⟨M,N⟩ p ⟨q,rfl,_⟩;simp only at q;subst q;exact aR h
def gK(prog:bI)(w:Wy):HeapKind prog w TK where
 is:=λh k a=>n5 h k (.ref a)/\k.depth<=8
 hash:=TK.hash w
 draws:=TK.draws
 room:=λA=>A.units+8<cLine
 inj:=λhx hy=>n5.inj 8 hx.2 hx.1 hy.1
 keeps:=fun{h h' k a d o es ep} x ho hd hs=>⟨n5.mono (λb ob items n hb _ VC=>(hs.2 b λe=>by
  subst e;rw[ho]at hb;cases hb;rw[hd]at VC;cases VC).trans hb) 8 x.2 x.1,x.2⟩
 pyHash:=λhu hk h=>Kr 8 hk.2 hu hk.1 h
 eqBool:=λhu hx hy h=>Nr 8 hx.2 hy.2 hu hx.1 hy.1 h
 quiet:=λhk h=>Il 8 hk.2 hk.1 h
end
end L2
namespace L2
open PySem Spec PyProof.Rows
inductive V where
 |L'|bl (b:Bool)|int (i:Int)|str (x:WD)|SU (b:Array UInt8)|TZ (b:UInt64)|ref (a:Wv)|ty (n:String)
 deriving DecidableEq
def RelV:V->Wx->Prop
 |.L',u=>u=Value.none
 |.bl b,u=>u=Value.bool b
 |.int i,u=>∃t,u=Value.int i t
 |.str x,u=>∃t,u=Value.str x t
 |.SU b,u=>∃t,u=Value.bytes b t
 |.TZ b,u=>∃t,u=Value.float b t
 |.ref a,u=>u=Value.ref a
 |.ty n,u=>u=Value.type n
abbrev bg:List V->List Wx->Prop:=Paired RelV
theorem bg.length(r:bg xs a):xs.length=a.length:=Paired.length r
theorem bg.get:∀{xs:List V}{a:Zf}{i:Nat}{x:V},bg xs a->xs[i]?=pe x->∃u,a[i]?=pe u/\RelV x u
 |_,_,_,_,.nil,e=>by simp at e
 |_,_,0,_,.cons r _,e=>by simp at e;subst e;exact⟨_,pw,r⟩
 |_,_,i+1,x,.cons _ t,e=>by
  let⟨u,f,g⟩:=bg.get (i:=i) (x:=x) t (by simpa using e);exact⟨u,by simpa using f,g⟩
theorem bg.set(r:RelV x u):∀{xs:List V}{a:Zf}(i:Nat),bg xs a->bg (xs.set i x) (a.set i u)
 |_,_,_,.nil=>.nil
 |_,_,0,.cons _ t=>.cons r t
 |_,_,i+1,.cons q t=>.cons q<|bg.set r i t
theorem bg.append(h:bg xs e)(s:bg a f):bg (xs++a) (e++f):=by
 induction h with
 |nil=>exact s
 |cons r _ g=>exact .cons r g
theorem bg.take:∀{xs:List V}{a:Zf}(n:Nat),bg xs a->bg (xs.take n) (a.take n)
 |_,_,0,_=>.nil
 |_,_,_+1,.nil=>.nil
 |_,_,n+1,.cons r t=>.cons r<|bg.take n t
theorem bg.drop:∀{xs:List V}{a:Zf}(n:Nat),bg xs a->bg (xs.drop n) (a.drop n)
 |_,_,0,r=>r
 |_,_,_+1,.nil=>.nil
 |_,_,n+1,.cons _ t=>bg.drop n t
def jr:Option V->Option Wx->Prop
 |some v,pe u=>RelV v u
 |none,none=>True
 |_,_=>False
def KV{κ:Type}:List (κ×V)->List (κ×Wx)->Prop:=Paired λ(p:κ×V) (q:κ×Wx)=>p.1=q.1/\RelV p.2 q.2
def kV:cD->V
 |.inl i=>.int i
 |.inr x=>.str x
def LY:pI->V
 |none=>.L'
 |some k=>kV k
inductive HO where
 |lst (xs:List V)
 |tup (xs:List V)
 |dK (kvs:List (cD×V))|dT (kvs:List (TK×V))
 |set (S:Int->Bool) (n:Nat)
 |ins (C dx:Wv) (fs:List (WD×V))
 |own (x:Wv)
 |xd (fs:List (WD×V))
 |met (f x:Wv)
 |UP (lo hi:Int)
 |PF (o:Obj) (u:HO)
 |T_ (ps:Array Wx)
 |ext (φ:WA->Prop)
abbrev Hp:=Wv->Option HO
mutual
def jq(H:Hp):TK->V->Prop
 |.k a,v=>v=LY a
 |.t l,v=>∃b xs,v=.ref b/\H b=pe (.tup xs)/\OS H l xs
def OS(H:Hp):List TK->List V->Prop
 |[],vs=>vs=[]
 |k::r,vs=>∃v us,vs=v::us/\jq H k v/\OS H r us
end
def bN(K:Za)(H:Hp)(a:Wv)(xs:List V):Prop :=
 H a=pe (.tup xs)∨∃(o:Obj) (RH:Array Wx) (n:Nat),K.lookup a=pe o/\o.cls=.type "tuple"/\o.data=.seq RH n/\RH.size<=ai/\bg xs RH.toList
theorem bN.keeps{K:Za}(h:bN K H a xs)(f:∀b xs,H b=pe (.tup xs)->e b=pe (.tup xs)):bN K e a xs:=h.imp (f a xs) id
mutual
def Dk(K:Za)(H:Hp):TK->V->Prop
 |.k a,v=>v=LY a
 |.t l,v=>∃b xs,v=.ref b/\bN K H b xs/\SV K H l xs
def SV(K:Za)(H:Hp):List TK->List V->Prop
 |[],vs=>vs=[]
 |k::r,vs=>∃v us,vs=v::us/\Dk K H k v/\SV K H r us
end
theorem Dk.keeps{K:Za}(p:∀b xs,H b=pe (.tup xs)->f b=pe (.tup xs)):∀(d:Nat) {k:TK}{v:V},k.depth<=d->Dk K H k v->Dk K f k v:=by
 have i:∀(d:Nat) (g:∀{k:TK}{v:V},k.depth<=d->Dk K H k v->Dk K f k v) (xs:List TK) (h:List V),TK.l' xs<=d->SV K H xs h->SV K f xs h:=by
  intro d g xs
  induction xs with
  |nil=>intro h _ hx;exact hx
  |cons x xs j =>
   intro h e hx;let⟨v,o,rfl,m,n⟩:=hx;have q:max x.depth (TK.l' xs)<=d:=e;exact⟨v,o,pw,g ⋯ m,j o ⋯ n⟩
 intro d
 induction d with
 |zero =>
  intro k v e hx;cases k with
  |t l=>exact absurd e (by show ¬(TK.l' l+1<=0);nofun)
  |k a=>exact hx
 |succ d g =>
  intro k v e hx;cases k with
  |k a=>exact hx
  |t l =>
   let⟨b,xs,rfl,r,hi⟩:=hx;exact⟨b,xs,pw,r.keeps p,i d (λs=>g s) l xs (by have:TK.l' l+1<=d+1:=e;nofun) hi⟩
theorem jq.c{K:Za}:∀(d:Nat) {k:TK}{v:V},k.depth<=d->jq H k v->Dk K H k v:=by
 have h:∀(d:Nat) (f:∀{k:TK}{v:V},k.depth<=d->jq H k v->Dk K H k v) (xs:List TK) (g:List V),TK.l' xs<=d->OS H xs g->SV K H xs g:=by
  intro d f xs
  induction xs with
  |nil=>intro g _ hx;exact hx
  |cons x xs i =>
   intro g e hx;let⟨v,n,rfl,j,m⟩:=hx;have o:max x.depth (TK.l' xs)<=d:=e;exact⟨v,n,pw,f ⋯ j,i n ⋯ m⟩
 intro d
 induction d with
 |zero =>
  intro k v e hx;cases k with
  |t l=>exact absurd e (by show ¬(TK.l' l+1<=0);nofun)
  |k a=>exact hx
 |succ d f =>
  intro k v e hx;cases k with
  |k a=>exact hx
  |t l =>
   let⟨b,xs,rfl,p,hi⟩:=hx;exact⟨b,xs,pw,.inl p,h d (λq=>f q) l xs (by have:TK.l' l+1<=d+1:=e;nofun) hi⟩
def upd(H:Hp)(a:Wv)(o:HO):Hp:=λb=>if b=a then pe o else H b
theorem aa:upd H a o a=pe o:=by unfold upd;rw[if_pos rfl]
theorem aj(h:b≠a):upd H a o b=H b:=by unfold upd;rw[if_neg h]
theorem nh:upd (upd H a o) a u=upd H a u:=by
 funext b;unfold upd;split<;>rfl
theorem LV{H:Hp}{a b:Wv}{o u:HO}(h:H a=pe o)(f:H b=pe u)(d:o≠u):a≠b:=by
 intro e;subst e;rw[h]at f;exact d<|ff f
theorem ag{H:Hp}{a b:Wv}{o:HO}(h:H a=pe o)(f:H b=none):a≠b:=by
 intro e;subst e;rw[h]at f;cases f
section
variable(P:bI)(w:Wy)(K:Za)
def cv(H:Hp)(h:WA)(a:Wv):HO->Prop
 |.lst xs=>xs.length<=ai/\∃(RH:Zf) (n:Nat),bg xs RH/\h.get? a=pe { cls:=.type "list",data:=.seq RH.toArray n}
 |.tup xs=>xs.length<=ai/\∃RH:List Wx,bg xs RH/\IsTup h a RH.toArray
 |.dK kvs=>kvs.length<=ai/\(a==jC)=false/\∃vs,KV kvs vs/\h.DictOf (cp P w) a vs
 |.dT kvs=>kvs.length<=ai/\(a==jC)=false/\∃xs:List<|TK×Wv×Wx,
   Paired (λ(p:TK×V) (q:TK×Wv×Wx)=>p.1=q.1/\Dk K H p.1 (.ref q.2.1)/\p.1.depth<=8/\RelV p.2 q.2.2) kvs xs /\
   ∃o es ep,h.get? a=pe o/\o.ExactDict/\o.data=.dict es ep/\es.toList=xs.map (entryOfKey<|gK P w)/\(xs.map (·.1)).Nodup
 |.set S n=>h.SetOf (intKind P w) a S n
 |.ins C dx fs=>H dx=pe (.own a)/\fs.length<=1000/\dx≠a/\h.get? a=pe (tJ C dx) /\
   ∃mA,h.Ns1 dx mA/\(∀f,jr (fs.lookup f)<|mA f)/\Bt mA (fs.map (·.1))
 |.own _=>∃o,h.get? a=pe o
 |.xd fs=>∃mA,h.Ns1 a mA/\∀f,jr (fs.lookup f) (mA f)
 |.UP lo hi=>∃t u v,h.get? a=pe { cls:=.type "range",data:=.fields #[.int lo t,.int hi u,.int 1 v]}
 |.PF o u=>h.get? a=pe o/\cv H h a u
 |.T_ ps=>h.get? a=pe { cls:=.none,data:=.fields ps}
 |.met f x=>h.get? a=pe (PySem.W.methodObj (.ref f)<|.ref x)
 |.ext φ=>φ h/\(∃o,h.get? a=pe o)/\∀h1 h2:WA,φ h1->(∀o,h1.get? a=pe o->h2.get? a=pe o)->φ h2
def lY(H:Hp)(h:WA):Prop:=∀a o,H a=pe o->cv P w K H h a o
end
section
variable{P:bI}{w:Wy}{K:Za}{H H':Hp}{h h':WA}{a:Wv}{o:HO}
theorem cv.lt(x:cv P w K H h a o):a<h.objs.size:=by
 cases o with
 |lst xs=>let⟨_,_,_,_,e⟩:=x;exact a_ e
 |tup xs=>let⟨_,_,_,p⟩:=x;exact p.lt
 |dK g=>let⟨_,_,_,_,o,_,_,e,_⟩:=x;exact a_ e
 |dT g=>let⟨_,_,_,_,o,_,_,e,_⟩:=x;exact a_ e
 |set S n=>let⟨o,_,_,_,e,_⟩:=x;exact a_ e
 |ins C i fs=>let⟨_,_,_,e,_⟩:=x;exact a_ e
 |own y=>let⟨_,e⟩:=x;exact a_ e
 |xd fs=>let⟨_,⟨_,_,_,e,_⟩,_⟩:=x;exact a_ e
 |UP lo hi=>let⟨_,_,_,e⟩:=x;exact a_ e
 |PF j u=>let⟨e,_⟩:=x;exact a_ e
 |T_ k=>exact a_<|show h.get? a=pe _ from x
 |met f y=>exact a_<|show h.get? a=pe _ from x
 |ext φ=>let⟨_,⟨_,e⟩,_⟩:=x;exact a_ e
theorem Paired.OJ(h:Paired F e g)(f:∀a b,F a b->G a b):Paired G e g:=by
 induction h with
 |nil=>exact .nil
 |cons r _ i=>exact .cons (f _ _ r) i
theorem cv.QD(x:cv P w K H h a o)(k:∀b u,(b=a∨H b=pe (.own a))->h.get? b=pe u->h'.get? b=pe u)
  (D:∀b,H b=pe (.own a)->H' b=pe (.own a)) (E:∀b xs,H b=pe (.tup xs)->H' b=pe (.tup xs)):cv P w K H' h' a o:=by
 induction o with
 |lst xs=>let⟨z,l,n,r,e⟩:=x;exact⟨z,l,n,r,k _ _ (.inl rfl) e⟩
 |tup xs=>let⟨z,l,r,g,e,c⟩:=x;exact⟨z,l,r,g,k _ _ (.inl rfl) e,c⟩
 |dK m=>let⟨z,y,G,r,g,i,j,e,c⟩:=x;exact⟨z,y,G,r,g,i,j,k _ _ (.inl rfl) e,c⟩
 |dT m =>
  let⟨z,y,xs,r,g,i,j,e,c⟩:=x;exact⟨z,y,xs,Paired.OJ r λp q z=>⟨z.1,Dk.keeps E 8 z.2.2.1 z.2.1,z.2.2⟩,g,i,j,k _ _ (.inl rfl) e,c⟩
 |set S n=>let⟨g,i,j,t,e,c⟩:=x;exact⟨g,i,j,t,k _ _ (.inl rfl) e,c⟩
 |ins C L fs =>
  let⟨d,z,ne,e,s,⟨A,i,j,I,c⟩,r⟩:=x;exact⟨D _ d,z,ne,k _ _ (.inl rfl) e,s,⟨A,i,j,k _ _ (.inr d) I,c⟩,r⟩
 |own y=>let⟨g,e⟩:=x;exact⟨g,k _ _ (.inl rfl) e⟩
 |xd fs=>let⟨s,⟨A,i,j,e,c⟩,r⟩:=x;exact⟨s,⟨A,i,j,k _ _ (.inl rfl) e,c⟩,r⟩
 |UP lo hi=>let⟨t,u,v,e⟩:=x;exact⟨t,u,v,k _ _ (.inl rfl) e⟩
 |PF g u J=>let⟨e,q⟩:=x;exact⟨k _ _ (.inl rfl) e,J q⟩
 |T_ B =>
  have e:h.get? a=pe { cls:=.none,data:=.fields B}:=x;show h'.get? a=pe { cls:=.none,data:=.fields B};exact k a _ (.inl rfl) e
 |met f y =>
  have e:h.get? a=pe (PySem.W.methodObj (.ref f)<|.ref y):=x;show h'.get? a=pe (PySem.W.methodObj (.ref f)<|.ref y);exact k a _ (.inl rfl) e
 |ext φ=>let⟨p,⟨o,e⟩,st⟩:=x;exact⟨st _ _ p λo q=>k _ _ (.inl rfl) q,⟨o,k _ _ (.inl rfl) e⟩,st⟩
theorem lY.lt(x:lY P w K H h)(e:H a=pe o):a<h.objs.size:=(x a o e).lt
theorem lY.fresh(x:lY P w K H h)(e:h.objs.size<=a):H a=none:=by
 cases q:H a with
 |none=>rfl
 |some u=>exact absurd (gH (x.lt q) e)<|tI _
theorem lY.kept(x:lY P w K H h)(k:∀b u,h.get? b=pe u->h'.get? b=pe u):lY P w K H h':=λa o e =>
 (x a o e).QD (λb u _ q=>k b u q) (λ_ q=>q) λ_ _ q=>q
theorem lY.laid(x:lY P w K H h)(k:∀b u,h.get? b=pe u->h'.get? b=pe u)(i:h.objs.size<=a)(new:cv P w K (upd H a o) h' a o):lY P w K (upd H a o) h':=λb u e=>by
 have f:=x.fresh i;by_cases g:b=a
 .subst g;rw[aa]at e;cases e;exact new
 .rw[aj g]at e;exact(x b u e).QD (λc v _ q=>k c v q) (λc q=>by rw[aj<|ag q f];exact q) λc xs q=>by rw[aj<|ag q f];exact q
end
def Rd(H:Hp)(a:Wv)(u:HO):Prop:=H a=pe u∨∃o,H a=pe (.PF o u)
theorem Rd.ok{K:Za}(r:Rd H a u)(x:lY P w K H h):cv P w K H h a u:=by
 obtain r|⟨o,r⟩:=r
 .exact x a u r
 .obtain⟨_,q⟩:=x a _ r;exact q
def N1:Option HO->Prop
 |some (.lst _)=>True
 |some (.dK _)=>True
 |some (.dT _)=>True
 |some (.set _ _)=>True
 |some (.ins _ _ _)=>True
 |some (.ext _)=>True
 |_=>False
section
variable{P:bI}{w:Wy}{K:Za}{H:Hp}{h h':WA}{x e:Wv}{o':HO}
theorem lY.write(ok:lY P w K H h)(i:N1<|H x)(m:e=x∨H e=pe (.own x))(k:∀b u,b≠e->h.get? b=pe u->h'.get? b=pe u)(l:∃u,h'.get? e=pe u)
  (new:cv P w K (upd H x o') h' x o'):lY P w K (upd H x o') h':=λb u q=>by
 have f:∀c y,H c=pe (.own y)->c≠x:=λc y r z=>by subst z;rw[r]at i;exact i
 have g:∀c xs,H c=pe (.tup xs)->c≠x:=λc xs r z=>by subst z;rw[r]at i;exact i
 by_cases j:b=x
 .subst j;rw[aa]at q;cases q;exact new
 .rw[aj j]at q;by_cases a:b=e
  .have n:H b=pe (.own x):=by
    obtain z|z:=m
    .exact absurd (a.trans z) j
    .rw[a];exact z
   rw[q]at n;cases n;let⟨v,o⟩:=l;exact⟨v,by rw[a];exact o⟩
  .refine(ok b u q).QD (λc v hc r=>k c v ?_ r) (λc r=>by rw[aj<|f c b r];exact r) λc xs r=>by rw[aj<|g c xs r];exact r
   obtain rfl|hc:=hc
   .exact a
   .rintro rfl;obtain z|z:=m
    .exact f c b hc z
    .rw[hc]at z;cases z;exact j rfl
end
structure Un(fs ex:Ze)(H H':Hp)(h h':WA):Prop where
 keep:∀b o,h.get? b=pe o->H b=none->b∉fs->b∉ex->h'.get? b=pe o
 slot:∀b o,h.get? b=pe o->H b=none->b∈fs->b∉ex->∃sl,h'.get? b=pe {o with slots:=sl}
 free:∀b o,h.get? b=pe o->H b=none->b∉ex->H' b=none
 there:∀b o,h.get? b=pe o->b∉ex->∃o',h'.get? b=pe o'
 RZ:∀b xs,H b=pe (.tup xs)->H' b=pe (.tup xs)
 RI:∀b o u,H b=pe (.PF o u)->H' b=pe (.PF o u)
 R0:∀b ps,H b=pe (.T_ ps)->∃more,H' b=pe (.T_ (ps++more))
section
variable{fs Wh ex Ws:Ze}{H H1 H2:Hp}{h h1 h2 h':WA}{a x e:Wv}{o:HO}
theorem Un.any(u:Un fs ex H H1 h h1)(q:h.get? b=pe f)(n:H b=none)(hx:b∉ex):∃i,h1.get? b=pe {f with slots:=i}:=by
 by_cases g:b∈fs
 .exact u.slot b f q n g hx
 .exact⟨f.slots,u.keep b f q n g hx⟩
theorem Un.kept(k:∀b u,h.get? b=pe u->h'.get? b=pe u):Un fs ex H H h h' :=
 ⟨λb f q _ _ _=>k b f q,λb f q _ _ _=>⟨f.slots,k b f q⟩,λ_ _ _ n _=>n,λb f q _=>⟨f,k b f q⟩,λ_ _ q=>q,λ_ _ _ q=>q,λ_ g q=>⟨#[],by rw[q];simp⟩⟩
theorem Un.refl:Un fs ex H H h h:=Un.kept λ_ _ q=>q
theorem Un.laid(k:∀b u,h.get? b=pe u->h'.get? b=pe u)(g:h.objs.size<=a)(f:H a=none):Un fs ex H (upd H a o) h h' where
 keep:=λb u q _ _ _=>k b u q
 slot:=λb u q _ _ _=>⟨u.slots,k b u q⟩
 free:=λb u q n _=>by rw[aj<|cG<|gH (a_ q) g];exact n
 there:=λb u q _=>⟨u,k b u q⟩
 RZ:=λb xs q=>by rw[aj<|ag q f];exact q
 RI:=λb u xs q=>by rw[aj<|ag q f];exact q
 R0:=λb i q=>⟨#[],by rw[aj<|ag q f,q];simp⟩
theorem Un.write(g:N1<|H x)(m:e=x∨H e=pe (.own x))(k:∀b u,b≠e->h.get? b=pe u->h'.get? b=pe u)(i:∃u,h'.get? e=pe u):Un fs ex H (upd H x o) h h':=by
 have hx:∀b,H b=none->b≠x:=λb n z=>by subst z;rw[n]at g;exact g
 have l:∀b,H b=none->b≠e:=λb n z=>by
  subst z;obtain r|r:=m
  .exact hx b n r
  .rw[n]at r;cases r
 have j:∀b u,H b=pe u->¬N1 (pe u)->b≠x:=λb u q p z=>by subst z;rw[q]at g;exact p g
 apply⟨λb u q n _ _=>k b u (l b n) q,λb u q n _ _=>⟨u.slots,k b u (l b n) q⟩,λb u q n _=>by rw[aj<|hx b n];exact n,λb u q _=>?_,
  λb xs q=>by rw[aj<|j b _ q λz=>z];exact q,λb u xs q=>by rw[aj<|j b _ q λz=>z];exact q,λb s q=>⟨#[],by rw[aj<|j b _ q λz=>z,q];simp⟩⟩
 by_cases f:b=e
 .subst f;exact i
 .exact⟨u,k b u f q⟩
end
def Si(h:WA)(H:Hp):List Wv:=(kA h.objs.size).filter λa=>(H a).isSome
def AL(h:WA)(H:Hp):WA:=PySem.W.hideAll h<|Si h H
theorem Hn(h:WA)(H:Hp):(AL h H).objs.size=h.objs.size:=PySem.W.hideAll_size _ _
theorem JB(e:h.get? b=pe o)(n:H b=none):(AL h H).get? b=pe o :=
 PySem.W.hideAll_get _ e λa=>by
  have q:(H b).isSome=true:=(gv.mp a).2;rw[n]at q;simp at q
theorem K6(e:(AL h H).get? b=pe o):h.get? b=pe o/\H b=none:=by
 have a:h.get? b=pe o:=PySem.W.of_hideAll (Si h H) e;apply⟨a,?_⟩;cases q:H b with
 |none=>rfl
 |some x =>
  have f:b∈Si h H:=gv.mpr ⟨List.mem_range.mpr<|a_ a,by simp[q]⟩;have z:(AL h H).get? b=none:=PySem.W.hideAll_none (Si h H) f;rw[z]at e;cases e
end L2
namespace L2
open PySem Spec PyProof.Rows
structure Mod(K:Za)(mg:WD->Option Wx)(base:WA):Prop where
 kin:K.In base
 glob:base.Ns bq mg
 blt:∃mb,base.Ns builtinsNs mb/\∀x:WD,x≠"__name__"->mb x=iM x
 nolimit:base.NoLimit
structure Cx where
 prog:bI
 w:Wy
 K:Za
 mg:WD->Option Wx
 base:WA
 A:Wz
 N:List WD
 s₀:Ww
 H₀:Hp
 env:Env
 outer:List Env
 stack:List Env
 ex:List Wv
 fn:WD->Bool
 calm:Bool
 pn:List (Wv×Obj)
 xe:Wx->Ww->Prop
def wS(l:List Env):List Wv:=l.filterMap (·.frame)
abbrev Cx.fs(X:Cx):List Wv:=wS X.outer
def Vk(sc:Scope)(x:WD):Prop:=sc.names.lookup x=pe .local∨sc.names.lookup x=pe .cell∨sc.names.lookup x=pe .free
def Loc(sc:Scope)(x:WD):Prop:=sc.names.lookup x=pe .local∨sc.names.lookup x=pe .cell
def Look(env:Env)(h:WA)(m:WD->Option Wx)(x:WD)(u:Wx):Prop :=
 (env.kindOf x=pe .local/\m x=pe u)∨((env.kindOf x=pe .cell∨env.kindOf x=pe .free)/\∃c,env.cells.lookup x=pe c/\h.IsCell c (pe u))
structure Cx.Ok(X:Cx):Prop where
 mod:Mod X.K X.mg X.base
 kind:X.env.scope.kind=.function
 glob:X.env.globals=bq
 blt:X.env.builtins=builtinsNs
 above:X.s₀.heap.objs.size<=X.env.locals
 inj:∀x y c,X.env.cells.lookup x=pe c->X.env.cells.lookup y=pe c->x=y
 has:∀x,(X.env.kindOf x=pe .cell∨X.env.kindOf x=pe .free)->∃c,X.env.cells.lookup x=pe c
 Um:∀x c,X.fn x=true->X.env.cells.lookup x=pe c->X.s₀.heap.objs.size<=c
 hd:X.calm=true->X.A.handled=none
 frames:X.A.frames=pe X.stack
 Uo:X.stack=X.outer∨(X.stack=X.env::X.outer/\X.env.frame=pe X.env.locals)
 UI:∀b∈X.ex,b≠X.env.locals/\∀x c,X.env.cells.lookup x=pe c->c≠b
 bs:∀b o,X.base.get? b=pe o->X.s₀.heap.get? b=pe o/\X.H₀ b=none
 Tw:X.base.objs.size<=X.s₀.heap.objs.size
 R5:∀b o,X.base.get? b=pe o->b∉X.ex
 SR:∀b∈X.ex,b∉X.fs
 P7:X.s₀.heap.FunFrames X.base X.outer
 TF:∀b∈X.fs,X.H₀ b=none
structure Inv(X:Cx)(J4:Zd)(σ:List (Option V))(H:Hp)(s:Ww):Prop where
 ok:X.Ok
 os:s.os=X.s₀.os
 bare:n_ s.gens
 base:Un X.fs X.ex X.H₀ H X.s₀.heap s.heap
 loc:∃m,s.heap.Ns X.env.locals m/\∀(i:Nat) (x:WD) (v:V),X.N[i]?=pe x->σ[i]?=pe (pe v)->Vk X.env.scope x->∃u,RelV v u/\Look X.env s.heap m x u
 cell:∀x c,X.env.cells.lookup x=pe c->∃v,s.heap.IsCell c v
 free:H X.env.locals=none
 OX:∀x c,X.env.cells.lookup x=pe c->H c=none
 pin:∀p∈X.pn++J4,s.heap.get? p.1=pe p.2/\H p.1=none/\p.1≠X.env.locals/\p.1∉X.fs/\∀v,p.2.data≠.cell v
 A0:lY X.prog X.w X.K H s.heap
 len:σ.length=X.N.length
section
variable{X:Cx}{J4:Zd}{σ:List (Option V)}{H H':Hp}{s:Ww}{h':WA}
theorem Cx.Ok.UY(ok:X.Ok)(e:X.base.get? b=pe o):b∉X.fs:=λa=>by
 have:=(ok.P7.mem a).1;rw[e]at this;cases this
theorem Inv.bs(I:Inv X J4 σ H s):∀b o,X.base.get? b=pe o->s.heap.get? b=pe o/\H b=none:=λb o e =>
 ⟨I.base.keep b o (I.ok.bs b o e).1 (I.ok.bs b o e).2 (I.ok.UY e)<|I.ok.R5 b o e,I.base.free b o (I.ok.bs b o e).1 (I.ok.bs b o e).2<|I.ok.R5 b o e⟩
theorem Inv.bk(I:Inv X J4 σ H s):∀b o,X.base.get? b=pe o->s.heap.get? b=pe o:=λb o e=>(I.bs b o e).1
theorem Inv.mod(I:Inv X J4 σ H s):Mod X.K X.mg X.base:=I.ok.mod
theorem Inv.OF(I:Inv X J4 σ H s):X.K.In s.heap:=I.ok.mod.kin.keeps I.bk
theorem Inv.lt(I:Inv X J4 σ H s):X.env.locals<↑s:=let⟨_,a,_⟩:=I.loc;a.lt
theorem Inv.sz(I:Inv X J4 σ H s):X.s₀.heap.objs.size<=↑s:=bh I.ok.above<|eo I.lt
theorem Inv.UX(I:Inv X J4 σ H s)(h:↑s<=a):a∉X.fs:=λe=>by
 let⟨_,o,f,_⟩:=I.ok.P7.mem e;exact absurd (gH (a_ f)<|bh I.sz h)<|tI _
theorem Inv.Tp(I:Inv X J4 σ H s):∀x c,X.env.cells.lookup x=pe c->c≠X.env.locals:=λx c e z=>by
 let⟨v,o,g,h⟩:=I.cell x c e;let⟨m,⟨i,j,k,a,f,_⟩,_⟩:=I.loc;rw[z,a]at g;cases g;rw[f]at h;cases h
theorem Inv.P7(I:Inv X J4 σ H s):s.heap.FunFrames X.base X.outer:=by
 have all:∀(l:List Env),(∀b∈wS l,b∈X.fs)->X.s₀.heap.FunFrames X.base l->s.heap.FunFrames X.base l:=by
  intro l
  induction l with
  |nil=>intro _ _;trivial
  |cons h r i =>
   intro g j;let⟨k,⟨L,o,hf,m,n,p⟩,q⟩:=j;have a:L∈X.fs:=g L (by unfold wS;rw[pR,hf];exact cF);let⟨t,e⟩:=I.base.slot L o n (I.ok.TF L a) a λz=>I.ok.SR L z a;exact⟨k,⟨L,_,hf,m,e,p⟩,i (λb f=>g b (by unfold wS;rw[pR,hf];exact de _ f)) q⟩
 exact all X.outer (λ_ f=>f) I.ok.P7
theorem Inv.stack(I:Inv X J4 σ H s):s.heap.FunFrames X.base X.stack:=by
 obtain e|⟨e,hf⟩:=I.ok.Uo
 .rw[e];exact I.P7
 .rw[e];let⟨m,a,_⟩:=I.loc;refine .cons (by rw[I.ok.kind];decide) hf a ?_ I.P7;exact Heap.get?_none_of_le<|bh I.ok.Tw I.ok.above
theorem Inv.QC(I:Inv X J4 σ H s):∀b∈wS X.stack,b∈X.env.locals::X.fs:=λb a=>by
 obtain e|⟨e,hf⟩:=I.ok.Uo
 .rw[e]at a;exact de _ a
 .rw[e]at a;unfold wS at a;rw[pR,hf]at a;exact a
theorem Inv.Ri(I:Inv X J4 σ H s):∀b∈wS X.stack,H b=none:=λb hb=>by
 obtain e|hb:=b_.mp (I.QC b hb)
 .rw[e];exact I.free
 .obtain⟨_,o,a,_⟩:=I.ok.P7.mem hb;exact I.base.free b o a (I.ok.TF b hb) λz=>I.ok.SR b z hb
theorem Inv.step{g':Array Fi}{t':Nat}{d':Drawn}{ch:Ze}(I:Inv X J4 σ H s)
  (a:∀b∈ch,(b∈X.ex∨X.s₀.heap.objs.size<=b)/\b≠X.env.locals/\(∀x c,X.env.cells.lookup x=pe c->c≠b)/\∀p∈X.pn++J4,p.1≠b)
  (f:∀b o,b≠X.env.locals->b∉X.fs->b∉ch->s.heap.get? b=pe o->H b=none->h'.get? b=pe o)
  (t:∀b o,b≠X.env.locals->b∈X.fs->b∉ch->s.heap.get? b=pe o->H b=none->∃N,h'.get? b=pe {o with slots:=N}) (free:∀b o,b∉ch->s.heap.get? b=pe o->H b=none->H' b=none)
  (there:∀b o,b∉ch->s.heap.get? b=pe o->∃B,h'.get? b=pe B)
  (C:∀b xs,H b=pe (.tup xs)->H' b=pe (.tup xs)) (D:∀b o u,H b=pe (.PF o u)->H' b=pe (.PF o u)) (E:∀b M,H b=pe (.T_ M)->∃G,H' b=pe (.T_<|M++G))
  (ns:∀m,s.heap.Ns X.env.locals m->h'.Ns X.env.locals m) (O:lY X.prog X.w X.K H' h') (hg:n_ g') :
  Inv X J4 σ H' {s with heap:=h',gens:=g',drawn:=d',toks:=t'}:=by
 have J:∀b o,X.s₀.heap.get? b=pe o->b≠X.env.locals:=λb o e=>cG<|gH (a_ e) I.ok.above;have h:∀b o,X.s₀.heap.get? b=pe o->b∉X.ex->b∉ch:=λb o e hx y=>by
  obtain z|z:=(a b y).1
  .exact hx z
  .exact absurd (gH (a_ e) z)<|tI _
 have cellK:∀x c,X.env.cells.lookup x=pe c->∀v,s.heap.IsCell c v->h'.IsCell c v:=λx c e v ⟨o,A,Q⟩=>by
  have g:c∉ch:=λz=>(a c z).2.2.1 x c e rfl;by_cases U:c∈X.fs
  .obtain⟨N,q⟩:=t c o (I.Tp x c e) U g A<|I.OX x c e;exact⟨_,q,Q⟩
  .exact⟨o,f c o (I.Tp x c e) U g A<|I.OX x c e,Q⟩
 apply⟨I.ok,I.os,hg,⟨λb o e n y hx=>?_,λb o e n y hx=>?_,λb o e n hx=>?_,λb o e hx=>?_,λb xs e=>C b xs<|I.base.RZ b xs e,λb o xs e=>D b o xs<|I.base.RI b o xs e,λb M e=>?_⟩,?_,λx c e=>?_,?_,λx c e=>?_,λp Y=>?_,O,I.len⟩
 .exact f b o (J b o e) y (h b o e hx) (I.base.keep b o e n y hx)<|I.base.free b o e n hx
 .obtain⟨N,j⟩:=I.base.slot b o e n y hx;let⟨T,L⟩:=t b _ (J b o e) y (h b o e hx) j<|I.base.free b o e n hx;exact⟨T,L⟩
 .obtain⟨B,j⟩:=I.base.there b o e hx;exact free b B (h b o e hx) j<|I.base.free b o e n hx
 .obtain⟨B,j⟩:=I.base.there b o e hx;exact there b B (h b o e hx) j
 .obtain⟨m1,j⟩:=I.base.R0 b M e;let⟨m2,L⟩:=E b _ j;exact⟨m1++m2,by rw[L,Array.append_assoc]⟩
 .obtain⟨m,hn,hl⟩:=I.loc;apply⟨m,ns m hn,λi x v j L e3=>?_⟩;let⟨u,r,l⟩:=hl i x v j L e3;apply⟨u,r,?_⟩;obtain l|⟨k,c,e,z⟩:=l
  .exact .inl l
  .exact .inr ⟨k,c,e,cellK x c e _ z⟩
 .obtain⟨v,z⟩:=I.cell x c e;exact⟨v,cellK x c e v z⟩
 .obtain⟨m,⟨o,_,_,A,_⟩,_⟩:=I.loc;exact free _ o (λz=>(a _ z).2.1 rfl) A I.free
 .obtain⟨v,o,A,Q⟩:=I.cell x c e;exact free c o (λz=>(a c z).2.2.1 x c e rfl) A<|I.OX x c e
 .obtain⟨e,n,ne,nf,d⟩:=I.pin p Y;have g:p.1∉ch:=λz=>(a p.1 z).2.2.2 p Y rfl;exact⟨f p.1 p.2 ne nf g e n,free p.1 p.2 g e n,ne,nf,d⟩
theorem Inv.un(I:Inv X J4 σ H s)(u:Un X.fs [] H H' s.heap h')(f:lY X.prog X.w X.K H' h'):Inv X J4 σ H' {s with heap:=h',toks:=t'}:=by
 let⟨m,⟨o,q,t,j,r⟩,_⟩:=id I.loc;let⟨v,k⟩:=u.any j I.free ∅;exact I.step (g':=s.gens) (d':=s.drawn) (ch:=[]) (λ_ z=>nomatch z) (λb o _ g _ e n=>u.keep b o e n g ∅) (λb o _ g _ e n=>u.slot b o e n g ∅) (λb o _ e n=>u.free b o e n ∅) (λb o _ e=>u.there b o e ∅) u.RZ u.RI u.R0 (λx l=>by
  let⟨y,h,i,a,p⟩:=l;rw[j]at a;cases a;exact⟨_,h,i,k,p⟩) f I.bare
theorem Inv.call(I:Inv X J4 σ H s)(u:Un (wS X.stack) ch H H' s.heap h')(h:lY X.prog X.w X.K H' h')(q:n_ g')(f:∀b∈ch,(b∈X.ex∨X.s₀.heap.objs.size<=b)/\b≠X.env.locals/\(∀x c,X.env.cells.lookup x=pe c->c≠b)/\∀p∈X.pn++J4,p.1≠b) :
  Inv X J4 σ H' {s with heap:=h',gens:=g',drawn:=d',toks:=t'}:=by
 let⟨m,⟨o,A,B,l,r⟩,_⟩:=id I.loc;let⟨C,i⟩:=u.any l I.free λz=>(f _ z).2.1 rfl;exact I.step (ch:=ch) f (λb o i t a e n=>u.keep b o e n (λz=>(b_.mp<|I.QC b z).elim i t) a) (λb o _ _ a e n=>u.any e n a) (λb o a e n=>u.free b o e n a) (λb o a e=>u.there b o e a) u.RZ u.RI u.R0 (λD v=>by
  let⟨E,j,k,g,y⟩:=v;rw[l]at g;cases g;exact⟨_,j,k,i,y⟩) h q
theorem Inv.turned(I:Inv X J4 σ H s)(k:∀b o,b≠it->s.heap.get? b=pe o->h'.get? b=pe o)(h:H it=none)(g:it≠X.env.locals)(i:it∈X.ex∨X.s₀.heap.objs.size<=it)(j:∀x c,X.env.cells.lookup x=pe c->c≠it)(l:∀p∈X.pn++J4,p.1≠it):Inv X J4 σ H {s with heap:=h',toks:=t'}:=by
 have f:∀b u,H b=pe u->b≠it:=λb u e z=>by rw[z,h]at e;cases e
 refine I.step (g':=s.gens) (d':=s.drawn) (ch:=[it]) (λb t=>?_) (λb o _ _ a e _=>k b o (λz=>a (by simp[z])) e) (λb o _ _ a e _=>⟨o.slots,k b o (λz=>a (by simp[z])) e⟩) (λ_ _ _ _ n=>n)
  (λb o a e=>⟨o,k b o (λz=>a (by simp[z])) e⟩) (λ_ _ e=>e) (λ_ _ _ e=>e) (λb C e=>⟨#[],by rw[e];simp⟩) (λm w=>?_) (λb u e=>?_) I.bare
 .have e:b=it:=by simpa using t
  subst e;exact⟨i,g,j,l⟩
 .obtain⟨o,y,A,B,r⟩:=w;exact⟨o,y,A,k _ o (dD g) B,r⟩
 .refine(I.A0 b u e).QD (λc v a q=>k c v ?_ q) (λ_ q=>q) λ_ _ q=>q;obtain z|z:=a
  .rw[z];exact f b u e
  .exact f c _ z
theorem Inv.tok(I:Inv X J4 σ H s)(t:Nat):Inv X J4 σ H {s with toks:=t}:=I.un (h':=s.heap) (t':=t) Un.refl I.A0
theorem Inv.kept(I:Inv X J4 σ H s)(k:∀b u,s.heap.get? b=pe u->h'.get? b=pe u):Inv X J4 σ H {s with heap:=h',toks:=t'}:=I.un (Un.kept k)<|I.A0.kept k
theorem Inv.laid(I:Inv X J4 σ H s)(k:∀b u,s.heap.get? b=pe u->h'.get? b=pe u)(e:↑s<=a)(new:cv X.prog X.w X.K (upd H a o) h' a o):
  Inv X J4 σ (upd H a o) {s with heap:=h',toks:=t'}:=I.un (Un.laid k e<|I.A0.fresh e)<|I.A0.laid k e new
theorem Inv.write(I:Inv X J4 σ H s)(f:N1<|H x)(g:e=x∨H e=pe (.own x))(k:∀b u,b≠e->s.heap.get? b=pe u->h'.get? b=pe u)(a:∃u,h'.get? e=pe u)(new:cv X.prog X.w X.K (upd H x o) h' x o):Inv X J4 σ (upd H x o) {s with heap:=h',toks:=t'}:=I.un (Un.write f g k a)<|I.A0.write f g k a new
theorem Inv.weak(I:Inv X J4 σ H s)(e:σ'.length=σ.length)(w:∀(i:Nat) v,σ'[i]?=pe (pe v)->σ[i]?=pe (pe v)):Inv X J4 σ' H s :=
 ⟨I.ok,I.os,I.bare,I.base,let⟨m,f,a⟩:=I.loc;⟨m,f,λi x v g h j=>a i x v g (w i v h) j⟩,I.cell,I.free,I.OX,I.pin,I.A0,e.trans I.len⟩
theorem Inv.Sm(I:Inv X J4 σ H s)(h:∀p∈a,s.heap.get? p.1=pe p.2/\H p.1=none/\p.1≠X.env.locals/\p.1∉X.fs/\∀v,p.2.data≠.cell v):Inv X a σ H s :=
 ⟨I.ok,I.os,I.bare,I.base,I.loc,I.cell,I.free,I.OX,λp e=>(bp.mp e).elim (λz=>I.pin p<|ej _ z)<|h p,I.A0,I.len⟩
theorem vV{N:Zb}(e:N.Nodup){i j:Nat}{x:WD}(a:N[i]?=pe x)(b:N[j]?=pe x):i=j:=by
 let⟨h,f⟩:=cx.mp a;let⟨k,g⟩:=cx.mp b;exact(List.getElem_inj e).mp<|f.trans g.symm
theorem xX(I:Inv X J4 σ H s)(hN:X.N.Nodup)(hi:X.N[i]?=pe x)(hx:Loc X.env.scope x)(r:RelV v u)(h:∀s',Inv X J4 (σ.set i<|some v) H s'->(∃a,kz a s.heap s'.heap/\(a=X.env.locals∨X.env.cells.lookup x=pe a))->Q () s')(hf:X.fn x=true∨X.env.scope.names.lookup x=pe .local:=by first|exact .inl rfl|exact .inr rfl|assumption):wpAny M A (storeName X.env x u) Q E s:=by
 let⟨m,hn,hl⟩:=id I.loc;have G:(X.env.scope.kind==.class || (X.env.scope.kind==.module && X.env.locals != X.env.globals))=false:=by rw[I.ok.kind];rfl
 have hiσ:i<σ.length:=by rw[I.len];exact(cx.mp hi).1
 have Tp:=I.Tp;have tracked:∀{a:Wv}{h':WA},(∃o,s.heap.get? a=pe o/\H a=none)->kz a s.heap h'->lY X.prog X.w X.K H h':=fun{a h'} ha f b ob e=>by
  let⟨_,_,l⟩:=ha;refine(I.A0 b ob e).QD (λc U hc q=>(f.2 c ?_).trans q) (λ_ q=>q) λ_ _ q=>q;rintro rfl;obtain rfl|hc:=hc
  .rw[l]at e;cases e
  .rw[l]at hc;cases hc
 obtain hk|hk:=hx
 .refine wpAny_storeName_local hk hn (λh' ab f=>?_) G;let⟨oL,_,_,al,_⟩:=id hn;refine h _ ⟨I.ok,I.os,I.bare,⟨λb o e n B hx=>?_,λb o e n B hx=>?_,I.base.free,λb o e hx=>?_,I.base.RZ,I.base.RI,I.base.R0⟩,⟨_,ab,λj y v' g t e3=>?_⟩,λy c e=>?_,I.free,I.OX,λp hp=>?_,tracked ⟨oL,al,I.free⟩ f,by simpa using I.len⟩ ⟨_,f,.inl rfl⟩
  .exact(f.2 b<|cG<|gH (a_ e) I.ok.above).trans<|I.base.keep b o e n B hx
  .obtain⟨sl,g⟩:=I.base.slot b o e n B hx;exact⟨sl,(f.2 b<|cG<|gH (a_ e) I.ok.above).trans g⟩
  .obtain⟨o',g⟩:=I.base.there b o e hx;exact⟨o',(f.2 b<|cG<|gH (a_ e) I.ok.above).trans g⟩
  .by_cases C:j=i
   .subst C;rw[hi]at g;cases g;rw[List.getElem?_set_self hiσ]at t;cases t;exact⟨u,r,.inl ⟨hk,by simp⟩⟩
   .rw[Fh<|dD C]at t;let⟨u',r',q⟩:=hl j y v' g t e3;apply⟨u',r',?_⟩;obtain⟨k,e⟩|⟨k,c,e,z⟩:=q
    .refine .inl ⟨k,?_⟩;have:y≠x:=λe=>C<|vV hN g<|e▸hi;simp[this,e]
    .exact .inr ⟨k,c,e,z.sameBut f<|Tp y c e⟩
  .obtain⟨U,z⟩:=I.cell y c e;exact⟨U,z.sameBut f<|Tp y c e⟩
  .obtain⟨e,n,ne,nf,d⟩:=I.pin p hp;exact⟨(f.2 p.1 ne).trans e,n,ne,nf,d⟩
 .have D:X.fn x=true:=by
   obtain z|z:=hf
   .exact z
   .rw[z]at hk;cases hk
  let⟨c,hc⟩:=I.ok.has x<|.inl hk;let⟨U,z⟩:=I.cell x c hc;refine wpAny_storeName_cell I.ok.kind hk hc z<|λh' J f=>?_;let⟨oc,L,O⟩:=id z;refine h {s with heap:=h'} ⟨I.ok,I.os,I.bare,⟨λb o e n B hx=>?_,λb o e n B hx=>?_,I.base.free,λb o e hx=>?_,I.base.RZ,I.base.RI,I.base.R0⟩,⟨m,hn.sameBut f<|dD<|Tp x c hc,λj y v' g t e3=>?_⟩,λy Y e=>?_,I.free,I.OX,λp hp=>?_,tracked ⟨oc,L,I.OX x c hc⟩ f,by simpa using I.len⟩ ⟨c,f,.inr hc⟩
  .exact(f.2 b<|cG<|gH (a_ e)<|I.ok.Um x c D hc).trans<|I.base.keep b o e n B hx
  .obtain⟨sl,g⟩:=I.base.slot b o e n B hx;exact⟨sl,(f.2 b<|cG<|gH (a_ e)<|I.ok.Um x c D hc).trans g⟩
  .obtain⟨o',g⟩:=I.base.there b o e hx;exact⟨o',(f.2 b<|cG<|gH (a_ e)<|I.ok.Um x c D hc).trans g⟩
  .by_cases C:j=i
   .subst C;rw[hi]at g;cases g;rw[List.getElem?_set_self hiσ]at t;cases t;exact⟨u,r,.inr ⟨.inl hk,c,hc,J⟩⟩
   .rw[Fh<|dD C]at t;let⟨u',r',q⟩:=hl j y v' g t e3;apply⟨u',r',?_⟩;obtain q|⟨k,Y,e,z'⟩:=q
    .exact .inl q
    .refine .inr ⟨k,Y,e,z'.sameBut f ?_⟩;rintro rfl;exact C<|vV hN g<|I.ok.inj _ _ _ e hc▸hi
  .by_cases T:Y=c
   .subst T;exact⟨_,J⟩
   .obtain⟨w2,z2⟩:=I.cell y Y e;exact⟨w2,z2.sameBut f T⟩
  .obtain⟨e,n,ne,nf,d⟩:=I.pin p hp;apply⟨(f.2 p.1 ?_).trans e,n,ne,nf,d⟩;intro q;rw[q,L]at e;have q':oc=p.2:=ff e;exact d U (by rw[<-q'];exact O)
theorem vG(I:Inv X J4 σ H s)(e:X.N.Nodup)(hi:X.N[i]?=pe x)(hx:Loc X.env.scope x)(r:RelV v u)(h:∀a,Inv X J4 (σ.set i<|some v) H a->Q () a)(hf:X.fn x=true∨X.env.scope.names.lookup x=pe .local:=by first|exact .inl rfl|exact .inr rfl|assumption):wpAny M A (storeName X.env x u) Q E s :=
 xX I e hi hx r (λa f _=>h a f) hf
theorem Inv.T9(I:Inv X J4 σ H s)(h:a.os=s.os)(u:Un (wS X.stack) ch H H' s.heap a.heap)(f:lY X.prog X.w X.K H' a.heap)(i:n_ a.gens)(g:∀b∈ch,(b∈X.ex∨X.s₀.heap.objs.size<=b)/\b≠X.env.locals/\(∀x c,X.env.cells.lookup x=pe c->c≠b)/\∀p∈X.pn++J4,p.1≠b):Inv X J4 σ H' a:=by
 let⟨h',j,d',k,l⟩:=a;have e:l=s.os:=h;subst e;exact I.call (g':=j) (t':=k) (d':=d') u f i g
end
abbrev XK:=Wx->Option Wv->Hp->Prop
abbrev St:=List<|Option V
abbrev VK:=V->Hp->Prop
abbrev TE:=St->Hp->VK->Prop
abbrev TT:=St->Hp->(Bool->Hp->Prop)->Prop
abbrev TA:=St->Hp->(List V->Hp->Prop)->Prop
structure gm where
 nx:St->Hp->Prop
 rt:VK
 bk:St->Hp->Prop:=λ_ _=>False
 ct:St->Hp->Prop:=λ_ _=>False
abbrev bH(Q:VK):gm:={ nx:=λ_ H=>Q .L' H,rt:=Q}
abbrev TS:=gm->St->Hp->Prop
def EP(X:Cx)(J4:Zd)(σ:St)(Q:VK)(u:Wx)(s':Ww):Prop:=∃v H',Inv X J4 σ H' s'/\RelV v u/\Q v H'
def TP(X:Cx)(J4:Zd)(σ:St)(Q:Bool->Hp->Prop)(b:Bool)(s':Ww):Prop:=∃H',Inv X J4 σ H' s'/\Q b H'
def AP(X:Cx)(J4:Zd)(σ:St)(Q:List V->Hp->Prop)(us:Zf)(s':Ww):Prop:=∃vs H',Inv X J4 σ H' s'/\bg vs us/\Q vs H'
def SP(X:Cx)(J4:Zd)(D:gm)(f:Flow)(s':Ww):Prop :=
 match f with
 |.next=>∃σ' H',Inv X J4 σ' H' s'/\D.nx σ' H'
 |.brk=>∃σ' H',Inv X J4 σ' H' s'/\D.bk σ' H'
 |.cont=>∃σ' H',Inv X J4 σ' H' s'/\D.ct σ' H'
 |.ret u=>∃v σ' H',Inv X J4 σ' H' s'/\RelV v u/\D.rt v H'
def PE(X:Cx)(e:WB)(t:TE):Prop :=
 ∀(J4:Zd) (s:Ww) (σ:St) (H:Hp) (Q:VK),Inv X J4 σ H s->t σ H Q->wpAny (model X.prog X.w) X.A (eval e X.env) (EP X J4 σ Q) X.xe s
def PT(X:Cx)(e:WB)(t:TT):Prop :=
 ∀(J4:Zd) (s:Ww) (σ:St) (H:Hp) (Q:Bool->Hp->Prop),Inv X J4 σ H s->t σ H Q->wpAny (model X.prog X.w) X.A (isTrue e X.env<|eval e X.env) (TP X J4 σ Q) X.xe s
def PW(X:Cx)(e:WB)(t:TT):Prop :=
 ∀(whole:Sem Wx) (J4:Zd) (s:Ww) (σ:St) (H:Hp) (Q:Bool->Hp->Prop),Inv X J4 σ H s->t σ H Q->wpAny (model X.prog X.w) X.A (isTrue e X.env whole) (TP X J4 σ Q) X.xe s
theorem PW.pt(h:PW X e t):PT X e t:=h _
def PA(X:Cx)(es:List WB)(t:TA):Prop :=
 ∀(pos:Pos) (J4:Zd) (s:Ww) (σ:St) (H:Hp) (Q:List V->Hp->Prop),Inv X J4 σ H s->t σ H Q->wpAny (model X.prog X.w) X.A (spliced<|backTo pos<|aK es X.env) (AP X J4 σ Q) X.xe s
def PS(X:Cx)(st:WC)(t:TS):Prop :=
 ∀(J4:Zd) (s:Ww) (σ:St) (H:Hp) (D:gm),Inv X J4 σ H s->t D σ H->wpAny (model X.prog X.w) X.A (exec st X.env) (SP X J4 D) X.xe s
def A9(X:Cx)(st:List WC)(t:TS):Prop :=
 ∀(J4:Zd) (s:Ww) (σ:St) (H:Hp) (D:gm),Inv X J4 σ H s->t D σ H->wpAny (model X.prog X.w) X.A (execs st X.env) (SP X J4 D) X.xe s
theorem cQ(h:wpAny M A t Q E s)(f:∀a s,Q a s->e a s):wpAny M A t e E s:=c6 h f λ_ _ x=>x
end L2
namespace L2
open PySem Spec PyProof.Rows
section
variable{X:Cx}
def j_(i:Nat):TE:=fun σ H Q=>∃v,σ[i]?=pe (pe v)/\Q v H
abbrev V0:TE:=j_ 0
abbrev V1:TE:=j_ 1
abbrev V2:TE:=j_ 2
abbrev V3:TE:=j_ 3
abbrev V4:TE:=j_ 4
abbrev V5:TE:=j_ 5
abbrev V6:TE:=j_ 6
abbrev V7:TE:=j_ 7
abbrev V8:TE:=j_ 8
abbrev V9:TE:=j_ 9
abbrev Ls:TE:=j_ 10
abbrev Vm:TE:=j_ 11
abbrev Vl:TE:=j_ 12
def tC(v:V):TE:=λ_ H Q=>Q v H
theorem ML(o:X.N[i]?=pe x)(p:Vk X.env.scope x)(j:(x==("__debug__":WD))=false:=by decide)(k:(x==("__classdict__":WD))=false:=by decide):PE X (.Name x g) (j_ i):=by
 intro J4 s σ H Q I h;let⟨v,e,h⟩:=h;let⟨m,q,t⟩:=I.loc;let⟨u,r,l⟩:=t i x v o e p;have f:EP X J4 σ Q u s:=⟨v,H,I,r,h⟩;obtain⟨hk,w⟩|⟨hk,c,n,a⟩:=l
 .exact wpAny_Name (wpAny_loadName_local I.ok.kind hk q w f) j
 .obtain hk|hk:=hk
  .exact wpAny_Name (wpAny_loadName_cell I.ok.kind hk n a f) j
  .exact wpAny_Name (wpAny_loadName_free I.ok.kind hk n a f k) j
theorem af{i j a}:PE X (.Constant (.int i) j a) (tC<|.int i):=λ_ _ _ H _ I h=>wpAny_Constant_int ⟨.int i,H,I.tok _,⟨_,pw⟩,h⟩
theorem om{b j a}:PE X (.Constant (.bool b) j a) (tC<|.bl b):=λ_ _ _ H _ I h=>Constant_bool ⟨.bl b,H,I,pw,h⟩
theorem pc{j a}:PE X (.Constant .none j a) (tC .L'):=λ_ _ _ H _ I h=>Constant_none ⟨.L',H,I,pw,h⟩
theorem aN{x j a}:PE X (.Constant (.str x) j a) (tC<|.str x):=λ_ _ _ H _ I h=>Calls.Constant_str ⟨.str x,H,I.tok _,⟨_,pw⟩,h⟩
def Gl(X:Cx)(x:WD):Prop:=X.env.kindOf x=pe .globalImplicit
theorem jQ(I:Inv X e σ H s)(f:Gl X x)(g:X.mg x=pe u)(h:Q u s)(i:(x==("__debug__":WD))=false:=by decide):wpAny (model X.prog X.w) X.A (eval (.Name x a) X.env) Q E s :=
 Calls.Name_function_global I.ok.kind f (Calls.loadGlobal_global (by rw[I.ok.glob];exact I.mod.glob.keeps I.bk) g h) i
theorem pd(I:Inv X e σ H s)(f:Gl X x)(g:X.mg x=none)(i:iM x=pe u)(h:Q u s)(j:x≠"__name__":=by decide)(k:(x==("__debug__":WD))=false:=by decide):wpAny (model X.prog X.w) X.A (eval (.Name x a) X.env) Q E s:=by
 let⟨n,l,m⟩:=I.mod.blt;exact Calls.Name_function_global I.ok.kind f (Calls.loadGlobal_builtin (by rw[I.ok.glob];exact I.mod.glob.keeps I.bk) g (by rw[I.ok.blt];exact l.keeps I.bk) ((m x j).trans i) h) k
theorem dY(e:Gl X x)(f:X.mg x=pe u)(r:RelV v u)(g:(x==("__debug__":WD))=false:=by decide):PE X (.Name x a) (tC v) :=
 λ_ _ _ H _ I h=>jQ I e f ⟨v,H,I,r,h⟩ g
theorem lE(e:Gl X x)(f:X.mg x=none)(g:iM x=pe u)(r:RelV v u)(i:x≠"__name__":=by decide)(j:(x==("__debug__":WD))=false:=by decide):PE X (.Name x a) (tC v) :=
 λ_ _ _ H _ I h=>pd I e f g ⟨v,H,I,r,h⟩ i j
variable{a b:WB}{ta tb:TE}{pos:Pos}
def PC(X:Cx)(op:CmpOp)(a b:WB)(t:TE):Prop :=
 ∀(J4:Zd) (s:Ww) (σ:St) (H:Hp) (Q:VK),Inv X J4 σ H s->t σ H Q ->
  wpAny (model X.prog X.w) X.A (eval a X.env) (λv s₁=>wpAny (model X.prog X.w) X.A (eval b X.env) (λu s₂=>wpAny (model X.prog X.w) X.A (fV op v u) (EP X J4 σ Q) X.xe s₂) X.xe s₁) X.xe s
theorem Cq(b:WB)(h:e≠.In)(f:e≠.NotIn):lV e b=false:=by
 have g:(e==CmpOp.In)=false:=by cases e<;>first|rfl|exact absurd rfl h
 have i:(e==CmpOp.NotIn)=false:=by cases e<;>first|rfl|exact absurd rfl f
 cases b<;>simp[lV,g,i]
def Mp(ta:TE):TE:=fun σ H Q=>ta σ H λx H1=>Q (.bl<|decide (x=.L')) H1
def xW(ta:TE):TE:=fun σ H Q=>ta σ H λx H1=>Q (.bl (!decide (x=.L'))) H1
theorem RelV.RG(r:RelV x v):(v==Value.none)=decide (x=.L'):=by
 cases x with
 |L'=>cases r;rfl
 |bl _=>cases r;rfl
 |int _=>let⟨t,rfl⟩:=r;rfl
 |str _=>let⟨t,rfl⟩:=r;rfl
 |SU _=>let⟨t,rfl⟩:=r;rfl
 |TZ _=>let⟨t,rfl⟩:=r;rfl
 |ref _=>cases r;rfl
 |ty _=>cases r;rfl
theorem Jh{j e}(g:PE X a ta):PC X .Is a (.Constant .none j e) (Mp ta):=by
 intro i s σ H Q I h;refine cQ (g i s σ H _ I h) λv o f=>?_;let⟨x,k,l,m,n⟩:=f;exact Constant_none (is_none_gen ⟨.bl _,k,l,by rw[m.RG];rfl,n⟩)
theorem uA{j e}(g:PE X a ta):PC X .IsNot a (.Constant .none j e) (xW ta):=by
 intro i s σ H Q I h;refine cQ (g i s σ H _ I h) λv o f=>?_;let⟨x,k,l,m,n⟩:=f;exact Constant_none (isnot_none_gen ⟨.bl _,k,l,by rw[m.RG];rfl,n⟩)
def tB(t:TE):TT:=fun σ H Q=>t σ H λx H1=>∃c,x=.bl c/\Q c H1
theorem Jg(h:PC X e a b t)(f:lV e b=false:=by first|exact Cq _ WE WE|rfl):PE X (.Compare a [e] [b] pos) t:=λg s σ H Q I i=>wpAny_Compare1 (h g s σ H Q I i) f
theorem iH(h:PC X e a b t)(f:lV e b=false:=by first|exact Cq _ WE WE|rfl):PT X (.Compare a [e] [b] pos) (tB t):=by
 intro i s σ H Q I j;refine wpAny_isTrue_Compare1 (cQ (h i s σ H _ I j) λv p f=>cQ f λu r k=>cQ k λc w g=>?_) f;let⟨x,l,m,n,o⟩:=g;let⟨d,rfl,q⟩:=o;cases n;exact pS ⟨l,m,q⟩
theorem fo(h:PE X e t)(g:∀whole,isTrue e X.env whole=(do let v <- whole;pQ e.pos;kr [v] (truthy v)):=by intro _;rfl):PT X e (tB t):=by
 intro i s σ H Q I j;refine isTrue_plain (cQ (h i s σ H _ I j) λv o f=>?_)<|g _;let⟨x,k,l,m,n⟩:=f;let⟨d,rfl,q⟩:=n;cases m;exact pS ⟨k,l,q⟩
variable{tA UD:TT}{rest:List WB}
def o7(t u:TT):TT:=fun σ H Q=>t σ H λc H1=>if c=true then u σ H1 Q else Q false H1
def Fw(t u:TT):TT:=fun σ H Q=>t σ H λc H1=>if c=true then Q true H1 else u σ H1 Q
def Ab(t:TT):TT:=fun σ H Q=>t σ H λc H1=>Q (!c) H1
theorem iU(f:PT X a tA):PW X (.BoolOp .And [a] pos) tA:=by
 intro i g s σ H Q I h;refine isTrue_and<|cQ (f g s σ H Q I h) λc j e=>?_;cases c with
 |true=>exact isTrue_and_nil e
 |false=>exact e
theorem lB(f:PT X a tA):PW X (.BoolOp .Or [a] pos) tA:=by
 intro i g s σ H Q I h;refine isTrue_or<|cQ (f g s σ H Q I h) λc j e=>?_;cases c with
 |false=>exact isTrue_or_nil e
 |true=>exact e
theorem ji(k:PT X a tA)(l:PW X (.BoolOp .And (b::rest) pos) UD):PW X (.BoolOp .And (a::b::rest) pos) (o7 tA UD):=by
 intro m f s σ H Q I h;refine isTrue_and<|cQ (k f s σ H _ I h) λc n e=>?_;let⟨g,i,j⟩:=e;cases c with
 |true=>exact l m f n σ g Q i j
 |false=>exact⟨g,i,j⟩
theorem lW(k:PT X a tA)(l:PW X (.BoolOp .Or (b::rest) pos) UD):PW X (.BoolOp .Or (a::b::rest) pos) (Fw tA UD):=by
 intro m f s σ H Q I h;refine isTrue_or<|cQ (k f s σ H _ I h) λc n e=>?_;let⟨g,i,j⟩:=e;cases c with
 |true=>exact⟨g,i,j⟩
 |false=>exact l m f n σ g Q i j
theorem sJ(e:PT X a tA):PT X (.UnaryOp .Not a pos) (Ab tA):=by
 intro f s σ H Q I h;exact isTrue_not<|e f s σ H (λc g=>Q (!c) g) I h
def kB(ta tb:TE):TE:=fun σ H Q=>ta σ H λx H1=>∃c,x=.bl c/\if c=true then tb σ H1 Q else Q (.bl false) H1
def Nw(ta tb:TE):TE:=fun σ H Q=>ta σ H λx H1=>∃c,x=.bl c/\if c=true then Q (.bl true) H1 else tb σ H1 Q
def BH(ta:TE):TE:=fun σ H Q=>ta σ H λx H1=>∃c,x=.bl c/\Q (.bl (!c)) H1
theorem jj{e}(h:PE X a t):PE X (.BoolOp e [a] pos) t:=λf s σ H Q I g=>BoolOp_one<|h f s σ H Q I g
theorem iI(k:PE X a ta)(l:PE X (.BoolOp .And (b::rest) pos) tb):PE X (.BoolOp .And (a::b::rest) pos) (kB ta tb):=by
 intro g s σ H Q I h;refine BoolOp_and<|cQ (k g s σ H _ I h) λv m f=>?_;let⟨x,i,j,n,e⟩:=f;let⟨c,rfl,e⟩:=e;cases n;refine pS ?_;cases c with
 |true=>exact l g m σ i Q j e
 |false=>exact⟨.bl false,i,j,pw,e⟩
theorem NF(k:PE X a ta)(l:PE X (.BoolOp .Or (b::rest) pos) tb):PE X (.BoolOp .Or (a::b::rest) pos) (Nw ta tb):=by
 intro g s σ H Q I h;refine BoolOp_or<|cQ (k g s σ H _ I h) λv m f=>?_;let⟨x,i,j,n,e⟩:=f;let⟨c,rfl,e⟩:=e;cases n;refine pS ?_;cases c with
 |false=>exact l g m σ i Q j e
 |true=>exact⟨.bl true,i,j,pw,e⟩
theorem Ax(g:PE X a ta):PE X (.UnaryOp .Not a pos) (BH ta):=by
 intro i s σ H Q I h;refine UnaryOp_<|cQ (g i s σ H _ I h) λv m e=>?_;let⟨x,j,k,l,f⟩:=e;let⟨c,rfl,f⟩:=f;cases l;exact not_of<|pS ⟨.bl (!c),j,k,pw,f⟩
end
end L2
namespace L2
open PySem Spec PyProof.Rows
def aA(K:Za)(H:Hp)(a:Wv)(xs:List V):Prop :=
 Rd H a (.lst xs) ∨
  ∃(o:Obj) (RH:Array Wx) (n:Nat),K.lookup a=pe o/\o.cls=.type "list"/\o.dict=none/\o.data=.seq RH n/\RH.size<=ai/\bg xs RH.toList
def bj(K:Za)(H:Hp)(a:Wv)(xs:List V):Prop :=
 Rd H a (.tup xs) ∨
  ∃(o:Obj) (RH:Array Wx) (n:Nat),K.lookup a=pe o/\o.cls=.type "tuple"/\o.data=.seq RH n/\RH.size<=ai/\bg xs RH.toList
def Vj:Wx->Option V
 |.none=>pe .L'
 |.bool b=>pe<|.bl b
 |.int i _=>pe<|.int i
 |.str x _=>pe<|.str x
 |.bytes b _=>pe<|.SU b
 |.float b _=>pe<|.TZ b
 |.ref a=>pe<|.ref a
 |.type n=>pe<|.ty n
 |_=>none
theorem RelV.abs(r:RelV x u):Vj u=pe x:=by
 cases x with
 |L'=>cases r;rfl
 |bl _=>cases r;rfl
 |int _=>let⟨t,rfl⟩:=r;rfl
 |str _=>let⟨t,rfl⟩:=r;rfl
 |SU _=>let⟨t,rfl⟩:=r;rfl
 |TZ _=>let⟨t,rfl⟩:=r;rfl
 |ref _=>cases r;rfl
 |ty _=>cases r;rfl
theorem RelV.inj(r:RelV x u)(q:RelV y u):x=y:=ff<|r.abs.symm.trans q.abs
theorem bg.inj(h:bg xs e)(f:bg a e):xs=a:=by
 induction h generalizing a with
 |nil=>cases f;rfl
 |cons r _ g =>
  cases f with
  |cons i j=>rw[r.inj i,g j]
section
variable{X:Cx}{J4:Zd}{σ:St}{H:Hp}{s:Ww}{a:Wv}{xs ys:List V}
theorem aA.of{K:Za}(h:H a=pe (.lst xs)):aA K H a xs:=.inl<|.inl h
theorem bj.of{K:Za}(h:H a=pe (.tup xs)):bj K H a xs:=.inl<|.inl h
theorem Inv.list(I:Inv X J4 σ H s)(h:aA X.K H a xs):∃f:List Wx,bg xs f/\PlainL s.heap a f.toArray/\xs.length<=ai:=by
 obtain h|⟨o,f,n,g,i,j,k,l,r⟩:=h
 .obtain⟨z,f,n,r,e⟩:=h.ok I.A0;exact⟨f,r,⟨_,n,e,pw,pw,pw⟩,z⟩
 .refine⟨f.toList,r,⟨o,n,I.OF a o g,i,j,by simpa using k⟩,?_⟩;have e:=r.length;simp only[pP]at e;nofun
theorem Inv.tuple(I:Inv X J4 σ H s)(h:bj X.K H a xs):∃f:List Wx,bg xs f/\IsTup s.heap a f.toArray/\xs.length<=ai:=by
 obtain h|⟨o,f,n,g,i,j,k,r⟩:=h
 .obtain⟨z,f,r,p⟩:=h.ok I.A0;exact⟨f,r,p,z⟩
 .refine⟨f.toList,r,⟨o,I.OF a o g,i,n,by simpa using j⟩,?_⟩;have e:=r.length;simp only[pP]at e;nofun
theorem Inv.Pp(I:Inv X J4 σ H s)(h:aA X.K H a xs)(k:aA X.K H a ys):xs=ys:=by
 let⟨g,r,⟨o,n,e,_,_,d⟩,_⟩:=I.list h;let⟨f,l,⟨p,q,i,_,_,j⟩,_⟩:=I.list k;rw[e]at i;cases i;rw[d]at j;injection j with m _;have:g=f:=by simpa using congrArg Array.toList m
 subst this;exact r.inj l
theorem Inv.Qf(I:Inv X J4 σ H s)(h:bj X.K H a xs)(k:bj X.K H a ys):xs=ys:=by
 let⟨g,r,⟨o,e,_,n,d⟩,_⟩:=I.tuple h;let⟨f,l,⟨p,i,_,q,j⟩,_⟩:=I.tuple k;rw[e]at i;cases i;rw[d]at j;injection j with m _;have:g=f:=by simpa using congrArg Array.toList m
 subst this;exact r.inj l
end
abbrev Cx.Pa(X:Cx)(E:Zc):Cx:={X with xe:=E}
abbrev Cx.Qx(X:Cx):Cx:=X.Pa λ_ _=>False
theorem Cx.Ok.Pa{X:Cx}(ok:X.Ok)(E:Zc):(X.Pa E).Ok :=
 ⟨ok.mod,ok.kind,ok.glob,ok.blt,ok.above,ok.inj,ok.has,ok.Um,ok.hd,ok.frames,ok.Uo,ok.UI,ok.bs,ok.Tw,ok.R5,ok.SR,ok.P7,ok.TF⟩
theorem Cx.Ok.Ou{X:Cx}(ok:(X.Pa E).Ok):X.Ok :=
 ⟨ok.mod,ok.kind,ok.glob,ok.blt,ok.above,ok.inj,ok.has,ok.Um,ok.hd,ok.frames,ok.Uo,ok.UI,ok.bs,ok.Tw,ok.R5,ok.SR,ok.P7,ok.TF⟩
section
variable{X:Cx}{J4:Zd}{σ:St}{H:Hp}{s:Ww}{E:Zc}
theorem Inv.Pa(I:Inv X J4 σ H s)(E:Zc):Inv (X.Pa E) J4 σ H s:=⟨I.ok.Pa E,I.os,I.bare,I.base,I.loc,I.cell,I.free,I.OX,I.pin,I.A0,I.len⟩
theorem Inv.Ou(I:Inv (X.Pa E) J4 σ H s):Inv X J4 σ H s:=⟨I.ok.Ou,I.os,I.bare,I.base,I.loc,I.cell,I.free,I.OX,I.pin,I.A0,I.len⟩
theorem SP.Ou(h:SP (X.Pa E) J4 D f e):SP X J4 D f e:=by
 cases f with
 |next=>obtain⟨σ',a,I,q⟩:=h;exact⟨σ',a,I.Ou,q⟩
 |brk=>obtain⟨σ',a,I,q⟩:=h;exact⟨σ',a,I.Ou,q⟩
 |cont=>obtain⟨σ',a,I,q⟩:=h;exact⟨σ',a,I.Ou,q⟩
 |ret u=>obtain⟨v,σ',a,I,r,q⟩:=h;exact⟨v,σ',a,I.Ou,r,q⟩
theorem A9.Qx{st:List WC}{t:TS}(h:A9 X.Qx st t):A9 X st t:=λJ4 s σ H D I a =>
 c6 (h J4 s σ H D (I.Pa _) a) (λ_ _ q=>q.Ou) λ_ _ z=>dU z
end
section
variable{X:Cx}{st:WC}{rest:List WC}{t u:TS}{e:WB}{te:TE}{pos:Pos}
def bf:TS:=λD σ H=>D.nx σ H
def ar(t u:TS):TS:=λD σ H=>t {D with nx:=u D} σ H
theorem aO:A9 X [] bf:=λ_ _ σ H _ I h=>pO ⟨σ,H,I,h⟩
theorem ae(g:PS X st t)(i:A9 X rest u):A9 X (st::rest) (ar t u):=by
 intro a s σ H D I h;refine Fg<|cQ (g a s σ H {D with nx:=u D} I h) λf j q=>?_;cases f with
 |next =>
  obtain⟨σ',k,l,q⟩:=q;exact i a j σ' k D l q
 |ret v=>exact q
 |brk=>exact q
 |cont=>exact q
theorem ah(a:PS X st t):A9 X [st] t:=by
 intro g s σ H D I h;refine Fg<|cQ (a g s σ H D I h) λf i q=>?_;cases f with
 |next=>exact pO q
 |ret v=>exact q
 |brk=>exact q
 |cont=>exact q
theorem Inv.quiet(I:Inv X a σ H s):interactive X.env=false:=by simp[interactive,I.ok.kind]
def cy(te:TE):TS:=λD σ H=>te σ H λ_ H1=>D.nx σ H1
theorem bu(a:PE X e te)(f:pN e none pos.line X.env=pure false:=by rfl):PS X (.Expr e pos) (cy te):=by
 intro g s σ H D I h;exact wpAny_Expr_any (cQ (a g s σ H _ I h) λv l ⟨x,i,j,m,k⟩=>⟨σ,i,j,k⟩) I.quiet f
def be(te:TE):TS:=λD σ H=>te σ H D.rt
theorem az(a:PE X e te):PS X (.Return (pe e) pos) (be te):=by
 intro f s σ H D I h;exact wpAny_Return_some<|cQ (a f s σ H _ I h) λv l ⟨x,g,i,j,k⟩=>⟨x,σ,g,i,j,k⟩
def bS(c:TT)(t u:TS):TS:=λD σ H=>c σ H λb H1=>if b=true then t D σ H1 else u D σ H1
theorem bD(n:PT X c i)(o:A9 X a t)(p:A9 X b u):PS X (.If c a b pos) (bS i t u):=by
 intro f s σ H D I h;refine wpAny_If<|cQ (n f s σ H _ I h) λd j g=>?_;let⟨k,l,m⟩:=g;cases d with
 |true=>exact o f j σ k D l m
 |false=>exact p f j σ k D l m
def DA:TS:=λ_ _ _=>False
theorem Ca:PS X st DA:=λ_ _ _ _ _ _ h=>h.elim
end
abbrev TG:=V->St->Hp->(St->Hp->Prop)->Prop
abbrev HV:=List V->St->Hp->(St->Hp->Prop)->Prop
def PG(X:Cx)(target:WB)(t:TG):Prop :=
 ∀(J4:Zd) (s:Ww) (σ:St) (H:Hp) (v:V) (u:Wx) (Q:St->Hp->Prop),Inv X J4 σ H s->RelV v u->t v σ H Q ->
  wpAny (model X.prog X.w) X.A (assign target X.env u) (λ_ s'=>∃σ' H',Inv X J4 σ' H' s'/\Q σ' H') X.xe s
def Oi(X:Cx)(ts:List WB)(t:HV):Prop :=
 ∀(J4:Zd) (s:Ww) (σ:St) (H:Hp) (vs:List V) (us:Zf) (Q:St->Hp->Prop),Inv X J4 σ H s->bg vs us->t vs σ H Q ->
  wpAny (model X.prog X.w) X.A (assignInOrder ((xN ts X.env).map (·.2)) us) (λ_ s'=>∃σ' H',Inv X J4 σ' H' s'/\Q σ' H') X.xe s
abbrev M8:=V->V->V->Hp->(Hp->Prop)->Prop
def NY(X:Cx)(t:M8):Prop :=
 ∀(J4:Zd) (s:Ww) (σ:St) (H:Hp) (o i v:V) (ov iv u:Wx) (Q:Hp->Prop),Inv X J4 σ H s->RelV o ov->RelV i iv->RelV v u->t o i v H Q ->
  wpAny (model X.prog X.w) X.A (setItem ov iv u) (λ_ s'=>∃H',Inv X J4 σ H' s'/\Q H') X.xe s
section
variable{X:Cx}{pos:Pos}
def fc(i:Nat):TG:=λv σ H Q=>Q (σ.set i<|some v) H
abbrev U0:TG:=fc 0
abbrev U1:TG:=fc 1
abbrev U2:TG:=fc 2
abbrev U3:TG:=fc 3
abbrev U4:TG:=fc 4
abbrev U5:TG:=fc 5
abbrev U6:TG:=fc 6
abbrev U7:TG:=fc 7
abbrev U8:TG:=fc 8
abbrev U9:TG:=fc 9
abbrev Of:TG:=fc 10
abbrev VL:TG:=fc 11
abbrev Wn:TG:=fc 12
theorem qI(a:X.N.Nodup)(hi:X.N[i]?=pe x)(hx:Loc X.env.scope x)(hf:X.fn x=true∨X.env.scope.names.lookup x=pe .local:=by first|exact .inl rfl|exact .inr rfl|assumption):PG X (.Name x pos) (fc i):=by
 intro f s σ H v u Q I r h;exact wpAny_assign_Name<|vG I a hi hx r (λg e=>⟨_,H,e,h⟩) hf
def gh:HV:=λvs σ H Q=>vs=[]/\Q σ H
def aS(t:TG)(u:HV):HV:=λvs σ H Q=>∃v r,vs=v::r/\t v σ H fun σ' H'=>u r σ' H' Q
theorem bT:Oi X [] gh:=by
 intro a s σ H f g Q I r h;let⟨e,h⟩:=h;subst e;cases r;exact assignInOrder_nil ⟨σ,H,I,h⟩
theorem au(i:PG X e t)(j:Oi X a u)(k:(xN (e::a) X.env).map (·.2)=assign e X.env::(xN a X.env).map (·.2):=by rfl):Oi X (e::a) (aS t u):=by
 intro g s σ H w x Q I r h;let⟨v,y,l,h⟩:=h;subst l;cases r with
 |cons r m =>
  rw[k];refine assignInOrder_cons<|cQ (i g s σ H _ _ _ I r h) λ_ n f=>?_;obtain⟨σ1,o,p,q⟩:=f;exact j g n σ1 o _ _ Q p m q
def gC(K:Za)(n:Nat)(t:HV):TG:=λv σ H Q=>∃a xs,v=.ref a/\bj K H a xs/\xs.length=n/\t xs σ H Q
theorem c9(m:X.calm=true)(h:Oi X f t)(p:(xN f X.env).length=n:=by rfl)(g:(xN f X.env).findIdx? (·.1)=none:=by rfl):PG X (.Tuple f k pos) (gC X.K n t):=by
 intro j s σ H v u Q I r i;let⟨a,xs,q,w,x,i⟩:=i;subst q;cases r;let⟨y,l,z,C⟩:=I.tuple w;refine assign_Tuple_tuple (I.ok.hd m) z (by simp[p,<-x,l.length]) g λA hx=>?_;have B:Inv X j σ H {s with heap:=A}:=I.kept (t':=s.toks) λb o e=>hx b o (cG<|a_ e) e;exact h j _ σ H xs _ Q B (by simpa using l) i
def CH(to ti:TE)(t:M8):TG:=λv σ H Q=>to σ H λo H1=>ti σ H1 λi H2=>t o i v H2 λH3=>Q σ H3
theorem sM{o i:WB}{to j:TE}{t:M8}(k:PE X o to)(hi:PE X i j)(l:NY X t)
  (m:∀v,assign (.Subscript o i pos) X.env v=(do
   let e <- kr [v] (eval o X.env)
   let f <- kr [v,e] (eval i X.env)
   pQ pos
   kr [v,e,f] (setItem e f v)
   release [v,e,f] []):=by intro _;rfl):PG X (.Subscript o i pos) (CH to j t):=by
 intro g s σ H v u Q I r h;rw[m];refine ap<|iN<|cQ (k g s σ H _ I h) λe n a=>?_;let⟨x,p,q,w,z⟩:=a;refine ap<|iN<|cQ (hi g n σ p _ q z) λf A a=>?_;let⟨y,B,C,D,E⟩:=a;refine ap<|uK<|ap<|iN<|cQ (l g A σ B x y v e f u _ C w D r E) λ_ M a=>?_;let⟨G,J,L⟩:=a;exact wpAny_release ⟨σ,G,J,L⟩
def aL(te:TE)(g:TG):TS:=λD σ H=>te σ H λx H1=>g x σ H1 D.nx
theorem ic(j:PE X e f)(k:PG X tg g)(l:swapsWithSole [tg] e pos.line X.env=pure false:=by rfl)(m:swappedStores [tg] e X.env=pure none:=by rfl)(n:(xN [tg] X.env).map (·.2)=[assign tg X.env]:=by rfl):PS X (.Assign [tg] e pos) (aL f g):=by
 intro i s σ H D I h;refine wpAny_Assign_stores (cQ (j i s σ H _ I h) λv o a=>?_) l m;let⟨x,p,r,t,u⟩:=a;rw[n];exact cQ (k i o σ p x v _ r t u) λ_ w q=>q
theorem MF(j:X.N.Nodup)(hi:X.N[i]?=pe x)(hx:Loc X.env.scope x)(k:PE X e g)(l:pN e (pe<|.Name x a) pos.line X.env=pure false:=by rfl)(hf:X.fn x=true∨X.env.scope.names.lookup x=pe .local:=by first|exact .inl rfl|exact .inr rfl|assumption):
  PS X (.Assign [.Name x a] e pos) (aL g<|fc i):=by
 intro m s σ H D I h;refine wpAny_Assign_Name (cQ (k m s σ H _ I h) λv t f=>?_) l;let⟨y,n,o,p,q⟩:=f;exact vG o j hi hx p (λu r=>⟨_,n,r,q⟩) hf
end
section
variable{X:Cx}{pos:Pos}
def sD(c:TT)(tb:TS):TS:=λD σ H=>∃W:Nat->St->Hp->Prop,(∃m,W m σ H)/\∀m σ H,W m σ H ->
 c σ H λb H1=>if b=true then ∃N:St->Hp->Prop,(∀σ' H',N σ' H'->∃m',m'<m/\W m' σ' H')/\tb {D with nx:=N,ct:=N,bk:=D.nx} σ H1 else D.nx σ H1
theorem mH(t:Bs (model X.prog X.w) X.A X.env X.xe)(C:PT X c q)(E:A9 X a r):PS X (.While c a [] pos) (sD q r):=by
 intro J4 s σ H D I h;let⟨W,⟨G,J⟩,turn⟩:=h;refine wpAny_While<|codeAny_whileLoop (λn L=>∃σ' u,Inv X J4 σ' u L/\W n σ' u) ?_ G ⟨σ,H,I,J⟩;rintro n M ⟨σ1,x,O,Q⟩;refine iy t<|cQ (C J4 M σ1 x _ O<|turn n σ1 x Q) λb T j=>?_;let⟨y,z,g⟩:=j;cases b with
 |true =>
  let⟨N,B,g⟩:=g;rw[if_pos rfl];refine iy t<|cQ (E J4 T σ1 y _ z g) λf U i=>?_;cases f with
  |next =>
   obtain⟨σ3,e,k,l⟩:=i;let⟨m,o,p⟩:=B σ3 e l;exact⟨m,o,σ3,e,k,p⟩
  |cont =>
   obtain⟨σ3,e,k,l⟩:=i;let⟨m,o,p⟩:=B σ3 e l;exact⟨m,o,σ3,e,k,p⟩
  |brk=>exact i
  |ret v=>exact i
 |false =>
  rw[if_neg jZ];exact pO ⟨σ1,y,z,g⟩
end
structure It where
 go:Nat->Hp->Prop
 Sq:Nat->Hp->V->Hp->Prop
 stop:Nat->Hp->Prop
def lK(X:Cx)(J4:Zd)(H:Hp)(b:Wv):Prop :=
 H b=none/\b≠X.env.locals/\b∉X.fs/\(b∈X.ex∨X.s₀.heap.objs.size<=b)/\(∀x c,X.env.cells.lookup x=pe c->c≠b)/\∀p∈X.pn++J4,p.1≠b
theorem Inv.QY(I:Inv X f σ H s)(a:↑s<=b)(h:g b=none):lK X f g b:=by
 apply⟨h,gF<|gH I.lt a,I.UX a,.inr<|bh I.sz a,λx c e z=>?_,λp i z=>?_⟩
 .obtain⟨v,q⟩:=I.cell x c e;exact absurd (gH q.lt (by rw[z];exact a))<|tI _
 .exact absurd (gH (a_ (I.pin p i).1) (by rw[z];exact a))<|tI _
structure uk(P:bI)(w:Wy)(K:Za)(tg:WB)(J:It)(fp:Ze)(it:Wv)(tn:Nat->WA->Prop):Prop where
 mem:it∈fp
 obj:∀i h,tn i h->∀b∈fp,∃o,h.get? b=pe o/\∀v,o.data≠.cell v
 keep:∀i h h',tn i h->(∀b∈fp,∀o,h.get? b=pe o->h'.get? b=pe o)->tn i h'
 item:∀(X:Cx),X.prog=P->X.w=w->X.K=K->X.calm=true->∀(i:Nat) (J4:Zd) (s:Ww) (σ:St) (H:Hp) (E:Zc),Inv X J4 σ H s->(∀b∈fp,lK X J4 H b)->tn i s.heap->J.go i H ->
  wpAny (model P w) X.A (pyNext (.ref it)) (λr s1=>∃u,r=pe u /\
   wpAny (model P w) X.A (Ff tg (.ref it) u) (λ_ s2=>∃x H',Inv X J4 σ H' s2/\RelV x u/\J.Sq i H x H'/\tn (i+1) s2.heap/\∀b∈fp,H' b=none) E s1) E s
 done:∀(X:Cx),X.prog=P->X.w=w->X.K=K->X.calm=true->∀(i:Nat) (J4:Zd) (s:Ww) (σ:St) (H:Hp) (E:Zc),Inv X J4 σ H s->(∀b∈fp,lK X J4 H b)->tn i s.heap->J.stop i H ->
  wpAny (model P w) X.A (pyNext (.ref it)) (λr s1=>r=none/\Inv X J4 σ H s1) E s
 self:∀(A:Wz) (i:Nat) (s:Ww) (Q:Zc) (E:Zc),tn i s.heap->Q (.ref it) s->wpAny (model P w) A (pyIter (.ref it)) Q E s
abbrev TI:=St->Hp->(It->Hp->Prop)->Prop
def Oh(X:Cx)(J4:Zd)(σ:St)(tg:WB)(R:It->Hp->Prop)(Wd:Wx)(s2:Ww):Prop :=
 ∃(it:Wv) (fp:Ze) (tn:Nat->WA->Prop) (J:It) (H':Hp),Wd=.ref it/\Inv X J4 σ H' s2/\uk X.prog X.w X.K tg J fp it tn/\tn 0 s2.heap/\(∀b∈fp,lK X J4 H' b)/\R J H'
def PI(X:Cx)(tg iter:WB)(wi:TI):Prop :=
 ∀(J4:Zd) (s:Ww) (σ:St) (H:Hp) (R:It->Hp->Prop),Inv X J4 σ H s->wi σ H R ->
  wpAny (model X.prog X.w) X.A (eval iter X.env) (λv s1=>wpAny (model X.prog X.w) X.A (pyIter v) (Oh X J4 σ tg R) X.xe s1) X.xe s
theorem v6(g:s.heap.get? it=pe o)(i:o.cls=.type n)(j:o.data=.fields f)(k:["enumerate","zip","dict_itemiterator","dict_reverseitemiterator","odict_iterator","itertools.zip_longest","itertools.pairwise"].contains n=false)(a:Q () s):wpAny M A (Ff e (.ref it) u) Q E s:=by
  unfold Ff;cases e<;>first
    |exact aR a
    | (cases u <;> first
        |exact aR a
        | (refine ap (wpAny_load g ?_)
           rw[i,j];show wpAny M A (if(["enumerate","zip","dict_itemiterator","dict_reverseitemiterator","odict_iterator","itertools.zip_longest","itertools.pairwise"].contains n && f[0]?==pe (rawInt _))=true then _ else _) Q E s
           rw[if_neg (by intro h;rw[k,Fe]at h;cases h)];exact aR a))
def Ki(K:Za)(a:Wv):It :=
 ⟨λi H=>∃xs x,aA K H a xs/\xs[i]?=pe x,λi H x H'=>H'=H/\∀xs,aA K H a xs->xs[i]?=pe x,λi H=>∃xs,aA K H a xs/\xs.length<=i⟩
def Na(K:Za)(a:Wv):It :=
 ⟨λi H=>∃xs x,bj K H a xs/\xs[i]?=pe x,λi H x H'=>H'=H/\∀xs,bj K H a xs->xs[i]?=pe x,λi H=>∃xs,bj K H a xs/\xs.length<=i⟩
def Nb(lo:Int)(n:Nat):It:=⟨λi _=>i<n,λi H x H'=>H'=H/\x=.int (lo+i),λi _=>n<=i⟩
theorem sk{P:bI}{w:Wy}{K:Za}{M:WB}(a it:Wv):uk P w K M (Ki K a) [it] it (λi h=>h.IsListIter it a i) where
 mem:=by simp
 obj:=λi h st b f=>by
  have e:b=it:=by simpa using f
  subst e;let⟨o,e,c,d⟩:=st;exact⟨o,e,λv z=>by rw[d]at z;cases z⟩
 keep:=λi h j st k=>st.at λo e=>k it ∅ o e
 item:=by
  intro X m n q J i L s σ H E I hf st r;subst m n q;let⟨xs,x,l,hx⟩:=r;let⟨t,y,p,N⟩:=I.list l;let⟨u,O,Q⟩:=y.get hx;let⟨A,B,T,C,D,G⟩:=hf it ∅;refine wpAny_pyNext_list_item st p.isList (x:=u) (by simpa using O) λj g U=>?_;have Y:Inv X L σ H {s with heap:=j}:=I.turned (t':=s.toks) (λb o f e=>(U.2 b f).trans e) A B C D G;let⟨o,e,c,d⟩:=id g;exact⟨u,pw,v6 (s:={s with heap:=j}) e c d WE ⟨x,H,Y,Q,⟨pw,λys hy=>by rw[I.Pp hy l];exact hx⟩,g,λb f=>(hf b f).1⟩⟩
 done:=by
  intro X m n q J i L s σ H E I hf st r;subst m n q;let⟨xs,l,hx⟩:=r;let⟨t,y,p,N⟩:=I.list l;let⟨A,B,T,C,D,G⟩:=hf it ∅;have hl:=y.length;exact wpAny_pyNext_list_end (I.ok.hd J) st p.isList (by simp;nofun) λj eb=>⟨pw,I.turned (t':=s.toks) (λb o f e=>eb b o f e) A B C D G⟩
 self:=λ_ _ _ _ _ st h=>wpAny_pyIter_listiter st h
theorem vo{P:bI}{w:Wy}{K:Za}{M:WB}(a it:Wv):uk P w K M (Na K a) [it] it (λi h=>h.IsTupleIter it a i) where
 mem:=by simp
 obj:=λi h st b f=>by
  have e:b=it:=by simpa using f
  subst e;let⟨o,e,c,d⟩:=st;exact⟨o,e,λv z=>by rw[d]at z;cases z⟩
 keep:=λi h l st k=>st.at λo e=>k it ∅ o e
 item:=by
  intro X n q r J i L s σ H E I hf st t;subst n q r;let⟨xs,x,m,hx⟩:=t;let⟨g,y,p,N⟩:=I.tuple m;let⟨u,O,Q⟩:=y.get hx;let⟨A,B,T,C,D,G⟩:=hf it ∅;refine wpAny_pyNext_tuple_item st (show s.heap.IsTuple a g.toArray from p) (x:=u) (by simpa using O) λl j U=>?_;have Y:Inv X L σ H {s with heap:=l}:=I.turned (t':=s.toks) (λb o f e=>(U.2 b f).trans e) A B C D G;let⟨o,e,c,d⟩:=id j;exact⟨u,pw,v6 (s:={s with heap:=l}) e c d WE ⟨x,H,Y,Q,⟨pw,λys hy=>by rw[I.Qf hy m];exact hx⟩,j,λb f=>(hf b f).1⟩⟩
 done:=by
  intro X n q r J i L s σ H E I hf st t;subst n q r;let⟨xs,m,hx⟩:=t;let⟨g,y,p,N⟩:=I.tuple m;let⟨A,B,T,C,D,G⟩:=hf it ∅;have hl:=y.length;exact wpAny_pyNext_tuple_end (I.ok.hd J) st (show s.heap.IsTuple a g.toArray from p) (by simp;nofun) λl eb=>⟨pw,I.turned (t':=s.toks) (λb o f e=>eb b o f e) A B C D G⟩
 self:=λ_ _ _ _ _ st h=>wpAny_pyIter_tupleiter st h
theorem Dn{P:bI}{w:Wy}{K:Za}{C:WB}(it:Wv)(lo:Int)(n:Nat):uk P w K C (Nb lo n) [it] it (λi h=>IsRangeIter h it (lo+(i:Nat) * 1) ((n:Int)-(i:Nat)) 1) where
 mem:=by simp
 obj:=λi h st b a=>by
  have e:b=it:=by simpa using a
  subst e;exact⟨_,st,λv z=>by
   have D:Data.fields _=Data.cell v:=z;cases D⟩
 keep:=λi h g st k=>k it ∅ _ st
 item:=by
  intro X j l m p i B s σ H E I hf st q;subst j l m;let⟨r,u,G,x,y,A⟩:=hf it ∅;have W:=Walks.range (prog:=X.prog) (w:=X.w) (I.ok.hd p) it lo 1 n;refine W.item i s _ _ q st λv g tk J f L=>?_;let⟨t,rfl⟩:=J;have M:Inv X B σ H {s with heap:=g,toks:=tk}:=I.turned (λb o a e=>L b o (by simpa using a) e) r u x y A;apply⟨_,pw,v6 (s:={s with heap:=g,toks:=tk}) (n:="range_iterator") f rfl rfl WE ⟨.int<|lo+i,H,M,⟨t,?_⟩,⟨pw,pw⟩,f,λb a=>(hf b a).1⟩⟩;rw[Int.mul_one]
 done:=by
  intro X j l m p i B s σ H E I hf st q;subst j l m;let⟨r,u,G,x,y,A⟩:=hf it ∅;exact wpAny_pyNext_range_end (I.ok.hd p) st (by have:n<=i:=q;nofun) λg N=>⟨pw,I.turned (t':=s.toks) (λb o a e=>N b o a e) r u x y A⟩
 self:=λ_ _ _ _ _ st h=>wpAny_pyIter_rangeiter st h
end L2
namespace L2
open PySem Spec PyProof.Rows
section
variable{X:Cx}{tg:WB}
def cf(K:Za)(tl:TE):TI:=fun σ H R=>tl σ H λx H1=>∃a,x=.ref a/\(∃xs,aA K H1 a xs)/\R (Ki K a) H1
def MU(K:Za)(tl:TE):TI:=fun σ H R=>tl σ H λx H1=>∃a,x=.ref a/\(∃xs,bj K H1 a xs)/\R (Na K a) H1
theorem bz(k:PE X l j):PI X tg l (cf X.K j):=by
 intro m s σ H R I h;refine cQ (k m s σ H _ I h) λv f i=>?_;let⟨x,n,g,r,t⟩:=i;let⟨a,e,⟨xs,u⟩,q⟩:=t;subst e;cases r;let⟨w,z,p,A⟩:=g.list u;refine xM p.isList ?_;apply⟨↑f,[↑f],_,_,n,pw,g.kept (t':=f.toks) λb o e=>bc _ e,sk a _,⟨_,dS _ rfl,pw,pw⟩,λb y=>?_,q⟩;have e:b=↑f:=by simpa using y
 subst e;exact g.QY (aB _)<|g.A0.fresh<|aB _
theorem Ja(m:PE X l k):PI X tg l (MU X.K k):=by
 intro n s σ H R I h;refine cQ (m n s σ H _ I h) λv f i=>?_;let⟨x,r,g,t,u⟩:=i;let⟨a,e,⟨xs,w⟩,q⟩:=u;subst e;cases t;let⟨j,z,p,A⟩:=g.tuple w;refine Fd (show f.heap.IsTuple a j.toArray from p) ?_;apply⟨↑f,[↑f],_,_,r,pw,g.kept (t':=f.toks) λb o e=>bc _ e,vo a _,⟨_,dS _ rfl,pw,pw⟩,λb y=>?_,q⟩;have e:b=↑f:=by simpa using y
 subst e;exact g.QY (aB _)<|g.A0.fresh<|aB _
theorem IN{a:Zd}{σ:St}{H:Hp}{s:Ww}{R:It->Hp->Prop}{E:Zc}{lo hi:Int}{t u v:Tok}{tk:Nat}(I:Inv X a σ H s)(g:-(2 ^ 62)<=lo)(h:lo<2 ^ 62)(i:-(2 ^ 62)<=hi)(j:hi<2 ^ 62)
  (q:R (Nb lo (hi-lo).toNat) H):wpAny (model X.prog X.w) X.A (pyIter<|.ref ↑s) (Oh X a σ tg R) E {s with heap:=s.heap.push { cls:=.type "range",data:=.fields #[.int lo t,.int hi u,.int 1 v]},toks:=tk}:=by
 refine wpAny_pyIter_range (IsRange.new ..) (small_one g h i j) ?_;have f:Inv X a σ H {s with heap:=s.heap.push { cls:=.type "range",data:=.fields #[.int lo t,.int hi u,.int 1 v]},toks:=tk}:=I.kept λb o e=>bc _ e;apply⟨(s.heap.push { cls:=.type "range",data:=.fields #[.int lo t,.int hi u,.int 1 v]}).objs.size,[(s.heap.push { cls:=.type "range",data:=.fields #[.int lo t,.int hi u,.int 1 v]}).objs.size],_,_,H,pw,
  f.kept (t':=tk) λb o e=>bc _ e,Dn _ lo (hi-lo).toNat,?_,λb k=>?_,q⟩
 .have l:lo+((0:Nat):Int) * 1=lo:=by simp
  have m:(((hi-lo).toNat:Nat):Int)-((0:Nat):Int)=bW.Range.rangeSize lo hi 1:=by rw[rangeSize_one];split<;>nofun
  show IsRangeIter _ _ (lo+((0:Nat):Int) * 1) ((((hi-lo).toNat:Nat):Int)-((0:Nat):Int)) 1;rw[l,m];exact dS _ rfl
 .have e:b=(s.heap.push { cls:=.type "range",data:=.fields #[.int lo t,.int hi u,.int 1 v]}).objs.size:=by simpa using k
  subst e;exact f.QY (aB _)<|f.A0.fresh<|aB _
def tS(ta:TA):TI:=fun σ H R=>ta σ H λvs H1=>∃j:Int,vs=[.int j]/\-(2 ^ 62)<=j/\j<2 ^ 62/\R (Nb 0 j.toNat) H1
theorem ie(l:Gl X "range")(m:X.mg "range"=none)(n:PA X [a] k)(o:aK [a] X.env=[(false,eval a X.env)]:=by rfl):PI X tg (.Call (.Name "range" p) [a] [] f) (tS k):=by
 intro u s σ H R I h;refine Call_<|pd I l m boot_range<|Br (cQ (n f u s σ H _ I h) λz A g=>?_) o rfl;let⟨B,C,v,w,i⟩:=g;let⟨j,e,i,x,q⟩:=i;subst e;cases w with
 |cons r y =>
  cases y;let⟨t,rfl⟩:=r;exact call_range_1 (IN v ⋯ ⋯ i x (by simpa using q))
def fF(wi:TI)(g:TG)(tb:TS):TS:=λD σ H=>wi σ H λJ H1=>∃W:Nat->Nat->St->Hp->Prop,(∃m,W 0 m σ H1)/\∀i m σ H,W i m σ H ->
 (J.stop i H/\D.nx σ H)∨(J.go i H/\∃N:St->Hp->Prop,(∀σ' H',N σ' H'->∃m',m'<m/\W (i+1) m' σ' H')/\∀x H',J.Sq i H x H'->g x σ H' fun σ2 H2=>tb {D with nx:=N,ct:=N,bk:=D.nx} σ2 H2)
def o_(fp:Ze)(h:WA):List (Wv×Obj):=fp.filterMap λb=>(h.get? b).map λo=>(b,o)
theorem ft(a:b∈fp)(e:h.get? b=pe o):(b,o)∈o_ fp h:=List.mem_filterMap.mpr ⟨b,a,by rw[e];rfl⟩
theorem Hg(f:p∈o_ a h):p.1∈a/\h.get? p.1=pe p.2:=by
 let⟨b,g,e⟩:=List.mem_filterMap.mp f;cases q:h.get? b with
 |none=>rw[q]at e;cases e
 |some o =>
  rw[q]at e;have i:(b,o)=p:=ff e;subst i;exact⟨g,q⟩
theorem Inv.pinned(I:Inv X a σ H s)(hf:∀b∈f,lK X a H b)(i:∀b∈f,∃o,s.heap.get? b=pe o/\∀v,o.data≠.cell v):Inv X (a++o_ f s.heap) σ H s :=
 I.Sm λp j=>(bp.mp j).elim (λz=>I.pin p<|cE _ z) λz=>by
  let⟨g,e⟩:=Hg z;let⟨k,l,m,_⟩:=hf p.1 g;let⟨o,h,d⟩:=i p.1 g;rw[e]at h;cases h;exact⟨e,k,l,m,d⟩
theorem Inv.D8(I:Inv X (a++e) σ H s):Inv X a σ H s:=I.Sm λp f=>I.pin p<|cE _<|ej _ f
theorem cj(E:Bs (model X.prog X.w) X.A X.env X.xe)(hc:X.calm=true)(hi:PI X tg j wi)(hg:PG X tg g)(k:A9 X y tb)(hs:∀x,tH j X.env x=pure x:=by intro _;rfl):PS X (.For tg j y [] U) (fF wi g tb):=by
 intro B s σ H D I h;refine wpAny_For (cQ (hi B s σ H _ I h) λv s1 h1=>cQ h1 λan s2 h2=>?_) hs;let⟨it,G,tn,J,H2,e,I2,T,Y,f2,W,⟨m0,w0⟩,turn⟩:=h2;subst e;have l:∀{t:Hp},(∀b∈G,t b=none)->∀b∈G,lK X B t b:=λhn b k=>⟨hn b k,(f2 b k).2⟩;refine codeAny_forLoop_any (λn s'=>∃i σ' t,Inv X B σ' t s'/\tn i s'.heap/\(∀b∈G,t b=none)/\W i n σ' t) ?_ m0 ⟨0,σ,H2,I2,Y,λb k=>(f2 b k).1,w0⟩;rintro n s3 ⟨i,σ3,Q,I3,L,M,w3⟩;obtain⟨stop,qn⟩|⟨go,N,hN,step⟩:=turn i n σ3 Q w3
 .refine iy E<|cQ (T.done X rfl rfl rfl hc i B s3 σ3 Q X.xe I3 (l M) L stop) λr s4 a=>?_;let⟨hr,I4⟩:=a;subst hr;exact pO ⟨σ3,Q,I4,qn⟩
 .refine iy E<|cQ (T.item X rfl rfl rfl hc i B s3 σ3 Q X.xe I3 (l M) L go) λr s4 a=>?_;let⟨u,hr,h4⟩:=a;subst hr;refine iy E<|cQ h4 λ_ s5 a=>?_;let⟨x,H5,I5,r5,y5,C,ab⟩:=a;have al:=I5.pinned (l ab)<|T.obj _ _ C;refine iy E<|cQ (hg _ s5 σ3 H5 x u _ al r5<|step x H5 y5) λ_ s6 a=>?_;obtain⟨σ6,H6,I6,q6⟩:=a;refine iy E<|cQ (k _ s6 σ6 H6 _ I6 q6) λf s7 z=>?_;have again:∀{σ7:St}{p:Hp},Inv X (B++o_ G s5.heap) σ7 p s7->N σ7 p->∃m,m<n/\∃i σ' t,Inv X B σ' t s7/\tn i s7.heap/\(∀b∈G,t b=none)/\W i m σ' t:=fun{σ7 p} q O=>by
   let⟨m',hm,w7⟩:=hN σ7 p O;apply⟨m',hm,i+1,σ7,p,q.D8,T.keep _ _ _ C λb k o e=>(q.pin (b,o)<|cE _<|cE _<|ft k e).1,λb k=>?_,w7⟩;let⟨o,e,d⟩:=T.obj _ _ C b k;exact(q.pin (b,o)<|cE _<|cE _<|ft k e).2.1
  cases f with
  |next=>obtain⟨σ7,p,q,O⟩:=z;exact again q O
  |cont=>obtain⟨σ7,p,q,O⟩:=z;exact again q O
  |brk=>obtain⟨σ7,p,q,z⟩:=z;exact⟨σ7,p,q.D8,z⟩
  |ret v=>obtain⟨x7,σ7,p,q,r7,z⟩:=z;exact⟨x7,σ7,p,q.D8,r7,z⟩
end
theorem cr{K:Za}{a:Wv}{xs:List V}{g:TG}{k:TS}{D:gm}{σ:St}{H:Hp}(Pv:Nat->St->Hp->Prop)(n:Pv 0 σ H)(o:∀i σ H,i<=xs.length->Pv i σ H->aA K H a xs)
  (r:∀i x σ H,xs[i]?=pe x->Pv i σ H->g x σ H fun σ2 j=>k {D with nx:=Pv<|i+1,ct:=Pv<|i+1,bk:=D.nx} σ2 j) (s:∀σ H,Pv xs.length σ H->D.nx σ H) :
  ∃W:Nat->Nat->St->Hp->Prop,(∃m,W 0 m σ H)/\∀i m σ H,W i m σ H ->
   ((Ki K a).stop i H/\D.nx σ H)∨((Ki K a).go i H/\∃N:St->Hp->Prop,(∀σ' f,N σ' f->∃l,l<m/\W (i+1) l σ' f)/\∀x f,(Ki K a).Sq i H x f->g x σ f fun σ2 j=>k {D with nx:=N,ct:=N,bk:=D.nx} σ2 j):=by
 apply⟨λi m σ H=>m=xs.length-i/\i<=xs.length/\Pv i σ H,⟨xs.length,by simp,cw _,n⟩,?_⟩;rintro i m σ H ⟨rfl,hi,p⟩;have q:=o i σ H hi p;by_cases h:i<xs.length
 .refine .inr ⟨⟨xs,xs[i],q,by simp[h]⟩,Pv<|i+1,fun σ' f t=>⟨xs.length-(i+1),by nofun,pw,h,t⟩,λx f y=>?_⟩;let⟨e,y⟩:=y;subst e;exact r i x σ _ (y xs q) p
 .have e:i=xs.length:=by nofun
  subst e;exact .inl ⟨⟨xs,q,aB _⟩,s σ H p⟩
theorem Ld{K:Za}{a:Wv}{xs:List V}{g:TG}{k:TS}{D:gm}{σ:St}{H:Hp}(Pv:Nat->St->Hp->Prop)(n:Pv 0 σ H)(o:∀i σ H,i<=xs.length->Pv i σ H->bj K H a xs)
  (r:∀i x σ H,xs[i]?=pe x->Pv i σ H->g x σ H fun σ2 j=>k {D with nx:=Pv<|i+1,ct:=Pv<|i+1,bk:=D.nx} σ2 j) (s:∀σ H,Pv xs.length σ H->D.nx σ H) :
  ∃W:Nat->Nat->St->Hp->Prop,(∃m,W 0 m σ H)/\∀i m σ H,W i m σ H ->
   ((Na K a).stop i H/\D.nx σ H)∨((Na K a).go i H/\∃N:St->Hp->Prop,(∀σ' f,N σ' f->∃l,l<m/\W (i+1) l σ' f)/\∀x f,(Na K a).Sq i H x f->g x σ f fun σ2 j=>k {D with nx:=N,ct:=N,bk:=D.nx} σ2 j):=by
 apply⟨λi m σ H=>m=xs.length-i/\i<=xs.length/\Pv i σ H,⟨xs.length,by simp,cw _,n⟩,?_⟩;rintro i m σ H ⟨rfl,hi,p⟩;have q:=o i σ H hi p;by_cases h:i<xs.length
 .refine .inr ⟨⟨xs,xs[i],q,by simp[h]⟩,Pv<|i+1,fun σ' f t=>⟨xs.length-(i+1),by nofun,pw,h,t⟩,λx f y=>?_⟩;let⟨e,y⟩:=y;subst e;exact r i x σ _ (y xs q) p
 .have e:i=xs.length:=by nofun
  subst e;exact .inl ⟨⟨xs,q,aB _⟩,s σ H p⟩
theorem kM{lo:Int}{n:Nat}{g:TG}{j:TS}{D:gm}{σ:St}{H:Hp}(Pv:Nat->St->Hp->Prop)(l:Pv 0 σ H)
  (o:∀i σ H,i<n->Pv i σ H->g (.int<|lo+i) σ H fun σ2 h=>j {D with nx:=Pv<|i+1,ct:=Pv<|i+1,bk:=D.nx} σ2 h) (q:∀σ H,Pv n σ H->D.nx σ H) :
  ∃W:Nat->Nat->St->Hp->Prop,(∃m,W 0 m σ H)/\∀i m σ H,W i m σ H ->
   ((Nb lo n).stop i H/\D.nx σ H)∨((Nb lo n).go i H/\∃N:St->Hp->Prop,(∀σ' a,N σ' a->∃k,k<m/\W (i+1) k σ' a)/\∀x a,(Nb lo n).Sq i H x a->g x σ a fun σ2 h=>j {D with nx:=N,ct:=N,bk:=D.nx} σ2 h):=by
 apply⟨λi m σ H=>m=n-i/\i<=n/\Pv i σ H,⟨n,by simp,cw _,l⟩,?_⟩;rintro i m σ H ⟨rfl,hi,p⟩;by_cases f:i<n
 .refine .inr ⟨f,Pv<|i+1,fun σ' a r=>⟨n-(i+1),by nofun,pw,f,r⟩,λx a y=>?_⟩;let⟨e,y⟩:=y;subst e y;exact o i σ _ f p
 .have e:i=n:=by nofun
  subst e;exact .inl ⟨aB _,q σ H p⟩
end L2
namespace L2
open PySem Spec PyProof.Rows
abbrev R2:=V->V->Hp->VK->Prop
def oq(X:Cx)(f:Wx->Wx->Sem Wx)(r:R2):Prop :=
 ∀(J4:Zd) (s:Ww) (σ:St) (H:Hp) (x y:V) (v u:Wx) (Q:VK),Inv X J4 σ H s->RelV x v->RelV y u->r x y H Q ->
  wpAny (model X.prog X.w) X.A (f v u) (EP X J4 σ Q) X.xe s
def Vn(X:Cx)(f:Wx->Sem Wx)(r:V->Hp->VK->Prop):Prop :=
 ∀(J4:Zd) (s:Ww) (σ:St) (H:Hp) (x:V) (v:Wx) (Q:VK),Inv X J4 σ H s->RelV x v->r x H Q ->
  wpAny (model X.prog X.w) X.A (f v) (EP X J4 σ Q) X.xe s
def fB(X:Cx)(f:Wx)(r:List V->Hp->VK->Prop):Prop :=
 ∀(J4:Zd) (s:Ww) (σ:St) (H:Hp) (xs:List V) (us:Zf) (Q:VK),Inv X J4 σ H s->bg xs us->r xs H Q ->
  wpAny (model X.prog X.w) X.A (call f us) (EP X J4 σ Q) X.xe s
def aD(r:R2)(ta tb:TE):TE:=fun σ H Q=>ta σ H λx H1=>tb σ H1 λy H2=>r x y H2 Q
def LJ(r:V->Hp->VK->Prop)(ta:TE):TE:=fun σ H Q=>ta σ H λx H1=>r x H1 Q
def rI(C:Int->Int->Prop)(g:Int->Int->V):R2:=λx y H Q=>∃i j,x=.int i/\y=.int j/\C i j/\Q (g i j) H
def FD(g:Int->Int->V):R2:=λx y H Q=>∃i j,x=.int i/\y=.int j/\Q (g i j) H
def rU(g:Int->V):V->Hp->VK->Prop:=λx H Q=>∃i,x=.int i/\Q (g i) H
section
variable{X:Cx}{a b c:WB}{ta tb tc:TE}{pos:Pos}
theorem M0(n:PE X a ta)(o:PE X b tb){k:Zd}{s:Ww}{σ:St}{H:Hp}{R:V->V->Hp->Prop}(I:Inv X k σ H s)
  (h:ta σ H λx m=>tb σ m λy g=>R x y g) {Q:Zc}{f:Wx->Wx->Sem Wx}
  (hf:∀v u l x y g,Inv X k σ g l->RelV x v->RelV y u->R x y g->wpAny (model X.prog X.w) X.A (f v u) Q X.xe l) :
  wpAny (model X.prog X.w) X.A (eval a X.env) (λv i=>wpAny (model X.prog X.w) X.A (eval b X.env) (λu j=>wpAny (model X.prog X.w) X.A (f v u) Q X.xe j) X.xe i) X.xe s:=by
 refine cQ (n k s σ H _ I h) λv p e=>?_;let⟨x,m,q,r,t⟩:=e;refine cQ (o k p σ m _ q t) λu l e=>?_;let⟨y,g,z,B,C⟩:=e;exact hf v u l x y g z r B C
theorem ba(f:oq X (lU e) r)(g:PE X a ta)(i:PE X b tb):PE X (.BinOp a e b pos) (aD r ta tb):=by
 intro j s σ H Q I h;exact wpAny_BinOp<|M0 g i I h λv u k x y l m n o q=>f j k σ l x y v u Q m n o q
theorem tM(g:Vn X (unaryOp e) r)(i:PE X a ta):PE X (.UnaryOp e a pos) (LJ r ta):=by
 intro f s σ H Q I h;exact UnaryOp_<|cQ (i f s σ H _ I h) λv j ⟨x,k,l,m,n⟩=>g f j σ k x v Q l m n
theorem Od{f:Wx->Wx->Sem Wx}{C:Int->Int->Prop}{g:Int->Int->Int}
  (rule:∀(i j:Int) (t u:Tok) (s:Ww) (Q:Zc) (E:Zc),C i j->Q (.int (g i j) s.toks) {s with toks:=s.toks+1}->wpAny (model X.prog X.w) X.A (f (.int i t)<|.int j u) Q E s) :
  oq X f (rI C λi j=>.int<|g i j):=by
 intro n s σ H x y v u Q I e k h;let⟨i,j,rfl,rfl,l,q⟩:=h;let⟨t,rfl⟩:=e;let⟨m,rfl⟩:=k;exact rule i j t m s _ _ l ⟨.int<|g i j,H,I.tok _,⟨_,pw⟩,q⟩
theorem NI{f:Wx->Wx->Sem Wx}{g:Int->Int->Int}
  (rule:∀(i j:Int) (t u:Tok) (s:Ww) (Q:Zc) (E:Zc),Q (.int (g i j) s.toks) {s with toks:=s.toks+1}->wpAny (model X.prog X.w) X.A (f (.int i t)<|.int j u) Q E s) :
  oq X f (FD λi j=>.int<|g i j):=by
 intro m s σ H x y v u Q I e k h;let⟨i,j,rfl,rfl,q⟩:=h;let⟨t,rfl⟩:=e;let⟨l,rfl⟩:=k;exact rule i j t l s _ _ ⟨.int<|g i j,H,I.tok _,⟨_,pw⟩,q⟩
theorem K5{f:Wx->Wx->Sem Wx}{g:Int->Int->Bool}
  (rule:∀(i j:Int) (t u:Tok) (s:Ww) (Q:Zc) (E:Zc),Q (.bool<|g i j) s->wpAny (model X.prog X.w) X.A (f (.int i t)<|.int j u) Q E s) :
  oq X f (FD λi j=>.bl<|g i j):=by
 intro m s σ H x y v u Q I e k h;let⟨i,j,rfl,rfl,q⟩:=h;let⟨t,rfl⟩:=e;let⟨l,rfl⟩:=k;exact rule i j t l s _ _ ⟨.bl<|g i j,H,I,pw,q⟩
def N7(i j:Int):Prop:=0<j/\j<1073741824
def N6(i j:Int):Prop:=0<=j/\j<=1000000/\i.natAbs<2 ^ 64
def Ke(i j:Int):Prop:=(-(2 ^ 64)<i/\i<2 ^ 64)∨(-(2 ^ 64)<j/\j<2 ^ 64)
theorem Ke.ok(h:Ke i j):IntMulOk i j:=by
 obtain⟨e,f⟩|⟨e,f⟩:=h
 .exact .of_left<|intBits_le_64 e f
 .exact .of_right<|intBits_le_64 e f
theorem dw:oq X (lU .Add) (FD λi j=>.int<|i+j):=NI λ_ _ _ _ _ _ _ q=>add_int q
theorem Em:oq X (lU .Sub) (FD λi j=>.int<|i-j):=NI λ_ _ _ _ _ _ _ q=>sub_int q
theorem jk:oq X (lU .Mult) (rI Ke λi j=>.int<|i * j):=Od λ_ _ _ _ _ _ _ e q=>mul_int q e.ok
theorem FL:oq X (lU .FloorDiv) (rI N7 λi j=>.int<|i / j):=Od λi j _ _ _ _ _ e q=>by
 have f:(0:Int)<j:=e.1;have g:j<1073741824:=e.2;exact floordiv_int ⋯ (by rw[Int.fdiv_eq_ediv_of_nonneg i ⋯];exact q) (.inl (PyProof.noPylong_small ⋯))
theorem ig:oq X (lU .Mod) (rI (λ_ j=>0<j) λi j=>.int<|i % j):=Od λi j _ _ _ _ _ e q=>by
 have f:(0:Int)<j:=e;exact mod_int' ⋯ (by rw[Int.fmod_eq_emod_of_nonneg i ⋯];exact q)
theorem Ji:oq X (lU .Pow) (rI N6 λi j=>.int<|i ^ j.toNat):=Od λ_ _ _ _ _ _ _ e q=>pow_int_small e.1 e.2.1 e.2.2 q
theorem VZ{f:Wx->Sem Wx}{g:Int->Int}
  (rule:∀(i:Int) (t:Tok) (s:Ww) (Q:Zc) (E:Zc),Q (.int (g i) s.toks) {s with toks:=s.toks+1}->wpAny (model X.prog X.w) X.A (f<|.int i t) Q E s) :
  Vn X f (rU λi=>.int<|g i):=by
 intro j s σ H x v Q I e h;let⟨i,rfl,q⟩:=h;let⟨t,rfl⟩:=e;exact rule i t s _ _ ⟨.int<|g i,H,I.tok _,⟨_,pw⟩,q⟩
theorem mq:Vn X (unaryOp .USub) (rU λi=>.int (-i)):=VZ λ_ _ _ _ _ q=>neg_int q
end
def Nz:V->V->Bool
 |.L',.L'=>true | .L',.int _=>true | .int _,.L'=>true | .L',.bl _=>true | .bl _,.L'=>true | .L',.str _=>true | .str _,.L'=>true
 |.int _,.int _=>true | .bl _,.bl _=>true | .str _,.str _=>true | .SU _,.SU _=>true
 |.int _,.str _=>true | .str _,.int _=>true | .bl _,.str _=>true | .str _,.bl _=>true
 |_,_=>false
def kW:R2:=λx y H Q=>Nz x y=true/\Q (.bl<|decide (x=y)) H
def Oc:R2:=λx y H Q=>Nz x y=true/\Q (.bl (!decide (x=y))) H
theorem F_:decide (V.int i=V.int j)=(i==j):=by
 rw[uJ];simp
theorem JM:decide (V.bl i=V.bl j)=(i==j):=by
 rw[uJ];simp
theorem P':decide (V.str i=V.str j)=(i==j):=by
 rw[uJ];simp
theorem Ga:decide (V.SU i=V.SU j)=(i.toList==j.toList):=by
 rw[uJ];cases i;cases j;simp
section
variable{X:Cx}{a b c:WB}{ta tb tc:TE}{pos:Pos}
theorem bZ(I:Inv X f σ H s)(q:Q (.bl k) H)(e:k=g):EP X f σ Q (.bool g) s:=by
 subst e;exact⟨.bl k,H,I,pw,q⟩
theorem cM:oq X (fV .Eq) kW:=by
 intro l s σ H x y v u Q I k e h;let⟨g,q⟩:=h;cases x with
 |L' =>
  cases k;cases y with
  |L'=>cases e;exact PySem.EqNone.eq_none_none (bZ I q ∅)
  |bl j=>cases e;exact PySem.EqNone.eq_none_bool (bZ I q ∅)
  |int j=>let⟨f,rfl⟩:=e;exact PySem.EqNone.eq_none_int (bZ I q ∅)
  |str j=>let⟨f,rfl⟩:=e;exact PySem.EqNone.eq_none_str (bZ I q ∅)
  |_=>exact absurd (show false=true from g) jZ
 |bl i =>
  cases k;cases y with
  |L'=>cases e;exact PySem.EqNone.eq_bool_none (bZ I q ∅)
  |bl j=>cases e;exact eq_bool<|bZ I q JM
  |str j=>let⟨f,rfl⟩:=e;exact PySem.EqMixed.eq_bool_str (bZ I q ∅)
  |_=>exact absurd (show false=true from g) jZ
 |int i =>
  let⟨t,rfl⟩:=k;cases y with
  |L'=>cases e;exact PySem.EqNone.eq_int_none (bZ I q ∅)
  |int j=>let⟨f,rfl⟩:=e;exact eq_int<|bZ I q F_
  |str j=>let⟨f,rfl⟩:=e;exact PySem.EqMixed.eq_int_str (bZ I q ∅)
  |_=>exact absurd (show false=true from g) jZ
 |str i =>
  let⟨t,rfl⟩:=k;cases y with
  |L'=>cases e;exact PySem.EqNone.eq_str_none (bZ I q ∅)
  |bl j=>cases e;exact PySem.EqMixed.eq_str_bool (bZ I q ∅)
  |int j=>let⟨f,rfl⟩:=e;exact PySem.EqMixed.eq_str_int (bZ I q ∅)
  |str j=>let⟨f,rfl⟩:=e;exact eq_str<|bZ I q P'
  |_=>exact absurd (show false=true from g) jZ
 |SU i =>
  let⟨t,rfl⟩:=k;cases y with
  |SU j=>let⟨f,rfl⟩:=e;exact PySem.W.eq_bytes<|bZ I q Ga
  |_=>exact absurd (show false=true from g) jZ
 |_=>cases y<;>exact absurd (show false=true from g) jZ
theorem Jj:oq X (fV .NotEq) Oc:=by
 intro l s σ H x y v u Q I k e h;let⟨g,q⟩:=h;cases x with
 |L' =>
  cases k;cases y with
  |L'=>cases e;exact PySem.EqNone.ne_none_none (bZ I q ∅)
  |bl j=>cases e;exact PySem.EqNone.ne_none_bool (bZ I q ∅)
  |int j=>let⟨f,rfl⟩:=e;exact PySem.EqNone.ne_none_int (bZ I q ∅)
  |str j=>let⟨f,rfl⟩:=e;exact PySem.EqNone.ne_none_str (bZ I q ∅)
  |_=>exact absurd (show false=true from g) jZ
 |bl i =>
  cases k;cases y with
  |L'=>cases e;exact PySem.EqNone.ne_bool_none (bZ I q ∅)
  |bl j=>cases e;exact ne_bool<|bZ I q<|congrArg not JM
  |str j=>let⟨f,rfl⟩:=e;exact PySem.EqMixed.ne_bool_str (bZ I q ∅)
  |_=>exact absurd (show false=true from g) jZ
 |int i =>
  let⟨t,rfl⟩:=k;cases y with
  |L'=>cases e;exact PySem.EqNone.ne_int_none (bZ I q ∅)
  |int j=>let⟨f,rfl⟩:=e;exact ne_int<|bZ I q<|congrArg not F_
  |str j=>let⟨f,rfl⟩:=e;exact PySem.EqMixed.ne_int_str (bZ I q ∅)
  |_=>exact absurd (show false=true from g) jZ
 |str i =>
  let⟨t,rfl⟩:=k;cases y with
  |L'=>cases e;exact PySem.EqNone.ne_str_none (bZ I q ∅)
  |bl j=>cases e;exact PySem.EqMixed.ne_str_bool (bZ I q ∅)
  |int j=>let⟨f,rfl⟩:=e;exact PySem.EqMixed.ne_str_int (bZ I q ∅)
  |str j=>let⟨f,rfl⟩:=e;exact ne_str<|bZ I q<|congrArg not P'
  |_=>exact absurd (show false=true from g) jZ
 |SU i =>
  let⟨t,rfl⟩:=k;cases y with
  |SU j=>let⟨f,rfl⟩:=e;exact PySem.W.ne_bytes<|bZ I q<|congrArg not Ga
  |_=>exact absurd (show false=true from g) jZ
 |_=>cases y<;>exact absurd (show false=true from g) jZ
theorem ye:oq X (fV .Lt) (FD λi j=>.bl<|decide (i<j)):=K5 λ_ _ _ _ _ _ _ q=>lt_int q
theorem NG:oq X (fV .LtE) (FD λi j=>.bl<|decide (i<=j)):=K5 λ_ _ _ _ _ _ _ q=>le_int q
theorem yf:oq X (fV .Gt) (FD λi j=>.bl<|decide (j<i)):=K5 λ_ _ _ _ _ _ _ q=>gt_int q
theorem NH:oq X (fV .GtE) (FD λi j=>.bl<|decide (j<=i)):=K5 λ_ _ _ _ _ _ _ q=>ge_int q
theorem He:oq X (fV .In) (λx y H Q=>∃i j,x=.str i/\y=.str j/\Q (.bl (!(bW.Str.occurrences j i 0 j.length 1).isEmpty)) H):=by
 intro g s σ H x y v u Q I e f h;let⟨i,j,rfl,rfl,q⟩:=h;let⟨t,rfl⟩:=e;let⟨k,rfl⟩:=f;exact in_str<|bZ I q rfl
theorem Jk(b:WB)(h:e≠.In:=by decide)(f:e≠.NotIn:=by decide):lV e b=false:=by
 have g:(e==CmpOp.In)=false:=by cases e<;>first|rfl|exact absurd rfl h
 have i:(e==CmpOp.NotIn)=false:=by cases e<;>first|rfl|exact absurd rfl f
 cases b<;>simp[lV,g,i]
theorem FJ(f:oq X (fV e) r)(g:PE X a ta)(i:PE X b tb)(j:lV e b=false):PE X (.Compare a [e] [b] pos) (aD r ta tb):=by
 intro k s σ H Q I h;exact wpAny_Compare1 (M0 g i I h λv u l x y m n o p q=>f k l σ m x y v u Q n o p q) j
def aQ(t:TE):TT:=fun σ H Q=>t σ H λx H'=>∃k,x=.bl k/\Q k H'
theorem FF(i:oq X (fV f) r)(j:PE X a ta)(l:PE X b tb)(m:lV f b=false):PT X (.Compare a [f] [b] pos) (aQ<|aD r ta tb):=by
 intro g s σ H Q I h;refine wpAny_isTrue_Compare1 (cQ (j g s σ H _ I h) λv n ⟨x,o,p,q,t⟩=>cQ (l g n σ o _ p t) λu w ⟨y,A,B,C,D⟩ =>
  cQ (i g w σ A x y v u _ B q C D) λc M ⟨z,E,G,J,k,e,L⟩=>?_) m
 subst e;cases J;exact pS ⟨E,G,L⟩
theorem sR:(ai:Nat)<2 ^ 63:=by rw[lT];decide
theorem vU:oq X (lU .Add) (λx y H Q=>∃i j,x=.str i/\y=.str j/\i.length+j.length<=ai/\Q (.str<|i++j) H):=by
 intro l s σ H x y v u Q I e f h;let⟨i,j,rfl,rfl,g,q⟩:=h;let⟨t,rfl⟩:=e;let⟨k,rfl⟩:=f;exact add_str (λk tk=>⟨.str<|i++j,H,I.tok _,⟨_,pw⟩,q⟩) g
theorem vals1(r:bg [x] e):∃u,e=[u]/\RelV x u:=by
 cases r with
 |cons f g=>cases g;exact⟨_,pw,f⟩
theorem vals2(r:bg [x,y] e):∃u f,e=[u,f]/\RelV x u/\RelV y f:=by
 cases r with
 |cons g h =>
  cases h with
  |cons i j=>cases j;exact⟨_,_,pw,g,i⟩
theorem HB(f:X.calm=true):fB X (.builtin "max") (λxs H Q=>∃i j,xs=[.int i,.int j]/\Q (.int<|if j > i then j else i) H):=by
 intro g s σ H xs l Q I r h;let⟨i,j,rfl,q⟩:=h;let⟨u,m,rfl,⟨t,rfl⟩,⟨n,rfl⟩⟩:=vals2 r;refine max_two_ints (I.ok.hd f) λo tk k=>⟨_,H,I.kept k,?_,q⟩;by_cases e:j > i
 .rw[if_pos e,if_pos e];exact⟨_,pw⟩
 .rw[if_neg e,if_neg e];exact⟨_,pw⟩
theorem yP:fB X (.type "int") (λxs H Q=>(∃i,xs=[.int i]/\Q (.int i) H)∨∃k,xs=[.bl k]/\Q (.int<|if k then 1 else 0) H):=by
 intro f s σ H xs g Q I r h;obtain⟨i,rfl,q⟩|⟨k,rfl,q⟩:=h
 .obtain⟨u,rfl,t,rfl⟩:=vals1 r;exact call_int_int ⟨.int i,H,I,⟨_,pw⟩,q⟩
 .obtain⟨u,rfl,e⟩:=vals1 r;cases e;exact call_int_bool ⟨.int<|if k then 1 else 0,H,I.tok _,⟨_,pw⟩,q⟩
end
end L2
namespace L2
open PySem Spec PyProof.Rows
structure EQ(h:WA)(x dx C:Wv)(mA:WD->Option Wx):Prop where
 obj:h.get? x=pe (tJ C dx)
 ns:h.Ns1 dx mA
 ne:dx≠x
theorem sQ{h:WA}(n:h.Ns1 g i):∃j,h.get? g=pe j/\∀name,Fc name j=pe (i name):=by
 let⟨o,k,v,l,m,p,_,r⟩:=n;apply⟨o,l,λname=>?_⟩;have e:=r name;unfold nsFind findBy at e;rw[<-Array.find?_toList]at e;unfold Fc;rw[m];dsimp only;split
 .rename_i y q;rw[q]at e;exact congrArg pe e
 .rename_i q;rw[q]at e;have a:k.toList.any (·.refKey)=false:=by
   rw[List.any_eq_false];intro y s;let⟨z,t,f⟩:=p y<|Array.mem_toList_iff.mp s;simp[DictEntry.refKey,f]
  have u:¬k.toList.any (·.refKey)=true:=by rw[a];exact jZ
  rw[if_neg u];exact congrArg pe e
theorem EQ.look(I:EQ h x e C f):∃a,PySem.W.InstAt h x (tJ C e) C (pe a)/\∀name,Fc name a=pe (f name) :=
 let⟨a,g,i⟩:=sQ I.ns
 ⟨a,⟨I.obj,pw,pw,g⟩,i⟩
section
variable{prog:bI}{w:Wy}{A:Wz}{E:Zc}{s:Ww}{K:Za}{x dx C f:Wv}{mA:WD->Option Wx}{name:WD}{v:Wx}
theorem Lb(X:K.In s.heap)(I:EQ s.heap x dx C mA)(g:Bq K C name=true)(i:Fb K C=true)(j:aF K (.ref C) name=pe none)(k:mA name=pe v)(e:PySem.W.handedIn v=true)(h:Q v {s with toks:=s.toks+1}) :
  wpAny (model prog w) A (Bo (.ref x) name a) Q E s:=by
 let⟨m,J,l⟩:=I.look;exact PySem.W.get_value X J (PySem.W.plainGet_of g).1 (PySem.W.findObj_own i j rfl (by rw[l,k])) e h
theorem JC(X:K.In s.heap)(I:EQ s.heap x dx C mA)(a:Bq K C name=true)(hf:aF K (.ref C) name=pe (pe<|.ref f))(g:tG K (.ref f)=true)(i:mA name=none)(h:Q (.ref f,[.ref x]) s) :
  wpAny (model prog w) A (pM (.ref x) name e) Q E s:=by
 let⟨j,J,k⟩:=I.look;exact PySem.W.method_fn X J (PySem.W.plainGet_of a).1 (PySem.W.plainGet_of a).2 hf (beq_iff_eq.mp g) (by show(Fc name j).map (·.isSome)=pe false;rw[k,i];rfl) h
theorem KB(X:K.In s.heap)(I:EQ s.heap x dx C mA)(o:aF K (.ref C) "__setattr__"=pe (pe<|.builtin "object.__setattr__"))(p:PySem.W.plainOver K C=true)(q:PySem.W.takerIn K C name=pe none)(t:Fb K C=true)(u:Bt mA n)(z:n.length<=ai)(h:∀i,EQ i x dx C (λy=>if y=name then pe v else mA y)->kz dx s.heap i->Q () {s with heap:=i,toks:=s.toks+2}) :
  wpAny (model prog w) A (setAttr (.ref x) name v) Q E s:=by
 let⟨H,J,L⟩:=I.look;refine PySem.W.set_plain X J o<|PySem.W.osa_open (s:={s with toks:=s.toks+1}) (r:=none) X J p q λb=>?_;let⟨cd,B,j⟩:=PySem.W.any_some t;have hx:s.heap.get? x=pe ⟨.ref C,pe dx,.plain,#[]⟩:=I.obj;refine ap<|aR<|ap<|ap<|Fa hx<|ap<|uX.here (s:={s with toks:=s.toks+1}) (PySem.W.looks_clsIn X B) ?_;rw[j];refine aR (a:=pe dx)<|ap<|aR<|ap ?_;refine wpAny_nsSet1 (s:={s with toks:=s.toks+1}) I.ns λi e g=>?_;let⟨M,D,G,k,l,m⟩:=e.count<|Bt.cons name v u;refine ap (wpAny_lookBehind k (by rw[l];exact pastItsLine_dict (bh m (by rw[da];nofun))) ?_);exact aR<|h _ ⟨(g.2 _<|dD I.ne).trans I.obj,e,I.ne⟩ g
theorem Jq(X:K.In s.heap)(i:Bn K C=true)(hi:aF K (.ref C) "__init__"=pe (pe<|.ref f))(hf:PySem.W.typeIn K (.ref f)=pe (.type "function"))(h:O0 (model prog w) (A.under<|.builtin "type.__call__" ⟨.ref C::a,e⟩) (.call (.ref f) ⟨.ref (↑s+1)::a,e⟩) (PySem.W.InitBack (↑s+1) R)
   {s with heap:=(s.heap.push pL).push (tJ C ↑s)}) :
  O0 (model prog w) A (.call (.ref C) ⟨a,e⟩) R s:=by
 let⟨j,g,d,t,os⟩:=s;exact PySem.W.make_core (PySem.W.makes_of X i) (PySem.W.looks_findIn X hi) (λself=>PySem.W.bind_fn X self hf) (.inl rfl) h
end
def dL(f:WD)(v:V):List (WD×V)->List (WD×V)
 |[]=>[(f,v)]
 | (g,x)::r=>if g=f then(g,v)::r else(g,x)::dL f v r
theorem fx(f g:WD)(v:V):∀fs:List<|WD×V,(dL f v fs).lookup g=if g=f then pe v else fs.lookup g
 |[]=>by
  show ix g [(f,v)]=_;by_cases h:g=f
  .have a:(g==f)=true:=beq_iff_eq.mpr h;simp only[ix,a,if_pos h]
  .have a:(g==f)=false:=beq_eq_false_iff_ne.mpr h;simp only[ix,a,if_neg h]
 | (k,x)::r=>by
  have j:=fx f g v r;rw[show dL f v ((k,x)::r)=(if k=f then(k,v)::r else(k,x)::dL f v r)from rfl]
  by_cases i:k=f
  .rw[if_pos i];by_cases h:g=k
   .have a:(g==k)=true:=beq_iff_eq.mpr h;simp only[ix,a,if_pos<|h.trans i]
   .have a:(g==k)=false:=beq_eq_false_iff_ne.mpr h;simp only[ix,a,if_neg (λe:g=f=>h<|e.trans i.symm)]
  .rw[if_neg i];by_cases h:g=k
   .have a:(g==k)=true:=beq_iff_eq.mpr h;simp only[ix,a,if_neg (λe:g=f=>i<|h.symm.trans e)]
   .have a:(g==k)=false:=beq_eq_false_iff_ne.mpr h;simp only[ix,a];exact j
theorem sV(f:WD)(v:V):∀fs:List<|WD×V,f∈(dL f v fs).map (·.1)/\∀g,g∈fs.map (·.1)->g∈(dL f v fs).map (·.1)
 |[]=>⟨by simp[dL],λg h=>by simp at h⟩
 | (k,x)::r=>by
  let⟨i,j⟩:=sV f v r;rw[show dL f v ((k,x)::r)=(if k=f then(k,v)::r else(k,x)::dL f v r)from rfl]
  by_cases a:k=f
  .rw[if_pos a];subst a;exact⟨by simp,λg h=>by simpa using h⟩
  .rw[if_neg a];apply⟨?_,λg h=>?_⟩
   .rw[bP];exact de _ i
   .rw[bP]at h ⊢;obtain e|e:=b_.mp h
    .exact b_.mpr<|.inl e
    .exact de _<|j g e
theorem tQ(f:WD)(v:V):∀fs:List<|WD×V,(dL f v fs).length<=fs.length+1
 |[]=>by simp[dL]
 | (k,x)::r=>by
  have e:=tQ f v r;rw[show dL f v ((k,x)::r)=(if k=f then(k,v)::r else(k,x)::dL f v r)from rfl]
  by_cases a:k=f
  .rw[if_pos a,da,da];nofun
  .rw[if_neg a,da,da];nofun
theorem jr.some_of(r:jr (pe v) o):∃u,o=pe u/\RelV v u:=by
 cases o with
 |none=>exact(show False from r).elim
 |some u=>exact⟨u,pw,r⟩
theorem jr.none_of(r:jr none o):o=none:=by
 cases o with
 |none=>rfl
 |some u=>exact(show False from r).elim
theorem yB(r:RelV v u):PySem.W.handedIn u=true:=by
 cases v with
 |L'=>cases(show u=Value.none from r);rfl
 |bl b=>cases(show u=Value.bool b from r);rfl
 |int i=>let⟨t,e⟩:=(show ∃t,u=Value.int i t from r);cases e;rfl
 |str x=>let⟨t,e⟩:=(show ∃t,u=Value.str x t from r);cases e;rfl
 |SU b=>let⟨t,e⟩:=(show ∃t,u=Value.bytes b t from r);cases e;rfl
 |TZ b=>let⟨t,e⟩:=(show ∃t,u=Value.float b t from r);cases e;rfl
 |ref a=>cases(show u=Value.ref a from r);rfl
 |ty n=>cases(show u=Value.type n from r);rfl
section
variable{P:bI}{w:Wy}{H H':Hp}{h h':WA}{a C dx:Wv}{fs Wh:List (WD×V)}
theorem uD{K:Za}(i:lY P w K H h)(e:H a=pe (.ins C dx fs)):∃g,EQ h a dx C g/\(∀f,jr (fs.lookup f)<|g f)/\Bt g (fs.map (·.1))/\fs.length<=1000/\H dx=pe (.own a):=by
 let⟨d,z,ne,j,g,n,r,q⟩:=(show cv P w K H h a (.ins C dx fs)from i a _ e);exact⟨g,⟨j,n,ne⟩,r,q,z,d⟩
end
structure HN(K:Za)(C:Wv):Prop where
 pg:Bq K C Str.empty=true
 hd:Fb K C=true
 po:PySem.W.plainOver K C=true
 sa:aF K (.ref C) "__setattr__"=pe (pe (.builtin "object.__setattr__"))
theorem HN.get{K:Za}(c:HN K C)(f:WD):Bq K C f=true:=c.pg
def bO(K:Za)(C:Wv)(f:WD):Prop:=aF K (.ref C) f=pe none
theorem bO.taker{K:Za}(n:bO K C f):PySem.W.takerIn K C f=pe none:=by
 unfold PySem.W.takerIn;rw[show aF K (.ref C) f=pe none from n]
 rfl
structure LA(K:Za)(C:Wv)(m:WD)(f:Wv):Prop where
 at_:aF K (.ref C) m=pe (pe (.ref f))
 fn:tG K (.ref f)=true
 kp:db K (.ref f)=true
section
variable{X:Cx}{J4:Zd}{σ:St}{H:Hp}{s:Ww}{a C dx:Wv}{fs:List (WD×V)}{f:WD}{v:V}{A:Wz}{E:Zc}
theorem ED(I:Inv X J4 σ H s)(e:H a=pe (.ins C dx fs))(c:HN X.K C)(n:bO X.K C f)(l:fs.lookup f=pe v)(h:∀u g,Inv X J4 σ H g->RelV v u->Q u g):wpAny (model X.prog X.w) A (Bo (.ref a) f b) Q E s:=by
 let⟨j,O,r,_,_,_⟩:=uD I.A0 e;let⟨u,k,i⟩:=jr.some_of (v:=v) (o:=j f) (by rw[<-l];exact r f);exact Lb I.OF O (c.get f) c.hd n k (yB i)<|h u _ (I.tok _) i
theorem v7(I:Inv X J4 σ H s)(e:H a=pe (.ins C dx fs))(c:HN X.K C)(k:LA X.K C m g)(l:fs.lookup m=none)(h:Q (.ref g,[.ref a]) s):wpAny (model X.prog X.w) A (pM (.ref a) m i) Q E s:=by
 let⟨j,O,r,_,_,_⟩:=uD I.A0 e;have n:j m=none:=jr.none_of (by rw[<-l];exact r m);exact JC I.OF O (c.get m) k.at_ k.fn n h
theorem DU(I:Inv X J4 σ H s)(e:H a=pe (.ins C dx fs))(c:HN X.K C)(n:bO X.K C f)(N:fs.length<1000)(p:RelV y u)(h:∀j,Inv X J4 σ (upd H a<|.ins C dx<|dL f y fs) j->Q () j):wpAny (model X.prog X.w) A (setAttr (.ref a) f u) Q E s:=by
 let⟨k,O,r,l,_,m⟩:=uD I.A0 e;have t:(fs.map (·.1)).length<=ai:=by rw[am,lT];nofun
 refine KB I.OF O c.sa c.po n.taker c.hd l t λB i D=>h _ ?_;have G:∃o,B.get? dx=pe o:=let⟨o,_,_,J,_⟩:=i.ns;⟨o,J⟩;refine I.write (x:=a) (e:=dx) (by rw[e];exact fU) (.inr m) (λb q L z=>(D.2 b L).trans z) G ?_;apply⟨by rw[aj O.ne];exact m,?_,O.ne,i.obj,_,i.ns,λg=>?_,λg M=>?_⟩
 .have:=tQ f y fs;nofun
 .show jr ((dL f y fs).lookup g) (if g=f then pe u else k g)
  rw[fx];by_cases q:g=f
  .rw[if_pos q,if_pos q];exact p
  .rw[if_neg q,if_neg q];exact r g
 .by_cases q:g=f
  .rw[q];exact(sV f y fs).1
  .refine(sV f y fs).2 g<|l g λz=>M ?_;show(if g=f then pe u else k g)=none
   rw[if_neg q];exact z
theorem Inv.made(I:Inv X J4 σ H s):Inv X J4 σ (upd (upd H ↑s<|.own<|↑s+1) (↑s+1)<|.ins C ↑s [])
  {s with heap:=(s.heap.push pL).push (tJ C ↑s)}:=by
 have g:(s.heap.push pL).get? ↑s=pe pL:=dS s.heap rfl;have h:((s.heap.push pL).push<|tJ C ↑s).get? (↑s+1)=pe (tJ C ↑s):=by
  have:=dS (s.heap.push pL) (o:=tJ C ↑s) rfl;rwa[kq]at this
 have i:(s.heap.push pL).Ns ↑s (λ_=>none):=⟨pL,#[],_,g,pw,(λe j=>absurd j ∅),λ_=>rfl⟩;have k:=I.laid (a:=↑s) (o:=.own<|↑s+1) (h':=s.heap.push pL) (t':=s.toks) (λb u q=>bc _ q) (aB _) ⟨_,g⟩;refine k.laid (a:=↑s+1) (o:=.ins C ↑s []) (t':=s.toks) (λb u q=>bc _ q) (Nat.le_of_eq<|kq _ _) ?_;have ne:↑s≠↑s+1:=cG<|Bm _;apply⟨by rw[aj ne,aa],cw _,ne,h,λ_=>none,(Heap.Ns1.of_empty i).at λo q=>bc _ q,λ_=>fU,λy l=>absurd rfl l⟩
theorem Gd(l:xL e f i (eval e i)=eval e i)(h:wpAny (model g w) A (eval e i) (λo j=>wpAny (model g w) A (Bo o f true) Q E j) E s):wpAny (model g w) A (eval (.Attribute e f k) i) Q E s :=
 Attribute_any_ h (by rw[arm_eval_Attribute,l])
end
def w8(K:Za)(ta:TE)(f:WD):TE:=fun σ H Q=>ta σ H λx H1=>∃a C dx fs v,x=.ref a/\H1 a=pe (.ins C dx fs)/\HN K C/\bO K C f/\fs.lookup f=pe v/\Q v H1
def Aq(K:Za)(ta tv:TE)(f:WD):TS:=λD σ H=>tv σ H λy H1=>ta σ H1 λx H2=>∃a C dx fs,x=.ref a/\H2 a=pe (.ins C dx fs)/\HN K C/\bO K C f/\fs.length<1000 /\
 D.nx σ (upd H2 a<|.ins C dx<|dL f y fs)
section
variable{X:Cx}{o e value:WB}{f:WD}{pos pos' J7:Pos}{ta tv:TE}
theorem lD(i:PE X e ta)(j:xL e f X.env (eval e X.env)=eval e X.env):PE X (.Attribute e f pos) (w8 X.K ta f):=by
 intro k s σ H Q I h;refine Gd j<|cQ (i k s σ H _ I h) λu z g=>?_;let⟨x,m,p,r,a,C,A,fs,v,ex,t,c,n,l,q⟩:=g;subst ex;obtain rfl:u=Value.ref a:=r;exact ED p t c n l λB D w y=>⟨v,m,w,y,q⟩
theorem mI(j:PE X o ta)(k:PE X value tv)(m:pN value (pe<|.Attribute o f pos') pos.line X.env=pure false):PS X (.Assign [.Attribute o f pos'] value pos) (Aq X.K ta tv f):=by
 intro i s σ H D I h;refine plainObj_wpAny_Assign_Attribute (cQ (k i s σ H _ I h) λu p ⟨y,r,t,v,q⟩=>cQ (j i p σ r _ t q) λw J g=>?_) m;let⟨x,L,z,A,a,C,M,fs,ex,B,c,n,l,E⟩:=g;subst ex;obtain rfl:w=Value.ref a:=A;exact DU z B c n l v λN G=>⟨σ,_,G,E⟩
end
section
variable{X:Cx}{J4:Zd}{σ:St}{H:Hp}{s:Ww}{A:Wz}{E:Zc}{Q:Zc}{c:Wx}{b:Bool}
inductive jp(K:Za)(H:Hp):V->Wx->Prop where
 |L':jp K H .L' (.type "NoneType")
 |bl (x:Bool):jp K H (.bl x) (.type "bool")
 |int (i:Int):jp K H (.int i) (.type "int")
 |str (x:WD):jp K H (.str x) (.type "str")
 |TZ (x:UInt64):jp K H (.TZ x) (.type "float")
 |lst {a:Wv}{xs:List V}(e:H a=pe (.lst xs)):jp K H (.ref a) (.type "list")
 |PF {a:Wv}{o:Obj}{xs:List V}(e:H a=pe (.PF o (.lst xs))):jp K H (.ref a) (.type "list")
 |tup {a:Wv}{xs:List V}(e:H a=pe (.tup xs)):jp K H (.ref a) (.type "tuple")
 |dK {a:Wv}{kvs:List (cD×V)}(e:H a=pe (.dK kvs)):jp K H (.ref a) (.type "dict")
 |dT {a:Wv}{kvs:List (TK×V)}(e:H a=pe (.dT kvs)):jp K H (.ref a) (.type "dict")
 |ins {a C dx:Wv}{fs:List (WD×V)}(e:H a=pe (.ins C dx fs)) (cl:HN K C) (ha:aF K (.ref C) "__class__"=pe (pe (.builtin "object.__class__")))
   (hn:E_ K (.builtin "object.__class__") "__get__"=pe (pe (.builtin "getset_descriptor.__get__"))) (UH:PySem.W.takesIn K (.builtin "object.__class__")=pe true)
   (hm:PySem.W.mroIn K C (.type "object")=pe true):jp K H (.ref a) (.ref C)
theorem Hk(I:Inv X J4 σ H s)(f:RelV x u)(ty:jp X.K H x t)(e:l_ X.K t c=pe b)(h:∀tk,Q (.bool b) {s with toks:=tk}):
  wpAny (model X.prog X.w) A (call (.builtin "isinstance") [u,c]) Q E s:=by
 cases ty with
 |L'=>cases(show u=Value.none from f);exact jB PySem.W.kitx_none I.OF fU e (λz=>nomatch z) h
 |bl y=>cases(show u=Value.bool y from f);exact jB PySem.W.kitx_bool I.OF fU e (λz=>nomatch z) h
 |int i=>let⟨t,q⟩:=(show ∃t,u=Value.int i t from f);cases q;exact jB PySem.W.kitx_int I.OF fU e (λz=>nomatch z) h
 |str y=>let⟨t,q⟩:=(show ∃t,u=Value.str y t from f);cases q;exact jB PySem.W.kitx_str I.OF fU e (λz=>nomatch z) h
 |TZ y=>let⟨t,q⟩:=(show ∃t,u=Value.float y t from f);cases q;exact jB PySem.W.kitx_float I.OF fU e (λz=>nomatch z) h
 |@lst a xs g =>
  cases(show u=Value.ref a from f);let⟨_,_,n,_,j⟩:=(show cv X.prog X.w X.K H s.heap a (.lst xs)from I.A0 a _ g);exact jB PySem.W.kitx_list I.OF ⟨_,j,pw⟩ e (λz=>nomatch z) h
 |@PF a v xs g =>
  cases(show u=Value.ref a from f);let⟨_,_,_,n,_,j⟩:=(show cv X.prog X.w X.K H s.heap a (.PF v<|.lst xs)from I.A0 a _ g);exact jB PySem.W.kitx_list I.OF ⟨_,j,pw⟩ e (λz=>nomatch z) h
 |@tup a xs g =>
  cases(show u=Value.ref a from f);let⟨_,_,_,p⟩:=(show cv X.prog X.w X.K H s.heap a (.tup xs)from I.A0 a _ g);let⟨o,j,l,_⟩:=p;exact jB PySem.W.kitx_tuple I.OF ⟨o,j,l⟩ e (λz=>nomatch z) h
 |@dK a k g =>
  cases(show u=Value.ref a from f);let⟨_,_,N,_,p⟩:=(show cv X.prog X.w X.K H s.heap a (.dK k)from I.A0 a _ g);let⟨o,B,D,j,l,_⟩:=p;exact jB PySem.W.kitx_dict I.OF ⟨o,j,l.1⟩ e (λz=>nomatch z) h
 |@dT a k g =>
  cases(show u=Value.ref a from f);let⟨_,_,xs,_,o,B,D,j,l,_⟩:=(show cv X.prog X.w X.K H s.heap a (.dT k)from I.A0 a _ g);exact jB PySem.W.kitx_dict I.OF ⟨o,j,l.1⟩ e (λz=>nomatch z) h
 |@ins a C T fs g r G L m M =>
  cases(show u=Value.ref a from f);let⟨U,O,_⟩:=uD I.A0 g;let⟨Y,J,_⟩:=O.look;exact jB (PySem.W.kitx_own (r.get _) r.hd G L m M) I.OF J e (λz=>nomatch z) h
end
end L2
namespace L2
open PySem Spec PyProof.Rows
structure eG(k:Nat)(A:Wz):Prop where
 hd:A.handled=none
 dp:A.depth+3 * k+5<recursionLimit
 un:A.units+16 * k+200<cLine
theorem eG.mono(r:eG k A)(h:j<=k):eG j A:=⟨r.hd,by have:=r.dp;nofun,by have:=r.un;nofun⟩
theorem eG.deeper(r:eG (k+1) A)(a:Env):eG k (A.deeper a) :=
 ⟨r.hd,by have:=r.dp;show A.depth+1+3 * k+5<_;nofun,by have:=r.un;show A.units+3+16 * k+200<_;nofun⟩
theorem Eu{A:Wz}:(A.under<|.builtin "type.__call__" ⟨.ref C::a,e⟩).depth=A.depth+1:=by
 first|rfl|simp[Around.under,Code.weight,Code.isCreation,Code.isGuard,Code.isCaller,Code.frames,Code.isFrame,guardIds]
theorem Et{A:Wz}:(A.under<|.builtin "type.__call__" ⟨.ref C::a,e⟩).units=A.units+1:=by
 first|rfl|simp[Around.under,Code.cUnits,Code.frames,Code.isFrame]
theorem eG.make(r:eG (k+1) A)(C:Wv)(a:Zf)(e:List<|WD×Wx):eG k (A.under<|.builtin "type.__call__" ⟨.ref C::a,e⟩) :=
 ⟨r.hd,by have:=r.dp;rw[Eu];nofun,by have:=r.un;rw[Et];nofun⟩
theorem eG.depth(r:eG k A):A.depth<recursionLimit:=by have:=r.dp;nofun
theorem eG.units(r:eG k A):A.units+64<cLine:=by have:=r.un;nofun
def bx:TA:=λ_ H Q=>Q [] H
def aq(ta:TE)(tr:TA):TA:=fun σ H Q=>ta σ H λx H1=>tr σ H1 λxs H2=>Q (x::xs) H2
abbrev av(a:TE):TA:=aq a bx
abbrev aM(a b:TE):TA:=aq a<|aq b bx
abbrev bY(a b c:TE):TA:=aq a<|aq b<|aq c bx
section
variable{X:Cx}{e:WB}{es:List WB}{te:TE}{t:TA}{pos:Pos}
theorem c_:PA X [] bx:=λ_ _ _ _ H Q I h=>Calls.spliced_nil ⟨[],H,I,.nil,h⟩
theorem aW(g:PE X e te)(i:PA X es t)(j:aK (e::es) X.env=(false,eval e X.env)::aK es X.env:=by rfl):PA X (e::es) (aq te t):=by
 intro pos f s σ H Q I h;rw[j];show wpAny _ _ (spliced<|(false,eval e X.env)::backTo pos (aK es X.env)) _ _ s;refine Calls.spliced_cons<|cQ (g f s σ H _ I h) λu k a=>?_;let⟨x,l,m,n,o⟩:=a;exact cQ (i pos f k σ l _ m o) λw y ⟨xs,p,q,r,v⟩=>⟨x::xs,p,q,.cons n r,v⟩
def aU(t:TA):TE:=fun σ H Q=>t σ H λxs H1=>xs.length<=ai/\∀p,H1 p=none->Q (.ref p) (upd H1 p<|.tup xs)
def cK(t:TA):TE:=fun σ H Q=>t σ H λxs H1=>xs.length<=ai/\∀p,H1 p=none->Q (.ref p) (upd H1 p<|.lst xs)
theorem aw{i}(h:PA X es t):PE X (.Tuple es i pos) (aU t):=by
 intro j s σ H Q I k;refine wpAny_Tuple_spliced (cQ (h pos j s σ H _ I k) λl a ⟨xs,f,g,r,z,q⟩=>⟨by rw[<-r.length];exact z,?_⟩);have hf:f ↑a=none:=g.A0.fresh<|aB _;apply⟨.ref ↑a,upd f ↑a<|.tup xs,g.laid (t':=a.toks) (λb u e=>bc _ e) (aB _) ?_,pw,q _ hf⟩;exact⟨z,l,r,⟨_,dS _ rfl,pw,_,pw⟩⟩
theorem bt(h:PA X es t):PE X (.List es pos) (cK t):=by
 intro i s σ H Q I j;refine wpAny_List_spliced (cQ (h pos i s σ H _ I j) λk a ⟨xs,f,g,r,z,q⟩=>⟨by rw[<-r.length];exact z,?_⟩);have hf:f ↑a=none:=g.A0.fresh<|aB _;apply⟨.ref ↑a,upd f ↑a<|.lst xs,g.laid (t':=a.toks) (λb u e=>bc _ e) (aB _) ?_,pw,q _ hf⟩;exact⟨z,k,0,r,dS _ rfl⟩
end
abbrev Sp:=List V->Hp->VK->XK->Prop
abbrev HP:=List Env->Hp->Ww->XK->Wx->Ww->Prop
structure EZ(P:bI)(w:Wy)(K:Za)(mg:WD->Option Wx)(base:WA)(A:Wz)(outer:List Env)(s:Ww)(H:Hp):Prop where
 frames:A.frames=pe outer
 mod:Mod K mg base
 bs:∀b o,base.get? b=pe o->s.heap.get? b=pe o/\H b=none
 Tw:base.objs.size<=↑s
 P7:s.heap.FunFrames base outer
 TF:∀b∈wS outer,H b=none
 A0:lY P w K H s.heap
 bare:n_ s.gens
def CE(outer:List Env)(P:bI)(w:Wy)(K:Za)(H:Hp)(s:Ww)(Q:VK)(u:Wx)(s':Ww):Prop :=
 ∃v H',s'.os=s.os/\n_ s'.gens/\Un (wS outer) [] H H' s.heap s'.heap/\lY P w K H' s'.heap/\RelV v u/\Q v H'
def CR(CX:HP)(outer:List Env)(P:bI)(w:Wy)(K:Za)(H:Hp)(s:Ww)(Q:VK)(E:XK)(r:Result)(s':Ww):Prop :=
 match r with
 |.ok (.ret u)=>CE outer P w K H s Q u s'
 |.ok _=>False
 |.error e=>CX outer H s E e s'
structure ju(P:bI)(w:Wy)(K:Za)(mg:WD->Option Wx)(base:WA)(CX:HP)(k:Nat)(f:Wv)(fd:iL)(ps:Zb)(sp:Sp):Prop where
 len:∀vs H Q E,sp vs H Q E->vs.length=ps.length
 run:∀(A:Wz) (outer:List Env) (s:Ww) (H:Hp) (args:Args) (us:Zf) (vs:List V) (Q:VK) (E:XK),eG k A->EZ P w K mg base A outer s H->oP s fd args (ps.zip us)->bg vs us->sp vs H Q E ->
  O0 (model P w) A (.call (.ref f) args) (CR CX outer P w K H s Q E) s
theorem EZ.make{K:Za}(e:EZ P w K a base A outer s H)(C:Wv)(f:Zf)(g:List<|WD×Wx):
  EZ P w K a base (A.under<|.builtin "type.__call__" ⟨.ref C::f,g⟩) outer s H:=⟨by first|exact e.frames|(simpa[Around.under,Code.envs,Code.isFrame,pushEnvs]using e.frames),e.mod,e.bs,e.Tw,e.P7,e.TF,e.A0,e.bare⟩
section
variable{X:Cx}{J4:Zd}{σ:St}{H:Hp}{s s':Ww}
theorem Inv.TN(I:Inv X J4 σ H s):EZ X.prog X.w X.K X.mg X.base X.A X.stack s H :=
 ⟨I.ok.frames,I.ok.mod,I.bs,bh I.ok.Tw I.sz,I.stack,I.Ri,I.A0,I.bare⟩
theorem Inv.after(I:Inv X J4 σ H s)(h:CE X.stack X.prog X.w X.K H s Q u s'):EP X J4 σ Q u s':=by
 let⟨v,i,os,a,un,e,r,q⟩:=h;let⟨j,g,d,t,f⟩:=s';obtain rfl:f=s.os:=os;exact⟨v,i,I.call (h':=j) (g':=g) (d':=d) (t':=t) (ch:=[]) un e a (λb z=>absurd z ∅),r,q⟩
end
def oj(sp:Sp)(Ra:List V)(E:XK)(t:TA):TE:=fun σ H Q=>t σ H λvs H1=>sp (vs++Ra) H1 Q E
def gy(C:Wv)(m:WD)(sp:Sp)(Ra:List V)(E:XK)(ta:TE)(t:TA):TE:=fun σ H Q=>ta σ H λx H1=>∃a dx fs,x=.ref a/\H1 a=pe (.ins C dx fs)/\fs.lookup m=none /\
 t σ H1 λvs H2=>sp (x::(vs++Ra)) H2 Q E
def Io(C:Wv)(sp:Sp)(Ra:List V)(E:XK)(t:TA):TE:=fun σ H Q=>t σ H λvs H1=>∀x dx,H1 x=none->H1 dx=none->dx≠x ->
 sp (.ref x::(vs++Ra)) (upd (upd H1 dx<|.own x) x<|.ins C dx []) (λv H2=>v=.L'/\Q (.ref x) H2) E
def Binds(K:Za)(fd:iL)(ps:Zb)(ds:Zf):Prop :=
 ∀(s:Ww) (us:Zf),K.In s.heap->(us++ds).length=ps.length->oP s fd ⟨us,[]⟩ (ps.zip<|us++ds)
theorem Binds.all{K:Za}(h:∀a:List Wx,a.length=e.length->bindArgs f ⟨a,[]⟩=pure (e.zip a)):Binds K f e []:=λs a _ g=>by
 rw[eI]at g ⊢;exact .of_eq<|h a g
def pC(CX:HP)(X:Cx)(E:XK):Prop:=∀(J4:Zd) (σ:St) (H:Hp) (s:Ww) (e:Wx) (s':Ww),Inv X J4 σ H s->CX X.stack H s E e s'->X.xe e s'
section
variable{X:Cx}{CX:HP}{k:Nat}{f C:Wv}{fd:iL}{ps:Zb}{sp:Sp}{Ra:List V}{ds:Zf}{E:XK}{x m:WD}{p pos J6:Pos}{e o:WB}{es:List WB}{ta:TE}{t:TA}
theorem DW(F:ju X.prog X.w X.K X.mg X.base CX k f fd ps sp)(j:eG k X.A)(l:Binds X.K fd ps ds)(n:bg Ra ds)(hx:pC CX X E)(I:Inv X g σ H s)(r:bg vs us)(h:sp (vs++Ra) H Q E):wpAny (model X.prog X.w) X.A (call (.ref f) us) (EP X g σ Q) X.xe s:=by
 have i:bg (vs++Ra) (us++ds):=r.append n;have q:(us++ds).length=ps.length:=by rw[<-i.length];exact F.len _ _ _ _ h
 refine j9<|si (F.run X.A X.stack s H ⟨us,[]⟩ (us++ds) (vs++Ra) Q E j I.TN (l s us I.OF q) i h) λr v a=>?_;cases r with
 |error e=>exact hx g σ H s e v I a
 |ok y =>
  cases y with
  |ret u=>exact I.after a
  |next=>exact dU a
  |brk=>exact dU a
  |cont=>exact dU a
theorem K4(F:ju X.prog X.w X.K X.mg X.base CX k f fd ps sp)(j:eG k X.A)(l:Gl X x)(n:X.mg x=pe (.ref f))(u:db X.K (.ref f)=true)(v:Binds X.K fd ps ds)(y:bg Ra ds)(hx:pC CX X E)
  (z:PA X (e::es) t) (a:(x==("__debug__":WD))=false:=by decide) (B:aK (e::es) X.env=(false,eval e X.env)::aK es X.env:=by rfl) (g:(backTo pos<|aK es X.env).any (·.1)=false:=by rfl) :
  PE X (.Call (.Name x p) (e::es) [] pos) (oj sp Ra E t):=by
 intro D s σ H Q I h;refine oO<|jQ I l n ?_ a;refine sh (h₀:=X.base) I.ok.mod.kin u (cQ (z pos D s σ H _ I h) λG J ⟨L,M,i,r,q⟩=>⟨i.OF,?_⟩) B g;exact DW F j v y hx i r q
theorem K0{pl:Sem Bool}(D:PE X o ta)(c:HN X.K C)(n:LA X.K C m f)(F:ju X.prog X.w X.K X.mg X.base CX k f fd ps sp)(G:eG k X.A)(J:Binds X.K fd ps ds)(L:bg Ra ds)(hx:pC CX X E)(M:PA X (e::es) t)
  (g:aK (e::es) X.env=(false,eval e X.env)::aK es X.env:=by rfl) (i:(backTo pos<|aK es X.env).any (·.1)=false:=by rfl)
  (N:eval (.Call (.Attribute o m J6) (e::es) [] pos) X.env=(do
   let v <- eval o X.env
   pQ J6.atName
   let(f,first) <- kr [v] (pM v m pl)
   oM pos f first (backTo pos<|aK (e::es) X.env) (k_ pos<|k9 [] X.env)):=by rfl) :
  PE X (.Call (.Attribute o m J6) (e::es) [] pos) (gy C m sp Ra E ta t):=by
 intro y s σ H Q I h;refine PySem.W.methodCall_KW (pl:=pl) (cQ (D y s σ H _ I h) λu O j=>?_) N;let⟨x,T,z,U,a,dx,fs,ex,Y,l,q⟩:=j;subst ex;obtain rfl:u=Value.ref a:=U;refine v7 z Y c n l ?_;refine sh (first:=[.ref a]) (h₀:=X.base) I.ok.mod.kin n.kp (cQ (M pos y O σ T _ z q) λus s2 ⟨vs,H2,B,r,q2⟩=>⟨B.OF,?_⟩) g i
 exact DW (us:=.ref a::us) (vs:=.ref a::vs) F G J L hx B (.cons rfl r) q2
theorem Je{pl:Sem Bool}(r:PE X o ta)(c:HN X.K C)(j:LA X.K C m f)(F:ju X.prog X.w X.K X.mg X.base CX k f fd ps sp)(v:eG k X.A)(y:Binds X.K fd ps ds)(z:bg Ra ds)(hx:pC CX X E)
  (B:eval (.Call (.Attribute o m J6) [] [] pos) X.env=(do
   let n <- eval o X.env
   pQ J6.atName
   let(f,first) <- kr [n] (pM n m pl)
   oM pos f first (backTo pos<|aK [] X.env) (k_ pos<|k9 [] X.env)):=by rfl) :
  PE X (.Call (.Attribute o m J6) [] [] pos) (gy C m sp Ra E ta bx):=by
 intro D s σ H Q I h;refine PySem.W.methodCall_KW (pl:=pl) (cQ (r D s σ H _ I h) λu L g=>?_) B;let⟨x,M,i,G,a,N,fs,ex,J,l,q⟩:=g;subst ex;obtain rfl:u=Value.ref a:=G;refine v7 i J c j l ?_;exact PySem.W.callWith_K0 (first:=[.ref a]) i.OF j.kp<|DW (us:=[.ref a]) (vs:=[.ref a]) F v y z hx i (.cons rfl .nil) q
structure Mk(K:Za)(C f:Wv):Prop where
 makes:Bn K C=true
 init:aF K (.ref C) "__init__"=pe (pe (.ref f))
 fn:tG K (.ref f)=true
 kp:db K (.ref C)=true
theorem Iz(M:Mk X.K C f)(F:ju X.prog X.w X.K X.mg X.base CX k f fd ps sp)(z:eG (k+1) X.A)(B:Binds X.K fd ps ds)(D:bg Ra ds)(hx:pC CX X E)(I:Inv X l σ H s)(r:bg n g)(h:∀x i,H x=none->H i=none->i≠x->sp (.ref x::(n++Ra)) (upd (upd H i<|.own x) x<|.ins C i []) (λv G=>v=.L'/\Q (.ref x) G) E) :
  wpAny (model X.prog X.w) X.A (call (.ref C) g) (EP X l σ Q) X.xe s:=by
 have q:=h (↑s+1) ↑s (I.A0.fresh<|iG _) (I.A0.fresh<|aB _)<|cG<|Bm _;have j:=Inv.made (C:=C) I;have y:bg (V.ref (↑s+1)::(n++Ra)) (Value.ref (↑s+1)::(g++ds)):=.cons rfl<|r.append D;have J:(Value.ref (↑s+1)::g++ds).length=ps.length:=by
  have e:=y.length;rw[F.len _ _ _ _ q]at e;exact e.symm
 refine j9 (Jq (f:=f) I.OF M.makes M.init (beq_iff_eq.mp M.fn) (si (F.run _ X.stack _ _ ⟨Value.ref (↑s+1)::g,[]⟩ (Value.ref (↑s+1)::(g++ds)) _ _ E (z.make C g [])
  (j.TN.make C g []) (B _ (Value.ref (↑s+1)::g) j.OF J) y q) λr L a=>?_))
 cases r with
 |error e=>exact hx l σ _ _ e L j a
 |ok N =>
  cases N with
  |ret u =>
   let⟨v,O,T,U,Y,q3⟩:=j.after a;subst Y;exact⟨U,⟨V.ref<|↑s+1,O,T,pw,q3⟩⟩
  |next=>exact dU a
  |brk=>exact dU a
  |cont=>exact dU a
theorem K1(M:Mk X.K C f)(F:ju X.prog X.w X.K X.mg X.base CX k f fd ps sp)(j:eG (k+1) X.A)(l:Gl X x)(n:X.mg x=pe (.ref C))(u:Binds X.K fd ps ds)(v:bg Ra ds)(hx:pC CX X E)
  (y:PA X (e::es) t) (a:(x==("__debug__":WD))=false:=by decide) (z:aK (e::es) X.env=(false,eval e X.env)::aK es X.env:=by rfl) (g:(backTo pos<|aK es X.env).any (·.1)=false:=by rfl) :
  PE X (.Call (.Name x p) (e::es) [] pos) (Io C sp Ra E t):=by
 intro B s σ H Q I h;refine oO<|jQ I l n ?_ a;refine sh (h₀:=X.base) I.ok.mod.kin M.kp (cQ (y pos B s σ H _ I h) λD G ⟨J,L,i,r,q⟩=>⟨i.OF,?_⟩) z g;exact Iz M F j u v hx i r q
end
structure iw(N P:Zb)(sc:Scope):Prop where
 kind:sc.kind=.function
 co:sc.isCoroutine=false
 gen:sc.isGenerator=false
 nd:N.Nodup
 pre:N.take P.length=P
 par:∀x∈P,sc.names.lookup x=pe .local∨sc.names.lookup x=pe .cell
 Uc:∀y∈sc.names,y.2≠.free
theorem yR{kindOf:WD->Option h_}{x:WD}:∀{binds:List (WD×Wx)}{m:WD->Option Wx},(∀v,(x,v)∉binds)->bindL kindOf binds m x=m x
 |[],_,_=>rfl
 | (n,v)::r,m,h=>by
  unfold bindL;rw[yR λw a=>h w<|de _ a];split
  .have:x≠n:=by rintro rfl;exact h v cF
   simp[this]
  .rfl
theorem yT{kindOf:WD->Option h_}{x:WD}:∀{binds:List (WD×Wx)}{m:WD->Option Wx},(∀v,(x,v)∉binds)->bindC kindOf binds m x=m x
 |[],_,_=>rfl
 | (n,v)::r,m,h=>by
  unfold bindC;rw[yT λw a=>h w<|de _ a];split
  .rfl
  .have:x≠n:=by rintro rfl;exact h v cF
   simp[this]
theorem yS{kindOf:WD->Option h_}{x:WD}{v:Wx}:∀{P:Zb}{a:Zf}{i:Nat}{m:WD->Option Wx},P.Nodup->P[i]?=pe x->a[i]?=pe v->kindOf x=pe .local ->
  bindL kindOf (P.zip a) m x=pe v
 |[],_,_,_,_,h,_,_=>by simp at h
 |_::_,[],_,_,_,_,h,_=>by simp at h
 |p::P,w::a,0,m,g,e,f,j=>by
  simp at e f;subst e;subst f;show bindL kindOf ((p,w)::P.zip a) m p=_;unfold bindL;rw[yR λv k=>(j8.mp g).1 (List.of_mem_zip k).1,if_pos j];simp
 |p::P,w::a,i+1,m,g,e,f,j=>by
  show bindL kindOf ((p,w)::P.zip a) m x=_;unfold bindL;exact yS (i:=i) (j8.mp g).2 (by simpa using e) (by simpa using f) j
theorem yU{kindOf:WD->Option h_}{x:WD}{v:Wx}:∀{P:Zb}{a:Zf}{i:Nat}{m:WD->Option Wx},P.Nodup->P[i]?=pe x->a[i]?=pe v->kindOf x≠pe .local ->
  bindC kindOf (P.zip a) m x=pe v
 |[],_,_,_,_,h,_,_=>by simp at h
 |_::_,[],_,_,_,_,h,_=>by simp at h
 |p::P,w::a,0,m,g,e,f,j=>by
  simp at e f;subst e;subst f;show bindC kindOf ((p,w)::P.zip a) m p=_;unfold bindC;rw[yT λv k=>(j8.mp g).1 (List.of_mem_zip k).1,if_neg j];simp
 |p::P,w::a,i+1,m,g,e,f,j=>by
  show bindC kindOf ((p,w)::P.zip a) m x=_;unfold bindC;exact yU (i:=i) (j8.mp g).2 (by simpa using e) (by simpa using f) j
def start(N:Zb)(vs:List V):St:=vs.map pe++eM (N.length-vs.length) none
def xD(CX:HP)(P:bI)(w:Wy)(K:Za)(mg:WD->Option Wx)(base:WA)(N:Zb)(qual:WD)(scope:Scope)(f:Wv)(cd:Wx)(A:Wz)(outer:List Env)(s:Ww)(H:Hp)(E:XK):Cx where
 prog:=P
 w:=w
 K:=K
 mg:=mg
 base:=base
 A:=A.deeper<|envOfC qual scope ↑s f cd
 N:=N
 s₀:=s
 H₀:=H
 env:=envOfC qual scope ↑s f cd
 outer:=outer
 stack:=envOfC qual scope ↑s f cd::outer
 ex:=[]
 calm:=true
 fn:=λ_=>true
 pn:=[]
 xe:=λe s'=>wpAny (model P w) (A.deeper<|envOfC qual scope ↑s f cd) (leaving (envOfC qual scope ↑s f cd) e) (λ_ UO=>CX outer H s E e UO) (λe' UO=>CX outer H s E e' UO) s'
theorem CU{a:Scope}(h:a.names.lookup x=pe .cell):∃c,(cellsFrom n a.names []).lookup x=pe c:=by
 have q:=PySem.W.cellsFrom_some a.names n []<|.inl h;exact vj.mp q
theorem Hm{K:Za}(S:iw N m scope)(Q:A.handled=none)(l:EZ P w K G base A outer s H)(hl:o.length=m.length)(r:bg o I)(x:InCallC s ↑s (bindL (envOfC g scope ↑s f cd).kindOf (m.zip I) λ_=>none) (cellsFrom (↑s+1) scope.names []) (bindC (envOfC g scope ↑s f cd).kindOf (m.zip I) λ_=>none) L) :
  Inv (xD J P w K G base N g scope f cd A outer s H E) [] (start N o) H L:=by
 have T:m.length<=N.length:=by have:=congrArg List.length S.pre;rw[aP]at this;nofun
 let⟨D,tk,rfl,M⟩:=x.done;have t:∀b:Wv,b∉(xD J P w K G base N g scope f cd A outer s H E).ex:=λb z=>absurd (show b∈([]:Ze)from z) ∅;apply⟨⟨l.mod,S.kind,pw,pw,aB _,λy z c D j=>?_,λy hy=>?_,λy c _ h=>?_,λ_=>Q,Around.frames_deeper l.frames,.inr ⟨pw,pw⟩,λb z=>absurd z<|t b,l.bs,l.Tw,λb _ _=>t b,λb z=>absurd z<|t b,l.P7,l.TF⟩,
  rfl,l.bare,Un.kept M,⟨_,x.toInCall.ns,λi y v D j h3=>?_⟩,λy c h=>⟨_,x.cell y c h⟩,l.A0.fresh<|aB _,λy c h=>?_,λp B=>absurd (show p∈([]:Zd)from B) ∅,l.A0.kept M,?_⟩
 .exact name_of_addr x.apart (r_ D)<|r_ j
 .have hy:scope.names.lookup y=pe .cell∨scope.names.lookup y=pe .free:=hy;obtain hy|hy:=hy
  .exact CU hy
  .exact absurd rfl<|S.Uc _<|r_ hy
 .exact eo<|x.above y c<|r_ h
 .have hi:i<o.length:=by
   unfold start at j;by_cases hi:i<o.length
   .exact hi
   .rw[iF (by simpa using hi)]at j;rw[List.getElem?_replicate]at j;split at j<;>cases j
  have U:o[i]?=pe v:=by
   unfold start at j;rw[vi (by simpa using hi),eL]at j;cases e:o[i]? with
   |none=>rw[e]at j;cases j
   |some a=>rw[e]at j;cases j;rfl
  let⟨u,O,Y⟩:=r.get U;have B:m[i]?=pe y:=by
   rw[<-S.pre,List.getElem?_take_of_lt ⋯];exact D
  have C:m.Nodup:=by rw[<-S.pre];exact S.nd.sublist<|List.take_sublist _ _
  apply⟨u,Y,?_⟩;obtain k|k:=S.par y (cH B)
  .exact .inl ⟨k,yS C B O k⟩
  .obtain⟨c,e⟩:=CU (n:=↑s+1) k;refine .inr ⟨.inl k,c,e,?_⟩;have q:=x.cell y c e;rw[yU C B O (by show scope.names.lookup y≠_;rw[k];decide)]at q;exact q
 .exact l.A0.fresh<|eo<|x.above y c<|r_ h
 .unfold start;show _=N.length;rw[aH,am,dh];nofun
theorem L_{D:HP}{P:bI}{w:Wy}{K:Za}{G:WD->Option Wx}{base:WA}{k:Nat}{f:Wv}{name a:WD}{params:Arguments}{h:List WC}{scope:Scope}{dV kV doc pm g ct oc:Wx}{an od:Option Wv}
  {L:Array (Option Wx)}{N ps:Zb}{M:Sp}(lk:K.lookup f=pe ⟨oc,od,.func<|jb name a params h scope dV kV doc pm an g ct,L⟩) (O:oK K g a=true) (S:iw N ps scope)
  (len:∀i H Q E,M i H Q E->i.length=ps.length)
  (j:∀(A:Wz) (outer:List Env) (s:Ww) (H:Hp) (i:List V) (Q:VK) (E:XK),eG k (A.deeper<|envOfC a scope ↑s f g)->M i H Q E ->
   ∃t,A9 (xD D P w K G base N a scope f g A outer s H E) h t/\t (bH Q) (start N i) H) :
  ju P w K G base D (k+1) f (jb name a params h scope dV kV doc pm an g ct) ps M:=by
 apply⟨len,λA outer s H args us i Q E T z hb r B=>?_⟩;have hl:=len _ _ _ _ B;have KX:K.In s.heap:=z.mod.kin.keeps λb o e=>(z.bs b o e).1;have U:s.heap.NoLimit:=z.mod.nolimit.keeps λb o e=>(z.bs b o e).1;have l:∀y∈ps.zip us,scope.names.lookup y.1=pe .local∨(scope.names.lookup y.1=pe .cell/\((cellsFrom (↑s+1) scope.names []).lookup y.1).isSome=true):=λ⟨n,v⟩ hy=>by
  obtain q|q:=S.par n (List.of_mem_zip hy).1
  .exact .inl q
  .exact .inr ⟨q,PySem.W.cellsFrom_some _ _ _<|.inl q⟩
 refine codeAny_call_function T.depth (KX _ _ lk) rfl S.co S.gen rfl (PySem.W.codeRec_of KX O)<|hb _ _ _ _ ?_;refine wpAny_newFunctionEnv_cells S.kind l λab he s1 x=>?_;subst he;apply⟨U.keeps x.toInCall.keep,codeAny_func ?_⟩;let⟨t,ht,hq⟩:=j A outer s H i Q E (T.deeper _) B;have I:Inv (xD D P w K G base N a scope f g A outer s H E) [] (start N i) H s1:=Hm S T.hd z hl r x;refine c6 (ht [] s1 (start N i) H _ I hq) (λfl Y m=>?_) λe Y m=>m;have C:∀{σ':St}{p:Hp}{v:V}{u:Wx},Inv (xD D P w K G base N a scope f g A outer s H E) [] σ' p Y->RelV v u->Q v p->CE outer P w K H s Q u Y :=
  fun{σ' p v u} J rv q=>⟨v,p,J.os,J.bare,J.base,J.A0,rv,q⟩
 cases fl with
 |ret u =>
  obtain⟨v,σ',p,J,rv,q⟩:=m;exact C J rv q
 |next =>
  obtain⟨σ',p,J,q⟩:=m;exact C (v:=V.L') (u:=Value.none) J rfl q
 |brk =>
  let⟨_,_,_,q⟩:=m;exact dU q
 |cont =>
  let⟨_,_,_,q⟩:=m;exact dU q
end L2
namespace L2
open PySem Spec PyProof.Rows
section
variable{X:Cx}{x:WD}{p pos:Pos}{e:WB}{es:List WB}{t:TA}{id T:String}{r:List V->Hp->VK->Prop}
def dj(r:List V->Hp->VK->Prop)(t:TA):TE:=fun σ H Q=>t σ H λvs H1=>r vs H1 Q
theorem Ch(i:fB X (.builtin id) r)(j:Gl X x)(k:X.mg x=none)(l:iM x=pe (.builtin id))(m:PA X (e::es) t)(n:x≠"__name__":=by decide)(a:(x==("__debug__":WD))=false:=by decide)
  (o:aK (e::es) X.env=(false,eval e X.env)::aK es X.env:=by rfl) (f:(backTo pos<|aK es X.env).any (·.1)=false:=by rfl):PE X (.Call (.Name x p) (e::es) [] pos) (dj r t):=by
 intro g s σ H Q I h;refine oO<|pd I j k l ?_ n a;exact PyProof.Rows.callWith_builtin1 (cQ (m pos g s σ H _ I h) λq u ⟨v,w,y,z,A⟩=>i g u σ w v q Q y z A) o f
theorem kI(i:fB X (.type T) r)(j:Gl X x)(k:X.mg x=none)(l:iM x=pe (.type T))(m:PA X (e::es) t)(n:x≠"__name__":=by decide)(a:(x==("__debug__":WD))=false:=by decide)
  (o:aK (e::es) X.env=(false,eval e X.env)::aK es X.env:=by rfl) (f:(backTo pos<|aK es X.env).any (·.1)=false:=by rfl):PE X (.Call (.Name x p) (e::es) [] pos) (dj r t):=by
 intro g s σ H Q I h;refine oO<|pd I j k l ?_ n a;exact Br (cQ (m pos g s σ H _ I h) λq u ⟨v,w,y,z,A⟩=>i g u σ w v q Q y z A) o f
end
end L2
namespace HT
open PySem PyProof.Rows
section
variable{prog:bI}{w:Wy}{A:Wz}{E:Zc}{s:Ww}
theorem TQ(z:IsTup s.heap t g.toArray)(B:IsTup s.heap b a.toArray)(p:g≠[])(C:a=[]->Q (.ref t) s)(D:a≠[]->Q (.ref ↑s) {s with heap:=s.heap.push { cls:=.type "tuple",data:=.seq (g++a).toArray}})(o:g.length+a.length<=ai):wpAny (model prog w) A (lU .Add (.ref t)<|.ref b) Q E s:=by
 let⟨⟨cls,q,data,r⟩,l,u,n,v⟩:=id z;let⟨⟨x,h,data2,i⟩,f,j,y,k⟩:=id B;simp only at u v j k;subst u v j k;have e:g.toArray++a.toArray=(g++a).toArray:=by simp
 by_cases m:a=[]
 .exact concat_meets ⟨_,l,pw⟩ ⟨_,f,pw⟩ noFill_tuple_add seq_tuple_add PySem.F.slot_tuple_add PySem.F.entry_tuple_add (PySem.F.args_tuple_add_2 _ _)
   (tuple_addW1 t b g.toArray a.toArray n y q h r i (by simpa using p) (by simp[m])) ⟨l,f,C m⟩
 .refine concat_meets ⟨_,l,pw⟩ ⟨_,f,pw⟩ noFill_tuple_add seq_tuple_add PySem.F.slot_tuple_add PySem.F.entry_tuple_add (PySem.F.args_tuple_add_2 _ _)
   (tuple_addW2 t b g.toArray a.toArray n y q h r i (by simpa using p) (by simpa using m) (by rw[bM,bM];exact o)) ⟨l,f,?_⟩
  rw[e];exact D m
def Hx(n d:Nat):Option Int->Nat
 |none=>d
 |some v=>if v<0 then(v+(n:Int)).toNat else min v.toNat n
theorem O4(n d:Nat):Hx n d none=d:=rfl
theorem Ow(n d k:Nat):Hx n d (pe (k:Int))=min k n:=by
 show(if(k:Int)<0 then((k:Int)+(n:Int)).toNat else min (k:Int).toNat n)=min k n
 rw[if_neg ⋯,r9]
theorem R3(n d:Nat)(e:d<=n)(o:Option Int):Hx n d o<=n:=by
 cases o with
 |none=>exact e
 |some v =>
  show(if v<0 then(v+(n:Int)).toNat else min v.toNat n)<=n
  by_cases a:v<0
  .rw[if_pos a];nofun
  .rw[if_neg a];exact Nat.min_le_right _ _
theorem Rv(v:Int)(n d:Nat):(if v<0 then max (v+(n:Int)) 0 else min v (n:Int))=((Hx n d (pe v):Nat):Int):=by
 show(if v<0 then max (v+(n:Int)) 0 else min v (n:Int))=(((if v<0 then(v+(n:Int)).toNat else min v.toNat n):Nat):Int)
 by_cases a:v<0
 .simp only[if_pos a];nofun
 .simp only[if_neg a];nofun
theorem Sf(lo hi:Option Int)(n:Nat):bW.Slice.sliceAdjust lo hi 1 (n:Int)=(((Hx n 0 lo:Nat):Int),((Hx n n hi:Nat):Int)):=by
 have a:¬((1:Int)<0):=by nofun
 unfold bW.Slice.sliceAdjust;simp only[a,if_false];refine Prod.ext ?_ ?_
 .cases lo with
  |none=>rfl
  |some v=>exact Rv v n 0
 .cases hi with
  |none=>rfl
  |some v=>exact Rv v n n
theorem R4(i j:Nat):zT (i:Int) (j:Int) 1=j-i:=by
 unfold zT;have a:(1:Int) > 0:=by nofun
 simp only[a,if_true,Int.ediv_one];split<;>nofun
theorem QI(p:IsPart v o)(h:Q o s):wpAny (model prog w) A (bW.Slice.slicePartIndex v) Q E s:=by
 cases p with
 |none=>exact slicePart_none h
 |int i t=>exact slicePart_int h
theorem O3{i:Wv}{f g:Wx}{lo hi:Option Int}{n:Nat}{Q:Int×Int×Nat->Ww->Prop}(j:s.heap.IsSliceOf i f g .none)(k:IsPart f lo)(l:IsPart g hi)
  (h:Q (((Hx n 0 lo:Nat):Int),1,Hx n n hi-Hx n 0 lo) s):wpAny (model prog w) A (bW.Slice.sliceApplied (.ref i)<|pure (n:Int)) Q E s:=by
 let⟨os,a,m,e⟩:=id j;unfold bW.Slice.sliceApplied bW.Slice.sliceFields;refine ap<|ap<|c7 a e (x:=f) rfl<|ap<|c7 a e (x:=g) rfl<|ap<|c7 a e (x:=.none) rfl<|aR ?_;refine ap<|slicePart_none ?_;show wpAny _ _ (if((1:Int)==0)=true then _ else _) _ _ s
 rw[if_neg WE];refine ap<|QI k<|ap<|QI l<|ap<|aR ?_;show wpAny _ _ (match bW.Slice.sliceAdjust lo hi 1 (n:Int)with|(lo,hi)=>pure (lo,(1:Int),zT lo hi 1)) _ _ s
 rw[Sf lo hi n];show wpAny _ _ (pure (((Hx n 0 lo:Nat):Int),(1:Int),zT ((Hx n 0 lo:Nat):Int) ((Hx n n hi:Nat):Int) 1)) _ _ s;rw[R4];exact aR h
theorem SY(xs:Array Wx)(i k:Nat):((kA k).filterMap λ(m:Nat)=>xs[((i:Int)+(m:Int) * 1).toNat]?).toArray=((xs.toList.drop i).take k).toArray:=by
 have e:(λ(m:Nat)=>xs[((i:Int)+(m:Int) * 1).toNat]?)=λm=>xs[i+m]?:=by
  funext m;have:((i:Int)+(m:Int) * 1).toNat=i+m:=by nofun
  rw[this]
 rw[e];have:=pick_run xs i k;rw[List.filterMap_map]at this;have a:((λx=>xs[x]?) ∘ λx=>i+x)=λm=>xs[i+m]?:=rfl;rw[a]at this;rw[this]
theorem P5{t f:Wv}{items:Array Wx}{l n:Wx}{lo hi:Option Int}{Q:Zc}(e:IsTup s.heap t items)(o:s.heap.IsSliceOf f l n .none)(p:IsPart l lo)(r:IsPart n hi)
  (u:¬(Hx items.size 0 lo=0/\Hx items.size items.size hi=items.size))
  (h:Q (.ref ↑s) {s with heap:=s.heap.push { cls:=.type "tuple",data:=.seq ((items.toList.drop<|Hx items.size 0 lo).take<|Hx items.size items.size hi-Hx items.size 0 lo).toArray}})
  (v:items.size<=ai):wpAny (model prog w) A (i_ (.ref t)<|.ref f) Q E s:=by
 have a:sizeOk (.seq ((items.toList.drop<|Hx items.size 0 lo).take<|Hx items.size items.size hi-Hx items.size 0 lo).toArray):=by
  show((items.toList.drop<|Hx items.size 0 lo).take<|Hx items.size items.size hi-Hx items.size 0 lo).toArray.size<=ai;rw[bM,aP,d_,pP];nofun
 have y:Hx items.size items.size hi<=items.size:=R3 _ _ (aB _) hi;let⟨os,g,i,x⟩:=id o;have j:s.TypeIs (.ref f) "slice":=⟨os,g,i⟩;unfold i_
 try with_reducible refine iN ?_
 first|refine ap (aR ?_)|skip
 refine ap (wpAny_sequenceKey e.typeIs WE ?_);refine ap (r8 (name:=rZ "__getitem__") e.typeIs rY
  (Bp rY e.typeIs entry_tuple_getitem ?_<|args_tuple_getitem _ _))
 show wpAny _ _ (bW.Tuple.tupleItemsOf (.ref t) >>= _) _ _ s;refine ap<|tupleItemsOf_ e ?_;refine ap<|rX j ?_;rw[if_pos WE];refine ap<|O3 o p r ?_;have k:¬((((Hx items.size 0 lo:Nat):Int)==0 && (1:Int)==1 && (Hx items.size items.size hi-Hx items.size 0 lo)==items.size)=true):=by
  intro q;rw[oJ,oJ]at q;have z:((Hx items.size 0 lo:Nat):Int)=0:=eq_of_beq q.1.1;have B:Hx items.size items.size hi-Hx items.size 0 lo=items.size:=eq_of_beq q.2;exact u ⟨by nofun,by nofun⟩
 show wpAny _ _ (if(((Hx items.size 0 lo:Nat):Int)==0 && (1:Int)==1 && (Hx items.size items.size hi-Hx items.size 0 lo)==items.size)=true then _ else _) _ _ s
 rw[if_neg k,SY]
 first
  |exact ap (m:=zS _)<|ml (aR ⟨_,pw,aR h⟩) a
  |exact ap (m:=zS _)<|ml (ap<|aR<|aR ⟨_,pw,aR h⟩) a
  |exact ap<|ap (m:=zS _)<|ml (aR<|aR ⟨_,pw,aR h⟩) a
  |exact ap<|ap (m:=zS _)<|ml (aR ⟨_,pw,aR h⟩) a
end
end HT
namespace L2
open PySem Spec PyProof.Rows
abbrev TO:=St->Hp->(Option Int->Hp->Prop)->Prop
def PO(X:Cx)(e:Option WB)(t:TO):Prop :=
 ∀(J4:Zd) (s:Ww) (σ:St) (H:Hp) (Q:Option Int->Hp->Prop),Inv X J4 σ H s->t σ H Q ->
  wpAny (model X.prog X.w) X.A (evalPart e X.env) (λu s'=>∃o H',Inv X J4 σ H' s'/\IsPart u o/\Q o H') X.xe s
def fE:TO:=λ_ H Q=>Q none H
def gL(t:TE):TO:=fun σ H Q=>t σ H λx H1=>∃i,x=.int i/\Q (pe i) H1
section
variable{X:Cx}{e:WB}{te:TE}{lo hi:Option WB}{tl th:TO}{pos p2:Pos}
theorem fZ:PO X none fE:=by
 intro a s σ H Q I h;rw[evalPart_none];exact aR ⟨none,H,I,.none,h⟩
theorem dB(h:PE X e te):PO X (pe e) (gL te):=by
 intro f s σ H Q I g;rw[evalPart_some];refine cQ (h f s σ H _ I g) λu n a=>?_;let⟨x,j,k,l,m⟩:=a;let⟨i,rfl,q⟩:=m;let⟨t,rfl⟩:=l;exact⟨pe i,j,k,.int i t,q⟩
def JZ(X:Cx)(r:V->Option Int->Option Int->Hp->VK->Prop):Prop :=
 ∀(J4:Zd) (s:Ww) (σ:St) (H:Hp) (x:V) (v vl vu:Wx) (lo hi:Option Int) (sl:Wv) (Q:VK),Inv X J4 σ H s->RelV x v->s.heap.IsSliceOf sl vl vu .none->IsPart vl lo->IsPart vu hi->r x lo hi H Q ->
  ∃T id,k7 (.type T) "__getitem__"=pure (pe<|.builtin id)/\s.TypeIs v T/\wpAny (model X.prog X.w) X.A (i_ v<|.ref sl) (EP X J4 σ Q) X.xe s
theorem JZ.or(h:JZ X r)(o:JZ X a):JZ X (λx lo hi H Q=>r x lo hi H Q∨a x lo hi H Q):=by
 intro f s σ H x v g i lo hi j Q I k l m n q;obtain q|q:=q
 .exact h f s σ H x v g i lo hi j Q I k l m n q
 .exact o f s σ H x v g i lo hi j Q I k l m n q
def Di(r:V->Option Int->Option Int->Hp->VK->Prop)(te:TE)(tl th:TO):TE:=fun σ H Q=>te σ H λx H1=>tl σ H1 λl H2=>th σ H2 λu H3=>r x l u H3 Q
theorem du(m:JZ X r)(n:PE X e te)(o:PO X lo tl)(p:PO X hi th):PE X (.Subscript e (.Slice lo hi none p2) pos) (Di r te tl th):=by
 intro g s σ H Q I h;refine zR<|cQ (n g s σ H _ I h) λv t f=>?_;let⟨x,y,z,B,C⟩:=f;refine wpAny_Slice<|cQ (o g t σ y _ z C) λi D ⟨l,E,G,J,L⟩=>cQ (p g D σ E _ G L) λj a f=>?_;let⟨u,k,M,N,O⟩:=f;rw[evalPart_none];refine aR ?_;have U:Inv X g σ k {a with heap:=a.heap.push { cls:=.type "slice",data:=.fields #[i,j,.none]}}:=M.kept (t':=a.toks) λb ob q=>bc _ q;let⟨T,id,Y,ht,hg⟩:=m g {a with heap:=a.heap.push { cls:=.type "slice",data:=.fields #[i,j,.none]}} σ k x v i j l u ↑a Q U B (Heap.IsSliceOf.new ..) J N O;show wpAny (model X.prog X.w) X.A (zQ e (.Slice lo hi none p2) v<|.ref ↑a) (EP X g σ Q) X.xe {a with heap:=a.heap.push { cls:=.type "slice",data:=.fields #[i,j,.none]}};exact tail_any (ops:=[.ref ↑a,v]) ht Y hg (by with_unfolding_all rfl)
def fQ(xs:List V)(lo hi:Option Int):List V:=(xs.drop<|HT.Hx xs.length 0 lo).take<|HT.Hx xs.length xs.length hi-HT.Hx xs.length 0 lo
theorem tV(xs:List V)(lo hi:Option Int):(fQ xs lo hi).length<=xs.length:=by
 unfold fQ;rw[aP,d_];nofun
def NC(K:Za):V->Option Int->Option Int->Hp->VK->Prop:=λx lo hi H Q=>∃a xs,x=.ref a/\bj K H a xs /\
 ¬(HT.Hx xs.length 0 lo=0/\HT.Hx xs.length xs.length hi=xs.length)/\∀p,H p=none->Q (.ref p) (upd H p<|.tup<|fQ xs lo hi)
theorem Mu:JZ X (NC X.K):=by
 intro t s σ H x v u w lo hi y Q I k l m n h;let⟨a,xs,rfl,hx,p,q⟩:=h;cases k;let⟨g,r,i,j⟩:=I.tuple hx;have f:g.toArray.size=xs.length:=by rw[bM];exact r.length.symm
 apply⟨"tuple",_,rY.lookup,i.typeIs,?_⟩;refine HT.P5 i l m n (by rw[f];exact p) ?_ (by rw[f];exact j);rw[f];apply⟨.ref ↑s,_,I.laid (t':=s.toks) (o:=.tup<|fQ xs lo hi) (λb z q=>bc _ q) (aB _) ?_,pw,q _<|I.A0.fresh<|aB _⟩;exact⟨bh (tV xs lo hi) j,_,(r.drop<|HT.Hx xs.length 0 lo).take<|HT.Hx xs.length xs.length hi-HT.Hx xs.length 0 lo,IsTup.new _ _⟩
def IV(K:Za):R2:=λx y H Q=>∃a b xs ys,x=.ref a/\y=.ref b/\bj K H a xs/\bj K H b ys/\xs≠[]/\xs.length+ys.length<=ai /\
 (ys=[]->Q (.ref a) H)/\(ys≠[]->∀p,H p=none->Q (.ref p) (upd H p<|.tup<|xs++ys))
theorem bg.Qy(r:bg xs a):a=[]↔xs=[]:=by
 cases r with
 |nil=>simp
 |cons _ _=>simp
theorem FM:oq X (lU .Add) (IV X.K):=by
 intro C s σ H x y v u Q I k l h;let⟨a,b,xs,m,rfl,rfl,n,p,hx,i,r,t⟩:=h;cases k;cases l;let⟨A,g,B,_⟩:=I.tuple n;let⟨j,f,p2,_⟩:=I.tuple p;refine HT.TQ B p2 (λz=>hx<|g.Qy.mp z) (λz=>⟨.ref a,H,I,pw,r<|f.Qy.mp z⟩) (λz=>?_) (by rw[<-g.length,<-f.length];exact i);apply⟨.ref ↑s,_,I.laid (t':=s.toks) (o:=.tup<|xs++m) (λb D q=>bc _ q) (aB _) ?_,pw,t (λw=>z<|f.Qy.mpr w) _<|I.A0.fresh<|aB _⟩;exact⟨by rw[aH];exact i,_,g.append f,IsTup.new _ _⟩
end
end L2
namespace L2
open PySem Spec PyProof.Rows
def HS(n:Nat)(i:Int):Option Nat:=if 0<=i then(if i<n then pe i.toNat else none)else if -(n:Int)<=i then pe (i+n).toNat else none
def A5{α:Type}(xs:List α)(i:Int):Option α:=(HS xs.length i).bind λj=>xs[j]?
theorem AK(h:HS n i=pe j):zP i n=pe j/\j<n/\-(n:Int)<=i/\i<n:=by
 unfold HS at h;by_cases f:0<=i
 .rw[if_pos f]at h;by_cases a:i<n
  .rw[if_pos a]at h;have e:i.toNat=j:=ff h;exact⟨by rw[seqIndex_of f a,e],by nofun,by nofun,a⟩
  .rw[if_neg a]at h;cases h
 .rw[if_neg f]at h;by_cases a:-(n:Int)<=i
  .rw[if_pos a]at h;have e:(i+n).toNat=j:=ff h;exact⟨by rw[seqIndex_neg ⋯ a,e],by nofun,a,by nofun⟩
  .rw[if_neg a]at h;cases h
theorem A4(h:A5 xs i=pe v):∃j,zP i xs.length=pe j/\xs[j]?=pe v/\j<xs.length/\-(xs.length:Int)<=i/\i<xs.length:=by
 unfold A5 at h;cases e:HS xs.length i with
 |none=>rw[e]at h;cases h
 |some j =>
  rw[e]at h;let⟨a,f,g,k⟩:=AK e;exact⟨j,a,h,f,g,k⟩
theorem bA{α:Type}{xs:List α}{j:Nat}{v:α}(h:xs[j]?=pe v):A5 xs (j:Int)=pe v:=by
 have a:j<xs.length:=(cx.mp h).1;have e:HS xs.length (j:Int)=pe j:=by
  unfold HS;rw[if_pos ⋯,if_pos ⋯];simp
 unfold A5;rw[e];exact h
theorem wz(xs:List α)(v:α):A5 (xs++[v]) (-1)=pe v:=by
 have a:(xs++[v]).length=xs.length+1:=by simp
 have e:HS (xs++[v]).length (-1)=pe xs.length:=by
  unfold HS;rw[a,if_neg WE,if_pos ⋯];congr 1;nofun
 unfold A5;rw[e];show(xs++[v])[xs.length]?=pe v;simp
def Lw(b:WB):Prop:=∀o i,zO b false o i=operate [o,i] (i_ o i)
def LB(X:Cx)(r:R2):Prop :=
 ∀(value slice:WB) (J4:Zd) (s:Ww) (σ:St) (H:Hp) (x y:V) (v u:Wx) (Q:VK),Inv X J4 σ H s->RelV x v->RelV y u->r x y H Q ->
  zO slice false v u=operate [v,u] (i_ v u)->wpAny (model X.prog X.w) X.A (zQ value slice v u) (EP X J4 σ Q) X.xe s
def VR(X:Cx)(id:String)(r:V->List V->Hp->VK->Prop):Prop :=
 ∀(J4:Zd) (s:Ww) (σ:St) (H:Hp) (x:V) (xs:List V) (v:Wx) (us:Zf) (Q:VK),Inv X J4 σ H s->RelV x v->bg xs us->r x xs H Q ->
  wpAny (model X.prog X.w) X.A (call (.builtin id)<|v::us) (EP X J4 σ Q) X.xe s
section
variable{X:Cx}{a b:WB}{ta tb:TE}{pos:Pos}
theorem LB.or(h:LB X r)(k:LB X e):LB X (λx y H Q=>r x y H Q∨e x y H Q):=by
 intro value slice f s σ H x y v u Q I g i q j;obtain q|q:=q
 .exact h value slice f s σ H x y v u Q I g i q j
 .exact k value slice f s σ H x y v u Q I g i q j
theorem FI(e:LB X r)(f:PE X a ta)(g:PE X b tb)(i:Lw b):PE X (.Subscript a b pos) (aD r ta tb):=by
 intro j s σ H Q I h;exact zR<|M0 f g I h λv u k x y l m n o q=>e a b j k σ l x y v u Q m n o q<|i _ _
def cg(K:Za):R2:=λx y H Q=>∃p xs i v,x=.ref p/\y=.int i/\aA K H p xs/\A5 xs i=pe v/\Q v H
def cu(K:Za):R2:=λx y H Q=>∃p xs i v,x=.ref p/\y=.int i/\bj K H p xs/\A5 xs i=pe v/\Q v H
def IS:R2:=λx y H Q=>∃z i c,x=.str z/\y=.int i/\z.length<=ai/\A5 z.cps.toList i=pe c/\Q (.str ⟨#[c]⟩) H
theorem FS:LB X (cg X.K):=by
 intro value slice n s σ H x y v u Q I C D h o;let⟨p,xs,i,z,rfl,rfl,E,G,q⟩:=h;cases C;let⟨t,rfl⟩:=D;let⟨g,r,k,T⟩:=I.list E;let⟨j,f,J,U,L,M⟩:=A4 G;let⟨w,A,l⟩:=r.get J;have N:=r.length;have Y:=sR;have e:EP X n σ Q w s:=⟨z,H,I,l,q⟩;by_cases B:0<=i
 .have m:i.toNat=j:=by
   rw[seqIndex_of B M]at f;exact ff f
  exact item_listR k.isList B ⋯ (by rw[m];simpa using A) e o
 .have m:(i+(g.toArray.size:Int)).toNat=j:=by
   rw[seqIndex_neg ⋯ L]at f;rw[bM,<-N];exact ff f
  exact subscriptTail_builtinR (x:=w) k.isList.typeIs slot_list_getitem.lookup
   (wpAny_getItem_list_neg (Q:=λr O=>r=w/\EP X n σ Q r O) k.isList ⋯ (by rw[bM]<;>nofun) ⋯ (by rw[m];simpa using A) ⟨pw,e⟩) o
theorem Jy:LB X (cu X.K):=by
 intro value slice g s σ H x y v u Q I l m h n;let⟨p,xs,i,z,rfl,rfl,o,A,q⟩:=h;cases l;let⟨t,rfl⟩:=m;let⟨B,r,k,L⟩:=I.tuple o;let⟨j,C,D,M,N,O⟩:=A4 A;let⟨w,E,e⟩:=r.get D;have G:=r.length;have T:=sR;have f:EP X g σ Q w s:=⟨z,H,I,e,q⟩;exact subscriptTail_builtinR (x:=w) k.typeIs slot_tuple_getitem.lookup
  (getItem_tuple (j:=j) (Q:=λr J=>r=w/\EP X g σ Q r J) k ⋯ ⋯ (by rw[bM,<-G];exact C) (by simpa using E) ⟨pw,f⟩) n
theorem Jz:LB X IS:=by
 intro value slice A s σ H x y v u Q I f g h k;let⟨z,i,c,rfl,rfl,B,l,q⟩:=h;let⟨t,rfl⟩:=f;let⟨C,rfl⟩:=g;let⟨j,e,m,D,n,o⟩:=A4 l;have p:z.cps.toList.length=z.length:=by simp[Str.length]
 rw[p]at e n o;have E:=sR;exact tail_any (typeIs_str s z t) slot_str_getitem.lookup (getItem_str (c:=c) (by
  have r:decide (i < -(2 ^ 63:Int))=false:=qb ⋯;have w:decide (i ≥ 2 ^ 63)=false:=qb ⋯;rw[r,w,Bool.or_false]) (by rw[e];simpa using m) ⟨.str ⟨#[c]⟩,H,I.tok _,⟨_,pw⟩,q⟩) k
def pK(K:Za):R2:=λx y H Q=>cg K x y H Q∨cu K x y H Q∨IS x y H Q
theorem MR:LB X (pK X.K):=FS.or<|Jy.or Jz
theorem Es(e:Zf)(n j:Nat)(u:Wx):vg (·.setIfInBounds j u) { cls:=.type "list",data:=.seq e.toArray n}={ cls:=.type "list",data:=.seq (e.set j u).toArray n}:=by
 simp[vg]
theorem Inv.lst{g:Zd}{σ:St}{H:Hp}{s:Ww}{p:Wv}{xs:List V}(I:Inv X g σ H s)(h:H p=pe (.lst xs)):
  ∃(f:Zf) (n:Nat),bg xs f/\s.heap.get? p=pe { cls:=.type "list",data:=.seq f.toArray n}/\xs.length<=ai:=by
 let⟨z,f,n,r,e⟩:=I.A0 p _ h;exact⟨f,n,r,e,z⟩
theorem Inv.Ue{i g:Zf}(I:Inv X l σ H s)(h:H p=pe (.lst xs))(m:s.heap.get? p=pe { cls:=.type "list",data:=.seq i.toArray n})(hf:f { cls:=.type "list",data:=.seq i.toArray n}={ cls:=.type "list",data:=.seq g.toArray k})(r:bg j g)(o:j.length<=ai)(t:Nat) :
  Inv X l σ (upd H p<|.lst j) {s with heap:=s.heap.update p f,toks:=t}:=by
 have e:(s.heap.update p f).get? p=pe { cls:=.type "list",data:=.seq g.toArray k}:=by
  rw[k4 f m (by rw[hf]<;>rfl),hf]
 refine I.write (x:=p) (e:=p) (by rw[h];trivial) (.inl rfl) (λb u v q=>(j7 _ _<|dD v).trans q) ⟨_,e⟩ ?_;exact⟨o,g,k,r,e⟩
def tL:V->V->V->Hp->(Hp->Prop)->Prop:=λo i v H Q=>∃p xs k j,o=.ref p/\i=.int k/\H p=pe (.lst xs)/\HS xs.length k=pe j/\Q (upd H p<|.lst<|xs.set j v)
theorem kG:NY X tL:=by
 intro B s σ H o i v L M u Q I C D E h;let⟨p,xs,k,j,rfl,rfl,w,G,q⟩:=h;cases C;let⟨t,rfl⟩:=D;let⟨e,n,r,g,J⟩:=I.lst w;let⟨f,N,x,y⟩:=AK G;have l:=r.length;have O:=sR;have z:Inv X B σ (upd H p<|.lst<|xs.set j v) {s with heap:=s.heap.update p (vg (·.setIfInBounds j u))} :=
  I.Ue w g (Es e n j u) (r.set E j) (by rw[List.length_set];exact J) s.toks
 by_cases A:0<=k
 .have m:k.toNat=j:=by
   rw[seqIndex_of A y]at f;exact ff f
  exact PySem.W.ki_setAt g A ⋯ (by rw[bM,<-l];exact y) (by rw[m];exact⟨_,z,q⟩)
 .have m:(k+(e.toArray.size:Int)).toNat=j:=by
   rw[seqIndex_neg ⋯ x]at f;rw[bM,<-l];exact ff f
  exact PySem.W.ki_setBack g ⋯ (by rw[bM,<-l];exact x) ⋯ (by rw[m];exact⟨_,z,q⟩)
theorem Ap(lo hi:Option Int)(n:Nat):(oH lo hi none n).1=((HT.Hx n 0 lo:Nat):Int)/\(oH lo hi none n).2.1=((HT.Hx n n hi:Nat):Int)/\(oH lo hi none n).2.2=1:=by
 apply⟨?_,?_,pw⟩
 .cases lo with
  |none=>simp[oH,HT.Hx]
  |some i =>
   simp only[oH,HT.Hx,Option.getD_none,show(1:Int) > 0 by decide,if_true];by_cases h:i<0
   .simp only[h,if_true]<;>nofun
   .simp only[h,if_false]<;>nofun
 .cases hi with
  |none=>simp[oH,HT.Hx]
  |some i =>
   simp only[oH,HT.Hx,Option.getD_none,show(1:Int) > 0 by decide,if_true];by_cases h:i<0
   .simp only[h,if_true]<;>nofun
   .simp only[h,if_false]<;>nofun
theorem xr(e:Zf)(lo hi:Option Int):zN e.toArray lo hi none=((e.drop<|HT.Hx e.length 0 lo).take<|HT.Hx e.length e.length hi-HT.Hx e.length 0 lo).toArray:=by
 let⟨f,g,h⟩:=Ap lo hi e.toArray.size;unfold zN;rw[f,g,h];simp only[sliceRange_one,pick_run,bM]<;>rfl
def vN(K:Za):V->Option Int->Option Int->Hp->VK->Prop:=λx lo hi H Q=>∃a xs,x=.ref a/\aA K H a xs/\∀p,H p=none->Q (.ref p) (upd H p<|.lst<|fQ xs lo hi)
theorem iq:JZ X (vN X.K):=by
 intro n s σ H x v p t lo hi u Q I g i j k h;let⟨a,xs,rfl,hx,q⟩:=h;cases g;let⟨l,r,f,m⟩:=I.list hx;have e:=r.length;apply⟨"list",_,slot_list_getitem.lookup,f.isList.typeIs,?_⟩;refine wpAny_getItem_list_slice f.isList i j k .none ∅ ?_ (by rw[bM]<;>nofun);rw[xr,<-e];apply⟨.ref ↑s,_,I.laid (t':=s.toks) (o:=.lst<|fQ xs lo hi) (λb w q=>bc _ q) (aB _) ?_,pw,q _<|I.A0.fresh<|aB _⟩;exact⟨bh (tV xs lo hi) m,_,0,(r.drop<|HT.Hx xs.length 0 lo).take<|HT.Hx xs.length xs.length hi-HT.Hx xs.length 0 lo,dS _ rfl⟩
theorem AY:fB X (.builtin "len") (λxs H Q=>∃p f,xs=[.ref p]/\(aA X.K H p f∨bj X.K H p f)/\Q (.int f.length) H):=by
 intro m s σ H xs n Q I r h;let⟨p,f,rfl,hq,q⟩:=h;let⟨u,rfl,k⟩:=vals1 r;cases k;have o:=sR;obtain hq|hq:=hq
 .obtain⟨g,i,j,l⟩:=I.list hq;have e:=i.length;exact Calls.call_len_list j.isList (by simp only[bM]<;>nofun) ⟨.int f.length,H,I.tok _,⟨s.toks+1,by rw[bM,e]⟩,q⟩
 .obtain⟨g,i,j,l⟩:=I.tuple hq;have e:=i.length;exact len_tuple j (by simp only[bM]<;>nofun) ⟨.int f.length,H,I.tok _,⟨s.toks+1,by rw[bM,e]⟩,q⟩
theorem AX:fB X (.builtin "len") (λxs H Q=>∃z,xs=[.str z]/\z.length<=ai/\Q (.int z.length) H):=by
 intro e s σ H xs f Q I r h;let⟨z,rfl,g,q⟩:=h;let⟨u,rfl,t,rfl⟩:=vals1 r;have i:=sR;exact len_str ⋯ ⟨.int z.length,H,I.tok _,⟨_,pw⟩,q⟩
theorem fB.or(h:fB X f r)(k:fB X f e):fB X f (λxs H Q=>r xs H Q∨e xs H Q):=by
 intro g s σ H xs i Q I j q;obtain q|q:=q
 .exact h g s σ H xs i Q I j q
 .exact k g s σ H xs i Q I j q
theorem AW:fB X (.type "list") (λxs H Q=>∃p i,xs=[.ref p]/\(aA X.K H p i∨bj X.K H p i)/\∀l,H l=none->Q (.ref l) (upd H l<|.lst i)):=by
 intro C s σ H xs E Q I r h;let⟨p,i,rfl,hq,q⟩:=h;let⟨u,rfl,D⟩:=vals1 r;cases D;have m:∀(f:Zf),bg i f->i.length<=ai->∀(g:WA) (j:Nat),(∀b B,s.heap.get? b=pe B->g.get? b=pe B) ->
   g.get? ↑s=pe { cls:=.type "list",dict:=none,data:=.seq f.toArray j,slots:=#[]}->EP X C σ Q (.ref ↑s) {s with heap:=g}:=λf k t g j kp e =>
  ⟨.ref ↑s,_,I.laid (t':=s.toks) kp (aB _)<|show cv X.prog X.w X.K _ g _ (.lst i)from⟨t,f,j,k,e⟩,pw,q _<|I.A0.fresh<|aB _⟩
 obtain hq|hq:=hq
 .obtain⟨f,k,x,t⟩:=I.list hq;have v:=k.length;let⟨o,y,z,n,A⟩:=x.isList;exact call_list_seq p (.inl rfl) y z A (λg j kp e=>m f k t g j kp e) (by simp only[bM]<;>nofun)
 .obtain⟨f,k,x,t⟩:=I.tuple hq;have v:=k.length;let⟨o,y,z,n,A⟩:=x;exact call_list_seq p (.inr rfl) y z A (λg j kp e=>m f k t g j kp e) (by simp only[bM]<;>nofun)
theorem xE:fB X (.type "tuple") (λxs H Q=>∃p g,xs=[.ref p]/\((aA X.K H p g/\∀l,H l=none->Q (.ref l) (upd H l<|.tup g))∨(bj X.K H p g/\Q (.ref p) H))):=by
 intro n s σ H xs A Q I r h;let⟨p,g,rfl,h⟩:=h;let⟨u,rfl,y⟩:=vals1 r;cases y;obtain⟨j,q⟩|⟨j,q⟩:=h
 .obtain⟨f,k,m,t⟩:=I.list j;have v:=k.length;refine call_tuple_list m.isList (λi kp=>?_) (by simp only[bM]<;>nofun);have x:Inv X n σ H {s with heap:=i}:=I.kept (t':=s.toks) kp;have z:Inv X n σ (upd H i.objs.size<|.tup g) {s with heap:=i.push { cls:=.type "tuple",data:=.seq f.toArray}} :=
   x.laid (t':=s.toks) (λb o e=>bc _ e) (aB _) (show cv X.prog X.w X.K _ _ _ (.tup g)from⟨t,f,k,IsTup.new _ _⟩)
  exact⟨.ref i.objs.size,_,z,pw,q _<|x.A0.fresh<|aB _⟩
 .obtain⟨f,k,m,t⟩:=I.tuple j;exact call_tuple_same m ⟨.ref p,H,I,pw,q⟩
def UL(K:Za)(T:String)(x:V)(H:Hp):Prop:=match x with
 |.str _=>T="str"
 |.int _=>T="int"
 |.ref p=>(T="list"/\∃xs,aA K H p xs)∨(T="tuple"/\∃o,K.lookup p=pe o/\o.cls=.type "tuple"/\o.dict=none) ∨
   (T="dict"/\((∃kvs,H p=pe (.dK kvs))∨∃kvs,H p=pe (.dT kvs)))∨(T="set"/\∃S n,H p=pe (.set S n))
 |_=>False
theorem Ii(I:Inv X m σ H s)(r:RelV x v)(ty:UL X.K T x H):
  s.TypeIs v T/\∀a,v=.ref a->∃k,s.heap.get? a=pe k/\k.dict=none:=by
 cases x with
 |str z =>
  let⟨t,rfl⟩:=r;cases(show T="str" from ty);exact⟨typeIs_str s z t,λ_ e=>nomatch e⟩
 |int i =>
  let⟨t,rfl⟩:=r;cases(show T="int" from ty);exact⟨typeIs_int s i t,λ_ e=>nomatch e⟩
 |ref p =>
  cases r;obtain⟨rfl,xs,q⟩|⟨rfl,o,f,u,g⟩|⟨rfl,f⟩|⟨rfl,S,n,f⟩:=ty
  .obtain⟨w,_,l,_⟩:=I.list q;apply⟨l.isList.typeIs,λa e=>?_⟩;cases e;let⟨o,n,e,c,g,_⟩:=l;exact⟨o,e,g⟩
  .refine⟨⟨o,I.OF p o f,u⟩,λa e=>?_⟩;cases e;exact⟨o,I.OF _ o f,g⟩
  .have z:∃o,s.heap.get? p=pe o/\o.ExactDict:=by
    obtain⟨h,f⟩|⟨h,f⟩:=f
    .obtain⟨_,_,_,_,o,_,_,e,ex,_⟩:=I.A0 p _ f;exact⟨o,e,ex⟩
    .obtain⟨_,_,_,_,o,_,_,e,ex,_⟩:=I.A0 p _ f;exact⟨o,e,ex⟩
   let⟨o,e,ex⟩:=z;apply⟨⟨o,e,ex.1⟩,λa j=>?_⟩;cases j;exact⟨o,e,ex.2.1⟩
  .obtain⟨o,_,_,_,e,ex,_⟩:=I.A0 p _ f;apply⟨⟨o,e,ex.1⟩,λa j=>?_⟩;cases j;exact⟨o,e,ex.2.1⟩
 |_=>exact dU ty
def DN(K:Za)(T:String)(r:V->List V->Hp->VK->Prop)(to:TE):TE:=fun σ H Q=>to σ H λx H1=>UL K T x H1/\r x [] H1 Q
def Bl(K:Za)(T:String)(r:V->List V->Hp->VK->Prop)(to:TE)(t:TA):TE:=fun σ H Q=>to σ H λx H1=>UL K T x H1/\t σ H1 λxs H2=>r x xs H2 Q
variable{o e:WB}{es:List WB}{to:TE}{t:TA}{name:WD}{J6 J5:Pos}{T id:String}{r:V->List V->Hp->VK->Prop}
theorem sO(p:PlainAttrs T)(i:Slot T name id)(j:typeOf (.builtin id)=pure (.type "method_descriptor"))(q:VR X id r)(u:PE X o to)
  (f:xL o name X.env (eval o X.env)=eval o X.env:=by rfl) (g:(J6.endLine==J5.line)=true:=by rfl):PE X (.Call (.Attribute o name J6) [] [] J5) (DN X.K T r to):=by
 intro l s σ H Q I h;refine wpAny_Call_method0_late f g<|cQ (u l s σ H _ I h) λv w k=>?_;let⟨x,y,m,n,ty,z⟩:=k;let⟨A,B⟩:=Ii m n ty;exact⟨T,id,p,i,j,A,B,Calls.callWith_builtin rfl<|PySem.evalArgs_none<|q l w σ y x [] v [] Q m n .nil z⟩
theorem iO(w:PlainAttrs T)(j:Slot T name id)(l:typeOf (.builtin id)=pure (.type "method_descriptor"))(y:VR X id r)(z:PE X o to)(A:PA X (e::es) t)
  (g:xL o name X.env (eval o X.env)=eval o X.env:=by rfl)
  (k:((backTo J5<|aK (e::es) X.env).all (λx=>!x.1) && (k_ J5<|k9 [] X.env).all (λx=>x.1.isSome)
   && decide ((e::es).length+([]:List Keyword).length+(if([]:List Keyword).isEmpty then 0 else 1)<30))=true:=by rfl)
  (i:(J6.endLine==J5.line)=true:=by rfl) (B:aK (e::es) X.env=(false,eval e X.env)::aK es X.env:=by rfl) (f:(backTo J5<|aK es X.env).any (·.1)=false:=by rfl) :
  PE X (.Call (.Attribute o name J6) (e::es) [] J5) (Bl X.K T r to t):=by
 intro m s σ H Q I h;refine wpAny_Call_method_late g k i rfl<|cQ (z m s σ H _ I h) λv C n=>?_;let⟨x,D,p,q,ty,E⟩:=n;let⟨G,J⟩:=Ii p q ty;apply⟨T,id,w,j,l,G,J,?_⟩;have u:=A J5 m C σ D _ p E;rw[B]at u ⊢;refine Calls.callWith_builtin (by show(false || (backTo J5<|aK es X.env).any (·.1))=false;rw[f]<;>rfl)<|Calls.evalArgs_plain ?_;exact cQ u λL M ⟨N,O,U,Y,q2⟩=>y m M σ O x N v L Q U q Y q2
end
end L2
namespace L2
open PySem Spec PyProof.Rows
def No(X:Cx)(id:String)(r:V->List V->Hp->VK->Prop):Prop :=
 ∀(J4:Zd) (s:Ww) (σ:St) (H:Hp) (x:V) (xs:List V) (v:Wx) (us:Zf) (Q:VK),Inv X J4 σ H s->RelV x v->bg xs us->r x xs H Q ->
  wpAny (model X.prog X.w) X.A (call (.builtin id)<|v::us) (EP X J4 σ Q) X.xe s
theorem bg.one(h:bg [x] a):∃u,a=[u]/\RelV x u:=by
 cases h with
 |cons r t=>cases t;exact⟨_,pw,r⟩
theorem bg.two(h:bg [x,y] a):∃u v,a=[u,v]/\RelV x u/\RelV y v:=by
 cases h with
 |cons r t =>
  let⟨v,e,q⟩:=bg.one t;exact⟨_,v,by rw[e],r,q⟩
theorem bg.zero:∀{a:Zf},bg [] a->a=[]
 |_,.nil=>rfl
theorem bg.dropLast(h:bg xs a):bg xs.dropLast a.dropLast:=by
 induction h with
 |nil=>exact .nil
 |cons r t e =>
  cases t with
  |nil=>exact .nil
  |cons q f=>exact .cons r e
theorem bg.eraseIdx:∀{xs:List V}{a:Zf}(i:Nat),bg xs a->bg (xs.eraseIdx i) (a.eraseIdx i)
 |_,_,_,.nil=>.nil
 |_,_,0,.cons _ t=>t
 |_,_,i+1,.cons r t=>.cons r<|bg.eraseIdx i t
theorem bg.reverse(h:bg xs a):bg xs.reverse a.reverse:=by
 induction h with
 |nil=>exact .nil
 |cons r t e=>rw[rW,rW];exact bg.append e<|.cons r .nil
theorem EF{α:Type}(l:List α):l.eraseIdx (l.length-1)=l.dropLast:=by
 induction l with
 |nil=>rfl
 |cons a r f =>
  cases r with
  |nil=>rfl
  |cons b r =>
   have e:(a::b::r).length-1=((b::r).length-1)+1:=by
    have g:(a::b::r).length=r.length+2:=rfl;have h:(b::r).length=r.length+1:=rfl;nofun
   rw[e,List.eraseIdx_cons_succ,f]
   all_goals rfl
theorem yi{α:Type}:∀(l:List α) (i:Nat),(l.eraseIdx i).length<=l.length
 |[],_=>aB _
 |_::_,0=>iG _
 |_::r,i+1=>i9<|yi r i
section
variable{X:Cx}{J4:Zd}{σ:St}{H:Hp}{s:Ww}{l b:Wv}{xs ys zs:List V}
theorem Inv.TC{a its':Zf}(I:Inv X J4 σ H s)(h:H l=pe (.lst xs))(e:s.heap.get? l=pe { cls:=.type "list",data:=.seq a.toArray n})(hf:f a.toArray=its'.toArray)(i:bg ys its')(j:ys.length<=ai) :
  Inv X J4 σ (upd H l<|.lst ys) {s with heap:=s.heap.update l<|vg f,toks:=g}:=by
 have q:=PySem.IsL.update e f;rw[hf]at q;refine I.write (x:=l) (e:=l) (by rw[h];exact trivial) (.inl rfl) (λo u k m=>(j7 s.heap (vg f)<|dD k).trans m) ⟨_,q⟩ ?_;exact⟨j,its',_,i,q⟩
theorem Inv.Ux(I:Inv X J4 σ H s)(e:bg ys a)(f:ys.length<=ai):
  Inv X J4 σ (upd H ↑s<|.lst ys) {s with heap:=s.heap.push { cls:=.type "list",data:=.seq a.toArray},toks:=t'} :=
 I.laid (λ_ _ q=>bc _ q) (aB _) ⟨f,a,0,e,dS _ rfl⟩
theorem Inv.fresh(I:Inv X J4 σ H s):H ↑s=none:=I.A0.fresh<|aB _
theorem Inv.SD(I:Inv X J4 σ H s)(f:H l=pe (.lst xs)):xs.length<=ai/\∃(a:Zf) (n:Nat),bg xs a/\xs.length=a.length/\s.heap.get? l=pe { cls:=.type "list",data:=.seq a.toArray n}:=by
 let⟨z,a,n,r,e⟩:=I.A0 l _ f;exact⟨z,a,n,r,r.length,e⟩
end
section
variable{X:Cx}
def eP:V->List V->Hp->VK->Prop:=λx vs H Q=>∃l xs y,x=.ref l/\vs=[y]/\H l=pe (.lst xs)/\xs.length<ai/\Q .L' (upd H l<|.lst<|xs++[y])
theorem cT:No X "list.append" eP:=by
 intro k s σ H x m v o Q I g i h;let⟨l,xs,y,rfl,rfl,f,p,q⟩:=h;cases g;let⟨u,rfl,j⟩:=i.one;let⟨z,a,n,r,t,e⟩:=I.SD f;refine vf F.slot_list_append ⟨_,e,pw⟩ F.entry_list_append (F.args_list_append_2 _ _) (PySem.list_append l a.toArray n u (by rw[bM];nofun)) ⟨e,?_⟩;apply⟨.L',_,I.TC (its':=a++[u]) f e ∅ (r.append<|.cons j .nil) ?_,pw,q⟩;rw[aH,List.length_singleton];nofun
def G7:V->List V->Hp->VK->Prop:=λx vs H Q=>∃l xs y,x=.ref l/\vs=[]/\H l=pe (.lst xs)/\xs[xs.length-1]?=pe y/\Q y (upd H l<|.lst xs.dropLast)
theorem vW:No X "list.pop" G7:=by
 intro w s σ H x A v B Q I j k h;let⟨l,xs,y,rfl,rfl,i,m,q⟩:=h;cases j;have f:=k.zero;subst f;let⟨z,a,n,r,o,e⟩:=I.SD i;let⟨u,p,t⟩:=r.get m;have g:a.toArray[a.toArray.size-1]?=pe u:=by
  show a.toArray[a.length-1]?=pe u;rw[<-Array.getElem?_toList,<-o];exact p
 refine vf F.slot_list_pop ⟨_,e,pw⟩ F.entry_list_pop (F.args_list_pop_1 _) (MeetsSeq.list_pop_last l a.toArray n u g (by rw[bM];nofun)) ⟨e,?_⟩;apply⟨y,_,I.TC (its':=a.dropLast) i e ?_ r.dropLast ?_,t,q⟩
 .show a.toArray.eraseIdxIfInBounds (a.toArray.size-1)=a.dropLast.toArray;rw[bM,List.eraseIdxIfInBounds_toArray,EF]
 .rw[List.length_dropLast];nofun
def IR:V->List V->Hp->VK->Prop:=λx vs H Q=>∃l xs i k y,x=.ref l/\vs=[.int i]/\H l=pe (.lst xs)/\-(2 ^ 63)<=i/\i<2 ^ 63/\zP i xs.length=pe k/\xs[k]?=pe y/\Q y (upd H l<|.lst<|xs.eraseIdx k)
theorem Jp:No X "list.pop" IR:=by
 intro G s σ H x J v L Q I j m h;let⟨l,xs,i,k,y,rfl,rfl,g,o,p,A,B,q⟩:=h;cases j;let⟨u,rfl,C⟩:=m.one;let⟨t,rfl⟩:=C;let⟨z,a,n,r,D,e⟩:=I.SD g;let⟨w,E,f⟩:=r.get B;refine vf F.slot_list_pop ⟨_,e,pw⟩ F.entry_list_pop (F.args_list_pop_2 _ _)
  (MeetsSeq.list_pop_at l a.toArray n i t k w (fitsIndex_both o p) (by rw[bM,<-D];exact A) (by rw[<-Array.getElem?_toList];exact E) (by rw[bM];nofun)) ⟨e,?_⟩
 apply⟨y,_,I.TC (its':=a.eraseIdx k) g e ?_ (r.eraseIdx k) ?_,f,q⟩
 .show a.toArray.eraseIdxIfInBounds k=(a.eraseIdx k).toArray;rw[List.eraseIdxIfInBounds_toArray]
 .have:=yi xs k;nofun
def B1:V->List V->Hp->VK->Prop:=λx vs H Q=>∃l xs,x=.ref l/\vs=[]/\H l=pe (.lst xs)/\Q .L' (upd H l<|.lst xs.reverse)
theorem Ep:No X "list.reverse" B1:=by
 intro k s σ H x m v o Q I i j h;let⟨l,xs,rfl,rfl,g,q⟩:=h;cases i;have f:=j.zero;subst f;let⟨z,a,n,r,p,e⟩:=I.SD g;refine vf F.slot_list_reverse ⟨_,e,pw⟩ F.entry_list_reverse (F.args_list_reverse_1 _) (AutoSeq1.list_reverse_list_0 l a.toArray n (by rw[bM];nofun)) ⟨e,?_⟩;apply⟨.L',_,I.TC (its':=a.reverse) g e ∅ r.reverse ?_,pw,q⟩;rw[mj];nofun
def xA:R2:=λx y H Q=>∃l b xs zs,x=.ref l/\y=.ref b/\H l=pe (.lst xs)/\H b=pe (.lst zs)/\xs.length+zs.length<=ai/\∀p,H p=none->Q (.ref p) (upd H p<|.lst<|xs++zs)
theorem lF:oq X (lU .Add) xA:=by
 intro t s σ H x y v u Q I g i h;let⟨l,b,xs,w,rfl,rfl,j,hB,A,q⟩:=h;cases g;cases i;let⟨z,f,n,r,B,e⟩:=I.SD j;let⟨C,a,D,k,m,o⟩:=I.SD hB;refine PySem.P.add_list e o ?_ (by rw[bM,bM];nofun);have p:f.toArray++a.toArray=(f++a).toArray:=by simp
 rw[p];exact⟨.ref _,_,I.Ux (t':=s.toks) (r.append k) (by rw[aH];nofun),pw,q _ I.fresh⟩
end
end L2
namespace L2
open PySem Spec PyProof.Rows
section
variable{κ:Type}[DecidableEq κ]
def c8(kvs:List<|κ×V)(k:κ):Option V:=(kvs.find? λkv=>decide (kv.1=k)).map (·.2)
def eQ(kvs:List<|κ×V)(k:κ)(v:V):List (κ×V) :=
 if(kvs.any λkv=>decide (kv.1=k))=true then kvs.map (λkv=>if kv.1=k then(kv.1,v)else kv)else kvs++[(k,v)]
theorem eS{p:κ×V}(e:p.1=k):c8 (p::r) k=pe p.2:=by simp[c8,fL,e]
theorem eB{p:κ×V}(e:¬p.1=k):c8 (p::r) k=c8 r k:=by simp[c8,fL,e]
theorem mn(k:κ):∀a:List<|κ×V,(a.any λf=>decide (f.1=k))=(c8 a k).isSome
 |[]=>rfl
 |p::r=>by
  rw[mi];by_cases e:p.1=k
  .simp only[eS e,qh e,Bool.true_or,Option.isSome_some]
  .rw[eB e,qb e,Bool.false_or];exact mn k r
theorem Bw(k j:κ)(y:V):∀a:List<|κ×V,c8 (a.map λf=>if f.1=k then(f.1,y)else f) j=(c8 a j).map λx=>if j=k then y else x
 |[]=>rfl
 |p::r=>by
  have g:=Bw k j y r;rw[bP];by_cases h:p.1=k
  .rw[if_pos h];by_cases e:p.1=j
   .rw[eS (p:=(p.1,y)) e,eS e,vd,if_pos<|e.symm.trans h]
   .rw[eB (p:=(p.1,y)) e,eB e,g]
  .rw[if_neg h];by_cases e:p.1=j
   .rw[eS (p:=p) e,eS e,vd,if_neg<|λz=>h<|e.trans z]
   .rw[eB (p:=p) e,eB e,g]
theorem xS(k j:κ)(y:V):∀a:List<|κ×V,c8 a k=none->c8 (a++[(k,y)]) j=if j=k then pe y else c8 a j
 |[],_=>by
  by_cases e:k=j
  .rw[if_pos e.symm];exact eS (p:=(k,y)) e
  .rw[if_neg<|λz=>e z.symm];exact eB (p:=(k,y)) e
 |p::r,f=>by
  rw[List.cons_append];have g:¬p.1=k:=λz=>by rw[eS z]at f;cases f
  rw[eB g]at f;have h:=xS k j y r f;by_cases e:p.1=j
  .rw[eS e,eS e,if_neg<|λz=>g<|e.trans z]
  .rw[eB e,eB e,h]
theorem Bv(f:List<|κ×V)(k j:κ)(y:V):c8 (eQ f k y) j=if j=k then pe y else c8 f j:=by
 unfold eQ;by_cases a:(f.any λg=>decide (g.1=k))=true
 .rw[if_pos a,Bw];rw[mn]at a;by_cases e:j=k
  .obtain⟨x,hx⟩:=vj.mp a;rw[if_pos e,e,hx,vd,if_pos rfl]
  .rw[if_neg e];cases c8 f j with
   |none=>rfl
   |some x=>rw[vd,if_neg e]
 .rw[if_neg a];refine xS k j y f ?_;rw[mn]at a;cases q:c8 f k with
  |none=>rfl
  |some x=>rw[q]at a;exact(a rfl).elim
theorem mM(a:List<|κ×V)(k:κ)(v:V):(eQ a k v).length<=a.length+1:=by
 unfold eQ;split
 .rw[am];nofun
 .rw[aH,da,vc];nofun
theorem qH{a:List (κ×V)}{k:κ}(v:V)(h:c8 a k=none):eQ a k v=a++[(k,v)]:=by
 unfold eQ;rw[mn,h];exact if_neg WE
theorem jr.O_(r:jr o u):o.isSome=u.isSome:=by
 cases o with
 |none=>cases u with
  |none=>rfl
  |some _=>exact(show False from r).elim
 |some _=>cases u with
  |none=>exact(show False from r).elim
  |some _=>rfl
theorem jr.getD(r:jr o u)(e:RelV d a):RelV (o.getD d) (u.getD a):=by
 cases o with
 |none=>cases u with
  |none=>exact e
  |some _=>exact(show False from r).elim
 |some _=>cases u with
  |none=>exact(show False from r).elim
  |some _=>exact r
theorem KV.val(r:KV a g)(k:κ):jr (c8 a k) (oG g k):=by
 unfold KV at r
 induction r with
 |nil=>exact fU
 |@cons p q m qs h t j =>
  let⟨i,l⟩:=h;by_cases e:p.1=k
  .have f:q.1=k:=i.symm.trans e;have b:oG (q::qs) k=pe q.2:=by simp[oG,fL,f]
   rw[eS e,b];exact l
  .have f:¬q.1=k:=λz=>e<|i.trans z;have b:oG (q::qs) k=oG qs k:=by simp[oG,fL,f]
   rw[eB e,b];exact j
theorem KV.any(r:KV a f)(k:κ):(a.any λe=>decide (e.1=k))=f.any λe=>decide (e.1=k):=by
 unfold KV at r
 induction r with
 |nil=>rfl
 |cons h t g=>rw[mi,mi,g,h.1]
theorem KV.Ua(r:KV f i)(k:κ)(j:RelV y u):
  KV (f.map λa=>if a.1=k then(a.1,y)else a) (i.map λa=>if a.1=k then(a.1,u)else a):=by
 unfold KV at r ⊢
 induction r with
 |nil=>exact .nil
 |@cons p q n qs h t l =>
  rw[bP,bP];refine .cons ?_ l;let⟨g,m⟩:=h;by_cases e:p.1=k
  .rw[if_pos e,if_pos<|g.symm.trans e];exact⟨g,j⟩
  .rw[if_neg e,if_neg<|λz=>e<|g.trans z];exact⟨g,m⟩
theorem KV.put(r:KV a f)(k:κ)(g:RelV y u):KV (eQ a k y) (stored f k u):=by
 unfold eQ stored;rw[r.any k];by_cases e:(f.any λh=>decide (h.1=k))=true
 .rw[if_pos e,if_pos e];exact r.Ua k g
 .rw[if_neg e,if_neg e];exact dI r ⟨pw,g⟩
theorem KV.length{a:List (κ×V)}{e:List (κ×Wx)}(r:KV a e):a.length=e.length:=Paired.length r
end
theorem qQ(r:RelV (kV k) u):(cp P w).is k u=true:=by
 cases k with
 |inl i=>let⟨t,e⟩:=(show ∃t,u=Value.int i t from r);subst e;exact Cz P w i t
 |inr x=>let⟨t,e⟩:=(show ∃t,u=Value.str x t from r);subst e;exact Cy P w x t
theorem AJ:∀{k:pI}{u:Wx},RelV (LY k) u->jm k u=true
 |none,u,r=>by cases(show u=Value.none from r);rfl
 |some (.inl i),u,r=>by let⟨t,rfl⟩:=r;exact nM i t
 |some (.inr x),u,r=>by let⟨t,rfl⟩:=r;exact nL x t
abbrev KT(K:Za)(H:Hp):List (TK×V)->List (TK×Wv×Wx)->Prop:=Paired λp q=>p.1=q.1/\Dk K H p.1 (.ref q.2.1)/\p.1.depth<=8/\RelV p.2 q.2.2
theorem KT.val{K:Za}(r:KT K H a xs)(k:TK):jr (c8 a k) ((atKey xs k).map (·.2)):=by
 induction r with
 |nil=>exact fU
 |@cons p q l qs h t i =>
  let⟨g,_,_,j⟩:=h;by_cases e:p.1=k
  .have f:q.1=k:=g.symm.trans e;have b:atKey (q::qs) k=pe q.2:=by simp[atKey,fL,f]
   rw[eS e,b];exact j
  .have f:¬q.1=k:=λz=>e<|g.trans z;have b:atKey (q::qs) k=atKey qs k:=by simp[atKey,fL,f]
   rw[eB e,b];exact i
theorem KT.Ua{K:Za}(r:KT K H a xs)(k:TK)(l:RelV y u):
  KT K H (a.map λg=>if g.1=k then(g.1,y)else g) (xs.map<|putAt k u):=by
 induction r with
 |nil=>exact .nil
 |@cons p q n qs h t m =>
  rw[bP,bP];refine .cons ?_ m;let⟨f,i,j⟩:=h;unfold putAt;by_cases e:p.1=k
  .rw[if_pos e,if_pos<|f.symm.trans e];exact⟨f,i,j.1,l⟩
  .rw[if_neg e,if_neg<|λz=>e<|f.trans z];exact⟨f,i,j⟩
theorem KT.put{K:Za}(r:KT K H a xs)(k:TK)(g:Dk K H k<|.ref b)(h:k.depth<=8)(f:RelV y u):
  KT K H (eQ a k y) (storedH xs k b u):=by
 have e:(a.any λi=>decide (i.1=k))=(atKey xs k).isSome:=by
  rw[mn,(r.val k).O_,Option.isSome_map]
 unfold eQ storedH;rw[e];by_cases q:(atKey xs k).isSome=true
 .rw[if_pos q,if_pos q];exact r.Ua k f
 .rw[if_neg q,if_neg q];exact dI r ⟨pw,g,h,f⟩
theorem KT.keeps{K:Za}(r:KT K H kvs xs)(f:∀b e,H b=pe (.tup e)->a b=pe (.tup e)):KT K a kvs xs :=
 Paired.OJ r λ_ _ z=>⟨z.1,Dk.keeps f 8 z.2.2.1 z.2.1,z.2.2⟩
section
variable{P:bI}{w:Wy}{K:Za}{H:Hp}{h:WA}{a:Wv}
theorem LN(ok:lY P w K H h)(e:Rd H a u):cv P w K H h a u:=e.ok ok
theorem qW(ok:lY P w K H h)(e:Rd H a<|.dK f):f.length<=ai/\(a==jC)=false/\∃g,KV f g/\h.DictOf (cp P w) a g :=
 show cv P w K H h a (.dK f)from LN ok e
theorem Md(ok:lY P w K H h)(e:H a=pe (.dK f)):f.length<=ai/\(a==jC)=false/\∃g,KV f g/\h.DictOf (cp P w) a g:=qW ok<|.inl e
theorem Mo(ok:lY P w K H h)(kin:K.In h):∀(d:Nat) {k:TK}{v:V}{u:Wx},k.depth<=d->Dk K H k v->RelV v u->n5 h k u:=by
 have y:∀(d:Nat) (s:∀{k:TK}{v:V}{u:Wx},k.depth<=d->Dk K H k v->RelV v u->n5 h k u) (g:List TK) (i:List V) (x:Zf),TK.l' g<=d->SV K H g i->bg i x->Qa h g x:=by
  intro d s g
  induction g with
  |nil =>
   intro i x _ hx r;have e:i=[]:=hx;subst e;cases r
   rfl
  |cons k g z =>
   intro i x j hx r;let⟨v,A,rfl,m,B⟩:=hx;cases r with
   |@cons _ u _ q E G =>
    have I:max k.depth (TK.l' g)<=d:=j;exact⟨u,q,pw,s ⋯ m E,z A q ⋯ B G⟩
 intro d
 induction d with
 |zero =>
  intro k v u j hx r;cases k with
  |t l=>exact absurd j (by show ¬(TK.l' l+1<=0);nofun)
  |k b =>
   have e:v=LY b:=hx;subst e;exact AJ r
 |succ d s =>
  intro k v u j hx r;cases k with
  |k b =>
   have e:v=LY b:=hx;subst e;exact AJ r
  |t l =>
   let⟨b,xs,rfl,C,hi⟩:=hx;cases(show u=Value.ref b from r);obtain⟨f,D,J,m,B,n,L⟩:∃f:List Wx,bg xs f/\IsTup h b f.toArray:=by
    obtain C|⟨o,f,n,M,N,O,Q,r⟩:=C
    .obtain⟨_,f,D,p⟩:=(show cv P w K H h b (.tup xs)from ok b _ C);exact⟨f,D,p⟩
    .exact⟨f.toList,r,o,kin b o M,N,n,by simpa using O⟩
   exact⟨b,J,f.toArray,n,pw,m,B,L,by simpa using y d (λm=>s m) l xs f (by have:TK.l' l+1<=d+1:=j;nofun) hi D⟩
theorem Ey(ok:lY P w K H h)(kin:K.In h)(e:Dk K H k<|.ref a)(f:k.depth<=8):(gK P w).is h k a:=⟨Mo ok kin 8 f e rfl,f⟩
theorem v_(ok:lY P w K H h)(kin:K.In h)(e:Rd H a<|.dT f):f.length<=ai/\(a==jC)=false /\
  ∃xs,KT K H f xs/\h.DictOfH (gK P w) a xs:=by
 let⟨z,y,xs,r,o,i,j,k,n,s,u,v⟩:=(show cv P w K H h a (.dT f)from LN ok e);apply⟨z,y,xs,r,o,i,j,k,n,s,u,λx hx=>?_,v⟩;have all:∀{l:List (TK×V)}{m:List (TK×Wv×Wx)},KT K H l m->∀x∈m,(gK P w).is h x.1 x.2.1:=by
  intro l m q
  induction q with
  |nil=>intro x hx;exact nomatch hx
  |@cons p q B qs g t A =>
   intro x hx;obtain e|hx:=b_.mp hx
   .subst e;exact Ey ok kin (by rw[<-g.1];exact g.2.1) (by rw[<-g.1];exact g.2.2.1)
   .exact A x hx
 exact all r x hx
theorem Mb(ok:lY P w K H h)(kin:K.In h)(e:H a=pe (.dT f)):f.length<=ai/\(a==jC)=false /\
  ∃xs,KT K H f xs/\h.DictOfH (gK P w) a xs:=v_ ok kin<|.inl e
end
mutual
def nZ(K:Za)(H:Hp):TK->V->Prop
 |.k a,v=>v=LY a
 |.t l,v=>∃b xs,v=.ref b/\bj K H b xs/\OL K H l xs
def OL(K:Za)(H:Hp):List TK->List V->Prop
 |[],vs=>vs=[]
 |k::r,vs=>∃v us,vs=v::us/\nZ K H k v/\OL K H r us
end
theorem jq.isIn{K:Za}:∀(d:Nat) {k:TK}{v:V},k.depth<=d->jq H k v->nZ K H k v:=by
 have h:∀(d:Nat) (f:∀{k:TK}{v:V},k.depth<=d->jq H k v->nZ K H k v) (xs:List TK) (g:List V),TK.l' xs<=d->OS H xs g->OL K H xs g:=by
  intro d f xs
  induction xs with
  |nil=>intro g _ hx;exact hx
  |cons x xs i =>
   intro g e hx;let⟨v,n,rfl,j,m⟩:=hx;have o:max x.depth (TK.l' xs)<=d:=e;exact⟨v,n,pw,f ⋯ j,i n ⋯ m⟩
 intro d
 induction d with
 |zero =>
  intro k v e hx;cases k with
  |t l=>exact absurd e (by show ¬(TK.l' l+1<=0);nofun)
  |k a=>exact hx
 |succ d f =>
  intro k v e hx;cases k with
  |k a=>exact hx
  |t l =>
   let⟨b,xs,rfl,p,hi⟩:=hx;exact⟨b,xs,pw,bj.of p,h d (λq=>f q) l xs (by have:TK.l' l+1<=d+1:=e;nofun) hi⟩
theorem Ks(I:Inv X y σ H s):∀(d:Nat) {k:TK}{v:V}{u:Wx},k.depth<=d->nZ X.K H k v->RelV v u->n5 s.heap k u:=by
 have p:∀(d:Nat) (m:∀{k:TK}{v:V}{u:Wx},k.depth<=d->nZ X.K H k v->RelV v u->n5 s.heap k u) (a:List TK) (f:List V) (o:Zf),TK.l' a<=d->OL X.K H a f->bg f o->Qa s.heap a o:=by
  intro d m a
  induction a with
  |nil =>
   intro f o _ hx r;have e:f=[]:=hx;subst e;cases r
   rfl
  |cons k a q =>
   intro f o g hx r;let⟨v,w,rfl,h,x⟩:=hx;cases r with
   |@cons _ u _ i z A =>
    have B:max k.depth (TK.l' a)<=d:=g;exact⟨u,i,pw,m ⋯ h z,q w i ⋯ x A⟩
 intro d
 induction d with
 |zero =>
  intro k v u g hx r;cases k with
  |t l=>exact absurd g (by show ¬(TK.l' l+1<=0);nofun)
  |k b =>
   have e:v=LY b:=hx;subst e;exact AJ r
 |succ d m =>
  intro k v u g hx r;cases k with
  |k b =>
   have e:v=LY b:=hx;subst e;exact AJ r
  |t l =>
   let⟨b,xs,rfl,C,hi⟩:=hx;cases(show u=Value.ref b from r);let⟨j,D,⟨E,h,x,n,G⟩,_⟩:=I.tuple C;exact⟨b,E,j.toArray,n,pw,h,x,G,by simpa using p d (λh=>m h) l xs j (by have:TK.l' l+1<=d+1:=g;nofun) hi D⟩
theorem AI(I:Inv X f σ H s)(e:nZ X.K H k<|.ref b)(a:k.depth<=8):(gK X.prog X.w).is s.heap k b:=⟨Ks I 8 a e rfl,a⟩
theorem iY{A:Wz}(a:A.units+16<cLine):(gK P w).room A.in1:=by
 show A.units+1+8<cLine;nofun
def Bi(K:Za)(H:Hp)(a:Wv)(y:V)(r:Option V):Prop :=
 (∃kvs k,Rd H a (.dK kvs)/\y=kV k/\r=c8 kvs k)∨∃kvs k b,Rd H a (.dT kvs)/\y=.ref b/\nZ K H k (.ref b)/\k.depth<=8/\r=c8 kvs k
def N5(H:Hp)(a:Wv)(y v:V)(H':Hp):Prop :=
 (∃kvs k,H a=pe (.dK kvs)/\y=kV k/\kvs.length<ai/\H'=upd H a (.dK<|eQ kvs k v)) ∨
 ∃kvs k b,H a=pe (.dT kvs)/\y=.ref b/\jq H k (.ref b)/\k.depth<=8/\kvs.length<ai/\H'=upd H a (.dT<|eQ kvs k v)
section
variable{X:Cx}{J4:Zd}{σ:St}{H:Hp}{s:Ww}{a:Wv}{y v:V}{u r:Wx}{o:Option V}{A:Wz}{E:Zc}
theorem Inv.big(I:Inv X J4 σ H s):jC<↑s:=by
 have h:bq<↑s:=(I.mod.glob.keeps I.bk).lt;exact Nat.lt_trans WE h
theorem Hv(D:A.units+16<cLine)(I:Inv X J4 σ H s)(g:Bi X.K H a y<|some v)(B:RelV y u)(h:∀j C,Inv X J4 σ H C->RelV v j->Q j C):
  wpAny (model X.prog X.w) A (i_ (.ref a) u) Q E s:=by
 obtain⟨m,k,e,n,l⟩|⟨m,k,b,e,n,G,J,l⟩:=g
 .subst n;let⟨z,L,M,f,q⟩:=qW I.A0 e;let⟨j,t,i⟩:=jr.some_of (v:=v) (o:=oG M k) (by rw[l];exact f.val k);exact wpAny_getItem_of (qQ B) q.mapOf t<|h j _ (I.tok _) i
 .subst n;cases(show u=Value.ref b from B);let⟨z,L,xs,f,q⟩:=v_ I.A0 I.OF e;let⟨j,t,i⟩:=jr.some_of (v:=v) (o:=(atKey xs k).map (·.2)) (by rw[l];exact f.val k);let⟨p,N,x⟩:=rV.mp t;refine wpAny_getItem_heap (iY D) (AI I G J) q N ?_;rw[x];exact h j _ (I.tok _) i
theorem Vi(t:A.units+16<cLine)(I:Inv X J4 σ H s)(g:Bi X.K H a y o)(n:RelV y u)(h:∀p,Inv X J4 σ H p->Q (.bool o.isSome) p):
  wpAny (model X.prog X.w) A (fV .In u<|.ref a) Q E s:=by
 obtain⟨i,k,e,j,l⟩|⟨i,k,b,e,j,x,B,l⟩:=g
 .subst j;let⟨z,hd,C,f,m⟩:=qW I.A0 e;refine wpAny_in_of (qQ n) hd m.mapOf ?_;rw[<-(f.val k).O_,<-l];exact h _<|I.tok _
 .subst j;cases(show u=Value.ref b from n);let⟨z,hd,xs,f,m⟩:=v_ I.A0 I.OF e;refine wpAny_in_heap (iY t) (AI I x B) hd m ?_;have q:=(f.val k).O_;rw[Option.isSome_map]at q;rw[<-q,<-l];exact h _<|I.tok _
theorem Lj(t:A.units+16<cLine)(I:Inv X J4 σ H s)(g:Bi X.K H a y o)(n:RelV y u)(h:∀p,Inv X J4 σ H p->Q (.bool (!o.isSome)) p):
  wpAny (model X.prog X.w) A (fV .NotIn u<|.ref a) Q E s:=by
 obtain⟨i,k,e,j,l⟩|⟨i,k,b,e,j,x,B,l⟩:=g
 .subst j;let⟨z,hd,C,f,m⟩:=qW I.A0 e;refine wpAny_notIn_of (qQ n) hd m.mapOf ?_;rw[<-(f.val k).O_,<-l];exact h _<|I.tok _
 .subst j;cases(show u=Value.ref b from n);let⟨z,hd,xs,f,m⟩:=v_ I.A0 I.OF e;refine wpAny_notIn_heap (iY t) (AI I x B) hd m ?_;have q:=(f.val k).O_;rw[Option.isSome_map]at q;rw[<-q,<-l];exact h _<|I.tok _
theorem uH(I:Inv X J4 σ H s)(h:N1<|H a)(i:kz a s.heap f)(j:∃q,f.get? a=pe q)(new:cv X.prog X.w X.K (upd H a ob) f a ob):
  Inv X J4 σ (upd H a ob) {s with heap:=f,toks:=g} :=
 I.write (x:=a) (e:=a) h (.inl rfl) (λb q k z=>(i.2 b k).trans z) j new
theorem EH{K:Za}(z:e.length<=ai)(j:(a==jC)=false)(g:KV e f)(k:h.DictOf (cp P w) a f):
  cv P w K i h a (.dK e):=⟨z,j,f,g,k⟩
theorem Hu(Y:A.units+16<cLine)(I:Inv X J4 σ H s)(g:N5 H a y v J)(L:RelV y u)(M:RelV v r)(h:∀N,Inv X J4 σ J N->Q () N):
  wpAny (model X.prog X.w) A (setItem (.ref a) u r) Q E s:=by
 obtain⟨f,k,e,p,l,t⟩|⟨f,k,b,e,p,O,m,l,t⟩:=g
 .subst p t;let⟨z,x,vs,i,B⟩:=Md I.A0 e;have C:vs.length<=ai:=by rw[<-i.length];exact z
  have D:(eQ f k v).length<=ai:=by have:=mM f k v;nofun
  refine wpAny_setItem_pairs (hsz:=C) (qQ L) B λT j G=>h _ ?_;have he:∃q,T.get? a=pe q:=let⟨q,_,_,n,_⟩:=j;⟨q,n⟩;exact uH I (by rw[e];exact fU) G he<|EH D x (i.put k M) j
 .subst p t;cases(show u=Value.ref b from L);let⟨z,x,xs,i,B⟩:=Mb I.A0 I.OF e;have C:xs.length<=ai:=by rw[<-Paired.length i];exact z
  have D:(eQ f k v).length<=ai:=by have:=mM f k v;nofun
  refine wpAny_setItem_heap (hsz:=C) (iY Y) (Ey I.A0 I.OF (jq.c 8 m O) m) B λT j G=>h _ ?_;let⟨q,es,ep,n,h2,h3,h4,_,h5⟩:=j;refine uH I (by rw[e];exact fU) G ⟨q,n⟩ ⟨D,x,_,(i.put k (jq.c 8 m O) m M).keeps λc ys U=>?_,q,es,ep,n,h2,h3,h4,h5⟩;rw[aj<|LV U e<|λz=>nomatch z];exact U
end
section
variable{X:Cx}{J4:Zd}{σ:St}{H:Hp}{s:Ww}{a:Wv}{kvs:List (cD×V)}{k:cD}{u:Wx}{A:Wz}{E:Zc}
theorem NU(I:Inv X J4 σ H s)(e:Rd H a<|.dK kvs)(h:∀t g,Inv X J4 σ H g->Q (.int kvs.length t) g):wpAny (model X.prog X.w) A (call (.builtin "len") [.ref a]) Q E s:=by
 let⟨z,i,l,f,j⟩:=qW I.A0 e;refine call_len_dict i j (by rw[<-f.length];rw[lT]at z;nofun) ?_;rw[<-f.length];exact h _ _<|I.tok _
end
def HF(i:WB):Prop:=∀ov iv,zO i false ov iv=operate [ov,iv] (i_ ov iv)
theorem Ky{a:bI}{w:Wy}{A:Wz}{E:Zc}{s:Ww}{k:Env}{value slice:WB}{p:Pos}{T id:String}{Q:Zc}
  (t:k7 (.type T) "__getitem__"=pure (pe<|.builtin id)) (u:HF slice)
  (h:wpAny (model a w) A (eval value k) (λo g=>wpAny (model a w) A (eval slice k) (λi e=>e.TypeIs o T/\wpAny (model a w) A (i_ o i) Q E e) E g) E s) :
  wpAny (model a w) A (eval (.Subscript value slice p) k) Q E s:=by
 refine zR<|c6 h (λo g m=>c6 m (λi e f=>?_) λ_ _ x=>x) λ_ _ x=>x;let⟨q,f⟩:=f;unfold zQ;refine ap ?_;rw[getitemInPython_of_ne q.not_modules];refine ap<|Kj q t ?_;have l:wpAny (model a w) A (zO slice false o i) (λr j=>wpAny (model a w) A (letTemporaryGo value o r >>= λ_=>pure r) Q E j) E e:=by
  rw[u o i];exact wpAny_operating<|c6 f (λr j n=>ap<|wpAny_letTemporaryGo<|aR n) λ_ _ x=>x
 first
  |exact aR<|ap l
  |exact ap<|aR<|ap l
  |exact ap l
theorem CQ(I:Inv X i σ H s)(g:Bi X.K H a y o):s.TypeIs (.ref a) "dict":=by
 obtain⟨f,k,e,_,_⟩|⟨f,k,b,e,_,_,_⟩:=g
 .obtain⟨_,_,j,_,h⟩:=qW I.A0 e;exact h.typeIs
 .obtain⟨_,_,xs,_,h⟩:=v_ I.A0 I.OF e;exact h.typeIs
def p_(K:Za)(td ty:TE):TE:=fun σ H Q=>td σ H λx H1=>ty σ H1 λy H2=>∃a v,x=.ref a/\Bi K H2 a y (pe v)/\Q v H2
def Ir(K:Za)(ty td:TE):TE:=fun σ H Q=>ty σ H λy H1=>td σ H1 λx H2=>∃a o,x=.ref a/\Bi K H2 a y o/\Q (.bl o.isSome) H2
def p9(K:Za)(ty td:TE):TE:=fun σ H Q=>ty σ H λy H1=>td σ H1 λx H2=>∃a o,x=.ref a/\Bi K H2 a y o/\Q (.bl (!o.isSome)) H2
def ol(td ty tv:TE):TS:=λD σ H=>tv σ H λv H1=>td σ H1 λx H2=>ty σ H2 λy H3=>∃a H4,x=.ref a/\N5 H3 a y v H4/\D.nx σ H4
section
variable{X:Cx}{o i e value:WB}{pos pos' J7:Pos}{td ty tv:TE}
theorem jP(m:X.A.units+16<cLine)(n:PE X o td)(hi:PE X i ty)(p:HF i):PE X (.Subscript o i pos) (p_ X.K td ty):=by
 intro k s σ H Q I h;refine Ky PySem.F.slot_dict_getitem.lookup p<|cQ (n k s σ H _ I h) λu q ⟨x,r,t,w,z⟩=>cQ (hi k q σ r _ t z) λG J f=>?_;let⟨y,B,l,C,a,v,ex,g,D⟩:=f;subst ex;obtain rfl:u=Value.ref a:=w;exact⟨CQ l g,Hv m l g C λL M E j=>⟨v,B,E,j,D⟩⟩
theorem Ay(k:X.A.units+16<cLine)(hi:PE X i ty)(l:PE X o td):PC X .In i o (Ir X.K ty td):=by
 intro j s σ H Q I h;refine cQ (hi j s σ H _ I h) λD m ⟨y,n,p,q,r⟩=>cQ (l j m σ n _ p r) λu E f=>?_;let⟨x,t,v,w,a,z,ex,g,B⟩:=f;subst ex;obtain rfl:u=Value.ref a:=w;exact Vi k v g q λG C=>⟨.bl z.isSome,t,C,pw,B⟩
theorem nH(k:X.A.units+16<cLine)(hi:PE X i ty)(l:PE X o td):PC X .NotIn i o (p9 X.K ty td):=by
 intro j s σ H Q I h;refine cQ (hi j s σ H _ I h) λD m ⟨y,n,p,q,r⟩=>cQ (l j m σ n _ p r) λu E f=>?_;let⟨x,t,v,w,a,z,ex,g,B⟩:=f;subst ex;obtain rfl:u=Value.ref a:=w;exact Lj k v g q λG C=>⟨.bl (!z.isSome),t,C,pw,B⟩
theorem iV(k:X.A.units+16<cLine)(l:PE X o td)(hi:PE X i ty)(m:PE X value tv)(n:pN value (pe<|.Subscript o i pos') pos.line X.env=pure false):
  PS X (.Assign [.Subscript o i pos'] value pos) (ol td ty tv):=by
 intro f s σ H D I h;refine wpAny_Assign_Subscript (cQ (m f s σ H _ I h) λr p ⟨v,q,t,w,z⟩=>cQ (l f p σ q _ t z) λu B ⟨x,C,E,G,J⟩=>cQ (hi f B σ C _ E J) λT U j=>?_) n;let⟨y,Y,L,M,a,N,ex,g,O⟩:=j;subst ex;obtain rfl:u=Value.ref a:=G;exact Hu k L g M w λs4 Q=>⟨σ,N,Q,O⟩
end
theorem CP{K:Za}(h:WA)(a:jC<h.objs.size):cv P w K H (h.push { cls:=.type "dict",data:=.dict #[]}) h.objs.size (.dK []) :=
 ⟨cw _,beq_eq_false_iff_ne.mpr<|dD<|cG a,[],.nil,Heap.DictOf.new h⟩
theorem JI{K:Za}(h:WA)(a:jC<h.objs.size):cv P w K H (h.push { cls:=.type "dict",data:=.dict #[]}) h.objs.size (.dT []) :=
 ⟨cw _,beq_eq_false_iff_ne.mpr<|dD<|cG a,[],.nil,_,#[],0,dS _ rfl,⟨pw,pw,pw⟩,pw,pw,rT⟩
def sG:TE:=λ_ H Q=>∀p,H p=none->Q (.ref p) (upd H p<|.dK [])
def DM:TE:=λ_ H Q=>∀p,H p=none->Q (.ref p) (upd H p<|.dT [])
section
variable{X:Cx}{pos:Pos}
theorem mJ:PE X (.Dict [] [] pos) sG:=λe s σ H Q I h =>
 wpAny_Dict_empty ⟨.ref ↑s,_,I.laid (a:=↑s) (o:=.dK []) (t':=s.toks) (λ_ _ q=>bc _ q) (aB _)<|CP s.heap I.big,pw,h _<|I.A0.fresh<|aB _⟩
theorem Cg:PE X (.Dict [] [] pos) DM:=λe s σ H Q I h =>
 wpAny_Dict_empty ⟨.ref ↑s,_,I.laid (a:=↑s) (o:=.dT []) (t':=s.toks) (λ_ _ q=>bc _ q) (aB _)<|JI s.heap I.big,pw,h _<|I.A0.fresh<|aB _⟩
end
def Dz:List (TE×TE)->St->Hp->(List (V×V)->Hp->Prop)->Prop
 |[],_,H,Q=>Q [] H
 | (tk,tv)::r,σ,H,Q=>tk σ H λx H1=>tv σ H1 λy H2=>Dz r σ H2 λps H3=>Q ((x,y)::ps) H3
abbrev VV:List (V×V)->List (Wx×Wx)->Prop:=Paired λp q=>RelV p.1 q.1/\RelV p.2 q.2
def Og(X:Cx)(pos:Pos)(keys:List<|Option WB)(values:List WB)(RW:List<|TE×TE):Prop :=
 ∀(J4:Zd) (s:Ww) (σ:St) (H:Hp) (Q:List (V×V)->Hp->Prop),Inv X J4 σ H s->Dz RW σ H Q ->
  wpAny (model X.prog X.w) X.A (evalPairs<|pairTrees keys values X.env pos) (λvs s'=>∃ps H',Inv X J4 σ H' s'/\VV ps vs/\Q ps H') X.xe s
theorem KW:Og X a [] [] []:=λe s σ H Q I h=>pairTrees_nil_walk ⟨[],H,I,.nil,h⟩
theorem I_(l:PE X k tk)(m:PE X v j)(n:Og X a g i RW):
  Og X a (pe k::g) (v::i) ((tk,j)::RW):=λe s σ H Q I h =>
 pairTrees_cons_walk (cQ (l e s σ H _ I h) λu o ⟨x,p,q,r,t⟩=>cQ (m e o σ p _ q t) λL w ⟨y,z,A,B,C⟩ =>
  cQ (n e w σ z _ A C) λM N ⟨D,E,G,f,J⟩=>⟨(x,y)::D,E,G,.cons ⟨r,B⟩ f,J⟩)
def fP(kvs more:List<|cD×V):List (cD×V):=more.foldl (λacc kv=>eQ acc kv.1 kv.2) kvs
theorem KV.merge:∀{a:List (cD×V)}{i:List (cD×Wx)}{f:List (cD×V)}{g:List (cD×Wx)},KV a i->KV f g->KV (fP f a) (merged g i):=by
 intro a i f g r;unfold KV at r
 induction r generalizing f g with
 |nil=>intro q;exact q
 |@cons p q l qs h t j =>
  intro k;have e:KV (eQ f p.1 p.2) (stored g q.1 q.2):=by
   have:=k.put p.1 h.2;rw[<-h.1];exact this
  exact j e
theorem ka:∀(e a:List<|cD×V),(fP a e).length<=a.length+e.length
 |[],a=>by show a.length<=a.length+0;nofun
 |p::r,a=>by
  have f:=ka r<|eQ a p.1 p.2;have g:=mM a p.1 p.2;show(fP (eQ a p.1 p.2) r).length<=_;rw[da];nofun
theorem wm:∀{e:List (cD×V)}{g:List (Wx×Wx)},VV (e.map λi=>(kV i.1,i.2)) g->∃f,Carries (cp P w) g f/\KV e f
 |[],_,r=>by rw[List.map_nil]at r;cases r;exact⟨[],fU,.nil⟩
 |p::e,_,r=>by
  rw[bP]at r;cases r with
  |@cons a b k bs h t =>
   let⟨f,c,q⟩:=wm (P:=P) (w:=w) t;let⟨l,j⟩:=b;exact⟨(p.1,j)::f,⟨qQ h.1,pw,c⟩,.cons ⟨pw,h.2⟩ q⟩
def LM(RW:List<|TE×TE):TE:=fun σ H Q=>∀p,H p=none->Dz RW σ (upd H p<|.dK []) λps H2=>H2 p=pe (.dK [])/\∃kvs:List<|cD×V,ps=kvs.map (λkv=>(kV kv.1,kv.2))/\kvs.length<=15/\Q (.ref p) (upd H2 p<|.dK<|fP [] kvs)
theorem K2(h:Og X f keys values RW)(g:keys.all (·.isSome)=true)(p:keys.length=values.length)(r:keys≠[])(k:keys.length<=15):PE X (.Dict keys values f) (LM RW):=by
 intro t s σ H Q I q;have u:=I.A0.fresh<|aB ↑s;have v:=I.laid (a:=↑s) (o:=.dK []) (h':=s.heap.push { cls:=.type "dict",data:=.dict #[]}) (t':=s.toks) (λ_ _ q=>bc _ q) (aB _)<|CP s.heap I.big;refine wpAny_Dict_walk (knd:=cp X.prog X.w) g p r k<|cQ (h t _ σ _ _ v<|q _ u) λT U l=>?_;let⟨Y,H2,n,m,e,i,x,lk,y⟩:=l;subst x;let⟨A,c,B⟩:=wm (P:=X.prog) (w:=X.w) m;let⟨z,C,D,E,G⟩:=Md n.A0 e;cases E;apply⟨A,c,G,λh' j J=>⟨.ref ↑s,_,?_,pw,y⟩⟩;have L:(fP [] i).length<=ai:=by
  have M:=ka i [];rw[vc]at M;rw[lT];nofun
 have N:∃q,h'.get? ↑s=pe q:=let⟨q,_,_,O,_⟩:=j;⟨q,O⟩;exact uH n (by rw[e];exact fU) J N<|EH L C (B.merge .nil) j
structure M2(X:Cx)(o:WB)(m:WD)(J6:Pos)(e f:WB)(J5:Pos):Prop where
 base:xL o m X.env (eval o X.env)=eval o X.env
 Qb:((backTo J5 (aK [e,f] X.env)).all (λx=>!x.1) && (k_ J5 (k9 [] X.env)).all (λx=>x.1.isSome)
  && decide (([e,f]:List WB).length+([]:List Keyword).length+(if([]:List Keyword).isEmpty then 0 else 1)<30))=true
 line:(J6.endLine==J5.line)=true
 trees:backTo J5 (aK [e,f] X.env)=[(false,eval e X.env),(false,eval f X.env)]
def VS(H:Hp)(a:Wv):Prop:=(∃kvs,Rd H a<|.dK kvs)∨∃kvs,Rd H a (.dT kvs)
theorem MS(I:Inv X l σ H s)(d:VS H a):
  s.TypeIs (.ref a) "dict"/\(∀b,Value.ref a=.ref b->∃f,s.heap.get? b=pe f/\f.dict=none)/\(a==jC)=false:=by
 obtain⟨h,e⟩|⟨h,e⟩:=d
 .obtain⟨_,i,m,_,g⟩:=qW I.A0 e;apply⟨g.typeIs,λb q=>?_,i⟩;cases q;let⟨f,_,_,j,k,_⟩:=g;exact⟨f,j,k.2.1⟩
 .obtain⟨_,i,xs,_,g⟩:=v_ I.A0 I.OF e;apply⟨g.typeIs,λb q=>?_,i⟩;cases q;let⟨f,_,_,j,k,_⟩:=g;exact⟨f,j,k.2.1⟩
section
variable{X:Cx}{J4:Zd}{σ:St}{H:Hp}{s:Ww}{a:Wv}{y d:V}{u r:Wx}{o:Option V}{A:Wz}{E:Zc}
theorem MZ(x:A.units+16<cLine)(I:Inv X J4 σ H s)(g:Bi X.K H a y o)(p:RelV y u)(q:RelV d r)(h:∀t v,Inv X J4 σ H v->RelV (o.getD d) t->Q t v):
  wpAny (model X.prog X.w) A (call (.builtin "dict.get") [.ref a,u,r]) Q E s:=by
 obtain⟨j,k,e,m,l⟩|⟨j,k,b,e,m,B,C,l⟩:=g
 .subst m;let⟨z,n,D,f,i⟩:=qW I.A0 e;refine call_meetsIn PySem.F.slot_dict_get i.typeIs PySem.F.entry_dict_get (PySem.F.args_dict_get_3 _ _ _) (meets_dict_get_default (cp X.prog X.w) a (qQ p) n r) ⟨_,i.mapOf,h _ _ (I.tok _) ?_⟩;rw[l];exact(f.val k).getD q
 .subst m;cases(show u=Value.ref b from p);let⟨z,n,xs,f,i⟩:=v_ I.A0 I.OF e;refine call_meetsIn PySem.F.slot_dict_get i.typeIs PySem.F.entry_dict_get (PySem.F.args_dict_get_3 _ _ _) (meetsH_dict_get_default (gK X.prog X.w) a b n r) ⟨iY x,k,xs,AI I B C,i,h _ _ (I.tok _) ?_⟩;rw[l];exact(f.val k).getD q
end
def Al(K:Za)(td ty tx:TE):TE:=fun σ H Q=>td σ H λx H1=>∃a,x=.ref a/\VS H1 a/\ty σ H1 λy H2=>tx σ H2 λz H3=>∃o,Bi K H3 a y o/\Q (o.getD z) H3
section
variable{X:Cx}{o e f:WB}{J6 J5:Pos}{td ty tx:TE}
theorem vS(n:X.A.units+16<cLine)(p:PE X o td)(q:PE X e ty)(hf:PE X f tx)(m:M2 X o "get" J6 e f J5):PE X (.Call (.Attribute o "get" J6) [e,f] [] J5) (Al X.K td ty tx):=by
 intro i s σ H Q I h;refine wpAny_Call_method m.base m.Qb m.line PySem.F.plainAttrs_dict PySem.F.slot_dict_get PySem.F.type_dict_get<|cQ (p i s σ H _ I h) λu r j=>?_;let⟨x,t,l,v,a,ex,d,w⟩:=j;subst ex;obtain rfl:u=Value.ref a:=v;let⟨B,C,_⟩:=MS l d;apply⟨B,C,?_⟩;rw[m.trees];refine Calls.callWith_builtin rfl (Calls.evalArgs_plain (Calls.spliced_cons (cQ (q i r σ t _ l w) λY D ⟨y,E,G,J,L⟩ =>
  Calls.spliced_cons (cQ (hf i D σ E _ G L) λfv s3 ⟨z,M,N,O,ov,g,T⟩=>Calls.spliced_nil ?_))))
 exact MZ n N g J O λw' s4 U k=>⟨_,M,U,k,T⟩
end
end L2
namespace VX
open PySem PySem.W PySem.Calls PyProof.Rows
theorem Qu:∀(e:List Int) (vs:Zf),WellAll P h vs (e.map WData.int)->vb vs e:=by
 intro e
 induction e with
 |nil =>
  intro vs w;rw[List.map_nil]at w;cases w;exact .nil
 |cons n e f =>
  intro vs w;rw[bP]at w;cases w with
  |cons a b =>
   cases a;exact .cons _ _<|f _ b
theorem Sv{l:OpenLaw}(u:l.most=pe n)(g:l.row.toRowW.claim.pre args=true)(o:WellAll P h f args) :
  ∃a s e,f=[Value.ref a]/\args=[WData.list<|e.map WData.int]/\h.get? a=pe { cls:=.type "list",data:=.seq s.toArray}/\vb s e/\e.length<=n:=by
 have p:WShape.hasAll [] args [.list .int]=true:=(pre_splitW g).1;have t:l.pre.holds [] { args:=args}=true:=(pre_splitW g).2;let⟨d,r,rfl,v,w⟩:=hasAllW_cons p;obtain rfl:=hasAllW_nil w;let⟨xs,rfl,x⟩:=hasW_list v;let⟨e,rfl⟩:=items_int x;have i:e.length<=n:=by
  unfold OpenLaw.pre at t;have k:(WTm.not<|.lt (.lit<|.int (n:Int))<|.len<|.arg 0).holds [] { args:=[.list<|e.map .int]}=true:=by
   have k:=(holds_andW t).1;rw[u]at k;exact k
  have m:=condW_of k<|w_not<|w_lt w_lit<|w_len_list<|w_arg rfl;rw[am]at m;refine Nat.le_of_not_lt λq=>?_;have y:(n:Int)<((e.length:Nat):Int):=by nofun
  first
   | (rw[qh y]at m;exact absurd m WE)
   | (simp at m;nofun)
 cases o with
 |cons z A =>
  cases A;cases z with
  |list B j=>exact⟨_,_,e,pw,pw,B,Qu e _ j,i⟩
theorem Sx(l:OpenLaw)(args:List WData):l.row.toRowW.claim.post args (.bool true) args=true :=
 postW_of (r:=l.row.toRowW) (X:=(true==true))
  (show WShape.has [] (.bool true) .bool=true by first|rfl|decide|simp[WShape.has,WShape.arms,WShape.armsAll])
  (show(WTm.eq .res<|.lit<|.bool true).value [] { args:=args,res:=pe<|.bool true,after:=args}=pe (.bool<|true==true)from w_eq_bool (w_res rfl) w_lit) rfl
theorem RQ{l:OpenLaw}{d:DefRec}(I:l.most=pe n)(u:d.params.defaults=[])(call:∀(w:Wy) (g e:Ww) (p v:WD->Option Wx) (i:Wv) (o:Obj) (x cd doc:Wx) (a:Wv) (h:Zf) (s:List Int),
   Ground q loose [] B w g p v e.heap->C w e.heap ->
   e.heap.get? i=pe o->o.data=.func (docDef d.name d.params d.body d.scope x cd doc)->e.heap.CodeRec cd d.name->p d.name=pe (.ref i) ->
   e.heap.get? a=pe { cls:=.type "list",data:=.seq h.toArray}->vb h s->s.length<=n->e.gens=#[] ->
   O0 (model l.prog w) mh (.call (.ref i) ⟨[.ref a],[]⟩) (λr t=>r=.ok (.ret<|.bool true)/\OldK e.heap t.heap/\t.os=e.os/\n_ t.gens) e) :
  WalkO q loose B C l.row.toRowW d [] (λf h=>PySem.call f h):=by
 intro w g e p v G Y i o x cd doc J kV L M y D z N args E as j H O A Q;obtain rfl:J=.none:=Dflts.none D u;obtain rfl:kV=.none:=Dflts.noKw D;let⟨a,h,s,rfl,rfl,k,hints,m⟩:=Sv I j A;refine enter_call<|si (call w g e p v i o x cd doc a h s G Y L (fd_plain M) y z k hints m N) λr t T=>?_;let⟨rfl,U,h3,h4⟩:=T;exact⟨.inl ⟨.bool true,.bool true,[],pw,λ_=>rfl,.bool true,Sx l _,λ_=>⟨List.Pairwise.nil,λ_ hm=>(nomatch hm)⟩⟩,U,h3,h4⟩
end VX
namespace L2
open PySem Spec PyProof.Rows
theorem xR:∀{a:Zf}{e:List Int},vb a e->bg (e.map V.int) a
 |_,_,.nil=>.nil
 |_,_,.cons n t h=>.cons ⟨t,pw⟩<|xR h
def Ly(H:Hp):Prop:=∀b,H b=none∨∃o xs,H b=pe (.PF o<|.lst xs)
theorem Js{K:Za}(KX:K.In f.heap)(C:f.heap.Ns bq A)(i:f.heap.Ns builtinsNs T)(Y:∀x:WD,x≠"__name__"->T x=iM x)(D:f.heap.NoLimit)(hg:f.gens=#[])(Q:f.heap.get? a=pe { cls:=.type "list",data:=.seq t.toArray})(hi:vb t B)(hl:B.length<=ai)(hr:eG k mh)(F:∀base:WA,K.In base->base.Ns bq A->ju P w K A base CX k U fd [x] sp)(y:∀(s:Ww) (u:Wx),oP s fd ⟨[u],[]⟩ [(x,u)])(ab:∀H:Hp,Ly H->aA K H a (B.map V.int)->sp [.ref a] H (λv _=>v=.bl true) λ_ _ _=>False)(al:∀H e j,CX [] H f (λ_ _ _=>False) e j->False) :
  O0 (model P w) mh (.call (.ref U) ⟨[.ref a],[]⟩) (λr j=>r=.ok (.ret<|.bool true)/\OldK f.heap j.heap/\j.os=f.os/\n_ j.gens) f:=by
 have rv:=xR hi;have E:=hi.length;have p:∀H:Hp,Ly H->aA K H a (B.map V.int)->lY P w K H f.heap->(∀b,H b≠none->b=a)->(H a≠none->K.lookup a=none) ->
   O0 (model P w) mh (.call (.ref U) ⟨[.ref a],[]⟩) (λr j=>r=.ok (.ret<|.bool true)/\OldK f.heap j.heap/\j.os=f.os/\n_ j.gens) f:=by
  intro H hO hS G hA hK;have g:∀{b:Wv}{o:Obj},f.heap.get? b=pe o->H b=none->(AL f.heap H).get? b=pe o:=λe n=>JB e n;have an:∀{b:Wv}{o:Obj}{I:Array DictEntry}{J:Nat},f.heap.get? b=pe o->o.data=.dict I J->H b=none:=fun{b o I J} e d=>by
   cases q:H b with
   |none=>rfl
   |some u =>
    have e':b=a:=hA b (by rw[q];simp);subst e';rw[Q]at e;cases e;have d':Data.seq t.toArray _=Data.dict I J:=d;cases d'
  have l:∀{b:Wv}{m:WD->Option Wx},f.heap.Ns b m->(AL f.heap H).Ns b m:=fun{b m} ⟨o,I,J,e,d,r⟩=>⟨o,I,J,g e<|an e d,d,r⟩;have L:K.In (AL f.heap H):=λb o e=>g (KX b o e) (by
   cases q:H b with
   |none=>rfl
   |some u =>
    have e':b=a:=hA b (by rw[q];simp);subst e';rw[hK (by rw[q];simp)]at e;cases e)
  have hM:Mod K A (AL f.heap H):=⟨L,l C,⟨T,l i,Y⟩,let⟨mc,h1,h2⟩:=D;⟨mc,l h1,h2⟩⟩;have e0:EZ P w K A (AL f.heap H) mh [] f H:=⟨pw,hM,λb o e=>K6 e,Nat.le_of_eq<|Hn _ _,trivial,λb i=>absurd (show b∈([]:Ze)from i) ∅,G,.of_eq hg⟩;refine si ((F _ L<|l C).run mh [] f H ⟨[.ref a],[]⟩ [.ref a] [.ref a] _ _ hr e0 (y f<|.ref a) (.cons rfl .nil)<|ab H hO hS) λr j h=>?_;cases r with
  |error e=>exact(al H e j h).elim
  |ok fl =>
   cases fl with
   |next=>exact dU h
   |brk=>exact dU h
   |cont=>exact dU h
   |ret u =>
    let⟨v,H',os,M,un,N,r',q⟩:=h;have q':v=.bl true:=q;subst q';obtain rfl:u=Value.bool true:=r';apply⟨pw,OldK.of_keep λb o e=>?_,os,M⟩;cases q:H b with
    |none=>exact un.keep b o e q (by intro z;exact absurd (show b∈([]:Ze)from z) ∅) ∅
    |some u =>
     obtain z|⟨ob,xs,z⟩:=hO b
     .rw[q]at z;cases z
     .have z2:=un.RI b ob _ z;let⟨e1,_⟩:=G b _ z;let⟨e2,_⟩:=N b _ z2;rw[e]at e1;cases e1;exact e2
 cases hk:K.lookup a with
 |some o =>
  have e:=KX a o hk;rw[Q]at e;cases e;refine p (λ_=>none) (λ_=>.inl rfl) (.inr ⟨_,t.toArray,_,hk,pw,pw,pw,by rw[bM,E];exact hl,by simpa using rv⟩) (λb u z=>by have O:(none:Option HO)=pe u:=z;cases O) (λb z=>absurd rfl z) λz=>absurd rfl z
 |none =>
  refine p (λb=>if b=a then pe (.PF { cls:=.type "list",data:=.seq t.toArray} (.lst<|B.map V.int))else none) (λb=>?_) (.inl<|.inr ⟨{ cls:=.type "list",data:=.seq t.toArray},if_pos rfl⟩) (λb u z=>?_) (λb z=>?_) λ_=>hk
  .by_cases i:b=a
   .exact .inr ⟨_,_,if_pos i⟩
   .exact .inl<|if_neg i
  .by_cases i:b=a
   .have O:=(if_pos i).symm.trans z;cases O;subst i;exact⟨Q,by rw[am];exact hl,t,_,rv,Q⟩
   .have O:=(if_neg i).symm.trans z;cases O
  .by_cases i:b=a
   .exact i
   .exact absurd (if_neg i) z
end L2
namespace L2
open PySem Spec PyProof.Rows
theorem Kq{l:PySem.W.OpenLaw}{n k:Nat}{q:bI}{loose:Zb}{N:(WD->Option Wx)->WA->Prop}{I:Wy->WA->Prop}{d:DefRec}{K:Params->Za}{CX:Wy->HP}{sp:Wy->Sp}{x:WD}
  (O:l.most=pe n) (y:n<=ai) (z:d.params.defaults=[]) (Q:eG k mh)
  (U:∀(w:Wy) (h:WA),I w h->(K w.params).In h)
  (F:∀(w:Wy) (j:WD->Option Wx) (r:Wv) (h:WA),(K w.params).In h->h.Ns bq j->j d.name=pe (.ref r) ->
   ∃A:iL,(∀(s:Ww) (u:Wx),oP s A ⟨[u],[]⟩ [(x,u)]) /\
    ∀base:WA,(K w.params).In base->base.Ns bq j->ju l.prog w (K w.params) j base (CX w) k r A [x] (sp w))
  (B:∀(w:Wy) (H:Hp) (a:Wv) (t:List Int),t.length<=n->Ly H->aA (K w.params) H a (t.map V.int)->sp w [.ref a] H (λv _=>v=.bl true) λ_ _ _=>False)
  (C:∀(w:Wy) (H:Hp) (s:Ww) (e:Wx) (D:Ww),CX w [] H s (λ_ _ _=>False) e D->False) :
  PySem.W.WalkO q loose N I l.row.toRowW d [] (λf J=>PySem.call f J):=by
 refine VX.RQ O z λw L m j mb r o pm cd doc a J t G Y ho hd ab E p hints i hg=>?_;have M:=U w _ Y;let⟨A,hb,hF⟩:=F w j r _ M G.T.g E;exact Js M G.T.g G.T.b G.T.builtins G.T.nolimit hg p hints (bh i y) Q hF hb (λH hO hS=>B w H a t i hO hS) λH e D=>C w H m e D
theorem SW{l:PySem.W.OpenLaw}{n k:Nat}{q:bI}{loose:Zb}{A:(WD->Option Wx)->WA->Prop}{t:Wy->WA->Prop}{d:DefRec}{K:Params->Za}{CX:HP}{sp:Za->Sp}{x:WD}
  (B:l.most=pe n) (j:n<=ai) (m:d.params.defaults=[]) (C:eG k mh)
  (D:∀(w:Wy) (h:WA),t w h->(K w.params).In h)
  (F:∀(w:Wy) (g:WD->Option Wx) (y:Wv) (h:WA),(K w.params).In h->h.Ns bq g->g d.name=pe (.ref y) ->
   ∃z:iL,(∀(s:Ww) (u:Wx),oP s z ⟨[u],[]⟩ [(x,u)]) /\
    ∀base:WA,(K w.params).In base->base.Ns bq g->ju l.prog w (K w.params) g base CX k y z [x] (sp<|K w.params))
  (o:∀(K:Za) (H:Hp) (a:Wv) (i:List Int),i.length<=n->Ly H->aA K H a (i.map V.int)->sp K [.ref a] H (λv _=>v=.bl true) λ_ _ _=>False)
  (p:∀(H:Hp) (s:Ww) (e:Wx) (r:Ww),CX [] H s (λ_ _ _=>False) e r->False) :
  PySem.W.WalkO q loose A t l.row.toRowW d [] (λf E=>PySem.call f E) :=
 Kq (K:=K) (CX:=λ_=>CX) (sp:=λw=>sp<|K w.params) B j m C D F (λw H a i G I J=>o (K w.params) H a i G I J) λ_ H s e r=>p H s e r
end L2
namespace L2
open PySem Spec PyProof.Rows
def iW(s:WC)(j:Nat):WC:=match s with
 |.ClassDef _ _ _ body _ _ _ _ _ _ _=>body.getD j<|.Pass ⟨0,0,0,0⟩
 |_=>.Pass ⟨0,0,0,0⟩
def iX(s:WC):Arguments:=match s with
 |.FunctionDef _ a _ _ _ _ _ _ _ _=>a
 |_=>{ posonlyargs:=[],args:=[],vararg:=none,kwonlyargs:=[],kw_defaults:=[],kwarg:=none,defaults:=[]}
def f_(s:WC):List WC:=match s with
 |.FunctionDef _ _ b _ _ _ _ _ _ _=>b
 |_=>[]
def bL(s:WC):Scope:=match s with
 |.FunctionDef _ _ _ _ _ _ sc _ _ _=>sc
 |_=>{ kind:=.function,names:=[],isGenerator:=false,isCoroutine:=false}
abbrev RT:HP:=λ_ _ _ _ _ _=>False
abbrev E0:XK:=λ_ _ _=>False
abbrev aI(sp:Sp)(a:TA):TE:=oj sp [] E0 a
theorem FK:pC RT X E0:=λ_ _ _ _ _ _ _ h=>h.elim
structure Mj(K:Za)(x qual:WD)(st:WC)(f:Wv)(fd:iL):Prop where
 ex:∃(oc:Wx) (od:Option Wv) (kV doc pm:Wx) (an:Option Wv) (T8 ct:Wx) (V':Array (Option Wx)),
  fd=jb x qual (iX st) (f_ st) (bL st) .none kV doc pm an T8 ct/\K.lookup f=pe ⟨oc,od,.func fd,V'⟩/\oK K T8 qual=true
 kp:db K (.ref f)=true
section
variable{P:bI}{w:Wy}{K:Za}{mg:WD->Option Wx}{base:WA}
theorem Mj.ok{x a:WD}{st:WC}{f:Wv}{o:iL}{N j:Zb}{k:Nat}{l:Sp}(F:Mj K x a st f o)(S:iw N j<|bL st)(len:∀g H Q E,l g H Q E->g.length=j.length)
  (i:∀(e:Wx) (A:Wz) (outer:List Env) (s:Ww) (H:Hp) (g:List V) (Q:VK) (E:XK),eG k (A.deeper<|envOfC a (bL st) ↑s f e)->l g H Q E ->
   ∃t,A9 (xD RT P w K mg base N a (bL st) f e A outer s H E).Qx (f_ st) t/\t (bH Q) (start N g) H):ju P w K mg base RT (k+1) f o j l:=by
 let⟨u,v,kV,doc,y,z,e,B,p,rfl,lk,m⟩:=F.ex;refine L_ lk m S len λA outer s H g Q E r n=>?_;let⟨t,h,q⟩:=i e A outer s H g Q E r n;exact⟨t,h.Qx,q⟩
theorem Mj.binds{x a:WD}{st:WC}{f:Wv}{l:iL}{ps:Zb}(F:Mj K x a st f l)
  (h:∀(kV doc g:Wx) (i:Option Wv) (e j:Wx) (k:Zf),k.length=ps.length->bindArgs (jb x a (iX st) (f_ st) (bL st) .none kV doc g i e j) ⟨k,[]⟩=pure (ps.zip k)):Binds K l ps []:=by
 let⟨o,p,kV,doc,g,i,e,j,m,rfl,lk,n⟩:=F.ex;exact .all<|h kV doc g i e j
theorem JE{x a:WD}{st:WC}{f:Wv}{m:Wx}{n h:Option Wv}{g:Array (Option Wx)}{kV doc i e j:Wx}(l:K.lookup f=pe ⟨m,n,.func<|jb x a (iX st) (f_ st) (bL st) .none kV doc i h e j,g⟩)
  (c:oK K e a=true) (k:db K (.ref f)=true):Mj K x a st f (jb x a (iX st) (f_ st) (bL st) .none kV doc i h e j):=⟨⟨m,n,kV,doc,i,h,e,j,g,pw,l,c⟩,k⟩
end
theorem yq(a:eG k A):A.units+16<cLine:=zM (Nat.add_le_add_left (by decide:16<=64) _) a.units
theorem ax(h:n<=1000):n<ai:=zM h WE
section
variable{X:Cx}
theorem pv(i:Nat)(f:X.N[i]?=pe x:=by rfl)(g:Vk X.env.scope x:=by first|exact Or.inl rfl|exact Or.inr (Or.inl rfl)|exact Or.inr<|Or.inr rfl)(h:(x==("__debug__":WD))=false:=by decide)(e:(x==("__classdict__":WD))=false:=by decide):PE X (.Name x a) (j_ i):=ML f g h e
end
theorem aY{A B:Prop}(h:B):if false=true then A else B:=by
 rw[if_neg jZ];exact h
theorem bo{A B:Prop}(h:A):if true=true then A else B:=by
 rw[if_pos rfl];exact h
theorem kb{c A B:Prop}[Decidable c](a:c->A)(e:¬c->B):if c then A else B:=by
 by_cases h:c
 .rw[if_pos h];exact a h
 .rw[if_neg h];exact e h
def ac(H H':Hp):Prop:=∀b o,H b=pe o->H' b=pe o
theorem ac.refl(H:Hp):ac H H:=λ_ _ h=>h
theorem ac.trans(a:ac H e)(b:ac e f):ac H f:=λc o h=>b c o<|a c o h
theorem ac.free(e:ac H a)(h:a l=Option.none):H l=Option.none:=by
 cases q:H l with
 |none=>rfl
 |some o =>
  rw[e l o q]at h;cases h
theorem ac.seq{K:Za}(e:ac H f)(h:aA K H a xs):aA K f a xs:=by
 obtain(h|⟨o,h⟩)|h:=h
 .exact .inl<|.inl<|e _ _ h
 .exact .inl<|.inr ⟨o,e _ _ h⟩
 .exact .inr h
section
variable{prog:bI}{w:Wy}{A:Wz}{R:Result->Ww->Prop}{s:Ww}
abbrev XF:Wx->Ww->Prop:=λ_ _=>False
abbrev EC(ifs:List WB)(env:Env):Sem Bool:=forIn ifs true λc r=>if r=true then do let ok <- isTrue c env (eval c env);pure (zK ok)else pure (zK r)
theorem AU(I:Nat->Ww->Prop)(turn:∀n s,I n s->wpAny (model prog w) A (pyNext it) (λr e=>match r with
   |none=>R (.ok .next) e
   |some v=>wpAny (model prog w) A (Ff target it v) (λ_ f=>wpAny (model prog w) A (assign target a v) (λ_ k =>
     wpAny (model prog w) A (EC u a) (λok g =>
      if ok=true then wpAny (model prog w) A (eval t a) (λx l =>
       wpAny (model prog w) A (call (.builtin "list.append") [y,x]) (λ_ o=>∃m,m<n/\I m o) XF l) XF g
      else ∃m,m<n/\I m g) XF k) XF f) XF e) XF s)(n:Nat)(h:I n s):O0 (model prog w) A (.compLoop (.ListComp t [⟨target,j,u,0⟩] scope B) 0 it y a) R s:=by
 refine codeAny_loop rfl I (λn s G=>?_) n h;show wpAny _ A ((compTurn (.ListComp t [⟨target,j,u,0⟩] scope B) 0 it y a).onRaise<|λx=>do rS x a;theTreesLotGoes x) _ _ s
 refine wpAny_noted ?_;rw[compTurn_list];refine ap<|uK<|ap<|c6 (turn n s G) (λr e p=>?_) λ_ _ i=>i.elim;cases r with
 |none=>exact aR p
 |some v =>
  refine ap<|c6 p (λ_ f z=>?_) λ_ _ i=>i.elim;refine ap<|c6 z (λ_ k C=>ap<|c6 C (λok g q=>?_) λ_ _ i=>i.elim) λ_ _ i=>i.elim;cases ok with
  |false=>exact aR ⟨pw,q⟩
  |true =>
   exact ap<|ap<|c6 q (λx l D=>ap<|c6 D (λ_ o E=>aR<|aR ⟨pw,E⟩) λ_ _ i=>i.elim) λ_ _ i=>i.elim
end
theorem pA:∀(names:List<|WD×h_) (a:List<|WD×Wv),(∀y∈names,y.2=.free->∃c,env.cells.lookup y.1=pe c)->(∀x c,a.lookup x=pe c->env.cells.lookup x=pe c) ->
  ∃f:List<|WD×Wv,(forIn names a λ(x:WD×h_) (r:List<|WD×Wv)=>if(x.2==mf)=true then(cellOf env x.1 >>= λc=>(pure (zK<|(x.1,c)::r):Sem<|ForInStep<|List<|WD×Wv))else pure (zK r))=pure f /\
   (∀x c,f.lookup x=pe c->env.cells.lookup x=pe c)/\(∀x,(a.lookup x).isSome=true->(f.lookup x).isSome=true)/\∀y∈names,y.2=.free->(f.lookup y.1).isSome=true
 |[],a,_,m=>⟨a,pw,m,λ_ h=>h,λ_ h=>nomatch h⟩
 | (n,k)::r,a,has,m=>by
  have t:∀y∈r,y.2=.free->∃c,env.cells.lookup y.1=pe c:=λy hy=>has y<|de _ hy;by_cases p:k=.free
  .subst p;let⟨c,u⟩:=has (n,.free) cF rfl;let⟨f,e,q,o,s⟩:=pA r ((n,c)::a) t (λx d l=>by
    rw[i8]at l;cases hx:x==n with
    |true =>
     rw[hx]at l;have:x=n:=by simpa using hx
     subst this;cases l;exact u
    |false=>rw[hx]at l;exact m x d l)
   have g:(((n,c)::a).lookup n).isSome=true:=by rw[i8,beq_self_eq_true];rfl
   have i:∀x,(a.lookup x).isSome=true->(((n,c)::a).lookup x).isSome=true:=λx hx=>by
    rw[i8];cases x==n with
    |true=>rfl
    |false=>exact hx
   apply⟨f,?_,q,λx hx=>o x<|i x hx,λy hy hf=>?_⟩
   .rw[va];have j:cellOf env n=pure c:=by unfold cellOf;rw[u]
    simp only[beq_self_eq_true,if_true,j];exact e
   .obtain rfl|hy:=b_.mp hy
    .exact o _ g
    .exact s y hy hf
  .obtain⟨f,e,q,o,s⟩:=pA r a t m;apply⟨f,?_,q,o,λy hy hf=>?_⟩
   .rw[va];have v:(k==mf)=false:=by simpa using p
    simp only[v,xO,if_false];exact e
   .obtain rfl|hy:=b_.mp hy
    .exact absurd hf p
    .exact s y hy hf
theorem pq(has:∀y∈scope.names,y.2=.free->∃c,env.cells.lookup y.1=pe c):
  ∃a:List<|WD×Wv,closureFor scope env=pure a/\(∀x c,a.lookup x=pe c->env.cells.lookup x=pe c)/\∀y∈scope.names,y.2=.free->(a.lookup y.1).isSome=true:=by
 let⟨a,e,f,_,g⟩:=pA (env:=env) scope.names [] has<|λ_ _ h=>nomatch h;apply⟨a,?_,f,g⟩;unfold closureFor
 first
  |exact e
  | (simp only[bind_pure];exact e)
  | (rw[show(forIn scope.names [] _:Sem<|List<|WD×Wv)=pure a from e];rfl)
def dQ(X:Cx)(N:Zb)(scope:Scope)(C:Wv)(cl:List<|WD×Wv)(s₀:Ww)(H₀:Hp)(ex:Ze)(pn:Zd):Cx where
 prog:=X.prog
 w:=X.w
 K:=X.K
 mg:=X.mg
 base:=X.base
 A:=X.A
 N:=N
 s₀:=s₀
 H₀:=H₀
 env:=compEnvC scope cl C X.env
 outer:=X.stack
 stack:=X.stack
 ex:=ex
 fn:=λ_=>false
 calm:=X.calm
 pn:=pn
 xe:=XF
def lI(sc scope:Scope)(k:Nat)(N XN:Zb)(fi:List Nat):Bool :=
 decide (scope.kind=.function) &&
 (scope.names.all λy=>decide (y.2≠.cell) && (decide (y.2≠.local) || decide (scope.names.lookup y.1=pe .local)) && (decide (y.2≠.free) || decide (sc.names.lookup y.1=pe .cell) || decide (sc.names.lookup y.1=pe .free))) &&
 decide (N.length=k+fi.length) &&
 ((kA fi.length).all λj=>match fi[j]? with
  |some i=>match N[k+j]?,XN[i]? with
   |some x,pe y=>decide (x=y) && decide (scope.names.lookup x=pe .free)
   |_,_=>false
  |none=>false)
structure m9(sc scope:Scope)(k:Nat)(N XN:Zb)(fi:List Nat):Prop where
 kind:scope.kind=.function
 cell:∀y∈scope.names,y.2≠.cell
 nm:∀y∈scope.names,y.2=.local->scope.names.lookup y.1=pe .local
 fr:∀y∈scope.names,y.2=.free->sc.names.lookup y.1=pe .cell∨sc.names.lookup y.1=pe .free
 len:N.length=k+fi.length
 sl:∀j i,fi[j]?=pe i->∃x,N[k+j]?=pe x/\XN[i]?=pe x/\scope.names.lookup x=pe .free
theorem m9.of(h:lI sc scope k N g l=true):m9 sc scope k N g l:=by
 unfold lI at h;simp only[oJ,u_,Bool.or_eq_true,decide_eq_true_eq]at h;let⟨⟨⟨n,m⟩,o⟩,p⟩:=h;apply⟨n,λy f=>(m y f).1.1,λy f e=>((m y f).1.2).resolve_left λz=>z e,λy f e=>?_,o,λj i e=>?_⟩
 .obtain(z|z)|z:=(m y f).2
  .exact absurd e z
  .exact .inl z
  .exact .inr z
 .have r:j<l.length:=(cx.mp e).1;have q:=p j<|List.mem_range.mpr r;rw[e]at q;dsimp only at q;cases a:N[k+j]? with
  |none=>rw[a]at q;cases q
  |some x =>
   cases b:g[i]? with
   |none=>rw[a,b]at q;cases q
   |some y =>
    rw[a,b]at q;simp only[oJ,decide_eq_true_eq]at q;exact⟨x,pw,by rw[q.1],q.2⟩
theorem iP{a:Env}:∀{names:List (WD×h_)}{x:WD},names.lookup x=pe .free ->
  (names.map λ(n,k)=>if(k==mf && a.scope.kind==.function && a.kindOf n==pe .cell)then(n,h_.cell)else(n,k)).lookup x=pe .cell ∨
  (names.map λ(n,k)=>if(k==mf && a.scope.kind==.function && a.kindOf n==pe .cell)then(n,h_.cell)else(n,k)).lookup x=pe .free
 |[],_,h=>by simp at h
 | (n,k)::r,x,h=>by
  have f:=@iP a r x;simp only[bP];cases hx:x==n with
  |true =>
   simp only[i8,hx]at h;cases h;by_cases e:(mf==mf && a.scope.kind==.function && a.kindOf n==pe .cell)=true
   .left;rw[if_pos e];simp[i8,hx]
   .right;rw[if_neg e];simp[i8,hx]
  |false =>
   simp only[i8,hx]at h;by_cases e:(k==mf && a.scope.kind==.function && a.kindOf n==pe .cell)=true
   .rw[if_pos e];simp only[i8,hx];exact f h
   .rw[if_neg e];simp only[i8,hx];exact f h
def dA(k:Nat)(fi:List Nat)(σ:St):St:=eM k none++fi.map λi=>(σ[i]?).join
theorem EI(k:Nat)(a:List Nat)(σ:St):(dA k a σ).length=k+a.length:=by simp[dA]
theorem wj(h:(dA k f σ)[i]?=pe (pe v)):∃j t,i=k+j/\f[j]?=pe t/\σ[t]?=pe (pe v):=by
 unfold dA at h;by_cases hi:i<k
 .rw[vi (by simpa using hi),List.getElem?_replicate_of_lt hi]at h;cases h
 .rw[iF (by simp;nofun),dh,eL]at h;apply⟨i-k,?_⟩;cases e:f[i-k]? with
  |none=>rw[e]at h;cases h
  |some t =>
   rw[e]at h;simp only[vd]at h;apply⟨t,by nofun,pw,?_⟩;have a:=ff h;cases g:σ[t]? with
   |none=>rw[g]at a;cases a
   |some o=>rw[g]at a;simp only[Option.join]at a;first|(rw[a])|(subst a;rfl)|(simpa using a)
def A_(k:Nat)(g:TG):Prop:=∀x σ H Q,g x σ H Q->g x σ H fun σ2 H2=>Q σ2 H2/\σ2.length=σ.length/\∀i,k<=i->σ2[i]?=σ[i]?
def Gj(k:Nat)(g:HV):Prop:=∀x σ H Q,g x σ H Q->g x σ H fun σ2 H2=>Q σ2 H2/\σ2.length=σ.length/\∀i,k<=i->σ2[i]?=σ[i]?
theorem bb(h:i<k):A_ k (fc i):=λx σ H Q q=>⟨q,by simp,λj a=>by rw[Fh ⋯]⟩
theorem kK:Gj k gh:=λx σ H Q ⟨e,q⟩=>⟨e,q,pw,λ_ _=>rfl⟩
def Kb(g:TG):Prop:=∀x σ H Q Q',(∀σ2 H2,Q σ2 H2->Q' σ2 H2)->g x σ H Q->g x σ H Q'
def Bh(g:HV):Prop:=∀x σ H Q Q',(∀σ2 H2,Q σ2 H2->Q' σ2 H2)->g x σ H Q->g x σ H Q'
theorem bv:Kb (fc i):=λ_ _ _ _ _ f q=>f _ _ q
theorem cU:Bh gh:=λ_ _ _ _ _ f ⟨e,q⟩=>⟨e,f _ _ q⟩
theorem ei(a:Kb g)(h:Bh u):Bh (aS g u):=λ_ _ _ _ _ f ⟨v,r,e,q⟩=>⟨v,r,e,a _ _ _ _ _ (λ_ _ q=>h _ _ _ _ _ f q) q⟩
theorem cS(a:A_ k g)(f:Kb g)(h:Gj k u)(j:Bh u):Gj k (aS g u):=λx σ H Q ⟨v,r,e,q⟩ =>
 ⟨v,r,e,f _ _ _ _ _ (fun σ2 p ⟨q,l,s⟩=>j _ _ _ _ _ (fun σ3 t ⟨m,n,o⟩=>⟨m,n.trans l,λi hi=>(o i hi).trans<|s i hi⟩)<|h _ _ _ _ q)<|a _ _ _ _ q⟩
theorem nI{K:Za}(h:Gj k t):A_ k (gC K n t):=λx σ H Q ⟨a,xs,e,f,g,q⟩=>⟨a,xs,e,f,g,h _ _ _ _ q⟩
def Lx(X:Cx)(ifs:List WB)(t:TT):Prop :=
 ∀(J4:Zd) (s:Ww) (σ:St) (H:Hp) (Q:Bool->Hp->Prop),Inv X J4 σ H s->t σ H Q->wpAny (model X.prog X.w) X.A (EC ifs X.env) (TP X J4 σ Q) X.xe s
def jc:TT:=λ_ H Q=>Q true H
theorem cL:Lx X [] jc:=λa s σ H Q I h=>aR ⟨H,I,h⟩
theorem lC(h:PT X c t):Lx X [c] t:=by
 intro a s σ H Q I e;unfold EC;rw[va];simp only[if_true];refine ap<|ap<|cQ (h a s σ H Q I e) λb f q=>aR ?_;exact aR q
def dE(k:Nat)(fi:List Nat)(wi:TI)(g:TG)(tc:TT)(te:TE):TE:=fun σ H Q=>wi σ H λJ H1=>∀l,H1 l=none->∃W:Nat->Nat->List V->Hp->Prop,(∃m,W 0 m []<|upd H1 l<|.lst [])/\∀i m vs H2,W i m vs H2->H2 l=pe (.lst vs) /\
 ((J.stop i H2/\Q (.ref l) H2)∨(J.go i H2/\∀x H3,J.Sq i H2 x H3->g x (dA k fi σ) H3 fun σ2 H4=>tc σ2 H4 λb H5 =>
  if b=true then te σ2 H5 λv H6=>H6 l=pe (.lst vs)/\vs.length<ai/\∃m',m'<m/\W (i+1) m' (vs++[v]) (upd H6 l<|.lst<|vs++[v])else ∃m',m'<m/\W (i+1) m' vs H5))
section
variable{X:Cx}{J4:Zd}{σ:St}
theorem Ln{k:Nat}{N:Zb}{scope:Scope}{D:List Nat}{H:Hp}{s:Ww}{p:List (WD×Wv)}{t:Ze}(S:m9 X.env.scope scope k N X.N D)(I:Inv X J4 σ H s)
  (f:∀x c,p.lookup x=pe c->X.env.cells.lookup x=pe c) (u:∀y∈scope.names,y.2=.free->(p.lookup y.1).isSome=true) (hf:∀b∈t,lK X J4 H b) (v:∀b∈t,b<↑s) :
  (dQ X N scope ↑s p s H t<|X.pn++J4).Ok where
 mod:=I.ok.mod
 kind:=S.kind
 glob:=I.ok.glob
 blt:=I.ok.blt
 above:=aB _
 inj:=λx y c E G=>I.ok.inj x y c (f x c E)<|f y c G
 has:=λx h=>by
  have w:∃y∈scope.names,y.1=x/\y.2=.free:=by
   have h':(relabel scope X.env).names.lookup x=pe .cell∨(relabel scope X.env).names.lookup x=pe .free:=h;have i:∀(l:List<|WD×h_) (kd:h_),l.lookup x=pe kd->(x,kd)∈l:=by
    intro l
    induction l with
    |nil=>intro kd e;cases e
    |cons a r J =>
     intro kd e;let⟨n,A⟩:=a;rw[i8]at e;cases hx:x==n with
     |true =>
      rw[hx]at e;have:x=n:=by simpa using hx
      subst this;cases e;exact cF
     |false=>rw[hx]at e;exact de _<|J kd e
   have back:∀kd,(x,kd)∈(relabel scope X.env).names->kd=.cell∨kd=.free->∃y∈scope.names,y.1=x/\y.2=.free:=by
    intro kd L B;let⟨⟨n,A⟩,j,e⟩:=aV.mp L;dsimp only at e;by_cases m:(A==mf && X.env.scope.kind==.function && X.env.kindOf n==pe .cell)=true
    .have C:A=.free:=by
      simp only[oJ]at m;simpa using m.1.1
     rw[if_pos m]at e;cases e;exact⟨_,j,pw,C⟩
    .rw[if_neg m]at e;cases e;obtain rfl|rfl:=B
     .exact absurd rfl<|S.cell _ j
     .exact⟨_,j,pw,pw⟩
   obtain h'|h':=h'
   .exact back _ (i _ _ h')<|.inl rfl
   .exact back _ (i _ _ h')<|.inr rfl
  let⟨y,j,rfl,B⟩:=w;exact vj.mp<|u y j B
 Um:=λx c h=>by cases h
 hd:=I.ok.hd
 frames:=I.ok.frames
 Uo:=.inl rfl
 UI:=λb g=>⟨cG<|v b g,λx c e=>(hf b g).2.2.2.2.1 x c<|f x c e⟩
 bs:=I.bs
 Tw:=bh I.ok.Tw I.sz
 R5:=λb o e g=>by
  obtain z|z:=(hf b g).2.2.2.1
  .exact I.ok.R5 b o e z
  .exact absurd (gH (a_ (I.ok.bs b o e).1) z)<|tI _
 SR:=λb g z=>by
  let⟨_,M,O,_⟩:=hf b g;obtain q|q:=b_.mp (I.QC b z)
  .exact M q
  .exact O q
 P7:=I.stack
 TF:=I.Ri
theorem JR(S:m9 X.env.scope scope k N X.N T)(I:Inv X J4 σ H s)(h:∀x c,E.lookup x=pe c->X.env.cells.lookup x=pe c)(B:∀y∈scope.names,y.2=.free->(E.lookup y.1).isSome=true)(hf:∀b∈G,lK X J4 H b)(J:∀b∈G,b<↑s)(hn:f.Ns ↑s m)(g:∀b o,s.heap.get? b=pe o->f.get? b=pe o) :
  Inv (dQ X N scope ↑s E s H G<|X.pn++J4) [] (dA k T σ) H {s with heap:=f,toks:=t'}:=by
 have A:∀(l:List<|WD×h_) (x:WD) (kd:h_),l.lookup x=pe kd->(x,kd)∈l:=by
  intro l
  induction l with
  |nil=>intro x kd e;cases e
  |cons a r ih =>
   intro x kd e;let⟨n,k'⟩:=a;rw[i8]at e;cases hx:x==n with
   |true =>
    rw[hx]at e;have:x=n:=by simpa using hx
    subst this;cases e;exact cF
   |false=>rw[hx]at e;exact de _<|ih x kd e
 apply⟨Ln S I h B hf J,pw,I.bare,Un.kept g,⟨m,hn,λi x v e1 e2 e3=>?_⟩,λx c e=>?_,I.A0.fresh<|aB _,λx c e=>I.OX x c<|h x c e,λp U=>?_,I.A0.kept g,?_⟩
 .obtain⟨j,t,rfl,ht,hv⟩:=wj e2;let⟨y,hy,L,C⟩:=S.sl j t ht;have D:N[k+j]?=pe x:=e1;rw[hy]at D;cases D;have w:=A _ _ _ C;let⟨c,Y⟩:=vj.mp<|B _ w rfl;have hX:=h _ _ Y;let⟨mX,ab,M⟩:=I.loc;have kX:=S.fr _ w rfl;let⟨u,ru,lk⟩:=M t x v L hv (by obtain z|z:=kX;exact .inr<|.inl z;exact .inr<|.inr z);apply⟨u,ru,.inr ⟨?_,c,Y,?_⟩⟩
  .exact iP C
  .obtain⟨z,_⟩|⟨_,c',e',q⟩:=lk
   .have z':X.env.scope.names.lookup x=pe .local:=z;obtain kX|kX:=kX<;>rw[z']at kX<;>cases kX
   .rw[hX]at e';cases e';let⟨o,O,Q⟩:=q;exact⟨o,g _ o O,Q⟩
 .obtain⟨v,o,O,Q⟩:=I.cell x c<|h x c e;exact⟨v,o,g _ o O,Q⟩
 .rw[eI]at U;let⟨e,n,ne,nf,d⟩:=I.pin p U;apply⟨g _ _ e,n,cG<|a_ e,λz=>?_,d⟩;obtain q|q:=b_.mp (I.QC _ z)
  .exact ne q
  .exact nf q
 .rw[EI];exact S.len.symm
structure Bj(X:Cx)(J4:Zd)(H:Hp)(C:Wv):Prop where
 free:H C=none
 loc:C≠X.env.locals
 young:X.s₀.heap.objs.size<=C
 cells:∀x c,X.env.cells.lookup x=pe c->c≠C
 pin:∀p∈X.pn++J4,p.1≠C
theorem pp{elt iter tg:WB}{ifs:List WB}{scope:Scope}{pos:Pos}{k:Nat}{N:Zb}{fi:List Nat}{cl:List (WD×Wv)}{g:TG}{tc:TT}{te:TE}{it:Wv}{fp:Ze}{tn:Nat->WA->Prop}{J:It}{s:Hp}{s2:Ww}{Q:VK}
  {E:Zc}{RR:Wx->Wv->Result->Ww->Prop}
  (S:m9 X.env.scope scope k N X.N fi) (hc:X.calm=true) (bd:∀x c,cl.lookup x=pe c->X.env.cells.lookup x=pe c) (cc:∀y∈scope.names,y.2=.free->(cl.lookup y.1).isSome=true)
  (hg:∀C cl G H ex pn,PG (dQ X N scope C cl G H ex pn) tg g) (ho:A_ k g) (ht:∀C cl G H ex pn,Lx (dQ X N scope C cl G H ex pn) ifs tc) (he:∀C cl G H ex pn,PE (dQ X N scope C cl G H ex pn) elt te)
  (I2:Inv X J4 σ s s2) (T:uk X.prog X.w X.K tg J fp it tn) (bi:tn 0 s2.heap) (f2:∀b∈fp,lK X J4 s b)
  (hw:∀l,s l=none->∃W:Nat->Nat->List V->Hp->Prop,(∃m,W 0 m []<|upd s l<|.lst [])/\∀i m O s,W i m O s->s l=pe (.lst O) /\
   ((J.stop i s/\Q (.ref l) s)∨(J.go i s/\∀x H3,J.Sq i s x H3->g x (dA k fi σ) H3 fun σ2 H4=>tc σ2 H4 λb H5 =>
    if b=true then te σ2 H5 λv H6=>H6 l=pe (.lst O)/\O.length<ai/\∃U,U<m/\W (i+1) U (O++[v]) (upd H6 l<|.lst<|O++[v])else ∃U,U<m/\W (i+1) U O H5)))
  (hR:∀D C L s' U,Inv X J4 σ L s'->s'.heap.Ns C U->Bj X J4 L C->Q (.ref D) L->RR (.ref D) C (.ok .next) s') :
  wpAny (model X.prog X.w) X.A (newList []) (λacc s₃=>wpAny (model X.prog X.w) X.A (newFunctionEnv scope X.env.globals cl [] X.env.qual none .none<|some X.env) (λaC s₄ =>
   O0 (model X.prog X.w) X.A (.compStart (.ListComp elt [⟨tg,iter,ifs,0⟩] scope pos) 0 (.ref it) acc {aC with scope:=relabel scope X.env}) (RR acc aC.locals) s₄) E s₃) E s2:=by
 have an:s ↑s2=none:=I2.fresh;let⟨W,⟨m0,w0⟩,turn⟩:=hw _ an;refine ml (wpAny_newFunctionEnv S.cell (by intro y hy;simp at hy) (λI ab al=>?_) S.kind);dsimp only at ab al ⊢;have I3:Inv X J4 σ (upd s ↑s2<|.lst []) {s2 with heap:=s2.heap.push { cls:=.type "list",data:=.seq ([]:Zf).toArray},toks:=s2.toks}:=I2.Ux (ys:=[]) .nil<|cw _;generalize bl:({s2 with heap:=s2.heap.push { cls:=.type "list",data:=.seq ([]:Zf).toArray},toks:=s2.toks}:Ww)=B at I3;have as:B.heap=s2.heap.push { cls:=.type "list",data:=.seq ([]:Zf).toArray}:=by rw[<-bl]
 have ce:↑B=↑s2+1:=by rw[as,kq]
 have bm:∀b∈fp,b<↑s2:=λb f=>by
  let⟨o,e,_⟩:=T.obj 0 _ bi b f;exact a_ e
 have f3:∀b∈fp,lK X J4 (upd s ↑s2<|.lst []) b:=λb f=>⟨by rw[aj<|cG<|bm b f];exact(f2 b f).1,(f2 b f).2⟩;have aT:∀b∈fp,b<↑B:=λb f=>by rw[ce];exact Nat.lt_succ_of_lt<|bm b f
 have bn:∀b o,B.heap.get? b=pe o->I.get? b=pe o:=λb o e=>by
  have f:b≠↑B:=cG<|a_ e;rw[as]at e f;exact al.extBut b o f<|bc _ e
 have ch:I.Ns ↑B (λx=>([]:List<|WD×Wx).reverse.lookup x):=by rw[as];exact ab
 have I4:Inv (dQ X N scope ↑B cl B (upd s ↑s2<|.lst []) fp<|X.pn++J4) [] (dA k fi σ) (upd s ↑s2<|.lst []) {B with heap:=I,toks:=s2.toks+([]:List<|WD×Wx).length} :=
  JR S I3 bd cc f3 aT ch bn
 have bw:tn 0 I:=T.keep _ _ _ bi λb f o e=>bn b o (by rw[as];exact bc _ e);generalize M:dQ X N scope ↑B cl B (upd s ↑s2<|.lst []) fp (X.pn++J4)=Y at I4;have yp:Y.prog=X.prog:=by rw[<-M];rfl
 have yw:Y.w=X.w:=by rw[<-M];rfl
 have yK:Y.K=X.K:=by rw[<-M];rfl
 have yA:Y.A=X.A:=by rw[<-M];rfl
 have yx:Y.xe=XF:=by rw[<-M];rfl
 have yc:Y.calm=true:=by rw[<-M];exact hc
 have gY:PG Y tg g:=by rw[<-M];exact hg _ _ _ _ _ _
 have tY:Lx Y ifs tc:=by rw[<-M];exact ht _ _ _ _ _ _
 have eY:PE Y elt te:=by rw[<-M];exact he _ _ _ _ _ _
 have b0:Y.env=compEnvC scope cl ↑B X.env:=by rw[<-M];rfl
 have fY:∀{L:Hp},(∀b∈fp,L b=none)->∀b∈fp,lK Y [] L b:=λhn b f=>by
  let⟨f0,f1,b1,b2,f4,f5⟩:=f3 b f;rw[<-M];apply⟨hn b f,cG<|aT b f,λz=>?_,.inl f,λx c e=>f4 x c<|bd x c e,λp hp=>?_⟩
  .obtain q|q:=b_.mp (I3.QC _ z)
   .exact f1 q
   .exact b1 q
  .rw[eI]at hp;exact f5 p hp
 have aX:∀s4:Ww,s4={B with heap:=I,toks:=s2.toks+([]:List<|WD×Wx).length} ->
   O0 (model X.prog X.w) X.A (.compLoop (.ListComp elt [⟨tg,iter,ifs,0⟩] scope pos) 0 (.ref it) (.ref ↑s2) Y.env) (RR (.ref ↑s2) ↑B) s4:=by
  rintro s4 rfl;refine AU (λn s'=>∃i O L,Inv Y [] (dA k fi σ) L s'/\tn i s'.heap/\(∀b∈fp,L b=none)/\W i n O L) ?_ m0 ⟨0,[],_,I4,bw,λb f=>(f3 b f).1,w0⟩;rintro n s5 ⟨i,O,H5,I5,b3,b4,w5⟩;let⟨c0,a0⟩:=turn i n O H5 w5;obtain⟨stop,q⟩|⟨go,step⟩:=a0
  .have d:=T.done Y yp yw yK yc i [] s5 _ H5 XF I5 (fY b4) b3 stop;rw[yA]at d;refine cQ d λr s6 a=>?_;let⟨hr,I6⟩:=a;subst hr;have hu:Un (wS X.stack) fp (upd s ↑s2<|.lst []) H5 B.heap s6.heap:=by have:=I6.base;rw[<-M]at this;exact this
   have ci:s6.os=B.os:=by have:=I6.os;rw[<-M]at this;exact this
   have b5:lY X.prog X.w X.K H5 s6.heap:=by have:=I6.A0;rw[<-M]at this;exact this
   have ck:H5 ↑B=none:=by have:=I6.free;rw[<-M]at this;exact this
   let⟨m6,b6,_⟩:=I6.loc;have b7:s6.heap.Ns ↑B m6:=by rw[<-M]at b6;exact b6
   have IX:Inv X J4 σ H5 s6:=I3.T9 ci hu b5 I6.bare λb f=>by
    let⟨f0,f1,b1,b2,f4,f5⟩:=f3 b f;exact⟨b2,f1,f4,f5⟩
   refine hR _ _ H5 s6 m6 IX b7 ⟨ck,gF I3.lt,I3.sz,λx c e z=>?_,λp hp z=>?_⟩ q
   .obtain⟨v,o,ho,_⟩:=I3.cell x c e;exact absurd (a_ ho) (by rw[z];exact tI _)
   .exact absurd (a_ (I3.pin p hp).1) (by rw[z];exact tI _)
  .have d:=T.item Y yp yw yK yc i [] s5 _ H5 XF I5 (fY b4) b3 go;rw[yA]at d;refine cQ d λr s6 a=>?_;let⟨u,hr,h6⟩:=a;subst hr;refine cQ h6 λ_ s7 a=>?_;let⟨x,H7,I7,r7,y7,a4,cm⟩:=a;have cn:=I7.pinned (fY cm)<|T.obj _ _ a4;have a7:=gY _ s7 _ H7 x u _ cn r7<|ho _ _ _ _<|step x H7 y7;rw[yp,yw,yA,yx]at a7;refine cQ a7 λ_ s8 a=>?_;obtain⟨σ8,H8,I8,q8,l8,k8⟩:=a;have a8:=tY _ s8 σ8 H8 _ I8 q8;rw[yp,yw,yA,yx]at a8;have again:∀{H9:Hp}{s9:Ww}{a5:List V}{U:Nat},Inv Y ([]++o_ fp s7.heap) σ8 H9 s9->U<n->W (i+1) U a5 H9->∃m,m<n/\∃i O L,Inv Y [] (dA k fi σ) L s9/\tn i s9.heap/\(∀b∈fp,L b=none)/\W i m O L:=fun{H9 s9 a5 U} I9 hm w9=>by
    apply⟨U,hm,i+1,a5,H9,(I9.D8).weak l8.symm<|λj v e=>?_,T.keep _ _ _ a4 λb f o e=>(I9.pin (b,o)<|cE _<|cE _<|ft f e).1,λb f=>?_,w9⟩
    .obtain⟨j',t,rfl,_,_⟩:=wj e;rw[k8 _<|Nat.le_add_right _ _];exact e
    .obtain⟨o,e,_⟩:=T.obj _ _ a4 b f;exact(I9.pin (b,o)<|cE _<|cE _<|ft f e).2.1
   refine cQ a8 λb s9 a=>?_;let⟨H9,I9,q9⟩:=a;cases b with
   |false =>
    rw[if_neg jZ]at q9 ⊢;let⟨U,hm,w9⟩:=q9;exact again I9 hm w9
   |true =>
    rw[if_pos rfl]at q9 ⊢;have a9:=eY _ s9 σ8 H9 _ I9 q9;rw[yp,yw,yA,yx]at a9;refine cQ a9 λy co a=>?_;let⟨v,b8,cq,cs,b9,a6,U,hm,ct⟩:=a;have cb:=cT (X:=Y) _ co σ8 b8 (.ref ↑s2) [v] (.ref ↑s2) [y] (λz L=>z=.L'/\L=upd b8 ↑s2 (.lst<|O++[v])) cq rfl (.cons cs .nil) ⟨_,O,v,pw,pw,b9,a6,pw,pw⟩;rw[yp,yw,yA,yx]at cb;refine cQ cb λ_ c1 a=>?_;let⟨_,c2,cB,_,_,cC⟩:=a;subst cC;exact again cB hm ct
 have h:=codeAny_compStart_list (prog:=X.prog) (w:=X.w) (A:=X.A) (elt:=elt) (target:=tg) (iter:=iter) (ifs:=ifs) (rest:=[]) (scope:=scope) (pos:=pos) (it:=.ref it) (acc:=.ref ↑s2) (env:=Y.env) (aX _ rfl)<|T.self _ 0 _ _ _ bw<|aX _ rfl;rw[b0]at h;rw[<-bl]at h;exact h
end
section
variable{X:Cx}
theorem Bj.turned(c:Bj X a H C)(I:Inv X a σ H s)(g:kz C s.heap f):Inv X a σ H {s with heap:=f} :=
 I.turned (t':=s.toks) (λb o h e=>g.extBut b o h e) c.free c.loc (.inr c.young) c.cells c.pin
theorem K3(Y:lI X.env.scope scope k N X.N G=true)(hc:X.calm=true)(hi:PI X p i L)(hg:∀C l a f ex o,PG (dQ X N scope C l a f ex o) p g)(ho:A_ k g)(ht:∀C l a f ex o,Lx (dQ X N scope C l a f ex o) n M)(he:∀C l a f ex o,PE (dQ X N scope C l a f ex o) m O)(hs:∀x,tH i X.env x=pure x:=by intro _;rfl):PE X (.ListComp m [⟨p,i,n,0⟩] scope r) (dE k G L g M O):=by
 intro U s σ H Q I h;have S:=m9.of Y;let⟨l,j,t,u⟩:=pq (env:=X.env) (scope:=scope) λy hy e=>I.ok.has y.1<|S.fr y hy e;rw[eval_ListComp];refine wpAny_comprehension_free (use:=none) rfl hs j S.kind S.nm<|cQ (hi U s σ H _ I h) λv s1 h1=>cQ h1 λab s2 h2=>?_;let⟨it,fp,tn,J,H2,e,I2,T,z,f2,hw⟩:=h2;subst e;refine pp (RR:=λB C=>compPost (model X.prog X.w) X.A X.xe none (EP X U σ Q) B C) S hc t u hg ho ht he I2 T z f2 hw ?_;intro D C H' s' m' I' hn ce q;exact⟨m',hn,λh' E=>⟨.ref D,H',ce.turned I' E,pw,q⟩⟩
theorem El(hN:X.N.Nodup)(hj:X.N[j]?=pe y)(L:Loc X.env.scope y)(hS:lI X.env.scope scope k N X.N fi=true)(hc:X.calm=true)(hi:PI X B f wi)(hg:∀C u i l ex E,PG (dQ X N scope C u i l ex E) B g)(ho:A_ k g)(ht:∀C u i l ex E,Lx (dQ X N scope C u i l ex E) n tc)(he:∀C u i l ex E,PE (dQ X N scope C u i l ex E) m te)(M:pN (.ListComp m [⟨B,f,n,0⟩] scope p) (pe<|.Name y t) o.line X.env=pure true:=by rfl)(hs:∀x,tH f X.env x=pure x:=by intro _;rfl)(hf:X.fn y=true∨X.env.scope.names.lookup y=pe .local:=by first|exact .inl rfl|exact .inr rfl|assumption) :
  PS X (.Assign [.Name y t] (.ListComp m [⟨B,f,n,0⟩] scope p) o) (aL (dE k fi wi g tc te)<|fc j):=by
 intro O s σ H D I h;have S:=m9.of hS;let⟨u,r,U,Y⟩:=pq (env:=X.env) (scope:=scope) λy L e=>I.ok.has y.1<|S.fr y L e;rw[exec_Assign_Name_used _ _ _ _ M];refine ap<|uK<|ap ?_;show wpAny _ X.A (do let _ <- comprehension (.ListComp m [⟨B,f,n,0⟩] scope p) scope X.env _ (newList []) false (eval f X.env) (pe<|assign (.Name y t) X.env)) _ _ s
 refine ap (c6 (wpAny_comprehension_free (use:=pe<|assign (.Name y t) X.env) (Q:=λ_ G=>SP X O D .next G) rfl hs r S.kind S.nm
  (cQ (hi O s σ H _ I h) λv s1 h1=>cQ h1 λa0 s2 h2=>?_)) (λ_ G hq=>aR<|aR hq) λ_ _ e=>e)
 let⟨it,fp,tn,J,H2,e,I2,T,ab,f2,hw⟩:=h2;subst e;refine pp (RR:=λal C=>compPost (model X.prog X.w) X.A X.xe (pe<|assign (.Name y t) X.env) (λ_ G=>SP X O D .next G) al C) (Q:=λx H1=>fc j x σ H1 D.nx) S hc U Y hg ho ht he I2 T ab f2 hw ?_;intro A C H' G m' I' hn ce q;show wpAny _ X.A (assign (.Name y t) X.env<|.ref A) _ _ _;refine wpAny_assign_Name<|xX I' hN hj L (v:=.ref A) rfl (λa4 an as=>?_) hf;let⟨a,aC,ha⟩:=as;have aT:C≠a:=by
  obtain z|z:=ha
  .rw[z];exact ce.loc
  .exact dD<|ce.cells y a z
 apply⟨m',hn.sameBut aC aT,λh' aX=>?_⟩;exact⟨_,H',ce.turned an aX,q⟩
end
theorem Inv.Qe{X:Cx}{i:Zd}{σ:St}{H:Hp}{s:Ww}{g:WA}{p:Nat}{ch:Ze}{o:HO}(I:Inv X i σ H s)(hf:∀b∈ch,lK X i H b)
  (k:∀b q,b∉ch->s.heap.get? b=pe q->g.get? b=pe q) (L:∃q,g.get? ↑s=pe q) (t:∀y,o≠.own y) (new:cv X.prog X.w X.K (upd H ↑s o) g ↑s o) :
  Inv X i σ (upd H ↑s o) {s with heap:=g,toks:=p}:=by
 have a:H ↑s=none:=I.fresh;have j:∀b q,s.heap.get? b=pe q->b≠↑s:=λb q e=>cG<|a_ e;have l:∀b u,H b=pe u->b∉ch:=λb u e z=>by rw[(hf b z).1]at e;cases e
 refine I.step (g':=s.gens) (d':=s.drawn) (ch:=ch) (λb h=>?_) (λb q _ _ f e _=>k b q f e) (λb q _ _ f e _=>⟨q.slots,k b q f e⟩) (λb q _ e n=>by rw[aj<|j b q e];exact n) (λb q f e=>⟨q,k b q f e⟩)
  (λb xs e=>by rw[aj<|ag e a];exact e) (λb q u e=>by rw[aj<|ag e a];exact e) (λb M e=>⟨#[],by rw[aj<|ag e a,e];simp⟩) (λm x=>?_) (λb u e=>?_) I.bare
 .obtain⟨N,A,O,B,C,D⟩:=hf b h;exact⟨B,A,C,D⟩
 .obtain⟨q,E,G,J,r⟩:=x;exact⟨q,E,G,k _ q (λz=>(hf _ z).2.1 rfl) J,r⟩
 .by_cases h:b=↑s
  .subst h;rw[aa]at e;cases e;exact new
  .rw[aj h]at e;refine(I.A0 b u e).QD (λc v f q=>k c v ?_ q) (λc q=>by rw[aj<|ag q a];exact q) λc xs q=>by rw[aj<|ag q a];exact q
   obtain z|z:=f
   .subst z;exact l _ _ e
   .exact l _ _ z
def N3(K:Za)(a:Wv):It :=
 ⟨λi H=>∃xs x,aA K H a xs/\xs[i]?=pe x,λi H x H'=>∃p v,x=.ref p/\H p=none/\(∀xs,aA K H a xs->xs[i]?=pe v)/\H'=upd H p (.tup [.int i,v]),λi H=>∃xs,aA K H a xs/\xs.length<=i⟩
theorem Gr{P:bI}{w:Wy}{K:Za}{es:List WB}{kx:Nat}{J7:Pos}(a e it:Wv)(n:e≠it):
  uk P w K (.Tuple es kx J7) (N3 K a) [e,it] e (λi h=>(∃f,IsEnum h e it i f)/\h.IsListIter it a i) where
 mem:=by simp
 obj:=λi h st b m=>by
  let⟨⟨f,j⟩,o,G,J,hd⟩:=st;obtain z|z:=b_.mp m
  .subst z;exact⟨_,j,λv z=>by cases z⟩
  .have L:b=it:=by simpa using z
   subst L;exact⟨o,G,λv z=>by rw[hd]at z;cases z⟩
 keep:=λi h C st k=>⟨let⟨f,j⟩:=st.1;⟨f,k e ∅ _ j⟩,st.2.at λo e=>k it ∅ o e⟩
 item:=by
  intro X M N O J i J4 s σ H E I hf st Q;subst M N O;let⟨⟨f,j⟩,l⟩:=st;let⟨xs,x,D,hx⟩:=Q;let⟨T,U,p,hz⟩:=I.list D;let⟨u,hu,ru⟩:=U.get hx;let⟨e0,e1,e2,e3,e4,e5⟩:=hf e ∅;let⟨Y,f1,f2,f3,f4,f5⟩:=hf it ∅;refine wpAny_pyNext_enum_item j l p.isList (x:=u) (by simpa using hu) n λC ab r al a6 an=>?_;apply⟨_,pw,wpAny_letOwnedTupleGo_enum (s:={s with heap:=C,toks:=s.toks+1}) ab λh2 as aC=>?_⟩;have g:kz e C h2:=aC;have t:↑s≠e:=gF<|a_ j;have A:h2.get? ↑s=pe { cls:=.type "tuple",data:=.seq #[.int i s.toks,u]}:=g.extBut _ _ t al;have aT:H ↑s=none:=I.fresh;have aX:upd H ↑s (.tup [.int i,x]) e=none:=by rw[aj<|dD t];exact e0
  have a0:↑s≠it:=by
   let⟨o,G,_⟩:=l;exact gF<|a_ G
  have a4:upd H ↑s (.tup [.int i,x]) it=none:=by rw[aj<|dD a0];exact Y
  have I2:Inv X J4 σ (upd H ↑s<|.tup [.int i,x]) {s with heap:=h2,toks:=s.toks+1}:=by
   refine I.Qe (ch:=[e,it]) hf (λb o m q=>?_) ⟨_,A⟩ (λ_ z=>nomatch z) ⟨by show 2<=ai;decide,[.int i s.toks,u],.cons ⟨_,pw⟩<|.cons ru .nil,⟨_,A,pw,_,pw⟩⟩;have B:b≠e:=λz=>m (by simp[z]);have a5:b≠it:=λz=>m (by simp[z]);exact g.extBut _ _ B<|an b o B a5 q
  apply⟨.ref ↑s,_,I2,pw,⟨_,x,pw,aT,λys hy=>by rw[I.Pp hy D];exact hx,pw⟩,⟨⟨u,by simpa using as⟩,r.at λo y=>(g.2 it<|dD n).trans y⟩,λb m=>?_⟩;obtain z|z:=b_.mp m
  .subst z;exact aX
  .have L:b=it:=by simpa using z
   subst L;exact a4
 done:=by
  intro X M N O J i J4 s σ H E I hf st Q;subst M N O;let⟨⟨f,j⟩,l⟩:=st;let⟨xs,D,hx⟩:=Q;let⟨T,U,p,hz⟩:=I.list D;let⟨Y,f1,f2,f3,f4,f5⟩:=hf it ∅;have hl:=U.length;exact wpAny_pyNext_enum_end (I.ok.hd J) j l p.isList (by simp;nofun) λC eb=>⟨pw,I.turned (t':=s.toks) (λb o m e=>eb b o m e) Y f1 f3 f4 f5⟩
 self:=λ_ _ _ _ _ st h=>let⟨_,j⟩:=st.1;wpAny_pyIter_enum j h
section
variable{X:Cx}{p pos:Pos}{es:List WB}{kx:Nat}{J7:Pos}
def v4(K:Za)(ta:TA):TI:=fun σ H R=>ta σ H λvs H1=>∃a,vs=[.ref a]/\(∃xs,aA K H1 a xs)/\R (N3 K a) H1
theorem nG(w:Gl X "enumerate")(x:X.mg "enumerate"=none)(y:PA X [a] n)(A:aK [a] X.env=[(false,eval a X.env)]:=by rfl):PI X (.Tuple es kx J7) (.Call (.Name "enumerate" p) [a] [] pos) (v4 X.K n):=by
 intro r s σ H R I h;refine Call_<|pd I w x boot_enumerate<|Br (cQ (y pos r s σ H _ I h) λT s1 i=>?_) A rfl;let⟨U,t,g,B,C⟩:=i;let⟨l,e,⟨xs,D⟩,q⟩:=C;subst e;let⟨u,rfl,E⟩:=vals1 B;cases E;let⟨G,Y,J,hz⟩:=g.list D;refine call_enumerate_list J.isList λj v k L M=>?_;refine wpAny_pyIter_enum (s:={s1 with heap:=j}) v ?_;have m:∀b o,s1.heap.get? b=pe o->j.get? b=pe o:=M;have N:Inv X r σ t {s1 with heap:=j}:=g.kept (t':=s1.toks) m;apply⟨_,[↑s1+1,↑s1],_,_,t,pw,N,Gr l _ _<|Nat.succ_ne_self _,⟨⟨_,v⟩,k⟩,λb O=>?_,q⟩;have f:↑s1<=b:=by
  obtain z|z:=b_.mp O
  .rw[z];exact iG _
  .have Q:b=↑s1:=by simpa using z
   rw[Q];exact aB _
 exact g.QY f<|g.A0.fresh f
end
def Om(x:WD):It:=⟨λi _=>i<x.cps.size,λi H y H'=>H'=H/\∃c,x.cps[i]?=pe c/\y=.str ⟨#[c]⟩,λi _=>x.cps.size<=i⟩
theorem Do{P:bI}{w:Wy}{K:Za}{D:WB}(x:WD)(t:Tok)(it:Wv):uk P w K D (Om x) [it] it (λi h=>h.IsStrIter it "str_ascii_iterator" x t i) where
 mem:=by simp
 obj:=λi h st b a=>by
  have e:b=it:=by simpa using a
  subst e;let⟨o,e,c,d⟩:=st;exact⟨o,e,λv z=>by rw[d]at z;cases z⟩
 keep:=λi h g st k=>by
  let⟨o,e,c,d⟩:=st;exact⟨o,k it ∅ o e,c,d⟩
 item:=by
  intro X j l m B i C s σ H E I hf st n;subst j l m;have p:i<x.cps.size:=n;let⟨q,r,G,u,y,A⟩:=hf it ∅;have hx:x.cps[i]?=pe x.cps[i]:=by simp[p]
  refine wpAny_pyNext_ascii_item st hx λg f J=>?_;have L:Inv X C σ H {s with heap:=g,toks:=s.toks+1}:=I.turned (t':=s.toks+1) (λb o a e=>(J.2 b a).trans e) q r u y A;let⟨o,e,c,d⟩:=id f;exact⟨_,pw,v6 (s:={s with heap:=g,toks:=s.toks+1}) e c d WE ⟨.str ⟨#[x.cps[i]]⟩,H,L,⟨_,pw⟩,⟨pw,_,hx,pw⟩,f,λb a=>(hf b a).1⟩⟩
 done:=by
  intro X j l m B i C s σ H E I hf st n;subst j l m;have M:x.cps.size<=i:=n;let⟨q,r,G,u,y,A⟩:=hf it ∅;exact wpAny_pyNext_ascii_end (I.ok.hd B) st (by simp;nofun) λg N=>⟨pw,I.turned (t':=s.toks) (λb o a e=>N b o a e) q r u y A⟩
 self:=λ_ _ _ _ _ st h=>wpAny_pyIter_striter_ascii st h
theorem Gq{P:bI}{w:Wy}{K:Za}{D:WB}(x:WD)(t:Tok)(it:Wv):uk P w K D (Om x) [it] it (λi h=>h.IsStrIter it "str_iterator" x t i) where
 mem:=by simp
 obj:=λi h st b a=>by
  have e:b=it:=by simpa using a
  subst e;let⟨o,e,c,d⟩:=st;exact⟨o,e,λv z=>by rw[d]at z;cases z⟩
 keep:=λi h g st k=>by
  let⟨o,e,c,d⟩:=st;exact⟨o,k it ∅ o e,c,d⟩
 item:=by
  intro X j l m B i C s σ H E I hf st n;subst j l m;have p:i<x.cps.size:=n;let⟨q,r,G,u,y,A⟩:=hf it ∅;have hx:x.cps[i]?=pe x.cps[i]:=by simp[p]
  refine wpAny_pyNext_wide_item st hx λg f J=>?_;have L:Inv X C σ H {s with heap:=g,toks:=s.toks+1}:=I.turned (t':=s.toks+1) (λb o a e=>(J.2 b a).trans e) q r u y A;let⟨o,e,c,d⟩:=id f;exact⟨_,pw,v6 (s:={s with heap:=g,toks:=s.toks+1}) e c d WE ⟨.str ⟨#[x.cps[i]]⟩,H,L,⟨_,pw⟩,⟨pw,_,hx,pw⟩,f,λb a=>(hf b a).1⟩⟩
 done:=by
  intro X j l m B i C s σ H E I hf st n;subst j l m;have M:x.cps.size<=i:=n;let⟨q,r,G,u,y,A⟩:=hf it ∅;exact wpAny_pyNext_wide_end (I.ok.hd B) st (by simp;nofun) λg N=>⟨pw,I.turned (t':=s.toks) (λb o a e=>N b o a e) q r u y A⟩
 self:=λ_ _ _ _ _ st h=>wpAny_pyIter_striter_wide st h
section
variable{X:Cx}{p pos:Pos}{tg:WB}
def NO(tl:TE):TI:=fun σ H R=>tl σ H λv H1=>∃x,v=.str x/\R (Om x) H1
theorem MH(r:PE X l k):PI X tg l (NO k):=by
 intro m s σ H R I h;refine cQ (r m s σ H _ I h) λv a i=>?_;let⟨y,j,g,u,w⟩:=i;let⟨x,e,q⟩:=w;subst e;let⟨t,rfl⟩:=u;have f:∀b∈[↑a],lK X m j b:=λb z=>by
  have e:b=↑a:=by simpa using z
  subst e;exact g.QY (aB _)<|g.A0.fresh<|aB _
 cases n:x.cps.all (·<128)
 .refine wpAny_pyIter_wide n ?_;exact⟨↑a,[↑a],_,_,j,pw,g.kept (t':=a.toks) λb o e=>bc _ e,Gq x t _,⟨_,dS _ rfl,pw,pw⟩,f,q⟩
 .refine wpAny_pyIter_ascii n ?_;exact⟨↑a,[↑a],_,_,j,pw,g.kept (t':=a.toks) λb o e=>bc _ e,Do x t _,⟨_,dS _ rfl,pw,pw⟩,f,q⟩
end
def M_(K:Za)(a b:Wv):It :=
  ⟨λi H=>∃xs ys x y,aA K H a xs/\aA K H b ys/\xs[i]?=pe x/\ys[i]?=pe y,
   λi H x H'=>∃p u v,x=.ref p/\H p=none/\(∀xs,aA K H a xs->xs[i]?=pe u)/\(∀ys,aA K H b ys->ys[i]?=pe v)/\H'=upd H p (.tup [u,v]),
   λi H=>∃xs ys,aA K H a xs/\aA K H b ys/\(xs.length<=i∨ys.length<=i)⟩
theorem Ij{P:bI}{w:Wy}{K:Za}{es:List WB}{kx:Nat}{J7:Pos}(a b z TI TO t A:Wv)(D:rR z TI TO t A a b):
  uk P w K (.Tuple es kx J7) (M_ K a b) [z,TI,TO,t,A] z (λi h=>IsZip h z TI TO .none/\IsPair h TI (.ref t) (.ref A)/\(∃a b,IsPair h TO a b)/\h.IsListIter t a i/\h.IsListIter A b i) where
 mem:=by simp
 obj:=λi h st c f=>by
  let⟨p,j,⟨u,v,l⟩,G,J⟩:=st;simp only[b_,u8,or_false]at f;obtain rfl|rfl|rfl|rfl|rfl:=f
  .exact⟨_,p,λv z=>by cases z⟩
  .exact⟨_,j,λv z=>by cases z⟩
  .exact⟨_,l,λv z=>by cases z⟩
  .obtain⟨o,e,c,d⟩:=G;exact⟨o,e,λv z=>by rw[d]at z;cases z⟩
  .obtain⟨o,e,c,d⟩:=J;exact⟨o,e,λv z=>by rw[d]at z;cases z⟩
 keep:=λi h M st k=>by
  let⟨p,j,⟨u,v,l⟩,G,J⟩:=st;exact⟨k z ∅ _ p,k TI ∅ _ j,⟨u,v,k TO ∅ _ l⟩,G.at λo e=>k t ∅ o e,J.at λo e=>k A ∅ o e⟩
 item:=by
  intro X hP hw hK f i J4 s σ H E I hf st hg;subst hP hw hK;let⟨p,j,⟨u0,v0,l⟩,G,J⟩:=st;let⟨xs,ys,x,y,B,C,hx,hy⟩:=hg;let⟨an,rx,px,zx⟩:=I.list B;let⟨as,ry,py,zy⟩:=I.list C;let⟨u,hu,ru⟩:=rx.get hx;let⟨v,hv,rv⟩:=ry.get hy;refine wpAny_pyNext_zip_item D p j l G J px.isList py.isList (x:=u) (y:=v) (by simpa using hu) (by simpa using hv) λM a1 a2 a3 a4 a5 a6 hk=>?_;apply⟨_,pw,wpAny_letOwnedTupleGo_zip (s:={s with heap:=M}) a1 λL aC aT=>?_⟩;have g:kz z M L:=aT;have N:↑s≠z:=gF<|a_ p;have O:↑s≠TO:=gF<|a_ l;have Q:↑s≠TI:=gF<|a_ j;have T:↑s≠t:=by let⟨o,U,_⟩:=G;exact gF<|a_ U
  have Y:↑s≠A:=by let⟨o,U,_⟩:=J;exact gF<|a_ U
  have ab:IsPair L ↑s u v:=g.extBut _ _ N a5;have I2:Inv X J4 σ (upd H ↑s<|.tup [x,y]) {s with heap:=L,toks:=s.toks}:=by
   refine I.Qe (ch:=[z,TI,TO,t,A]) hf (λc o f q=>?_) ⟨_,ab⟩ (λ_ z=>nomatch z) ⟨by show 2<=ai;decide,[u,v],.cons ru<|.cons rv .nil,⟨_,ab,pw,_,pw⟩⟩;have n1:c≠z:=λq=>f (by simp[q]);exact g.extBut _ _ n1 (hk c o n1 (λq=>f (by simp[q])) (λq=>f (by simp[q])) (λq=>f (by simp[q])) q)
  apply⟨.ref ↑s,_,I2,pw,⟨_,x,y,pw,I.fresh,λzs p=>by rw[I.Pp p B];exact hx,λzs p=>by rw[I.Pp p C];exact hy,pw⟩,⟨aC,g.extBut _ _ D.TIz<|hk _ _ D.TIz D.TITO D.TIi1 D.TIi2 j,⟨_,_,g.extBut _ _ D.TOz a2⟩,a3.at λo e=>g.extBut _ _ D.i1z e,a4.at λo e=>g.extBut _ _ D.i2z e⟩,λc f=>?_⟩;have aX:=(hf c f).1;simp only[b_,u8,or_false]at f;have ne:c≠↑s:=by
   obtain rfl|rfl|rfl|rfl|rfl:=f
   .exact N.symm
   .exact Q.symm
   .exact O.symm
   .exact T.symm
   .exact Y.symm
  rw[aj ne];exact aX
 done:=by
  intro X hP hw hK f i J4 s σ H E I hf st hg;subst hP hw hK;let⟨p,j,⟨u0,v0,l⟩,G,J⟩:=st;let⟨xs,ys,B,C,al⟩:=hg;let⟨an,rx,px,zx⟩:=I.list B;let⟨as,ry,py,zy⟩:=I.list C;have lx:=rx.length;have ly:=ry.length;refine wpAny_pyNext_zip_end (I.ok.hd f) D p j l G J px.isList py.isList (by obtain q|q:=al;exact .inl (by simp;nofun);exact .inr (by simp;nofun)) λM hk=>⟨pw,?_⟩;have tr:∀c q,H c=pe q->c∉[z,TI,TO,t,A]:=λc q e m=>by rw[(hf c m).1]at e;cases e
  have kk:∀c o,c∉[z,TI,TO,t,A]->s.heap.get? c=pe o->M.get? c=pe o:=λc o f q=>hk c o (λq=>f (by simp[q])) (λq=>f (by simp[q])) (λq=>f (by simp[q])) (λq=>f (by simp[q])) q;refine I.step (g':=s.gens) (d':=s.drawn) (t':=s.toks) (ch:=[z,TI,TO,t,A]) (λc f=>?_) (λc o _ _ f e _=>kk c o f e) (λc o _ _ f e _=>⟨o.slots,kk c o f e⟩) (λ_ _ _ _ n=>n) (λc o f e=>⟨o,kk c o f e⟩) (λ_ _ e=>e) (λ_ _ _ e=>e) (λc ps e=>⟨#[],by rw[e];simp⟩) (λm hm=>?_) (λc q e=>?_) I.bare
  .obtain⟨f0,f1,f2,f3,f4,f5⟩:=hf c f;exact⟨f3,f1,f4,f5⟩
  .obtain⟨q,a0,ep,U,r⟩:=hm;exact⟨q,a0,ep,kk _ q (λz=>(hf _ z).2.1 rfl) U,r⟩
  .refine(I.A0 c q e).QD (λd v hd q'=>kk d v ?_ q') (λ_ q=>q) λ_ _ q=>q;obtain z|z:=hd
   .subst z;exact tr _ _ e
   .exact tr _ _ z
 self:=λ_ _ _ _ _ st h=>zJ st.1 h
section
variable{prog:bI}{w:Wy}{A:Wz}{E:Zc}{s:Ww}
theorem lG(st:s.heap.IsTupleIter it t i)(g:s.heap.IsTuple t items)(hx:items[i]?=pe x)(k:∀f,f.IsTupleIter it t (i+1)->kz it s.heap f->Q x {s with heap:=f}):wpAny (model prog w) A (me<|.ref it) Q E s:=by
 let⟨l,e,h,a⟩:=id st;let⟨m,j,_,n,dt⟩:=g;unfold me;refine ap (r8 (name:=rZ "__next__") st.typeIs zI
  (Bp zI st.typeIs F.entry_tuple_iterator_next ?_<|F.args_tuple_iterator_next_1 _))
 show wpAny _ _ (field (.ref it) 0 >>= _) _ _ s;refine ap<|c7 e a (x:=.ref t) rfl ?_;show wpAny _ _ (if(Value.ref t==Value.none)=true then _ else _) _ _ s
 rw[if_neg<|show ¬((Value.ref t==Value.none)=true)from jZ];show wpAny _ _ (field (.ref it) 1 >>= _) _ _ s;refine ap<|c7 e a (x:=.int i 0) rfl ?_;show wpAny _ _ (seqItems? (.ref t) >>= _) _ _ s;refine ap<|og j dt ?_;simp only[r9,hx];refine ap (oC e a ∅<|aR ⟨x,pw,aR<|k _ ?_<|u7 ..⟩);exact⟨_,k4 _ e<|u6<|md a _,(Obj.cls_mapFields ..).trans h,by
  rw[md a];simp[rawInt]⟩
theorem tO(j:A.handled=none)(st:s.heap.IsTupleIter it t i)(l:s.heap.IsTuple t items)(hx:items[i]?=none)(k:∀f e,Heap.ExtBut it s.heap f->(∃o,f.get? e=pe o/\o.cls=.type "StopIteration")->E (.ref e) {s with heap:=f}):wpAny (model prog w) A (me<|.ref it) Q E s:=by
 let⟨p,g,q,h⟩:=id st;let⟨r,n,_,u,dt⟩:=l;unfold me;refine ap (r8 (name:=rZ "__next__") st.typeIs zI
  (Bp zI st.typeIs F.entry_tuple_iterator_next ?_<|F.args_tuple_iterator_next_1 _))
 show wpAny _ _ (field (.ref it) 0 >>= _) _ _ s;refine ap<|c7 g h (x:=.ref t) rfl ?_;show wpAny _ _ (if(Value.ref t==Value.none)=true then _ else _) _ _ s
 rw[if_neg<|show ¬((Value.ref t==Value.none)=true)from jZ];show wpAny _ _ (field (.ref it) 1 >>= _) _ _ s;refine ap<|c7 g h (x:=.int i 0) rfl ?_;show wpAny _ _ (seqItems? (.ref t) >>= _) _ _ s;refine ap<|og n dt ?_;simp only[r9,hx];refine ap (pT (ap (oC g h ∅ ?_)));show wpAny _ _ (newExc (.type "StopIteration") [] >>= _) _ _ _;refine ap ?_;simp only[newExc,newTuple];refine ap (ml ?_ (by size_fits));refine ap (m:=firstArgMember _ _) (wpAny_of_eq (a:=Value.none) (by first|rfl|(simp only[firstArgMember];rfl)) ?_)
 refine ml ?_ (by size_fits);simp only[raiseNew];refine ap<|wpAny_handled ?_
 first|rw[show A.in1.handled=none from j] | rw[j]
 refine ap<|aR<|wpAny_throw ?_;exact k _ _ (((u7 ..).extBut.push _).push _) ⟨_,dS _ rfl,pw⟩
theorem Gm{z TI TO L M l1 l2:Wv}{k1 k2:Nat}{xs ys:Array Wx}{x y a b:Wx}{Q:Zc}(D:rR z TI TO L M l1 l2)
  (gz:IsZip s.heap z TI TO .none) (gI:IsPair s.heap TI (.ref L)<|.ref M) (gO:IsPair s.heap TO a b)
  (g1:s.heap.IsTupleIter L l1 k1) (g2:s.heap.IsTupleIter M l2 k2) (t1:s.heap.IsTuple l1 xs) (t2:s.heap.IsTuple l2 ys) (hx:xs[k1]?=pe x) (hy:ys[k2]?=pe y)
  (k:∀N,IsZip N z TI TO (rawInt ↑s)->IsPair N TO x y->N.IsTupleIter L l1 (k1+1)->N.IsTupleIter M l2 (k2+1)->IsPair N ↑s x y->N.objs.size=↑s+1 ->
   (∀c o,c≠z->c≠TO->c≠L->c≠M->s.heap.get? c=pe o->N.get? c=pe o)->Q (.ref ↑s) {s with heap:=N}) :
  wpAny (model prog w) A (bW.«zip.__next__» ⟨[.ref z],[]⟩) (λaX s'=>∃v,aX=.done (.ret v)/\Q v s') E s:=by
 show wpAny _ _ (field (.ref z) 2 >>= _) _ _ _;refine ap<|c7 gz rfl (x:=.bool false) rfl ?_;show wpAny _ _ (field (.ref z) 3 >>= _) _ _ _;refine ap<|c7 gz rfl (x:=.ref TI) rfl ?_;refine ap<|og gI rfl ?_;show wpAny _ _ (zH (.ref z) >>= _) _ _ _;refine ap ?_;unfold zH;refine ap<|c7 gz rfl (x:=.none) rfl<|aR ?_;simp only[if_true];refine ap<|pT ?_;refine ap<|c7 gz rfl (x:=.ref TO) rfl ?_;refine ap (rQ gz ∅ λm₁ q g=>?_)
 replace q:IsZip m₁ z TI TO .ellipsis:=q
 refine ap ?_;simp only[List.zipIdx_cons,List.zipIdx_nil,va,List.forIn_nil];refine ap<|ap<|u5 ?_;show wpAny _ _ (me (.ref L) >>= _) _ _ _;refine ap<|lG (g1.extBut g.extBut D.i1z) (t1.extBut g.extBut D.l1z) hx λm₂ O h=>aR ?_;have B:IsPair m₂ TO a b:=h.extBut _ _ D.TOi1<|g.extBut _ _ D.TOz gO;refine ap<|og B rfl ?_;refine ap<|wpAny_updateSeq_pair B λm₃ t i=>?_
 replace t:IsPair m₃ TO x b:=t
 refine ap<|zG<|aR ?_;refine ap<|ap<|u5 ?_;show wpAny _ _ (me (.ref M) >>= _) _ _ _;refine ap (lG (((g2.extBut g.extBut D.i2z).extBut h.extBut D.i12.symm).extBut i.extBut D.TOi2.symm)
  (((t2.extBut g.extBut D.l2z).extBut h.extBut D.l2i1).extBut i.extBut D.l2TO) hy λm₄ T m=>aR ?_)
 have C:IsPair m₄ TO x b:=m.extBut _ _ D.TOi2 t;refine ap<|og C rfl ?_;refine ap<|wpAny_updateSeq_pair C λf j n=>?_
 replace j:IsPair f TO x y:=j
 refine ap<|zG<|aR<|aR ?_;refine ap<|og j rfl ?_;refine ap<|wpAny_newTuple ?_;have as:f.objs.size=↑s:=by rw[n.1,m.1,i.1,h.1,g.1]
 have G:IsZip f z TI TO .ellipsis:=n.extBut _ _ D.TOz.symm<|m.extBut _ _ D.i2z.symm<|i.extBut _ _ D.TOz.symm<|h.extBut _ _ D.i1z.symm q;have U:∀c o,c≠z->c≠TO->c≠L->c≠M->s.heap.get? c=pe o->f.get? c=pe o:=λc o Y c2 c3 c4 e =>
  n.extBut _ _ c2 (m.extBut _ _ c4<|i.extBut _ _ c2<|h.extBut _ _ c3<|g.extBut _ _ Y e)
 have ab:f.IsTupleIter L l1 (k1+1):=((O.extBut i.extBut D.TOi1.symm).extBut m.extBut D.i12).extBut n.extBut D.TOi1.symm;have al:f.IsTupleIter M l2 (k2+1):=T.extBut n.extBut D.TOi2.symm;have aC:z<f.objs.size:=a_ G;show wpAny _ _ (bW.SmallTypes.ownedTupleHandOut (.ref z) (.ref f.objs.size) >>= _) _ _ _;refine ap ?_;unfold bW.SmallTypes.ownedTupleHandOut;have an:IsZip (f.push { cls:=.type "tuple",data:=.seq #[x,y]}) z TI TO .ellipsis:=bc _ G;refine ap (rQ an ∅ λm₇ u H=>?_)
 replace u:IsZip m₇ z TI TO (rawInt f.objs.size):=u
 refine rQ u ∅ λp l I=>?_
 replace l:IsZip p z TI TO (rawInt f.objs.size):=l
 have up:∀c o,c≠z->f.get? c=pe o->p.get? c=pe o:=λc o Y e=>I.extBut _ _ Y<|H.extBut _ _ Y<|bc _ e;have J:IsPair p f.objs.size x y:=I.extBut _ _ (gF aC)<|H.extBut _ _ (gF aC)<|dS _ rfl;have aT:p.objs.size=f.objs.size+1:=by rw[I.1,H.1,kq]
 rw[as]at l J aT;refine aR ⟨_,pw,?_⟩;show Q (.ref f.objs.size) _;rw[as];refine k p l (up _ _ D.TOz j) ?_ ?_ J aT λc o Y c2 c3 c4 e=>up c o Y<|U c o Y c2 c3 c4 e
 .obtain⟨o,e,r⟩:=ab;exact⟨o,up _ o D.i1z e,r⟩
 .obtain⟨o,e,r⟩:=al;exact⟨o,up _ o D.i2z e,r⟩
theorem HX{z TI TO v y J L:Wv}{M N:Nat}{xs O:Array Wx}{a b:Wx}{Q:Fin->Ww->Prop}(hh:A.handled=none)(D:rR z TI TO v y J L)
  (B:IsZip s.heap z TI TO .none) (gI:IsPair s.heap TI (.ref v)<|.ref y) (gO:IsPair s.heap TO a b)
  (g1:s.heap.IsTupleIter v J M) (g2:s.heap.IsTupleIter y L N) (t1:s.heap.IsTuple J xs) (t2:s.heap.IsTuple L O) (T:xs[M]?=none∨O[N]?=none)
  (k:∀U e,(∀c o,c≠z->c≠TO->c≠v->c≠y->s.heap.get? c=pe o->U.get? c=pe o)->(∃o,U.get? e=pe o/\o.cls=.type "StopIteration")->E (.ref e) {s with heap:=U}) :
  wpAny (model prog w) A (bW.«zip.__next__» ⟨[.ref z],[]⟩) Q E s:=by
 show wpAny _ _ (field (.ref z) 2 >>= _) _ _ _;refine ap<|c7 B rfl (x:=.bool false) rfl ?_;show wpAny _ _ (field (.ref z) 3 >>= _) _ _ _;refine ap<|c7 B rfl (x:=.ref TI) rfl ?_;refine ap<|og gI rfl ?_;show wpAny _ _ (zH (.ref z) >>= _) _ _ _;refine ap ?_;unfold zH;refine ap<|c7 B rfl (x:=.none) rfl<|aR ?_;simp only[if_true];refine ap<|pT ?_;refine ap<|c7 B rfl (x:=.ref TO) rfl ?_;refine ap (rQ B ∅ λm₁ i f=>?_)
 replace i:IsZip m₁ z TI TO .ellipsis:=i
 refine ap ?_;simp only[List.zipIdx_cons,List.zipIdx_nil,va,List.forIn_nil];refine ap<|ap<|u5 ?_;show wpAny _ _ (me (.ref v) >>= _) _ _ _;cases hx:xs[M]? with
 |none =>
  refine ap<|tO hh (g1.extBut f.extBut D.i1z) (t1.extBut f.extBut D.l1z) hx λm₂ e g Y=>?_;let⟨oe,t,C⟩:=Y;have j:IsZip m₂ z TI TO .ellipsis:=g _ _ D.i1z.symm i;have u:e≠z:=λq=>by subst q;rw[j]at t;cases t;simp at C
  refine rQ j ∅ λn _ h=>k n e (λc o G _ c3 _ q=>h.extBut _ _ G<|g _ _ c3<|f.extBut _ _ G q) ⟨oe,h.extBut _ _ u t,C⟩
 |some x =>
  have hy:O[N]?=none:=by obtain q|q:=T;rw[hx]at q;cases q;exact q
  refine ap<|lG (g1.extBut f.extBut D.i1z) (t1.extBut f.extBut D.l1z) hx λm₂ ab g=>aR ?_;have l:IsPair m₂ TO a b:=g.extBut _ _ D.TOi1<|f.extBut _ _ D.TOz gO;refine ap<|og l rfl ?_;refine ap<|wpAny_updateSeq_pair l λn al h=>?_;refine ap<|zG<|aR ?_;refine ap<|ap<|u5 ?_;show wpAny _ _ (me (.ref y) >>= _) _ _ _;refine ap (tO hh (((g2.extBut f.extBut D.i2z).extBut g.extBut D.i12.symm).extBut h.extBut D.TOi2.symm)
   (((t2.extBut f.extBut D.l2z).extBut g.extBut D.l2i1).extBut h.extBut D.l2TO) hy λH e p Y=>?_)
  let⟨oe,t,C⟩:=Y;have m:IsZip H z TI TO .ellipsis:=p _ _ D.i2z.symm<|h.extBut _ _ D.TOz.symm<|g.extBut _ _ D.i1z.symm i;have u:e≠z:=λq=>by subst q;rw[m]at t;cases t;simp at C
  refine rQ m ∅ λI _ r=>k I e (λc o G c2 c3 c4 q=>r.extBut _ _ G<|p _ _ c4<|h.extBut _ _ c2<|g.extBut _ _ c3<|f.extBut _ _ G q) ⟨oe,r.extBut _ _ u t,C⟩
theorem xB{z TI TO f g h i:Wv}{j l:Nat}{xs ys:Array Wx}{x y a b:Wx}{Q:Option Wx->Ww->Prop}(D:rR z TI TO f g h i)
  (m:IsZip s.heap z TI TO .none) (p:IsPair s.heap TI (.ref f)<|.ref g) (q:IsPair s.heap TO a b)
  (r:s.heap.IsTupleIter f h j) (t:s.heap.IsTupleIter g i l) (u:s.heap.IsTuple h xs) (v:s.heap.IsTuple i ys) (hx:xs[j]?=pe x) (B:ys[l]?=pe y)
  (k:∀e,IsZip e z TI TO (rawInt ↑s)->IsPair e TO x y->e.IsTupleIter f h (j+1)->e.IsTupleIter g i (l+1)->IsPair e ↑s x y->e.objs.size=↑s+1 ->
   (∀c o,c≠z->c≠TO->c≠f->c≠g->s.heap.get? c=pe o->e.get? c=pe o)->Q (pe<|.ref ↑s) {s with heap:=e}) :
  wpAny (model prog w) A (pyNext<|.ref z) Q E s:=by
 have n:s.TypeIs (.ref z) "zip":=⟨_,m,pw⟩;unfold pyNext;exact ap (u4 (r8 (name:=rZ "__next__") n zD
  (Bp zD n F.entry_zip_next
   (Gm D m p q r t u v hx B λe a1 a2 a3 C G H I=>aR<|k e a1 a2 a3 C G H I) (F.args_zip_next_1 _))))
theorem AB{z TI TO f g h i:Wv}{m n:Nat}{xs ys:Array Wx}{a b:Wx}{Q:Option Wx->Ww->Prop}(r:A.handled=none)(D:rR z TI TO f g h i)
  (p:IsZip s.heap z TI TO .none) (t:IsPair s.heap TI (.ref f)<|.ref g) (u:IsPair s.heap TO a b)
  (v:s.heap.IsTupleIter f h m) (x:s.heap.IsTupleIter g i n) (y:s.heap.IsTuple h xs) (B:s.heap.IsTuple i ys) (j:xs[m]?=none∨ys[n]?=none)
  (k:∀l,(∀c o,c≠z->c≠TO->c≠f->c≠g->s.heap.get? c=pe o->l.get? c=pe o)->Q none {s with heap:=l}):wpAny (model prog w) A (pyNext<|.ref z) Q E s:=by
 have q:s.TypeIs (.ref z) "zip":=⟨_,p,pw⟩;unfold pyNext;refine ap (u4 (r8 (name:=rZ "__next__") q zD
  (Bp zD q F.entry_zip_next (HX r D p t u v x y B j λl e kp C=>?_)<|F.args_zip_next_1 _)))
 let⟨o,G,H⟩:=C;refine ap<|wpAny_isInstance (T:="StopIteration") (b:=true) ⟨o,G,H⟩ isSubtype_stop ?_;exact aR<|k _ kp
end
abbrev Ob(h:WA)(l1:Wv):WA:=h.push { cls:=.type "tuple_iterator",data:=.fields #[.ref l1,.int 0 0]}
abbrev Oa(h:WA)(l1 l2:Wv):WA:=(Ob h l1).push { cls:=.type "tuple_iterator",data:=.fields #[.ref l2,.int 0 0]}
abbrev N_(h:WA)(l1 l2:Wv):WA:=(Oa h l1 l2).push { cls:=.type "tuple",data:=.seq #[.ref h.objs.size,.ref (Ob h l1).objs.size]}
abbrev N9(h:WA)(l1 l2:Wv):WA:=(N_ h l1 l2).push { cls:=.type "tuple",data:=.seq #[.none,.none]}
abbrev Ni(h:WA)(l1 l2:Wv):WA:=(N9 h l1 l2).push { cls:=.type "zip",data:=.fields #[.none,.bool false,.bool false,.ref (Oa h l1 l2).objs.size,.ref (N_ h l1 l2).objs.size]}
theorem Er(l1 l2:Wv)(xs a:Array Wx):
  Meets (bW.«zip.__new__» ⟨[.type "zip",.ref l1,.ref l2],[]⟩) (λ_ R s=>s.heap.IsTuple l1 xs/\s.heap.IsTuple l2 a /\
   R (.ok<|.ret<|.ref (N9 s.heap l1 l2).objs.size) {s with heap:=Ni s.heap l1 l2}) :=
 .of_wp λe w A R s h=>by
  let⟨f,g,d,tk,os⟩:=s;let⟨j,k,h⟩:=h;have i:=sub_zip;have l:Heap.IsTuple (Shared.heap ⟨f,g,d,tk,os⟩) l1 xs:=j;have m:Heap.IsTuple (Shared.heap ⟨f.push { cls:=.type "tuple_iterator",data:=.fields #[.ref l1,.int 0 0]},g,d,tk,os⟩) l2 a:=Heap.IsTuple.push k _
  wp_walk using Fd l,Fd m
  exact⟨_,pw,h⟩
section
variable{prog:bI}{w:Wy}{A:Wz}{E:Zc}{s:Ww}
theorem HA(r:s.heap.IsTuple a xs)(t:s.heap.IsTuple e ys)(k:∀f,IsZip f (↑s+4) (↑s+2) (↑s+3) .none->IsPair f (↑s+2) (.ref ↑s) (.ref<|↑s+1) ->
   IsPair f (↑s+3) .none .none->f.IsTupleIter ↑s a 0->f.IsTupleIter (↑s+1) e 0->(∀c o,s.heap.get? c=pe o->f.get? c=pe o)->Q (.ref<|↑s+4) {s with heap:=f}) :
  wpAny (model prog w) A (call (.type "zip") [.ref a,.ref e]) Q E s:=by
 refine callType_new F.called_zip WE (F.typeCall_zip_2 _ _) (F.newCall_zip_2 _ _) (λg=>F.args_object_init_3 g _ _) F.entry_zip_new
  (Er a e xs ys) ⟨r,t,?_⟩
 have h:(Ob s.heap a).objs.size=↑s+1:=kq ..;have i:(Oa s.heap a e).objs.size=↑s+2:=by rw[kq,h]
 have j:(N_ s.heap a e).objs.size=↑s+3:=by rw[kq,i]
 have m:(N9 s.heap a e).objs.size=↑s+4:=by rw[kq,j]
 have l:(Ni s.heap a e).get? (N9 s.heap a e).objs.size=pe _:=dS _ rfl;have n:(Ni s.heap a e).get? (N_ s.heap a e).objs.size=pe _:=bc _<|dS _ rfl;have p:(Ni s.heap a e).get? (Oa s.heap a e).objs.size=pe _:=bc _<|bc _<|dS _ rfl;have q:(Ni s.heap a e).get? (Ob s.heap a).objs.size=pe _:=bc _<|bc _<|bc _<|dS _ rfl;have u:(Ni s.heap a e).get? ↑s=pe _:=bc _<|bc _<|bc _<|bc _<|dS _ rfl;show _/\_;rw[i,j,m]at l;rw[h,i]at p;rw[j]at n;rw[h]at q;rw[m];exact⟨⟨_,l,pw⟩,k _ l p n ⟨_,u,pw,pw⟩ ⟨_,q,pw,pw⟩ λc o x =>
  bc _ (bc _<|bc _<|bc _<|bc _ x)⟩
end
def LC(K:Za)(a b:Wv):It :=
  ⟨λi H=>∃xs ys x y,bj K H a xs/\bj K H b ys/\xs[i]?=pe x/\ys[i]?=pe y,
   λi H x H'=>∃p u v,x=.ref p/\H p=none/\(∀xs,bj K H a xs->xs[i]?=pe u)/\(∀ys,bj K H b ys->ys[i]?=pe v)/\H'=upd H p (.tup [u,v]),
   λi H=>∃xs ys,bj K H a xs/\bj K H b ys/\(xs.length<=i∨ys.length<=i)⟩
theorem Gp{P:bI}{w:Wy}{K:Za}{es:List WB}{kx:Nat}{J7:Pos}(a b z TI TO t A:Wv)(D:rR z TI TO t A a b):
  uk P w K (.Tuple es kx J7) (LC K a b) [z,TI,TO,t,A] z (λi h=>IsZip h z TI TO .none/\IsPair h TI (.ref t) (.ref A)/\(∃a b,IsPair h TO a b)/\h.IsTupleIter t a i/\h.IsTupleIter A b i) where
 mem:=by simp
 obj:=λi h st c f=>by
  let⟨p,j,⟨u,v,l⟩,M,N⟩:=st;simp only[b_,u8,or_false]at f;obtain rfl|rfl|rfl|rfl|rfl:=f
  .exact⟨_,p,λv z=>by cases z⟩
  .exact⟨_,j,λv z=>by cases z⟩
  .exact⟨_,l,λv z=>by cases z⟩
  .obtain⟨o,e,c,d⟩:=M;exact⟨o,e,λv z=>by rw[d]at z;cases z⟩
  .obtain⟨o,e,c,d⟩:=N;exact⟨o,e,λv z=>by rw[d]at z;cases z⟩
 keep:=λi h O st k=>by
  let⟨p,j,⟨u,v,l⟩,⟨o1,e1,r1⟩,⟨o2,e2,r2⟩⟩:=st;exact⟨k z ∅ _ p,k TI ∅ _ j,⟨u,v,k TO ∅ _ l⟩,⟨o1,k t ∅ o1 e1,r1⟩,⟨o2,k A ∅ o2 e2,r2⟩⟩
 item:=by
  intro X hP hw hK f i J4 s σ H E I hf st hg;subst hP hw hK;let⟨p,j,⟨u0,v0,l⟩,M,N⟩:=st;let⟨xs,ys,x,y,C,G,hx,hy⟩:=hg;let⟨J,rx,px,zx⟩:=I.tuple C;let⟨L,ry,py,zy⟩:=I.tuple G;let⟨u,hu,ru⟩:=rx.get hx;let⟨v,hv,rv⟩:=ry.get hy;refine xB D p j l M N (xs:=J.toArray) (ys:=L.toArray) px py (x:=u) (y:=v) (by simpa using hu) (by simpa using hv) λO a1 a2 a3 a4 a5 a6 hk=>?_;apply⟨_,pw,wpAny_letOwnedTupleGo_zip (s:={s with heap:=O}) a1 λB as aC=>?_⟩;have g:kz z O B:=aC;have Q:↑s≠z:=gF<|a_ p;have T:↑s≠TO:=gF<|a_ l;have U:↑s≠TI:=gF<|a_ j;have Y:↑s≠t:=by let⟨o,ho,_⟩:=M;exact gF<|a_ ho
  have ab:↑s≠A:=by let⟨o,ho,_⟩:=N;exact gF<|a_ ho
  have al:IsPair B ↑s u v:=g.extBut _ _ Q a5;have I2:Inv X J4 σ (upd H ↑s<|.tup [x,y]) {s with heap:=B,toks:=s.toks}:=by
   refine I.Qe (ch:=[z,TI,TO,t,A]) hf (λc o f q=>?_) ⟨_,al⟩ (λ_ z=>nomatch z) ⟨by show 2<=ai;decide,[u,v],.cons ru<|.cons rv .nil,⟨_,al,pw,_,pw⟩⟩;have n1:c≠z:=λq=>f (by simp[q]);exact g.extBut _ _ n1 (hk c o n1 (λq=>f (by simp[q])) (λq=>f (by simp[q])) (λq=>f (by simp[q])) q)
  have aT:B.IsTupleIter t a (i+1):=by let⟨o,e,r⟩:=a3;exact⟨o,g.extBut _ _ D.i1z e,r⟩
  have aX:B.IsTupleIter A b (i+1):=by let⟨o,e,r⟩:=a4;exact⟨o,g.extBut _ _ D.i2z e,r⟩
  apply⟨.ref ↑s,_,I2,pw,⟨_,x,y,pw,I.fresh,λzs p=>by rw[I.Qf p C];exact hx,λzs p=>by rw[I.Qf p G];exact hy,pw⟩,⟨as,g.extBut _ _ D.TIz<|hk _ _ D.TIz D.TITO D.TIi1 D.TIi2 j,⟨_,_,g.extBut _ _ D.TOz a2⟩,aT,aX⟩,λc f=>?_⟩;have a0:=(hf c f).1;simp only[b_,u8,or_false]at f;have ne:c≠↑s:=by
   obtain rfl|rfl|rfl|rfl|rfl:=f
   .exact Q.symm
   .exact U.symm
   .exact T.symm
   .exact Y.symm
   .exact ab.symm
  rw[aj ne];exact a0
 done:=by
  intro X hP hw hK f i J4 s σ H E I hf st hg;subst hP hw hK;let⟨p,j,⟨u0,v0,l⟩,M,N⟩:=st;let⟨xs,ys,C,G,an⟩:=hg;let⟨J,rx,px,zx⟩:=I.tuple C;let⟨L,ry,py,zy⟩:=I.tuple G;have lx:=rx.length;have ly:=ry.length;refine AB (I.ok.hd f) D p j l M N (xs:=J.toArray) (ys:=L.toArray) px py (by obtain q|q:=an;exact .inl (by simp;nofun);exact .inr (by simp;nofun)) λO hk=>⟨pw,?_⟩;have tr:∀c q,H c=pe q->c∉[z,TI,TO,t,A]:=λc q e m=>by rw[(hf c m).1]at e;cases e
  have kk:∀c o,c∉[z,TI,TO,t,A]->s.heap.get? c=pe o->O.get? c=pe o:=λc o f q=>hk c o (λq=>f (by simp[q])) (λq=>f (by simp[q])) (λq=>f (by simp[q])) (λq=>f (by simp[q])) q;refine I.step (g':=s.gens) (d':=s.drawn) (t':=s.toks) (ch:=[z,TI,TO,t,A]) (λc f=>?_) (λc o _ _ f e _=>kk c o f e) (λc o _ _ f e _=>⟨o.slots,kk c o f e⟩) (λ_ _ _ _ n=>n) (λc o f e=>⟨o,kk c o f e⟩) (λ_ _ e=>e) (λ_ _ _ e=>e) (λc ps e=>⟨#[],by rw[e];simp⟩) (λm hm=>?_) (λc q e=>?_) I.bare
  .obtain⟨f0,f1,f2,f3,f4,f5⟩:=hf c f;exact⟨f3,f1,f4,f5⟩
  .obtain⟨q,a7,ep,ho,r⟩:=hm;exact⟨q,a7,ep,kk _ q (λz=>(hf _ z).2.1 rfl) ho,r⟩
  .refine(I.A0 c q e).QD (λd v hd q'=>kk d v ?_ q') (λ_ q=>q) λ_ _ q=>q;obtain z|z:=hd
   .subst z;exact tr _ _ e
   .exact tr _ _ z
 self:=λ_ _ _ _ _ st h=>zJ st.1 h
section
variable{X:Cx}{p pos:Pos}{es:List WB}{kx:Nat}{J7:Pos}
def FT(K:Za)(ta:TA):TI:=fun σ H R=>ta σ H λvs H1=>∃a b,vs=[.ref a,.ref b]/\(((∃xs,aA K H1 a xs)/\(∃ys,aA K H1 b ys)/\R (M_ K a b) H1)∨((∃xs,bj K H1 a xs)/\(∃ys,bj K H1 b ys)/\R (LC K a b) H1))
theorem Av(O:Gl X "zip")(Q:X.mg "zip"=none)(T:PA X [a,b] J)(U:aK [a,b] X.env=[(false,eval a X.env),(false,eval b X.env)]:=by rfl)(j:aK [b] X.env=[(false,eval b X.env)]:=by rfl):
  PI X (.Tuple es kx J7) (.Call (.Name "zip" p) [a,b] [] pos) (FT X.K J):=by
 intro x s σ H R I h;refine Call_ (pd I O Q boot_zip (Br (cQ (T pos x s σ H _ I h) λus s1 y=>?_) (by rw[U,j]) (by rw[j];rfl)));let⟨vs,k,f,Y,q1⟩:=y;let⟨L,M,e,q⟩:=q1;subst e;let⟨u,v,rfl,ru,rv⟩:=vals2 Y;cases ru;cases rv;have l:∀b∈[↑s1+4,↑s1+2,↑s1+3,↑s1,↑s1+1],lK X x k b:=λb N=>by
  have m:↑s1<=b:=by
   simp only[b_,u8,or_false]at N;obtain rfl|rfl|rfl|rfl|rfl:=N<;>nofun
  exact f.QY m<|f.A0.fresh m
 obtain⟨⟨xs,hx⟩,⟨ys,z⟩,q⟩|⟨⟨xs,hx⟩,⟨ys,z⟩,q⟩:=q
 .obtain⟨n,rx,r,zx⟩:=f.list hx;let⟨t,ry,w,zy⟩:=f.list z;let⟨o1,n1,A,_⟩:=id r;let⟨o2,n2,B,_⟩:=id w;refine call_zip_2 r.isList w.isList λg a1 a2 a3 C D a6 E=>?_;refine zJ (s:={s1 with heap:=g}) a1 ?_;have i:∀b o,s1.heap.get? b=pe o->g.get? b=pe o:=E;have G:Inv X x σ k {s1 with heap:=g}:=f.kept (t':=s1.toks) i;exact⟨_,_,_,_,k,pw,G,Ij L M _ _ _ _ _<|zipApart_new (a_ A)<|a_ B,⟨a1,a2,⟨_,_,a3⟩,C,D⟩,l,q⟩
 .obtain⟨n,rx,r,zx⟩:=f.tuple hx;let⟨t,ry,w,zy⟩:=f.tuple z;let⟨o1,A,_⟩:=id r;let⟨o2,B,_⟩:=id w;refine HA (xs:=n.toArray) (ys:=t.toArray) r w λg a1 a2 a3 C D E=>?_;refine zJ (s:={s1 with heap:=g}) a1 ?_;have i:∀b o,s1.heap.get? b=pe o->g.get? b=pe o:=E;have G:Inv X x σ k {s1 with heap:=g}:=f.kept (t':=s1.toks) i;exact⟨_,_,_,_,k,pw,G,Gp L M _ _ _ _ _<|zipApart_new (a_ A)<|a_ B,⟨a1,a2,⟨_,_,a3⟩,C,D⟩,l,q⟩
end
inductive DT where
 |k (a:cD)
 |t (l:List DT)
 |s (l:List DT)
mutual
def Mh:(x y:DT)->Decidable (x=y)
 |.k a,.k b=>if h:a=b then Decidable.isTrue (by rw[h])else Decidable.isFalse λe=>h (by injection e)
 |.t l,.t m=>match Se l m with
  |Decidable.isTrue h=>Decidable.isTrue (by rw[h])
  |Decidable.isFalse h=>Decidable.isFalse λe=>h (by injection e)
 |.s l,.s m=>match Se l m with
  |Decidable.isTrue h=>Decidable.isTrue (by rw[h])
  |Decidable.isFalse h=>Decidable.isFalse λe=>h (by injection e)
 |.k _,.t _=>Decidable.isFalse nofun
 |.k _,.s _=>Decidable.isFalse nofun
 |.t _,.k _=>Decidable.isFalse nofun
 |.t _,.s _=>Decidable.isFalse nofun
 |.s _,.k _=>Decidable.isFalse nofun
 |.s _,.t _=>Decidable.isFalse nofun
def Se:(x y:List DT)->Decidable (x=y)
 |[],[]=>Decidable.isTrue rfl
 |[],_::_=>Decidable.isFalse nofun
 |_::_,[]=>Decidable.isFalse nofun
 |a::l,b::m=>match Mh a b with
  |Decidable.isTrue h=>match Se l m with
   |Decidable.isTrue h'=>Decidable.isTrue (by rw[h,h'])
   |Decidable.isFalse h'=>Decidable.isFalse λe=>h' (by injection e)
  |Decidable.isFalse h=>Decidable.isFalse λe=>h (by injection e)
end
instance:DecidableEq DT:=Mh
mutual
def DT.depth:DT->Nat
 |.k _=>0
 |.t l=>DT.l' l+1
 |.s l=>DT.l' l+1
def DT.l':List DT->Nat
 |[]=>0
 |a::r=>max (DT.depth a)<|DT.l' r
end
mutual
def uI(h:WA):DT->Wx->Prop
 |.k a,v=>dZ a v=true
 |.t l,v=>∃a items,v=.ref a/\h.IsTuple a items/\OZ h l items.toList
 |.s l,v=>∃a items,v=.ref a/\h.IsList a items/\OZ h l items.toList
def OZ(h:WA):List DT->List Wx->Prop
 |[],vs=>vs=[]
 |k::r,vs=>∃v us,vs=v::us/\uI h k v/\OZ h r us
end
theorem OZ.length:∀{xs:List DT}{a:Zf},OZ h xs a->xs.length=a.length
 |[],a,e=>by have f:a=[]:=e;rw[f];rfl
 |x::xs,a,e=>by
  let⟨v,i,rfl,_,g⟩:=e;simp[OZ.length g]
theorem OZ.get:∀{xs:List DT}{a:Zf}{i:Nat}{v:Wx},OZ h xs a->a[i]?=pe v->∃x,xs[i]?=pe x/\uI h x v
 |[],a,i,v,e,q=>by have f:a=[]:=e;subst f;simp at q
 |x::xs,a,i,v,e,q=>by
  let⟨u,m,rfl,g,j⟩:=e;cases i with
  |zero =>
   simp at q;subst q;exact⟨x,pw,g⟩
  |succ i =>
   let⟨y,k,l⟩:=OZ.get j (i:=i) (v:=v) (by simpa using q);exact⟨y,by simpa using k,l⟩
theorem DT.QS{l:List DT}{x:DT}{i d:Nat}(h:DT.l' l<=d)(e:l[i]?=pe x):x.depth<=d:=by
 induction l generalizing i with
 |nil=>simp at e
 |cons a r f =>
  have g:max a.depth (DT.l' r)<=d:=h;cases i with
  |zero=>simp at e;subst e;nofun
  |succ i=>exact f ⋯ (by simpa using e)
theorem EB{h:WA}(x:h.IsList a i)(y:h.IsList a j):i=j:=by
 let⟨o,g,_,n,k⟩:=x;let⟨l,e,_,m,f⟩:=y;rw[g]at e;cases e;rw[k]at f;injection f
theorem CG{h:WA}(x:h.IsTuple a i)(y:h.IsTuple a j):i=j:=by
 let⟨o,g,_,n,k⟩:=x;let⟨l,e,_,m,f⟩:=y;rw[g]at e;cases e;rw[k]at f;injection f
theorem kL{h:WA}(x:h.IsList a i)(y:h.IsTuple a j):False:=by
 let⟨o,g,k,_⟩:=x;let⟨l,e,f,_⟩:=y;rw[g]at e;cases e;rw[k]at f;simp at f
theorem yo(g:dZ a v=true)(f:dZ b v=true):a=b:=by
 obtain⟨i,t,rfl,rfl⟩|⟨i,t,rfl,rfl⟩:=aJ g
 .obtain⟨j,u,rfl,e⟩|⟨j,u,rfl,e⟩:=aJ f
  .cases e;rfl
  .cases e
 .obtain⟨j,u,rfl,e⟩|⟨j,u,rfl,e⟩:=aJ f
  .cases e
  .cases e;rfl
theorem i4(h:dZ a (.ref b)=true):False:=by
 obtain⟨_,_,_,e⟩|⟨_,_,_,e⟩:=aJ h<;>cases e
theorem uI.inj:∀(d:Nat) {x y:DT}{v:Wx},x.depth<=d->uI h x v->uI h y v->x=y:=by
 have p:∀(d:Nat) (q:∀{x y:DT}{v:Wx},x.depth<=d->uI h x v->uI h y v->x=y) (xs g:List DT) (r:Zf),DT.l' xs<=d->OZ h xs r->OZ h g r->xs=g:=by
  intro d q xs
  induction xs with
  |nil =>
   intro g r _ hx f;have u:r=[]:=hx;subst u;cases g with
   |nil=>rfl
   |cons y g=>let⟨_,_,e,_⟩:=f;cases e
  |cons x xs w =>
   intro g r n hx f;let⟨v,H,rfl,z,A⟩:=hx;cases g with
   |nil=>have B:v::H=[]:=f;cases B
   |cons y g =>
    let⟨L,I,e,C,D⟩:=f;cases e;have J:max x.depth (DT.l' xs)<=d:=n;rw[q ⋯ z C,w g H ⋯ A D]
 intro d
 induction d with
 |zero =>
  intro x y v n hx f;cases x with
  |t l=>exact absurd n (by show ¬(DT.l' l+1<=0);nofun)
  |s l=>exact absurd n (by show ¬(DT.l' l+1<=0);nofun)
  |k a =>
   cases y with
   |k b=>rw[yo hx f]
   |t l=>let⟨b,_,rfl,_⟩:=f;exact(i4 hx).elim
   |s l=>let⟨b,_,rfl,_⟩:=f;exact(i4 hx).elim
 |succ d q =>
  intro x y v n hx f;cases x with
  |k a =>
   cases y with
   |k b=>rw[yo hx f]
   |t l=>let⟨b,_,rfl,_⟩:=f;exact(i4 hx).elim
   |s l=>let⟨b,_,rfl,_⟩:=f;exact(i4 hx).elim
  |t l =>
   let⟨a,i,rfl,hi,hx⟩:=hx;cases y with
   |k b=>exact(i4 f).elim
   |t m =>
    let⟨E,j,e,o,f⟩:=f;cases e;rw[CG o hi]at f;rw[p d (λG=>q G) l m i.toList (by have:DT.l' l+1<=d+1:=n;nofun) hx f]
   |s m =>
    let⟨E,j,e,o,f⟩:=f;cases e;exact(kL o hi).elim
  |s l =>
   let⟨a,i,rfl,hi,hx⟩:=hx;cases y with
   |k b=>exact(i4 f).elim
   |s m =>
    let⟨E,j,e,o,f⟩:=f;cases e;rw[EB o hi]at f;rw[p d (λG=>q G) l m i.toList (by have:DT.l' l+1<=d+1:=n;nofun) hx f]
   |t m =>
    let⟨E,j,e,o,f⟩:=f;cases e;exact(kL hi o).elim
theorem gR{l m:List DT}(f:l.length=m.length):((kA l.length).all λj=>decide (l[j]?=m[j]?))=decide (l=m):=by
 by_cases e:l=m
 .subst e;simp
 .rw[qb e];rw[List.all_eq_false];apply u3;intro h;apply e;apply List.ext_getElem?;intro i;by_cases hi:i<l.length
  .apply u3;intro a;exact h ⟨i,List.mem_range.mpr hi,by simpa using a⟩
  .rw[List.getElem?_eq_none ⋯,List.getElem?_eq_none ⋯]
section
variable{s:Ww}
theorem Mc:∀(d:Nat) {A:Wz}{x y:DT}{u v:Wx},y.depth<=d->A.units+d<cLine->uI s.heap x u->uI s.heap y v->bF A s u v (decide (x=y)):=by
 have leaves:∀{A:Wz}{a b:cD}{u v:Wx},dZ a u=true->dZ b v=true->bF A s u v (decide (DT.k a=DT.k b)):=by
  intro A a b u v B G;have J:decide (DT.k a=DT.k b)=decide (a=b):=by
   by_cases e:a=b
   .subst e;simp
   .have:¬(DT.k a=DT.k b):=λz=>e (by injection z);rw[qb this,qb e]
  rw[J];obtain⟨i,t,rfl,rfl⟩|⟨i,t,rfl,rfl⟩:=aJ B
  .obtain⟨j,u,rfl,rfl⟩|⟨j,u,rfl,rfl⟩:=aJ G
   .rw[AH];exact bF.int_int i t j u
   .rw[AG];exact bF.int_str i t j u
  .obtain⟨j,u,rfl,rfl⟩|⟨j,u,rfl,rfl⟩:=aJ G
   .rw[AF];exact bF.str_int i t j u
   .rw[AE];have:=bF.str_str (A:=A) (s:=s) i t j u;rwa[show(i==j)=decide (i=j)from by by_cases e:i=j<;>simp[e]]at this
 have kt:∀{A:Wz}{a:cD}{u:Wx}{b:Wv}{items:Array Wx},A.units<cLine->dZ a u=true->s.heap.IsTuple b items->bF A s u (.ref b) false/\bF A s (.ref b) u false:=by
  intro A a u b items h B w;obtain⟨i,t,rfl,rfl⟩|⟨i,t,rfl,rfl⟩:=aJ B
  .exact⟨bF.int_tuple i t w h,bF.tuple_int i t w h⟩
  .exact⟨bF.str_tuple i t w h,bF.tuple_str i t w h⟩
 have L:∀{A:Wz}{a:cD}{u:Wx}{b:Wv}{items:Array Wx},A.units<cLine->dZ a u=true->s.heap.IsList b items->bF A s u (.ref b) false/\bF A s (.ref b) u false:=by
  intro A a u b items h B w;obtain⟨i,t,rfl,rfl⟩|⟨i,t,rfl,rfl⟩:=aJ B
  .exact⟨bF.int_list i t w h,bF.list_int i t w h⟩
  .exact⟨bF.str_list i t w h,bF.list_str i t w h⟩
 intro d
 induction d with
 |zero =>
  intro A x y u v o h hx f;cases y with
  |t l=>exact absurd o (by show ¬(DT.l' l+1<=0);nofun)
  |s l=>exact absurd o (by show ¬(DT.l' l+1<=0);nofun)
  |k b =>
   cases x with
   |t l =>
    let⟨a,i,rfl,hi,_⟩:=hx;rw[qb (by intro z;cases z)];exact(kt ⋯ f hi).2
   |s l =>
    let⟨a,i,rfl,hi,_⟩:=hx;rw[qb (by intro z;cases z)];exact(L ⋯ f hi).2
   |k a=>exact leaves hx f
 |succ d Q =>
  intro A x y u v o h hx f;have items:∀{l m:List DT}{i j:Array Wx},DT.l' m<=d->OZ s.heap l i.toList->OZ s.heap m j.toList->∀n (B:n<i.size) (G:n<j.size),bF A.in1 s i[n] j[n] (decide (l[n]?=m[n]?)):=by
   intro l m i j H hi p n B G;let⟨x,ex,hx⟩:=hi.get (i:=n) (v:=i[n]) (by simp[B]);let⟨y,O,f⟩:=p.get (i:=n) (v:=j[n]) (by simp[G]);rw[ex,O];have J:decide ((pe x:Option DT)=pe y)=decide (x=y):=by
    by_cases e:x=y
    .subst e;simp
    .rw[qb e,qb λz=>e<|ff z]
   rw[J];exact Q (DT.QS H O) (by show A.units+1+d<cLine;nofun) hx f
  cases x with
  |k a =>
   cases y with
   |k b=>exact leaves hx f
   |t l =>
    let⟨b,i,rfl,hi,_⟩:=f;rw[qb (by intro z;cases z)];exact(kt ⋯ hx hi).1
   |s l =>
    let⟨b,i,rfl,hi,_⟩:=f;rw[qb (by intro z;cases z)];exact(L ⋯ hx hi).1
  |t l =>
   have C:=hx;let⟨a,i,rfl,hi,hx⟩:=hx;cases y with
   |k b =>
    rw[qb (by intro z;cases z)];exact(kt ⋯ f hi).2
   |s m =>
    let⟨b,j,rfl,p,_⟩:=f;rw[qb (by intro z;cases z)];exact bF.tuple_list hi p ⋯
   |t m =>
    have H:DT.l' m<=d:=by have:DT.l' m+1<=d+1:=o;nofun
    have D:=f;let⟨b,j,rfl,p,f⟩:=f;by_cases g:a=b
    .subst g;have e:DT.t l=DT.t m:=uI.inj _ (aB _) C D;rw[qh e];exact bF.same _
    .have r:=SeqAt.RcAt.tuples (A:=A) hi p ⋯<|items H hx f;have I:=hx.length;have M:=f.length;simp only[pP]at I M;have q:((kA<|min i.size j.size).all (λn=>decide (l[n]?=m[n]?)) && i.size==j.size)=decide (DT.t l=DT.t m):=by
      by_cases e:l.length=m.length
      .have N:i.size=j.size:=by nofun
       rw[<-N,zC,<-I,gR e];by_cases E:l=m
       .subst E;simp
       .have:¬(DT.t l=DT.t m):=λz=>E (by injection z);rw[qb this,qb E];rfl
      .have N:(i.size==j.size)=false:=by simp;nofun
       have:¬(DT.t l=DT.t m):=λz=>e (by injection z with z;rw[z]);rw[N,qb this,rP]
     rw[q]at r;exact .of_refs g r
  |s l =>
   have C:=hx;let⟨a,i,rfl,hi,hx⟩:=hx;cases y with
   |k b =>
    rw[qb (by intro z;cases z)];exact(L ⋯ f hi).2
   |t m =>
    let⟨b,j,rfl,p,_⟩:=f;rw[qb (by intro z;cases z)];exact bF.list_tuple hi p ⋯
   |s m =>
    have H:DT.l' m<=d:=by have:DT.l' m+1<=d+1:=o;nofun
    have D:=f;let⟨b,j,rfl,p,f⟩:=f;by_cases g:a=b
    .subst g;have e:DT.s l=DT.s m:=uI.inj _ (aB _) C D;rw[qh e];exact bF.same _
    .have I:=hx.length;have M:=f.length;simp only[pP]at I M;by_cases e:l.length=m.length
     .have r:=SeqAt.RcAt.lists (A:=A) hi p ⋯ ⋯<|items H hx f;rw[<-I,gR e]at r;have q:decide (l=m)=decide (DT.s l=DT.s m):=by
       by_cases E:l=m
       .subst E;simp
       .have:¬(DT.s l=DT.s m):=λz=>E (by injection z);rw[qb this,qb E]
      rw[q]at r;exact .of_refs g r
     .have:¬(DT.s l=DT.s m):=λz=>e (by injection z with z;rw[z]);rw[qb this];exact .of_refs g (SeqAt.RcAt.lists_lengths hi p (by simp;nofun) ⋯)
end
theorem F1(a b:cD):decide (DT.k a=DT.k b)=decide (a=b):=by
 by_cases e:a=b
 .subst e;simp
 .rw[qb e,qb λz=>e (by injection z)]
theorem Me(l m:List DT):decide (DT.t l=DT.t m)=decide (l=m):=by
 by_cases e:l=m
 .subst e;simp
 .rw[qb e,qb λz=>e (by injection z)]
theorem Mf(l m:List DT):decide (DT.s l=DT.s m)=decide (l=m):=by
 by_cases e:l=m
 .subst e;simp
 .rw[qb e,qb λz=>e (by injection z)]
theorem JL(x y:DT):decide ((pe x:Option DT)=pe y)=decide (x=y):=by
 by_cases e:x=y
 .subst e;simp
 .rw[qb e,qb λz=>e<|ff z]
section
variable{A:Wz}{s:Ww}
theorem qV(g:A.units+1+d<cLine){i j:Array Wx}(h:DT.l' m<=d)(hi:OZ s.heap l i.toList)(k:OZ s.heap m j.toList):
  ∀n (a:n<i.size) (e:n<j.size),bF A.in1 s i[n] j[n] (decide (l[n]?=m[n]?)):=by
 intro n a e;let⟨x,ex,hx⟩:=hi.get (i:=n) (v:=i[n]) (by simp[a]);let⟨y,f,o⟩:=k.get (i:=n) (v:=j[n]) (by simp[e]);rw[ex,f,JL];exact Mc d (DT.QS h f) g hx o
theorem Fq{i j:Array Wx}(hi:OZ s.heap l i.toList)(g:OZ s.heap m j.toList):((kA<|min i.size j.size).all (λn=>decide (l[n]?=m[n]?)) && i.size==j.size)=decide (l=m):=by
 have f:=hi.length;have h:=g.length;simp only[pP]at f h;by_cases e:l.length=m.length
 .have a:i.size=j.size:=by nofun
  rw[<-a,zC,<-f,gR e];simp
 .have a:(i.size==j.size)=false:=by simp;nofun
  rw[a,qb λz=>e (by rw[z]),rP]
theorem NR(o:y.depth<=14)(w:A.units+16<cLine)(hx:uI s.heap x u)(f:uI s.heap y v):SeqAt.RcAt A s u v (decide (x=y)):=by
 cases x with
 |k a =>
  obtain⟨i,t,rfl,rfl⟩|⟨i,t,rfl,rfl⟩:=aJ (show dZ a u=true from hx)
  .cases y with
   |k b =>
    rw[F1];obtain⟨j,h,rfl,rfl⟩|⟨j,h,rfl,rfl⟩:=aJ (show dZ b v=true from f)
    .rw[AH];exact SeqAt.RcAt.int_int i t j h
    .rw[AG];exact SeqAt.RcAt.int_str i t j h
   |t m=>let⟨b,j,rfl,g,_⟩:=f;rw[qb (by intro z;cases z)];exact SeqAt.RcAt.int_tuple i t g ⋯
   |s m=>let⟨b,j,rfl,g,_⟩:=f;rw[qb (by intro z;cases z)];exact SeqAt.RcAt.int_list i t g ⋯
  .cases y with
   |k b =>
    rw[F1];obtain⟨j,h,rfl,rfl⟩|⟨j,h,rfl,rfl⟩:=aJ (show dZ b v=true from f)
    .rw[AF];exact SeqAt.RcAt.str_int i t j h
    .rw[AE];have:=SeqAt.RcAt.str_str (A:=A) (s:=s) i t j h;rwa[show(i==j)=decide (i=j)from by by_cases e:i=j<;>simp[e]]at this
   |t m=>let⟨b,j,rfl,g,_⟩:=f;rw[qb (by intro z;cases z)];exact SeqAt.RcAt.str_tuple i t g ⋯
   |s m=>let⟨b,j,rfl,g,_⟩:=f;rw[qb (by intro z;cases z)];exact SeqAt.RcAt.str_list i t g ⋯
 |t l =>
  let⟨a,i,rfl,hi,hx⟩:=hx;cases y with
  |k b =>
   rw[qb (by intro z;cases z)];obtain⟨j,h,rfl,rfl⟩|⟨j,h,rfl,rfl⟩:=aJ (show dZ b v=true from f)
   .exact SeqAt.RcAt.tuple_int j h hi ⋯
   .exact SeqAt.RcAt.tuple_str j h hi ⋯
  |t m =>
   let⟨b,j,rfl,g,f⟩:=f;have n:DT.l' m<=13:=by have:DT.l' m+1<=14:=o;nofun
   have r:=SeqAt.RcAt.tuples (A:=A) hi g ⋯ (qV ⋯ n hx f);rw[Fq hx f]at r;rw[Me];exact r
  |s m=>let⟨b,j,rfl,g,_⟩:=f;rw[qb (by intro z;cases z)];exact SeqAt.RcAt.tuple_list hi g ⋯
 |s l =>
  let⟨a,i,rfl,hi,hx⟩:=hx;cases y with
  |k b =>
   rw[qb (by intro z;cases z)];obtain⟨j,h,rfl,rfl⟩|⟨j,h,rfl,rfl⟩:=aJ (show dZ b v=true from f)
   .exact SeqAt.RcAt.list_int j h hi ⋯
   .exact SeqAt.RcAt.list_str j h hi ⋯
  |t m=>let⟨b,j,rfl,g,_⟩:=f;rw[qb (by intro z;cases z)];exact SeqAt.RcAt.list_tuple hi g ⋯
  |s m =>
   let⟨b,j,rfl,g,f⟩:=f;have n:DT.l' m<=13:=by have:DT.l' m+1<=14:=o;nofun
   have p:=hx.length;have q:=f.length;simp only[pP]at p q;rw[Mf];by_cases e:l.length=m.length
   .have r:=SeqAt.RcAt.lists (A:=A) hi g ⋯ ⋯ (qV ⋯ n hx f);rw[<-p,gR e]at r;exact r
   .rw[qb λz=>e (by rw[z])];exact SeqAt.RcAt.lists_lengths hi g (by simp;nofun) ⋯
theorem NS(o:y.depth<=14)(w:A.units+16<cLine)(hx:uI s.heap x u)(f:uI s.heap y v):SeqAt.RcNeAt A s u v (!decide (x=y)):=by
 cases x with
 |k a =>
  obtain⟨i,t,rfl,rfl⟩|⟨i,t,rfl,rfl⟩:=aJ (show dZ a u=true from hx)
  .cases y with
   |k b =>
    rw[F1];obtain⟨j,h,rfl,rfl⟩|⟨j,h,rfl,rfl⟩:=aJ (show dZ b v=true from f)
    .rw[AH];exact SeqAt.RcNeAt.int_int i t j h
    .rw[AG];exact SeqAt.RcNeAt.int_str i t j h
   |t m=>let⟨b,j,rfl,g,_⟩:=f;rw[qb (by intro z;cases z)];exact SeqAt.RcNeAt.int_tuple i t g ⋯
   |s m=>let⟨b,j,rfl,g,_⟩:=f;rw[qb (by intro z;cases z)];exact SeqAt.RcNeAt.int_list i t g ⋯
  .cases y with
   |k b =>
    rw[F1];obtain⟨j,h,rfl,rfl⟩|⟨j,h,rfl,rfl⟩:=aJ (show dZ b v=true from f)
    .rw[AF];exact SeqAt.RcNeAt.str_int i t j h
    .rw[AE];have:=SeqAt.RcNeAt.str_str (A:=A) (s:=s) i t j h;rwa[show(i==j)=decide (i=j)from by by_cases e:i=j<;>simp[e]]at this
   |t m=>let⟨b,j,rfl,g,_⟩:=f;rw[qb (by intro z;cases z)];exact SeqAt.RcNeAt.str_tuple i t g ⋯
   |s m=>let⟨b,j,rfl,g,_⟩:=f;rw[qb (by intro z;cases z)];exact SeqAt.RcNeAt.str_list i t g ⋯
 |t l =>
  let⟨a,i,rfl,hi,hx⟩:=hx;cases y with
  |k b =>
   rw[qb (by intro z;cases z)];obtain⟨j,h,rfl,rfl⟩|⟨j,h,rfl,rfl⟩:=aJ (show dZ b v=true from f)
   .exact SeqAt.RcNeAt.tuple_int j h hi ⋯
   .exact SeqAt.RcNeAt.tuple_str j h hi ⋯
  |t m =>
   let⟨b,j,rfl,g,f⟩:=f;have n:DT.l' m<=13:=by have:DT.l' m+1<=14:=o;nofun
   have r:=SeqAt.RcNeAt.tuples (A:=A) hi g ⋯ (qV ⋯ n hx f);rw[Fq hx f]at r;rw[Me];exact r
  |s m=>let⟨b,j,rfl,g,_⟩:=f;rw[qb (by intro z;cases z)];exact SeqAt.RcNeAt.tuple_list hi g ⋯
 |s l =>
  let⟨a,i,rfl,hi,hx⟩:=hx;cases y with
  |k b =>
   rw[qb (by intro z;cases z)];obtain⟨j,h,rfl,rfl⟩|⟨j,h,rfl,rfl⟩:=aJ (show dZ b v=true from f)
   .exact SeqAt.RcNeAt.list_int j h hi ⋯
   .exact SeqAt.RcNeAt.list_str j h hi ⋯
  |t m=>let⟨b,j,rfl,g,_⟩:=f;rw[qb (by intro z;cases z)];exact SeqAt.RcNeAt.list_tuple hi g ⋯
  |s m =>
   let⟨b,j,rfl,g,f⟩:=f;have n:DT.l' m<=13:=by have:DT.l' m+1<=14:=o;nofun
   have p:=hx.length;have q:=f.length;simp only[pP]at p q;rw[Mf];by_cases e:l.length=m.length
   .have r:=SeqAt.RcNeAt.lists (A:=A) hi g ⋯ ⋯ (qV ⋯ n hx f);rw[<-p,gR e]at r;exact r
   .rw[qb λz=>e (by rw[z])];exact SeqAt.RcNeAt.lists_lengths hi g (by simp;nofun) ⋯
end
mutual
def gE(K:Za)(H:Hp):DT->V->Prop
 |.k a,v=>v=kV a
 |.t l,v=>∃b xs,v=.ref b/\bj K H b xs/\wh K H l xs
 |.s l,v=>∃b xs,v=.ref b/\aA K H b xs/\wh K H l xs
def wh(K:Za)(H:Hp):List DT->List V->Prop
 |[],vs=>vs=[]
 |k::r,vs=>∃v us,vs=v::us/\gE K H k v/\wh K H r us
end
section
variable{X:Cx}{J4:Zd}{σ:St}{H:Hp}{s:Ww}
theorem pk(I:Inv X J4 σ H s):∀(d:Nat) {k:DT}{v:V}{u:Wx},k.depth<=d->gE X.K H k v->RelV v u->uI s.heap k u:=by
 have h:∀(d:Nat) (i:∀{k:DT}{v:V}{u:Wx},k.depth<=d->gE X.K H k v->RelV v u->uI s.heap k u) (f:List DT) (j:List V) (o:Zf),DT.l' f<=d->wh X.K H f j->bg j o->OZ s.heap f o:=by
  intro d i f
  induction f with
  |nil =>
   intro j o _ hx r;have e:j=[]:=hx;subst e;cases r
   rfl
  |cons k f p =>
   intro j o g hx r;let⟨v,q,rfl,m,A⟩:=hx;cases r with
   |@cons _ u _ n B C =>
    have D:max k.depth (DT.l' f)<=d:=g;exact⟨u,n,pw,i ⋯ m B,p q n ⋯ A C⟩
 intro d
 induction d with
 |zero =>
  intro k v u g hx r;cases k with
  |t l=>exact absurd g (by show ¬(DT.l' l+1<=0);nofun)
  |s l=>exact absurd g (by show ¬(DT.l' l+1<=0);nofun)
  |k b =>
   have e:v=kV b:=hx;subst e;exact qQ (P:=X.prog) (w:=X.w) r
 |succ d i =>
  intro k v u g hx r;cases k with
  |k b =>
   have e:v=kV b:=hx;subst e;exact qQ (P:=X.prog) (w:=X.w) r
  |t l =>
   let⟨b,xs,rfl,x,hi⟩:=hx;cases(show u=Value.ref b from r);let⟨a,y,z,_⟩:=I.tuple x;exact⟨b,a.toArray,pw,z,by simpa using h d (λm=>i m) l xs a (by have:DT.l' l+1<=d+1:=g;nofun) hi y⟩
  |s l =>
   let⟨b,xs,rfl,x,hi⟩:=hx;cases(show u=Value.ref b from r);let⟨a,y,z,_⟩:=I.list x;exact⟨b,a.toArray,pw,z.isList,by simpa using h d (λm=>i m) l xs a (by have:DT.l' l+1<=d+1:=g;nofun) hi y⟩
theorem qY(I:Inv X J4 σ H s):∀{a:List DT}{f:List V}{g:Zf},DT.l' a<=8->wh X.K H a f->bg f g->OZ s.heap a g
 |[],f,g,_,hx,r=>by
  have e:f=[]:=hx;subst e;cases r
  rfl
 |k::a,f,g,i,hx,r=>by
  let⟨v,j,rfl,l,m⟩:=hx;cases r with
  |@cons _ u _ h n o =>
   have p:max k.depth (DT.l' a)<=8:=i;exact⟨u,h,pw,pk I 8 ⋯ l n,qY I ⋯ m o⟩
end
def mF(K:Za):R2:=λx y H Q=>∃d e:DT,gE K H d x/\gE K H e y/\d.depth<=8/\e.depth<=8/\Q (.bl<|decide (d=e)) H
def sI(K:Za):R2:=λx y H Q=>∃d e:DT,gE K H d x/\gE K H e y/\d.depth<=8/\e.depth<=8/\Q (.bl (!decide (d=e))) H
section
variable{X:Cx}
theorem iJ(f:X.A.units+16<cLine):oq X (fV .Eq) (mF X.K):=by
 intro l s σ H x y v u Q I g i h;let⟨d,e,hx,j,k,a,q⟩:=h;exact NR (bh a WE) f (pk I 8 k hx g) (pk I 8 a j i) X.prog X.w X.xe _ ⟨.bl _,H,I,pw,q⟩
theorem mK(f:X.A.units+16<cLine):oq X (fV .NotEq) (sI X.K):=by
 intro l s σ H x y v u Q I g i h;let⟨d,e,hx,j,k,a,q⟩:=h;exact NS (bh a WE) f (pk I 8 k hx g) (pk I 8 a j i) X.prog X.w X.xe _ ⟨.bl _,H,I,pw,q⟩
def qF(K:Za)(neg:Bool):R2:=λx y H Q=>∃(d:DT) (ds:List DT) (p:Wv) (xs:List V),gE K H d x/\y=.ref p/\(aA K H p xs∨bj K H p xs)/\wh K H ds xs/\d.depth<=8/\DT.l' ds<=8/\Q (.bl<|if neg then !decide (d∈ds)else decide (d∈ds)) H
open Classical in
theorem rf{h:WA}{d:DT}(g:d.depth<=8):∀{a:List DT}{f:Zf},OZ h a f->DT.l' a<=8->f.any (λu=>@decide (uI h d u) (propDecidable _))=decide (d∈a)
 |[],f,e,_=>by
  have j:f=[]:=e;subst j
  rfl
 |x::a,f,e,k=>by
  let⟨u,l,rfl,i,m⟩:=e;have o:max x.depth (DT.l' a)<=8:=k;rw[mi,rf g m ⋯];by_cases q:d=x
  .subst q;simp[i]
  .have n:¬uI h d u:=λz=>q<|uI.inj 8 g z i;simp[n,q]
open Classical in
theorem vY{A:Wz}{s:Ww}{d:DT}{v:Wx}(g:d.depth<=8)(i:A.units+8<cLine)(j:uI s.heap d v):∀{f:List DT}{a:Zf},OZ s.heap f a->DT.l' f<=8->∀u∈a,bF A s u v (@decide (uI s.heap d u) (propDecidable _))
 |[],a,e,_,u,hm=>by
  have k:a=[]:=e;subst k;cases hm
 |x::f,a,e,l,u,hm=>by
  let⟨r,m,rfl,h,o⟩:=e;have p:max x.depth (DT.l' f)<=8:=l;obtain rfl|hm:=b_.mp hm
  .have q:=Mc 8 (A:=A) g i h j;by_cases z:x=d
   .subst z;rw[qh h];rwa[qh rfl]at q
   .have n:¬uI s.heap d u:=λw=>z (uI.inj 8 g w h).symm;rw[qb n];rwa[qb z]at q
  .exact vY g i j o ⋯ u hm
theorem Eo(t:X.A.units+16<cLine):oq X (fV .In) (qF X.K false):=by
 intro z s σ H x y v u Q I m n h;let⟨d,B,p,xs,hx,rfl,hq,e,f,a,q⟩:=h;cases n;have l:=pk I 8 f hx m;have g:X.A.in1.units+8<cLine:=by show X.A.units+1+8<cLine;nofun
 obtain hq|hq:=hq
 .obtain⟨i,r,j,o⟩:=I.list hq;have hi:=qY I a e r;refine SeqAt.in_listAt _ j.isList (λw k=>vY f g l hi a w (by simpa using k)) ⟨.bl _,H,I,pw,?_⟩;rw[zB,rf f hi a];exact q
 .obtain⟨i,r,j,o⟩:=I.tuple hq;have hi:=qY I a e r;refine SeqAt.in_tupleAt _ j (λw k=>vY f g l hi a w (by simpa using k)) ⟨.bl _,H,I,pw,?_⟩;rw[zB,rf f hi a];exact q
theorem iZ(t:X.A.units+16<cLine):oq X (fV .NotIn) (qF X.K true):=by
 intro z s σ H x y v u Q I m n h;let⟨d,B,p,xs,hx,rfl,hq,e,f,a,q⟩:=h;cases n;have l:=pk I 8 f hx m;have g:X.A.in1.units+8<cLine:=by show X.A.units+1+8<cLine;nofun
 obtain hq|hq:=hq
 .obtain⟨i,r,j,o⟩:=I.list hq;have hi:=qY I a e r;refine SeqAt.notIn_listAt _ j.isList (λw k=>vY f g l hi a w (by simpa using k)) ⟨.bl _,H,I,pw,?_⟩;rw[zB,rf f hi a];exact q
 .obtain⟨i,r,j,o⟩:=I.tuple hq;have hi:=qY I a e r;refine SeqAt.notIn_tupleAt _ j (λw k=>vY f g l hi a w (by simpa using k)) ⟨.bl _,H,I,pw,?_⟩;rw[zB,rf f hi a];exact q
end
def wd(z:WD)(lo hi:Option Int):WD:=⟨((z.cps.toList.drop<|HT.Hx z.length 0 lo).take<|HT.Hx z.length z.length hi-HT.Hx z.length 0 lo).toArray⟩
theorem sliceRange_one(a b:Nat):u1 (a:Int) (b:Int) 1=(kA<|b-a).map (λk=>a+k):=by
 unfold u1;simp only[show(1:Int) > 0 from by decide,if_true];by_cases h:(a:Int)<(b:Int)
 .have e:(if(a:Int)<(b:Int)then((b:Int)-a+1-1) / 1 else 0).toNat=b-a:=by rw[if_pos h];nofun
  rw[e];exact zA λk _=>by nofun
 .have e:(if(a:Int)<(b:Int)then((b:Int)-a+1-1) / 1 else 0).toNat=b-a:=by rw[if_neg h];nofun
  rw[e];exact zA λk _=>by nofun
theorem CT(v:Option Int)(n d:Nat):(match v with|none=>(d:Int)|some i=>max 0<|min (if i<0 then i+(n:Int)else i) (n:Int))=((HT.Hx n d v:Nat):Int):=by
 cases v with
 |none=>rfl
 |some i =>
  rw[<-HT.Rv i n d];dsimp only;by_cases h:i<0
  .rw[if_pos h,if_pos h];nofun
  .rw[if_neg h,if_neg h];nofun
theorem qw(lo hi:Option Int)(n:Nat):uZ lo hi 1 n=(kA<|HT.Hx n n hi-HT.Hx n 0 lo).map (λk=>HT.Hx n 0 lo+k):=by
 have a:=CT lo n 0;have e:=CT hi n n;rw[<-sliceRange_one,<-a,<-e];unfold uZ;simp only[show(1:Int) > 0 from by decide,if_true];cases lo<;>cases hi<;>rfl
theorem GH(z:WD)(lo hi:Option Int):Txt.slice z lo hi=wd z lo hi:=by
 have k:HT.Hx z.length 0 lo<=z.length:=HT.R3 _ _ (cw _) _;have l:HT.Hx z.length z.length hi<=z.length:=HT.R3 _ _ (aB _) _;have f:z.cps.toList.length=z.length:=by simp[Str.length]
 have e:(uZ lo hi 1 z.length).filterMap (z.cps[·]?)=(z.cps.toList.drop<|HT.Hx z.length 0 lo).take (HT.Hx z.length z.length hi-HT.Hx z.length 0 lo):=by
  rw[qw];generalize HT.Hx z.length 0 lo=a at *;generalize HT.Hx z.length z.length hi=b at *;have h:=StrLaws.picks z.cps.toList (b-a) a ⋯;simpa using h
 unfold Txt.slice;by_cases h:((1:Int)==1 && (uZ lo hi 1 z.length).length==z.length)=true
 .rw[if_pos h];have g:(uZ lo hi 1 z.length).length=z.length:=by simpa using h
  rw[qw,am,List.length_range]at g;unfold wd;have i:HT.Hx z.length 0 lo=0:=by nofun
  have j:HT.Hx z.length z.length hi-HT.Hx z.length 0 lo=z.cps.toList.length:=by nofun
  rw[j,i,uY,bC]
 .rw[if_neg h];unfold wd;rw[e]
section
variable{X:Cx}
def KO:V->Option Int->Option Int->Hp->VK->Prop:=λx lo hi H Q=>∃z,x=.str z/\z.length<=ai/\Q (.str<|wd z lo hi) H
theorem DS:JZ X KO:=by
 intro g s σ H x v m n lo hi p Q I r y B f h;let⟨z,rfl,C,q⟩:=h;let⟨t,rfl⟩:=r;rw[<-GH]at q;apply⟨"str",_,F.slot_str_getitem.lookup,typeIs_str _ _ _,?_⟩;let⟨o,D,E,G⟩:=y;have a:∀(l u:Option<|Int×Tok),m=partValue l->n=partValue u->lo=l.map (·.1)->hi=u.map (·.1)->wpAny (model X.prog X.w) X.A (i_ (.str z t)<|.ref p) (EP X g σ Q) X.xe s:=by
  rintro l u rfl rfl rfl rfl;refine wpAny_getItem_str_slice (l:=l) (u:=u) (st:=none) ⟨o,D,E,G⟩ rfl<|post_val_or_str ⟨bh (Txt.slice_le z _ _) C,λe k=>⟨.str _,H,I.tok _,⟨_,pw⟩,q⟩⟩
 cases B with
 |none =>
  cases f with
  |none=>exact a none none rfl rfl rfl rfl
  |int j u=>exact a none (pe (j,u)) rfl rfl rfl rfl
 |int i e =>
  cases f with
  |none=>exact a (pe (i,e)) none rfl rfl rfl rfl
  |int j u=>exact a (pe (i,e)) (pe (j,u)) rfl rfl rfl rfl
def LR(K:Za):V->List V->Hp->VK->Prop:=λx vs H Q=>∃z p ys,x=.str z/\vs=[.ref p]/\aA K H p (ys.map V.str)/\(ys.map (·.length)).sum+ys.length * z.length<=16777216/\Q (.str<|zo z ys) H
theorem Kz:∀{us:Zf},bg (a.map V.str) us->StrsAre us a:=by
 induction a with
 |nil=>intro us r;cases r;exact .nil
 |cons y a e =>
  intro us r;cases r with
  |cons f g =>
   let⟨t,rfl⟩:=f;exact .cons _ _<|e g
theorem K7:No X "str.join" (LR X.K):=by
 intro m s σ H x n v o Q I a e h;let⟨z,p,w,rfl,rfl,f,g,q⟩:=h;let⟨t,rfl⟩:=a;let⟨u,rfl,i⟩:=e.one;cases i;let⟨j,r,l,_⟩:=I.list f;exact join_list l.isList (by simpa using Kz r) g λy k=>⟨.str _,H,I.tok _,⟨_,pw⟩,q⟩
end
section
variable{X:Cx}
def Lu(K:Za)(H:Hp)(x:V)(t:Wx):Prop:=jp K H x t∨(∃a xs,x=.ref a/\t=.type "tuple"/\bj K H a xs)∨(∃a xs,x=.ref a/\t=.type "list"/\aA K H a xs)
theorem EA(I:Inv X k σ H s)(f:RelV x u)(ty:Lu X.K H x t)(e:l_ X.K t c=pe b)(h:∀tk,Q (.bool b) {s with toks:=tk}):
  wpAny (model X.prog X.w) A (call (.builtin "isinstance") [u,c]) Q E s:=by
 obtain ty|⟨a,xs,rfl,rfl,q⟩|⟨a,xs,rfl,rfl,q⟩:=ty
 .exact Hk I f ty e h
 .cases(show u=Value.ref a from f);let⟨g,l,p,m⟩:=I.tuple q;let⟨o,i,j,_⟩:=p;exact jB PySem.W.kitx_tuple I.OF ⟨o,i,j⟩ e (λz=>nomatch z) h
 .cases(show u=Value.ref a from f);let⟨g,l,p,m⟩:=I.list q;let⟨o,n,i,j,_⟩:=p;exact jB PySem.W.kitx_list I.OF ⟨o,i,j⟩ e (λz=>nomatch z) h
theorem fy:fB X (.builtin "isinstance") (λxs H Q=>∃x c t b,xs=[x,.ty c]/\Lu X.K H x t/\l_ X.K t (.type c)=pe b/\Q (.bl b) H):=by
 intro g s σ H xs i Q I r h;let⟨x,c,t,b,rfl,ty,a,q⟩:=h;let⟨u,v,rfl,e,f⟩:=vals2 r;cases(show v=Value.type c from f);exact EA I e ty a λtk=>⟨.bl b,H,I.tok _,pw,q⟩
theorem JS{bs:List Bool}(r:bg (bs.map V.bl) a)(h:a[i]?=pe v):v=.bool ((bs[i]?).getD false)/\i<bs.length:=by
 have hi:i<a.length:=(cx.mp h).1;have g:=r.length;rw[am]at g;have e:i<bs.length:=by nofun
 let⟨u,f,j⟩:=r.get (i:=i) (x:=V.bl bs[i]) (by simp[e]);rw[h]at f;cases f;apply⟨?_,e⟩;rw[dH e];exact j
theorem A8(bs:List Bool):((kA bs.length).all λi=>(bs[i]?).getD false)=bs.all id:=by
 induction bs with
 |nil=>rfl
 |cons b bs a =>
  rw[da,List.range_succ_eq_map,List.all_cons,List.all_map,List.all_cons,<-a]
  rfl
theorem A7(bs:List Bool):((kA bs.length).any λi=>(bs[i]?).getD false)=bs.any id:=by
 induction bs with
 |nil=>rfl
 |cons b bs a =>
  rw[da,List.range_succ_eq_map,mi,List.any_map,mi,<-a]
  rfl
theorem mT(l:X.calm=true):fB X (.builtin "all") (λxs H Q=>∃(p:Wv) (bs:List Bool),xs=[.ref p]/\aA X.K H p (bs.map V.bl)/\Q (.bl<|bs.all id) H):=by
 intro m s σ H xs E Q I r h;let⟨p,bs,rfl,t,q⟩:=h;let⟨u,rfl,x⟩:=vals1 r;cases x;let⟨a,j,f,G⟩:=I.list t;let⟨o,n,y,_⟩:=id f;have k:=j.length;rw[am]at k;refine call_all_walk<|xM f.isList ?_;apply⟨↑s,_,_,_,_,_,λi=>(bs[i]?).getD false,pw,Walks.list (prog:=X.prog) (w:=X.w) (A:=X.A.in1) (I.ok.hd l) ↑s p (cG<|a_ y) a.toArray,⟨⟨_,dS _ rfl,pw,pw⟩,f.isList.push _⟩,?_,?_⟩
 .intro i v J L M z g;let⟨e,_⟩:=JS j (i:=i) (v:=v) (by simpa using z);rw[e];exact pS g
 .intro B tk C;have D:Inv X m σ H {s with heap:=B,toks:=tk}:=I.kept λb o e=>C b o (by simp;exact cG<|a_ e)<|bc _ e;rw[bM,<-k,A8];exact⟨.bl _,H,D,pw,q⟩
theorem CV(l:X.calm=true):fB X (.builtin "any") (λxs H Q=>∃(p:Wv) (bs:List Bool),xs=[.ref p]/\aA X.K H p (bs.map V.bl)/\Q (.bl<|bs.any id) H):=by
 intro m s σ H xs E Q I r h;let⟨p,bs,rfl,t,q⟩:=h;let⟨u,rfl,x⟩:=vals1 r;cases x;let⟨a,j,f,G⟩:=I.list t;let⟨o,n,y,_⟩:=id f;have k:=j.length;rw[am]at k;refine call_any_walk<|xM f.isList ?_;apply⟨↑s,_,_,_,_,_,λi=>(bs[i]?).getD false,pw,Walks.list (prog:=X.prog) (w:=X.w) (A:=X.A.in1) (I.ok.hd l) ↑s p (cG<|a_ y) a.toArray,⟨⟨_,dS _ rfl,pw,pw⟩,f.isList.push _⟩,?_,?_⟩
 .intro i v J L M z g;let⟨e,_⟩:=JS j (i:=i) (v:=v) (by simpa using z);rw[e];exact pS g
 .intro B tk C;have D:Inv X m σ H {s with heap:=B,toks:=tk}:=I.kept λb o e=>C b o (by simp;exact cG<|a_ e)<|bc _ e;rw[bM,<-k,A7];exact⟨.bl _,H,D,pw,q⟩
theorem En:oq X (fV .In) (λx y H Q=>∃c j,x=.str ⟨#[c]⟩/\y=.str j/\Q (.bl<|decide (c∈j.cps.toList)) H):=by
 intro a s σ H x y v u Q I e f h;let⟨c,j,rfl,rfl,q⟩:=h;rw[<-StrLaws.found_one]at q;exact He a s σ H _ _ v u Q I e f ⟨_,_,pw,pw,q⟩
theorem wn(O:X.calm=true):fB X (.type "list") (λxs H Q=>∃(d:Wv) (f:List<|cD×V),xs=[.ref d]/\Rd H d (.dK f)/\∀l,H l=none->Q (.ref l) (upd H l<|.lst<|f.map λg=>kV g.1)):=by
 intro J4 s σ H xs us Q I r h;let⟨d,f,rfl,T,q⟩:=h;let⟨u,rfl,U⟩:=vals1 r;cases U;let⟨z,n,M,y,Y⟩:=qW I.A0 T;let⟨ep,E⟩:=Y.dictAt;have hl:=y.length;refine PySem.W.kdl_call (PySem.W.kdl_dict (knd:=cp X.prog X.w) (kvs:=M) (ep:=ep) n) (I.ok.hd O) E (by rw[<-hl];exact z) λh' tk m c G hD A=>?_;have B:bg (f.map λg=>kV g.1) m.toList:=by
  let⟨hn,hP⟩:=A;have J:∀(a:Zf) (L:List<|cD×V) (C:List<|cD×Wx),KV L C->a.length=C.length->(∀(j:Nat) (v:Wx),a[j]?=pe v->∃k x,C[j]?=pe (k,x)/\(cp X.prog X.w).is k v=true)->bg (L.map λg=>kV g.1) a:=by
   intro a L C rl
   induction rl generalizing a with
   |nil=>intro D _;cases a with
    |nil=>exact .nil
    |cons _ _=>cases D
   |@cons p w' ps ab hp _ ih =>
    intro D N;cases a with
    |nil=>cases D
    |cons v a =>
     let⟨k,x,e,G⟩:=N 0 v rfl;have e':w'=(k,x):=by simpa using e
     refine .cons ?_ (ih a (by simpa using D) λj v B=>by simpa using N (j+1) v (by simpa using B));have ek:p.1=k:=by rw[hp.1,e']
     show RelV (kV p.1) v;rw[ek];obtain⟨i,t,rfl,rfl⟩|⟨i,t,rfl,rfl⟩:=aJ (show dZ k v=true from G)
     .exact⟨t,pw⟩
     .exact⟨t,pw⟩
  exact J m.toList f M y (by rw[pP];exact hn) λj v B=>hP j v (by rw[<-Array.getElem?_toList];exact B)
 apply⟨.ref ↑s,_,I.laid (o:=.lst<|f.map λg=>kV g.1) G (aB _) ⟨by rw[am];exact z,m.toList,c,B,by rw[Array.toArray_toList];exact hD⟩,pw,q _ I.fresh⟩
end
section
variable{prog:bI}{w:Wy}{K:Type}[DecidableEq K]{knd:HeapKind prog w K}{A:Wz}{E:Zc}{s:Ww}
theorem vm(t:knd.room A)(f:knd.is s.heap k a)(B:s.heap.DictOfH knd d xs)(there:∀p,atKey xs k=pe p->Q p.2 {s with toks:=s.toks+knd.draws k})(new:atKey xs k=none->∀q,q.DictOfH knd d (xs++[(k,a,v)])->kz d s.heap q->Q v {s with heap:=q,toks:=s.toks+knd.draws k})(C:xs.length<=ai):wpAny (model prog w) A (dictSetDefault d (.ref a) v) Q E s:=by
 let⟨o,H,D,h,G,g,n,i,r⟩:=B;unfold dictSetDefault
 try with_reducible refine iN ?_
 refine ap<|knd.pyHash t f ?_;refine ap<|wpAny_dictFind_heap (s:={s with toks:=s.toks+knd.draws k}) t f h g n i r ?_ ?_
 .intro l;have m:k∉xs.map (·.1):=not_mem_keys_of_get l;refine ap (pT (ap (wpAny_updateDictKeys (hz:=by have e:=size_of_entries n;nofun) (s:={s with toks:=s.toks+knd.draws k}) h g (aR (new (atKey_none_of_get l) _ ⟨_,_,D+1,k4 _ h<|Obj.isFreed_of_dict<|Obj.data_mapDictKeys g _,
   G.mapDictKeys _,Obj.data_mapDictKeys g _,?_,?_,?_⟩<|u7 ..)))))
  .simp[n,entryOfKey]
  .intro x hx;obtain hx|hx:=bp.mp hx
   .exact knd.keeps (i x hx) h g<|u7 ..
   .simp only[dF]at hx;subst hx;exact knd.keeps f h g<|u7 ..
  .rw[ay,eK];apply⟨r,by simp,?_⟩;intro x hx y u;simp only[bP,List.map_nil,dF]at u;subst u;exact λe=>m<|e▸hx
 .intro j p z;refine ap<|wpAny_dictEntries (s:={s with toks:=s.toks+knd.draws k}) h g ?_;rw[entry_at n j,z];exact ap<|pT<|aR<|there p<|atKey_of_get r z
theorem qO(knd:HeapKind prog w K)(d a:Wv)(j:(d==jC)=false)(dflt:Wx):
  MeetsIn prog w (bW.«dict.setdefault» ⟨[.ref d,.ref a,dflt],[]⟩) (λA R s=>knd.room A.in1/\∃k xs,knd.is s.heap k a/\s.heap.DictOfH knd d xs/\xs.length<=ai /\
   (∀p,atKey xs k=pe p->R (.ok<|.ret p.2) {s with toks:=s.toks+knd.draws k}) /\
   (atKey xs k=none->∀e,e.DictOfH knd d (xs++[(k,a,dflt)])->kz d s.heap e->R (.ok<|.ret dflt) {s with heap:=e,toks:=s.toks+knd.draws k})) :=
 .of_wp λA R s ⟨l,k,xs,f,i,m,n,o⟩=>by
  unfold bW.«dict.setdefault»;refine ap ?_;unfold bW.Dict.keyAndDefault;refine ap<|wpAny_notOrdered_dict i.typeIs ?_;show wpAny _ _ (pure (d,Value.ref a,pe dflt)) _ _ s;refine aR ?_;show wpAny _ _ (if(d==jC)=true then _ else(dictSetDefault d (.ref a) dflt >>= _)) _ _ s
  rw[if_neg (by rw[j];exact jZ)];exact ap<|vm l f i (λp q=>aR ⟨p.2,pw,n p q⟩) (λr e g h=>aR ⟨dflt,pw,o r e g h⟩) m
end
section
variable{X:Cx}
def FB:V->List V->Hp->VK->Prop:=λx vs H Q=>∃(d b:Wv) (kvs:List<|TK×V) (k:TK) (z:V),x=.ref d/\vs=[.ref b,z]/\H d=pe (.dT kvs)/\jq H k (.ref b)/\k.depth<=8/\kvs.length<ai /\
 (∀v,c8 kvs k=pe v->Q v H)/\(c8 kvs k=none->Q z (upd H d<|.dT<|kvs++[(k,z)]))
theorem Hh(C:X.A.units+16<cLine):No X "dict.setdefault" FB:=by
 intro J4 s σ H x vs v us Q I D E h;let⟨d,b,a,k,z,rfl,rfl,l,n,j,hz,G,J⟩:=h;cases D;let⟨u,v,rfl,L,q⟩:=E.two;cases L;let⟨_,g,xs,f,r⟩:=Mb I.A0 I.OF l;have hl:a.length=xs.length:=Paired.length f;refine call_meetsIn PySem.F.slot_dict_setdefault r.typeIs PySem.F.entry_dict_setdefault (PySem.F.args_dict_setdefault_3 _ _ _) (qO (gK X.prog X.w) d b g v)
  ⟨iY C,k,xs,Ey I.A0 I.OF (jq.c 8 j n) j,r,by nofun,λp M=>?_,λN h' m O=>?_⟩
 .have e:=f.val k;rw[M]at e;cases i:c8 a k with
  |none=>rw[i]at e;exact e.elim
  |some y =>
   rw[i]at e;exact⟨y,H,I.tok _,e,G y i⟩
 .have e:=f.val k;rw[N]at e;have i:c8 a k=none:=by
   cases i:c8 a k with
   |none=>rfl
   |some y=>rw[i]at e;exact e.elim
  let⟨o,T,U,t,Y,h3,h4,_,h5⟩:=m;apply⟨z,_,uH (ob:=.dT<|a++[(k,z)]) I (by rw[l];exact fU) O ⟨o,t⟩ ⟨by rw[aH,List.length_singleton];nofun,g,_,KT.keeps (kvs:=a++[(k,z)]) (xs:=xs++[(k,b,v)]) (dI f ⟨pw,jq.c 8 j n,j,q⟩) λc ys B=>?_,o,T,U,t,Y,h3,h4,h5⟩,q,J i⟩;rw[aj<|LV B l<|λz=>nomatch z];exact B
end
theorem mR:entryFor table "dict.update.loop"=pe bW.«dict.update.loop»:=entryFor_of_fast (by kernel_rfl)
theorem gP:plainId "dict.update.loop"=true:=by decide +kernel
theorem AA:k7 (.type "list") "keys"=pure none:=am_miss_of_fast (by decide +kernel)
section
variable{prog:bI}{w:Wy}{A:Wz}{E:Zc}{s:Ww}
theorem Hi(hx:s.heap.get? a=pe o)(m:o.cls=.type "list")(f:o.data=.seq xs k)(n:o.dict=none)(r:A.handled=none)(h:∀l tk,(∀b p,s.heap.get? b=pe p->l.get? b=pe p)->Q none {s with heap:=l,toks:=tk}):wpAny (model prog w) A (zi (.ref a) "keys") Q E s:=by
 let⟨c,t,u,v⟩:=o;simp only at m f n;subst m f n;let⟨x,g,d,tk,os⟩:=s;have q:∀i,(⟨x,g,d,i,os⟩:Ww).TypeIs (.ref a) "list":=λ_=>⟨_,hx,pw⟩;have y:=sub_AttributeError;have z:=F.slot_list_getattribute.lookup;have B:=F.slot_list_getattribute.bind<|.ref a;have C:=am_list_getattr_none;unfold zi getAttrBy? getAttrBy
 repeat (any_goals (first|assumption|exact q _|((with_reducible show wpAny _ _ (call (rD "list.__getattribute__") _ _) _ _ _);refine vf F.slot_list_getattribute (q _) am_entry_list_getattribute (F.args_list_getattribute_2 _ _) (meets_getattribute_miss_list a xs k v "keys" _ AA (by decide +kernel) (by decide +kernel)) ⟨hx,r,λl i e j=>?_⟩)|wp_step))
 let⟨D,G,H⟩:=j.there;show wpAny _ _ (getattributeRaised _ _ _ _ _ _ _) _ _ _;unfold getattributeRaised hookOrError attributeErrorLeaves
 repeat (any_goals (first|assumption|wp_step))
 all_goals first|exact h _ _ j.keeps|trace_state
def EO(h:WA)(u:Wx)(kv:cD×Wx):Prop:=∃t ku,u=.ref t/\h.IsTuple t #[ku,kv.2]/\dZ kv.1 ku=true
theorem DP[DecidableEq κ](a:List<|κ×Wx)(k:κ)(v:Wx):(stored a k v).length<=a.length+1:=by
 unfold stored;split
 .rw[am];nofun
 .rw[aH,List.length_singleton];exact aB _
theorem Ig(hh:A.handled=none){items:Array Wx}{ps:List (cD×Wx)}(B:D≠it)(T:l≠it)(U:l≠D)(a8:ps.length=items.size):
  ∀(n i:Nat) (s:Ww) (a:List<|cD×Wx),items.size-i=n->i<=items.size->a.length+(items.size-i)<=ai->s.heap.IsListIter it l i->s.heap.IsList l items->s.heap.DictOf (cp prog w) D a ->
   (∀(j:Nat) (u:Wx) (N:cD×Wx),items[j]?=pe u->ps[j]?=pe N->EO s.heap u N) ->
   (∀z tk,z.DictOf (cp prog w) D (merged a<|ps.drop i)->(∀b o,b≠D->b≠it->s.heap.get? b=pe o->z.get? b=pe o)->R (.ok<|.ret .none) {s with heap:=z,toks:=tk}) ->
   O0 (model prog w) A (.builtin "dict.update.loop" ⟨[.ref D,.ref it,rawInt i,.none],[]⟩) R s:=by
 intro n
 induction n with
 |zero =>
  intro i s a hn hi hz p O Q Y hR;have e:i=items.size:=by nofun
  subst e;refine codeAny_builtin mR ?_;rw[Around.under_plainId gP _];show wpAny _ A.in1 (pyNext (.ref it) >>= _) _ _ s;refine ap (wpAny_pyNext_list_end hh p O ∅ λz eb=>?_);show wpAny _ _ (bW.Dict.addKeywords D [] >>= _) _ _ _;refine ap<|aR<|aR ?_;have C:z.DictOf (cp prog w) D a:=Q.extBut eb B;have q:=hR z s.toks (by rw[rO ⋯];exact C) λb o _ hb e=>eb b o hb e;exact q
 |succ n ih =>
  intro i s a hn hi hz p O Q Y hR;have I:i<items.size:=by nofun
  refine codeAny_builtin mR ?_;rw[Around.under_plainId gP _];show wpAny _ A.in1 (pyNext (.ref it) >>= _) _ _ s;have hu:items[i]?=pe items[i]:=by simp[I]
  have hk:ps[i]?=pe ps[i]:=dH ⋯;let⟨t,ku,eu,ht,ab⟩:=Y i _ _ hu hk;refine ap<|wpAny_pyNext_list_item p O (x:=items[i]) hu λh J al=>?_;rw[eu];have m:kz it s.heap h:=al;have nt:t≠it:=by
   rintro rfl;let⟨o,G,L,_⟩:=ht;let⟨o',f,g,_⟩:=p;rw[G]at f;cases f;rw[L]at g;simp at g
  have M:h.IsTuple t #[ku,ps[i].2]:=ht.extBut m.extBut nt;have an:Shared.TypeIs {s with heap:=h} (.ref t) "tuple":=M.typeIs (s:={s with heap:=h});let⟨ot,as,a9,bd,aC⟩:=id M;refine ap<|iN ?_;refine ap<|wpAny_tryCatch ?_;unfold bW.Dict.pairItems;refine ap<|rX an ?_;rw[if_pos WE];refine ap<|og as aC<|aR ?_;show wpAny _ _ (kr [ku,ps[i].2]<|dictSet D ku ps[i].2) _ _ _;have aT:h.DictOf (cp prog w) D a:=Q.extBut m.extBut B;refine iN (wpAny_dictSet_pairs (knd:=cp prog w) (k:=ps[i].1) ab aT (λy aX a0=>?_) ⋯);have v:kz D h y:=a0;show wpAny _ _ (again _) _ _ _;refine aR ⟨plainId_quiet gP _,?_⟩;have a4:h.IsList l items:=O.extBut m.extBut T;have kp:∀b o,b≠D->b≠it->s.heap.get? b=pe o->y.get? b=pe o:=λb o h y e=>v.extBut b o h<|m.extBut b o y e;refine ih (i+1) _ (stored a ps[i].1 ps[i].2) ⋯ I (by have:=DP a ps[i].1 ps[i].2;nofun) (J.extBut v.extBut<|dD B) (a4.extBut v.extBut U) aX (λj u N h y=>?_) λz tk C a5=>?_
  .obtain⟨t2,a6,e2,H,a7⟩:=Y j u N h y;have n1:t2≠it:=by
    rintro rfl;let⟨o,G,L,_⟩:=H;let⟨o',f,g,_⟩:=p;rw[G]at f;cases f;rw[L]at g;simp at g
   have n2:t2≠D:=by
    rintro rfl;let⟨o,G,L,_⟩:=H;let⟨o',_,_,f,g,_⟩:=Q;rw[G]at f;cases f;have:=g.1;rw[L]at this;simp at this
   let⟨o,G,r⟩:=H;exact⟨t2,a6,e2,⟨o,kp _ o n2 n1 G,r⟩,a7⟩
  .refine hR z tk ?_ λb o h y e=>a5 b o h y<|kp b o h y e;have ed:ps.drop i=ps[i]::ps.drop (i+1):=zh ⋯;rw[ed];exact C
theorem uj(T:A.handled=none)(U:s.heap.get? l=pe o)(J:o.cls=.type "list")(v:o.data=.seq items n)(L:o.dict=none)(M:ps.length=items.size)(hp:∀(j:Nat) (u:Wx) (H:cD×Wx),items[j]?=pe u->ps[j]?=pe H->EO s.heap u H)(hz:items.size<=ai)(h:∀x tk,x.DictOf (cp prog w) ↑s (merged [] ps)->(∀b o,s.heap.get? b=pe o->x.get? b=pe o)->Q (.ref ↑s) {s with heap:=x,toks:=tk}) :
  wpAny (model prog w) A (call (.type "dict") [.ref l]) Q E s:=by
 refine callType_codes (Q₁:=λy m=>y=.ref ↑s/\m={s with heap:=s.heap.push { cls:=.type "dict",data:=.dict #[]}}) F.kt_called_dict (F.kt_typeCall_dict_1 _) F.entry_dict_init (kt_code_dict_new _ ⟨pw,pw⟩) ?_;rintro y m ⟨rfl,rfl⟩;have f:(s.heap.push { cls:=.type "dict",data:=.dict #[]}).DictOf (cp prog w) ↑s []:=Heap.DictOf.new s.heap;have p:(s.heap.push { cls:=.type "dict",data:=.dict #[]}).get? l=pe o:=bc _ U;have z:l<↑s:=a_ U;apply⟨f.typeIs,F.args_dict_init_2 _ _,?_⟩;unfold bW.«dict.__init__»;refine ap ?_;unfold bW.Dict.selfAndRest;refine ap<|wpAny_notOrdered_dict f.typeIs ?_;show wpAny _ _ (pure (↑s,[Value.ref l])) _ _ _;refine aR ?_;show wpAny _ _ (bW.Dict.updateFrom "dict.__init__" ↑s (.ref l) [] .none) _ _ _;unfold bW.Dict.updateFrom;have N:Shared.TypeIs {s with heap:=s.heap.push { cls:=.type "dict",data:=.dict #[]}} (.ref l) "list":=⟨o,p,J⟩;refine ap<|rX N ?_;rw[if_pos WE];refine ap<|Hi p J v L T λq O k1=>?_;have k:∀b I,(s.heap.push { cls:=.type "dict",data:=.dict #[]}).get? b=pe I->q.get? b=pe I:=k1;rw[if_pos (by rfl:(none:Option Wx).isNone=true)];refine ap<|pT ?_;have B:q.IsList l items:=⟨o,k _ _ p,J,n,v⟩;refine ap<|xM (s:={s with heap:=q,toks:=O}) B ?_;have C:q.DictOf (cp prog w) ↑s []:=by
  let⟨Y,es,ep,g,r⟩:=f;exact⟨Y,es,ep,k _ _ g,r⟩
 have i:↑s<q.objs.size:=by
  let⟨Y,es,ep,g,r⟩:=C;exact a_ g
 refine aR ⟨plainId_quiet gP _,?_⟩;refine Ig (A:=A.in1) (prog:=prog) (w:=w) T (D:=↑s) (it:=q.objs.size) (l:=l) (items:=items) (ps:=ps) (cG i) (cG<|Nat.lt_trans z i) (cG z) M items.size 0 _ [] (Nat.sub_zero _) (cw _) (by rw[vc];nofun)
  ⟨_,dS _ rfl,pw,pw⟩ (B.push _) (C.push _) (λj u H a b=>?_) λx tk G kp=>?_
 .obtain⟨t,ku,e,ht,hk⟩:=hp j u H a b;let⟨ot,g,r⟩:=ht;exact⟨t,ku,e,⟨ot,bc _<|k _ _<|bc _ g,r⟩,hk⟩
 .rw[uY]at G;apply⟨pw,h x tk G λb I e=>kp b I (cG<|a_ e) (cG<|Nat.lt_trans (a_ e) i)<|bc _<|k _ _<|bc _ e⟩
end
section
variable{X:Cx}
theorem AZ(hc:X.calm=true):fB X (.type "dict") (λxs H Q=>∃(l:Wv) (k:Ze) (f:List<|cD×V),xs=[.ref l]/\aA X.K H l (k.map V.ref)/\k.length=f.length /\
  (∀(j:Nat) (t:Wv) (g:cD×V),k[j]?=pe t->f[j]?=pe g->H t=pe (.tup [kV g.1,g.2]))/\∀p,H p=none->Q (.ref p) (upd H p<|.dK<|fP [] f)):=by
 intro J4 s σ H xs us Q I r h;let⟨l,k,f,rfl,v,z,D,q⟩:=h;let⟨u,rfl,ru⟩:=vals1 r;cases ru;let⟨E,Y,⟨o,n,ho,G,J,L⟩,M⟩:=I.list v;have N:∀(k:Ze) (f:List<|cD×V),k.length=f.length->(∀(j:Nat) (t:Wv) (g:cD×V),k[j]?=pe t->f[j]?=pe g->H t=pe (.tup [kV g.1,g.2]))->∃y:List<|cD×Wx,KV f y/\∀(j:Nat) (t:Wv) (g:cD×Wx),k[j]?=pe t->y[j]?=pe g->EO s.heap (.ref t) g:=by
  intro k
  induction k with
  |nil =>
   intro f v _;cases f with
   |nil=>exact⟨[],.nil,λj t g e=>by simp at e⟩
   |cons _ _=>cases v
  |cons t k ih =>
   intro f v D;cases f with
   |nil=>cases v
   |cons g f =>
    let⟨y,O,r2⟩:=ih f (by simpa using v) λj T m a b=>D (j+1) T m (by simpa using a) (by simpa using b);let⟨_,ab,rt,p⟩:=(show cv X.prog X.w X.K H s.heap t (.tup [kV g.1,g.2])from I.A0 t _ (D 0 t g rfl rfl));let⟨a,b,e,ra,rb⟩:=rt.two;subst e;apply⟨(g.1,b)::y,.cons ⟨pw,rb⟩ O,λj T m A U=>?_⟩;cases j with
    |zero =>
     simp at A U;subst A U;exact⟨t,a,pw,p,qQ (P:=X.prog) (w:=X.w) ra⟩
    |succ j=>exact r2 j T m (by simpa using A) (by simpa using U)
 let⟨y,B,pa⟩:=N k f z D;have C:=Y.length;rw[am]at C;have al:=B.length;refine uj (prog:=X.prog) (w:=X.w) (ps:=y) (I.ok.hd hc) ho G L J (by rw[bM];nofun) (λj u g a b=>?_) (by rw[bM,<-C];rw[am]at M;exact M) λh' tk hD kp=>?_
 .have a':E[j]?=pe u:=by simpa using a
  have hj:j<k.length:=by
   have:=(cx.mp a').1;nofun
  let⟨u',e1,O⟩:=Y.get (i:=j) (x:=V.ref k[j]) (by simp[hj]);rw[a']at e1;cases e1;cases(show u=Value.ref k[j]from O);exact pa j k[j] g (by simp[hj]) b
 .have hm:(fP [] f).length<=ai:=by
   have A:=ka f [];rw[vc]at A;rw[am]at M;nofun
  exact⟨.ref ↑s,_,I.laid (o:=.dK<|fP [] f) kp (aB _)<|EH hm (beq_eq_false_iff_ne.mpr<|dD<|cG I.big) (B.merge .nil) hD,pw,q _ I.fresh⟩
end
abbrev fh:R2:=FD λi j=>.int<|i+j
abbrev IQ:R2:=FD λi j=>.int<|i-j
abbrev mE:R2:=rI Ke λi j=>.int<|i * j
abbrev jO:R2:=rI (λ_ j=>0<j) λi j=>.int<|i % j
abbrev IU:R2:=rI N7 λi j=>.int<|i / j
abbrev LO:R2:=rI N6 λi j=>.int<|i ^ j.toNat
abbrev G9:R2:=FD λi j=>.bl<|decide (i<j)
abbrev UR:R2:=FD λi j=>.bl<|decide (i<=j)
abbrev G_:R2:=FD λi j=>.bl<|decide (j<i)
abbrev UT:R2:=FD λi j=>.bl<|decide (j<=i)
abbrev LS:R2:=λx y H Q=>∃i j,x=.str i/\y=.str j/\i.length+j.length<=ai/\Q (.str<|i++j) H
abbrev US:R2:=λx y H Q=>∃c j,x=.str ⟨#[c]⟩/\y=.str j/\Q (.bl<|decide (c∈j.cps.toList)) H
abbrev vO(K:Za):List V->Hp->VK->Prop:=λxs H Q=>∃x c t b,xs=[x,.ty c]/\Lu K H x t/\l_ K t (.type c)=pe b/\Q (.bl b) H
abbrev MD(K:Za):List V->Hp->VK->Prop:=λxs H Q=>∃(p:Wv) (bs:List Bool),xs=[.ref p]/\aA K H p (bs.map V.bl)/\Q (.bl<|bs.all id) H
abbrev UU(K:Za):List V->Hp->VK->Prop:=λxs H Q=>∃(p:Wv) (bs:List Bool),xs=[.ref p]/\aA K H p (bs.map V.bl)/\Q (.bl<|bs.any id) H
abbrev NA(K:Za):List V->Hp->VK->Prop:=λxs H Q=>∃p ys,xs=[.ref p]/\((aA K H p ys/\∀l,H l=none->Q (.ref l) (upd H l<|.tup ys))∨(bj K H p ys/\Q (.ref p) H))
abbrev KQ(K:Za):List V->Hp->VK->Prop:=λxs H Q=>∃(l:Wv) (ts:Ze) (kvs:List<|cD×V),xs=[.ref l]/\aA K H l (ts.map V.ref)/\ts.length=kvs.length /\
  (∀(j:Nat) (t:Wv) (kv:cD×V),ts[j]?=pe t->kvs[j]?=pe kv->H t=pe (.tup [kV kv.1,kv.2]))/\∀p,H p=none->Q (.ref p) (upd H p<|.dK<|fP [] kvs)
abbrev eh(K:Za):List V->Hp->VK->Prop:=λxs H Q =>
 (∃p ys,xs=[.ref p]/\(aA K H p ys∨bj K H p ys)/\∀l,H l=none->Q (.ref l) (upd H l<|.lst ys)) ∨
 (∃(d:Wv) (kvs:List<|cD×V),xs=[.ref d]/\Rd H d (.dK kvs)/\∀l,H l=none->Q (.ref l) (upd H l<|.lst<|kvs.map λkv=>kV kv.1))
abbrev dg(K:Za):List V->Hp->VK->Prop:=λxs H Q =>
 (∃p ys,xs=[.ref p]/\(aA K H p ys∨bj K H p ys)/\Q (.int ys.length) H)∨(∃z,xs=[.str z]/\z.length<=ai/\Q (.int z.length) H)
theorem cO:iM "isinstance"=pe (.builtin "isinstance"):=by decide +kernel
theorem ww:iM "list"=pe (.type "list"):=by decide +kernel
theorem tX:iM "tuple"=pe (.type "tuple"):=by decide +kernel
theorem EK:iM "dict"=pe (.type "dict"):=by decide +kernel
theorem EL:iM "bool"=pe (.type "bool"):=by decide +kernel
theorem sZ:iM "int"=pe (.type "int"):=by decide +kernel
theorem HD:iM "str"=pe (.type "str"):=by decide +kernel
section
variable{X:Cx}{p pos:Pos}
theorem yO:fB X (.builtin "len") (dg X.K):=AY.or AX
theorem EJ(a:X.calm=true):fB X (.type "list") (eh X.K):=AW.or<|wn a
theorem pb(a:Gl X "bool")(e:X.mg "bool"=none):PE X (.Name "bool" pos) (tC<|.ty "bool"):=lE a e EL rfl
theorem yb(a:Gl X "int")(e:X.mg "int"=none):PE X (.Name "int" pos) (tC<|.ty "int"):=lE a e sZ rfl
theorem ya(a:Gl X "str")(e:X.mg "str"=none):PE X (.Name "str" pos) (tC<|.ty "str"):=lE a e HD rfl
theorem vR(a:Gl X "list")(e:X.mg "list"=none):PE X (.Name "list" pos) (tC<|.ty "list"):=lE a e ww rfl
theorem tN(a:Gl X "tuple")(e:X.mg "tuple"=none):PE X (.Name "tuple" pos) (tC<|.ty "tuple"):=lE a e tX rfl
end
def Gc(mg:WD->Option Wx)(x:WD)(v:V):Prop:=∃u,mg x=pe u/\RelV v u
theorem g9(e:Gl X x)(h:Gc X.mg x v)(f:(x==("__debug__":WD))=false:=by decide):PE X (.Name x a) (tC v):=by
 let⟨u,g,r⟩:=h;exact dY e g r f
structure g6(P:bI)(w:Wy)(K:Za)(mg:WD->Option Wx)(base:WA)(x:WD)(ps:Zb)(k:Nat)(sp:Sp):Prop where
 ex:∃f fd,ju P w K mg base RT k f fd ps sp/\mg x=pe (.ref f)/\db K (.ref f)=true/\Binds K fd ps []
structure Vq(P:bI)(w:Wy)(K:Za)(mg:WD->Option Wx)(base:WA)(x:WD)(C:Wv)(ps:Zb)(k:Nat)(sp:Sp):Prop where
 ex:∃f fd,ju P w K mg base RT k f fd ps sp/\mg x=pe (.ref C)/\Mk K C f/\Binds K fd ps []
structure Ka(P:bI)(w:Wy)(K:Za)(mg:WD->Option Wx)(base:WA)(C:Wv)(m:WD)(ps:Zb)(k:Nat)(sp:Sp):Prop where
 ex:∃f fd,ju P w K mg base RT k f fd ps sp/\HN K C/\LA K C m f/\Binds K fd ps []
section
variable{X:Cx}{k:Nat}{ps:Zb}{sp:Sp}{x m:WD}{C:Wv}{p pos J6:Pos}{o e:WB}{es:List WB}{t:TA}{ta:TE}
theorem Jf(D:g6 X.prog X.w X.K X.mg X.base x ps k sp)(h:eG k X.A)(i:Gl X x)(j:PA X (e::es) t)(a:(x==("__debug__":WD))=false:=by decide)
  (l:aK (e::es) X.env=(false,eval e X.env)::aK es X.env:=by rfl) (g:(backTo pos<|aK es X.env).any (·.1)=false:=by rfl) :
  PE X (.Call (.Name x p) (e::es) [] pos) (aI sp t):=by
 let⟨f,s,F,n,q,r⟩:=D.ex;exact K4 F h i n q r .nil FK j a l g
theorem MM(D:Vq X.prog X.w X.K X.mg X.base x C ps k sp)(h:eG (k+1) X.A)(i:Gl X x)(j:PA X (e::es) t)(a:(x==("__debug__":WD))=false:=by decide)
  (l:aK (e::es) X.env=(false,eval e X.env)::aK es X.env:=by rfl) (g:(backTo pos<|aK es X.env).any (·.1)=false:=by rfl) :
  PE X (.Call (.Name x p) (e::es) [] pos) (Io C sp [] E0 t):=by
 let⟨f,r,F,n,M,q⟩:=D.ex;exact K1 M F h i n q .nil FK j a l g
theorem MN{pl:Sem Bool}(M:Ka X.prog X.w X.K X.mg X.base C m ps k sp)(i:eG k X.A)(j:PE X o ta)(l:PA X (e::es) t)
  (a:aK (e::es) X.env=(false,eval e X.env)::aK es X.env:=by rfl) (g:(backTo pos<|aK es X.env).any (·.1)=false:=by rfl)
  (n:eval (.Call (.Attribute o m J6) (e::es) [] pos) X.env=(do
   let h <- eval o X.env
   pQ J6.atName
   let(f,first) <- kr [h] (pM h m pl)
   oM pos f first (backTo pos<|aK (e::es) X.env) (k_ pos<|k9 [] X.env)):=by rfl) :
  PE X (.Call (.Attribute o m J6) (e::es) [] pos) (gy C m sp [] E0 ta t):=by
 let⟨f,s,F,c,q,r⟩:=M.ex;exact K0 j c q F i r .nil FK l a g n
theorem KZ{pl:Sem Bool}(M:Ka X.prog X.w X.K X.mg X.base C m ps k sp)(g:eG k X.A)(h:PE X o ta)
  (i:eval (.Call (.Attribute o m J6) [] [] pos) X.env=(do
   let a <- eval o X.env
   pQ J6.atName
   let(f,first) <- kr [a] (pM a m pl)
   oM pos f first (backTo pos<|aK [] X.env) (k_ pos<|k9 [] X.env)):=by rfl) :
  PE X (.Call (.Attribute o m J6) [] [] pos) (gy C m sp [] E0 ta bx):=by
 let⟨f,n,F,c,j,l⟩:=M.ex;exact Je h c j F g l .nil FK i
end
def NP(K:Za)(tl:TE):TI:=fun σ H R=>tl σ H λx H1=>∃a,x=.ref a/\(((∃xs,aA K H1 a xs)/\R (Ki K a) H1)∨((∃xs,bj K H1 a xs)/\R (Na K a) H1))
theorem MI(w:PE X l r):PI X u l (NP X.K r):=by
 intro t s σ H R I h;refine cQ (w t s σ H _ I h) λv f j=>?_;let⟨x,k,g,y,z⟩:=j;let⟨a,e,q⟩:=z;subst e;cases y;have i:∀b∈[↑f],lK X t k b:=λb A=>by
  have e:b=↑f:=by simpa using A
  subst e;exact g.QY (aB _)<|g.A0.fresh<|aB _
 obtain⟨⟨xs,m⟩,q⟩|⟨⟨xs,m⟩,q⟩:=q
 .obtain⟨n,B,p,C⟩:=g.list m;refine xM p.isList ?_;exact⟨↑f,[↑f],_,_,k,pw,g.kept (t':=f.toks) λb o e=>bc _ e,sk a _,⟨_,dS _ rfl,pw,pw⟩,i,q⟩
 .obtain⟨n,B,p,C⟩:=g.tuple m;refine Fd p ?_;exact⟨↑f,[↑f],_,_,k,pw,g.kept (t':=f.toks) λb o e=>bc _ e,vo a _,⟨_,dS _ rfl,pw,pw⟩,i,q⟩
theorem kN{K:Za}{a:Wv}{xs:List V}{g:TG}{k:TS}{D:gm}{σ:St}{H:Hp}(Pv:Nat->St->Hp->Prop)(n:Pv 0 σ H)(o:∀i σ H,i<=xs.length->Pv i σ H->aA K H a xs)
  (r:∀i x σ H p,xs[i]?=pe x->Pv i σ H->H p=none->g (.ref p) σ (upd H p<|.tup [.int i,x]) fun σ2 j=>k {D with nx:=Pv<|i+1,ct:=Pv<|i+1,bk:=D.nx} σ2 j) (s:∀σ H,Pv xs.length σ H->D.nx σ H) :
  ∃W:Nat->Nat->St->Hp->Prop,(∃m,W 0 m σ H)/\∀i m σ H,W i m σ H ->
   ((N3 K a).stop i H/\D.nx σ H)∨((N3 K a).go i H/\∃N:St->Hp->Prop,(∀σ' f,N σ' f->∃l,l<m/\W (i+1) l σ' f)/\∀x f,(N3 K a).Sq i H x f->g x σ f fun σ2 j=>k {D with nx:=N,ct:=N,bk:=D.nx} σ2 j):=by
 apply⟨λi m σ H=>m=xs.length-i/\i<=xs.length/\Pv i σ H,⟨xs.length,by simp,cw _,n⟩,?_⟩;rintro i m σ H ⟨rfl,hi,p⟩;have q:=o i σ H hi p;by_cases h:i<xs.length
 .refine .inr ⟨⟨xs,xs[i],q,by simp[h]⟩,Pv<|i+1,fun σ' f u=>⟨xs.length-(i+1),by nofun,pw,h,u⟩,λx f y=>?_⟩;let⟨t,v,rfl,w,z,rfl⟩:=y;exact r i v σ H t (z xs q) p w
 .have e:i=xs.length:=by nofun
  subst e;exact .inl ⟨⟨xs,q,aB _⟩,s σ H p⟩
def Wc(n:Nat)(Pv:Nat->List V->Hp->Prop):Nat->Nat->List V->Hp->Prop:=λi m vs H=>m=n-i/\i<=n/\Pv i vs H
theorem rC(hi:i<n)(p:Pv (i+1) a H):∃e,e<n-i/\Wc n Pv (i+1) e a H:=⟨n-(i+1),by nofun,pw,hi,p⟩
abbrev fA(k:Nat)(fi:List Nat)(σ:St)(J:It)(g:TG)(tc:TT)(te:TE)(H1:Hp)(l:Wv)(Q:Hp->Prop):Prop :=
 ∃W:Nat->Nat->List V->Hp->Prop,(∃m,W 0 m []<|upd H1 l<|.lst [])/\∀i m vs H2,W i m vs H2->H2 l=pe (.lst vs) /\
  ((J.stop i H2/\Q H2)∨(J.go i H2/\∀x H3,J.Sq i H2 x H3->g x (dA k fi σ) H3 fun σ2 H4=>tc σ2 H4 λb H5 =>
   if b=true then te σ2 H5 λv H6=>H6 l=pe (.lst vs)/\vs.length<ai/\∃m',m'<m/\W (i+1) m' (vs++[v]) (upd H6 l<|.lst<|vs++[v])else ∃m',m'<m/\W (i+1) m' vs H5))
theorem kR(n:Nat)(Pv:Nat->List V->Hp->Prop)(A:Pv 0 []<|upd u l<|.lst [])(B:∀i a H,i<=n->Pv i a H->H l=pe (.lst a))(o:∀i a H,i<n->Pv i a H->J.go i H)(q:∀a H,Pv n a H->J.stop n H/\Q H)(C:∀i a H x j,i<n->Pv i a H->J.Sq i H x j->g x (dA k r σ) j fun σ2 D=>s σ2 D λb w =>
   if b=true then t σ2 w λv z=>z l=pe (.lst a)/\a.length<ai/\∃f,f<n-i/\Wc n Pv (i+1) f (a++[v]) (upd z l<|.lst<|a++[v])else ∃f,f<n-i/\Wc n Pv (i+1) f a w) :
  fA k r σ J g s t u l Q:=by
 apply⟨Wc n Pv,⟨n,by simp[Wc],cw _,A⟩,?_⟩;rintro i m a H ⟨rfl,hi,p⟩;apply⟨B i a H hi p,?_⟩;by_cases h:i<n
 .exact .inr ⟨o i a H h p,λx j y=>C i a H x j h p y⟩
 .have e:i=n:=by nofun
  subst e;exact .inl<|q a H p
section
variable{K:Za}{k:Nat}{fi:List Nat}{g:TG}{tc:TT}{te:TE}{σ:St}{H1:Hp}{Q:Hp->Prop}{l:Wv}
theorem cW(Pv:Nat->List V->Hp->Prop)(n:Pv 0 []<|upd H1 l<|.lst [])(h:∀i e H,i<=xs.length->Pv i e H->H l=pe (.lst e)/\aA K H a xs)(o:∀e H,Pv xs.length e H->Q H)(q:∀i e H x,xs[i]?=pe x->i<xs.length->Pv i e H->g x (dA k fi σ) H fun σ2 r=>tc σ2 r λb j =>
   if b=true then te σ2 j λv m=>m l=pe (.lst e)/\e.length<ai/\∃f,f<xs.length-i/\Wc xs.length Pv (i+1) f (e++[v]) (upd m l<|.lst<|e++[v])else ∃f,f<xs.length-i/\Wc xs.length Pv (i+1) f e j) :
  fA k fi σ (Ki K a) g tc te H1 l Q:=by
 refine kR xs.length Pv n (λi e H hi p=>(h i e H hi p).1) (λi e H hi p=>⟨xs,xs[i],(h i e H (eo hi) p).2,by simp[hi]⟩) (λe H p=>⟨⟨xs,(h _ e H (aB _) p).2,aB _⟩,o e H p⟩) λi e H x s hi p y=>?_;let⟨rfl,y⟩:=y;exact q i e _ x (y xs (h i e _ (eo hi) p).2) hi p
theorem CS(Pv:Nat->List V->Hp->Prop)(n:Pv 0 []<|upd H1 l<|.lst [])(h:∀i e H,i<=xs.length->Pv i e H->H l=pe (.lst e)/\bj K H a xs)(o:∀e H,Pv xs.length e H->Q H)(q:∀i e H x,xs[i]?=pe x->i<xs.length->Pv i e H->g x (dA k fi σ) H fun σ2 r=>tc σ2 r λb j =>
   if b=true then te σ2 j λv m=>m l=pe (.lst e)/\e.length<ai/\∃f,f<xs.length-i/\Wc xs.length Pv (i+1) f (e++[v]) (upd m l<|.lst<|e++[v])else ∃f,f<xs.length-i/\Wc xs.length Pv (i+1) f e j) :
  fA k fi σ (Na K a) g tc te H1 l Q:=by
 refine kR xs.length Pv n (λi e H hi p=>(h i e H hi p).1) (λi e H hi p=>⟨xs,xs[i],(h i e H (eo hi) p).2,by simp[hi]⟩) (λe H p=>⟨⟨xs,(h _ e H (aB _) p).2,aB _⟩,o e H p⟩) λi e H x s hi p y=>?_;let⟨rfl,y⟩:=y;exact q i e _ x (y xs (h i e _ (eo hi) p).2) hi p
theorem wg{lo:Int}{n:Nat}(Pv:Nat->List V->Hp->Prop)(j:Pv 0 []<|upd H1 l<|.lst [])
  (m:∀i a H,i<=n->Pv i a H->H l=pe (.lst a)) (o:∀a H,Pv n a H->Q H)
  (q:∀i a H,i<n->Pv i a H->g (.int<|lo+i) (dA k fi σ) H fun σ2 r=>tc σ2 r λb f =>
   if b=true then te σ2 f λv h=>h l=pe (.lst a)/\a.length<ai/\∃e,e<n-i/\Wc n Pv (i+1) e (a++[v]) (upd h l<|.lst<|a++[v])else ∃e,e<n-i/\Wc n Pv (i+1) e a f) :
  fA k fi σ (Nb lo n) g tc te H1 l Q:=by
 refine kR n Pv j m (λi a H hi p=>hi) (λa H p=>⟨aB _,o a H p⟩) λi a H x s hi p y=>?_;let⟨rfl,rfl⟩:=y;exact q i a _ hi p
theorem JQ(Pv:Nat->List V->Hp->Prop)(j:Pv 0 []<|upd H1 l<|.lst [])(m:∀i a H,i<=x.cps.size->Pv i a H->H l=pe (.lst a))(n:∀a H,Pv x.cps.size a H->Q H)(o:∀i a H c,x.cps[i]?=pe c->i<x.cps.size->Pv i a H->g (.str ⟨#[c]⟩) (dA k fi σ) H fun σ2 q=>tc σ2 q λb f =>
   if b=true then te σ2 f λv h=>h l=pe (.lst a)/\a.length<ai/\∃e,e<x.cps.size-i/\Wc x.cps.size Pv (i+1) e (a++[v]) (upd h l<|.lst<|a++[v])else ∃e,e<x.cps.size-i/\Wc x.cps.size Pv (i+1) e a f) :
  fA k fi σ (Om x) g tc te H1 l Q:=by
 refine kR x.cps.size Pv j m (λi a H hi p=>hi) (λa H p=>⟨aB _,n a H p⟩) λi a H y t hi p r=>?_;let⟨rfl,c,s,rfl⟩:=r;exact o i a _ c s hi p
end
theorem gN(h:Q (σ.set j<|some x) H):fc j x σ H Q:=h
theorem oQ{σ:St}{H:Hp}{A B:Hp->Prop}(h:A H):jc σ H (λb a=>if b=true then A a else B a):=by
 show(if(true:Bool)=true then A H else B H)
 exact h
inductive NZ{T0 T1:Type}(P:T0->T1->Prop):Prop
 |mk (x0:T0) (x1:T1):P x0 x1->NZ P
inductive Nn{T0 T1 T2:Type}(P:T0->T1->T2->Prop):Prop
 |mk (x0:T0) (x1:T1) (x2:T2):P x0 x1 x2->Nn P
inductive Oj{T0 T1 T2 T3:Type}(P:T0->T1->T2->T3->Prop):Prop
 |mk (x0:T0) (x1:T1) (x2:T2) (x3:T3):P x0 x1 x2 x3->Oj P
inductive Vr{T0 T1 T2 T3 T4:Type}(P:T0->T1->T2->T3->T4->Prop):Prop
 |mk (x0:T0) (x1:T1) (x2:T2) (x3:T3) (x4:T4):P x0 x1 x2 x3 x4->Vr P
inductive VQ(p0 p1 p2:Prop):Prop
 |mk:p0->p1->p2->VQ p0 p1 p2
inductive VP(p0 p1 p2 p3:Prop):Prop
 |mk:p0->p1->p2->p3->VP p0 p1 p2 p3
inductive N0(p0 p1 p2 p3 p4:Prop):Prop
 |mk:p0->p1->p2->p3->p4->N0 p0 p1 p2 p3 p4
inductive Ol(p0 p1 p2 p3 p4 p5:Prop):Prop
 |mk:p0->p1->p2->p3->p4->p5->Ol p0 p1 p2 p3 p4 p5
theorem Obj.U_{o:Obj}(e:o.data=.fields a)(f:Array Wx->Array Wx):o.mapFields f={o with data:=.fields (f a)}:=by
 let⟨c,d,dt,g⟩:=o;cases e
 rfl
structure Nd(fs:Ze)(e:Wv)(T:Option Wv)(h h':WA):Prop where
 keep:∀b o,h.get? b=pe o->b≠e->pe b≠T->b∉fs->h'.get? b=pe o
 slot:∀b o,h.get? b=pe o->b≠e->pe b≠T->b∈fs->∃sl,h'.get? b=pe {o with slots:=sl}
 there:∀b o,h.get? b=pe o->∃o',h'.get? b=pe o'
def VM(n:Nat)(h:WA)(e:Wv)(vs:Array Wx)(T:Option Wv):Prop :=
 (vs[1]?=pe .none/\T=none)∨∃t oT ts,T=pe t/\vs[1]?=pe (.ref t)/\n<=t/\t≠e/\h.get? t=pe oT/\oT.data=.fields ts/\ts[3]?=pe .none
def gk(a C:Wv)(od:Option Wv):WA->Prop:=λh=>∃vs,h.get? a=pe { cls:=.ref C,dict:=od,data:=.fields vs}/\1<vs.size
def cP(a C:Wv)(od:Option Wv):WA->Prop:=λh=>∃vs,h.get? a=pe { cls:=.ref C,dict:=od,data:=.fields vs}/\vs[1]?=pe .none
theorem sX{K:Za}(e:h.get? a=pe { cls:=.ref C,dict:=g,data:=.fields f})(z:1<f.size):cv P w K H h a (.ext<|gk a C g) :=
 ⟨⟨f,e,z⟩,⟨_,e⟩,λ_ _ ⟨i,q,y⟩ k=>⟨i,k _ q,y⟩⟩
theorem kO{K:Za}(e:h.get? a=pe { cls:=.ref C,dict:=g,data:=.fields f})(z:f[1]?=pe .none):cv P w K H h a (.ext<|cP a C g) :=
 ⟨⟨f,e,z⟩,⟨_,e⟩,λ_ _ ⟨i,q,y⟩ k=>⟨i,k _ q,y⟩⟩
structure mY(n:Nat)(h:WA)(H:Hp)(a C:Wv)(od:Option Wv):Prop where
 Si:H a=pe (.ext (gk a C od))
 new:n<=a
 tr:∃vs T,h.get? a=pe { cls:=.ref C,dict:=od,data:=.fields vs}/\1<vs.size/\VM n h a vs T/\∀t,T=pe t->H t=none
theorem mY.mono(x:mY n h H a C i)(l:g<=n):mY g h H a C i :=
 ⟨x.Si,bh l x.new,let⟨j,T,e,z,k,f⟩:=x.tr;⟨j,T,e,z,by
  obtain q|⟨t,m,o,p,r,s,u⟩:=k
  .exact .inl q
  .exact .inr ⟨t,m,o,p,r,bh l s,u⟩,f⟩⟩
theorem JA{K:Za}(ok:lY P w K H h)(k:H a=pe (.ext<|gk a C j))(m:∀t,T=pe t->H t=none)(i:∀b∈fs,H b=none)(n:Nd fs a T h f)(p:f.get? a=pe { cls:=.ref C,dict:=j,data:=.fields e})(z:1<e.size):lY P w K H f:=λb u q=>by
 by_cases l:b=a
 .subst l;rw[k]at q;cases q;exact sX p z
 .have go:∀c o v,H c=pe v->c≠a->h.get? c=pe o->f.get? c=pe o:=λc o v hc s g =>
   n.keep c o g s (λz=>by rw[m c z.symm]at hc;cases hc) λz=>by rw[i c z]at hc;cases hc
  refine(ok b u q).QD (λc o hc g=>?_) (λ_ r=>r) λ_ _ r=>r;obtain rfl|hc:=hc
  .exact go c o u q l g
  .exact go c o _ hc (λz=>by rw[z,k]at hc;cases hc) g
structure rh(X:Cx)(J4:Zd)(n:Nat):Prop where
 s0:X.s₀.heap.objs.size<=n
 loc:X.env.locals<n
 cell:∀x c,X.env.cells.lookup x=pe c->c<n
 pin:∀p∈X.pn++J4,p.1<n
theorem Inv.young(I:Inv X a σ H s):rh X a ↑s :=
 ⟨I.sz,I.lt,λx c e=>let⟨_,_,q,_⟩:=I.cell x c e;a_ q,λp f=>a_ (I.pin p f).1⟩
section
variable{X:Cx}{J4:Zd}{σ:St}{H:Hp}{s:Ww}{n:Nat}{a C:Wv}{od:Option Wv}
def Ml(P:bI)(w:Wy)(K:Za):HP:=λouter H s E e s'=>∃a C od H',e=.ref a/\s'.os=s.os/\n_ s'.gens/\Un (wS outer) [] H H' s.heap s'.heap/\lY P w K H' s'.heap/\mY ↑s s'.heap H' a C od/\E (.ref C) (pe a) H'
end
abbrev eg:List Wx:=[.type "ValueError",.type "Exception",.type "BaseException",.type "object"]
inductive eZ:List Wx->Prop
 |base:eZ eg
 |own {a:Wv}{r:Zf}:eZ r->eZ (.ref a::r)
theorem eZ.has(x:eZ l)(e:eg.contains (.type n)=b):l.contains (.type n)=b:=by
 induction x with
 |base=>exact e
 |own _ a=>rw[gJ,a];rfl
section
variable{prog:bI}{w:Wy}{A:Wz}{E:Zc}{h:WA}{g:Array Fi}{d:Drawn}{t:Nat}{os:OsState}
variable{nm q:WD}{C N:Wv}{bs bm:Zf}{hdct:Bool}{sn:Zb}{sub:Zf}{ab:Bool}{col:Option Bool}{dd:Option Wv}{k0 k1 k2 k3 k5:Option Wx}
theorem Fo(e:eZ bm)(a:h.get? C=pe (cZ nm q C N bs bm hdct sn sub ab col dd k0 k1 k2 k3 k5 "ValueError.__new__"))(i:Q () ⟨h,g,d,t,os⟩):wpAny M A (zf "ValueError.__new__" ⟨.ref C::f,[]⟩) Q E ⟨h,g,d,t,os⟩:=by
 have G:=PySem.F.excBase_ValueError;have j:(Value.ref C::bm).contains (.type "ValueError")=true:=by rw[gJ,e.has (b:=true) (by decide +kernel)];rfl
 have k:=G.noStar;simp only[zf,G.newKind,G.newSplit,G.newRow]
 repeat (first|refine iE a ?_|(refine rN a ?_;rw[j])|refine wpAny_staticBase_exc a ?_|refine wpAny_madeBy_exc a ?_|simp only[bne_self_eq_false,xO,if_false] | wp_step)
 exact i
theorem LF(a:eZ bm)(f:h.get? C=pe (cZ nm q C N bs bm hdct sn sub ab col dd k0 k1 k2 k3 k5 "ValueError.__new__"))(m:e.length<=ai)(i:R (.ok<|.ret<|.ref<|h.objs.size+1) ⟨(h.push { cls:=.type "tuple",data:=.seq e.toArray}).push { cls:=.ref C,data:=.fields #[.ref h.objs.size,.none,.none,.none,.bool false,.none]},g,d,t,os⟩) :
  O0 (model prog w) A (.builtin "ValueError.__new__" ⟨.ref C::e,[]⟩) R ⟨h,g,d,t,os⟩:=by
 have G:=PySem.F.excBase_ValueError;have n:=G.ends;have j:(Value.ref C::bm).contains (.type "ValueError")=true:=by rw[gJ,a.has (b:=true) (by decide +kernel)];rfl
 have k:(Value.ref C::bm).contains (.type "AttributeError")=false:=by rw[gJ,a.has (b:=false) (by decide +kernel)];rfl
 have l:(Value.ref C::bm).contains (.type "NameError")=false:=by rw[gJ,a.has (b:=false) (by decide +kernel)];rfl
 refine codeAny_builtinAt G.entry ?_;unfold bW.«BaseException.__new__»;refine PySem.wpAt_bind ?_;show PySem.wpAt _ _ _ (stack >>= _) _ _ _;refine PySem.wpAt_bind<|PySem.wpAt_stack λp below=>PySem.wpAt_of_wpAny ?_
 wp_walk
 refine PySem.wpAt_of_wpAny ?_;rw[G.owner]
 repeat (first|with_reducible refine wpAny_madeHere_exc G.canon f ?_|with_reducible refine iE f ?_|(with_reducible refine rN f ?_;first|rw[j] | rw[k] | rw[l])|wp_step)
 show R _ _;rw[kq];exact i
theorem Kl(m:eZ bm)(f:h.get? C=pe (cZ nm q C N bs bm hdct sn sub ab col dd k0 k1 k2 k3 k5 "ValueError.__new__"))(hi:uX (model prog w) h (k7 (.ref C) "__init__")<|some<|.ref j)(k:h.get? j=pe n)(l:n.cls=.type "function")(u:a.length<=ai)(v:∀i,(∀b o,h.get? b=pe o->i.get? b=pe o)->i.objs.size=h.objs.size+2->i.get? (h.objs.size+1)=pe { cls:=.ref C,data:=.fields #[.ref h.objs.size,.none,.none,.none,.bool false,.none]} ->
   wpAny (model prog w) A (call (.ref j)<|.ref (h.objs.size+1)::a) (λr p=>r=.none/\Q (.done<|.ret<|.ref<|h.objs.size+1) p) E ⟨i,g,d,t,os⟩) :
  wpAny (model prog w) A (bW.«type.__call__» ⟨.ref C::a,[]⟩) Q E ⟨h,g,d,t,os⟩:=by
 repeat (first|with_reducible refine iE f ?_|with_reducible refine wpAny_madeBy_exc f ?_|wp_step)
 refine codeAny_call_builtin_code (ze _ PySem.F.excBase_ValueError.quiet)<|Fo m f<|LF m f u ?_;show wpAny _ _ _ _ _ _;have kp:∀b o,h.get? b=pe o->((h.push { cls:=.type "tuple",data:=.seq a.toArray}).push { cls:=.ref C,data:=.fields #[.ref h.objs.size,.none,.none,.none,.bool false,.none]}).get? b=pe o :=
  λb o e=>bc _<|bc _ e
 have y:=kp _ _ f;have s:((h.push { cls:=.type "tuple",data:=.seq a.toArray}).push { cls:=.ref C,data:=.fields #[.ref h.objs.size,.none,.none,.none,.bool false,.none]}).get? (h.objs.size+1)
  =pe { cls:=.ref C,data:=.fields #[.ref h.objs.size,.none,.none,.none,.bool false,.none]}:=by heap_get
 have z:(Value.ref C::bm).contains (.ref C)=true:=by simp
 unfold vh
 repeat (first|with_reducible refine iE s ?_|(with_reducible refine rN y ?_;rw[z])|wp_step)
 show wpAny _ _ (k7 (.ref C) _) _ _ _;refine hi _ _ _ _ kp ?_;refine iN<|ap ?_;unfold bindSpecial;refine ap<|rX (T:="function") ⟨_,kp _ _ k,l⟩ ?_;rw[if_pos WE];refine aR (ap (c6 (v _ kp (by rw[kq,kq]) s) (λr p B=>?_) λ_ _ x=>x));let⟨rfl,D⟩:=B
 wp_walk
 exact D
theorem Mn(m:eZ bm)(f:h.get? C=pe (cZ nm q C N bs bm hdct sn sub ab col dd k0 k1 k2 k3 k5 "ValueError.__new__"))(hi:uX (model prog w) h (k7 (.ref C) "__init__")<|some<|.ref i)(j:h.get? i=pe l)(k:l.cls=.type "function")(n:e.length<=ai)(p:∀a,(∀b o,h.get? b=pe o->a.get? b=pe o)->a.objs.size=h.objs.size+2->a.get? (h.objs.size+1)=pe { cls:=.ref C,data:=.fields #[.ref h.objs.size,.none,.none,.none,.bool false,.none]} ->
   wpAny (model prog w) (A.under<|.builtin "type.__call__" ⟨.ref C::e,[]⟩) (call (.ref i)<|.ref (h.objs.size+1)::e) (λr s=>r=.none/\Q (.ref<|h.objs.size+1) s) E ⟨a,g,d,t,os⟩) :
  wpAny (model prog w) A (call (.ref C) e) Q E ⟨h,g,d,t,os⟩:=by
 have u:=tc_lookup;have v:=tc_bind<|.ref C;have x:(⟨h,g,d,t,os⟩:Ww).TypeIs (.ref C) "type":=⟨_,f,pw⟩;refine j9<|codeAny_of_tree ?_;show wpAny _ _ (callAny (.ref C) _) _ _ _
 repeat (any_goals (first|assumption|with_reducible refine iE f ?_|wp_step))
 exact⟨pw,codeAny_call_builtin_at (ze _ (by decide +kernel)) entry_typeCall<|wpAny_check_type_call_sub f<|Kl m f hi j k n λa a1 a2 a3=>p a a1 a2 a3⟩
end
structure jo(K:Za)(C:Wv):Prop where
 obj:∃nm q N bs bm sn sub ab col dd k0 k1 k2 k3 k5,K.lookup C=pe (cZ nm q C N bs bm true sn sub ab col dd k0 k1 k2 k3 k5 "ValueError.__new__")/\eZ bm
 sa:aF K (.ref C) "__setattr__"=pe (pe (.builtin "object.__setattr__"))
 ga:aF K (.ref C) "__getattribute__"=pe (pe (.builtin "BaseException.__getattribute__"))
 gx:aF K (.ref C) "__getattr__"=pe none
theorem jo.cd{K:Za}(c:jo K C):∃cd,PySem.W.clsIn K C=pe cd/\eZ cd.mro/\cd.hasDict=true:=by
 let⟨f,q,N,bs,g,h,sub,i,a,j,k,l,m,n,o,e,v⟩:=c.obj;exact⟨_,by unfold PySem.W.clsIn;rw[e],.own v,pw⟩
theorem eZ.ne(x:eZ l):l.isEmpty=false:=by cases x<;>rfl
theorem BR(self:Wx)(x:eZ l):refuseLoop self "__setattr__" l=pure ():=by
 induction x with
 |base=>exact PySem.F.store_ValueError.passes self
 |own _ a=>rw[refuseLoop_ref];exact a
section
variable{prog:bI}{w:Wy}{A:Wz}{E:Zc}{s:Ww}{K:Za}{x C:Wv}{od:Option Wv}{vs:Array Wx}{name:WD}{v:Wx}
open PySem.W
theorem Ia(X:K.In h)(e:clsIn K C=pe cd)(a:eZ cd.mro)(f:eg.contains (.type n)=true):Looks M h (isSubtype (.ref C)<|.type n) true :=
 looks_mroIn X (by unfold mroIn;rw[e,Option.bind_some,if_neg (by rw[a.ne];decide),a.has f])
theorem Mm(hx:h.get? x=pe { cls:=.ref C,dict:=od,data:=.fields vs}):Looks M h (typeOf<|.ref x) (.ref C):=(Looks.ld hx).andThen .now
theorem Fp(X:K.In s.heap)(c:jo K C)(hx:s.heap.get? x=pe { cls:=.ref C,dict:=od,data:=.fields vs})(T:f.length<=ai)(u:0<vs.size)(h:∀l,(∀b o,b≠x->s.heap.get? b=pe o->l.get? b=pe o)->l.get? x=pe { cls:=.ref C,dict:=od,data:=.fields (vs.setIfInBounds 0<|.ref ↑s)}->Q .none {s with heap:=l}) :
  wpAny (model prog w) A (call (.builtin "ValueError.__init__")<|.ref x::f) Q E s:=by
 let⟨U,q,N,bs,B,Y,sub,ab,D,dd,k0,k1,k2,k3,k5,e,H⟩:=c.obj;have G:=PySem.F.excBase_ValueError;have m:=X _ _ e;have I:(Value.ref C::B).contains (.type "ValueError")=true:=by rw[gJ,H.has (b:=true) (by decide +kernel)];rfl
 have c2:=G.noStar;let⟨i,g,d,t,os⟩:=s;dsimp only at hx m;refine j9<|zc G.init.plain G.initEntry ?_;have J:∀(p:Unit->Ww->Prop),p () ⟨i,g,d,t,os⟩->wpAny (model prog w) A.in1 (zf "ValueError.__init__" ⟨.ref x::f,[]⟩) p (λe z=>match (Except.error e:Result)with | .ok (.ret v)=>Q v z | .ok _=>False | .error e=>E e z) ⟨i,g,d,t,os⟩:=λp L=>by
  simp only[zf,G.initKind,G.initSplit,G.initRow]
  repeat (first|with_reducible refine iE hx ?_|with_reducible refine iE m ?_|(with_reducible refine rN m ?_;rw[I])|wp_step)
  refine u5 ?_;rw[show ∀(a b:String) (n:Nat),Bind.check ⟨.positional,"*","ValueError",.self,[⟨"args",.varPos,false⟩]⟩ a b n (List.map (λy=>y.fst) ({ pos:=Value.ref x::f}:Args).kw)=pure ()from λa b n=>check_star_args _ _ _ _ _ _];exact aR L
 refine J _ ?_;unfold bW.«BaseException.__init__»;have j:(i.push { cls:=.type "tuple",data:=.seq f.toArray}).get? x=pe { cls:=.ref C,dict:=od,data:=.fields vs}:=bc _ hx;obtain⟨r,M⟩:∃r,vs[0]?=pe r:=⟨vs[0],by simp[u]⟩
 wp_walk
 rw[M];have k:Q .none ⟨(i.push { cls:=.type "tuple",data:=.seq f.toArray}).update x<|i7 (·.setIfInBounds 0 (.ref i.objs.size)),g,d,t,os⟩:=by
  refine h _ (λb o O e=>?_) ?_
  .rw[j7 _ _<|dD O];exact bc _ e
  .rw[k4 _ j rfl];rfl
 refine aR<|ap<|oC j rfl u ?_;cases r<;>first|exact zG (aR k)|exact aR<|aR k
theorem zW(hx:h.get? x=pe { cls:=.ref C,dict:=pe e,data:=.fields vs})(f:h.get? e=pe a):InstAt h x { cls:=.ref C,dict:=pe e,data:=.fields vs} C (pe a):=⟨hx,pw,pw,f⟩
theorem zV(hx:h.get? x=pe { cls:=.ref C,dict:=none,data:=.fields vs}):InstAt h x { cls:=.ref C,dict:=none,data:=.fields vs} C none:=⟨hx,pw,pw,fU⟩
theorem Nq{R:Result->Ww->Prop}{n:Obj}{od:Option Obj}{tk:Tok}(X:K.In s.heap)(c:jo K C)(I:InstAt s.heap x n C od)(o:takerIn K C name=pe none)
  (h:∀b,wpAny (model prog w) A.in1 (bW.ObjectAttr.storeInOwnDict (.ref x) (.ref C) (.str name tk) name v b) (λj i=>match j with | .done f=>R (.ok f) i | .again k=>k.quiet=true/\O0 (model prog w) A k R i) (λe i=>R (.error e) i) s) :
  O0 (model prog w) A (.call (.builtin "object.__setattr__") ⟨[.ref x,.str name tk,v],[]⟩) R s:=by
 have SF:=PySem.F.store_object;let⟨cd,l,m,_⟩:=c.cd;have sub:Looks (model prog w) s.heap (vh (.ref x)<|.type "object") true:=I.type.andThen (Ia X l m (by decide +kernel));refine zc SF.slot.plain SF.entry<|@check_slot (model prog w) _ _ s "object.__setattr__" "object" "__setattr__" (.ref x) [.str name tk,v] [] _ SF.kind SF.split sub (SF.args (.ref x) (.str name tk) v) ?_;let⟨g,p,q⟩:=Option.bind_eq_some_iff.mp o;have r:Looks (model prog w) s.heap (mroOf<|.ref C) cd.mro:=(looks_clsIn X l).andThen .now;have t:Looks (model prog w) s.heap (bW.ObjectAttr.storeTaker? g) none:=by
  cases g with
  |none=>exact .now
  |some a =>
   let⟨b,u,e⟩:=rV.mp q;refine(looks_takesIn X u).andThen ?_;cases b with
   |true=>cases e
   |false=>exact .now
 rw[osa_eq,refuse_eq];refine ap<|ap<|I.type.here<|ap<|r.here ?_;rw[BR _ m];refine aR<|ap<|I.type.here<|ap<|(uW X p).here<|ap<|t.here ?_;exact h _
theorem Go(X:K.In s.heap)(c:jo K C)(hx:s.heap.get? x=pe { cls:=.ref C,dict:=none,data:=.fields vs})(p:takerIn K C name=pe none)(h:∀f tk,(∀b o,b≠x->s.heap.get? b=pe o->f.get? b=pe o)->f.get? x=pe { cls:=.ref C,dict:=pe ↑s,data:=.fields vs} ->
   f.Ns1 ↑s (λy=>if y=name then pe v else none)->Q () {s with heap:=f,toks:=tk}) :
  wpAny (model prog w) A (setAttr (.ref x) name v) Q E s:=by
 let⟨cd,q,_,r⟩:=c.cd;have I:=zV hx;refine set_plain X I c.sa<|Nq (s:={s with toks:=s.toks+1}) X c I p λb=>?_;let⟨a,g,d,t,os⟩:=s;dsimp only at hx I X;have i:(a.push { cls:=.type "dict",data:=.dict #[]}).get? x=pe { cls:=.ref C,dict:=none,data:=.fields vs}:=bc _ hx;have xs:x≠a.objs.size:=cG<|a_ hx;refine ap<|aR<|ap<|ap<|Fa hx<|ap<|(looks_clsIn X q).here ?_;rw[r];refine ap<|wpAny_alloc'<|ap<|wpAny_update' i ?_;refine aR ?_;have u:((a.push { cls:=.type "dict",data:=.dict #[]}).update x λo=>{o with dict:=pe a.objs.size}).get? a.objs.size=pe { cls:=.type "dict",data:=.dict #[]} :=
  (j7 _ _ xs).trans (Heap.get?_push_at rfl rfl)
 have z:((a.push { cls:=.type "dict",data:=.dict #[]}).update x λo=>{o with dict:=pe a.objs.size}).Ns a.objs.size (λ_=>none):=⟨_,#[],_,u,pw,λe B=>absurd B ∅,λ_=>rfl⟩;show wpAny _ _ (zb a.objs.size (.str name _) name v) _ _ _;unfold zb bW.ObjectAttr.newKeyGuard;refine ap<|aR<|ap<|wpAny_nsSet1 (Heap.Ns1.of_empty z) λf j n=>?_;let⟨J,D,G,k,l,m⟩:=j.count<|Within.cons name v Within.nil;refine ap (wpAny_lookBehind k (by rw[l];exact pastItsLine_dict (bh m (by rw[da,vc,lT];nofun))) ?_);refine aR<|h f _ (λb o H e=>?_) ?_ j
 .exact(n.2 b<|cG<|a_ e).trans<|(j7 _ _<|dD H).trans<|bc _ e
 .exact(n.2 x xs).trans<|k4 _ i rfl
theorem Gn(X:K.In s.heap)(c:jo K C)(hx:s.heap.get? x=pe { cls:=.ref C,dict:=pe f,data:=.fields vs})(l:s.heap.Ns1 f k)(r:Within k q)(N:q.length<ai)(u:takerIn K C name=pe none)(h:∀i tk,(∀b o,b≠f->s.heap.get? b=pe o->i.get? b=pe o)->i.Ns1 f (λy=>if y=name then pe v else k y)->Q () {s with heap:=i,toks:=tk}) :
  wpAny (model prog w) A (setAttr (.ref x) name v) Q E s:=by
 let⟨cd,z,_,B⟩:=c.cd;let⟨D,G,_⟩:=sQ l;have I:=zW hx G;refine set_plain X I c.sa<|Nq (s:={s with toks:=s.toks+1}) X c I u λb=>?_;let⟨O,g,d,t,os⟩:=s;dsimp only at hx I X l;refine ap<|aR<|ap<|ap<|Fa hx<|ap<|(looks_clsIn X z).here ?_;rw[B];refine aR (a:=pe f) ?_;show wpAny _ _ (zb f (.str name _) name v) _ _ _;unfold zb bW.ObjectAttr.newKeyGuard;refine ap<|aR<|ap<|wpAny_nsSet1 l λi j H=>?_;let⟨T,J,L,m,n,p⟩:=j.count<|Within.cons name v r;refine ap (wpAny_lookBehind m (by rw[n];exact pastItsLine_dict (bh p (by rw[da];nofun))) ?_);exact aR<|h i _ (λb o M e=>(H.2 b M).trans e) j
theorem UK(X:K.In s.heap)(c:jo K C)(hx:s.heap.get? x=pe { cls:=.ref C,dict:=pe j,data:=.fields vs})(n:s.heap.Ns1 j k)(o:findIn K (.ref C) name=pe none)(p:k name=pe v)(q:handedIn v=true)(h:Q v {s with toks:=s.toks+1}):wpAny (model prog w) A (Bo (.ref x) name a) Q E s:=by
 let⟨cd,l,e,r⟩:=c.cd;let⟨f,u,y⟩:=sQ n;have I:=zW hx u;have G:=PySem.F.attrBase_ValueError;let⟨m,g,d,t,os⟩:=s;dsimp only at hx I X;have i:=I.type (M:=model prog w);have z:=uW (M:=model prog w) X c.ga;have L2:=uW (M:=model prog w) X c.gx;have hf:findObj K C (pe f) name=pe (.value v):=findObj_own (by unfold hasDictIn;rw[l];exact r) o rfl (by rw[y,p]);have B:=looks_find (M:=model prog w) X I hf;have sub:Looks (model prog w) m (vh (.ref x)<|.type "BaseException") true:=i.andThen (Ia X l e (by decide +kernel));unfold Bo getAttrBy;refine ap<|wpAny_mkText<|iN<|ap<|i.at<|ap<|z.at ?_;have ne:(y_ (Value.ref C) && rD "BaseException.__getattribute__"==rD "object.__getattribute__")=false:=by
  rw[show(rD "BaseException.__getattribute__"==rD "object.__getattribute__")=false from by decide +kernel,rP]
 dsimp only;rw[ne,if_neg WE];have D:Looks (model prog w) m (hookBefore<|.ref C) none:=L2;refine ap<|D.at<|ap<|u4<|iN ?_;unfold callGetattribute;rw[show(a && y_ (rD "BaseException.__getattribute__"))=false from rP _,if_neg WE];unfold boundAndCalled;rw[G.ga.bind];refine ap<|aR ?_;show wpAny _ _ (call (.builtin "BaseException.__getattribute__") [.ref x,.str name _]) _ _ _;refine j9<|zc G.ga.plain PySem.F.entry_bexc_ga ?_;refine @check_slot (model prog w) _ _ _ "BaseException.__getattribute__" "BaseException" "__getattribute__" (.ref x) [.str name _] [] _ (by decide +kernel) (by decide +kernel) sub (PySem.F.args_bexc_ga _ _) ?_;unfold bW.«object.__getattribute__»;refine ap<|aR<|ap<|aR<|ap<|i.at<|ap<|B.at ?_;refine aR ?_;show wpAny _ _ (handedOut v) _ _ _;rw[handedOut_of q];exact aR h
end
theorem RY(e:H a=pe o):upd H a o=H:=by
 funext b;unfold upd;split
 .rename_i q;rw[q,e]
 .rfl
def gB(d:Wv)(fs:List<|WD×V):WA->Prop:=λh=>∃mA,h.Ns1 d mA/\∀f,jr (fs.lookup f) (mA f)
theorem Bu{K:Za}(n:h.Ns1 d a)(r:∀f,jr (fs.lookup f)<|a f):cv P w K H h d (.ext<|gB d fs):=by
 apply⟨⟨a,n,r⟩,?_,λj l ⟨m,⟨o,g,i,e,q⟩,z⟩ k=>⟨m,⟨o,g,i,k _ e,q⟩,z⟩⟩;let⟨o,g,i,e,_⟩:=n;exact⟨o,e⟩
structure Mi(K:Za)(T:Wv):Prop where
 rd:PySem.W.readsIn K T (.type "type")=true
 fi:PySem.W.findCls K (.ref T) (.type "type") "__init__"=pe (.val (.builtin "ValueError.__init__"))
 ga:E_ K (.ref T) "__getattribute__"=pe (pe (.builtin "type.__getattribute__"))
section
variable{X:Cx}{J4:Zd}{σ:St}{H:Hp}{s:Ww}{a C:Wv}{od:Option Wv}
theorem Inv.exc(I:Inv X J4 σ H s)(e:H a=pe (.ext<|gk a C od)):∃f,s.heap.get? a=pe { cls:=.ref C,dict:=od,data:=.fields f}/\1<f.size:=(I.A0 a _ e).1
theorem Inv.Tj(I:Inv X J4 σ H s)(e:H a=pe (.ext<|cP a C od)):∃f,s.heap.get? a=pe { cls:=.ref C,dict:=od,data:=.fields f}/\f[1]?=pe .none:=(I.A0 a _ e).1
def DO(K:Za)(t:TA):TE:=fun σ H Q=>t σ H λvs H1=>∃a C od us,vs=.ref a::us/\H1 a=pe (.ext<|cP a C od)/\jo K C/\us.length<=ai/\Q .L' H1
theorem Ci{T:Wv}{x:WD}{p l i:Pos}{e:WB}{j:List WB}{t:TA}{pl:Sem Bool}(B:Mi X.K T)(G:Gl X x)(J:X.mg x=pe (.ref T))(L:PA X (e::j) t)(m:(x==("__debug__":WD))=false:=by decide)
  (n:aK (e::j) X.env=(false,eval e X.env)::aK j X.env:=by rfl) (v:(backTo i<|aK j X.env).any (·.1)=false:=by rfl)
  (M:eval (.Call (.Attribute (.Name x p) "__init__" l) (e::j) [] i) X.env=(do
   let D <- eval (.Name x p) X.env
   pQ l.atName
   let(f,first) <- kr [D] (pM D "__init__" pl)
   oM i f first (backTo i<|aK (e::j) X.env) (k_ i<|k9 [] X.env)):=by rfl) :
  PE X (.Call (.Attribute (.Name x p) "__init__" l) (e::j) [] i) (DO X.K t):=by
 intro J4 s σ H Q I h;refine PySem.W.methodCall_KW (pl:=pl) (jQ I G J ?_ m) M;refine PySem.W.method_cls I.OF B.ga<|PySem.W.cls_value I.OF B.rd B.fi rfl ?_;refine callWith_builtin1 (cQ (L i J4 _ σ H _ (I.tok _) h) λus N w=>?_) n v;let⟨vs,O,y,r,a,C,od,U,Y,A,c,hz,q⟩:=w;subst Y;cases r with
 |cons ra rr =>
  obtain rfl:=(show _=Value.ref a from ra);let⟨ws,ew,k⟩:=y.Tj A;have h0:0<ws.size:=gH Nat.zero_lt_one<|eo (iD.mp k).1;refine Fp y.OF c ew (by rw[<-rr.length];exact hz) h0 λh' kp E=>⟨.L',O,?_,pw,q⟩;have z:=y.write (x:=a) (e:=a) (o:=.ext<|cP a C od) (h':=h') (t':=N.toks) (by rw[A];exact fU) (.inl rfl) (λb u nb g=>kp b u nb g) ⟨_,E⟩ (kO E (by rw[Array.getElem?_setIfInBounds_ne WE];exact k));rw[RY A]at z;exact z
def Fz(K:Za)(ta tv:TE)(f:WD):TS:=λD σ H=>tv σ H λy H1=>ta σ H1 λx H2=>∃a C,x=.ref a/\jo K C/\bO K C f /\
  ((H2 a=pe (.ext<|cP a C none)/\∀d,H2 d=none->d≠a->D.nx σ (upd (upd H2 d<|.ext<|gB d [(f,y)]) a<|.ext<|cP a C<|some d)) ∨
   (∃d fs,H2 a=pe (.ext<|cP a C<|some d)/\H2 d=pe (.ext<|gB d fs)/\fs.length<1000/\D.nx σ (upd H2 d<|.ext<|gB d<|dL f y fs)))
theorem Au(ha:PE X o U)(hv:PE X value Y)(hs:pN value (pe<|.Attribute o f A) J.line X.env=pure false):PS X (.Assign [.Attribute o f A] value J) (Fz X.K U Y f):=by
 intro J4 s σ H D I h;refine plainObj_wpAny_Assign_Attribute (cQ (hv J4 s σ H _ I h) λu s1 ⟨y,H1,I1,ry,q⟩=>cQ (ha J4 s1 σ H1 _ I1 q) λov j O=>?_) hs;let⟨x,m,p,rx,a,C,ex,c,n,L⟩:=O;subst ex;obtain rfl:ov=Value.ref a:=rx;obtain⟨e,L⟩|⟨d,fs,e,ed,hl,L⟩:=L
 .obtain⟨vs,g,g1⟩:=p.Tj e;refine Go p.OF c g n.taker λh' tk kp gx N=>?_;have nd:↑j≠a:=gF<|a_ g;have hn:m ↑j=none:=p.A0.fresh<|aB _;have other:∀b u,m b=pe u->(∀φ,u≠.ext φ)->b≠a:=λb u z nz i=>nz _ (by rw[i,e]at z;exact(ff z).symm);have B:∀b,b≠a->b≠↑j->upd (upd m ↑j<|.ext<|gB ↑j [(f,y)]) a (.ext<|cP a C<|some ↑j) b=m b:=λb h1 h2=>by rw[aj h1,aj h2]
  have M:∀b u,m b=pe u->b≠↑j:=λb u z i=>by rw[i,hn]at z;cases z
  have un:Un X.fs [] m (upd (upd m ↑j<|.ext<|gB ↑j [(f,y)]) a<|.ext<|cP a C<|some ↑j) j.heap h':=by
   have Q:∀b,m b=none->b≠a:=λb z i=>by rw[i,e]at z;cases z
   apply⟨λb o z G _ _=>kp b o (Q b G) z,λb o z G _ _=>⟨o.slots,kp b o (Q b G) z⟩,λb o z G _=>by rw[B b (Q b G)<|cG<|a_ z];exact G,λb o z _=>?_,
    λb xs z=>by rw[B b (other b _ z (by intro φ i;cases i))<|M b _ z];exact z,λb ob u z=>by rw[B b (other b _ z (by intro φ i;cases i))<|M b _ z];exact z,
    λb ps z=>⟨#[],by rw[B b (other b _ z (by intro φ i;cases i))<|M b _ z,z];simp⟩⟩
   by_cases E:b=a
   .rw[E];exact⟨_,gx⟩
   .exact⟨o,kp b o E z⟩
  have ok:lY X.prog X.w X.K (upd (upd m ↑j<|.ext<|gB ↑j [(f,y)]) a<|.ext<|cP a C<|some ↑j) h':=λb u z=>by
   by_cases E:b=a
   .subst E;rw[aa]at z;cases z;exact kO gx g1
   .by_cases hd:b=↑j
    .subst hd;rw[aj E,aa]at z;cases z;refine Bu N λk=>?_;show jr (ix k [(f,y)]) _;by_cases q:k=f
     .rw[q,if_pos rfl];simp[ix];exact ry
     .rw[if_neg q];have:(k==f)=false:=beq_eq_false_iff_ne.mpr q;simp only[ix,this];exact fU
    .rw[B b E hd]at z;refine(p.A0 b u z).QD (λl v hc t=>kp l v ?_ t) (λl t=>by rw[B l (other l _ t (by intro φ i;cases i))<|M l _ t];exact t) λl xs t=>by rw[B l (other l _ t (by intro φ i;cases i))<|M l _ t];exact t
     obtain rfl|hc:=hc
     .exact E
     .exact other l _ hc (by intro φ i;cases i)
  exact⟨σ,_,p.un (t':=tk) un ok,L _ hn nd⟩
 .obtain⟨vs,g,g1⟩:=p.Tj e;let⟨mA,nA,rA⟩:=(p.A0 d _ ed).1;have wi:Bt mA (fs.map (·.1)):=λk hg=>by
   have r:=rA k;cases q:fs.lookup k with
   |none=>rw[q]at r;exact absurd (jr.none_of r) hg
   |some y'=>exact aV.mpr ⟨(k,y'),r_ q,pw⟩
  refine Gn p.OF c g nA wi (by rw[am,lT];nofun) n.taker λh' tk kp N=>?_;have T:∃o,h'.get? d=pe o:=let⟨o,_,_,e',_⟩:=N;⟨o,e'⟩;apply⟨σ,_,p.write (x:=d) (e:=d) (h':=h') (t':=tk) (by rw[ed];exact fU) (.inl rfl) (λb u nb z=>kp b u nb z) T<|Bu N λk=>?_,L⟩;rw[fx];by_cases q:k=f
  .rw[if_pos q,if_pos q];exact ry
  .rw[if_neg q,if_neg q];exact rA k
def Fv(K:Za)(ta:TE)(f:WD):TE:=fun σ H Q=>ta σ H λx H1=>∃a C d fs v,x=.ref a/\H1 a=pe (.ext<|gk a C<|some d)/\H1 d=pe (.ext<|gB d fs)/\jo K C/\bO K C f/\fs.lookup f=pe v/\Q v H1
theorem Aw(r:PE X e m)(t:xL e f X.env (eval e X.env)=eval e X.env):PE X (.Attribute e f j) (Fv X.K m f):=by
 intro J4 s σ H Q I h;refine Gd t<|cQ (r J4 s σ H _ I h) λu J k=>?_;let⟨x,w,i,y,a,C,d,fs,v,ex,z,A,c,n,l,q⟩:=k;subst ex;obtain rfl:u=Value.ref a:=y;let⟨L,g,_⟩:=i.exc z;let⟨B,D,E⟩:=(i.A0 d _ A).1;let⟨M,G,p⟩:=jr.some_of (v:=v) (o:=B f) (by rw[<-l];exact E f);exact UK i.OF c g D n G (yB p) ⟨v,w,i.tok _,p,q⟩
end
section
variable{M:Model}{A:Wz}{E:Zc}{s:Ww}{env:Env}{nm q:WD}{C N a:Wv}{bs bm:Zf}{hdct:Bool}{sn:Zb}{sub:Zf}{ab:Bool}{col:Option Bool}{dd od:Option Wv}{k0 k1 k2 k3 k5:Option Wx}{newId:String}{vs:Array Wx}
theorem Fn(j:eZ bm)(k:A.handled=none)(h:wpAny M A x (λv e=>∃a od vs,v=.ref a/\e.heap.get? C=pe (cZ nm q C N bs bm hdct sn sub ab col dd k0 k1 k2 k3 k5 newId)/\e.heap.get? a=pe { cls:=.ref C,dict:=od,data:=.fields vs}/\vs[1]?=pe .none/\E (.ref a) e) E s) :
  wpAny M A (raiseStmt env (pe x) none) Q E s:=by
 have l:(Value.ref C::bm).contains (.type "BaseException")=true:=by rw[gJ,j.has (b:=true) (by decide +kernel)];rfl
 unfold raiseStmt;refine ap<|c6 h (λv e m=>?_) λ_ _ y=>y;let⟨a,od,vs,rfl,f,i,n,o⟩:=m;let⟨p,g,d,tk,os⟩:=e
 repeat (first|with_reducible refine c7 i rfl n ?_|with_reducible refine iE i ?_|with_reducible refine iE f ?_|(with_reducible refine rN f ?_;rw[l])|wp_step)
 exact wpAny_raiseNew_none k o
end
section
variable{X:Cx}{J4:Zd}{σ:St}{H:Hp}{s:Ww}{C f:Wv}{k:Nat}{fd:iL}{ps:Zb}{sp:Sp}
theorem GJ{i:Zf}{n:List V}{J:Hp->Prop}(c:jo X.K C)(hi:aF X.K (.ref C) "__init__"=pe (pe<|.ref f))(hf:tG X.K (.ref f)=true)
  (F:ju X.prog X.w X.K X.mg X.base RT k f fd ps sp) (Q:eG (k+1) X.A) (T:Binds X.K fd ps []) (I:Inv X J4 σ H s) (r:bg n i) (U:i.length<=ai)
  (h:sp (.ref (↑s+1)::n) (upd H (↑s+1)<|.ext<|cP (↑s+1) C none) (λv m=>v=.L'/\J m) E0) {E:Zc} :
  wpAny (model X.prog X.w) X.A (call (.ref C) i) (λu L=>u=.ref (↑s+1)/\∃m,Inv X J4 σ m L/\J m) E s:=by
 let⟨nm,q,N,bs,bm,sn,sub,ab,Y,dd,k0,k1,k2,k3,k5,e,hv⟩:=c.obj;have p:=I.OF;obtain⟨x,y,B⟩:∃x,X.K.lookup f=pe x/\x.cls=.type "function":=by
  let⟨o,ho,e⟩:=rV.mp<|beq_iff_eq.mp hf;exact⟨o,ho,e⟩
 let⟨j,g,d,t,os⟩:=s;refine Mn (q:=q) (h:=j) hv (p _ _ e) (PySem.W.looks_findIn p hi) (p _ _ y) B U λh' kp z gx=>?_;dsimp only at h I;have D:=I.laid (a:=j.objs.size+1) (o:=.ext<|cP (j.objs.size+1) C none) (h':=h') (t':=t) kp (iG _)<|kO gx rfl;have M:bg (V.ref (j.objs.size+1)::n) (Value.ref (j.objs.size+1)::i):=.cons rfl r;have hl:((Value.ref (j.objs.size+1)::i)++[]).length=ps.length:=by rw[eI,<-M.length];exact F.len _ _ _ _ h
 have O:=T _ (Value.ref (j.objs.size+1)::i) D.OF hl;rw[eI]at O;refine j9<|si (F.run _ X.stack _ _ ⟨Value.ref (j.objs.size+1)::i,[]⟩ (Value.ref (j.objs.size+1)::i) _ _ E0 (Q.make C i []) (D.TN.make C i []) O M h) λG L l=>?_;cases G with
 |error e=>exact l.elim
 |ok fl =>
  cases fl with
  |ret u =>
   let⟨v,H',I3,rv,ev,q3⟩:=D.after l;subst ev;exact⟨rv,pw,H',I3,q3⟩
  |next=>exact dU l
  |brk=>exact dU l
  |cont=>exact dU l
end
abbrev Cx.Uj(X:Cx)(v:Wx):Cx:={X with A:=X.A.mark<|some v,calm:=false,xe:=λ_ _=>False}
section
variable{X:Cx}{J4:Zd}{σ:St}{H:Hp}{s:Ww}{n:Nat}{a C:Wv}{od:Option Wv}{v:Wx}
theorem Inv.Uj(I:Inv X J4 σ H s)(v:Wx):Inv (X.Uj v) J4 σ H s :=
 ⟨⟨I.ok.mod,I.ok.kind,I.ok.glob,I.ok.blt,I.ok.above,I.ok.inj,I.ok.has,I.ok.Um,(λz=>nomatch z),I.ok.frames,I.ok.Uo,I.ok.UI,I.ok.bs,I.ok.Tw,I.ok.R5,I.ok.SR,I.ok.P7,I.ok.TF⟩,I.os,I.bare,I.base,I.loc,I.cell,I.free,I.OX,I.pin,I.A0,I.len⟩
theorem Inv.Sh(e:Inv (X.Uj v) J4 σ H s)(ok:X.Ok):Inv X J4 σ H s:=⟨ok,e.os,e.bare,e.base,e.loc,e.cell,e.free,e.OX,e.pin,e.A0,e.len⟩
theorem Km(I:Inv X J4 σ H s)(y:rh X J4 n)(l:mY n s.heap H a C od)(h:∀r,Inv X J4 σ H r->mY n r.heap H a C od->Q () r):
  wpAny M A (uV (.ref a) none) Q E s:=by
 let⟨G,T,e,z,J,w⟩:=l.tr;unfold uV;obtain⟨m,rfl⟩|⟨t,O,U,rfl,m,j,k,B,i,D⟩:=J
 .refine ap<|c7 e rfl m ?_;rw[if_neg WE];exact aR<|h s I l
 .refine ap<|c7 e rfl m ?_;rw[if_pos (show(Value.ref t != Value.none)=true from by simp)];refine oC B i (iD.mp D).1 ?_;have kp:∀b o,b≠t->s.heap.get? b=pe o->(s.heap.update t<|i7 (·.setIfInBounds 3 ((none:Option Wv).elim Value.none λf=>rawInt f))).get? b=pe o:=λb o L g=>by
   rw[j7 _ _<|dD L];exact g
  have u:=(iD.mp D).1;refine h _ (I.turned (t':=s.toks) (it:=t) kp (w t rfl) (λq=>absurd j<|j6<|q▸y.loc) (.inr<|bh y.s0 j) (λx c g q=>absurd j<|j6<|q▸y.cell x c g)<|λp N q=>absurd j<|j6<|q▸y.pin p N)
   ⟨l.Si,l.new,G,pe t,kp a _ (dD k) e,z,.inr ⟨t,_,_,pw,m,j,k,k4 _ B<|u6<|md i _,md i _,by simp[u]⟩,w⟩
theorem uE(I:Inv X J4 σ H s)(O:X.N.Nodup)(hi:X.N[i]?=pe x)(hx:X.env.scope.names.lookup x=pe .local)(h:∀G,Inv X J4 (σ.set i none) H G->Q () G):wpAny M A (do bindName X.env x .none;unbindBehindTheSuite X.env x t) Q E s:=by
 let⟨m,J,T⟩:=id I.loc;have l:(X.env.scope.kind==.class || (X.env.scope.kind==.module && X.env.locals != X.env.globals))=false:=by rw[I.ok.kind];rfl
 have hiσ:i<σ.length:=by rw[I.len];exact(cx.mp hi).1
 have Tp:=I.Tp;refine wpAny_nameGoes_keeps hx J l λU v u f=>?_;let⟨oL,_,_,Y,_⟩:=id J;have tracked:lY X.prog X.w X.K H U:=λb ob e=>by
  refine(I.A0 b ob e).QD (λc L hc q=>(f.2 c ?_).trans q) (λ_ q=>q) λ_ _ q=>q;rintro rfl;obtain rfl|hc:=hc
  .rw[I.free]at e;cases e
  .rw[I.free]at hc;cases hc
 refine h _ ⟨I.ok,I.os,I.bare,⟨λb o e n B hx=>?_,λb o e n B hx=>?_,I.base.free,λb o e hx=>?_,I.base.RZ,I.base.RI,I.base.R0⟩,⟨_,u,λj y v' g r e3=>?_⟩,λy c e=>?_,I.free,I.OX,λp hp=>?_,tracked,by simpa using I.len⟩
 .exact(f.2 b<|cG<|gH (a_ e) I.ok.above).trans<|I.base.keep b o e n B hx
 .obtain⟨sl,g⟩:=I.base.slot b o e n B hx;exact⟨sl,(f.2 b<|cG<|gH (a_ e) I.ok.above).trans g⟩
 .obtain⟨o',g⟩:=I.base.there b o e hx;exact⟨o',(f.2 b<|cG<|gH (a_ e) I.ok.above).trans g⟩
 .by_cases D:j=i
  .subst D;rw[List.getElem?_set_self hiσ]at r;cases r
  .rw[Fh<|dD D]at r;let⟨u',r',q⟩:=T j y v' g r e3;apply⟨u',r',?_⟩;obtain⟨k,e⟩|⟨k,c,e,z⟩:=q
   .refine .inl ⟨k,?_⟩;have:y≠x:=λe=>D<|vV O g<|e▸hi;simp[this,e]
   .exact .inr ⟨k,c,e,z.sameBut f<|Tp y c e⟩
 .obtain⟨L,z⟩:=I.cell y c e;exact⟨L,z.sameBut f<|Tp y c e⟩
 .obtain⟨e,n,ne,nf,d⟩:=I.pin p hp;exact⟨(f.2 p.1 ne).trans e,n,ne,nf,d⟩
def XE(X:Cx)(J4:Zd)(σ:St)(W:XK)(e:Wx)(s':Ww):Prop:=∃n a C od H',e=.ref a/\rh X J4 n/\Inv X J4 σ H' s'/\mY n s'.heap H' a C od/\W (.ref C) (pe a) H'
def XS(X:Cx)(J4:Zd)(W:St->XK)(e:Wx)(s':Ww):Prop:=∃n a C od σ' H',e=.ref a/\rh X J4 n/\Inv X J4 σ' H' s'/\mY n s'.heap H' a C od/\W σ' (.ref C) (pe a) H'
def Nm(X:Cx)(e:WB)(t:XK->TE):Prop:=∀(J4:Zd) (s:Ww) (σ:St) (H:Hp) (Q:VK) (W:XK),Inv X J4 σ H s->t W σ H Q->wpAny (model X.prog X.w) X.A (eval e X.env) (EP X J4 σ Q) (XE X J4 σ W) s
def PH(X:Cx)(hs:List y9)(t:gm->St->XK):Prop:=∀(J4:Zd) (n:Nat) (s:Ww) (σ:St) (H:Hp) (D:gm) (a C:Wv) (od:Option Wv),Inv X J4 σ H s->rh X J4 n->mY n s.heap H a C od->t D σ (.ref C) (pe a) H ->
 wpAny (model X.prog X.w) X.A (handleBy (.ref a) X.env hs) (SP X J4 D) X.xe s
def Nv(tb:(St->XK)->TS)(th:gm->St->XK):TS:=λD σ H=>tb (th D) D σ H
def vz(te:XK->TE):(St->XK)->TS:=λW D σ H=>te (W σ) σ H λ_ H1=>D.nx σ H1
def Kv(tc:TT)(ta tb:(St->XK)->TS):(St->XK)->TS:=λW=>bS tc (ta W)<|tb W
def Ac(t:TS):(St->XK)->TS:=λ_=>t
def M9(X:Cx)(b:WC)(t:(St->XK)->TS):Prop:=∀(J4:Zd) (s:Ww) (σ:St) (H:Hp) (D:gm) (W:St->XK),Inv X J4 σ H s->t W D σ H->wpAny (model X.prog X.w) X.A (exec b X.env) (SP X J4 D) (XS X J4 W) s
theorem XE.xs(h:XE X J4 σ (W σ) e s):XS X J4 W e s:=let⟨n,a,C,od,f,g,y,I,i,q⟩:=h;⟨n,a,C,od,σ,f,g,y,I,i,q⟩
theorem uz(i:Nm X e g)(j:pN e none f.line X.env=pure false:=by rfl):M9 X (.Expr e f) (vz g):=by
 intro J4 s σ H D W I h;exact wpAny_Expr_any (c6 (i J4 s σ H _ (W σ) I h) (λv o ⟨x,k,l,p,m⟩=>⟨σ,k,l,m⟩) λ_ _ z=>z.xs) I.quiet j
section
variable{f:Wv}{k:Nat}{fd:iL}{ps:Zb}{sp:Sp}{x:WD}{p pos:Pos}{e:WB}{es:List WB}{t:TA}
theorem XE.of(r:Inv X J4 σ l m)(h:Ml X.prog X.w X.K X.stack l m W j o):XE X J4 σ W j o:=by
 let⟨a,C,od,u,y,os,g,un,i,A,q⟩:=h;exact⟨_,a,C,od,u,y,r.young,r.T9 (ch:=[]) os un i g (λb z=>absurd z ∅),A,q⟩
theorem Jd(F:ju X.prog X.w X.K X.mg X.base (Ml X.prog X.w X.K) k f fd ps sp)(E:eG k X.A)(G:Gl X x)(J:X.mg x=pe (.ref f))(L:db X.K (.ref f)=true)(M:Binds X.K fd ps [])
  (N:PA X.Qx (e::es) t) (m:(x==("__debug__":WD))=false:=by decide) (O:aK (e::es) X.env=(false,eval e X.env)::aK es X.env:=by rfl) (o:(backTo pos<|aK es X.env).any (·.1)=false:=by rfl) :
  Nm X (.Call (.Name x p) (e::es) [] pos) (λW=>oj sp [] W t):=by
 intro J4 s σ H Q W I h;refine oO<|jQ I G J ?_ m;refine sh (h₀:=X.base) I.ok.mod.kin L (c6 (N pos J4 s σ H _ (I.Pa _) h) (λj B ⟨T,U,g,r,q⟩=>⟨g.OF,?_⟩) λ_ _ z=>dU z) O o;have l:=g.Ou;dsimp only at q;rw[eI]at q;have Y:(j++[]).length=ps.length:=by rw[eI,<-r.length];exact F.len _ _ _ _ q
 have D:=M B j l.OF Y;rw[eI]at D;refine j9<|si (F.run X.A X.stack B U ⟨j,[]⟩ j T Q W E l.TN D r q) λy s' i=>?_;cases y with
 |error ev=>exact XE.of l i
 |ok fl =>
  cases fl with
  |ret u=>exact l.after i
  |next=>exact dU i
  |brk=>exact dU i
  |cont=>exact dU i
end
section
variable{cn UZ:WD}{Dc:Wv}{np Vd:Pos}{b0:WC}{TU:List WC}{rest:List y9}{th:TS}{tr:gm->St->XK}{i:Nat}
def Kw(K:Za)(Dc:Wv)(i:Nat)(th:TS)(tr:gm->St->XK):gm->St->XK:=λD σ cls oa H=>∃C a b,cls=.ref C/\oa=pe a/\kZ K (.ref C) (.ref Dc)=pe b /\
 if b=true then th { nx:=fun σ' H'=>D.nx (σ'.set i none) H',rt:=D.rt,bk:=fun σ' H'=>D.bk (σ'.set i none) H',ct:=fun σ' H'=>D.ct (σ'.set i none) H'} (σ.set i<|some<|.ref a) H else tr D σ cls oa H
def Nx:gm->St->XK:=λ_ _ _ _ _=>False
theorem MK:PH X [] Nx:=λ_ _ _ _ _ _ _ _ _ _ _ _ h=>h.elim
theorem Jb(l:X.N.Nodup)(hi:X.N[i]?=pe UZ)(hx:X.env.scope.names.lookup UZ=pe .local)(A:Gl X cn)(B:X.mg cn=pe (.ref Dc))(o:∀a:Wv,A9 (X.Uj<|.ref a) (b0::TU) th)(p:PH X rest tr)
  (r:(cn==("__debug__":WD))=false:=by decide):PH X (.ExceptHandler (pe<|.Name cn np) (pe UZ) (b0::TU) Vd::rest) (Kw X.K Dc i th tr):=by
 intro J4 n s σ H D a C od I y t ⟨U,Y,b,E,G,ex,h⟩;cases E;cases G;let⟨vs,g,_⟩:=I.exc t.Si;refine wpAny_handleBy_cons (codeAny_handlers_test ?_) (by intro q;cases q);refine jQ (X:=X.Uj<|.ref a) (I.Uj<|.ref a) A B ?_ r;refine(PySem.W.exm_one (M:=model X.prog X.w) I.OF (Mm g) ex).here ?_;cases b with
 |false=>exact p J4 n s σ H D a C od I y t h
 |true =>
  refine codeAny_handlers_suite_as<|Km I y t λs1 J L=>?_;refine vG (X:=X) J l hi (.inl hx) (v:=.ref a) (u:=.ref a) rfl (λO Q=>?_)<|.inr hx;refine c6 (o a J4 O _ H _ (Q.Uj<|.ref a) h) (λf s3 m=>?_) λ_ _ z=>dU z;cases f with
  |next=>obtain⟨σ',e,j,q⟩:=m;exact uE (j.Sh I.ok) l hi hx λx k=>⟨_,e,k,q⟩
  |brk=>obtain⟨σ',e,j,q⟩:=m;exact uE (j.Sh I.ok) l hi hx λx k=>⟨_,e,k,q⟩
  |cont=>obtain⟨σ',e,j,q⟩:=m;exact uE (j.Sh I.ok) l hi hx λx k=>⟨_,e,k,q⟩
  |ret u=>obtain⟨v,σ',e,j,T,q⟩:=m;exact uE (j.Sh I.ok) l hi hx λx k=>⟨v,_,e,k,T,q⟩
end
end
structure Dg(P:bI)(w:Wy)(K:Za)(mg:WD->Option Wx)(base:WA)(x:WD)(ps:Zb)(k:Nat)(sp:Sp):Prop where
 ex:∃f fd,ju P w K mg base (Ml P w K) k f fd ps sp/\mg x=pe (.ref f)/\db K (.ref f)=true/\Binds K fd ps []
structure Lq(P:bI)(w:Wy)(K:Za)(mg:WD->Option Wx)(base:WA)(x:WD)(C:Wv)(ps:Zb)(k:Nat)(sp:Sp):Prop where
 ex:∃f fd,ju P w K mg base RT k f fd ps sp/\mg x=pe (.ref C)/\jo K C/\aF K (.ref C) "__init__"=pe (pe (.ref f))/\tG K (.ref f)=true/\db K (.ref C)=true/\Binds K fd ps []
section
variable{X:Cx}{k:Nat}{ps:Zb}{sp:Sp}{E:XK}{x:WD}{C:Wv}{p pos np J5:Pos}{e:WB}{es:List WB}{t:TA}{st:WC}{ts:TS}
theorem sN(D:Dg X.prog X.w X.K X.mg X.base x ps k sp)(h:eG k X.A)(i:Gl X x)(j:PA X.Qx (e::es) t)(a:(x==("__debug__":WD))=false:=by decide)
  (l:aK (e::es) X.env=(false,eval e X.env)::aK es X.env:=by rfl) (g:(backTo pos<|aK es X.env).any (·.1)=false:=by rfl) :
  Nm X (.Call (.Name x p) (e::es) [] pos) (λW=>oj sp [] W t):=by
 let⟨f,q,F,m,n,o⟩:=D.ex;exact Jd F h i m n o j a l g
end
section
variable{P:bI}{w:Wy}{K:Za}{mg:WD->Option Wx}{base:WA}
theorem Mj.Wa{x a:WD}{st:WC}{f:Wv}{n:iL}{N i:Zb}{k:Nat}{j:Sp}(F:Mj K x a st f n)(S:iw N i<|bL st)(len:∀g H Q E,j g H Q E->g.length=i.length)
  (h:∀(e:Wx) (A:Wz) (outer:List Env) (s:Ww) (H:Hp) (g:List V) (Q:VK) (E:XK),eG k (A.deeper<|envOfC a (bL st) ↑s f e)->j g H Q E ->
   ∃t,A9 (xD (Ml P w K) P w K mg base N a (bL st) f e A outer s H E) (f_ st) t/\t (bH Q) (start N g) H):ju P w K mg base (Ml P w K) (k+1) f n i j:=by
 let⟨q,r,kV,doc,u,v,e,y,o,rfl,lk,l⟩:=F.ex;refine L_ lk l S len λA outer s H g Q E p m=>?_;exact h e A outer s H g Q E p m
end
end L2
namespace L2
open PySem PySem.W
theorem MX(e:subIn K (.ref D) (.type "BaseException")=pe true)(f:isClsIn K D=true)(g:typeIn K (.ref D)=pe (.type "type"))(h:subIn K (.ref C) (.ref D)=pe b):exmOne K (.ref C) (.ref D)=pe b:=by
 have a:(clsIn K D).isSome=true:=f;unfold exmOne;rw[e,if_pos WE];show(if((clsIn K D).isSome && typeIn K (.ref D)==pe (.type "type"))=true then subIn K (.ref C) (.ref D)else none)=pe b
 rw[if_pos (by rw[a,g];decide)];exact h
section
variable{X:Cx}{J4:Zd}{σ:St}{H:Hp}{s:Ww}{k:Nat}{f C:Wv}{fd:iL}{ps:Zb}{sp:Sp}
def nq(C:Wv)(sp:Sp)(t:TA):(St->XK)->TS:=λW _ σ H=>t σ H λvs H1=>vs.length<=ai/\∀a,H1 a=none ->
 sp (.ref a::vs) (upd H1 a<|.ext<|cP a C none) (λv H2=>v=.L'/\∃od,H2 a=pe (.ext<|cP a C od)/\W σ (.ref C) (pe a) (upd H2 a<|.ext<|gk a C od)) E0
theorem IY(c:jo X.K C)(hi:aF X.K (.ref C) "__init__"=pe (pe<|.ref f))(hf:tG X.K (.ref f)=true)(kp:db X.K (.ref C)=true)(F:ju X.prog X.w X.K X.mg X.base RT k f fd ps sp)(hr:eG (k+1) X.A)(hb:Binds X.K fd ps [])(hc:X.calm=true)(hg:Gl X x)(hm:X.mg x=pe (.ref C))(ha:PA X.Qx (e::l) t)(J:(x==("__debug__":WD))=false:=by decide)(he:aK (e::l) X.env=(false,eval e X.env)::aK l X.env:=by rfl)(L:(backTo B<|aK l X.env).any (·.1)=false:=by rfl) :
  M9 X (.Raise (pe<|.Call (.Name x np) (e::l) [] B) none G) (nq C sp t):=by
 intro J4 s σ H D W I h;let⟨nm,q,N,bs,bm,sn,sub,ab,col,dd,k0,k1,k2,k3,k5,eC,hv⟩:=c.obj;rw[arm_exec_Raise];simp only[evalOpt,Option.map];refine ap<|uK<|Fn (C:=C) (nm:=nm) (q:=q) (N:=N) (bs:=bs) (bm:=bm) (hdct:=true) (sn:=sn) (sub:=sub) (ab:=ab) (col:=col) (dd:=dd) (k0:=k0) (k1:=k1) (k2:=k2) (k3:=k3) (k5:=k5) (newId:="ValueError.__new__") hv (I.ok.hd hc) ?_;refine ap<|c6 (Q:=λv i=>∃a m M,v=.ref a/\i.heap.get? C=pe (cZ nm q C N bs bm true sn sub ab col dd k0 k1 k2 k3 k5 "ValueError.__new__")/\i.heap.get? a=pe { cls:=.ref C,dict:=m,data:=.fields M}/\M[1]?=pe .none/\XS X J4 W (.ref a) i) ?_ (λv s3 h3=>ap<|uK<|aR h3) λ_ _ y=>y;refine oO<|jQ I hg hm ?_ J;refine sh (h₀:=X.base) I.ok.mod.kin kp (c6 (ha B J4 s σ H _ (I.Pa _) h) (λus i ⟨M,H1,n,r,hz,q1⟩=>⟨n.OF,?_⟩) λ_ _ z=>dU z) he L;have O:=n.Ou;refine c6 (GJ (E:=XS X J4 W) c hi hf F hr hb O r (by rw[<-r.length];exact hz)<|q1 (↑i+1)<|O.A0.fresh<|iG _) (λu s2 T=>?_) λ_ _ z=>z;let⟨eu,H2,U,m,e2,q2⟩:=T;let⟨Y,p,j⟩:=U.Tj e2;apply⟨↑i+1,m,Y,eu,U.OF _ _ eC,p,j,?_⟩;have w1:1<Y.size:=(iD.mp j).1;have I3:=U.write (x:=↑i+1) (e:=↑i+1) (o:=.ext<|gk (↑i+1) C m) (h':=s2.heap) (t':=s2.toks) (by rw[e2];exact fU) (.inl rfl) (λb u _ g=>g) ⟨_,p⟩<|sX p w1;exact⟨↑i,_,C,m,σ,_,pw,O.young,I3,⟨aa,iG _,Y,none,p,w1,.inl ⟨j,pw⟩,λt z=>by cases z⟩,q2⟩
theorem x9(D:Lq X.prog X.w X.K X.mg X.base x C ps k sp)(m:eG (k+1) X.A)(n:X.calm=true)(o:Gl X x)(p:PA X.Qx (e::a) t)(h:(x==("__debug__":WD))=false:=by decide)(q:aK (e::a) X.env=(false,eval e X.env)::aK a X.env:=by rfl)(i:(backTo j<|aK a X.env).any (·.1)=false:=by rfl) :
  M9 X (.Raise (pe<|.Call (.Name x l) (e::a) [] j) none g) (nq C sp t):=by
 let⟨f,fd,F,r,c,hi,hf,kp,u⟩:=D.ex;exact IY c hi hf kp F m u n o r p h q i
end
section
variable{prog:bI}{w:Wy}{A:Wz}{E:Zc}{s:Ww}{K:Za}{x C:Wv}{ox:Obj}{Ub:Option Obj}
open PySem.W
theorem Kn(X:K.In s.heap)(c:jo K C)(I:InstAt s.heap x ox C Ub)(hf:findObj K C Ub "__class__"=pe (.bind (.builtin "getset_descriptor.__get__")<|.builtin "object.__class__"))(i:mroIn K C (.type "object")=pe true)(h:Q (pe<|.ref C) {s with toks:=s.toks+1}):wpAny (model prog w) A (zi (.ref x) "__class__") Q E s:=by
 let⟨cd,j,a,n⟩:=c.cd;have G:=PySem.F.attrBase_ValueError;let⟨f,g,d,t,os⟩:=s;dsimp only at I X;have e:=I.type (M:=model prog w);have k:=uW (M:=model prog w) X c.ga;have L2:=uW (M:=model prog w) X c.gx;have l:=looks_find (M:=model prog w) X I hf;have sub:Looks (model prog w) f (vh (.ref x)<|.type "BaseException") true:=e.andThen (Ia X j a (by decide +kernel));unfold zi getAttrBy? getAttrBy;refine ap<|wpAny_mkText<|ap<|u4<|iN<|ap<|e.at<|ap<|k.at ?_;have ne:(y_ (Value.ref C) && rD "BaseException.__getattribute__"==rD "object.__getattribute__")=false:=by
  rw[show(rD "BaseException.__getattribute__"==rD "object.__getattribute__")=false from by decide +kernel,rP]
 dsimp only;rw[ne,if_neg WE];have m:Looks (model prog w) f (hookBefore<|.ref C) none:=L2;refine ap<|m.at<|ap<|u4<|iN ?_;unfold callGetattribute;rw[show(false && y_ (rD "BaseException.__getattribute__"))=false from rfl,if_neg WE];unfold boundAndCalled;rw[G.ga.bind];refine ap<|aR ?_;show wpAny _ _ (call (.builtin "BaseException.__getattribute__") [.ref x,.str "__class__" _]) _ _ _;refine j9<|zc G.ga.plain PySem.F.entry_bexc_ga ?_;refine @check_slot (model prog w) _ _ _ "BaseException.__getattribute__" "BaseException" "__getattribute__" (.ref x) [.str "__class__" _] [] _ (by decide +kernel) (by decide +kernel) sub (PySem.F.args_bexc_ga _ _) ?_;unfold bW.«object.__getattribute__»;refine ap<|aR<|ap<|aR<|ap<|e.at<|ap<|l.at ?_;show wpAny _ _ (bW.ObjectAttr.bindTo (.builtin "getset_descriptor.__get__") (.builtin "object.__class__") (.ref x)<|.ref C) _ _ _;unfold bW.ObjectAttr.bindTo;show wpAny _ _ (kr [rD "object.__class__"] (call (.builtin "getset_descriptor.__get__") [.builtin "object.__class__",.ref x,.ref C]) >>= ret) _ _ _;refine ap<|iN<|j9<|class_get (ox:=ox) (od:=Ub) X I i ?_;show wpAny _ _ (ret<|Value.ref C) _ _ _;refine aR ?_;show wpAny _ _ (handedOut<|Value.ref C) _ _ _;rw[handedOut_of (by rfl)];exact aR<|aR h
theorem CM(e:(clsIn K C).isSome=true)(f:findIn K (.ref C) "__class__"=pe (pe<|.builtin "object.__class__"))(g:specialIn K (.builtin "object.__class__") "__get__"=pe (pe<|.builtin "getset_descriptor.__get__"))(a:takesIn K (.builtin "object.__class__")=pe true):
  findObj K C Ub "__class__"=pe (.bind (.builtin "getset_descriptor.__get__")<|.builtin "object.__class__"):=by
 cases Ub with
 |some o=>exact findObj_data e f g a
 |none =>
  let⟨cd,e⟩:=vj.mp e;unfold findObj;rw[e,Option.bind_some,f,Option.bind_some];simp[g,a]
structure Nf(K:Frag)(C:Wv):Prop where
 cls:jo K C
 ha:findIn K (.ref C) "__class__"=pe (pe (.builtin "object.__class__"))
 hn:specialIn K (.builtin "object.__class__") "__get__"=pe (pe (.builtin "getset_descriptor.__get__"))
 UH:takesIn K (.builtin "object.__class__")=pe true
 hm:mroIn K C (.type "object")=pe true
theorem CB(k:Nf K C):KitX K (.ref x) (.ref C) (λh=>∃ox Ub,InstAt h x ox C Ub):=by
 let⟨r,q,N,bs,t,u,sub,v,g,i,y,B,D,G,H,f,J⟩:=k.cls.obj;let⟨cd,j,l,L⟩:=k.cls.cd;apply⟨λ_ _ _ ⟨_,_,I⟩=>I.type,λM h X _=>?_,λh m i o n O X a=>?_,λX ⟨_,_,I⟩ q=>Kn X k.cls I (CM (by rw[j];rfl) k.ha k.hn k.UH) k.hm q⟩
 .intro Q T U Y p q;unfold isType loadHead;exact ap<|Fa (p _ _<|X _ _ f)<|aR q
 .refine Bool.eq_false_iff.mpr λq=>?_;have e:C=m:=Value.ref.inj<|beq_iff_eq.mp q;subst e;have z:=(X _ _ f).symm.trans a;simp[cZ]at z
end
def KP(K:Za):List V->Hp->VK->Prop:=λxs H Q=>∃(a C:Wv) (od:Option Wv) (c:V) (u:Wx) (b:Bool),xs=[.ref a,c]/\((∃d,c=.ref d/\u=.ref d)∨∃n,c=.ty n/\u=.type n)/\H a=pe (.ext<|gk a C od) /\
 (od=none∨∃d fs,od=pe d/\H d=pe (.ext<|gB d fs))/\Nf K C/\l_ K (.ref C) u=pe b/\Q (.bl b) H
theorem wo:fB X (.builtin "isinstance") (KP X.K):=by
 intro B s σ H xs D Q I r h;let⟨a,C,E,c,u,b,rfl,l,m,p,k,e,q⟩:=h;let⟨G,t,rfl,v,j⟩:=vals2 r;cases v;have x:t=u:=by
  obtain⟨d,rfl,rfl⟩|⟨n,rfl,rfl⟩:=l
  .exact j
  .exact j
 subst x;let⟨J,g,_⟩:=I.exc m;have inst:∃y f,PySem.W.InstAt s.heap a y C f:=by
  obtain rfl|⟨d,fs,rfl,i⟩:=p
  .exact⟨_,_,zV g⟩
  .obtain⟨_,⟨o,A⟩,_⟩:=(show cv X.prog X.w X.K H s.heap d (.ext<|gB d fs)from I.A0 d _ i);exact⟨_,_,zW g A⟩
 exact jB (CB k) I.OF inst e (λz=>nomatch z) λtk=>⟨.bl b,H,I.tok _,pw,q⟩
section
variable{prog:bI}{w:Wy}{A:Wz}{E:Zc}{h:WA}{g:Array Fi}{d:Drawn}{t:Nat}{os:OsState}
variable{nm q:WD}{C N:Wv}{bs bm:Zf}{hdct:Bool}{sn:Zb}{sub:Zf}{ab:Bool}{col:Option Bool}{dd:Option Wv}{k0 k1 k2 k3 k5:Option Wx}
theorem H_(j:eZ bm)(f:h.get? C=pe (cZ nm q C N bs bm hdct sn sub ab col dd k0 k1 k2 k3 k5 "ValueError.__new__"))(hi:uX (model prog w) h (k7 (.ref C) "__init__")<|some<|.builtin "ValueError.__init__")(m:a.length<=ai)(n:∀i,(∀b o,h.get? b=pe o->i.get? b=pe o)->i.objs.size=h.objs.size+2->i.get? (h.objs.size+1)=pe { cls:=.ref C,data:=.fields #[.ref h.objs.size,.none,.none,.none,.bool false,.none]} ->
   wpAny (model prog w) A (call (.builtin "ValueError.__init__")<|.ref (h.objs.size+1)::a) (λr k=>r=.none/\Q (.done<|.ret<|.ref<|h.objs.size+1) k) E ⟨i,g,d,t,os⟩) :
  wpAny (model prog w) A (bW.«type.__call__» ⟨.ref C::a,[]⟩) Q E ⟨h,g,d,t,os⟩:=by
 repeat (first|with_reducible refine iE f ?_|with_reducible refine wpAny_madeBy_exc f ?_|wp_step)
 refine codeAny_call_builtin_code (ze _ PySem.F.excBase_ValueError.quiet)<|Fo j f<|LF j f m ?_;show wpAny _ _ _ _ _ _;have kp:∀b o,h.get? b=pe o->((h.push { cls:=.type "tuple",data:=.seq a.toArray}).push { cls:=.ref C,data:=.fields #[.ref h.objs.size,.none,.none,.none,.bool false,.none]}).get? b=pe o :=
  λb o e=>bc _<|bc _ e
 have p:=kp _ _ f;have l:((h.push { cls:=.type "tuple",data:=.seq a.toArray}).push { cls:=.ref C,data:=.fields #[.ref h.objs.size,.none,.none,.none,.bool false,.none]}).get? (h.objs.size+1)
  =pe { cls:=.ref C,data:=.fields #[.ref h.objs.size,.none,.none,.none,.bool false,.none]}:=by heap_get
 have s:(Value.ref C::bm).contains (.ref C)=true:=by simp
 unfold vh
 repeat (first|with_reducible refine iE l ?_|(with_reducible refine rN p ?_;rw[s])|wp_step)
 show wpAny _ _ (k7 (.ref C) _) _ _ _;refine hi _ _ _ _ kp ?_;refine iN<|ap ?_;rw[PySem.F.excBase_ValueError.init.bind];refine aR (ap (c6 (n _ kp (by rw[kq,kq]) l) (λr k u=>?_) λ_ _ x=>x));let⟨rfl,v⟩:=u
 wp_walk
 exact v
theorem Ko(i:eZ bm)(f:h.get? C=pe (cZ nm q C N bs bm hdct sn sub ab col dd k0 k1 k2 k3 k5 "ValueError.__new__"))(hi:uX (model prog w) h (k7 (.ref C) "__init__")<|some<|.builtin "ValueError.__init__")(j:e.length<=ai)(k:∀a,(∀b o,h.get? b=pe o->a.get? b=pe o)->a.objs.size=h.objs.size+2->a.get? (h.objs.size+1)=pe { cls:=.ref C,data:=.fields #[.ref h.objs.size,.none,.none,.none,.bool false,.none]} ->
   wpAny (model prog w) (A.under<|.builtin "type.__call__" ⟨.ref C::e,[]⟩) (call (.builtin "ValueError.__init__")<|.ref (h.objs.size+1)::e) (λr l=>r=.none/\Q (.ref<|h.objs.size+1) l) E ⟨a,g,d,t,os⟩) :
  wpAny (model prog w) A (call (.ref C) e) Q E ⟨h,g,d,t,os⟩:=by
 have m:=tc_lookup;have n:=tc_bind<|.ref C;have p:(⟨h,g,d,t,os⟩:Ww).TypeIs (.ref C) "type":=⟨_,f,pw⟩;refine j9<|codeAny_of_tree ?_;show wpAny _ _ (callAny (.ref C) _) _ _ _
 repeat (any_goals (first|assumption|with_reducible refine iE f ?_|wp_step))
 exact⟨pw,codeAny_call_builtin_at (ze _ (by decide +kernel)) entry_typeCall<|wpAny_check_type_call_sub f<|H_ i f hi j λa a1 a2 a3=>k a a1 a2 a3⟩
end
section
variable{X:Cx}{J4:Zd}{σ:St}{H:Hp}{s:Ww}{C:Wv}
theorem DV(c:jo X.K C)(hi:aF X.K (.ref C) "__init__"=pe (pe<|.builtin "ValueError.__init__"))(I:Inv X J4 σ H s)(i:us.length<=ai):
  wpAny (model X.prog X.w) X.A (call (.ref C) us) (λu p=>u=.ref (↑s+1)/\Inv X J4 σ (upd H (↑s+1)<|.ext<|cP (↑s+1) C none) p) E s:=by
 let⟨G,q,N,bs,J,L,sub,M,r,O,Q,T,U,Y,k5,e,v⟩:=c.obj;have j:=I.OF;let⟨f,g,d,t,os⟩:=s;refine Ko (q:=q) (h:=f) v (j _ _ e) (PySem.W.looks_findIn j hi) i λh' kp z k=>?_;have l:=I.laid (a:=f.objs.size+1) (o:=.ext<|cP (f.objs.size+1) C none) (h':=h') (t':=t) kp (iG _)<|kO k rfl;refine Fp (s:=⟨h',g,d,t,os⟩) (od:=none) l.OF c k i (Nat.succ_pos 5) λy B m=>⟨pw,pw,?_⟩;have n:=l.write (x:=f.objs.size+1) (e:=f.objs.size+1) (o:=.ext<|cP (f.objs.size+1) C none) (h':=y) (t':=t) (by rw[aa];exact fU) (.inl rfl) (λb u D q=>B b u D q) ⟨_,m⟩ (kO m (by rfl));rw[nh]at n;exact n
def vy(C:Wv)(t:TA):(St->XK)->TS:=λW _ σ H=>t σ H λvs H1=>vs.length<=ai/\∀a,H1 a=none->W σ (.ref C) (pe a) (upd H1 a<|.ext<|gk a C none)
theorem Hb(c:jo X.K C)(hi:aF X.K (.ref C) "__init__"=pe (pe<|.builtin "ValueError.__init__"))(kp:db X.K (.ref C)=true)(hc:X.calm=true)(hg:Gl X x)(hm:X.mg x=pe (.ref C))(ha:PA X.Qx (e::j) t)(p:(x==("__debug__":WD))=false:=by decide)(he:aK (e::j) X.env=(false,eval e X.env)::aK j X.env:=by rfl)(w:(backTo m<|aK j X.env).any (·.1)=false:=by rfl) :
  M9 X (.Raise (pe<|.Call (.Name x np) (e::j) [] m) none n) (vy C t):=by
 intro J4 s σ H D W I h;let⟨nm,q,N,bs,bm,sn,sub,M,col,O,T,U,Y,k3,k5,eC,hv⟩:=c.obj;rw[arm_exec_Raise];simp only[evalOpt,Option.map];refine ap<|uK<|Fn (C:=C) (nm:=nm) (q:=q) (N:=N) (bs:=bs) (bm:=bm) (hdct:=true) (sn:=sn) (sub:=sub) (ab:=M) (col:=col) (dd:=O) (k0:=T) (k1:=U) (k2:=Y) (k3:=k3) (k5:=k5) (newId:="ValueError.__new__") hv (I.ok.hd hc) ?_;refine ap<|c6 (Q:=λv f=>∃a od A,v=.ref a/\f.heap.get? C=pe (cZ nm q C N bs bm true sn sub M col O T U Y k3 k5 "ValueError.__new__")/\f.heap.get? a=pe { cls:=.ref C,dict:=od,data:=.fields A}/\A[1]?=pe .none/\XS X J4 W (.ref a) f) ?_ (λv s3 h3=>ap<|uK<|aR h3) λ_ _ y=>y;refine oO<|jQ I hg hm ?_ p;refine sh (h₀:=X.base) I.ok.mod.kin kp (c6 (ha m J4 s σ H _ (I.Pa _) h) (λus f ⟨A,H1,k,r,hz,q1⟩=>⟨k.OF,?_⟩) λ_ _ z=>dU z) he w;have B:=k.Ou;refine c6 (DV (us:=us) (E:=XS X J4 W) c hi B (by rw[<-r.length];exact hz)) (λu s2 G=>?_) λ_ _ z=>z;let⟨eu,J⟩:=G;have q2:=q1 (↑f+1)<|B.A0.fresh<|iG _;have e2:upd H1 (↑f+1) (.ext<|cP (↑f+1) C none) (↑f+1)=pe (.ext<|cP (↑f+1) C none):=aa;let⟨L,l,i⟩:=J.Tj e2;apply⟨↑f+1,none,L,eu,J.OF _ _ eC,l,i,?_⟩;have w1:1<L.size:=(iD.mp i).1;have I3:=J.write (x:=↑f+1) (e:=↑f+1) (o:=.ext<|gk (↑f+1) C none) (h':=s2.heap) (t':=s2.toks) (by rw[e2];exact fU) (.inl rfl) (λb u _ g=>g) ⟨_,l⟩<|sX l w1;rw[nh]at I3;exact⟨↑f,_,C,none,σ,_,pw,B.young,I3,⟨aa,iG _,L,none,l,w1,.inl ⟨i,pw⟩,λt z=>by cases z⟩,q2⟩
end
section
variable{X:Cx}
def xV(t u:(St->XK)->TS):(St->XK)->TS:=λW=>ar (t W)<|u W
end
end L2
end

section
set_option Elab.async false
set_option linter.all false
set_option maxRecDepth 100000
namespace L2
open PySem Spec PyProof.Rows PySem.W
structure XO(K:Frag)(C:Wv)(bm:Zf):Prop where
 ex:∃nm q N bs sn sub ab col dd k0 k1 k2 k3 k5,K.lookup C=pe (cZ nm q C N bs bm true sn sub ab col dd k0 k1 k2 k3 k5 "ValueError.__new__")
structure XG(K:Frag):Prop where
 hn:specialIn K (.builtin "object.__class__") "__get__"=pe (pe (.builtin "getset_descriptor.__get__"))
 UH:takesIn K (.builtin "object.__class__")=pe true
structure XX(K:Frag)(mg:WD->Option Wx)(x:WD)(C Ct:Wv):Prop where
 g:mg x=pe (.ref C)
 o:XO K C (.ref Ct::eg)
 sa:findIn K (.ref C) "__setattr__"=pe (pe (.builtin "object.__setattr__"))
 ga:findIn K (.ref C) "__getattribute__"=pe (pe (.builtin "BaseException.__getattribute__"))
 gx:findIn K (.ref C) "__getattr__"=pe none
 kp:keepIn K (.ref C)=true
 cl:findIn K (.ref C) "__class__"=pe (pe (.builtin "object.__class__"))
section
variable{K:Frag}{mg:WD->Option Wx}{x y:WD}{C D Ct:Wv}{bm:Zf}
theorem XO.cls(h:XO K C bm):∃cd,clsIn K C=pe cd/\cd.mro=.ref C::bm:=by
 let⟨f,q,N,bs,g,sub,i,a,j,k,l,m,n,o,e⟩:=h.ex;exact⟨_,by unfold clsIn;rw[e],pw⟩
theorem XO.ty(h:XO K C bm):typeIn K (.ref C)=pe (.type "type"):=by
 let⟨f,q,N,bs,g,sub,i,a,j,k,l,m,n,o,e⟩:=h.ex;show(K.lookup C).map (·.cls)=_;rw[e];rfl
theorem XO.sub(h:XO K C bm)(v:Wx):subIn K (.ref C) v=pe ((Value.ref C::bm).contains v):=by
 let⟨cd,e,m⟩:=h.cls;unfold subIn mroIn;dsimp only;rw[e];show(if cd.mro.isEmpty then none else pe (cd.mro.contains v))=_
 rw[m];rfl
theorem XO.Ug(h:XO K C bm)(g:XO K D a):kitCls K (.ref C) (.ref D)=pe ((Value.ref C::bm).contains<|.ref D):=by
 let⟨cd,e,m⟩:=g.cls;unfold kitCls;dsimp only;rw[e,g.ty,if_pos (show((pe cd).isSome && pe (Value.type "type")==pe (Value.type "type"))=true by show(pe (Value.type "type")==pe (Value.type "type"))=true;decide)];exact h.sub _
theorem lA(a b:Wv):((Value.ref a)==(Value.ref b))=decide (b=a):=by
 by_cases e:b=a
 .subst e;simp
 .rw[qb e];exact beq_false_of_ne λz=>e (by injection z with z;exact z.symm)
theorem Ie(a:Wv):eg.contains (Value.ref a)=false:=rfl
theorem XX.cls(h:XX K mg x C Ct):jo K C:=by
 let⟨f,q,N,bs,g,sub,i,a,j,k,l,m,n,p,e⟩:=h.o.ex;exact⟨⟨f,q,N,bs,_,g,sub,i,a,j,k,l,m,n,p,e,.own .base⟩,h.sa,h.ga,h.gx⟩
theorem XX.Vg(h:XX K mg x C Ct)(g:XG K):Nf K C:=by
 apply⟨h.cls,h.cl,g.hn,g.UH,?_⟩;have:=h.o.sub<|.type "object";exact this
theorem XX.is(h:XX K mg x C Ct)(g:XX K mg y D Ct)(a:D≠Ct):kitOne K (.ref C) (.ref D)=pe (decide (D=C)):=by
 unfold kitOne;by_cases e:D=C
 .subst e;rw[if_pos ∅,qh rfl]
 .rw[if_neg (by rw[lA,qb e];decide),h.o.Ug g.o,qb e,gJ,gJ,Ie];have f:((Value.ref D)==(Value.ref C))=false:=by rw[lA];exact qb λz=>e z.symm
  have i:((Value.ref D)==(Value.ref Ct))=false:=by rw[lA];exact qb λz=>a z.symm
  rw[f,i];rfl
theorem XX.ve(h:XX K mg x C Ct):kitOne K (.ref C) (.type "ValueError")=pe true:=by
 unfold kitOne;rw[if_neg (λz=>by cases z)];unfold kitCls;dsimp only;rw[if_pos (by decide +kernel)];exact h.o.sub _
theorem XO.TL(h:XO K C bm)(g:XO K D a)(b:a.contains (.type "BaseException")=true):exmOne K (.ref C) (.ref D)=pe ((Value.ref C::bm).contains<|.ref D):=by
 unfold exmOne;rw[g.sub,gJ,b,if_pos ∅];exact h.Ug g
theorem XX.TL(h:XX K mg x C Ct)(g:XX K mg y D Ct)(a:D≠Ct):exmOne K (.ref C) (.ref D)=pe (decide (D=C)):=by
 have f:((Value.ref D)==(Value.ref Ct))=false:=by rw[lA];exact qb λz=>a z.symm
 rw[h.o.TL g.o rfl,gJ,gJ,Ie,f,lA];by_cases e:C=D
 .subst e;simp
 .rw[qb e,qb λz=>e z.symm];rfl
end
theorem CY:iM "ValueError"=pe (.type "ValueError"):=by decide +kernel
theorem uy(h:PS X.Qx b t):M9 X b (Ac t):=λa s σ H D W I q=>c6 (h a s σ H D (I.Pa _) q) (λ_ _ z=>z.Ou) λ_ _ z=>dU z
structure EY(n:Nat)(h:WA)(H:Hp)(a C:Wv)(od:Option Wv)(L:Wv):Prop where
 Si:H a=pe (.ext (gk a C od))
 new:n<=a
 tr:∃vs t oT ts,h.get? a=pe { cls:=.ref C,dict:=od,data:=.fields vs}/\vs[1]?=pe (.ref t)/\n<=t/\t≠a/\h.get? t=pe oT/\oT.data=.fields ts/\ts[3]?=pe (rawInt L)/\H t=none
section
variable{M:Model}{A:Wz}{E:Zc}{s:Ww}{base:WA}{env:Env}{outer:List Env}{L e:Wv}{oe:Obj}{vs:Array Wx}{Q:Unit->Ww->Prop}
theorem Fm(u:A.frames=pe (env::outer))(x:s.heap.FunFrames base<|env::outer)(hf:env.frame=pe L)(y:s.heap.get? e=pe oe)(r:oe.data=.fields vs)(n:1<vs.size)(h:∀t p B C,Nd (wS<|env::outer) e none s.heap t->t.get? e=pe {oe with data:=.fields p}->p[1]?=pe (.ref ↑s) ->
   t.get? ↑s=pe B->B.data=.fields C->C[3]?=pe (rawInt L)->Q () {s with heap:=t}) :
  wpAny M A (do let T <- frameOf env;let l <- entryPlaceOf L g;let U <- EntryCells.newEntry f T .none (rawInt L) .none l;setField (.ref e) 1 U) Q E s:=by
 have v:e∉wS (env::outer):=λz=>by
  let⟨_,o,m,Y⟩:=x.mem z;rw[y]at m;cases m;exact Y vs r
 refine ap<|wpAny_frameOf_fun u x hf λa so=>ap<|wpAny_entryPlaceOf λl w=>?_;unfold EntryCells.newEntry newFields;refine ap<|ml ?_<|w.sizeOk5 _ _ _ _ _;generalize D:({ cls:=.type "traceback",dict:=none,data:=.fields ([f,.ref L,.none,rawInt L,.none]++(if l.isEmpty then eM 6 Value.none else l)).toArray}:Obj)=i
 have dN:i.data=.fields ([f,.ref L,.none,rawInt L,.none]++(if l.isEmpty then eM 6 Value.none else l)).toArray:=by rw[<-D]
 have fN:i.isFreed=false:=by rw[<-D];rfl
 have G:a.get? e=pe oe:=(so.2.1 e v).trans y;have H:=bc (h:=a) i G;have I:a.objs.size=↑s:=so.1;refine oC H r n ?_;have ne:a.objs.size≠e:=gF<|a_ G;have d3:=md r (·.setIfInBounds 1 (Value.ref a.objs.size));have e3:=k4 (i7 (·.setIfInBounds 1 (Value.ref a.objs.size))) H<|u6 d3;have t3:((a.push i).update e<|i7 (·.setIfInBounds 1 (Value.ref a.objs.size))).get? a.objs.size=pe i:=(j7 (a.push i) _<|dD ne).trans<|dS a fN;have k:∀b o,b≠e->a.get? b=pe o->((a.push i).update e<|i7 (·.setIfInBounds 1 (Value.ref a.objs.size))).get? b=pe o:=λb o j q=>by
  rw[j7 _ _<|dD j];exact bc _ q
 have J:((a.push i).update e<|i7 (·.setIfInBounds 1 (Value.ref a.objs.size))).get? e=pe {oe with data:=.fields (vs.setIfInBounds 1<|Value.ref a.objs.size)}:=by
  rw[e3,Obj.U_ r]
 refine h _ _ _ _ ⟨λb o q j _ N=>k b o j<|(so.2.1 b N).trans q,λb o q j _ N=>?_,λb o q=>?_⟩ J ?_ (by rw[<-I];exact t3) dN ?_
 .obtain⟨O,m⟩:=so.2.2 b o q;exact⟨O,k b _ j m⟩
 .by_cases j:b=e
  .rw[j];exact⟨_,J⟩
  .obtain⟨O,m⟩:=so.2.2 b o q;exact⟨_,k b _ j m⟩
 .rw[<-I];simp[n]
 .simp
theorem Kk(l:A.frames=pe (env::outer))(J:s.heap.FunFrames base<|env::outer)(hf:env.frame=pe L)(r:s.heap.get? e=pe oe)(u:oe.data=.fields vs)(Y:VM n s.heap e vs T)(h:∀k g y v,Nd (wS<|env::outer) e T s.heap k->k.get? e=pe {oe with data:=.fields g}->g[1]?=pe (.ref ↑s) ->
   k.get? ↑s=pe y->y.data=.fields v->v[3]?=pe (rawInt L)->Q () {s with heap:=k}):wpAny M A (rS (.ref e) env) Q E s:=by
 unfold rS;simp only[hf];obtain⟨m,rfl⟩|⟨t,y,v,rfl,m,_,B,w,i,N⟩:=Y
 .refine ap<|c7 r u m ?_;rw[if_neg WE];exact Fm l J hf r u (iD.mp m).1 h
 .refine ap<|c7 r u m ?_;rw[if_pos (show(Value.ref t != Value.none)=true from by simp)];refine ap<|c7 w i N ?_;rw[if_neg (show ¬((Value.none==rawInt L)=true)from by simp[rawInt])];refine ap<|oC w i (iD.mp N).1 ?_;have a:∀b,b≠t->(s.heap.update t<|i7 (·.setIfInBounds 3 Value.none)).get? b=s.heap.get? b:=λb f=>j7 _ _<|dD f;have tt:=k4 (i7 (·.setIfInBounds 3 Value.none)) w<|u6<|md i _;have p:∀b o,s.heap.get? b=pe o->(∀ws,o.data≠.fields ws)->b≠t:=λb o f j q=>by
   rw[q,w]at f;cases f;exact j v i
  have sz:(s.heap.update t<|i7 (·.setIfInBounds 3 Value.none)).objs.size=↑s:=Heap.size_after_update ..;refine Fm (s:={s with heap:=s.heap.update t (i7 (·.setIfInBounds 3 Value.none))}) l (J.of_keeps λb o f j=>⟨o,(a b<|p b o f j).trans f,pw⟩) hf ((a e<|dD B).trans r) u (iD.mp m).1 ?_;intro k g C D x q1 O U q4 q5;rw[sz]at O U;refine h k g C D ⟨λb o q G H I=>x.keep b o ((a b λz=>H (by rw[z])).trans q) G ∅ I,λb o q G H I=>x.slot b o ((a b λz=>H (by rw[z])).trans q) G ∅ I,λb o q=>?_⟩ q1 O U q4 q5;by_cases f:b=t
  .rw[f];exact x.there t _ tt
  .exact x.there b o<|(a b f).trans q
end
section
variable{X:Cx}{J4:Zd}{σ:St}{H:Hp}{s:Ww}{n:Nat}{a C:Wv}{od:Option Wv}
def Vu(X:Cx)(n:Nat)(h:WA)(H:Hp)(a C:Wv)(od:Option Wv):Prop:=mY n h H a C od∨EY n h H a C od X.env.locals
theorem HY(I:Inv X J4 σ H s)(y:rh X J4 n)(st:X.stack=X.env::X.outer)(j:X.env.frame=pe X.env.locals)(fl:Vu X n s.heap H a C od)(h:∀L,Inv X J4 σ H L->EY n L.heap H a C od X.env.locals->Q () L):wpAny M X.A (rS (.ref a) X.env) Q E s:=by
 obtain fl|fl:=fl
 .obtain⟨vs,T,e,z,tr,fT⟩:=fl.tr;have k:=I.stack;rw[st]at k;refine Kk (n:=n) (base:=X.base) (by rw[I.ok.frames,st]) k j e rfl tr λh' r oT ts u q1 q2 q3 q4 q5=>?_;have z':1<r.size:=(iD.mp q2).1;have N:∀b∈wS (X.env::X.outer),H b=none:=λb f=>I.Ri b (by rw[st];exact f);have O:=JA I.A0 fl.Si fT N u q1 z';have nT:∀t,T=pe t->n<=t:=λt J=>by
   obtain⟨_,q⟩|⟨t',_,_,q,_,l,_⟩:=tr
   .rw[q]at J;cases J
   .rw[q]at J;cases J;exact l
  have U:∀b,b≠X.env.locals->b∉X.fs->b∉wS (X.env::X.outer):=λb Y h2 f=>by
   unfold wS at f;rw[pR,j]at f;exact(b_.mp f).elim Y h2
  have i:∀b,H b=none->b≠a:=λb f q=>by rw[q,fl.Si]at f;cases f
  let⟨m0,⟨oL,aT,aX,v,rL⟩,_⟩:=id I.loc;have w:X.env.locals∈wS (X.env::X.outer):=by unfold wS;rw[pR,j];exact cF
  have ab:pe X.env.locals≠T:=λq=>absurd (nT _ q.symm)<|j6 y.loc;let⟨a0,al⟩:=u.slot _ oL v (i _ I.free) ab w;refine h _ (I.step (g':=s.gens) (d':=s.drawn) (t':=s.toks) (ch:=T.toList) (λb f=>?_) (λb o hL hf hc g B=>?_) (λb o hL hf hc g B=>?_) (λb o _ _ B=>B) (λb o _ g=>u.there b o g)
   (λ_ _ g=>g) (λ_ _ _ g=>g) (λb ps g=>⟨#[],by rw[g];simp⟩) (λm hm=>?_) O I.bare) ⟨fl.Si,fl.new,r,↑s,oT,ts,q1,q2,?_,?_,q3,q4,q5,?_⟩
  .have hT:T=pe b:=by cases T with
    |none=>simp at f
    |some t=>simp at f;rw[f]
   have D:=nT b hT;exact⟨.inr<|bh y.s0 D,λq=>absurd D<|j6<|q▸y.loc,λx c g q=>absurd D<|j6<|q▸y.cell x c g,λp hp q=>absurd D<|j6<|q▸y.pin p hp⟩
  .exact u.keep b o g (i b B) (λq=>hc (by rw[<-q];simp))<|U b hL hf
  .refine u.slot b o g (i b B) (λq=>hc (by rw[<-q];simp)) ?_;unfold wS;rw[pR,j];exact de _ hf
  .obtain⟨o',an,as,G,r'⟩:=hm;rw[v]at G;cases G;exact⟨_,an,as,al,r'⟩
  .exact bh (bh fl.new<|eo<|a_ e)<|aB _
  .exact gF<|a_ e
  .exact I.A0.fresh<|aB _
 .obtain⟨vs,t,oT,ts,e,Y,D,a4,hT,aC,h3,nt⟩:=fl.tr;unfold rS;simp only[j];refine ap<|c7 e rfl Y ?_;rw[if_pos (show(Value.ref t != Value.none)=true from by simp)];refine ap<|c7 hT aC h3 ?_;rw[if_pos (show(rawInt X.env.locals==rawInt X.env.locals)=true from by simp)];exact aR<|h s I fl
theorem HZ(r:Option Wv)(I:Inv X J4 σ H s)(y:rh X J4 n)(J:EY n s.heap H a C od L)(h:∀l m t u v,Inv X J4 σ H l->l.heap.get? a=pe { cls:=.ref C,dict:=od,data:=.fields m}->m[1]?=pe (.ref t)->n<=t->t≠a->l.heap.get? t=pe u->u.data=.fields v->v[3]?=pe (r.elim Value.none λf=>rawInt f)->H t=none->Q () l) :
  wpAny M A (uV (.ref a) r) Q E s:=by
 let⟨m,t,u,v,e,z,j,k,B,i,D,G⟩:=J.tr;unfold uV;refine ap<|c7 e rfl z ?_;rw[if_pos (show(Value.ref t != Value.none)=true from by simp)];refine oC B i (iD.mp D).1 ?_;have kp:∀b o,b≠t->s.heap.get? b=pe o->(s.heap.update t<|i7 (·.setIfInBounds 3 (r.elim Value.none λf=>rawInt f))).get? b=pe o:=λb o N g=>by
  rw[j7 _ _<|dD N];exact g
 have w:=(iD.mp D).1;exact h _ m t _ _ (I.turned (t':=s.toks) (it:=t) kp G (λq=>absurd j<|j6<|q▸y.loc) (.inr<|bh y.s0 j) (λx c g q=>absurd j<|j6<|q▸y.cell x c g)<|λp O q=>absurd j<|j6<|q▸y.pin p O)
  (kp a _ (dD k) e) z j k (k4 _ B<|u6<|md i _) (md i _) (by simp[w]) G
theorem Fl(I:Inv X J4 σ H s)(y:rh X J4 n)(st:X.stack=X.env::X.outer)(i:X.env.frame=pe X.env.locals)(j:Vu X n s.heap H a C od)(h:∀e,Inv X J4 σ H e->mY n e.heap H a C od->Q () e):wpAny M X.A (rS (.ref a) X.env) (λ_ e=>wpAny M X.A (uV (.ref a) none) Q E e) E s:=by
 refine HY I y st i j λG k f=>HZ none k y f λl m t o p q r g u v w x z B=>h l q ⟨f.Si,f.new,m,pe t,r,(iD.mp g).1,.inr ⟨t,o,p,pw,g,u,v,w,x,z⟩,λJ D=>by cases D;exact B⟩
def Lp(X:Cx)(J4:Zd)(W:St->XK)(e:Wx)(s':Ww):Prop:=∃n a C od σ' H',e=.ref a/\rh X J4 n/\Inv X J4 σ' H' s'/\Vu X n s'.heap H' a C od/\W σ' (.ref C) (pe a) H'
theorem XS.two(h:XS X J4 W e f):Lp X J4 W e f:=let⟨n,a,C,od,σ',g,i,y,I,j,q⟩:=h;⟨n,a,C,od,σ',g,i,y,I,.inl j,q⟩
theorem vk(st:X.stack=X.env::X.outer)(g:X.env.frame=pe X.env.locals):Bs M X.A X.env (Lp X J4 W):=by
 rintro e L ⟨n,a,C,od,σ',k,rfl,y,I,l,q⟩;refine HY I y st g l λN m f=>?_;let⟨h,t,i,j,o,p,O,r,Q,u,T,U⟩:=id f.tr;refine ap<|c7 o rfl p ?_;rw[if_neg (show ¬((Value.ref t==Value.none)=true)from by simp)];rw[g];exact HZ (pe X.env.locals) m y f λY h t i j v w x z B D E G J=>⟨n,a,C,od,σ',k,pw,y,v,.inr ⟨f.Si,f.new,h,t,i,j,w,x,z,B,D,E,G,J⟩,q⟩
end
def PY(X:Cx)(b:List WC)(t:(St->XK)->TS):Prop:=∀(J4:Zd) (s:Ww) (σ:St) (H:Hp) (D:gm) (W:St->XK),Inv X J4 σ H s->t W D σ H->wpAny (model X.prog X.w) X.A (execs b X.env) (SP X J4 D) (Lp X J4 W) s
def Nl(X:Cx)(b:WC)(t:(St->XK)->TS):Prop:=∀(J4:Zd) (s:Ww) (σ:St) (H:Hp) (D:gm) (W:St->XK),Inv X J4 σ H s->t W D σ H->wpAny (model X.prog X.w) X.A (exec b X.env) (SP X J4 D) (Lp X J4 W) s
section
variable{X:Cx}{J4:Zd}{σ:St}{H:Hp}{s:Ww}{t u:(St->XK)->TS}{b:WC}{bs:List WC}{pos:Pos}
theorem HQ(h:M9 X b t):Nl X b t:=λJ4 s σ H D W I q=>c6 (h J4 s σ H D W I q) (λ_ _ z=>z) λ_ _ z=>z.two
theorem gM(h:Nl X b t):PY X [b] t:=by
 intro J4 s σ H D W I q;refine Fg<|c6 (h J4 s σ H D W I q) (λf a q=>?_) λ_ _ y=>y;cases f with
 |next=>exact pO q
 |ret v=>exact q
 |brk=>exact q
 |cont=>exact q
theorem qG(h:Nl X b t)(a:PY X bs u):PY X (b::bs) (xV t u):=by
 intro J4 s σ H D W I q;refine Fg<|c6 (h J4 s σ H _ W I q) (λf e q=>?_) λ_ _ y=>y;cases f with
 |next=>obtain⟨σ1,g,i,j⟩:=q;exact a J4 e σ1 g D W i j
 |ret v=>exact q
 |brk=>exact q
 |cont=>exact q
theorem Ej:PY X [] (Ac bf):=λ_ _ σ H _ _ I h=>pO ⟨σ,H,I,h⟩
theorem IW{c:WB}{a b:List WC}{f:TT}{g i:(St->XK)->TS}(n:PT X.Qx c f)(o:PY X a g)(p:PY X b i):Nl X (.If c a b pos) (Kv f g i):=by
 intro J4 s σ H D W I h;refine wpAny_If<|c6 (n J4 s σ H _ (I.Pa _) h) (λd j e=>?_) λ_ _ z=>dU z;let⟨k,l,m⟩:=e;cases d with
 |true=>exact o J4 j σ k D W l.Ou m
 |false=>exact p J4 j σ k D W l.Ou m
def LK(te:XK->TE):(St->XK)->TS:=λW D σ H=>te (W σ) σ H λv H1=>D.rt v H1
def Fx(wi:TI)(g:TG)(tb:(St->XK)->TS):(St->XK)->TS:=λW=>fF wi g<|tb W
theorem Lp.D8(h:Lp X (J4++g) W e f):Lp X J4 W e f:=by
 obtain⟨n,a,C,i,σ',j,k,y,I,l,q⟩:=h;exact⟨n,a,C,i,σ',j,k,⟨y.s0,y.loc,y.cell,λp m=>y.pin p (by obtain z|z:=bp.mp m;exact ej _ z;exact cE _<|ej _ z)⟩,I.D8,l,q⟩
theorem Ek(hc:X.calm=true)(hi:PI X.Qx tg j wi)(hg:PG X.Qx tg g)(k:PY X B tb)(hs:∀x,tH j X.env x=pure x:=by intro _;rfl)(st:X.stack=X.env::X.outer:=by rfl)(sf:X.env.frame=pe X.env.locals:=by rfl):Nl X (.For tg j B [] pos) (Fx wi g tb):=by
 intro J4 s σ H D E I h;have M:Bs (model X.prog X.w) X.A X.env (Lp X J4 E):=vk st sf;refine wpAny_For (c6 (hi J4 s σ H _ (I.Pa _) h) (λv s1 h1=>c6 h1 (λaT s2 h2=>?_) λ_ _ z=>dU z) λ_ _ z=>dU z) hs;let⟨it,L,tn,J,H2,e,ab,T,al,an,W,⟨m0,w0⟩,turn⟩:=h2;subst e;have I2:=ab.Ou;have f2:∀b∈L,lK X J4 H2 b:=an;have l:∀{y:Hp},(∀b∈L,y b=none)->∀b∈L,lK X J4 y b:=λhn b k=>⟨hn b k,(f2 b k).2⟩;refine codeAny_forLoop_any (λn s'=>∃i σ' y,Inv X J4 σ' y s'/\tn i s'.heap/\(∀b∈L,y b=none)/\W i n σ' y) ?_ m0 ⟨0,σ,H2,I2,al,λb k=>(f2 b k).1,w0⟩;rintro n s3 ⟨i,σ3,Y,I3,O,Q,w3⟩;obtain⟨stop,qn⟩|⟨go,N,hN,step⟩:=turn i n σ3 Y w3
 .refine iy M<|c6 (T.done X rfl rfl rfl hc i J4 s3 σ3 Y _ I3 (l Q) O stop) (λr s4 a=>?_) λ_ _ z=>z;let⟨hr,I4⟩:=a;subst hr;exact pO ⟨σ3,Y,I4,qn⟩
 .refine iy M<|c6 (T.item X rfl rfl rfl hc i J4 s3 σ3 Y _ I3 (l Q) O go) (λr s4 a=>?_) λ_ _ z=>z;let⟨u,hr,h4⟩:=a;subst hr;refine iy M<|c6 h4 (λ_ s5 a=>?_) λ_ _ z=>z;let⟨x,H5,I5,r5,y5,G,as⟩:=a;have aC:=I5.pinned (l as)<|T.obj _ _ G;refine iy M<|c6 (hg _ s5 σ3 H5 x u _ (aC.Pa _) r5<|step x H5 y5) (λ_ s6 a=>?_) λ_ _ z=>dU z;obtain⟨σ6,H6,I6,q6⟩:=a;refine iy M<|c6 (k _ s6 σ6 H6 _ E I6.Ou q6) (λf s7 C=>?_) λ_ _ z=>z.D8;have again:∀{σ7:St}{p:Hp},Inv X (J4++o_ L s5.heap) σ7 p s7->N σ7 p->∃m,m<n/\∃i σ' y,Inv X J4 σ' y s7/\tn i s7.heap/\(∀b∈L,y b=none)/\W i m σ' y:=fun{σ7 p} q U=>by
   let⟨m',hm,w7⟩:=hN σ7 p U;apply⟨m',hm,i+1,σ7,p,q.D8,T.keep _ _ _ G λb k o e=>(q.pin (b,o)<|cE _<|cE _<|ft k e).1,λb k=>?_,w7⟩;let⟨o,e,d⟩:=T.obj _ _ G b k;exact(q.pin (b,o)<|cE _<|cE _<|ft k e).2.1
  cases f with
  |next=>obtain⟨σ7,p,q,U⟩:=C;exact again q U
  |cont=>obtain⟨σ7,p,q,U⟩:=C;exact again q U
  |brk=>obtain⟨σ7,p,q,C⟩:=C;exact⟨σ7,p,q.D8,C⟩
  |ret v=>obtain⟨x7,σ7,p,q,r7,C⟩:=C;exact⟨x7,σ7,p,q.D8,r7,C⟩
theorem KU(o:PY X g m)(p:PH X (k::l) i)(st:X.stack=X.env::X.outer:=by rfl)(r:X.env.frame=pe X.env.locals:=by rfl):
  PS X (.Try g (k::l) [] [] pos) (Nv m i):=by
 intro J4 s σ H D I h;refine wpAny_Try_except<|c6 (o J4 s σ H D (i D) I h) (λf w q=>?_) λe w ⟨n,a,C,x,σ',z,A,y,B,E,q⟩=>?_
 .cases f with
  |next=>exact pO q
  |ret v=>exact q
  |brk=>exact q
  |cont=>exact q
 .subst A;exact Fl B y st r E λG J j=>p J4 _ G σ' z D a C x J y j q
end
theorem sK{K:Za}(h:PY (xD (Ml P w K) P w K l base N i scope f cd A outer m o E) b t):A9 (xD (Ml P w K) P w K l base N i scope f cd A outer m o E) b (t λ_=>E):=by
 intro p s σ H D I q;refine c6 (h p s σ H D (λ_=>E) I q) (λ_ _ z=>z) λe J k=>?_;obtain⟨n,a,C,r,σ',u,v,y,x,B,q⟩:=k;subst v;show wpAny _ _ _ _ _ _;unfold leaving;exact ap<|Fl x y rfl rfl B λG g j=>⟨a,C,r,u,pw,g.os,g.bare,g.base,g.A0,j.mono y.s0,q⟩
section
variable{X:Cx}{k:Nat}{ps:Zb}{sp:Sp}{x m:WD}{C:Wv}{p pos J6:Pos}{o e:WB}{es:List WB}{t:TA}{ta:TE}
theorem ME(f:Nm X e a):M9 X (.Return (pe e) pos) (LK a):=by
 intro g s σ H D W I h;exact wpAny_Return_some<|c6 (f g s σ H _ (W σ) I h) (λv q ⟨x,i,j,l,n⟩=>⟨x,σ,i,j,l,n⟩) λ_ _ z=>z.xs
end
def LH:WB->List WD
 |.Name x _=>[x]
 |.Tuple es _ _=>es.filterMap λe=>match e with | .Name x _=>pe x|_=>none
 |_=>[]
theorem bK(r:t D σ H)(p:A9 X b t):∃t,A9 X b t/\t D σ H:=⟨t,p,r⟩
section
variable{X:Cx}{k k0:Nat}{ps:Zb}{sp:Sp}{x m:WD}{C:Wv}{p pos J6:Pos}{o e a b:WB}{es:List WB}{t:TA}{ta tb te:TE}
theorem qf(h:eG k0 X.A)(D:g6 X.prog X.w X.K X.mg X.base x ps k sp)(i:PA X (e::es) t)(j:k<=k0:=by decide)(l:Gl X x:=by rfl)(f:(x==("__debug__":WD))=false:=by decide)
  (n:aK (e::es) X.env=(false,eval e X.env)::aK es X.env:=by rfl) (g:(backTo pos<|aK es X.env).any (·.1)=false:=by rfl) :
  PE X (.Call (.Name x p) (e::es) [] pos) (aI sp t):=Jf D (h.mono j) l i f n g
theorem qm{pl:Sem Bool}(j:eG k0 X.A)(M:Ka X.prog X.w X.K X.mg X.base C m ps k sp)(l:PE X o ta)(n:PA X (e::es) t)(q:k<=k0:=by decide)
  (g:aK (e::es) X.env=(false,eval e X.env)::aK es X.env:=by rfl) (h:(backTo pos<|aK es X.env).any (·.1)=false:=by rfl)
  (r:eval (.Call (.Attribute o m J6) (e::es) [] pos) X.env=(do
   let i <- eval o X.env
   pQ J6.atName
   let(f,first) <- kr [i] (pM i m pl)
   oM pos f first (backTo pos<|aK (e::es) X.env) (k_ pos<|k9 [] X.env)):=by rfl) :
  PE X (.Call (.Attribute o m J6) (e::es) [] pos) (gy C m sp [] E0 ta t):=MN (pl:=pl) M (j.mono q) l n g h r
theorem KR{pl:Sem Bool}(h:eG k0 X.A)(M:Ka X.prog X.w X.K X.mg X.base C m ps k sp)(i:PE X o ta)(j:k<=k0:=by decide)
  (l:eval (.Call (.Attribute o m J6) [] [] pos) X.env=(do
   let g <- eval o X.env
   pQ J6.atName
   let(f,first) <- kr [g] (pM g m pl)
   oM pos f first (backTo pos<|aK [] X.env) (k_ pos<|k9 [] X.env)):=by rfl) :
  PE X (.Call (.Attribute o m J6) [] [] pos) (gy C m sp [] E0 ta bx):=KZ (pl:=pl) M (h.mono j) i l
theorem xl(f:PE X a ta)(g:PE X b tb)(h:HF b:=by exact λ_ _=>rfl):PE X (.Subscript a b pos) (aD (cg X.K) ta tb):=FI FS f g h
theorem xt(f:PE X a ta)(g:PE X b tb)(h:HF b:=by exact λ_ _=>rfl):PE X (.Subscript a b pos) (aD (cu X.K) ta tb):=FI Jy f g h
theorem xq(f:PE X a ta)(g:PE X b tb)(h:HF b:=by exact λ_ _=>rfl):PE X (.Subscript a b pos) (aD (pK X.K) ta tb):=FI MR f g h
theorem Tq(f:PE X a ta)(g:PE X b tb)(h:HF b:=by exact λ_ _=>rfl):PE X (.Subscript a b pos) (aD IS ta tb):=FI Jz f g h
theorem g8(g:oq X (fV f) r)(h:PE X a ta)(i:PE X b tb)(j:lV f b=false:=by exact Jk _):PT X (.Compare a [f] [b] pos) (aQ<|aD r ta tb):=FF g h i j
theorem Dj(g:oq X (fV f) r)(h:PE X a ta)(i:PE X b tb)(j:lV f b=false:=by exact Jk _):PE X (.Compare a [f] [b] pos) (aD r ta tb):=FJ g h i j
theorem LI(g:oq X (fV f) r)(h:PE X a ta)(i:PE X b tb)(j:lV f b=false:=by with_unfolding_all rfl):PT X (.Compare a [f] [b] pos) (aQ<|aD r ta tb):=FF g h i j
theorem VD(g:oq X (fV f) r)(h:PE X a ta)(i:PE X b tb)(j:lV f b=false:=by with_unfolding_all rfl):PE X (.Compare a [f] [b] pos) (aD r ta tb):=FJ g h i j
theorem qB{id:String}{r:List V->Hp->VK->Prop}(h:fB X (.builtin id) r)(i:X.mg x=none)(j:iM x=pe (.builtin id))(l:PA X (e::es) t)(n:Gl X x:=by rfl)(q:x≠"__name__":=by decide)(f:(x==("__debug__":WD))=false:=by decide)
  (s:aK (e::es) X.env=(false,eval e X.env)::aK es X.env:=by rfl) (g:(backTo pos<|aK es X.env).any (·.1)=false:=by rfl):PE X (.Call (.Name x p) (e::es) [] pos) (dj r t):=Ch h n i j l q f s g
theorem qL(g:X.calm=true)(h:X.mg "list"=none)(i:PA X (e::es) t)(j:Gl X "list":=by rfl)
  (l:aK (e::es) X.env=(false,eval e X.env)::aK es X.env:=by rfl) (f:(backTo pos<|aK es X.env).any (·.1)=false:=by rfl):PE X (.Call (.Name "list" p) (e::es) [] pos) (dj (eh X.K) t):=kI (EJ g) j h ww i WE WE l f
theorem ql(g:X.mg "len"=none)(h:PA X (e::es) t)(i:Gl X "len":=by rfl)
  (j:aK (e::es) X.env=(false,eval e X.env)::aK es X.env:=by rfl) (f:(backTo pos<|aK es X.env).any (·.1)=false:=by rfl):PE X (.Call (.Name "len" p) (e::es) [] pos) (dj (dg X.K) t):=Ch yO i g PySem.boot_len h WE WE j f
theorem qs(i:Nat)(g:X.N.Nodup)(h:PE X e te)(hi:X.N[i]?=pe x:=by rfl)(hx:Loc X.env.scope x:=by first|exact Or.inl rfl|exact Or.inr rfl)(j:pN e (pe<|.Name x f) pos.line X.env=pure false:=by rfl)(hf:X.fn x=true∨X.env.scope.names.lookup x=pe .local:=by first|exact .inl rfl|exact .inr rfl|assumption):
  PS X (.Assign [.Name x f] e pos) (aL te<|fc i):=MF g hi hx h j hf
theorem gn(i:Nat)(f:X.N.Nodup)(hi:X.N[i]?=pe x:=by rfl)(hx:Loc X.env.scope x:=by first|exact Or.inl rfl|exact Or.inr rfl)(hf:X.fn x=true∨X.env.scope.names.lookup x=pe .local:=by first|exact .inl rfl|exact .inr rfl|assumption):PG X (.Name x pos) (fc i):=qI f hi hx hf
theorem gc(i:Nat)(f:X.N.Nodup:=by exact of_decide_eq_true (by with_unfolding_all rfl))(hi:X.N[i]?=pe x:=by rfl)(hx:Loc X.env.scope x:=by exact Or.inl rfl)(hf:X.fn x=true∨X.env.scope.names.lookup x=pe .local:=by first|exact .inl rfl|exact .inr rfl|assumption):PG X (.Name x pos) (fc i):=qI f hi hx hf
theorem a1(f:PE X a ta)(g:aK [a] X.env=(false,eval a X.env)::aK [] X.env:=by rfl):PA X [a] (aq ta bx):=aW f c_ g
theorem a2(g:PE X a ta)(h:PE X b tb)(i:aK [a,b] X.env=(false,eval a X.env)::aK [b] X.env:=by rfl)(f:aK [b] X.env=(false,eval b X.env)::aK [] X.env:=by rfl):PA X [a,b] (aq ta<|aq tb bx):=aW g (aW h c_ f) i
theorem a3(i:PE X a ta)(j:PE X b tb)(l:PE X c h)(n:aK [a,b,c] X.env=(false,eval a X.env)::aK [b,c] X.env:=by rfl)(f:aK [b,c] X.env=(false,eval b X.env)::aK [c] X.env:=by rfl)(g:aK [c] X.env=(false,eval c X.env)::aK [] X.env:=by rfl):PA X [a,b,c] (aq ta<|aq tb<|aq h bx):=aW i (a2 j l f g) n
variable{elt iter tg:WB}{ifs:List WB}{scope:Scope}{fi:List Nat}{wi:TI}{g:TG}{tc:TT}
theorem qc(hi:PI X tg iter wi)(q:A_ k g)
  (h:∀C l f j ex n,PG (dQ X (LH tg++fi.map λi=>X.N.getD i "") scope C l f j ex n) tg g/\Lx (dQ X (LH tg++fi.map λi=>X.N.getD i "") scope C l f j ex n) ifs tc/\PE (dQ X (LH tg++fi.map λi=>X.N.getD i "") scope C l f j ex n) elt te)
  (r:lI X.env.scope scope k (LH tg++fi.map λi=>X.N.getD i "") X.N fi=true:=by with_unfolding_all rfl) (s:X.calm=true:=by rfl)
  (u:∀x,tH iter X.env x=pure x:=by intro _;rfl):PE X (.ListComp elt [⟨tg,iter,ifs,0⟩] scope pos) (dE k fi wi g tc te) :=
 K3 r s hi (λ_ _ _ _ _ _=>(h _ _ _ _ _ _).1) q (λ_ _ _ _ _ _=>(h _ _ _ _ _ _).2.1) (λ_ _ _ _ _ _=>(h _ _ _ _ _ _).2.2) u
theorem NE(j:Nat)(v:X.N.Nodup)(hi:PI X tg iter wi)(w:A_ k g)(h:∀C q f l ex r,PG (dQ X (LH tg++fi.map λi=>X.N.getD i "") scope C q f l ex r) tg g/\Lx (dQ X (LH tg++fi.map λi=>X.N.getD i "") scope C q f l ex r) ifs tc/\PE (dQ X (LH tg++fi.map λi=>X.N.getD i "") scope C q f l ex r) elt te)(z:X.N[j]?=pe y:=by rfl)(A:Loc X.env.scope y:=by first|exact Or.inl rfl|exact Or.inr rfl)(B:lI X.env.scope scope k (LH tg++fi.map λi=>X.N.getD i "") X.N fi=true:=by with_unfolding_all rfl)(D:X.calm=true:=by rfl)(s:pN (.ListComp elt [⟨tg,iter,ifs,0⟩] scope pos) (pe<|.Name y u) n.line X.env=pure true:=by rfl)(E:∀x,tH iter X.env x=pure x:=by intro _;rfl)(hf:X.fn y=true∨X.env.scope.names.lookup y=pe .local:=by first|exact .inl rfl|exact .inr rfl|assumption) :
  PS X (.Assign [.Name y u] (.ListComp elt [⟨tg,iter,ifs,0⟩] scope pos) n) (aL (dE k fi wi g tc te)<|fc j) :=
 El v z A B D hi (λ_ _ _ _ _ _=>(h _ _ _ _ _ _).1) w (λ_ _ _ _ _ _=>(h _ _ _ _ _ _).2.1) (λ_ _ _ _ _ _=>(h _ _ _ _ _ _).2.2) s E hf
end
def FC(K:Za):List V->Hp->VK->Prop:=λxs H Q=>∃(a C t:Wv) (od:Option Wv) (Ds:Ze) (b:Bool),xs=[.ref a,.ref t]/\H t=pe (.tup<|Ds.map V.ref)/\H a=pe (.ext<|gk a C od) /\
 (od=none∨∃d fs,od=pe d/\H d=pe (.ext<|gB d fs))/\Nf K C/\oB K (.ref C) (Ds.map Value.ref)=pe b/\Q (.bl b) H
theorem xQ:∀{a:Ze}{e:Zf},bg (a.map V.ref) e->e=a.map Value.ref
 |[],_,h=>by cases h;rfl
 |d::i,_,h=>by
  cases h with
  |cons f g =>
   have:=xQ g;rw[this];cases(show _=Value.ref d from f)
   rfl
theorem sY:fB X (.builtin "isinstance") (FC X.K):=by
 intro G s σ H xs J Q I r h;let⟨a,C,t,L,M,b,rfl,m,p,u,k,e,q⟩:=h;let⟨N,O,rfl,v,x⟩:=vals2 r;cases v;cases x;let⟨T,g,_⟩:=I.exc p;have inst:∃y f,PySem.W.InstAt s.heap a y C f:=by
  obtain rfl|⟨d,fs,rfl,i⟩:=u
  .exact⟨_,_,zV g⟩
  .obtain⟨_,⟨o,j⟩,_⟩:=(show cv X.prog X.w X.K H s.heap d (.ext<|gB d fs)from I.A0 d _ i);exact⟨_,_,zW g j⟩
 let⟨A,B,⟨o,j,D,n,l⟩,_⟩:=I.tuple<|bj.of m;rw[xQ B]at l;let⟨U,E,dt,Y⟩:=o;cases D;cases l;exact PySem.W.kia_tup (CB k) I.OF inst j e (λz=>nomatch z) λtk=>⟨.bl b,H,I.tok _,pw,q⟩
theorem yk{K:Za}:∀{a:Zf},(∀c∈a,l_ K t c=pe false)->oB K t a=pe false
 |[],_=>rfl
 |c::r,h=>by
  unfold oB;rw[h c cF];exact yk λd e=>h d<|de _ e
def Nc(d:Wv)(o:Obj)(kvs:List<|cD×V):It :=
 ⟨λi H=>H d=pe (.PF o<|.dK kvs)/\i<kvs.length,λi H x H'=>H'=H/\∃kv,kvs[i]?=pe kv/\x=kV kv.1,λi H=>H d=pe (.PF o<|.dK kvs)/\kvs.length<=i⟩
theorem MQ(h:dZ k v=true):RelV (kV k) v:=by
 obtain⟨i,t,rfl,rfl⟩|⟨i,t,rfl,rfl⟩:=aJ h
 .exact⟨t,pw⟩
 .exact⟨t,pw⟩
theorem Hd{α β:Type}{F:α->β->Prop}{e:List α}{f:List β}(g:Paired F e f){i:Nat}{a:α}{b:β}(h:e[i]?=pe a)(j:f[i]?=pe b):F a b:=by
 induction g generalizing i with
 |nil=>cases h
 |cons r _ k =>
  cases i with
  |zero=>injection h with h;injection j with j;subst h j;exact r
  |succ i=>exact k h j
theorem v8{K:Za}(l:lY P w K H h)(e:H d=pe (.PF o<|.dK a))(p:o.data=.dict k n):
  (d==jC)=false/\∃j,KV a j/\h.DictAt (cp P w) d j n:=by
 let⟨g,_,f,j,m,s⟩:=(show cv P w K H h d (.PF o<|.dK a)from l d _ e);let⟨t,v,x,i,u,q,r⟩:=s.dictAt;rw[g]at i;cases i;rw[p]at q;cases q;exact⟨f,j,m,o,_,g,u,p,r⟩
theorem Gs{P:bI}{w:Wy}{K:Za}{Y:WB}(d it:Wv)(o:Obj)(a:List<|cD×V){r:Array DictEntry}{N:Nat}(O:o.data=.dict r N):uk P w K Y (Nc d o a) [it] it (λi h=>h.IsKeyIter it d i a.length N) where
 mem:=by simp
 obj:=λi h st b g=>by
  have e:b=it:=by simpa using g
  subst e;let⟨o,e,c,d⟩:=st;exact⟨o,e,λv z=>by rw[d]at z;cases z⟩
 keep:=λi h p st k=>by
  let⟨Q,e,c⟩:=st;exact⟨Q,k it ∅ Q e,c⟩
 item:=by
  intro X t u x T i U s σ H E I hf st y;subst t u x;let⟨hd,hi⟩:=y;let⟨m,l,f,A⟩:=v8 I.A0 hd O;have q:=f.length;let⟨B,C,f2,D,G,J⟩:=hf it ∅;have L:i<l.length:=by nofun
  have hx:l[i]?=pe (l[i].1,l[i].2):=by simp[L]
  rw[q]at st;refine wpAny_pyNext_dict_item st A hx λM p hk j sb=>?_;have I1:Inv X U σ H {s with heap:=p}:=I.turned (t':=s.toks) (λb o g e=>(sb.2 b g).trans e) B C D G J;let⟨oi,e,c,dd⟩:=id j;have n:a[i]?=pe a[i]:=by simp[hi]
  have ek:a[i].1=l[i].1:=(Hd f n hx).1;rw[<-q]at j;exact⟨M,pw,v6 (s:={s with heap:=p}) e c dd WE ⟨kV a[i].1,H,I1,MQ (by rw[ek];exact hk),⟨pw,a[i],n,pw⟩,j,λb g=>(hf b g).1⟩⟩
 done:=by
  intro X t u x T i U s σ H E I hf st y;subst t u x;let⟨hd,hi⟩:=y;let⟨m,l,f,A⟩:=v8 I.A0 hd O;have q:=f.length;let⟨B,C,f2,D,G,J⟩:=hf it ∅;rw[q]at st;exact wpAny_pyNext_dict_end (I.ok.hd T) st A (by simp;nofun) λp eb=>⟨pw,I.turned (t':=s.toks) (λb o g e=>eb b o g e) B C D G J⟩
 self:=λ_ _ _ _ _ st h=>wpAny_pyIter_keyiter st h
def LZ(tl:TE):TI:=fun σ H R=>tl σ H λx H1=>∃d kvs,x=.ref d /\
 ((H1 d=pe (.dK kvs)/\∀o,R (Nc d o kvs)<|upd H1 d<|.PF o<|.dK kvs)∨∃o,H1 d=pe (.PF o<|.dK kvs)/\R (Nc d o kvs) H1)
theorem JF{K:Za}(x:cv P w K H h d<|.PF o<|.dK e):∃f i,o.data=.dict f i:=by
 let⟨g,_,_,m,_,j⟩:=x;let⟨k,n,p,a,q,l,r⟩:=j.dictAt;rw[g]at a;cases a;exact⟨_,_,l⟩
theorem KY(p:PE X l C):PI X B l (LZ C):=by
 intro n s σ H R I h;refine cQ (p n s σ H _ I h) λv s1 t=>?_;let⟨x,u,y,G,J⟩:=t;let⟨d,a,e,q⟩:=J;subst e;cases G;have g:∀(k:Hp) (o:Obj),Inv X n σ k s1->k d=pe (.PF o<|.dK a)->R (Nc d o a) k->wpAny (model X.prog X.w) X.A (pyIter<|.ref d) (Oh X n σ B R) X.xe s1:=by
  intro k o i e q;let⟨L,M,m⟩:=JF<|i.A0 d _ e;let⟨f,D,j,N⟩:=v8 i.A0 e m;have p:=j.length;refine wpAny_pyIter_dict f N ?_;apply⟨↑s1,[↑s1],_,_,k,pw,i.kept (t':=s1.toks) λb o e=>bc _ e,Gs d _ o a m,?_,λb O=>?_,q⟩
  .rw[p];exact⟨_,dS _ rfl,pw,pw⟩
  .have e:b=↑s1:=by simpa using O
   subst e;exact i.QY (aB _)<|i.A0.fresh<|aB _
 obtain⟨e,q⟩|⟨o,e,q⟩:=q
 .obtain⟨z,f,D,j,E⟩:=(show cv X.prog X.w X.K u s1.heap d (.dK a)from y.A0 d _ e);let⟨M,o,Q,m,r⟩:=id E.dictAt;have i:Inv X n σ (upd u d<|.PF o<|.dK a) {s1 with heap:=s1.heap,toks:=s1.toks} :=
   y.write (x:=d) (e:=d) (t':=s1.toks) (by rw[e];trivial) (.inl rfl) (λ_ _ _ q=>q) ⟨o,m⟩ ⟨m,z,f,D,j,E⟩
  exact g _ o i aa<|q o
 .exact g u o y e q
abbrev LQ(K:Za):List V->Hp->VK->Prop:=λxs H Q=>dg K xs H Q∨∃(d:Wv) (kvs:List<|cD×V),xs=[.ref d]/\Rd H d (.dK kvs)/\Q (.int kvs.length) H
theorem HC:fB X (.builtin "len") (LQ X.K):=by
 refine yO.or ?_;intro i s σ H xs j Q I r h;let⟨d,a,rfl,e,q⟩:=h;let⟨u,rfl,f⟩:=vals1 r;cases f;exact NU I e λt k g=>⟨.int a.length,H,g,⟨t,pw⟩,q⟩
end L2
end

section
set_option Elab.async false
set_option linter.all false
set_option maxRecDepth 100000
namespace L2
open PySem Spec PyProof.Rows
abbrev ND:List V->Hp->VK->Prop:=λxs H Q=>∃i j,xs=[.int i,.int j]/\Q (.int<|if j > i then j else i) H
end L2
end

section
set_option Elab.async false
set_option linter.all false
set_option maxRecDepth 100000
namespace HT
open PySem Spec PyProof.Rows
end HT
namespace L2
open PySem Spec PyProof.Rows
end L2
namespace HT
open PySem Spec PyProof.Rows
section
variable{prog:bI}{w:Wy}{A:Wz}{E:Zc}{s:Ww}
theorem P6{t e:Wv}{items:Array Wx}{f g:Wx}{lo hi:Option Int}{Q:Zc}(a:IsTup s.heap t items)(i:s.heap.IsSliceOf e f g .none)(j:IsPart f lo)(k:IsPart g hi)
  (l:Hx items.size 0 lo=0) (m:Hx items.size items.size hi=items.size) (h:Q (.ref t) s):wpAny (model prog w) A (i_ (.ref t)<|.ref e) Q E s:=by
 let⟨os,n,o,p⟩:=id i;have ty:s.TypeIs (.ref e) "slice":=⟨os,n,o⟩;unfold i_
 try with_reducible refine iN ?_
 first|refine ap (aR ?_)|skip
 refine ap <| wpAny_sequenceKey a.typeIs WE <| ?_;refine ap <| r8 (name:=rZ "__getitem__") a.typeIs rY <| Bp rY a.typeIs entry_tuple_getitem ?_ (args_tuple_getitem _ _);show wpAny _ _ (bW.Tuple.tupleItemsOf (.ref t) >>= _) _ _ s;refine ap <| tupleItemsOf_ a <| ap <| rX ty <| ?_;rw[if_pos WE];refine ap <| O3 i j k ?_;rw[l,m];show wpAny _ _ (if(((0:Nat):Int)==0 && (1:Int)==1 && (items.size-0)==items.size)=true then _ else _) _ _ s
 rw[if_pos ∅];unfold bW.Tuple.tupleIsExact;refine ap <| ap <| rX a.typeIs <| aR ?_;rw[if_pos WE];exact ap<|pT<|aR ⟨_,pw,aR h⟩
end
end HT
namespace L2
open PySem Spec PyProof.Rows
def NB(K:Za):V->Option Int->Option Int->Hp->VK->Prop:=λx lo hi H Q=>∃a xs,x=.ref a/\bj K H a xs/\HT.Hx xs.length 0 lo=0/\HT.Hx xs.length xs.length hi=xs.length/\Q (.ref a) H
theorem Iy:JZ X (NB X.K):=by
 intro o s σ H x v p t lo hi u Q I i j k l h;let⟨a,xs,rfl,hx,m,n,q⟩:=h;cases i;let⟨f,r,g,w⟩:=I.tuple hx;have e:f.toArray.size=xs.length:=by rw[bM];exact r.length.symm
 exact⟨"tuple",_,rY.lookup,g.typeIs,HT.P6 g j k l (by rw[e];exact m) (by rw[e];exact n) ⟨.ref a,H,I,pw,q⟩⟩
abbrev MB(K:Za):V->Option Int->Option Int->Hp->VK->Prop:=λx lo hi H Q=>NC K x lo hi H Q∨NB K x lo hi H Q
theorem Fy:JZ X (MB X.K):=JZ.or Mu Iy
end L2
end

section
set_option Elab.async false
set_option linter.all false
set_option maxRecDepth 100000
namespace L2
open PySem Spec PyProof.Rows
def Kc(K:Za)(a:Wv)(n:Nat):It :=
 ⟨λi H=>i<n/\∃xs,aA K H a xs/\xs.length=n,λi H x H'=>H'=H/\∀xs,aA K H a xs->xs[n-1-i]?=pe x,λi _=>n<=i⟩
def NQ(K:Za)(ta:TA):TI:=fun σ H R=>ta σ H λvs H1=>∃a xs,vs=[.ref a]/\aA K H1 a xs/\R (Kc K a xs.length) H1
theorem Le{K:Za}{a:Wv}{xs:List V}{g:TG}{j:TS}{D:gm}{σ:St}{H:Hp}(Pv:Nat->St->Hp->Prop)(l:Pv 0 σ H)(n:∀i σ H,i<=xs.length->Pv i σ H->aA K H a xs)
  (o:∀i x σ H,xs[xs.length-1-i]?=pe x->i<xs.length->Pv i σ H->g x σ H fun σ2 h=>j {D with nx:=Pv<|i+1,ct:=Pv<|i+1,bk:=D.nx} σ2 h) (r:∀σ H,Pv xs.length σ H->D.nx σ H) :
  ∃W:Nat->Nat->St->Hp->Prop,(∃m,W 0 m σ H)/\∀i m σ H,W i m σ H ->
   ((Kc K a xs.length).stop i H/\D.nx σ H)∨((Kc K a xs.length).go i H/\∃N:St->Hp->Prop,(∀σ' f,N σ' f->∃k,k<m/\W (i+1) k σ' f)/\∀x f,(Kc K a xs.length).Sq i H x f->g x σ f fun σ2 h=>j {D with nx:=N,ct:=N,bk:=D.nx} σ2 h):=by
 apply⟨λi m σ H=>m=xs.length-i/\i<=xs.length/\Pv i σ H,⟨xs.length,by simp,cw _,l⟩,?_⟩;rintro i m σ H ⟨rfl,hi,p⟩;have q:=n i σ H hi p;by_cases lt:i<xs.length
 .refine .inr ⟨⟨lt,xs,q,pw⟩,Pv<|i+1,fun σ' f s=>⟨xs.length-(i+1),by nofun,pw,lt,s⟩,λx f y=>?_⟩;let⟨rfl,y⟩:=y;exact o i x σ _ (y xs q) lt p
 .have e:i=xs.length:=by nofun
  subst e;exact .inl ⟨aB _,r σ H p⟩
theorem wv:iM "reversed"=pe (.type "reversed"):=by decide +kernel
section
variable{X:Cx}
theorem Ik{P:bI}{w:Wy}{K:Za}{O:WB}(a it:Wv)(n:Nat):uk P w K O (Kc K a n) [it] it (λi h=>i<=n/\h.IsRevIter it a ((n:Int)-1-(i:Int))) where
 mem:=by simp
 obj:=λi h st b g=>by
  have e:b=it:=by simpa using g
  subst e;let⟨_,o,e,c,d⟩:=st;exact⟨o,e,λv z=>by rw[d]at z;cases z⟩
 keep:=λi h l st k=>⟨st.1,st.2.at λo e=>k it ∅ o e⟩
 item:=by
  intro X q r t J i L s σ H E I hf st m;subst q r t;let⟨hi,xs,M,hx⟩:=m;let⟨Q,N,p,hz⟩:=I.list M;have hl:=N.length;obtain⟨x,ex⟩:∃x,xs[n-1-i]?=pe x:=⟨_,dH ⋯⟩;let⟨u,T,U⟩:=N.get ex;let⟨y,A,Y,B,C,D⟩:=hf it ∅;have G:(n:Int)-1-(i:Int)=((n-1-i:Nat):Int):=by nofun
  have f:=st.2;rw[G]at f;refine wpAny_pyNext_rev_item f p.isList (x:=u) (by simpa using T) λl j sb=>?_;have I1:Inv X L σ H {s with heap:=l}:=I.turned (t':=s.toks) (λb o g e=>(sb.2 b g).trans e) y A B C D;have e2:((n-1-i:Nat):Int)-1=(n:Int)-1-((i+1:Nat):Int):=by nofun
  rw[e2]at j;let⟨o,e,c,d⟩:=id j;exact⟨u,pw,v6 (s:={s with heap:=l}) e c d WE ⟨x,H,I1,U,⟨pw,λys hy=>by rw[I.Pp hy M];exact ex⟩,⟨hi,j⟩,λb g=>(hf b g).1⟩⟩
 done:=by
  intro X q r t J i L s σ H E I hf st m;subst q r t;let⟨y,A,Y,B,C,D⟩:=hf it ∅;have m:n<=i:=m;have G:(n:Int)-1-(i:Int)=-1:=by have:=st.1;nofun
  have f:=st.2;rw[G]at f;exact wpAny_pyNext_rev_end (I.ok.hd J) f λl eb=>⟨pw,I.turned (t':=s.toks) (λb o g e=>eb b o g e) y A B C D⟩
 self:=λ_ _ _ _ _ st h=>wpAny_pyIter_revIter st.2 h
variable{tg l:WB}{ta:TA}{p pos:Pos}
theorem MJ(r:Gl X "reversed")(t:X.mg "reversed"=none)(v:PA X [l] ta)(w:aK [l] X.env=[(false,eval l X.env)]:=by rfl):PI X tg (.Call (.Name "reversed" p) [l] [] pos) (NQ X.K ta):=by
 intro m s σ H R I h;refine Call_ (pd I r t wv (Br (cQ (v pos m s σ H _ I h) λG s1 i=>?_) (by rw[w];rfl) (by rfl)));let⟨J,n,g,x,y⟩:=i;let⟨a,xs,e,z,q⟩:=y;subst e;let⟨u,rfl,A⟩:=vals1 x;cases A;let⟨j,B,C,L⟩:=g.list z;have D:=B.length;refine call_reversed_list C.isList ?_;have e:((j.toArray.size:Nat):Int)-1=(xs.length:Int)-1-((0:Nat):Int):=by rw[bM,D];nofun
 rw[e];have f:(s1.heap.push<|revObj a<|(xs.length:Int)-1-((0:Nat):Int)).IsRevIter ↑s1 a ((xs.length:Int)-1-((0:Nat):Int)):=⟨_,dS _ rfl,pw,pw⟩;refine wpAny_pyIter_revIter (s:={s1 with heap:=s1.heap.push (revObj a<|(xs.length:Int)-1-((0:Nat):Int))}) f ?_;have k:∀b∈[↑s1],lK X m n b:=λb E=>by
  have e:b=↑s1:=by simpa using E
  subst e;exact g.QY (aB _)<|g.A0.fresh<|aB _
 exact⟨↑s1,[↑s1],_,_,n,pw,g.kept (t':=s1.toks) λb o e=>bc _ e,Ik a _ _,⟨cw _,f⟩,k,q⟩
end
end L2
namespace L2
open PySem Spec PyProof.Rows
theorem yC{f g:Nat->Option Wx}:∀{l:List Nat},(∀m∈l,f m=g m)->l.filterMap f=l.filterMap g
 |[],_=>rfl
 |a::l,h=>by rw[pR,pR,h a cF,yC λm e=>h m<|de _ e]
theorem vM:∀a:List Wx,(kA a.length).filterMap (λm=>a[m]?)=a
 |[]=>rfl
 |y::a=>by
  rw[da,List.range_succ_eq_map,pR,List.filterMap_map];simp only[List.getElem?_cons_zero];congr 1;exact vM a
theorem Ei(n:Nat):u1 ((n:Int)-1) (-1) (-1)=(kA n).map λ(k:Nat)=>((n:Int)-1+(-1) * (k:Int)).toNat:=by
 unfold u1;have e:(if(-1:Int) > 0 then if(n:Int)-1 < -1 then(-1-((n:Int)-1)+-1-1) / -1 else 0 else if(n:Int)-1 > -1 then((n:Int)-1 - -1 - -1-1) / - -1 else 0).toNat=n:=by
  rw[if_neg WE];by_cases h:(n:Int)-1 > -1
  .rw[if_pos h,show((n:Int)-1 - -1 - -1-1)=n by nofun,show(- -1:Int)=1 by decide,Int.ediv_one];nofun
  .rw[if_neg h];nofun
 simp only[e]
theorem xm(xs:Zf):zN xs.toArray none none (pe (-1))=xs.reverse.toArray:=by
 have e:zN xs.toArray none none (pe (-1))=((u1 ((xs.toArray.size:Int)-1) (-1) (-1)).filterMap λm=>xs.toArray[m]?).toArray:=rfl;rw[e,bM,Ei,List.filterMap_map];congr 1;have h:=vM xs.reverse;rw[mj]at h;refine Eq.trans (yC λm a=>?_) h;have lt:=List.mem_range.1 a;have f:((xs.length:Int)-1+(-1) * (m:Int)).toNat=xs.length-1-m:=by nofun
 show xs.toArray[((xs.length:Int)-1+(-1) * (m:Int)).toNat]?=_;rw[f,List.getElem?_reverse lt,List.getElem?_toArray]
def Im(K:Za)(te:TE):TE:=fun σ H Q=>te σ H λx H1=>∃a xs,x=.ref a/\aA K H1 a xs/\∀p,H1 p=none->Q (.ref p) (upd H1 p<|.lst xs.reverse)
theorem FH{X:Cx}{e st:WB}{n:TE}{p k:Pos}(C:PE X e n)(l:PE X st<|LJ (rU λi=>.int (-i))<|tC<|.int 1):PE X (.Subscript e (.Slice none none (pe st) p) k) (Im X.K n):=by
 intro j s σ H Q I h;refine zR<|cQ (C j s σ H _ I h) λv D g=>?_;let⟨x,t,E,G,a,xs,J,hx,q⟩:=g;subst J;cases G;refine wpAny_Slice ?_;rw[evalPart_none];refine aR ?_;refine aR ?_;rw[evalPart_some];refine cQ (l j D σ t (λx L=>x=.int (-1)/\L=t) E ⟨_,pw,pw,pw⟩) λvu f g=>?_;let⟨y,M,N,O,T,U⟩:=g;subst T U;let⟨u,rfl⟩:=O;have m:Inv X j σ M {f with heap:=f.heap.push { cls:=.type "slice",data:=.fields #[.none,.none,.int (-1) u]}}:=N.kept (t':=f.toks) λb Y q=>bc _ q;let⟨ab,r,z,hz⟩:=m.list hx;show wpAny (model X.prog X.w) X.A (zQ e (.Slice none none (pe st) p) (.ref a)<|.ref ↑f) (EP X j σ Q) X.xe {f with heap:=f.heap.push { cls:=.type "slice",data:=.fields #[.none,.none,.int (-1) u]}};have B:=r.length;refine tail_any (ops:=[.ref a,.ref ↑f]) z.isList.typeIs slot_list_getitem.lookup (wpAny_getItem_list_slice z.isList (Heap.IsSliceOf.new ..) .none .none (.int (-1) u) ∅ ?_ (by rw[bM]<;>nofun)) (by with_unfolding_all rfl);rw[xm];apply⟨.ref _,_,m.laid (t':=f.toks) (o:=.lst xs.reverse) (λb Y q=>bc _ q) (aB _) ?_,pw,q _<|m.A0.fresh<|aB _⟩;exact⟨by rw[mj];exact hz,_,0,r.reverse,dS _ rfl⟩
def FE(K:Za):R2:=λx y H Q=>∃a b xs ys,x=.ref a/\y=.ref b/\bj K H a xs/\bj K H b ys/\ys≠[]/\xs.length+ys.length<=ai /\
 (xs=[]->Q (.ref b) H)/\(xs≠[]->∀p,H p=none->Q (.ref p) (upd H p<|.tup<|xs++ys))
section
variable{X:Cx}
theorem FN:oq X (lU .Add) (FE X.K):=by
 intro C s σ H x y v u Q I m o h;let⟨a,b,xs,D,rfl,rfl,p,q,E,G,J,L⟩:=h;by_cases hx:xs=[]
 .cases m;cases o;let⟨j,M,N,_⟩:=I.tuple p;let⟨e,r2,O,_⟩:=I.tuple q;have T:j=[]:=M.Qy.mpr hx;subst T;let⟨⟨cls,U,r,Y⟩,t,w,n,A⟩:=id N;let⟨⟨B,k,data2,l⟩,f,g,n2,i⟩:=id O;simp only at w A g i;subst w A g i;exact concat_meets ⟨_,t,pw⟩ ⟨_,f,pw⟩ noFill_tuple_add seq_tuple_add PySem.F.slot_tuple_add PySem.F.entry_tuple_add (PySem.F.args_tuple_add_2 _ _)
   (tuple_addW0 a b _ e.toArray n n2 U k Y l ∅) ⟨t,f,⟨.ref b,H,I,pw,J hx⟩⟩
 .exact FM C s σ H _ _ v u Q I m o ⟨a,b,xs,D,pw,pw,p,q,hx,G,λz=>absurd z E,λ_=>L hx⟩
end
end L2
end

section
set_option Elab.async false
set_option linter.all false
set_option maxRecDepth 100000
namespace HT
open PySem PyProof.Rows
end HT
namespace L2
open PySem Spec PyProof.Rows
end L2
end

section
set_option Elab.async false
set_option linter.all false
set_option maxRecDepth 100000
namespace HT
open PySem PyProof.Rows
end HT
namespace L2
open PySem Spec PyProof.Rows
end L2
end

section
set_option Elab.async false
set_option linter.all false
set_option maxRecDepth 100000
namespace HT
open PySem PyProof.Rows
section
variable{prog:bI}{w:Wy}{A:Wz}{E:Zc}{s:Ww}
end
end HT
end

section
set_option Elab.async false
set_option linter.all false
set_option maxRecDepth 100000
namespace L2
open PySem Spec PyProof.Rows
end L2
end

section
set_option Elab.async false
set_option linter.all false
set_option maxRecDepth 100000
namespace HT
open PySem PyProof.Rows
end HT
end

section
set_option Elab.async false
set_option linter.all false
set_option maxRecDepth 100000
namespace L2
open PySem Spec PyProof.Rows
section
variable{X:Cx}{J4:Zd}{σ:St}{H:Hp}{s:Ww}{pos:Pos}
def Vp(X:Cx)(tg iter:WB)(wi:XK->TI):Prop :=
 ∀(J4:Zd) (s:Ww) (σ:St) (H:Hp) (R:It->Hp->Prop) (W:XK),Inv X J4 σ H s->wi W σ H R ->
  wpAny (model X.prog X.w) X.A (eval iter X.env) (λv s1=>wpAny (model X.prog X.w) X.A (pyIter v) (Oh X J4 σ tg R) (XE X J4 σ W) s1) (XE X J4 σ W) s
theorem Cf(m:Nm X l j):Vp X k l (λW=>cf X.K<|j W):=by
 intro J4 s σ H R W I h;refine c6 (m J4 s σ H _ W I h) (λv f i=>?_) λ_ _ z=>z;let⟨x,n,g,r,t⟩:=i;let⟨a,e,⟨xs,u⟩,q⟩:=t;subst e;cases r;let⟨w,A,p,B⟩:=g.list u;refine xM p.isList ?_;apply⟨↑f,[↑f],_,_,n,pw,g.kept (t':=f.toks) λb o e=>bc _ e,sk a _,⟨_,dS _ rfl,pw,pw⟩,λb y=>?_,q⟩;have e:b=↑f:=by simpa using y
 subst e;exact g.QY (aB _)<|g.A0.fresh<|aB _
theorem Jc(U:lI X.env.scope scope k N X.N fi=true)(Y:X.calm=true)(hi:Vp X p i L)(hg:∀C l a f ex o,PG (dQ X.Qx N scope C l a f ex o) p g)(ho:A_ k g)(ht:∀C l a f ex o,Lx (dQ X.Qx N scope C l a f ex o) n M)(he:∀C l a f ex o,PE (dQ X.Qx N scope C l a f ex o) m O)(hs:∀x,tH i X.env x=pure x:=by intro _;rfl):Nm X (.ListComp m [⟨p,i,n,0⟩] scope pos) (λW=>dE k fi (L W) g M O):=by
 intro J4 s σ H Q W I h;have S:=m9.of U;let⟨l,j,r,t⟩:=pq (env:=X.env) (scope:=scope) λy hy e=>I.ok.has y.1<|S.fr y hy e;rw[eval_ListComp];refine wpAny_comprehension_free (use:=none) (E:=XE X J4 σ W) rfl hs j S.kind S.nm<|c6 (hi J4 s σ H _ W I h) (λv s1 h1=>c6 h1 (λab s2 h2=>?_) λ_ _ z=>z) λ_ _ z=>z;let⟨it,fp,tn,J,H2,e,I2,T,u,f2,hw⟩:=h2;subst e;refine pp (X:=X.Qx) (RR:=λB C=>compPost (model X.prog X.w) X.A (XE X J4 σ W) none (EP X J4 σ Q) B C) S Y r t hg ho ht he (I2.Pa _) T u f2 hw ?_;intro D C H' s' m' I' hn ce q;exact⟨m',hn,λh' G=>⟨.ref D,H',(ce.turned I' G).Ou,pw,q⟩⟩
def Ip(wi:XK->TI)(g:TG)(tb:(St->XK)->TS):(St->XK)->TS:=λW D σ H=>fF (wi<|W σ) g (tb W) D σ H
theorem KS(hc:X.calm=true)(hi:Vp X Y j wi)(hg:PG X.Qx Y g)(k:PY X y tb)(hs:∀x,tH j X.env x=pure x:=by intro _;rfl)(st:X.stack=X.env::X.outer:=by rfl)(sf:X.env.frame=pe X.env.locals:=by rfl):Nl X (.For Y j y [] pos) (Ip wi g tb):=by
 intro J4 s σ H D E I h;have G:Bs (model X.prog X.w) X.A X.env (Lp X J4 E):=vk st sf;refine wpAny_For (c6 (hi J4 s σ H _ (E σ) I h) (λv s1 h1=>c6 h1 (λas s2 h2=>?_) λ_ _ z=>z.xs.two) λ_ _ z=>z.xs.two) hs;let⟨it,L,tn,J,H2,e,I2,T,ab,f2,W,⟨m0,w0⟩,turn⟩:=h2;subst e;have l:∀{t:Hp},(∀b∈L,t b=none)->∀b∈L,lK X J4 t b:=λhn b k=>⟨hn b k,(f2 b k).2⟩;refine codeAny_forLoop_any (λn s'=>∃i σ' t,Inv X J4 σ' t s'/\tn i s'.heap/\(∀b∈L,t b=none)/\W i n σ' t) ?_ m0 ⟨0,σ,H2,I2,ab,λb k=>(f2 b k).1,w0⟩;rintro n s3 ⟨i,σ3,U,I3,M,O,w3⟩;obtain⟨stop,qn⟩|⟨go,N,hN,step⟩:=turn i n σ3 U w3
 .refine iy G<|c6 (T.done X rfl rfl rfl hc i J4 s3 σ3 U _ I3 (l O) M stop) (λr s4 a=>?_) λ_ _ z=>z;let⟨hr,I4⟩:=a;subst hr;exact pO ⟨σ3,U,I4,qn⟩
 .refine iy G<|c6 (T.item X rfl rfl rfl hc i J4 s3 σ3 U _ I3 (l O) M go) (λr s4 a=>?_) λ_ _ z=>z;let⟨u,hr,h4⟩:=a;subst hr;refine iy G<|c6 h4 (λ_ s5 a=>?_) λ_ _ z=>z;let⟨x,H5,I5,r5,y5,C,al⟩:=a;have an:=I5.pinned (l al)<|T.obj _ _ C;refine iy G<|c6 (hg _ s5 σ3 H5 x u _ (an.Pa _) r5<|step x H5 y5) (λ_ s6 a=>?_) λ_ _ z=>dU z;obtain⟨σ6,H6,I6,q6⟩:=a;refine iy G<|c6 (k _ s6 σ6 H6 _ E I6.Ou q6) (λf s7 B=>?_) λ_ _ z=>z.D8;have again:∀{σ7:St}{p:Hp},Inv X (J4++o_ L s5.heap) σ7 p s7->N σ7 p->∃m,m<n/\∃i σ' t,Inv X J4 σ' t s7/\tn i s7.heap/\(∀b∈L,t b=none)/\W i m σ' t:=fun{σ7 p} q Q=>by
   let⟨m',hm,w7⟩:=hN σ7 p Q;apply⟨m',hm,i+1,σ7,p,q.D8,T.keep _ _ _ C λb k o e=>(q.pin (b,o)<|cE _<|cE _<|ft k e).1,λb k=>?_,w7⟩;let⟨o,e,d⟩:=T.obj _ _ C b k;exact(q.pin (b,o)<|cE _<|cE _<|ft k e).2.1
  cases f with
  |next=>obtain⟨σ7,p,q,Q⟩:=B;exact again q Q
  |cont=>obtain⟨σ7,p,q,Q⟩:=B;exact again q Q
  |brk=>obtain⟨σ7,p,q,B⟩:=B;exact⟨σ7,p,q.D8,B⟩
  |ret v=>obtain⟨x7,σ7,p,q,r7,B⟩:=B;exact⟨x7,σ7,p,q.D8,r7,B⟩
end
end L2
end
set_option Elab.async false
set_option linter.all false
set_option maxRecDepth 100000
set_option maxHeartbeats 4000000
namespace UC
open PySem Spec PyProof.Rows L2
def z7(K:Za):TS :=
 ar (bS (aQ<|aD UT V0<|aD LO (tC<|.int 10)<|tC<|.int 18) (be V0)<|bf)
 (ar (aL (aD jO (aD fh (aD fh (aD mE (aD jO V0<|tC<|.int 1000000007)<|tC<|.int 69069)<|aD mE V1<|tC<|.int 40503)<|tC<|.int 977)<|tC<|.int 2147483629) U2)
 (ar (aL (aD jO (aD fh (aD fh (aD mE V2 V2)<|aD mE V1<|tC<|.int 7919)<|aD jO V0<|tC<|.int 65537)<|tC<|.int 2147483587) U3)
 (ar (aL (aD jO (aD fh (aD fh (aD mE V3 V3)<|aD mE V2<|tC<|.int 31)<|tC<|.int 5)<|tC<|.int 2147483563) U4)
 (be<|aD fh (aD mE (aD fh (aD mE V2<|tC<|.int 2147483659) V3)<|tC<|.int 2147483693) V4))))
def Bd:List WD:=["cell","at","one","two","three"]
def Du(K:Za):TS :=
 ar (aL (dj (eh K)<|av<|Di (vN K) V0 (fE)<|gL<|tC<|.int 12) U1)
 (ar (fF (v4 K<|av<|Di (vN K) V0 (gL<|tC<|.int 12)<|gL<|tC<|.int 63) (gC K 2<|aS U2<|aS U3<|gh)<|aL (aD fh (aD (cg K) V1<|aD jO V2<|tC<|.int 12) V3)<|CH V1 (aD jO V2<|tC<|.int 12) tL)
 (be<|cK<|bY V1 (tC<|.int 0)<|tC<|.int 0))
def ET:List WD:=["script","cells","k","cell"]
def Dy(K:Za):TS :=
 ar (aL (tC<|.int 0)<|CH V0 (tC<|.int 2) tL)
 (be V0)
def EX:List WD:=["pen"]
def Dt(K:Za)(QW:Sp):TS :=
 ar (bS (aQ<|aD G9 (aD (cg K) V0<|tC<|.int 2) V1) (ar (aL (aD (cg K) V0<|tC<|.int 1) U2)
 (ar (aL (tC<|.int 0) U3)
 (ar (bS (aQ<|aD G9 V2<|dj (dg K)<|av<|aD (cg K) V0<|tC<|.int 0) (aL (aD (cg K) (aD (cg K) V0<|tC<|.int 0) V2) U3)<|bS (aQ<|aD G_ (dj (dg K)<|av<|aD (cg K) V0<|tC<|.int 0)<|tC<|.int 0) (aL (aD jO (aD (cg K) (aD (cg K) V0<|tC<|.int 0)<|aD jO (aD fh (aD mE V2<|tC<|.int 5)<|tC<|.int 3)<|dj (dg K)<|av<|aD (cg K) V0<|tC<|.int 0)<|aD fh (aD LO (tC<|.int 10)<|tC<|.int 17) V2) U3)<|bf)
 (ar (aL (aD fh V2<|tC<|.int 1)<|CH V0 (tC<|.int 1) tL)
 (aL (aI QW<|aM V3 V2)<|CH V0 (tC<|.int 2) tL)))))<|bf)
 (ar (aL (aD jO (aD (cg K) V0<|tC<|.int 2) V1) U4)
 (ar (aL (aD IU (aD (cg K) V0<|tC<|.int 2) V1)<|CH V0 (tC<|.int 2) tL)
 (be V4)))
def ES:List WD:=["pen","many","at","cell","found"]
def BC(K:Za)(qa:Sp):TS :=
 ar (aL (tC<|.str "abcdefghijklmnopqrstuvwxyz") U2)
 (ar (aL (Bl K "str" (LR K) (tC<|.str "")<|aq (dE 1 [2,0] (tS<|av<|tC<|.int 7) U0 (jc)<|aD IS V1<|aI qa<|aM V2<|tC<|.int 26) bx) U3)
 (ar (aL (aI qa<|aM V0<|tC<|.int 3) U4)
 (ar (aL (aI qa<|aM V0<|tC<|.int 26) U5)
 (ar (aL (aI qa<|aM V0<|tC<|.int 8) U6)
 (ar (aL (cK<|bx) U7)
 (ar (fF (tS<|av V1) U8 (ar (aL (aD IS V2<|aD jO (aD fh V5<|aD mE (tC<|.int 3) V8)<|tC<|.int 26) U9)
 (ar (aL (Di KO V3 (fE)<|gL<|aD jO (aD fh V6<|aD mE V8<|aD jO V4<|tC<|.int 2)<|tC<|.int 8) Of)
 (ar (aL (aD (cg K) (cK<|bY (tC<|.int 0) (dj (dg K)<|av Ls)<|aD IU (dj (dg K)<|av Ls)<|tC<|.int 2) V4) VL)
 (cy<|Bl K "list" eP V7<|av<|aD LS (aD LS (Di KO Ls (fE)<|gL Vm) V9)<|Di KO Ls (gL Vm)<|fE)))))
 (be V7)))))))
def C7:List WD:=["pen","many","letters","base","way","turn","size","found","k","sign","part","at"]
def Gy(K:Za):TS :=
 bS (aQ<|aD (qF K true) V1 V0) (cy<|Bl K "list" eP V0<|av V1) (bf)
def HH:List WD:=["doors","door"]
def sy(K:Za)(qa:Sp)(F':Sp):TS :=
 ar (aL (cK<|bx) U5)
 (ar (aL (aI qa<|aM V0<|tC<|.int 2) U6)
 (ar (fF (v4 K<|av V3) (gC K 2<|aS U7<|aS U8<|gh) (ar (fF (tS<|aq (aD (cg K) (cK<|aq (tC<|.int 0)<|bY (tC<|.int 1) (tC<|.int 1)<|tC<|.int 2)<|aI qa<|aM V0<|tC<|.int 4) bx) U9 (ar (aL (aU<|aq (tC<|.str "say")<|aq (aD (cg K) V2<|aI qa<|aM V0<|dj (dg K)<|av V2) bx) Of)
 (cy<|aI F'<|aq V5<|aq (aU<|aq V8<|aq Ls<|aq (aD (cg K) V3<|aI qa<|aM V0<|dj (dg K)<|av V3) bx) bx)))
 (ar (fF (cf K V1) VL<|fF (tS<|aq (aD (cg K) (cK<|aq V4<|bY (tC<|.int 1) (tC<|.int 1)<|tC<|.int 2)<|aI qa<|aM V0<|tC<|.int 4) bx) U9<|cy<|aI F'<|aq V5<|aq (aU<|aq V8<|aq (aU<|aM (tC<|.str "ask") Vm)<|aq (aD (cg K) V3<|aI qa<|aM V0<|dj (dg K)<|av V3) bx) bx)
 (ar (aL (aD (cg K) (cK<|aq (Di (vN K) V3 (gL<|aD fh V7<|tC<|.int 1)<|fE)<|av<|Di (vN K) V3 (fE)<|gL V7) V6) Wn)
 (bS (o7 (aQ<|aD (sI K) Vl<|cK<|bx)<|aQ<|aD kW (aI qa<|aM V0<|tC<|.int 3)<|tC<|.int 0) (cy<|aI F'<|aq V5<|aq (aU<|aq V8<|aq (aU<|av<|tC<|.str "still")<|aq (aD (pK K) Vl<|aI qa<|aM V0<|dj (dg K)<|av Vl) bx) bx)<|bf)))))
 (be V5)))
def tm:List WD:=["pen","asks","says","rooms","full","doors","down","k","room","turn","sign","ask","later"]
def BD(K:Za)(P1:Sp)(ON:Sp)(qa:Sp)(Pk:Sp):TS :=
 ar (cy<|aI Pk<|av V0)
 (ar (aL (aI ON<|aM V0<|tC<|.int 8) U3)
 (ar (aL (Di (vN K) V3 (fE)<|gL<|aD fh (tC<|.int 1)<|aD (cg K) (cK<|aq (tC<|.int 0)<|aq (tC<|.int 1)<|aq (tC<|.int 1)<|bY (tC<|.int 2) (tC<|.int 2)<|tC<|.int 3)<|aI qa<|aM V0<|tC<|.int 6) U4)
 (ar (aL (Di (vN K) V3 (gL<|tC<|.int 4)<|gL<|aD fh (tC<|.int 5)<|aD (cg K) (cK<|aq (tC<|.int 0)<|aq (tC<|.int 1)<|aq (tC<|.int 1)<|bY (tC<|.int 2) (tC<|.int 2)<|tC<|.int 3)<|aI qa<|aM V0<|tC<|.int 6) U5)
 (ar (aL (aI ON<|aM V0<|aD fh (tC<|.int 1)<|aI qa<|aq V0<|av V1) U6)
 (ar (aL (aI P1<|aq V0<|aq V4<|bY V5 V6 V2) U7)
 (be<|aU<|aq V4<|bY V5 V6 V7))))))
def C8:List WD:=["pen","most","full","words","asks","says","rooms","doors"]
def wZ(K:Za)(rk:Wv)(Qt:Sp):TS :=
 be (Io rk Qt [] E0<|aq (dj (eh K)<|av<|aD (pK K) V0<|tC<|.int 0)<|aq (dj (eh K)<|av<|aD (pK K) V0<|tC<|.int 1)<|aq (dj (eh K)<|av<|aD (pK K) V0<|tC<|.int 2)<|aq (dj (eh K)<|av<|aD (pK K) V0<|tC<|.int 3) bx)
def xK:List WD:=["told"]
def GB(K:Za):TS :=
 be (kB (aD Oc V0<|tC<|.str "")<|kB (aD UR (dj (dg K)<|av V0)<|tC<|.int 8)<|dj (MD K)<|av<|dE 1 [] (NO V0) U0 (jc)<|aD US V0<|tC<|.str "abcdefghijklmnopqrstuvwxyz")
def HK:List WD:=["text"]
def GD(K:Za):TS :=
 ar (aL (sG) U1)
 (ar (fF (cf K V0) U2<|ol V1 V2<|tC<|.bl true)
 (be V1))
def HL:List WD:=["things","keys","thing"]
def oS(K:Za)(Ox:Sp)(yl:Sp):TS :=
 ar (bS (aQ<|aD kW (dj (dg K)<|av V0)<|tC<|.int 0) (be<|tC<|.int 0)<|bf)
 (ar (aL (aI yl<|av V2) U3)
 (ar (fF (v4 K<|av V0) (gC K 2<|aS U4<|aS U5<|gh) (ar (bS (Fw (aQ<|aD kW V4 V1)<|Fw (tB<|Ir K V5 V3)<|Ab<|tB<|aI Ox<|av V5) (be V4)<|bf)
 (ol V3 V5<|tC<|.bl true)))
 (be<|tC .L')))
def pD:List WD:=["names","most","taken","ahead","number","name"]
def Aa(K:Za)(C1:Wv):TS :=
 be (aD xA (aD xA (dE 1 [] (cf K V0) U0 (jc)<|aU<|aM (tC<|.str "ask") V0)<|dE 1 [] (cf K V1) U0 (jc)<|aU<|aM (tC<|.str "say") V0)<|cK<|av<|tC<|.ref C1)
def Bg:List WD:=["asks","says"]
def oU(K:Za)(yl:Sp):TS :=
 ar (aL (aI yl<|av V1) U3)
 (ar (aL (DM) U4)
 (ar (fF (v4 K<|av V0) (gC K 2<|aS U5<|aS U6<|gh) (ar (bS (Fw (aQ<|aD kW V5<|tC<|.int 2000)<|tB<|Ir K V6 V4) (be V5)<|bf)
 (ar (bS (Fw (tB<|p9 K (aD (pK K) V6<|tC<|.int 0) V3)<|Fw (aQ<|aD (qF K true) (aD (pK K) V6<|tC<|.int 1) V2)<|tB<|p9 K (aD (pK K) V6<|tC<|.int 2) V3) (be V5)<|bf)
 (ol V4 V6<|tC<|.bl true))))
 (be<|tC .L')))
def pE:List WD:=["doors","rooms","signs","own_rooms","ahead","number","door"]
def jz(K:Za):TS :=
 ar (aL (DM) U1)
 (ar (fF (cf K V0) (gC K 3<|aS U2<|aS U3<|aS U4<|gh)<|cy<|Bl K "list" eP (Bl K "dict" FB V1<|aM (aU<|aq V2<|av V3)<|cK<|bx)<|av V4)
 (be V1))
def jA:List WD:=["doors","goals","start","sign","goal"]
def vt(K:Za)(C1:Wv):TS :=
 ar (aL (sG) U2)
 (ar (aL (cK<|av V1) U3)
 (ar (sD (aQ<|aD G_ (dj (dg K)<|av V3)<|tC<|.int 0) (ar (aL (DN K "list" G7 V3) U4)
 (fF (NP K<|Al K V0 (aU<|aM V4<|tC<|.ref C1)<|aU<|bx) U5 (bS (tB<|p9 K V5 V2) (ar (ol V2 V5<|tC<|.bl true)
 (cy<|Bl K "list" eP V3<|av V5))<|bf))))
 (be V2)))
def wC:List WD:=["goals","room","led","waiting","here","goal"]
def pW(K:Za):TS :=
 ar (fF (v4 K<|av V0) (gC K 2<|aS U2<|aS U3<|gh)<|bS (tB<|Ir K V3<|p_ K V1 V3) (be V2)<|bf)
 (be<|tC .L')
def rq:List WD:=["rooms","led","number","room"]
def Bz(K:Za):TS :=
 bS (tB<|xW V1) (DA) (bf)
def C4:List WD:=["part","number"]
def z0(K:Za)(wq:Sp)(wt:Sp)(Ot:Sp)(r6:Sp):TS :=
 ar (cy<|aI wq<|aM (tC<|.str "asks")<|aI r6<|bY V0 (tC<|.int 4)<|cK<|bx)
 (ar (cy<|aI wq<|aM (tC<|.str "says")<|aI r6<|bY V1 (tC<|.int 4) V0)
 (ar (cy<|aI wq<|aM (tC<|.str "rooms")<|aI r6<|bY V2 (tC<|.int 150)<|cK<|bx)
 (cy<|aI wq<|aq (tC<|.str "doors")<|av<|aI wt<|bY V3 V2<|aI Ot<|aM V0 V1)))
def Bb:List WD:=["asks","says","rooms","doors"]
def sC(K:Za):TS :=
 ar (aL (sG) U2)
 (ar (fF (cf K V0) U3<|ol V2 V3<|cK<|bx)
 (ar (fF (cf K V1) U4<|cy<|Bl K "list" eP (p_ K V2<|aD (pK K) V4<|tC<|.int 0)<|av V4)
 (be V2)))
def tu:List WD:=["rooms","doors","leaving","room","door"]
def sB(K:Za):TS :=
 be (dj (MD K)<|aq (dE 1 [] (cf K V0) U0 (jc)<|aD kW (aD (pK K) (aD (pK K) V0<|tC<|.int 1)<|tC<|.int 0)<|tC<|.str "ask") bx)
def tq:List WD:=["doors"]
def oZ(K:Za)(wq:Sp)(wy:Sp)(Qq:Sp)(OQ:Sp)(yl:Sp)(A1:Sp)(A2:Sp)(Oo:Sp):TS :=
 ar (cy<|aI Oo<|aq V1<|bY V2 V3 V4)
 (ar (Aq K V0 (dj (eh K)<|av V1) "own_asks")
 (ar (Aq K V0 (dj (eh K)<|av V2) "own_says")
 (ar (Aq K V0 (dj (eh K)<|av V3) "own_rooms")
 (ar (Aq K V0 (dj (eh K)<|av V4) "own_doors")
 (ar (Aq K V0 (aI A2<|aM V3 V4) "leaving")
 (ar (Aq K V0 (aI yl<|aq (dE 1 [0] (cf K V3) U0 (tB<|aI A1<|av<|p_ K (w8 K V1 "leaving") V0) V0) bx) "quiet")
 (ar (Aq K V0 (aI OQ<|av V4) "sign_goals")
 (ar (Aq K V0 (dj (KQ K)<|aq (dE 1 [0] (cf K V3) U0 (jc)<|aU<|aM V0<|aI Qq<|aq (w8 K V1 "sign_goals")<|av V0) bx) "still_led")
 (cy<|aI wq<|aM (tC<|.str "still")<|aI wy<|aq V3<|av<|w8 K V0 "still_led")))))))))
def pH:List WD:=["self","asks","says","rooms","doors"]
def oY(K:Za):TS :=
 be (Ir K V1<|w8 K V0 "quiet")
def pG:List WD:=["self","room"]
def cY(p:Wv)(H H':Hp):Prop:=∀b o,H b=pe o->b≠p->H' b=pe o
theorem cY.refl(p:Wv)(H:Hp):cY p H H:=λ_ _ h _=>h
theorem cY.trans(a:cY p H e)(b:cY p e f):cY p H f:=λc o h n=>b c o (a c o h n) n
theorem ac.Rz(a:ac H e):cY p H e:=λb o h _=>a b o h
theorem cY.upd(p:Wv)(H:Hp)(o:HO):cY p H (upd H p o):=λb u h n=>by rw[aj n];exact h
theorem ac.new(h:H a=none):ac H (upd H a o):=λb u e=>by rw[aj<|ag e h];exact e
theorem cY.free(e:cY p H a)(f:a p=pe u)(h:a l=none):H l=none:=by
 cases q:H l with
 |none=>rfl
 |some o =>
  by_cases z:l=p
  .subst z;rw[f]at h;cases h
  .rw[e l o q z]at h;cases h
theorem kp(h:H b=pe o)(n:H a=none):upd H a x b=pe o:=by rw[aj<|ag h n];exact h
structure Gi(H:Hp)(p c:Wv)(at_ rest:Int)(ns:List Int):Prop where
 pen:H p=pe (.lst [.ref c,.int at_,.int rest])
 cells:H c=pe (.lst (ns.map V.int))
 Tx:0<=at_
 Uv:0<=rest
theorem Gi.ne(h:Gi H p c a r g):c≠p:=by
 intro e;have i:=h.pen;have f:=h.cells;rw[e,i]at f;injection f with f;injection f with f;cases g with
 |nil=>cases f
 |cons n g=>injection f with f;cases f
def eF(H:Hp)(p c:Wv):Prop:=∃a r ns,Gi H p c a r ns
theorem eF.ex(h:eF H p c)(e:ac H H'):eF H' p c:=by
 let⟨a,r,f,g,i,j,k⟩:=h;exact⟨a,r,f,e _ _ g,e _ _ i,j,k⟩
theorem eF.pen(h:eF H p c):∃o,H p=pe o:=by
 let⟨a,r,f,e,_⟩:=h;exact⟨_,e⟩
theorem eF.cell(h:eF H p c):∃o,H c=pe o:=by
 let⟨a,r,f,_,e,_⟩:=h;exact⟨_,e⟩
theorem eF.upd{H:Hp}{p c l:Wv}{o:HO}(h:eF H p c)(e:p≠l)(f:c≠l):eF (upd H l o) p c:=by
 let⟨a,r,g,i,j,k,m⟩:=h;exact⟨a,r,g,by rw[aj e];exact i,by rw[aj f];exact j,k,m⟩
theorem eF.Ry(h:eF H p c)(a:H l=none):p≠l:=let⟨_,e⟩:=h.pen;ag e a
theorem eF.Tv(h:eF H p c)(a:H l=none):c≠l:=let⟨_,e⟩:=h.cell;ag e a
theorem cY.new(h:H a=none):cY p H (L2.upd H a o):=λb u e _=>by rw[aj<|ag e h];exact e
inductive nB (vs:List V)(H:Hp)(Q:VK)(E:XK):Prop
 |mk (c a:Int):vs=[.int c,.int a]->0<=a->(∀r:Int,0<=r->Q (.int r) H)->nB  vs H Q E
theorem q_(a:-(2 ^ 64)<j)(e:j<2 ^ 64):Ke i j:=.inr ⟨a,e⟩
theorem GP{K:Za}(h:nB f H Q E):z7 K (bH Q) (start Bd f) H:=by
 let⟨c,a,rfl,x,k⟩:=h;apply⟨_,pw,_,_,pw,pw,⟨WE,WE,WE⟩,_,_,pw,pw,_,pw,?_⟩;refine kb (λh=>?_)<|λ_=>?_
 .refine⟨_,pw,k _ ?_⟩;have:=of_decide_eq_true h;have e:((10:Int) ^ (18:Int).toNat)=1000000000000000000:=by decide
  nofun
 .have one:∀z:Int,0<=z % 2147483629/\z % 2147483629<2147483629:=λz=>⟨rM _ WE,rK _ WE⟩;have two:∀z:Int,0<=z % 2147483587/\z % 2147483587<2147483587:=λz=>⟨rM _ WE,rK _ WE⟩;have three:∀z:Int,0<=z % 2147483563/\z % 2147483563<2147483563:=λz=>⟨rM _ WE,rK _ WE⟩;apply⟨_,pw,_,_,pw,pw,(by show(0:Int)<1000000007;decide),_,_,pw,pw,q_ WE WE,_,pw,_,_,pw,pw,q_ WE WE,_,_,pw,pw,_,_,pw,pw,_,_,pw,pw,(by show(0:Int)<2147483629;decide),?_⟩;generalize l:(c % 1000000007 * 69069+a * 40503+977)=g;let⟨m,n⟩:=one g;generalize g % 2147483629=o at m n ⊢;apply⟨_,pw,_,pw,_,_,pw,pw,q_ ⋯ ⋯,_,pw,_,_,pw,pw,q_ WE WE,_,_,pw,pw,_,pw,_,_,pw,pw,(by show(0:Int)<65537;decide),_,_,pw,pw,_,_,pw,pw,(by show(0:Int)<2147483587;decide),?_⟩;generalize p:(o * o+a * 7919+c % 65537)=i;let⟨s,t⟩:=two i;generalize i % 2147483587=q at s t ⊢;apply⟨_,pw,_,pw,_,_,pw,pw,q_ ⋯ ⋯,_,pw,_,_,pw,pw,q_ WE WE,_,_,pw,pw,_,_,pw,pw,_,_,pw,pw,(by show(0:Int)<2147483563;decide),?_⟩;generalize u:(q * q+o * 31+5)=j;let⟨v,w⟩:=three j;generalize j % 2147483563=r at v w ⊢;apply⟨_,pw,_,_,pw,pw,q_ WE WE,_,pw,_,_,pw,pw,_,_,pw,pw,q_ WE WE,_,pw,_,_,pw,pw,k _ ?_⟩;nofun
def uw:Sp:=λvs H Q _=>∃p c,vs=[.ref p]/\eF H p c/\∀H',eF H' p c->cY p H H'->Q (.ref p) H'
theorem KN{K:Za}(h:uw e H Q E):Dy K (bH Q) (start EX e) H:=by
 let⟨p,c,rfl,⟨a,r,f,h⟩,k⟩:=h;apply⟨_,pw,p,_,_,_,pw,pw,h.pen,pw,_,pw,k _ ⟨a,0,f,aa,?_,h.Tx,Int.le_refl 0⟩<|cY.upd _ _ _⟩;rw[aj h.ne];exact h.cells
theorem Ge{ns:List Int}{a:Int}(e:0<=a)(g:a<ns.length):∃z,A5 (ns.map V.int) a=pe (.int z):=by
 let⟨n,rfl⟩:=i6 e;have f:n<ns.length:=by nofun
 exact⟨ns[n],bA (by simp[f])⟩
inductive ca (vs:List V)(H:Hp)(Q:VK)(E:XK):Prop
 |mk (p c:Wv) (m:Int):vs=[.ref p,.int m]->eF H p c->0<m->m<1073741824->(∀(r:Int) (H':Hp),0<=r->r<m->eF H' p c->cY p H H'->Q (.int r) H')->ca  vs H Q E
theorem cJ(e:eF H p c)(f:0<m)(g:m<1073741824)(k:∀(r:Int) (a:Hp),0<=r->r<m->eF a p c->cY p H a->Q (.int r) a):ca [.ref p,.int m] H Q E:=by
 exact⟨p,c,m,pw,e,f,g,k⟩
theorem KC{K:Za}(h:ca t H Q E):Dt K nB (bH Q) (start ES t) H:=by
 let⟨p,c,m,rfl,⟨a,r,ns,h⟩,j,l,k⟩:=h;have f:∀(H':Hp) (n u:Int) (x y:Option V),Gi H' p c n u ns->cY p H H' ->
   (ar (aL (aD jO (aD (cg K) V0<|tC<|.int 2) V1) U4)<|ar (aL (aD IU (aD (cg K) V0<|tC<|.int 2) V1)<|CH V0 (tC<|.int 2) tL)<|be V4)
    (bH Q) [pe<|.ref p,pe<|.int m,x,y,none] H':=by
  intro H' n u x y g ex;apply⟨_,pw,p,_,2,_,pw,pw,aA.of g.pen,pw,_,pw,_,_,pw,pw,j,?_⟩;apply⟨_,pw,p,_,2,_,pw,pw,aA.of g.pen,pw,_,pw,_,_,pw,pw,⟨j,l⟩,_,pw,p,_,_,_,pw,pw,g.pen,pw,?_⟩;apply⟨_,pw,k _ _ (rM _ ⋯) (rK _ j) ⟨n,_,ns,aa,?_,g.Tx,Int.ediv_nonneg g.Uv ⋯⟩<|ex.trans<|cY.upd _ _ _⟩;rw[aj g.ne];exact g.cells
 apply⟨_,pw,p,_,2,_,pw,pw,aA.of h.pen,pw,_,pw,_,_,pw,pw,_,pw,?_⟩;refine kb (λB=>?_)<|λB=>?_
 .-- at=pen[1];cell=0;if at<len(pen[0])
  apply⟨_,pw,p,_,1,_,pw,pw,aA.of h.pen,pw,?_⟩;have o:(V.int ((ns.map V.int).length:Nat))=V.int (ns.length:Nat):=by rw[am]
  apply⟨_,pw,_,pw,p,_,0,_,pw,pw,aA.of h.pen,pw,.inl ⟨c,_,pw,.inl<|aA.of h.cells,_,_,pw,o,_,pw,?_⟩⟩;refine kb (λv=>?_)<|λv=>?_
  .obtain⟨z,s⟩:=Ge (ns:=ns) h.Tx<|of_decide_eq_true v;apply⟨_,pw,p,_,0,_,pw,pw,aA.of h.pen,pw,_,pw,c,_,_,_,pw,pw,aA.of h.cells,s,?_⟩;apply⟨_,pw,_,_,pw,pw,_,pw,p,_,_,_,pw,pw,h.pen,pw,?_⟩;apply⟨_,pw,_,pw,_,_,pw,h.Tx,λq i=>⟨_,pw,p,_,_,_,pw,pw,aa,pw,?_⟩⟩;rw[nh];refine f _ (a+1) q _ _ ⟨aa,by rw[aj h.ne];exact h.cells,by have:=h.Tx;nofun,i⟩<|cY.upd _ _ _
  .refine⟨_,pw,p,_,0,_,pw,pw,aA.of h.pen,pw,.inl ⟨c,_,pw,.inl<|aA.of h.cells,_,_,o,pw,_,pw,?_⟩⟩;refine kb (λw=>?_)<|λw=>?_
   .have A:(0:Int)<ns.length:=of_decide_eq_true w;let⟨z,s⟩:=Ge (ns:=ns) (a:=(a * 5+3) % (ns.length:Int)) (rM _ ⋯)<|rK _ A;apply⟨_,pw,p,_,0,_,pw,pw,aA.of h.pen,pw,_,pw,_,_,pw,pw,q_ WE WE,_,_,pw,pw,_,pw,p,_,0,_,pw,pw,aA.of h.pen,pw,.inl ⟨c,_,pw,.inl<|aA.of h.cells,_,_,pw,o,A,c,_,_,_,pw,pw,aA.of h.cells,s,?_⟩⟩;apply⟨_,_,pw,pw,⟨WE,WE,WE⟩,_,pw,_,_,pw,pw,_,_,pw,pw,?_,?_⟩
    .have e:((10:Int) ^ (17:Int).toNat)=100000000000000000:=by decide
     have:=h.Tx;show(0:Int)<10 ^ (17:Int).toNat+a;nofun
    apply⟨_,pw,_,_,pw,pw,_,pw,p,_,_,_,pw,pw,h.pen,pw,?_⟩;apply⟨_,pw,_,pw,_,_,pw,h.Tx,λq i=>⟨_,pw,p,_,_,_,pw,pw,aa,pw,?_⟩⟩;rw[nh];refine f _ (a+1) q _ _ ⟨aa,by rw[aj h.ne];exact h.cells,by have:=h.Tx;nofun,i⟩<|cY.upd _ _ _
   .refine⟨_,pw,_,_,pw,pw,_,pw,p,_,_,_,pw,pw,h.pen,pw,?_⟩;apply⟨_,pw,_,pw,_,_,pw,h.Tx,λq i=>⟨_,pw,p,_,_,_,pw,pw,aa,pw,?_⟩⟩;rw[nh];refine f _ (a+1) q _ _ ⟨aa,by rw[aj h.ne];exact h.cells,by have:=h.Tx;nofun,i⟩<|cY.upd _ _ _
 .exact f H a r _ _ h<|cY.refl _ _
inductive ur(K:Za)(vs:List V)(H:Hp)(Q:VK)(E:XK):Prop
 |mk (a:Wv) (ns:List Int):vs=[.ref a]->aA K H a (ns.map V.int)->ns.length<=63->(∀(p c:Wv) (H':Hp),H p=none->eF H' p c->ac H H'->Q (.ref p) H')->ur K vs H Q E
theorem yH(a:List Int)(lo hi:Option Int):∃e:List Int,fQ (a.map V.int) lo hi=e.map V.int/\e.length=(fQ (a.map V.int) lo hi).length:=by
 apply⟨(a.drop<|HT.Hx (a.map V.int).length 0 lo).take<|HT.Hx (a.map V.int).length (a.map V.int).length hi-HT.Hx (a.map V.int).length 0 lo,?_,?_⟩
 .unfold fQ;rw[uU,y8]
 .unfold fQ;rw[aP,aP,d_,d_,am]
theorem KF{K:Za}(h:ur K vs H Q E):Du K (bH Q) (start ET vs) H:=by
 let⟨a,s,rfl,hs,hn,k⟩:=h;let⟨D,e0,l0⟩:=yH s none<|some 12;let⟨B,e1,l1⟩:=yH s (pe 12)<|some 63;have G:B≠[]->D.length=12:=by
  intro L;have l:0<B.length:=by cases B with|nil=>exact absurd rfl L|cons _ _=>simp
  rw[l1]at l;rw[l0];unfold fQ at l ⊢;rw[aP,d_,am]at l;rw[aP,d_,am];have s1:HT.Hx s.length 0 (pe 12)=min 12 s.length:=HT.Ow _ _ 12;have s2:HT.Hx s.length s.length (pe 12)=min 12 s.length:=HT.Ow _ _ 12;rw[HT.O4,s2];rw[s1]at l;nofun
 apply⟨_,pw,_,pw,a,_,pw,hs,λq hq=>.inl ⟨q,_,pw,.inl<|aA.of aa,λc C=>?_⟩⟩;rw[e0]at C ⊢;have M:H c=none:=by
  have:c≠q:=λz=>by subst z;rw[aa]at C;cases C
  rw[aj this]at C;exact C
 have hS:ac H (upd (upd H q<|.lst<|D.map V.int) c<|.lst<|D.map V.int):=(ac.new hq).trans<|ac.new C;apply⟨_,pw,_,pw,_,pw,a,_,pw,hS.seq hs,λr N=>⟨r,pw,⟨_,aA.of aa⟩,?_⟩⟩;rw[e1];have O:c≠r:=ag aa N
 let T:Nat->L2.St->Hp->Prop:=λi σ w=>Nn λ(j:List Int) (x y:Option V)=>N0 (σ=[pe<|.ref a,pe<|.ref c,x,y]) (w c=pe (.lst<|j.map V.int)) (j.length=D.length) (w r=pe (.lst<|B.map V.int))<|ac H w
 refine kN (xs:=B.map V.int) T
  ⟨D,none,none,pw,kp aa N,pw,aa,hS.trans<|ac.new N⟩ (λi σ w _ zq=>by let⟨j,x,y,_,_,_,h,_⟩:=zq;exact aA.of h) ?_ ?_
 .rintro i x σ w t hi ⟨j,u,v,rfl,f,I,J,m⟩ U;have A:i<B.length:=by
   have:=(cx.mp hi).1;rwa[am]at this
  have al:=G (λz=>by rw[z]at A;simp at A);obtain⟨z,rfl⟩:∃z,x=V.int z:=by
   rw[eL,dH A]at hi;exact⟨_,(ff hi).symm⟩
  have g:upd w t (.tup [.int i,.int z]) c=pe (.lst<|j.map V.int):=kp f U;have n:(i:Int) % 12=((i % 12:Nat):Int):=by nofun
  have Y:i % 12<j.length:=by nofun
  apply⟨t,_,pw,bj.of aa,pw,_,_,pw,_,_,pw,pw,?_⟩;have ab:A5 (j.map V.int) ((i:Int) % 12)=pe (.int j[i % 12]):=by rw[n];exact bA (by simp[Y])
  apply⟨_,pw,_,pw,_,_,pw,pw,(by show(0:Int)<12;decide),c,_,_,_,pw,pw,aA.of g,ab,_,pw,_,_,pw,pw,_,pw,_,pw,_,_,pw,pw,(by show(0:Int)<12;decide),c,_,_,i % 12,pw,pw,g,?_,?_⟩
  .rw[n];unfold HS;rw[if_pos ⋯,if_pos (by rw[am];nofun)];rw[r9]
  .refine⟨j.set (i % 12)<|j[i % 12]+z,_,_,pw,?_,by rw[List.length_set];exact I,?_,?_⟩
   .rw[aa,List.map_set]
   .rw[aj O.symm];exact kp J U
   .intro b o e;rw[aj<|ag e M];exact kp (m b o e) U
 .rintro σ w ⟨j,x,y,rfl,f,I,J,m⟩;apply⟨_,pw,Q3,λp hp=>k p c _ (m.free hp) ⟨0,0,j,aa,kp f hp,Int.le_refl _,Int.le_refl _⟩<|m.trans<|ac.new hp⟩
def AC(c:Nat):Prop:=97<=c/\c<=122
structure js(w:WD):Prop where
 lo:1<=w.length
 hi:w.length<=8
 al:∀c∈w.cps.toList,AC c
theorem Gh:∀n:Nat,n<26->(("abcdefghijklmnopqrstuvwxyz":WD).cps.toList)[n]?=pe (97+n):=by decide +kernel
theorem Gg:("abcdefghijklmnopqrstuvwxyz":WD).length<=ai:=by decide +kernel
theorem JV(a:0<=r)(e:r<26):A5 (("abcdefghijklmnopqrstuvwxyz":WD).cps.toList) r=pe (97+r.toNat):=by
 let⟨n,rfl⟩:=i6 a;rw[r9];exact bA (Gh n ⋯)
theorem xC(f:List Nat):∀a:Array Nat,((f.map λc=>(⟨#[c]⟩:WD)).foldl (λa p=>a++("":WD).cps++p.cps) a).toList=a.toList++f:=by
 have e:("":WD).cps=#[]:=by decide +kernel
 induction f with
 |nil=>intro a;simp
 |cons c f g =>
  intro a;rw[bP,List.foldl_cons,g,e];simp
theorem Ez(a:List Nat):(zo ""<|a.map λc=>(⟨#[c]⟩:WD)).cps.toList=a:=by
 unfold zo bW.Str.glued;cases a with
 |nil=>rfl
 |cons c a =>
  rw[bP];show((a.map λc=>(⟨#[c]⟩:WD)).foldl (λe p=>e++("":WD).cps++p.cps) #[c]).toList=_;rw[xC]
  rfl
theorem KA{a b:WD}(h:a.cps.toList=b.cps.toList):a=b:=by
 cases a with|mk x=>cases b with|mk y=>exact congrArg Str.mk<|Array.toList_inj.mp h
theorem fX(a:WD):a.length=a.cps.toList.length:=by simp[Str.length]
theorem A6(a b:WD):(a++b).cps.toList=a.cps.toList++b.cps.toList:=by
 show(a.cps++b.cps).toList=_;simp
theorem JN(z:WD)(m:Nat):(wd z none<|some (m:Int)).cps.toList=z.cps.toList.take m:=by
 unfold wd;rw[HT.O4,HT.Ow,uY,Nat.sub_zero,fX];show List.take _ _=_;rw[List.take_eq_take_iff];nofun
theorem JO(z:WD)(m:Nat):(wd z (pe (m:Int)) none).cps.toList=z.cps.toList.drop m:=by
 unfold wd;rw[HT.O4,HT.Ow,fX];show List.take _ _=_;rw[kY (by rw[d_];nofun)];by_cases h:m<=z.cps.toList.length
 .rw[uT h]
 .rw[Nat.min_eq_right ⋯,y6,rO ⋯]
def fM(way size k:Nat):Nat:=(size+k * (way % 2)) % 8
def Dh(way m:Nat):Nat:=if way=0 then 0 else if way=1 then m else m / 2
def oh(b:List Nat)(way turn size k:Nat):List Nat :=
 (b.take<|fM way size k).take (Dh way<|fM way size k)++[97+(turn+3 * k) % 26]++(b.take<|fM way size k).drop (Dh way<|fM way size k)
def word(b:List Nat)(way turn size k:Nat):WD:=⟨(oh b way turn size k).toArray⟩
theorem sj(e:b.length=7)(way turn a k:Nat):(oh b way turn a k).length=fM way a k+1:=by
 have f:fM way a k<8:=uS _ WE;unfold oh;rw[aH,aH,aP,d_,aP,e];have:Dh way (fM way a k)<=fM way a k:=by unfold Dh;split;nofun;split;nofun;nofun
 simp;nofun
theorem Kp(h:b.length=7)(f:∀c∈b,AC c)(way turn a k:Nat):js (word b way turn a k):=by
 have i:fM way a k<8:=uS _ WE;have g:=sj h way turn a k;have e:(word b way turn a k).cps.toList=oh b way turn a k:=by simp[word]
 apply⟨?_,?_,?_⟩
 .rw[fX,e];nofun
 .rw[fX,e];nofun
 .rw[e];intro c hc;unfold oh at hc;obtain hc|hc:=bp.mp hc
  .obtain hc|hc:=bp.mp hc
   .exact f c<|j5<|j5 hc
   .have:c=97+(turn+3 * k) % 26:=by simpa using hc
    subst this;have:(turn+3 * k) % 26<26:=uS _ WE;exact⟨by nofun,by nofun⟩
  .exact f c<|j5<|y4 hc
theorem Ib(f:b.length=7)(r:way<3)(t:j<26)(u:k<26)(h:word b way turn a j=word b way turn a k):j=k:=by
 have n:∀i,fM way a i<8:=λi=>uS _ WE;have e:oh b way turn a j=oh b way turn a k:=by
  have:=congrArg (λs=>Str.cps s |>.toList) h;simpa[word]using this
 have o:fM way a j=fM way a k:=by
  have:=congrArg List.length e;rw[sj f,sj f]at this;nofun
 have p:97+(turn+3 * j) % 26=97+(turn+3 * k) % 26:=by
  have g:∀i,Dh way (fM way a i)<=fM way a i:=λi=>by unfold Dh;split;nofun;split;nofun;nofun
  have get:∀i,(oh b way turn a i)[Dh way<|fM way a i]?=pe (97+(turn+3 * i) % 26):=by
   intro i;unfold oh;have q:((b.take<|fM way a i).take<|Dh way<|fM way a i).length=Dh way (fM way a i):=by
    rw[aP,aP,f];have:=n i;have:=g i;nofun
   rw[d9,iF ⋯,q,j4]
   rfl
  have l:=get j;have m:=get k;rw[e,o]at l;rw[l]at m;exact ff m
 nofun
def jT(ws:Zb):Prop:=ws.Nodup/\∀w∈ws,js w
def lb(b:List Nat)(way turn size n:Nat):List WD:=(kA n).map<|word b way turn size
theorem Dm(g:b.length=7)(i:∀c∈b,AC c)(l:a<3)(q:n<=26):jT (lb b a turn e n):=by
 apply⟨?_,λw m=>?_⟩
 .unfold lb;rw[List.nodup_iff_pairwise_ne,List.pairwise_map];refine(List.nodup_range (n:=n)).imp_of_mem ?_;intro j k o p f h;exact f (Ib g l (by have:=List.mem_range.mp o;nofun) (by have:=List.mem_range.mp p;nofun) h)
 .obtain⟨k,_,rfl⟩:=aV.mp m;exact Kp g i _ _ _ _
inductive mC (vs:List V)(H:Hp)(Q:VK)(E:XK):Prop
 |mk (p c:Wv) (n:Nat):vs=[.ref p,.int n]->eF H p c->n<=26->(∀(l:Wv) (ws:Zb) (H':Hp),jT ws->ws.length=n->H l=none->H' l=pe (.lst (ws.map V.str))->eF H' p c->cY p H H'->Q (.ref l) H')->mC  vs H Q E
theorem IF{K:Za}(h:mC A H Q E):BC K ca (bH Q) (start C7 A) H:=by
 let⟨p,c,n,rfl,C,hn,k⟩:=h;apply⟨pw,7,pw,WE,WE,λl I=>?_⟩
 let aC:Nat->List V->Hp->Prop:=λi A u=>∃o:List Nat,A=o.map (λc=>V.str ⟨#[c]⟩)/\o.length=i/\(∀c∈o,AC c)/\eF u p c/\cY p H u/\u l=pe (.lst A)
 refine wg (lo:=0) (n:=Int.toNat 7) aC
  ⟨[],pw,pw,(λ_ h=>nomatch h),C.ex<|ac.new I,cY.new I,aa⟩ (λi A u _ zq=>by let⟨_,_,_,_,_,_,h⟩:=zq;exact h) ?_ ?_
 rotate_left
 .rintro i A u hi ⟨o,rfl,g,w,v,aT,aX⟩;have J:=C.Ry I;have a0:=C.Tv I;refine gN<|oQ ?_;apply⟨_,pw,_,pw,cJ v WE WE λr H2 h0 h1 D s=>⟨_,r,_,pw,pw,Gg,JV h0 h1,?_⟩⟩;have a4:=s l _ aX J.symm;apply⟨a4,by rw[am,g];exact ax ⋯,rC hi ⟨o++[97+r.toNat],by rw[ay];rfl,by rw[aH,g];rfl,?_,D.upd J a0,?_,aa⟩⟩
  .intro x hc;obtain hc|hc:=bp.mp hc
   .exact w x hc
   .have:x=97+r.toNat:=by simpa using hc
    subst this;exact⟨by nofun,by nofun⟩
  .intro b o' e nb;rw[aj<|ag e I];exact s b o' (aT b o' e nb) nb
 .rintro A H1 ⟨o,rfl,g,w,a5,L,a6⟩;apply⟨"",l,o.map λc=>(⟨#[c]⟩:WD),pw,pw,aA.of (by rw[a6,uR];rfl),?_,?_⟩
  .have e0:("":WD).length=0:=by decide +kernel
   rw[e0,Nat.mul_zero,uR];have:∀o:List Nat,(o.map<|(λx=>Str.length x) ∘ λc=>(⟨#[c]⟩:WD)).sum=o.length:=by
    intro o
    induction o with
    |nil=>rfl
    |cons c o ih=>rw[bP,List.sum_cons,ih,da];show 1+_=_;nofun
   rw[this,g];decide
  apply⟨_,pw,cJ a5 WE WE λbl H2 w0 w1 D s=>?_⟩;apply⟨_,pw,cJ D WE WE λturn H3 t0 t1 a7 M=>?_⟩;apply⟨_,pw,cJ a7 WE WE λbi H4 s0 s1 N O=>?_⟩;have T:cY p H H4:=((L.trans s).trans M).trans O;let⟨j,rfl⟩:=i6 w0;let⟨G,rfl⟩:=i6 t0;let⟨sz,rfl⟩:=i6 s0;have hb:=Ez o;generalize zo "" (o.map λc=>(⟨#[c]⟩:WD))=base at hb ⊢;apply⟨Q0,λf hf=>?_⟩;let⟨op,a8⟩:=N.pen;have y:H f=none:=T.free a8 hf;have U:=C.Ry y;have Y:=C.Tv y;apply⟨_,pw,n,pw,by nofun,by nofun,kM (lo:=0) (n:=((n:Int)).toNat) (λi σ u=>∃(a b c' d:Option V),σ=[pe<|.ref p,pe<|.int n,pe<|.str "abcdefghijklmnopqrstuvwxyz",pe<|.str base,pe<|.int j,pe<|.int G,pe<|.int sz,pe<|.ref f,a,b,c',d] /\
   eF u p c/\cY p H u/\u f=pe (.lst<|(lb o j G sz i).map V.str))
   ⟨_,_,_,_,pw,N.upd U Y,T.trans<|cY.new hf,aa⟩ ?_ ?_⟩
  .rintro i σ u hi ⟨a,b,c',d,rfl,v,t,z⟩;have bm:i<n:=by nofun
   have bn:j<3:=by nofun
   have a9:((G:Int)+3 * (0+(i:Int))) % 26=(((G+3 * i) % 26:Nat):Int):=by nofun
   apply⟨_,pw,_,pw,_,pw,_,_,pw,pw,.inl ⟨WE,WE⟩,_,_,pw,pw,_,_,pw,pw,(by show(0:Int)<26;decide),_,_,_,pw,pw,Gg,JV (rM _ WE) (rK _ WE),?_⟩;have ab:base.length<=ai:=by rw[fX,hb,g];decide
   have e8:((sz:Int)+(0+(i:Int)) * ((j:Int) % 2)) % 8=((fM j sz i:Nat):Int):=by
    unfold fM;have:j=0∨j=1∨j=2:=by nofun
    obtain rfl|rfl|rfl:=this<;>simp<;>nofun
   apply⟨_,pw,_,pw,_,pw,_,pw,_,_,pw,pw,(by show(0:Int)<2;decide),_,_,pw,pw,.inr ⟨by nofun,by nofun⟩,_,_,pw,pw,_,_,pw,pw,(by show(0:Int)<8;decide),_,pw,base,pw,ab,?_⟩;rw[e8];have m:=JN base<|fM j sz i;rw[hb]at m;generalize wd base none (pe ((fM j sz i:Nat):Int))=part at m ⊢;have h8:fM j sz i<8:=uS _ WE;have B:part.length=fM j sz i:=by rw[fX,m,aP,g];nofun
   have pz:part.length<=ai:=by rw[B];exact eo (ax ⋯)
   apply⟨_,pw,.inr ⟨part,pw,pz,_,pw,.inr ⟨part,pw,pz,_,_,pw,pw,⟨WE,WE⟩,Q3,λq hq=>?_⟩⟩⟩;have al:H q=none:=by
    let⟨bw,an⟩:=v.pen;exact t.free an hq
   have bd:A5 [V.int 0,V.int (part.length:Nat),V.int<|(part.length:Int) / 2] (j:Int)=pe (.int (Dh j (fM j sz i):Nat)):=by
    rw[B];have:j=0∨j=1∨j=2:=by nofun
    obtain rfl|rfl|rfl:=this
    .rfl
    .rfl
    .show pe (V.int<|((fM 2 sz i:Nat):Int) / 2)=pe (V.int ((Dh 2 (fM 2 sz i):Nat):Int));have:Dh 2 (fM 2 sz i)=fM 2 sz i / 2:=rfl;rw[this];congr 2
   apply⟨_,pw,q,_,_,_,pw,pw,aA.of aa,bd,?_⟩;have as:upd u q (.lst [V.int 0,V.int (part.length:Nat),V.int<|(part.length:Int) / 2]) f=pe (.lst<|(lb o j G sz i).map V.str):=kp z hq;have c1:=JN part<|Dh j<|fM j sz i;have c2:=JO part<|Dh j<|fM j sz i;have l1:(wd part none<|some ((Dh j (fM j sz i):Nat):Int)).length<=8:=by rw[fX,c1,aP,m,aP,g];nofun
   have l2:(wd part (pe ((Dh j (fM j sz i):Nat):Int)) none).length<=8:=by rw[fX,c2,d_,m,aP,g];nofun
   apply⟨_,pw,.inl ⟨pw,_,aA.of as⟩,_,pw,_,pw,_,pw,part,pw,pz,_,pw,_,_,pw,pw,?_,_,pw,_,pw,_,pw,part,pw,pz,_,_,pw,pw,?_,f,_,_,pw,pw,as,?_,?_⟩
   .have:Str.length ⟨#[97+(((G:Int)+3 * (0+(i:Int))) % 26).toNat]⟩=1:=rfl;rw[this];exact eo (ax ⋯)
   .rw[fX,A6,aH,<-fX,<-fX];have:Str.length ⟨#[97+(((G:Int)+3 * (0+(i:Int))) % 26).toNat]⟩=1:=rfl;rw[this];exact eo (ax ⋯)
   .rw[am];unfold lb;rw[am,List.length_range];exact ax ⋯
   .refine⟨_,_,_,_,pw,(v.upd (C.Ry al)<|C.Tv al).upd U Y,?_,?_⟩
    .intro b' o' e nb;rw[aj<|ag e y];exact kp (t b' o' e nb) hq
    .rw[aa];unfold lb;rw[List.range_succ,ay,ay];congr 3;show[V.str _]=[V.str _];congr 2;refine KA ?_;rw[A6,A6,c1,c2,m,a9,r9];simp[word,oh]
  .rintro σ u ⟨a,b,c',d,rfl,v,t,z⟩;have en:((n:Int)).toNat=n:=by nofun
   rw[en]at z;exact⟨_,pw,k f _ u (Dm g w ⋯ hn) (by unfold lb;rw[am,List.length_range]) y z v t⟩
structure ak where
 a:WD
 sg:List WD
 b:WD
deriving DecidableEq
def SignAt(H:Hp)(s:Wv)(sg:Zb):Prop:=H s=pe (.tup<|sg.map V.str)
def ii(H:Hp)(t:Wv)(d:ak):Prop:=∃s,H t=pe (.tup [.str d.a,.ref s,.str d.b])/\SignAt H s d.sg
def g_(H H':Hp):Prop:=∀b xs,H b=pe (.tup xs)->H' b=pe (.tup xs)
theorem ii.kt(k:g_ H H')(h:ii H t d):ii H' t d:=by
 let⟨s,a,e⟩:=h;exact⟨s,k _ _ a,k _ _ e⟩
theorem cY.kt(e:cY p H a)(f:H p=pe (.lst xs)):g_ H a:=λb g h=>e b _ h (λz=>by rw[z,f]at h;cases h)
theorem ac.kt(e:ac H a):g_ H a:=λb f h=>e b _ h
theorem g_.trans(a:g_ H e)(b:g_ e f):g_ H f:=λx xs h=>b x xs<|a x xs h
theorem dO(h:H l=pe (.lst xs)):g_ H (upd H l o):=λb a e=>by
 rw[aj (λz=>by rw[z,h]at e;cases e)];exact e
abbrev df(H:Hp)(ts:Ze)(ds:List ak):Prop:=Paired (ii H) ts ds
theorem Paired.get{α β:Type}{R:α->β->Prop}{xs:List α}{a:List β}{i:Nat}{y:β}(g:Paired R xs a)(h:a[i]?=pe y):∃x,xs[i]?=pe x/\R x y:=by
 induction g generalizing i with
 |nil=>cases h
 |cons r _ e =>
  cases i with
  |zero=>injection h with h;subst h;exact⟨_,pw,r⟩
  |succ i=>exact e h
theorem Paired.getL{α β:Type}{R:α->β->Prop}{xs:List α}{a:List β}{i:Nat}{x:α}(g:Paired R xs a)(h:xs[i]?=pe x):∃y,a[i]?=pe y/\R x y:=by
 induction g generalizing i with
 |nil=>cases h
 |cons r _ e =>
  cases i with
  |zero=>injection h with h;subst h;exact⟨_,pw,r⟩
  |succ i=>exact e h
theorem df.kt(k:g_ H H')(h:df H a e):df H' a e:=Paired.OJ h λ_ _ r=>r.kt k
theorem RY(h:H a=pe o):upd H a o=H:=by
 funext b;by_cases e:b=a
 .subst e;rw[aa,h]
 .rw[aj e]
def dJ(x:WD):DT:=.k<|.inr x
def AS(d:ak):DT:=.t [dJ d.a,.t<|d.sg.map dJ,dJ d.b]
theorem qA(h:dJ x=dJ y):x=y:=by
 unfold dJ at h;injection h with h;injection h
theorem fu:∀{x y:Zb},x.map dJ=y.map dJ->x=y
 |[],[],_=>rfl
 |[],_::_,h=>by cases h
 |_::_,[],h=>by cases h
 |a::x,b::y,h=>by
  rw[bP,bP]at h;injection h with e f;rw[qA e,fu f]
theorem Lm(h:AS x=AS y):x=y:=by
 unfold AS at h;injection h with h;injection h with e h;injection h with a h;injection h with f h;injection a with a;cases x;cases y;simp only at *;rw[qA e,fu a,qA f]
theorem fW(xs:Zb):DT.l' (xs.map dJ)=0:=by
 induction xs with
 |nil=>rfl
 |cons x xs a=>rw[bP];show max (DT.depth<|dJ x) (DT.l' _)=0;rw[a];rfl
theorem AQ(d:ak):(AS d).depth=2:=by
 show DT.l' [dJ d.a,.t<|d.sg.map dJ,dJ d.b]+1=2;show max (DT.depth<|dJ d.a) (max (DT.l' (d.sg.map dJ)+1)<|max (DT.depth<|dJ d.b) 0)+1=2;rw[fW]
 rfl
theorem Ht(a:List ak):DT.l' (a.map AS)<=8:=by
 induction a with
 |nil=>exact cw _
 |cons x xs e=>rw[bP];show max (DT.depth<|AS x) (DT.l' _)<=8;rw[AQ];nofun
theorem mS{K:Za}:∀xs:List WD,wh K H (xs.map dJ) (xs.map V.str)
 |[]=>by show wh K H [] [];unfold wh;rfl
 |x::xs=>by
  rw[bP,bP];unfold wh;apply⟨_,_,pw,?_,mS xs⟩;unfold dJ gE
  rfl
theorem qZ{K:Za}(x:WD):gE K H (dJ x) (.str x):=by unfold dJ gE;rfl
theorem cN{K:Za}{a:Zb}(h:bj K H s<|a.map V.str):gE K H (.t<|a.map dJ) (.ref s):=by
 unfold gE;exact⟨s,_,pw,h,mS _⟩
theorem ii.SS{K:Za}(h:ii H t d):gE K H (AS d) (.ref t):=by
 let⟨s,a,e⟩:=h;unfold AS;unfold gE;apply⟨t,_,pw,bj.of a,?_⟩;unfold wh;apply⟨_,_,pw,qZ _,?_⟩;unfold wh;apply⟨_,_,pw,cN<|bj.of e,?_⟩;unfold wh;apply⟨_,_,pw,qZ _,?_⟩;unfold wh
 rfl
theorem df.Ru{K:Za}(h:df H a e):wh K H (e.map AS) (a.map V.ref):=by
 induction h with
 |nil=>show wh K H [] [];unfold wh;rfl
 |cons r _ f =>
  rw[bP,bP];unfold wh;exact⟨_,_,pw,r.SS,f⟩
theorem FR{a:List ak}:AS d∈a.map AS↔d∈a:=by
 constructor
 .intro h;let⟨x,hx,e⟩:=aV.mp h;rw[<-Lm e];exact hx
 .exact ma
def mG(ds:List ak)(d:ak):List ak:=if d∈ds then ds else ds++[d]
inductive lm (vs:List V)(H:Hp)(Q:VK)(E:XK):Prop
 |mk (l t:Wv) (ts:Ze) (ds:List ak) (d:ak):vs=[.ref l,.ref t]->H l=pe (.lst (ts.map V.ref))->df H ts ds->ii H t d->ds.length<=1000->(∀RU:List Wv,df H RU (mG ds d)->Q .L' (upd H l (.lst (RU.map V.ref))))->lm  vs H Q E
theorem Mz{K:Za}(h:lm i H Q E):Gy K (bH Q) (start HH i) H:=by
 let⟨l,t,j,g,d,rfl,a,e,m,n,k⟩:=h;apply⟨_,pw,_,pw,AS d,g.map AS,l,_,m.SS,pw,.inl<|aA.of a,e.Ru,by rw[AQ];decide,Ht g,_,pw,?_⟩;by_cases f:d∈g
 .rw[if_pos rfl,qh<|FR.mpr f];refine aY ?_;have:=k j (by unfold mG;rw[if_pos f];exact e);rw[RY a]at this;exact this
 .rw[if_pos rfl,qb<|λz=>f<|FR.mp z];refine bo ?_;apply⟨_,pw,.inl ⟨pw,_,aA.of a⟩,_,pw,l,_,_,pw,pw,a,?_,?_⟩
  .rw[am,Paired.length e];exact ax n
  .have:=k (j++[t]) (by unfold mG;rw[if_neg f];exact dI e m);rw[ay]at this;exact this
structure DI(R:ak->Prop)(H0:Hp)(p c l:Wv)(m:Nat)(H:Hp):Prop where
 pen:eF H p c
 ds:∃ts ds,H l=pe (.lst (ts.map V.ref))/\df H ts ds/\ds.Nodup/\(∀d∈ds,R d)/\ds.length<=m
 ex:cY p H0 H
 fr:H0 l=none
 pl:p≠l
 cl:c≠l
section
variable{R:ak->Prop}{H0 H H':Hp}{p c l:Wv}{m:Nat}
theorem eF.lst{H:Hp}{p c:Wv}(h:eF H p c):∃xs,H p=pe (.lst xs):=by
 let⟨a,r,f,e,_⟩:=h;exact⟨_,e⟩
theorem DI.Pg(h:DI R H0 p c l m H)(a:eF H' p c)(e:cY p H H'):DI R H0 p c l m H':=by
 let⟨f,g,i,j,k⟩:=h.ds;let⟨xs,hx⟩:=h.pen.lst;exact⟨a,⟨f,g,e _ _ i h.pl.symm,j.kt<|e.kt hx,k⟩,h.ex.trans e,h.fr,h.pl,h.cl⟩
theorem DI.new(h:DI R H0 p c l m H)(a:H q=none):DI R H0 p c l m (upd H q o) :=
 h.Pg (h.pen.ex<|ac.new a) (cY.new a)
theorem DI.up(h:DI R H0 p c l m H)(a:m<=n):DI R H0 p c l n H:=by
 let⟨e,f,g,i,j,k,o⟩:=h.ds;exact⟨h.pen,⟨e,f,g,i,j,k,bh o a⟩,h.ex,h.fr,h.pl,h.cl⟩
theorem DI.put(h:DI R H0 p c l m H)(r:ii H t d)(s:R d)(u:m<=1000)(k:∀H',DI R H0 p c l (m+1) H'->Q .L' H'):lm [.ref l,.ref t] H Q E:=by
 let⟨v,f,i,w,j,q,y⟩:=h.ds;apply⟨l,t,v,f,d,pw,i,w,r,bh y u,λg z=>k _ ⟨h.pen.upd h.pl h.cl,⟨g,mG f d,aa,z.kt<|dO i,?_,?_,?_⟩,?_,h.fr,h.pl,h.cl⟩⟩
 .unfold mG;split
  .exact j
  .next A =>
   rw[eK];apply⟨j,by simp,?_⟩;intro a B b C e;have:b=d:=by simpa using C
   subst this;exact A<|e▸B
 .intro x hx;unfold mG at hx;split at hx
  .exact q x hx
  .obtain hx|hx:=bp.mp hx
   .exact q x hx
   .have:x=d:=by simpa using hx
    rw[this];exact s
 .unfold mG;split
  .omega
  .rw[aH];show f.length+1<=m+1;nofun
 .intro b o e n;rw[aj<|ag e h.fr];exact h.ex b o e n
end
theorem eF.r3{g:Zb}(h:eF H p c)(f:H a=pe (.lst<|g.map V.str)):a≠p:=by
 intro e;let⟨x,y,j,i,_⟩:=h;rw[e,i]at f;injection f with f;injection f with f;cases g with
 |nil=>cases f
 |cons w g=>injection f with f;cases f
theorem iT{K:Za}{r:R2}(B:∀x y H Q,cg K x y H Q->r x y H Q){σ:L2.St}{H:Hp}{Q:VK}{p c a:Wv}{j:Nat}{e:Zb}(C:σ[0]?=pe (pe<|.ref p))(o:σ[j]?=pe (pe<|.ref a))(q:eF H p c)
  (g:H a=pe (.lst<|e.map V.str)) (h:e≠[]) (s:e.length<=1000) (k:∀w∈e,∀H',eF H' p c->cY p H H'->Q (.str w) H') :
  ∃v,σ[j]?=pe (pe v)/\∃t,σ[0]?=pe (pe t)/\∃u,σ[j]?=pe (pe u)/\dg K [u] H λy D=>ca [t,y] D (λy E=>r v y E Q) E0:=by
 have I:0<e.length:=by cases e with|nil=>exact absurd rfl h|cons _ _=>simp
 have G:(V.int ((e.map V.str).length:Nat))=V.int (e.length:Nat):=by rw[am]
 have i:=q.r3 g;have l:∀(x:Int) (H':Hp),0<=x->x<(e.length:Int)->eF H' p c->cY p H H'->cg K (.ref a) (.int x) H' Q:=by
  intro x H' m z f ex;let⟨n,rfl⟩:=i6 m;have A:n<e.length:=by nofun
  exact⟨a,_,(n:Int),.str e[n],pw,pw,aA.of<|ex _ _ g i,bA (by simp[A]),k _ (List.getElem_mem A) H' f ex⟩
 exact⟨_,o,_,C,_,o,.inl ⟨a,_,pw,.inl<|aA.of g,by rw[G];exact cJ q ⋯ ⋯ λx H' m z f ex=>B _ _ _ _<|l x H' m z f ex⟩⟩
def Up(up:Bool)(rooms:Zb)(a b:WD):Prop:=∃i j:Nat,rooms[i]?=pe a/\rooms[j]?=pe b/\(if up=true then i<j else j<i)
structure mW(J0 J2 rooms:Zb)(up:Bool)(d:ak):Prop where
 a:d.a∈rooms
 b:d.b∈rooms
 sg:(∃w∈J0,d.sg=[("ask":WD),w])∨(∃w∈J2,d.sg=[("say":WD),w])∨(d.sg=[("still":WD)]/\Up up rooms d.a d.b)
def ao:List WD:=[("still":WD)]
structure De(J0 J2 rooms:Zb)(d:ak):Prop where
 a:d.a∈rooms
 b:d.b∈rooms
 sg:(∃w∈J0,d.sg=[("ask":WD),w])∨(∃w∈J2,d.sg=[("say":WD),w])∨d.sg=ao
theorem mW.d{J0 e rooms:Zb}{up:Bool}{d:ak}(h:mW J0 e rooms up d):De J0 e rooms d:=⟨h.a,h.b,h.sg.imp id<|Or.imp id And.left⟩
inductive Reach(ds:List ak)(a:WD):WD->Prop
 |one {b:WD}(h:(⟨a,ao,b⟩:ak)∈ds):Reach ds a b
 |step {b c:WD}(r:Reach ds a b) (h:(⟨b,ao,c⟩:ak)∈ds):Reach ds a c
theorem uF{rooms:Zb}(m:rooms.Nodup){i j:Nat}{a:WD}(hi:rooms[i]?=pe a)(n:rooms[j]?=pe a):i=j:=by
 let⟨e,f⟩:=cx.mp hi;let⟨g,k⟩:=cx.mp n;have l:=List.pairwise_iff_getElem.mp m;obtain h|h|h:=Nat.lt_trichotomy i j
 .exact absurd (f.trans k.symm)<|l i j e g h
 .exact h
 .exact absurd (k.trans f.symm)<|l j i g e h
theorem Up.trans(f:rooms.Nodup)(g:Up up rooms a b)(l:Up up rooms b c):Up up rooms a c:=by
 let⟨i,j,m,n,h⟩:=g;let⟨q,k,o,p,e⟩:=l;have:=uF f n o;subst this;apply⟨i,k,m,p,?_⟩;cases up
 .simp at h e ⊢;nofun
 .simp at h e ⊢;nofun
theorem Up.We(e:rooms.Nodup)(h:Up up rooms a a):False:=by
 let⟨i,j,f,g,h⟩:=h;have:=uF e f g;subst this;cases up
 .simp at h
 .simp at h
theorem Ih(k:rooms.Nodup)(m:∀d∈g,mW i j rooms up d)(h:Reach g a b):Up up rooms a b:=by
 have f:∀{a b:WD},(⟨a,ao,b⟩:ak)∈g->Up up rooms a b:=by
  intro a b h;obtain⟨w,_,e⟩|⟨w,_,e⟩|⟨_,e⟩:=(m _ h).sg
  .cases e
  .cases e
  .exact e
 induction h with
 |one h=>exact f h
 |step r h l=>exact l.trans k<|f h
inductive ip (vs:List V)(H:Hp)(Q:VK)(E:XK):Prop
 |mk (p c l1 l2 l3:Wv) (J0 J2 rooms:Zb) (full:Int):vs=[.ref p,.ref l1,.ref l2,.ref l3,.int full]->eF H p c->H l1=pe (.lst (J0.map V.str))->H l2=pe (.lst (J2.map V.str))->H l3=pe (.lst (rooms.map V.str))->J0.length<=4->J2≠[]->J2.length<=4->rooms≠[]->rooms.length<=26->0<=full->full<=2->(∀(l:Wv) (ts:Ze) (ds:List ak) (up:Bool) (H':Hp),H l=none->H' l=pe (.lst (ts.map V.ref))->df H' ts ds->ds.Nodup->(∀d∈ds,mW J0 J2 rooms up d)->ds.length<=600->eF H' p c->cY p H H'->Q (.ref l) H')->ip  vs H Q E
theorem VJ(a:0<=x)(e:x<=2)(f:0<=r)(g:r<4):∃j:Int,A5 [V.int x,.int 1,.int 1,.int 2] r=pe (.int j)/\0<=j/\j<=2:=by
 have:r=0∨r=1∨r=2∨r=3:=by nofun
 obtain rfl|rfl|rfl|rfl:=this
 .exact⟨x,pw,a,e⟩
 .exact⟨1,pw,WE,WE⟩
 .exact⟨1,pw,WE,WE⟩
 .exact⟨2,pw,WE,WE⟩
theorem yI(a:Zb)(k:Nat):fQ (a.map V.str) (pe (k:Int)) none=(a.drop k).map V.str:=by
 unfold fQ;rw[HT.O4,HT.Ow,am,kY (by rw[d_,am];nofun),y8];by_cases h:k<=a.length
 .rw[uT h]
 .rw[Nat.min_eq_right ⋯,rO ∅,rO (by rw[am];nofun)]
theorem AT(a:Zb)(k:Nat):fQ (a.map V.str) none (pe (k:Int))=(a.take k).map V.str:=by
 unfold fQ;rw[HT.O4,HT.Ow,am,uY,Nat.sub_zero,uU,List.take_eq_take_iff,am];nofun
theorem wb{K:Za}{e:Zb}(h:aA K H a<|e.map V.str):gE K H (.s<|e.map dJ) (.ref a):=by
 unfold gE;exact⟨a,_,pw,h,mS _⟩
theorem Ll{K:Za}(h:aA K H a []):gE K H (.s []) (.ref a):=by
 unfold gE;apply⟨a,_,pw,h,?_⟩;unfold wh
 rfl
inductive Vw(G:ak->Prop)(H:Hp)(p c l l1 l2 l3:Wv)(full dn:Int)(i:Nat)(σ:L2.St)(H':Hp):Prop
 |mk (a7 a8 a9 Wm Wl Wk:Option V):σ=[pe (.ref p),pe (.ref l1),pe (.ref l2),pe (.ref l3),pe (.int full),pe (.ref l),pe (.int dn),a7,a8,a9,Wm,Wl,Wk]->DI G H p c l (11 * i) H'->Vw G H p c l l1 l2 l3 full dn i σ H'
theorem xy{K:Za}(h:ip vs H Q E):sy K ca lm (bH Q) (start tm vs) H:=by
 let⟨p,c,l1,l2,l3,J0,J2,rooms,a,rfl,hp,h1,h2,h3,ha,b5,hs,aX,hr,f0,f2,k⟩:=h;have n1:=hp.r3 h1;have n2:=hp.r3 h2;have n3:=hp.r3 h3;apply⟨Q0,λl hl=>?_⟩;have a0:=hp.Ry hl;have b6:=hp.Tv hl;apply⟨_,pw,cJ (hp.ex<|ac.new hl) WE WE λM H1 d0 d1 b7 a4=>?_⟩;generalize hG:mW J0 J2 rooms (decide (M=0))=G;have base:DI G H p c l 0 H1:=⟨b7,⟨[],[],a4 _ _ aa a0.symm,.nil,rT,by simp,cw _⟩,(cY.new hl).trans a4,hl,a0,b6⟩;apply⟨_,pw,l3,pw,⟨_,aA.of<|base.ex _ _ h3 n3⟩,?_⟩;refine kN (xs:=rooms.map V.str) (Vw G H p c l l1 l2 l3 a M)
  ⟨_,_,_,_,_,_,pw,base⟩ (λi σ H' _ zq=>by let⟨_,_,_,_,_,_,_,D⟩:=zq;exact aA.of<|D.ex _ _ h3 n3) ?_ ?_
 .rintro i x σ H' t hi ⟨a7,a8,C,m,v,A,rfl,D⟩ ht;obtain⟨room,f,rfl⟩:∃room,rooms[i]?=pe room/\x=V.str room:=by
   rw[eL]at hi;cases q:rooms[i]? with
   |none=>rw[q]at hi;cases hi
   |some r=>rw[q]at hi;exact⟨r,pw,(ff hi).symm⟩
  have c1:i<rooms.length:=(cx.mp f).1;have N:room∈rooms:=cH f;apply⟨t,_,pw,bj.of aa,pw,_,_,pw,_,_,pw,pw,?_⟩;have D1:=D.new ht (o:=.tup [.int i,.str room]);apply⟨Q4,λq hq=>⟨_,pw,cJ (D1.new hq).pen WE WE λr H2 r0 r1 b8 a5=>?_⟩⟩;let⟨j,hj,j0,j2⟩:=VJ (x:=0) WE WE r0 r1;have D2:=(D1.new hq).Pg b8 a5;apply⟨q,_,_,_,pw,pw,aA.of<|a5 q _ aa (D1.pen.Ry hq).symm,hj,j,pw,by nofun,by nofun,?_⟩
  let b9:Nat->L2.St->Hp->Prop:=λi' σ O=>NZ λ(C m:Option V)=>σ=[pe<|.ref p,pe<|.ref l1,pe<|.ref l2,pe<|.ref l3,pe<|.int a,pe<|.ref l,pe<|.int M,pe<|.int i,pe<|.str room,C,m,v,A]/\DI G H p c l (11 * i+i') O
  refine kM (lo:=0) (n:=j.toNat) b9
   ⟨_,_,pw,D2⟩ ?_ ?_
  .rintro i' σ H3 I ⟨C,m,rfl,D3⟩;refine iT (λ_ _ _ _ h=>h) rfl rfl D3.pen (D3.ex _ _ h2 n2) b5 ⋯ λw hw H4 cb cc=>?_;have D4:=D3.Pg cb cc;apply⟨Q2,λL g=>?_⟩;have D5:=D4.new g (o:=.tup [.str "say",.str w]);apply⟨_,pw,_,pw,_,pw,iT (λ_ _ _ _ h=>h) rfl rfl D5.pen (D5.ex _ _ h3 n3) aX ⋯ λU J H6 ce a6=>?_⟩;have D6:=D5.Pg ce a6;apply⟨Q3,λdr u=>?_⟩;have D7:=D6.new u (o:=.tup [.str room,.ref L,.str U]);have bd:H6 L=pe (.tup [.str "say",.str w]):=a6 _ _ aa (D4.pen.Ry g).symm;refine D7.put (d:=⟨room,["say",w],U⟩) ⟨L,aa,kp bd u⟩ ?_ ⋯ λH8 Y=>⟨_,_,pw,Y⟩;rw[<-hG];exact⟨N,J,.inr<|.inl ⟨w,hw,pw⟩⟩
  rintro σ H3 ⟨C,m,rfl,bi⟩;have D3:DI G H p c l (11 * i+2) H3:=bi.up ⋯;clear bi;apply⟨_,pw,l1,pw,⟨_,aA.of<|D3.ex _ _ h1 n1⟩,?_⟩
  let ch:Nat->L2.St->Hp->Prop:=λi' σ O=>NZ λ(C v:Option V)=>σ=[pe<|.ref p,pe<|.ref l1,pe<|.ref l2,pe<|.ref l3,pe<|.int a,pe<|.ref l,pe<|.int M,pe<|.int i,pe<|.str room,C,m,v,A]/\DI G H p c l (11 * i+2+2 * i') O
  refine cr (xs:=J0.map V.str) ch
   ⟨_,_,pw,D3⟩ (λi σ H' _ zq=>by let⟨_,_,_,D⟩:=zq;exact aA.of<|D.ex _ _ h1 n1) ?_ ?_
  .rintro i' x σ H4 I ⟨C,v,rfl,D4⟩;obtain⟨ask,al,rfl⟩:∃ask,J0[i']?=pe ask/\x=V.str ask:=by
    rw[eL]at I;cases q:J0[i']? with
    |none=>rw[q]at I;cases I
    |some r=>rw[q]at I;exact⟨r,pw,(ff I).symm⟩
   have c2:i'<J0.length:=(cx.mp al).1;have ci:ask∈J0:=cH al;apply⟨_,pw,Q4,λq hq=>⟨_,pw,cJ (D4.new hq).pen WE WE λr H5 r0 r1 ck bl=>?_⟩⟩;let⟨j,hj,j0,j2⟩:=VJ f0 f2 r0 r1;have D5:=(D4.new hq).Pg ck bl;apply⟨q,_,_,_,pw,pw,aA.of<|bl q _ aa (D4.pen.Ry hq).symm,hj,j,pw,by nofun,by nofun,?_⟩
   let cl:Nat->L2.St->Hp->Prop:=λbm σ O=>∃C:Option V,σ=[pe<|.ref p,pe<|.ref l1,pe<|.ref l2,pe<|.ref l3,pe<|.int a,pe<|.ref l,pe<|.int M,pe<|.int i,pe<|.str room,C,m,pe<|.str ask,A]/\DI G H p c l (11 * i+2+2 * i'+bm) O
   refine kM (lo:=0) (n:=j.toNat) cl
    ⟨_,pw,D5⟩ ?_ ?_
   .rintro bm σ H6 c0 ⟨C,rfl,D6⟩;apply⟨_,pw,_,pw,_,pw,Q2,λL g=>?_⟩;have D7:=D6.new g (o:=.tup [.str "ask",.str ask]);refine iT (λ_ _ _ _ h=>h) rfl rfl D7.pen (D7.ex _ _ h3 n3) aX ⋯ λU J H8 cm bn=>?_;have Y:=D7.Pg cm bn;apply⟨Q3,λdr u=>?_⟩;have D9:=Y.new u (o:=.tup [.str room,.ref L,.str U]);have bw:H8 L=pe (.tup [.str "ask",.str ask]):=bn _ _ aa (D6.pen.Ry g).symm;refine D9.put (d:=⟨room,["ask",ask],U⟩) ⟨L,aa,kp bw u⟩ ?_ ⋯ λH8 Y=>⟨_,pw,Y⟩;rw[<-hG];exact⟨N,J,.inl ⟨ask,ci,pw⟩⟩
   .rintro σ H6 ⟨C,rfl,D6⟩;exact⟨_,_,pw,D6.up ⋯⟩
  rintro σ H4 ⟨C,v,rfl,b0⟩;have D4:DI G H p c l (11 * i+10) H4:=b0.up (by rw[am];nofun);clear b0;have B:∀(H9:Hp) (A:Option V),DI G H p c l (11 * i+11) H9->Vw G H p c l l1 l2 l3 a M (i+1) [pe<|.ref p,pe<|.ref l1,pe<|.ref l2,pe<|.ref l3,pe<|.int a,pe<|.ref l,pe<|.int M,pe<|.int i,pe<|.str room,C,m,v,A] H9:=λH9 A D9=>⟨_,_,_,_,_,_,pw,D9.up ⋯⟩;apply⟨_,pw,_,pw,_,_,pw,pw,_,pw,l3,_,pw,aA.of<|D4.ex _ _ h3 n3,λq1 cn=>?_⟩;have D5:=D4.new cn (o:=.lst<|fQ (rooms.map V.str) (pe<|(i:Int)+1) none);apply⟨_,pw,_,pw,_,pw,l3,_,pw,aA.of<|D5.ex _ _ h3 n3,λq2 b1=>?_⟩;have e1:fQ (rooms.map V.str) (pe<|(i:Int)+1) none=(rooms.drop<|i+1).map V.str:=yI rooms<|i+1;rw[AT];have D6:=D5.new b1 (o:=.lst<|(rooms.take i).map V.str);apply⟨Q2,λq3 as=>?_⟩;have D7:=D6.new as (o:=.lst [.ref q1,.ref q2]);obtain⟨lt,q,hq,ab,T⟩:∃(lt:Zb) (q:Wv),A5 [V.ref q1,.ref q2] M=pe (.ref q) /\
    upd (upd (upd H4 q1<|.lst<|fQ (rooms.map V.str) (pe<|(i:Int)+1) none) q2<|.lst<|(rooms.take i).map V.str) q3 (.lst [.ref q1,.ref q2]) q=pe (.lst<|lt.map V.str)/\lt.length<=26 /\
    ∀w∈lt,w∈rooms/\Up (decide (M=0)) rooms room w:=by
   have:M=0∨M=1:=by nofun
   obtain rfl|rfl:=this
   .refine⟨rooms.drop<|i+1,q1,pw,?_,by rw[d_];nofun,λw hw=>⟨y4 hw,?_⟩⟩
    .refine(kp (kp aa b1) as).trans ?_;rw[e1]
    .obtain⟨n,hn⟩:=rJ hw;rw[List.getElem?_drop]at hn;exact⟨i,i+1+n,f,hn,by rw[if_pos WE];nofun⟩
   .refine⟨rooms.take i,q2,pw,?_,by rw[aP];nofun,λw hw=>⟨j5 hw,?_⟩⟩
    .exact kp aa as
    .obtain⟨n,hn⟩:=rJ hw;have co:n<i:=by
      have:=(cx.mp hn).1;rw[aP]at this;nofun
     rw[List.getElem?_take_of_lt co]at hn;exact⟨i,n,f,hn,by rw[if_neg WE];nofun⟩
  apply⟨_,pw,q3,_,_,_,pw,pw,aA.of aa,hq,?_⟩;generalize upd (upd (upd H4 q1<|.lst<|fQ (rooms.map V.str) (pe<|(i:Int)+1) none) q2<|.lst<|(rooms.take i).map V.str) q3 (.lst [.ref q1,.ref q2])=H7 at D7 ab ⊢;apply⟨_,pw,Q0,λe he=>⟨.s<|lt.map dJ,.s [],wb<|aA.of<|kp ab he,Ll<|aA.of aa,?_,WE,_,pw,?_⟩⟩
  .show DT.l' (lt.map dJ)+1<=8;rw[fW];decide
  have Y:=D7.new he (o:=.lst []);by_cases hz:lt=[]
  .have ez:(!decide (DT.s (lt.map dJ)=DT.s []))=false:=by rw[hz,qh (by rfl)];rfl
   rw[ez];exact aY (aY (B _ _ (Y.up ⋯)))
  .have ez:(!decide (DT.s (lt.map dJ)=DT.s []))=true:=by
    rw[qb (λz=>hz (fu (y:=[]) (by injection z)))];rfl
   rw[ez];refine bo ?_;apply⟨_,pw,cJ Y.pen WE WE λr H9 r0 r1 cq b2=>⟨pw,_,pw,?_⟩⟩;have D9:=Y.Pg cq b2;refine kb (λ_=>?_) (λ_=>B _ _ (D9.up ⋯));apply⟨_,pw,_,pw,Q1,λL g=>?_⟩;have b3:=D9.new g (o:=.tup [.str "still"]);have aC:upd H9 L (.tup [.str "still"]) q=pe (.lst<|lt.map V.str):=kp (b2 _ _ (kp ab he)<|Y.pen.r3<|kp ab he) g;refine iT (λ_ _ _ _ h=>.inl h) rfl rfl b3.pen aC hz ⋯ λU J cs b4 an=>?_;have ct:=b3.Pg b4 an;apply⟨Q3,λdr u=>?_⟩;have cB:=ct.new u (o:=.tup [.str room,.ref L,.str U]);have aT:cs L=pe (.tup [.str "still"]):=an _ _ aa (D9.pen.Ry g).symm;refine cB.put (d:=⟨room,[("still":WD)],U⟩) ⟨L,aa,kp aT u⟩ ?_ ⋯ λc3 cC=>B _ _ cC;rw[<-hG];exact⟨N,(T.2 U J).1,.inr<|.inr ⟨pw,(T.2 U J).2⟩⟩
 .rintro σ H' ⟨a7,a8,C,m,v,A,rfl,D⟩;let⟨ts,ds,g1,g2,g3,g4,g5⟩:=D.ds;rw[am]at g5;rw[<-hG]at g4;exact⟨_,pw,k l ts ds _ H' hl g1 g2 g3 g4 ⋯ D.pen D.ex⟩
structure aE(J0 J2 rooms:Zb)(ds:List ak):Prop where
 Tu:jT J0
 Tz:jT J2
 apart:∀w∈J2,w∉J0
 RX:jT rooms
 PJ:J0≠[]
 P2:J2≠[]
 OI:rooms≠[]
 O':J0.length<=4
 Pd:J2.length<=4
 A3:rooms.length<=150
 nodup:ds.Nodup
 good:∀d∈ds,De J0 J2 rooms d
 Qb:ds.length<=1000
 OB:∀r,¬Reach ds r r
structure eD(H:Hp)(t l1 l2 l3 l4:Wv)(ts:Ze)(J0 J2 rooms:Zb)(ds:List ak):Prop where
 t:H t=pe (.tup [.ref l1,.ref l2,.ref l3,.ref l4])
 a1:H l1=pe (.lst (J0.map V.str))
 a2:H l2=pe (.lst (J2.map V.str))
 a3:H l3=pe (.lst (rooms.map V.str))
 a4:H l4=pe (.lst (ts.map V.ref))
 ds:df H ts ds
theorem eF.So{g:Ze}(i:eF H p c)(f:H a=pe (.lst<|g.map V.ref)):a≠p:=by
 intro e;let⟨x,y,k,j,_⟩:=i;rw[e,j]at f;injection f with f;injection f with f;cases g with
 |nil=>cases f
 |cons w h =>
  injection f with _ f;cases h with
  |nil=>cases f
  |cons w h=>injection f with f;cases f
theorem eD.ex{H f:Hp}{p c t g i l3 j:Wv}{k:Ze}{l m rooms:Zb}{n:List ak}(h:eD H t g i l3 j k l m rooms n)(a:eF H p c)(e:cY p H f):eD f t g i l3 j k l m rooms n:=by
 let⟨xs,hx⟩:=a.lst;exact⟨e.kt hx _ _ h.t,e _ _ h.a1<|a.r3 h.a1,e _ _ h.a2<|a.r3 h.a2,e _ _ h.a3<|a.r3 h.a3,e _ _ h.a4<|a.So h.a4,h.ds.kt<|e.kt hx⟩
theorem eD.same{H a:Hp}{t f g l3 i:Wv}{j:Ze}{k l rooms:Zb}{m:List ak}(h:eD H t f g l3 i j k l rooms m)(e:ac H a):eD a t f g l3 i j k l rooms m :=
 ⟨e _ _ h.t,e _ _ h.a1,e _ _ h.a2,e _ _ h.a3,e _ _ h.a4,h.ds.kt<|ac.kt e⟩
inductive qq (vs:List V)(H:Hp)(Q:VK)(E:XK):Prop
 |mk (p c:Wv) (most full:Int):vs=[.ref p,.int most,.int full]->eF H p c->0<most->most<=25->0<=full->full<=2->(∀(t l1 l2 l3 l4:Wv) (ts:Ze) (J0 J2 rooms:Zb) (ds:List ak) (H':Hp),eD H' t l1 l2 l3 l4 ts J0 J2 rooms ds->aE J0 J2 rooms ds->rooms.length<=most.toNat->ds.length<=600->eF H' p c->cY p H H'->Q (.ref t) H')->qq  vs H Q E
theorem VI(a:0<=r)(e:r<6):∃n:Nat,A5 [V.int 0,.int 1,.int 1,.int 2,.int 2,.int 3] r=pe (.int n)/\n<=3:=by
 have:r=0∨r=1∨r=2∨r=3∨r=4∨r=5:=by nofun
 obtain rfl|rfl|rfl|rfl|rfl|rfl:=this
 .exact⟨0,pw,WE⟩
 .exact⟨1,pw,WE⟩
 .exact⟨1,pw,WE⟩
 .exact⟨2,pw,WE⟩
 .exact⟨2,pw,WE⟩
 .exact⟨3,pw,WE⟩
theorem JP{a:Zb}(e:a.length=8){n:Nat}(j:n<=3):fQ (a.map V.str) (pe 4) (pe<|5+(n:Int))=((a.drop 4).take<|1+n).map V.str:=by
 unfold fQ;have f:HT.Hx (a.map V.str).length 0 (pe 4)=min 4 (a.map V.str).length:=HT.Ow _ _ 4;have g:HT.Hx (a.map V.str).length (a.map V.str).length (pe<|5+(n:Int))=min (5+n) (a.map V.str).length:=HT.Ow _ _<|5+n;rw[f,g,am,e,uU,y8];have h:min 4 8=4:=by decide
 have i:min (5+n) 8-4=1+n:=by nofun
 rw[h,i]
theorem IG{K:Za}(h:qq vs H Q E):BD K ip mC ca uw (bH Q) (start C8 vs) H:=by
 let⟨p,c,b2,ab,rfl,hp,m0,m1,f0,f2,k⟩:=h;apply⟨_,pw,p,c,pw,hp,λH1 a4 a5=>?_⟩;apply⟨_,pw,p,c,8,pw,a4,WE,λlw a H2 ok len fr hl A a6=>?_⟩;have e2:=a5.trans a6;have nw:=A.r3 hl;apply⟨_,pw,Q6,λq f=>⟨_,pw,cJ (A.ex<|ac.new f) WE WE λr B r0 r1 a7 C=>?_⟩⟩;let⟨n,hn,n3⟩:=VI r0 r1;have al:B lw=pe (.lst<|a.map V.str):=C _ _ (kp hl f) nw;apply⟨q,_,_,_,pw,pw,aA.of<|C _ _ aa (A.Ry f).symm,hn,_,_,pw,pw,_,pw,lw,_,pw,aA.of al,λg D=>?_⟩;have ea:fQ (a.map V.str) none (pe<|1+(n:Int))=(a.take<|1+n).map V.str:=AT a<|1+n;rw[ea];have e3:cY p H B:=e2.trans<|(cY.new f).trans C;have i:eF (upd B g<|.lst<|(a.take<|1+n).map V.str) p c:=a7.ex<|ac.new D;have e4:cY p H (upd B g<|.lst<|(a.take<|1+n).map V.str):=e3.trans<|cY.new D;have an:upd B g (.lst<|(a.take<|1+n).map V.str) lw=pe (.lst<|a.map V.str):=kp al D;have G:upd B g (.lst<|(a.take<|1+n).map V.str) g=pe (.lst<|(a.take<|1+n).map V.str):=aa;generalize upd B g (.lst<|(a.take<|1+n).map V.str)=H4 at i e4 an G ⊢;apply⟨_,pw,_,pw,Q6,λq f=>⟨_,pw,cJ (i.ex<|ac.new f) WE WE λr u r0 r1 a8 j=>?_⟩⟩;let⟨m,hm,m3⟩:=VI r0 r1;have a9:u lw=pe (.lst<|a.map V.str):=j _ _ (kp an f) nw;have bd:u g=pe (.lst<|(a.take<|1+n).map V.str):=j _ _ (kp G f)<|i.r3 G;apply⟨q,_,_,_,pw,pw,aA.of<|j _ _ aa (i.Ry f).symm,hm,_,_,pw,pw,_,pw,lw,_,pw,aA.of a9,λv I=>?_⟩;rw[JP len m3];have e5:cY p H u:=e4.trans<|(cY.new f).trans j;have l:eF (upd u v<|.lst<|((a.drop 4).take<|1+m).map V.str) p c:=a8.ex<|ac.new I;have e6:cY p H (upd u v<|.lst<|((a.drop 4).take<|1+m).map V.str):=e5.trans<|cY.new I;have J:upd u v (.lst<|((a.drop 4).take<|1+m).map V.str) g=pe (.lst<|(a.take<|1+n).map V.str):=kp bd I;have L:upd u v (.lst<|((a.drop 4).take<|1+m).map V.str) v=pe (.lst<|((a.drop 4).take<|1+m).map V.str):=aa;generalize upd u v (.lst<|((a.drop 4).take<|1+m).map V.str)=H6 at l e6 J L ⊢;apply⟨_,pw,_,pw,_,pw,cJ l m0 ⋯ λr H7 r0 r1 M N=>?_⟩;let⟨rn,rfl⟩:=i6 r0;have as:=N _ _ J<|l.r3 J;have aC:=N _ _ L<|l.r3 L;apply⟨_,_,pw,pw,p,c,1+rn,pw,M,by nofun,λl3 rooms H8 O x b3 e o T=>?_⟩;have U:=T _ _ as<|M.r3 as;have Y:=T _ _ aC<|M.r3 aC;have aT:(a.drop 4).take (1+m)≠[]:=by
  intro z;have:=congrArg List.length z;rw[aP,d_,len]at this;simp at this
 have bi:a.take (1+n)≠[]:=by
  intro z;have:=congrArg List.length z;rw[aP,len]at this;simp at this
 have aX:rooms≠[]:=by
  intro z;rw[z]at x;simp at x;nofun
 apply⟨_,pw,_,pw,_,pw,_,pw,_,pw,p,c,g,v,l3,_,_,rooms,ab,pw,o,U,Y,e,by rw[aP];nofun,aT,by rw[aP];nofun,aX,by nofun,f0,f2,λl4 ts ds up H9 b4 a0 bl bm y Qb bn s=>?_⟩;have bw:=s _ _ U<|o.r3 U;have b0:=s _ _ Y<|o.r3 Y;have b1:=s _ _ e<|o.r3 e;apply⟨_,pw,_,pw,_,pw,_,pw,Q4,λt ht=>k t g v l3 l4 ts _ _ rooms ds _ ⟨aa,kp bw ht,kp b0 ht,kp b1 ht,kp a0 ht,bl.kt<|ac.kt<|ac.new ht⟩ ?_ ?_ Qb (bn.ex<|ac.new ht) ?_⟩
 .refine⟨⟨?_,λw h=>ok.2 w<|j5 h⟩,⟨?_,λw h=>ok.2 w<|y4<|j5 h⟩,?_,O,bi,aT,aX,by rw[aP];nofun,by rw[aP];nofun,by nofun,bm,λd hd=>(y d hd).d,by nofun,λr z=>(Ih O.1 y z).We O.1⟩
  .exact ok.1.sublist<|List.take_sublist _ _
  .exact ok.1.sublist<|(List.take_sublist _ _).trans<|List.drop_sublist _ _
  .intro w h1 h2;have h3:w∈a.drop 4:=j5 h1;have h4:w∈a.take 4:=by
    have:a.take (1+n)=(a.take 4).take (1+n):=by rw[List.take_take];congr 1;nofun
    rw[this]at h2;exact j5 h2
   have:=ok.1;rw[<-y3 4 a,eK]at this;exact this.2.2 w h4 w h3 rfl
 .omega
 .exact(((e6.trans N).trans T).trans s).trans<|cY.new ht
theorem bJ{a:Zb}{i:Nat}{x:V}(h:(a.map V.str)[i]?=pe x):∃w,a[i]?=pe w/\x=.str w:=by
 rw[eL]at h;cases q:a[i]? with
 |none=>rw[q]at h;cases h
 |some r=>rw[q]at h;exact⟨r,pw,(ff h).symm⟩
theorem take_snoc{α:Type}{a:List α}{i:Nat}{w:α}(h:a[i]?=pe w):a.take (i+1)=a.take i++[w]:=by
 let⟨hi,rfl⟩:=cx.mp h;rw[List.take_succ_eq_append_getElem hi]
def qM(w:WD):Bool:=!decide (w=("":WD)) && (decide (w.length<=8) && w.cps.toList.all λc=>decide (c∈("abcdefghijklmnopqrstuvwxyz":WD).cps.toList))
theorem js.b(h:js w):qM w=true:=by
 unfold qM;have a:¬(w=("":WD)):=λe=>by
  have:=h.lo;rw[e]at this;exact absurd this (by decide +kernel)
 rw[qb a,qh h.hi,Bool.not_false,uQ,uQ,u_];intro c f;let⟨g,i⟩:=h.al c f;refine qh ?_;have:=Gh (c-97) ⋯;have e:97+(c-97)=c:=by nofun
 rw[e]at this;exact cH this
inductive Ox (vs:List V)(H:Hp)(Q:VK)(E:XK):Prop
 |mk (w:WD):vs=[.str w]->w.length<=1000->(∀H',ac H H'->Q (.bl (qM w)) H')->Ox  vs H Q E
theorem Ee{K:Za}(h:Ox a H Q E):GB K (bH Q) (start HK a) H:=by
 let⟨w,rfl,s,k⟩:=h;apply⟨_,pw,pw,_,pw,?_⟩;have t:(!decide (V.str w=V.str ("":WD)))=!decide (w=("":WD)):=by
  congr 1;by_cases e:w=("":WD)
  .rw[qh e,qh (by rw[e])]
  .rw[qb e,qb (λz=>e (by injection z))]
 rw[t];refine kb (λm=>?_)<|λm=>?_
 .refine⟨_,pw,.inr ⟨w,pw,eo<|ax s,_,_,pw,pw,_,pw,?_⟩⟩;refine kb (λn=>?_)<|λn=>?_
  .refine⟨_,pw,w,pw,λl r=>?_⟩
   let p:Nat->List V->Hp->Prop:=λi a j=>a=((w.cps.toList.take i).map λc=>V.bl<|decide (c∈("abcdefghijklmnopqrstuvwxyz":WD).cps.toList))/\ac H j/\j l=pe (.lst a)
   refine JQ p
    ⟨pw,ac.new r,aa⟩ (λi a j _ h=>h.2.2) ?_ ?_
   .rintro a j ⟨rfl,q,f⟩;apply⟨l,w.cps.toList.map λc=>decide (c∈("abcdefghijklmnopqrstuvwxyz":WD).cps.toList),pw,aA.of ?_,?_⟩
    .rw[f,uR];have:w.cps.toList.take w.cps.size=w.cps.toList:=by
      rw[kY];simp
     rw[this]
     rfl
    .have:=k j q;have g:decide (w.length<=8)=true:=qh (by have:=of_decide_eq_true n;nofun);unfold qM at this;rw[m,g,uQ,uQ]at this;rw[List.all_map];exact this
   .rintro i a j c u hi ⟨rfl,q,f⟩;refine gN<|oQ ?_;apply⟨_,pw,c,_,pw,pw,f,?_,rC hi ⟨?_,?_,aa⟩⟩
    .rw[am,aP];have:w.length=w.cps.toList.length:=fX w;exact ax ⋯
    .rw[take_snoc (by rw[<-u];simp),ay]
     rfl
    .intro b o e;rw[aj<|ag e r];exact q b o e
  .have:=k H<|ac.refl H;have g:decide (w.length<=8)=false:=qb (λz=>n (qh ⋯));unfold qM at this;rw[m,g,uQ,Fe]at this;exact this
 .have:=k H<|ac.refl H;unfold qM at this;rw[Bool.eq_false_iff.mpr m,Fe]at this;exact this
def bR(ws:Zb):List (cD×V):=ws.foldl (λacc w=>eQ acc (.inr w)<|.bl true) []
theorem gA(a:Zb)(w:WD):bR (a++[w])=eQ (bR a) (.inr w) (.bl true):=by
 unfold bR;rw[uP]
 rfl
theorem B_[DecidableEq κ](a:List<|κ×V)(k:κ)(v:V):(eQ a k v).length<=a.length+1:=by
 unfold eQ;split
 .rw[am];nofun
 .rw[aH];exact aB _
theorem mr{α:Type}(P:List α->Prop)(f:P [])(g:∀a w,P a->P (a++[w]))(a:List α):P a:=by
 have:∀n (a:List α),a.length=n->P a:=by
  intro n
  induction n with
  |zero=>intro a h;rw[List.length_eq_zero_iff.mp h];exact f
  |succ n i =>
   intro a h;have e:a≠[]:=λz=>by rw[z]at h;cases h
   rw[<-List.dropLast_concat_getLast e];exact g _ _ (i _ (by rw[List.length_dropLast,h];rfl))
 exact this _ a rfl
theorem pf(a:Zb):(bR a).length<=a.length:=by
 refine mr (λa=>(bR a).length<=a.length) (aB _) (λa w h=>?_) a;show(bR<|a++[w]).length<=(a++[w]).length;rw[gA,aH];have:=B_ (bR a) (.inr w)<|.bl true;show _<=a.length+1;nofun
theorem vZ(a:Zb)(x:WD):c8 (bR a) (.inr x)=if x∈a then pe (.bl true)else none:=by
 refine mr (λa=>c8 (bR a) (.inr x)=if x∈a then pe (.bl true)else none) rfl (λa w h=>?_) a
 show c8 (bR<|a++[w]) (.inr x)=_;rw[gA,Bv,h];by_cases e:x=w
 .subst e;rw[if_pos rfl,if_pos ∅]
 .have f:¬((Sum.inr x:cD)=.inr w):=λz=>e (by injection z);rw[if_neg f];by_cases m:x∈a
  .rw[if_pos m,if_pos<|ej _ m]
  .rw[if_neg m,if_neg (λz=>by obtain z|z:=bp.mp z;exact m z;exact e (by simpa using z))]
theorem i3(a:Zb)(x:WD):(c8 (bR a)<|.inr x).isSome=decide (x∈a):=by
 rw[vZ];by_cases m:x∈a
 .rw[if_pos m,qh m];rfl
 .rw[if_neg m,qb m];rfl
inductive yl(K:Za)(vs:List V)(H:Hp)(Q:VK)(E:XK):Prop
 |mk (l:Wv) (ws:Zb):vs=[.ref l]->aA K H l (ws.map V.str)->ws.length<=1000->(∀d,H d=none->Q (.ref d) (upd H d (.dK (bR ws))))->yl K vs H Q E
theorem Eh{K:Za}(h:yl K o H Q E):GD K (bH Q) (start HL o) H:=by
 let⟨l,j,rfl,q,t,k⟩:=h;refine λd p=>?_;have a:∀f,aA K (upd H d<|.dK f) l (j.map V.str):=λf=>(ac.new p).seq q;apply⟨_,pw,l,pw,⟨_,a _⟩,?_⟩
 let n:Nat->L2.St->Hp->Prop:=λi σ m=>∃x,σ=[pe<|.ref l,pe<|.ref d,x]/\m=upd H d (.dK<|bR<|j.take i)
 refine cr (xs:=j.map V.str) n ⟨_,pw,pw⟩ (λi σ m _ r=>by let⟨_,_,e⟩:=r;exact by rw[e];exact a _) ?_ ?_
 .rintro i x σ m hi ⟨y,rfl,rfl⟩;let⟨w,s,rfl⟩:=bJ hi;have g:(bR<|j.take i).length<ai:=ax (bh (pf _) (by rw[aP];nofun));apply⟨_,pw,_,pw,d,_,pw,.inl ⟨_,.inr w,aa,pw,g,pw⟩,_,pw,?_⟩;rw[nh,take_snoc s,gA]
 .rintro σ m ⟨x,rfl,rfl⟩;rw[am,bC];exact⟨_,pw,k d p⟩
def JD(most:Nat):Nat->List WD->List WD->Option Nat
 |_,_,[]=>none
 |i,ahead,n::ns=>if i=most∨n∈ahead∨qM n=false then pe i else JD most (i+1) (ahead++[n]) ns
def dz(names:Zb)(most:Nat)(taken:Zb):Option Nat:=if names=[]then pe 0 else JD most 0 taken names
def oV:Option Nat->V
 |none=>.L'
 |some i=>.int i
inductive r6(K:Za)(vs:List V)(H:Hp)(Q:VK)(E:XK):Prop
 |mk (l t:Wv) (names taken:Zb) (most:Nat):vs=[.ref l,.int most,.ref t]->aA K H l (names.map V.str)->aA K H t (taken.map V.str)->names.length+taken.length<=1000->((∀w∈names,w.length<=1000))->(∀H',ac H H'->Q (oV (dz names most taken)) H')->r6 K vs H Q E
theorem tf{K:Za}(a:aA K H l<|ws.map V.str)(e:ws.length<=1000)(k:∀d,H d=none->Q (.ref d) (upd H d<|.dK<|bR ws)):yl K [.ref l] H Q E:=by
 exact⟨l,ws,pw,a,e,k⟩
theorem Hl(e:w.length<=1000)(k:∀a,ac H a->Q (.bl<|qM w) a):Ox [.str w] H Q E:=by
 exact⟨w,pw,e,k⟩
theorem nX{K:Za}(h:r6 K M H Q E):oS K Ox (yl K) (bH Q) (start pD M) H:=by
 let⟨l,t,names,taken,a,rfl,v,U,hz,Y,k⟩:=h;apply⟨_,pw,.inl ⟨l,_,pw,.inl v,pw,_,pw,?_⟩⟩;by_cases A:names=[]
 .subst A;refine bo ?_;have:=k H<|ac.refl H;exact this
 have e0:decide (V.int ((names.map V.str).length:Nat)=V.int 0)=false:=qb (λz=>A (by
  injection z with z;rw[am]at z;exact List.length_eq_zero_iff.mp ⋯))
 rw[e0];refine aY ?_;have r:∀H',ac H H'->Q (oV<|JD a 0 taken names) H':=by
  unfold dz at k;rw[if_neg A]at k;exact k
 apply⟨_,pw,tf U ⋯ λd B=>?_⟩;apply⟨_,pw,l,pw,⟨_,(ac.new B).seq v⟩,?_⟩
 let C:Nat->L2.St->Hp->Prop:=λi σ H'=>∃x y,σ=[pe<|.ref l,pe<|.int a,pe<|.ref t,pe<|.ref d,x,y]/\ac H H'/\H' d=pe (.dK<|bR<|taken++names.take i)/\JD a i (taken++names.take i) (names.drop i)=JD a 0 taken names
 refine kN (xs:=names.map V.str) C
  ⟨_,_,pw,ac.new B,by rw[uO,eI];exact aa,by rw[uO,eI,uY]⟩ (λi σ H' _ zq=>by let⟨_,_,_,n,_⟩:=zq;exact n.seq v) ?_ ?_
 .rintro i x σ H' q hi ⟨x4,x5,rfl,n,D,hf⟩ N;let⟨w,f,rfl⟩:=bJ hi;have G:i<names.length:=(cx.mp f).1;have ed:names.drop i=w::names.drop (i+1):=by
   rw[zh G];congr 1;exact(cx.mp f).2
  rw[ed]at hf;have j:upd H' q (.tup [.int i,.str w]) d=pe (.dK<|bR<|taken++names.take i):=kp D N;have g:ac H (upd H' q<|.tup [.int i,.str w]):=n.trans<|ac.new N;have I:w.length<=1000:=Y w<|cH f;apply⟨q,_,pw,bj.of aa,pw,_,_,pw,_,_,pw,pw,?_⟩;generalize upd H' q (.tup [.int i,.str w])=O at j g ⊢;apply⟨_,pw,_,pw,pw,_,pw,?_⟩;by_cases s:i=a
  .have J:decide (V.int (i:Nat)=V.int (a:Nat))=true:=qh (by rw[s]);rw[J];refine bo<|bo ?_;apply⟨_,pw,?_⟩;have:=r O g;rw[<-hf]at this;unfold JD at this;rw[if_pos<|.inl s]at this;exact this
  have J:decide (V.int (i:Nat)=V.int (a:Nat))=false:=qb (λz=>s (by injection z with z;nofun));rw[J];refine aY ?_;apply⟨_,pw,_,pw,d,_,pw,.inl ⟨_,.inr w,.inl j,pw,pw⟩,_,pw,?_⟩;rw[i3];by_cases u:w∈taken++names.take i
  .rw[qh u];refine bo<|bo ?_;apply⟨_,pw,?_⟩;have:=r O g;rw[<-hf]at this;unfold JD at this;rw[if_pos<|.inr<|.inl u]at this;exact this
  rw[qb u];refine aY ?_;apply⟨_,pw,Hl I λH3 m=>⟨_,pw,?_⟩⟩;have L:=m _ _ j;cases T:qM w with
  |false =>
   refine bo ?_;apply⟨_,pw,?_⟩;have:=r H3<|g.trans m;rw[<-hf]at this;unfold JD at this;rw[if_pos<|.inr<|.inr T]at this;exact this
  |true =>
   refine aY ?_;have p:(bR<|taken++names.take i).length<ai:=ax (bh (pf _) (by rw[aH,aP];nofun));apply⟨_,pw,_,pw,d,_,pw,.inl ⟨_,.inr w,L,pw,p,pw⟩,_,_,pw,?_,?_,?_⟩
   .intro b o e;rw[aj<|ag e B];exact m _ _<|g _ _ e
   .rw[aa,take_snoc f,<-d9,gA]
   .rw[<-hf,take_snoc f,<-d9]
    conv=>rhs;unfold JD
    rw[if_neg];rintro(z|z|z)
    .exact s z
    .exact u z
    .rw[T]at z;cases z
 .rintro σ H' ⟨x,y,rfl,n,_,hf⟩;rw[am,y6]at hf;have:=r H' n;rw[<-hf]at this;exact this
theorem CI:∀(e ahead:Zb) (i:Nat),i+e.length<=a->(ahead++e).Nodup->(∀w∈e,js w)->JD a i ahead e=none
 |[],_,_,_,_,_=>rfl
 |n::e,ahead,i,h,f,g=>by
  rw[da]at h;unfold JD;rw[if_neg]
  .refine CI e (ahead++[n]) (i+1) ⋯ (by rw[d9];exact f) λw j=>g w<|de _ j
  .rintro(z|z|z)
   .omega
   .rw[eK]at f;exact f.2.2 n z n (cF) rfl
   .rw[(g n cF).b]at z;cases z
theorem iK(f:e≠[])(i:e.length<=a)(g:(taken++e).Nodup)(h:∀w∈e,js w):dz e a taken=none:=by
 unfold dz;rw[if_neg f];exact CI e taken 0 ⋯ g h
theorem ib(h:n<=9000):n<ai:=zM h WE
def ug(x:WD):TK:=.k<|some<|.inr x
def HU(sg:Zb):TK:=.t<|sg.map ug
def Gb(d:ak):TK:=.t [ug d.a,HU d.sg,ug d.b]
theorem ux(h:ug x=ug y):x=y:=by
 unfold ug at h;injection h with h;injection h with h;injection h
theorem tP:∀{x y:Zb},x.map ug=y.map ug->x=y
 |[],[],_=>rfl
 |[],_::_,h=>by cases h
 |_::_,[],h=>by cases h
 |a::x,b::y,h=>by
  rw[bP,bP]at h;injection h with e f;rw[ux e,tP f]
theorem FY(h:HU x=HU y):x=y:=by
 unfold HU at h;injection h with h;exact tP h
theorem Lk(h:Gb x=Gb y):x=y:=by
 unfold Gb at h;injection h with h;injection h with a h;injection h with e h;injection h with f h;cases x;cases y;simp only at *;rw[ux a,FY e,ux f]
theorem Dp(xs:Zb):TK.l' (xs.map ug)=0:=by
 induction xs with
 |nil=>rfl
 |cons x xs a=>rw[bP];show max (TK.depth<|ug x) (TK.l' _)=0;rw[a];rfl
theorem xT(a:Zb):(HU a).depth=1:=by
 show TK.l' (a.map ug)+1=1;rw[Dp]
theorem xU(d:ak):(Gb d).depth=2:=by
 show max (TK.depth<|ug d.a) (max (TK.depth<|HU d.sg)<|max (TK.depth<|ug d.b) 0)+1=2;rw[xT]
 rfl
theorem Fu:∀xs:List WD,OS H (xs.map ug) (xs.map V.str)
 |[]=>by show OS H [] [];unfold OS;rfl
 |x::xs=>by
  rw[bP,bP];unfold OS;apply⟨_,_,pw,?_,Fu xs⟩;unfold ug jq
  rfl
theorem Dq(x:WD):jq H (ug x) (.str x):=by unfold ug jq;rfl
theorem SignAt.tk(h:SignAt H s a):jq H (HU a) (.ref s):=by
 unfold HU jq;exact⟨s,_,pw,h,Fu _⟩
theorem ii.tk(h:ii H t d):jq H (Gb d) (.ref t):=by
 let⟨s,a,e⟩:=h;unfold Gb jq;apply⟨t,_,pw,a,?_⟩;unfold OS;apply⟨_,_,pw,Dq _,?_⟩;unfold OS;apply⟨_,_,pw,SignAt.tk e,?_⟩;unfold OS;apply⟨_,_,pw,Dq _,?_⟩;unfold OS
 rfl
section
variable{κ:Type}[DecidableEq κ]
def lX(ks:List κ):List (κ×V):=ks.foldl (λacc k=>eQ acc k<|.bl true) []
theorem ph(a:List κ)(w:κ):lX (a++[w])=eQ (lX a) w (.bl true):=by
 unfold lX;rw[uP]
 rfl
theorem Hj(a:List κ):(lX a).length<=a.length:=by
 refine mr (λa=>(lX a).length<=a.length) (aB _) (λa w h=>?_) a;show(lX<|a++[w]).length<=(a++[w]).length;rw[ph,aH];have:=B_ (lX a) w<|.bl true;show _<=a.length+1;nofun
theorem Jx(a:List κ)(x:κ):(c8 (lX a) x).isSome=decide (x∈a):=by
 refine mr (λa=>(c8 (lX a) x).isSome=decide (x∈a)) rfl (λa w h=>?_) a;show(c8 (lX<|a++[w]) x).isSome=_;rw[ph,Bv];by_cases e:x=w
 .subst e;rw[if_pos rfl,qh ∅]
  rfl
 .rw[if_neg e,h];by_cases m:x∈a
  .rw[qh m,qh<|ej _ m]
  .rw[qb m,qb (λz=>by obtain z|z:=bp.mp z;exact m z;exact e (by simpa using z))]
end
theorem FQ{a:List ak}:Gb d∈a.map Gb↔d∈a:=by
 constructor
 .intro h;let⟨x,hx,e⟩:=aV.mp h;rw[<-Lk e];exact hx
 .exact ma
def pB(K:Za)(H:Hp)(v:V)(sg:Zb):Prop:=∃s,v=.ref s/\bj K H s (sg.map V.str)
theorem ac.V_{K:Za}(e:ac H f)(h:bj K H a xs):bj K f a xs:=by
 obtain(h|⟨o,h⟩)|h:=h
 .exact .inl<|.inl<|e _ _ h
 .exact .inl<|.inr ⟨o,e _ _ h⟩
 .exact .inr h
theorem RS.same{K:Za}(e:ac H f)(h:Paired (pB K H) xs a):Paired (pB K f) xs a :=
 Paired.OJ h λ_ _ ⟨s,g,i⟩=>⟨s,g,ac.V_ e i⟩
def iB(sg:Zb):DT:=.t<|sg.map dJ
theorem FZ(h:iB x=iB y):x=y:=by
 unfold iB at h;injection h with h;exact fu h
theorem dC(a:Zb):(iB a).depth=1:=by
 show DT.l' (a.map dJ)+1=1;rw[fW]
theorem Hs(a:List<|List WD):DT.l' (a.map iB)<=8:=by
 induction a with
 |nil=>exact cw _
 |cons x xs e=>rw[bP];show max (DT.depth<|iB x) (DT.l' _)<=8;rw[dC];nofun
theorem RS.Ru{K:Za}(h:Paired (pB K H) xs a):wh K H (a.map iB) xs:=by
 induction h with
 |nil=>show wh K H [] [];unfold wh;rfl
 |cons q _ f =>
  let⟨s,e,r⟩:=q;rw[bP];unfold wh;apply⟨_,_,pw,?_,f⟩;rw[e];exact cN r
theorem FP{a:List (List WD)}:iB d∈a.map iB↔d∈a:=by
 constructor
 .intro h;let⟨x,hx,e⟩:=aV.mp h;rw[<-FZ e];exact hx
 .exact ma
theorem Paired.app(g:Paired R a b)(h:Paired R c d):Paired R (a++c) (b++d):=by
 induction g with
 |nil=>exact h
 |cons r _ e=>exact .cons r e
def cX(w:WD):List WD:=[("ask":WD),w]
def kH(w:WD):List WD:=[("say":WD),w]
def kQ(J0 J2:Zb):List (List WD):=J0.map cX++J2.map kH++[ao]
theorem vL{K:Za}{j:Zb}(B:H a=pe (.lst<|j.map V.str))(A:H l=none)(J:j.length<=1000)(k:∀(xs:List V) (f:Hp),Paired (pB K f) xs (j.map λw=>[h,w])->ac H f->f l=pe (.lst xs)->Q f) :
  fA 1 [] σ (Ki K a) U0 jc (aU<|aM (tC<|.str h) V0) H l Q:=by
 let r:Nat->List V->Hp->Prop:=λi g f=>Paired (pB K f) g ((j.take i).map λw=>[h,w])/\ac H f/\f l=pe (.lst g)
 refine cW (xs:=j.map V.str) r
  ⟨.nil,ac.new A,aa⟩ (λi g f _ C=>by let⟨_,D,E⟩:=C;exact⟨E,aA.of<|D _ _ B⟩) ?_ ?_
 .rintro g f ⟨m,u,n⟩;rw[am,bC]at m;exact k g f m u n
 .rintro i g f x hx hi ⟨m,u,n⟩;let⟨w,G,rfl⟩:=bJ hx;refine gN<|oQ ?_;apply⟨_,pw,Q2,λt p=>⟨kp n p,?_,rC hi ⟨?_,?_,aa⟩⟩⟩
  .rw[Paired.length m,am,aP];exact ax ⋯
  .rw[take_snoc G,ay];have q:g_ (upd f t<|.tup [.str h,.str w]) (upd (upd f t<|.tup [.str h,.str w]) l<|.lst<|g++[.ref t]):=dO<|kp n p;have y:g_ f (upd (upd f t<|.tup [.str h,.str w]) l<|.lst<|g++[.ref t]):=(ac.kt<|ac.new p).trans q;refine Paired.app (Paired.OJ m λv L ⟨s,I,e2⟩=>⟨s,I,?_⟩)<|.cons ⟨t,pw,bj.of<|q _ _ aa⟩ .nil;obtain(e2|⟨o,e2⟩)|e2:=e2
   .exact .inl<|.inl<|y _ _ e2
   .refine .inl<|.inr ⟨o,?_⟩;rw[aj (λz=>by rw[z,n]at e2;cases e2)];exact kp e2 p
   .exact .inr e2
  .intro b o e;rw[aj<|ag e A];exact kp (u _ _ e) p
inductive Ot(K:Za)(vs:List V)(H:Hp)(Q:VK)(E:XK):Prop
 |mk (l1 l2:Wv) (J0 J2:Zb):vs=[.ref l1,.ref l2]->H l1=pe (.lst (J0.map V.str))->H l2=pe (.lst (J2.map V.str))->J0.length<=100->J2.length<=100->(∀(l:Wv) (xs:List V) (H':Hp),Paired (pB K H') xs (kQ J0 J2)->ac H H'->H' l=pe (.lst xs)->Q (.ref l) H')->Ot K vs H Q E
theorem xz{K:Za}{st:Wv}(i:∀H,bj K H st<|ao.map V.str){n:List V}{H:Hp}{Q:VK}{E:XK}(h:Ot K n H Q E):Aa K st (bH Q) (start Bg n) H:=by
 let⟨y,z,J,L,rfl,o,p,A,B,k⟩:=h;apply⟨_,pw,y,pw,⟨_,aA.of o⟩,λa C=>?_⟩;refine vL o C ⋯ λf M q j D=>?_;apply⟨_,pw,z,pw,⟨_,aA.of<|j _ _ p⟩,λb G=>?_⟩;refine vL (j _ _ p) G ⋯ λg r s l I=>?_;have t:f.length<=100:=by rw[Paired.length q,am];exact A
 have u:g.length<=100:=by rw[Paired.length s,am];exact B
 apply⟨a,b,f,g,pw,pw,l _ _ D,I,eo (ax ⋯),λc v=>?_⟩;apply⟨Q1,λd m=>?_⟩;apply⟨c,d,_,_,pw,pw,kp aa m,aa,?_,λe w=>k e _ _ ?_ ?_ aa⟩
 .rw[aH];show _+1<=ai;exact eo (ax ⋯)
 .have x:ac r (upd (upd (upd r c<|.lst<|f++g) d<|.lst [.ref st]) e<|.lst<|f++g++[.ref st]):=((ac.new v).trans<|ac.new m).trans<|ac.new w;exact Paired.app (Paired.app (RS.same (l.trans x) q)<|RS.same x s)<|.cons ⟨st,pw,i _⟩ .nil
 .exact(((j.trans l).trans<|ac.new v).trans<|ac.new m).trans<|ac.new w
def Lc(rooms:Zb)(sgs:List<|List WD):Nat->List ak->List ak->Option Nat
 |_,_,[]=>none
 |i,ahead,d::ds=>if i=2000∨d∈ahead∨d.a∉rooms∨d.sg∉sgs∨d.b∉rooms then pe i else Lc rooms sgs (i+1) (ahead++[d]) ds
inductive wt(K:Za)(vs:List V)(H:Hp)(Q:VK)(E:XK):Prop
 |mk (l l3 sl:Wv) (ts:Ze) (ds:List ak) (rooms:Zb) (xs:List V) (sgs:List (List WD)):vs=[.ref l,.ref l3,.ref sl]->H l=pe (.lst (ts.map V.ref))->df H ts ds->H l3=pe (.lst (rooms.map V.str))->rooms.length<=1000->H sl=pe (.lst xs)->Paired (pB K H) xs sgs->ds.length<=9000->(∀H',ac H H'->Q (oV (Lc rooms sgs 0 [] ds)) H')->wt K vs H Q E
theorem dq{a:Ze}{i:Nat}{x:V}(h:(a.map V.ref)[i]?=pe x):∃w,a[i]?=pe w/\x=.ref w:=by
 rw[eL]at h;cases q:a[i]? with
 |none=>rw[q]at h;cases h
 |some r=>rw[q]at h;exact⟨r,pw,(ff h).symm⟩
theorem nY{K:Za}(h:wt K vs H Q E):oU K (yl K) (bH Q) (start pE vs) H:=by
 let⟨l,l3,sl,ts,p,rooms,xs,m,rfl,hl,A,h3,hr,T,U,hz,k⟩:=h;apply⟨_,pw,tf (aA.of h3) hr λd hd=>?_⟩;refine λe Y=>?_;have B:ac H (upd (upd H d<|.dK<|bR rooms) e<|.dT []):=(ac.new hd).trans<|ac.new Y;have ab:H e=none:=(ac.new hd).free Y;apply⟨_,pw,l,pw,⟨_,aA.of<|B _ _ hl⟩,?_⟩
 let al:Nat->L2.St->Hp->Prop:=λi σ H'=>∃x y,σ=[pe<|.ref l,pe<|.ref l3,pe<|.ref sl,pe<|.ref d,pe<|.ref e,x,y]/\ac H H'/\H' d=pe (.dK<|bR rooms)/\H' e=pe (.dT<|lX<|(p.take i).map Gb)/\Lc rooms m i (p.take i) (p.drop i)=Lc rooms m 0 [] p
 refine kN (xs:=ts.map V.ref) al
  ⟨_,_,pw,B,kp aa Y,aa,pw⟩ (λi σ H' _ zq=>by let⟨_,_,_,C,_⟩:=zq;exact aA.of<|C _ _ hl) ?_ ?_
 .rintro i x σ H' q hi ⟨x5,x6,rfl,C,an,as,hf⟩ hq;let⟨t,ht,rfl⟩:=dq hi;let⟨f,r,aC⟩:=Paired.getL A ht;have aT:i<p.length:=(cx.mp r).1;have ed:p.drop i=f::p.drop (i+1):=by
   rw[zh aT];congr 1;exact(cx.mp r).2
  rw[ed]at hf;have g:ac H (upd H' q<|.tup [.int i,.ref t]):=C.trans<|ac.new hq;have j:upd H' q (.tup [.int i,.ref t]) d=_:=kp an hq;have u:upd H' q (.tup [.int i,.ref t]) e=_:=kp as hq;apply⟨q,_,pw,bj.of aa,pw,_,_,pw,_,_,pw,pw,?_⟩;generalize upd H' q (.tup [.int i,.ref t])=H2 at j u g ⊢;have w:=aC.kt<|ac.kt g;have aX:nZ K H2 (Gb f) (.ref t):=jq.isIn 8 (by rw[xU];decide) w.tk;have D:(Gb f).depth<=8:=by rw[xU];decide
  let⟨s,v,G⟩:=w;have n:(i=2000∨f∈p.take i∨f.a∉rooms∨f.sg∉m∨f.b∉rooms)->Q (.int i) H2:=by
   intro c;have:=k H2 g;rw[<-hf]at this;unfold Lc at this;rw[if_pos c]at this;exact this
  apply⟨_,pw,pw,_,pw,?_⟩;by_cases J:i=2000
  .have e1:decide (V.int (i:Nat)=V.int 2000)=true:=qh (by rw[J];rfl);rw[e1];exact bo<|bo ⟨_,pw,n<|.inl J⟩
  have e1:decide (V.int (i:Nat)=V.int 2000)=false:=qb (λz=>J (by injection z with z;nofun));rw[e1];refine aY ?_;apply⟨_,pw,_,pw,e,_,pw,.inr ⟨_,Gb f,t,.inl u,pw,aX,D,pw⟩,_,pw,?_⟩;rw[Jx];by_cases L:f∈p.take i
  .rw[qh<|FQ.mpr L];exact bo ⟨_,pw,n<|.inr<|.inl L⟩
  rw[qb<|λz=>L<|FQ.mp z];refine aY ?_;apply⟨_,pw,.inr<|.inl ⟨t,_,0,_,pw,pw,bj.of v,pw,_,pw,d,_,pw,.inl ⟨_,.inr f.a,.inl j,pw,pw⟩,_,pw,?_⟩⟩;rw[i3];by_cases M:f.a∈rooms;rotate_left
  .rw[qb M];exact bo<|bo ⟨_,pw,n<|.inr<|.inr<|.inl M⟩
  rw[qh M];refine aY ?_;apply⟨_,pw,.inr (.inl ⟨t,_,1,_,pw,pw,bj.of v,pw,_,pw,iB f.sg,m.map iB,sl,xs,cN<|bj.of G,pw,.inl<|aA.of<|g _ _ T,RS.Ru<|RS.same g U,by rw[dC];decide,Hs _,_,pw,?_⟩)⟩;rw[if_pos rfl];by_cases N:f.sg∈m;rotate_left
  .rw[qb<|λz=>N<|FP.mp z];exact bo<|bo ⟨_,pw,n<|.inr<|.inr<|.inr<|.inl N⟩
  rw[qh<|FP.mpr N];refine aY ?_;apply⟨_,pw,.inr<|.inl ⟨t,_,2,_,pw,pw,bj.of v,pw,_,pw,d,_,pw,.inl ⟨_,.inr f.b,.inl j,pw,pw⟩,_,pw,?_⟩⟩;rw[i3];by_cases O:f.b∈rooms;rotate_left
  .rw[qb O];exact bo ⟨_,pw,n<|.inr<|.inr<|.inr<|.inr O⟩
  rw[qh O];refine aY ?_;have I:(lX<|(p.take i).map Gb).length<ai:=ib (bh (Hj _) (by rw[am,aP];nofun));apply⟨_,pw,_,pw,e,_,pw,.inr ⟨_,Gb f,t,u,pw,ii.tk ⟨s,v,G⟩,D,I,pw⟩,_,_,pw,?_,?_,?_,?_⟩
  .intro b o q;rw[aj<|ag q ab];exact g _ _ q
  .rw[aj (λz=>by rw[z,u]at j;cases j)];exact j
  .rw[aa,take_snoc r,ay];exact congrArg (λz=>pe<|HO.dT z) (ph _ _).symm
  .rw[<-hf,take_snoc r]
   conv=>rhs;unfold Lc
   rw[if_neg];rintro(z|z|z|z|z)
   .exact J z
   .exact L z
   .exact z M
   .exact z N
   .exact z O
 .rintro σ H' ⟨x,y,rfl,C,_,_,hf⟩;have:=k H' C;rw[<-hf,am,Paired.length A,y6]at this;exact this
theorem CJ:∀(f ahead:List ak) (i:Nat),i+f.length<=2000->(ahead++f).Nodup->(∀d∈f,d.a∈rooms/\d.sg∈e/\d.b∈rooms)->Lc rooms e i ahead f=none
 |[],_,_,_,_,_=>rfl
 |n::j,ahead,i,k,g,h=>by
  rw[da]at k;unfold Lc;rw[if_neg]
  .refine CJ j (ahead++[n]) (i+1) ⋯ (by rw[d9];exact g) λw l=>h w<|de _ l
  .have:=h n cF;rintro(z|z|z|z|z)
   .omega
   .rw[eK]at g;exact g.2.2 n z n (cF) rfl
   .exact z this.1
   .exact z this.2.1
   .exact z this.2.2
inductive wq (vs:List V)(H:Hp)(Q:VK)(E:XK):Prop
 |mk (x:V):vs=[x,.L']->Q .L' H->wq  vs H Q E
theorem At{K:Za}(h:wq a H Q E):Bz K (bH Q) (start C4 a) H:=by
 let⟨x,rfl,k⟩:=h;apply⟨_,pw,_,pw,?_⟩;have e:(!decide (V.L'=V.L'))=false:=by rw[qh rfl];rfl
 rw[e];exact aY k
structure PK(H:Hp)(l1 l2 l3 l4:Wv)(ts:Ze)(J0 J2 rooms:Zb)(ds:List ak):Prop where
 a1:H l1=pe (.lst (J0.map V.str))
 a2:H l2=pe (.lst (J2.map V.str))
 a3:H l3=pe (.lst (rooms.map V.str))
 a4:H l4=pe (.lst (ts.map V.ref))
 ds:df H ts ds
theorem PK.same(h:PK H f g l3 i j k l rooms m)(e:ac H a):PK a f g l3 i j k l rooms m :=
 ⟨e _ _ h.a1,e _ _ h.a2,e _ _ h.a3,e _ _ h.a4,h.ds.kt<|ac.kt e⟩
inductive Oo (vs:List V)(H:Hp)(Q:VK)(E:XK):Prop
 |mk (l1 l2 l3 l4:Wv) (ts:Ze) (J0 J2 rooms:Zb) (ds:List ak):vs=[.ref l1,.ref l2,.ref l3,.ref l4]->PK H l1 l2 l3 l4 ts J0 J2 rooms ds->aE J0 J2 rooms ds->(∀H',ac H H'->Q .L' H')->Oo  vs H Q E
theorem aE.signs(m:aE J0 h rooms i):∀d∈i,d.a∈rooms/\d.sg∈kQ J0 h/\d.b∈rooms:=by
 intro d j;have g:=m.good d j;apply⟨g.a,?_,g.b⟩;unfold kQ;obtain⟨w,f,e⟩|⟨w,f,e⟩|e:=g.sg
 .rw[e];exact ej _<|ej _<|aV.mpr ⟨w,f,pw⟩
 .rw[e];exact ej _<|cE _<|aV.mpr ⟨w,f,pw⟩
 .rw[e];exact cE _ (by simp[ao])
theorem sP(h:jT a):∀w∈a,w.length<=1000:=λw e=>bh (h.2 w e).hi WE
theorem xw{K:Za}(h:Oo r H Q E):z0 K wq (wt K) (Ot K) (r6 K) (bH Q) (start Bb r) H:=by
 let⟨j,s,t,w,x,f,g,rooms,l,rfl,L,m,k⟩:=h;have y:dz f 4 []=none:=iK m.PJ m.O' m.Tu.1 m.Tu.2;have z:dz g 4 f=none:=iK m.P2 m.Pd (by
  rw[eK];exact⟨m.Tu.1,m.Tz.1,λa A b B e=>m.apart b B<|e▸A⟩) m.Tz.2
 have C:dz rooms 150 []=none:=iK m.OI (by have:=m.A3;nofun) m.RX.1 m.RX.2;have D:Lc rooms (kQ f g) 0 [] l=none:=CJ l [] 0 (by have:=m.Qb;nofun) m.nodup m.signs;have U:=m.O';have Y:=m.Pd;have z3:=m.A3;have z4:=m.Qb;apply⟨_,pw,Q0,λe i=>⟨j,e,f,[],4,pw,aA.of<|kp L.a1 i,aA.of aa,by simp;nofun,sP m.Tu,λH1 G=>?_⟩⟩;rw[y];apply⟨_,pw,?_⟩;have n:=(ac.new i).trans G;apply⟨_,pw,_,pw,s,j,g,f,4,pw,aA.of<|n _ _ L.a2,aA.of<|n _ _ L.a1,by nofun,sP m.Tz,λH2 I=>?_⟩;rw[z];apply⟨_,pw,?_⟩;have u:=n.trans I;apply⟨_,pw,Q0,λe i=>⟨t,e,rooms,[],150,pw,aA.of<|kp (u _ _ L.a3) i,aA.of aa,by simp;nofun,sP m.RX,λH3 J=>?_⟩⟩;rw[C];apply⟨_,pw,?_⟩;have o:=(u.trans<|ac.new i).trans J;apply⟨_,pw,_,pw,_,pw,_,pw,j,s,f,g,pw,o _ _ L.a1,o _ _ L.a2,by nofun,by nofun,λM xs H4 hx N p=>?_⟩;have v:=o.trans N;have q:=L.same v;apply⟨w,t,M,x,l,rooms,xs,kQ f g,pw,q.a4,q.ds,q.a3,by nofun,p,hx,by nofun,λO T=>?_⟩;rw[D];exact⟨_,pw,k O<|v.trans T⟩
section
variable{κ ι:Type}[DecidableEq κ]{e:ι->κ}
def eU(e:ι->κ)(ps:List<|ι×Wv):List (κ×V):=ps.map λx=>(e x.1,V.ref x.2)
theorem nK(inj:∀x y,e x=e y->x=y):∀{a:List (ι×Wv)},i∉a.map (·.1)->c8 (eU e a) (e i)=none
 |[],_=>rfl
 |x::a,h=>by
  rw[bP,b_]at h;show c8 ((e x.1,V.ref x.2)::eU e a) (e i)=none;rw[eB<|λz=>h<|.inl (inj _ _ z).symm];exact nK inj<|λz=>h<|.inr z
theorem fG(inj:∀x y,e x=e y->x=y):∀{f:List (ι×Wv)},(f.map (·.1)).Nodup->(i,a)∈f->c8 (eU e f) (e i)=pe (.ref a)
 |[],_,h=>by cases h
 |x::f,g,h=>by
  rw[bP,j8]at g;show c8 ((e x.1,V.ref x.2)::eU e f) (e i)=_;obtain h|h:=b_.mp h
  .rw[<-h];exact eS rfl
  .rw[eB (λz=>g.1 (by rw[inj _ _ z];exact aV.mpr ⟨_,h,pw⟩))];exact fG inj g.2 h
theorem yj(f:List<|ι×Wv)(i:ι)(a:Wv):eU e (f++[(i,a)])=eU e f++[(e i,.ref a)]:=by
 unfold eU;rw[ay]
 rfl
end
structure DL{ι:Type}(H0 H:Hp)(d:Wv)(ps:List (ι×Wv)):Prop where
 nd:(ps.map (·.1)).Nodup
 na:(ps.map (·.2)).Nodup
 fr:∀x∈ps,H0 x.2=none
 Vf:H0 d=none
 Ud:∀x∈ps,x.2≠d
 same:ac H0 H
theorem DL.snoc{ι:Type}{f H k:Hp}{d:Wv}{g:List (ι×Wv)}{i:ι}{a:Wv}(h:DL f H d g)(hi:i∉g.map (·.1))(l:∀x∈g,x.2≠a)(m:f a=none)(n:a≠d)(s:ac f k):DL f k d (g++[(i,a)]):=by
 apply⟨?_,?_,?_,h.Vf,?_,s⟩
 .rw[ay,eK];apply⟨h.nd,by simp,λx hx y j e=>?_⟩;have:y=i:=by simpa using j
  exact hi (by rw[<-this,<-e];exact hx)
 .rw[ay,eK];apply⟨h.na,by simp,λx hx y j e=>?_⟩;have:y=a:=by simpa using j
  let⟨z,o,rfl⟩:=aV.mp hx;exact l z o<|e.trans this
 .intro x hx;obtain hx|hx:=bp.mp hx
  .exact h.fr x hx
  .have:x=(i,a):=by simpa using hx
   rw[this];exact m
 .intro x hx;obtain hx|hx:=bp.mp hx
  .exact h.Ud x hx
  .have:x=(i,a):=by simpa using hx
   rw[this];exact n
theorem Jo{ι:Type}:∀{a:List (ι×Wv)},(a.map (·.2)).Nodup->∀{x y:ι×Wv},x∈a->y∈a->x.2=y.2->x=y
 |[],_,x,_,h,_,_=>by cases h
 |p::a,f,x,y,hx,g,e=>by
  rw[bP,j8]at f;obtain UB|UB:=b_.mp hx<;>obtain UA|UA:=b_.mp g
  .rw[UB,UA]
  .exact absurd (aV.mpr ⟨y,UA,by rw[<-e,UB]⟩) f.1
  .exact absurd (aV.mpr ⟨x,UB,by rw[e,UA]⟩) f.1
  .exact Jo f.2 UB UA e
theorem jR:∀x y:WD,(Sum.inr x:cD)=Sum.inr y->x=y:=λx y h=>by injection h
def cV(ds:List ak)(r:WD):List ak:=ds.filter λd=>decide (d.a=r)
inductive A2 (vs:List V)(H:Hp)(Q:VK)(E:XK):Prop
 |mk (l3 l4:Wv) (ts:Ze) (rooms:Zb) (ds:List ak):vs=[.ref l3,.ref l4]->H l3=pe (.lst (rooms.map V.str))->H l4=pe (.lst (ts.map V.ref))->df H ts ds->rooms.Nodup->rooms.length<=1000->ds.length<=9000->((∀d∈ds,d.a∈rooms))->(∀(d:Wv) (ps:List (WD×Wv)) (H':Hp),ps.map (·.1)=rooms->H' d=pe (.dK (eU Sum.inr ps))->(∀x∈ps,∃us,H' x.2=pe (.lst (us.map V.ref))/\df H' us (cV ds x.1))->ac H H'->Q (.ref d) H')->A2  vs H Q E
theorem qE{K:Za}(h:A2 vs H Q E):sC K (bH Q) (start tu vs) H:=by
 let⟨l3,l4,ts,rooms,L,rfl,h3,h4,M,aC,hz,bi,aT,k⟩:=h;refine λd hd=>?_;apply⟨_,pw,l3,pw,⟨_,aA.of<|kp h3 hd⟩,?_⟩
 let aX:Nat->L2.St->Hp->Prop:=λi σ j=>∃x y,σ=[pe<|.ref l3,pe<|.ref l4,pe<|.ref d,x,y]/\∃l:List<|WD×Wv,l.map (·.1)=rooms.take i/\j d=pe (.dK<|eU Sum.inr l)/\DL H j d l/\∀x∈l,j x.2=pe (.lst [])
 refine cr (xs:=rooms.map V.str) aX
  ⟨_,_,pw,[],pw,aa,⟨by simp,by simp,by simp,hd,by simp,ac.new hd⟩,by simp⟩ (λi σ j _ zq=>by let⟨_,_,_,_,_,_,D,_⟩:=zq;exact aA.of<|D.same _ _ h3) ?_ ?_
 .rintro i x σ j hi ⟨x3,N,rfl,l,m,n,D,g⟩;let⟨w,hw,rfl⟩:=bJ hi;have v:w∉l.map (·.1):=by
   rw[m];intro z;have:=aC;rw[<-y3 (i+1) rooms,take_snoc hw,eK]at this;have:=this.1;rw[eK]at this;exact this.2.2 w z w ∅ rfl
  apply⟨Q0,λa G=>?_⟩;have O:(eU (Sum.inr:WD->cD) l).length<ai:=ax (by
   unfold eU;rw[am,<-am (f:=(·.1)) (as:=l),m,aP];nofun)
  have a0:H a=none:=D.same.free G;have T:a≠d:=(ag n G).symm;have U:∀x∈l,x.2≠a:=λx hx=>ag (g x hx) G;apply⟨_,pw,_,pw,d,_,pw,.inl ⟨_,.inr w,kp n G,pw,O,pw⟩,_,_,pw,l++[(w,a)],?_,?_,?_,?_⟩
  .rw[ay,m,take_snoc hw];rfl
  .rw[aa,qH _<|nK jR v,yj]
  .refine D.snoc v U a0 T ?_;intro b o q;rw[aj<|ag q hd];exact kp (D.same _ _ q) G
  .intro x hx;obtain hx|hx:=bp.mp hx
   .rw[aj<|D.Ud x hx];exact kp (g x hx) G
   .have:x=(w,a):=by simpa using hx
    rw[this,aj T];exact aa
 .rintro σ H1 ⟨x3,N,rfl,l,m,a4,D1,g⟩;rw[am,bC]at m;apply⟨_,pw,l4,pw,⟨_,aA.of<|D1.same _ _ h4⟩,?_⟩
  let a5:Nat->L2.St->Hp->Prop:=λi σ j=>∃N,σ=[pe<|.ref l3,pe<|.ref l4,pe<|.ref d,x3,N]/\j d=pe (.dK<|eU Sum.inr l)/\DL H j d l/\∀x∈l,∃I,j x.2=pe (.lst<|I.map V.ref)/\df j I (cV (L.take i) x.1)
  refine cr (xs:=ts.map V.ref) a5
   ⟨_,pw,a4,D1,λx hx=>⟨[],g x hx,.nil⟩⟩ (λi σ j _ zq=>by let⟨_,_,_,D,_⟩:=zq;exact aA.of<|D.same _ _ h4) ?_ ?_
  .rintro i x σ j hi ⟨N,rfl,n,D,g⟩;let⟨t,ht,rfl⟩:=dq hi;let⟨u,B,a6⟩:=Paired.getL M ht;have A:=a6.kt<|ac.kt D.same;have Y:=A;let⟨s,a7,bl⟩:=A;have ab:u.a∈l.map (·.1):=by rw[m];exact aT u<|cH B
   let⟨⟨r,a⟩,p,er⟩:=aV.mp ab;obtain rfl:r=u.a:=er;let⟨I,C,al⟩:=g _ p;have bm:i<L.length:=(cx.mp B).1;have a8:I.length<=9000:=by
    rw[Paired.length al];refine bh (j3 _ _) ?_;rw[aP];nofun
   have KT:g_ j (upd j a<|.lst<|I.map V.ref++[.ref t]):=dO C;apply⟨_,pw,_,pw,.inr<|.inl ⟨t,_,0,_,pw,pw,bj.of a7,pw,d,.ref a,pw,.inl ⟨_,.inr u.a,.inl n,pw,(fG jR D.nd p).symm⟩,.inl ⟨pw,_,aA.of C⟩,_,pw,a,_,_,pw,pw,C,?_,_,pw,?_,?_,?_⟩⟩
   .rw[am];exact ib a8
   .rw[aj (D.Ud _ p).symm];exact n
   .refine⟨D.nd,D.na,D.fr,D.Vf,D.Ud,λb o q=>?_⟩;rw[aj<|ag q<|D.fr _ p];exact D.same _ _ q
   .intro x hx;have an:∀r',cV (L.take<|i+1) r'=cV (L.take i) r'++(if u.a=r' then[u]else[]):=by
     intro r';unfold cV;rw[take_snoc B,rH];congr 1;by_cases c:u.a=r'
     .rw[if_pos c];simp[c]
     .rw[if_neg c];simp[c]
    by_cases c:x.2=a
    .have ex:=Jo D.na hx p c;subst ex;apply⟨I++[t],?_,?_⟩
     .show upd j a _ a=_;rw[aa,ay];rfl
     .rw[an];show df _ _ (cV (L.take i) u.a++(if u.a=u.a then[u]else[]))
      rw[if_pos rfl];exact Paired.app (al.kt KT)<|.cons (Y.kt KT) .nil
    .obtain⟨a9,h1,h2⟩:=g x hx;have bd:¬(u.a=x.1):=λz=>by
      have e1:=fG (e:=(Sum.inr:WD->cD)) jR D.nd p;have J:=fG (e:=(Sum.inr:WD->cD)) (i:=x.1) (a:=x.2) jR D.nd hx;rw[<-z,e1]at J;injection J with J;injection J with J;exact c J.symm
     apply⟨a9,by rw[aj c];exact h1,?_⟩;rw[an,if_neg bd,eI];exact h2.kt KT
  .rintro σ j ⟨N,rfl,n,D,g⟩;rw[am,Paired.length M,bC]at g;exact⟨_,pw,k d l j m n g D.same⟩
def qR(d:ak):Bool:=match d.sg with
 |s::_=>decide (s=("ask":WD))
 |[]=>false
inductive A1 (vs:List V)(H:Hp)(Q:VK)(E:XK):Prop
 |mk (a:Wv) (us:Ze) (ds:List ak):vs=[.ref a]->H a=pe (.lst (us.map V.ref))->df H us ds->ds.length<=9000->((∀d∈ds,d.sg≠[]))->(∀H',ac H H'->Q (.bl (ds.all qR)) H')->A1  vs H Q E
theorem qD{K:Za}(h:A1 f H Q E):sB K (bH Q) (start tq f) H:=by
 let⟨a,O,L,rfl,M,v,Y,C,k⟩:=h;apply⟨_,pw,a,pw,⟨_,aA.of M⟩,λl N=>?_⟩
 let D:Nat->List V->Hp->Prop:=λi f n=>f=(L.take i).map (λd=>V.bl<|qR d)/\ac H n/\n l=pe (.lst f)
 refine cW (xs:=O.map V.ref) D
  ⟨pw,ac.new N,aa⟩ (λi f n _ T=>by let⟨_,p,r⟩:=T;exact⟨r,aA.of<|p _ _ M⟩) ?_ ?_
 .rintro f n ⟨rfl,p,r⟩;rw[am,Paired.length v,bC]at r;apply⟨l,L.map qR,pw,aA.of (by rw[r,uR];rfl),?_⟩;rw[List.all_map];exact k n p
 .rintro i f n x hx hi ⟨rfl,p,r⟩;let⟨t,U,rfl⟩:=dq hx;let⟨G,w,I⟩:=Paired.getL v U;let⟨s,J,m⟩:=I.kt<|ac.kt p;have A:=cH w;obtain⟨u,g,B⟩:∃u g,G.sg=u::g:=by
   cases q:G.sg with
   |nil=>exact absurd q<|C G A
   |cons x y=>exact⟨x,y,pw⟩
  unfold SignAt at m;rw[B]at m;refine gN<|oQ ?_;apply⟨_,pw,.inr<|.inl ⟨t,_,1,_,pw,pw,bj.of J,pw,.inr<|.inl ⟨s,_,0,.str u,pw,pw,bj.of m,bA (j:=0) rfl,pw,r,?_,rC hi ⟨?_,?_,aa⟩⟩⟩⟩
  .rw[am,aP];exact ib ⋯
  .rw[take_snoc w,ay];congr 1;show[V.bl _]=[V.bl _];congr 2;unfold qR;rw[B];show decide (V.str u=V.str _)=decide (u=_);by_cases c:u=("ask":WD)
   .rw[qh c,qh (by rw[c])]
   .rw[qb c,qb (λz=>c (by injection z))]
  .intro b o e;rw[aj<|ag e N];exact p _ _ e
def wR(x:WD×List WD):TK:=.t [ug x.1,HU x.2]
theorem iS:∀x y:WD×List WD,wR x=wR y->x=y:=by
 intro x y h;unfold wR at h;injection h with h;injection h with a h;injection h with e h;cases x;cases y;simp only at *;rw[ux a,FY e]
theorem sH(x:WD×List WD):(wR x).depth<=8:=by
 show max (TK.depth<|ug x.1) (max (TK.depth<|HU x.2) 0)+1<=8;rw[xT];show max 0 (max 1 0)+1<=8
 decide
def aZ(ds:List ak)(x:WD×List WD):List WD:=(ds.filter λd=>decide (d.a=x.1/\d.sg=x.2)).map (·.b)
theorem AO(e:List ak)(d:ak)(x:WD×List WD):aZ (e++[d]) x=aZ e x++(if(d.a,d.sg)=x then[d.b]else[]):=by
 unfold aZ;rw[rH,ay];congr 1;by_cases c:(d.a,d.sg)=x
 .subst c;simp
 .rw[if_neg c];have:¬(d.a=x.1/\d.sg=x.2):=λz=>c (by cases x;simp only at z;rw[z.1,z.2]);simp[List.filter_cons];intro f g;exact this ⟨f,g⟩
theorem mP(h:∀d∈e,(d.a,d.sg)≠x):aZ e x=[]:=by
 unfold aZ;rw[oA,List.filter_eq_nil_iff];intro d f;have:¬(d.a=x.1/\d.sg=x.2):=λz=>h d f (by cases x;simp only at z;rw[z.1,z.2]);simp;intro g i;exact this ⟨g,i⟩
theorem bG:b∈aZ a x↔(⟨x.1,x.2,b⟩:ak)∈a:=by
 unfold aZ;rw[aV];constructor
 .rintro⟨d,e,rfl⟩;rw[gv]at e;let⟨i,j⟩:=e;let⟨f,g⟩:=of_decide_eq_true j;cases d;simp only at f g;rw[<-f,<-g];exact i
 .intro h;exact⟨_,gv.mpr ⟨h,qh ⟨pw,pw⟩⟩,pw⟩
structure jU(H:Hp)(g:Wv)(ps:List ((WD×List WD)×Wv))(ds:List ak):Prop where
 nd:(ps.map (·.1)).Nodup
 g:H g=pe (.dT (eU wR ps))
 ls:∀x∈ps,H x.2=pe (.lst ((aZ ds x.1).map V.str))
 all:∀d∈ds,(d.a,d.sg)∈ps.map (·.1)
theorem jU.same{H H':Hp}{g:Wv}{a:List ((WD×List WD)×Wv)}{e:List ak}(h:jU H g a e)(s:ac H H'):jU H' g a e:=⟨h.nd,s _ _ h.g,λx hx=>s _ _<|h.ls x hx,h.all⟩
inductive qt (vs:List V)(H:Hp)(Q:VK)(E:XK):Prop
 |mk (l4:Wv) (ts:Ze) (ds:List ak):vs=[.ref l4]->H l4=pe (.lst (ts.map V.ref))->df H ts ds->ds.length<=9000->(∀(g:Wv) (ps:List ((WD×List WD)×Wv)) (H':Hp),jU H' g ps ds->ac H H'->Q (.ref g) H')->qt  vs H Q E
theorem jh{K:Za}(h:qt vs H Q E):jz K (bH Q) (start jA vs) H:=by
 let⟨l4,ts,T,rfl,h4,ab,hz,k⟩:=h;refine λg hg=>?_;apply⟨_,pw,l4,pw,⟨_,aA.of<|kp h4 hg⟩,?_⟩
 let aX:Nat->L2.St->Hp->Prop:=λi σ u=>∃x y z,σ=[pe<|.ref l4,pe<|.ref g,x,y,z]/\∃p:List<|(WD×List WD)×Wv,DL H u g p/\u g=pe (.dT<|eU wR p)/\p.length<=i/\(∀x∈p,u x.2=pe (.lst<|(aZ (T.take i) x.1).map V.str))/\∀d∈T.take i,(d.a,d.sg)∈p.map (·.1)
 refine cr (xs:=ts.map V.ref) aX
  ⟨_,_,_,pw,[],⟨by simp,by simp,by simp,hg,by simp,ac.new hg⟩,aa,by simp,by simp,by simp⟩ (λi σ u _ zq=>by let⟨_,_,_,_,_,D,_⟩:=zq;exact aA.of<|D.same _ _ h4) ?_ ?_
 .rintro i x σ u hi ⟨x2,x3,x4,rfl,p,D,w,al,m,l⟩;let⟨t,ht,rfl⟩:=dq hi;let⟨f,C,a0⟩:=Paired.getL ab ht;have a9:i<T.length:=(cx.mp C).1;let⟨s,a4,a5⟩:=a0.kt<|ac.kt D.same;apply⟨t,_,pw,bj.of a4,pw,_,_,pw,_,_,pw,_,_,pw,pw,?_⟩;apply⟨_,pw,.inr<|.inr<|.inl ⟨pw,.inr ⟨_,w⟩⟩,_,pw,_,pw,Q2,λkt an=>⟨Q0,λnl U=>?_⟩⟩;have G:ac u (upd (upd u kt<|.tup [.str f.a,.ref s]) nl<|.lst []):=(ac.new an).trans<|ac.new U;have L:upd (upd u kt<|.tup [.str f.a,.ref s]) nl (.lst []) kt=pe (.tup [.str f.a,.ref s]):=kp aa U;have M:upd (upd u kt<|.tup [.str f.a,.ref s]) nl (.lst []) nl=pe (.lst []):=aa;have j:u nl=none:=(ac.new an).free U;generalize upd (upd u kt<|.tup [.str f.a,.ref s]) nl (.lst [])=H2 at G L M ⊢;have a6:jq H2 (wR (f.a,f.sg)) (.ref kt):=by
   unfold wR jq;apply⟨kt,_,pw,L,?_⟩;unfold OS;apply⟨_,_,pw,Dq _,?_⟩;unfold OS;apply⟨_,_,pw,SignAt.tk<|G _ _ a5,?_⟩;unfold OS
   rfl
  have a7:(eU wR p).length<ai:=ib (by unfold eU;rw[am];nofun);have I:∀x,aZ (T.take<|i+1) x=aZ (T.take i) x++(if(f.a,f.sg)=x then[f.b]else[]):=λx=>by rw[take_snoc C,AO]
  have a8:∀x,(aZ (T.take i) x).length<=9000:=λx=>by
   unfold aZ;rw[am];refine bh (j3 _ _) ?_;rw[aP];nofun
  apply⟨g,kt,_,wR (f.a,f.sg),.ref nl,pw,pw,G _ _ w,a6,sH _,a7,λv J=>?_,λJ=>?_⟩
  .-- there as
   have N:(f.a,f.sg)∈p.map (·.1):=by
    refine u3 λz=>?_;rw[nK iS z]at J;cases J
   let⟨⟨r,a⟩,n,er⟩:=aV.mp N;obtain rfl:r=(f.a,f.sg):=er;rw[fG iS D.nd n]at J;injection J with J;subst J;have aC:=G _ _<|m _ n;apply⟨.inl ⟨pw,_,aA.of aC⟩,_,pw,a,_,_,pw,pw,aC,by rw[am];exact ib<|a8 _,_,_,_,pw,p,⟨D.nd,D.na,D.fr,D.Vf,D.Ud,λb o q=>?_⟩,?_,by nofun,?_,?_⟩
   .rw[aj<|ag q<|D.fr _ n];exact G _ _<|D.same _ _ q
   .rw[aj (D.Ud _ n).symm];exact G _ _ w
   .intro x hx;by_cases c:x.2=a
    .have ex:=Jo D.na hx n c;subst ex;show upd H2 a _ a=_;rw[aa,I,if_pos rfl,ay];rfl
    .have Y:¬((f.a,f.sg)=x.1):=λz=>by
      have e1:=fG (e:=wR) iS D.nd n;have e2:=fG (e:=wR) (i:=x.1) (a:=x.2) iS D.nd hx;rw[<-z,e1]at e2;injection e2 with e2;injection e2 with e2;exact c e2.symm
     rw[aj c,I,if_neg Y,eI];exact G _ _<|m x hx
   .intro d hd;rw[take_snoc C]at hd;obtain hd|hd:=bp.mp hd
    .exact l d hd
    .have:d=f:=by simpa using hd
     rw[this];exact N
  .-- a new list
   have A:(f.a,f.sg)∉p.map (·.1):=by
    intro z;let⟨⟨r,a⟩,n,er⟩:=aV.mp z;obtain rfl:r=(f.a,f.sg):=er;rw[fG iS D.nd n]at J;cases J
   have B:nl≠g:=(ag w j).symm;have O:upd H2 g (.dT<|eU wR p++[(wR (f.a,f.sg),.ref nl)]) nl=pe (.lst []):=by rw[aj B];exact M
   apply⟨.inl ⟨pw,_,aA.of O⟩,_,pw,nl,_,_,pw,pw,O,(by show 0<ai;decide),_,_,_,pw,p++[((f.a,f.sg),nl)],?_,?_,?_,?_,?_⟩
   .refine D.snoc A (λx hx=>ag (m x hx) j) (D.same.free j) B ?_;intro b o q;rw[aj<|ag q<|D.same.free j,aj<|ag q hg];exact G _ _<|D.same _ _ q
   .rw[aj B.symm,aa,yj]
   .rw[aH];show _+1<=_;nofun
   .intro x hx;obtain hx|hx:=bp.mp hx
    .have Y:¬((f.a,f.sg)=x.1):=λz=>A (by rw[z];exact aV.mpr ⟨x,hx,pw⟩);rw[aj<|ag (m x hx) j,aj<|D.Ud x hx,I,if_neg Y,eI];exact G _ _<|m x hx
    .have:x=((f.a,f.sg),nl):=by simpa using hx
     subst this;have aT:aZ (T.take i) (f.a,f.sg)=[]:=mP λd hd z=>A (by rw[<-z];exact l d hd);show upd _ nl _ nl=_;rw[aa,I,if_pos rfl,aT]
     rfl
   .intro d hd;rw[ay];rw[take_snoc C]at hd;obtain hd|hd:=bp.mp hd
    .exact ej _<|l d hd
    .have:d=f:=by simpa using hd
     rw[this];exact cE _ ∅
 .rintro σ u ⟨x2,x3,x4,rfl,p,D,w,al,m,l⟩;rw[am,Paired.length ab,bC]at m l;exact⟨_,pw,k g p u ⟨D.nd,w,m,l⟩ D.same⟩
theorem jl:∀{L R:Zb},L.Nodup->(∀y∈L,y∈R)->L.length<=R.length
 |[],_,_,_=>cw _
 |x::L,R,a,h=>by
  rw[j8]at a;have hx:=h x cF;have:=jl (L:=L) (R:=R.erase x) a.2 λy f=>(List.mem_erase_of_ne (λe:y=x=>a.1 (by rw[<-e];exact f))).mpr<|h y<|de _ f;rw[List.length_erase_of_mem hx]at this;have:0<R.length:=List.length_pos_of_mem hx;rw[da];nofun
theorem Reach.Uh{e:List ak}{a b:WD}{rooms:Zb}(f:∀d∈e,d.b∈rooms)(h:Reach e a b):b∈rooms:=by
 cases h with
 |one h=>exact f _ h
 |step r h=>exact f _ h
inductive An (vs:List V)(H:Hp)(Q:VK)(E:XK):Prop
 |mk (g:Wv) (room:WD) (ps:List ((WD×List WD)×Wv)) (ds:List ak) (rooms:Zb):vs=[.ref g,.str room]->jU H g ps ds->((∀d∈ds,d.b∈rooms))->rooms.length<=1000->(∀(d:Wv) (L:Zb) (H':Hp),H' d=pe (.dK (bR L))->L.Nodup->(∀w,w∈L↔Reach ds room w)->H d=none->ac H H'->Q (.ref d) H')->An  vs H Q E
structure Np(H0 H:Hp)(ds:List ak)(room:WD)(d w:Wv)(L W:Zb)(Uw:WD->Prop):Prop where
 d:H d=pe (.dK (bR L))
 w:H w=pe (.lst (W.map V.str))
 same:ac H0 H
 nd:L.Nodup
 sound:∀y∈L,Reach ds room y
 wait:∀y∈W,y=room∨y∈L
 closed:∀y,(y=room∨y∈L)->y∉W->¬Uw y->∀c∈aZ ds (y,ao),c∈L
theorem uh{K:Za}{st:Wv}(bm:∀H,bj K H st<|ao.map V.str){vs:List V}{H:Hp}{Q:VK}{E:XK}(h:An vs H Q E):vt K st (bH Q) (start wC vs) H:=by
 let⟨g,room,ps,ds,rooms,rfl,G,bn,hz,k⟩:=h;refine λd hd=>?_;apply⟨_,pw,Q1,λw hw=>?_⟩;have aC:H w=none:=(ac.new hd).free hw;have U:d≠w:=ag aa hw;apply⟨λm σ B=>∃(L W:Zb) (x y:Option V),σ=[pe<|.ref g,pe<|.str room,pe<|.ref d,pe<|.ref w,x,y]/\Np H B ds room d w L W (λ_=>False)/\m=2 * (rooms.length-L.length)+W.length/\m<=2 * rooms.length+1,
  ⟨_,[],[room],_,_,pw,⟨kp aa hw,aa,(ac.new hd).trans<|ac.new hw,rT,by simp,by simp,?_⟩,pw,aB _⟩,?_⟩
 .intro y hy O;obtain rfl|hy:=hy
  .simp at O
  .cases hy
 rintro m σ H1 ⟨L,W,x4,x5,rfl,D,rfl,hbound⟩;have T:∀{l:Zb},l.Nodup->(∀y∈l,Reach ds room y)->l.length<=rooms.length:=λnd sd=>jl nd λy hy=>(sd y hy).Uh bn;apply⟨_,pw,.inl ⟨w,_,pw,.inl<|aA.of D.w,_,_,pw,pw,_,pw,?_⟩⟩;refine kb (λA=>?_)<|λA=>?_
 .have aT:W≠[]:=by
   intro z;rw[z]at A;exact absurd (of_decide_eq_true A) WE
  obtain⟨s,f,rfl⟩:∃s f,W=s++[f]:=⟨W.dropLast,W.getLast aT,(List.dropLast_concat_getLast aT).symm⟩;have Y:f=room∨f∈L:=D.wait f ∅;apply⟨fun σ' B=>∃(l n:Zb) (x y:Option V),σ'=[pe<|.ref g,pe<|.str room,pe<|.ref d,pe<|.ref w,x,y]/\Np H B ds room d w l n (λ_=>False)/\2 * (rooms.length-l.length)+n.length<2 * (rooms.length-L.length)+(s++[f]).length,
   fun σ' B ⟨l,n,x,y,e,D',hm⟩=>⟨_,hm,l,n,x,y,e,D',pw,by nofun⟩,?_⟩
  have ab:((s++[f]).map V.str)[((s++[f]).map V.str).length-1]?=pe (.str f):=by simp
  have al:((s++[f]).map V.str).dropLast=s.map V.str:=by rw[ay];simp
  apply⟨_,pw,.inl ⟨pw,_,aA.of D.w⟩,w,_,_,pw,pw,D.w,ab,?_⟩;rw[al];have aX:upd H1 w (.lst<|s.map V.str) d=pe (.dK<|bR L):=by rw[aj U];exact D.d
  have a0:upd H1 w (.lst<|s.map V.str) w=pe (.lst<|s.map V.str):=aa;have S1:ac H (upd H1 w<|.lst<|s.map V.str):=λb o q=>by rw[aj<|ag q aC];exact D.same _ _ q
  generalize upd H1 w (.lst<|s.map V.str)=H2 at aX a0 S1 ⊢;have G2:=G.same S1;apply⟨_,pw,g,pw,.inr ⟨_,.inl G2.g⟩,_,pw,Q2,λkt a4=>⟨Q0,λet an=>⟨c8 (eU wR ps)<|wR (f,ao),.inr ⟨_,wR (f,ao),kt,.inl ?_,pw,?_,sH _,pw⟩,?_⟩⟩⟩
  .exact kp (kp G2.g a4) an
  .unfold wR nZ;apply⟨kt,_,pw,bj.of<|kp aa an,?_⟩;unfold OL;apply⟨_,_,pw,?_,?_⟩
   .unfold ug nZ;rfl
   unfold OL;apply⟨_,_,pw,?_,?_⟩
   .unfold HU nZ;apply⟨st,_,pw,bm _,?_⟩;unfold ao;show OL K _ [ug _] [V.str _];unfold OL;apply⟨_,_,pw,?_,?_⟩
    .unfold ug nZ;rfl
    unfold OL;rfl
   unfold OL;rfl
  have S3:ac H2 (upd (upd H2 kt<|.tup [.str f,.ref st]) et<|.tup []):=(ac.new a4).trans<|ac.new an;have C:upd (upd H2 kt<|.tup [.str f,.ref st]) et (.tup []) et=pe (.tup []):=aa;generalize upd (upd H2 kt<|.tup [.str f,.ref st]) et (.tup [])=H3 at S3 C ⊢;have D3:Np H H3 ds room d w L s (λy=>y=f):=⟨S3 _ _ aX,S3 _ _ a0,S1.trans S3,D.nd,D.sound,λy hy=>D.wait y<|ej _ hy,λy hy O ho=>D.closed y hy (λz=>by obtain z|z:=bp.mp z;exact O z;exact ho (by simpa using z))<|λz=>z⟩;have a5:2 * (rooms.length-L.length)+s.length<2 * (rooms.length-L.length)+(s++[f]).length:=by rw[aH];show _<_+(_+1);nofun
  have a6:∀(H4:Hp) (l n:Zb) (x y:Option V),Np H H4 ds room d w l n (λy=>y=f)->(∀c∈aZ ds (f,ao),c∈l)->2 * (rooms.length-l.length)+n.length<2 * (rooms.length-L.length)+(s++[f]).length ->
    ∃(l n:Zb) (x' y':Option V),[pe<|V.ref g,pe<|.str room,pe<|.ref d,pe<|.ref w,x,y]=[pe<|.ref g,pe<|.str room,pe<|.ref d,pe<|.ref w,x',y']/\Np H H4 ds room d w l n (λ_=>False)/\2 * (rooms.length-l.length)+n.length<2 * (rooms.length-L.length)+(s++[f]).length:=by
   intro H4 l n x y p hc hm;apply⟨l,n,x,y,pw,⟨p.d,p.w,p.same,p.nd,p.sound,p.wait,λy hy O _=>?_⟩,hm⟩;by_cases e:y=f
   .rw[e];exact hc
   .exact p.closed y hy O e
  by_cases I:(f,ao)∈ps.map (·.1)
  .obtain⟨⟨r,a⟩,a7,er⟩:=aV.mp I;obtain rfl:r=(f,ao):=er;rw[fG iS G.nd a7];have a8:=G.ls _ a7;apply⟨a,pw,.inl ⟨⟨_,aA.of<|(S1.trans S3) _ _ a8⟩,?_⟩⟩
   let as:Nat->L2.St->Hp->Prop:=λj σ B=>Nn λ(l n:Zb) (y:Option V)=>N0 (σ=[pe<|.ref g,pe<|.str room,pe<|.ref d,pe<|.ref w,pe<|.str f,y]) (Np H B ds room d w l n<|λy=>y=f) ((f=room∨f∈l)) ((∀c∈(aZ ds (f,ao)).take j,c∈l))<|2 * (rooms.length-l.length)+n.length<2 * (rooms.length-L.length)+(s++[f]).length
   refine cr (xs:=(aZ ds (f,ao)).map V.str) as
    ⟨L,s,_,pw,D3,Y,by simp,a5⟩ (λj σ B _ zq=>by let⟨_,_,_,_,D',_,_,_⟩:=zq;exact aA.of<|D'.same _ _ a8) ?_ ?_
   .rintro j x σ H4 hj ⟨l,n,y,rfl,p,hh,hc,hm⟩;let⟨i,t,rfl⟩:=bJ hj;have u:(⟨f,ao,i⟩:ak)∈ds:=bG.mp<|cH t;have N:Reach ds room i:=by
     obtain hh|hh:=hh
     .rw[hh]at u;exact .one u
     .exact .step (p.sound _ hh) u
    have bw:=T p.nd p.sound;apply⟨_,pw,_,pw,d,_,pw,.inl ⟨_,.inr i,.inl p.d,pw,pw⟩,_,pw,?_⟩;rw[i3];by_cases c:i∈l
    .rw[qh c];refine aY ⟨l,n,_,pw,p,hh,?_,hm⟩;intro c' v;rw[take_snoc t]at v;obtain h|h:=bp.mp v
     .exact hc c' h
     .have:c'=i:=by simpa using h
      rw[this];exact c
    .rw[qb c];refine bo ?_;have a9:(l++[i]).Nodup:=by
      rw[eK];apply⟨p.nd,by simp,λa ha b hb e=>?_⟩;have:b=i:=by simpa using hb
      exact c (by rw[<-this,<-e];exact ha)
     have bd:∀y∈l++[i],Reach ds room y:=by
      intro y hy;obtain hy|hy:=bp.mp hy
      .exact p.sound y hy
      .have:y=i:=by simpa using hy
       rw[this];exact N
     have J:=T a9 bd;rw[aH]at J;have b0:l.length+1<=rooms.length:=J;have b1:n.length<=9000:=by nofun
     apply⟨_,pw,_,pw,d,_,pw,.inl ⟨_,.inr i,p.d,pw,ax (bh (pf _) ⋯),pw⟩,?_⟩;have bi:upd H4 d (.dK<|eQ (bR l) (.inr i)<|.bl true) w=pe (.lst<|n.map V.str):=by rw[aj U.symm];exact p.w
     apply⟨_,pw,.inl ⟨pw,_,aA.of bi⟩,_,pw,w,_,_,pw,pw,bi,by rw[am];exact ib b1,l++[i],n++[i],_,pw,⟨?_,?_,?_,a9,bd,?_,?_⟩,?_,?_,?_⟩
     .rw[aj U,aa,gA]
     .rw[aa,ay];rfl
     .intro b o q;rw[aj<|ag q aC,aj<|ag q hd];exact p.same _ _ q
     .intro y hy;obtain hy|hy:=bp.mp hy
      .obtain h|h:=p.wait y hy
       .exact .inl h
       .exact .inr<|ej _ h
      .exact .inr<|cE _ hy
     .intro y hy O ho c' v;have b2:y∉n:=λz=>O<|ej _ z;have b3:y≠i:=λz=>O (cE _ (by simp[z]));refine ej _<|p.closed y ?_ b2 ho c' v;obtain hy|hy:=hy
      .exact .inl hy
      .obtain hy|hy:=bp.mp hy
       .exact .inr hy
       .exact absurd (by simpa using hy) b3
     .obtain h|h:=hh
      .exact .inl h
      .exact .inr<|ej _ h
     .intro c' v;rw[take_snoc t]at v;obtain h|h:=bp.mp v
      .exact ej _<|hc c' h
      .exact cE _ h
     .rw[aH,aH];show 2 * (rooms.length-(l.length+1))+(n.length+1)<_;nofun
   .rintro σ H4 ⟨l,n,y,rfl,p,hh,hc,hm⟩;rw[am,bC]at hc;exact a6 H4 l n _ _ p hc hm
  .rw[nK iS I];apply⟨et,pw,.inr ⟨⟨_,bj.of C⟩,?_⟩⟩;have M:aZ ds (f,ao)=[]:=mP λx hx z=>I (by rw[<-z];exact G.all x hx)
   let as:Nat->L2.St->Hp->Prop:=λj σ B=>σ=[pe<|.ref g,pe<|.str room,pe<|.ref d,pe<|.ref w,pe<|.str f,x5]/\B=H3
   refine Ld (xs:=[]) as ⟨pw,pw⟩ (λj σ B _ zq=>by let⟨_,e⟩:=zq;exact by rw[e];exact bj.of C) (λj x σ B hj=>by cases hj) ?_;rintro σ B ⟨rfl,rfl⟩;exact a6 _ L s _ _ D3 (by rw[M];simp) a5
 .have M:W=[]:=by
   cases W with
   |nil=>rfl
   |cons a W=>exact absurd (qh (by rw[am,da];nofun)) A
  subst M;apply⟨_,pw,k d L H1 D.d D.nd (λw=>⟨D.sound w,λhr=>?_⟩) hd D.same⟩
  induction hr with
  |one h=>exact D.closed room (.inl rfl) ∅ (λz=>z) _<|bG.mpr h
  |step r h ih=>exact D.closed _ (.inr ih) ∅ (λz=>z) _<|bG.mpr h
inductive wy (vs:List V)(H:Hp)(Q:VK)(E:XK):Prop
 |mk (l3 d:Wv) (rooms:Zb) (ps:List (WD×Wv)):vs=[.ref l3,.ref d]->H l3=pe (.lst (rooms.map V.str))->H d=pe (.dK (eU Sum.inr ps))->ps.map (·.1)=rooms->rooms.Nodup->((∀x∈ps,∃L,H x.2=pe (.dK (bR L))/\x.1∉L))->(∀H',ac H H'->Q .L' H')->wy  vs H Q E
theorem o8{K:Za}(h:wy p H Q E):pW K (bH Q) (start rq p) H:=by
 let⟨q,d,rooms,u,rfl,s,v,f,m,z,k⟩:=h;apply⟨_,pw,q,pw,⟨_,aA.of s⟩,?_⟩
 let n:Nat->L2.St->Hp->Prop:=λi σ e=>∃x y,σ=[pe<|.ref q,pe<|.ref d,x,y]/\ac H e
 refine kN (xs:=rooms.map V.str) n ⟨_,_,pw,ac.refl H⟩ (λi σ e _ A=>by let⟨_,_,_,S⟩:=A;exact aA.of<|S _ _ s) ?_ ?_
 .rintro i x σ e t hi ⟨I,J,rfl,S⟩ B;let⟨w,C,rfl⟩:=bJ hi;apply⟨t,_,pw,bj.of aa,pw,_,_,pw,_,_,pw,pw,?_⟩;have l:ac H (upd e t<|.tup [.int i,.str w]):=S.trans<|ac.new B;generalize upd e t (.tup [.int i,.str w])=M at l ⊢;have g:w∈u.map (·.1):=by rw[f];exact cH C
  let⟨⟨r,a⟩,j,D⟩:=aV.mp g;obtain rfl:r=w:=D;let⟨L,o,G⟩:=z _ j;apply⟨_,pw,_,pw,_,pw,d,.ref a,pw,.inl ⟨_,.inr r,.inl<|l _ _ v,pw,(fG jR (by rw[f];exact m) j).symm⟩,a,_,pw,.inl ⟨_,.inr r,.inl<|l _ _ o,pw,pw⟩,_,pw,?_⟩;rw[i3,qb G];exact aY ⟨_,_,pw,l⟩
 .rintro σ e ⟨x,y,rfl,S⟩;exact k e S
abbrev lk(f:WD)(fs:List<|WD×V):Option V:=fs.lookup f
def fj(ds:List ak)(r:WD):Bool:=(cV ds r).all qR
structure bE(C:Wv)(H:Hp)(x:Wv)(J0 J2 rooms:Zb)(ds:List ak):Prop where
 at_:∃(dx:Wv) (fs:List (WD×V)) (o1 o2 o3 o4 lv qu sg sl:Wv) (ts:Ze) (U':List (WD×Wv)) (Wg:List ((WD×List WD)×Wv)) (Sk:List (WD×Wv)),
  H x=pe (.ins C dx fs)/\lk "is_quiet" fs=none/\lk "goals" fs=none/\lk "led_from" fs=none/\lk "rooms" fs=none /\
  lk "own_asks" fs=pe (.ref o1)/\lk "own_says" fs=pe (.ref o2)/\lk "own_rooms" fs=pe (.ref o3)/\lk "own_doors" fs=pe (.ref o4) /\
  lk "leaving" fs=pe (.ref lv)/\lk "quiet" fs=pe (.ref qu)/\lk "sign_goals" fs=pe (.ref sg)/\lk "still_led" fs=pe (.ref sl) /\
  PK H o1 o2 o3 o4 ts J0 J2 rooms ds /\
  U'.map (·.1)=rooms/\H lv=pe (.dK (eU Sum.inr U'))/\(∀x∈U',∃us,H x.2=pe (.lst (us.map V.ref))/\df H us (cV ds x.1)) /\
  H qu=pe (.dK (bR (rooms.filter (fj ds))))/\jU H sg Wg ds /\
  Sk.map (·.1)=rooms/\H sl=pe (.dK (eU Sum.inr Sk))/\(∀x∈Sk,∃L,H x.2=pe (.dK (bR L))/\L.Nodup/\∀w,w∈L↔Reach ds x.1 w)
 ok:aE J0 J2 rooms ds
 more:∃(dx:Wv) (fs:List (WD×V)),H x=pe (.ins C dx fs)/\lk "asks" fs=none/\lk "says" fs=none/\lk "doors" fs=none/\lk "doors_from" fs=none
theorem iz(f:WD)(v:V):∀fs:List<|WD×V,(dL f v fs).length<=fs.length+1
 |[]=>aB _
 | (g,x)::r=>by
  unfold dL;split
  .exact iG _
  .rw[da,da];have:=iz f v r;nofun
theorem vX:∀(a qs:List<|WD×Wv),((qs++a).map (·.1)).Nodup->fP (eU Sum.inr qs) (eU Sum.inr a)=eU Sum.inr (qs++a)
 |[],qs,_=>by rw[eI];rfl
 |p::a,qs,g=>by
  show fP (eQ (eU Sum.inr qs) (Sum.inr p.1)<|.ref p.2) (eU Sum.inr a)=_;have e:qs++p::a=(qs++[p])++a:=by simp
  rw[e]at g ⊢;have f:p.1∉qs.map (·.1):=by
   rw[ay,ay,eK]at g;have:=g.1;rw[eK]at this;intro z;exact this.2.2 _ z _ ∅ rfl
  rw[qH _<|nK jR f];have:=vX a (qs++[p]) g;rw[<-this];have h:eU (Sum.inr:WD->cD) (qs++[p])=eU Sum.inr qs++[(Sum.inr p.1,V.ref p.2)]:=by
   unfold eU;rw[ay];rfl
  rw[h]
inductive uv(C:Wv)(vs:List V)(H:Hp)(Q:VK)(E:XK):Prop
 |mk (x dx l1 l2 l3 l4:Wv) (ts:Ze) (J0 J2 rooms:Zb) (ds:List ak):vs=[.ref x,.ref l1,.ref l2,.ref l3,.ref l4]->H x=pe (.ins C dx [])->PK H l1 l2 l3 l4 ts J0 J2 rooms ds->aE J0 J2 rooms ds->(∀H',bE C H' x J0 J2 rooms ds->cY x H H'->Q .L' H')->uv C vs H Q E
theorem PK.TM(h:PK H g i l3 j k l m rooms n)(hx:H x=pe (.ins C o fs))(e:cY x H f):PK f g i l3 j k l m rooms n:=by
 have ne:∀{b:Wv}{xs:List V},H b=pe (.lst xs)->b≠x:=λa z=>by rw[z,hx]at a;cases a
 exact⟨e _ _ h.a1<|ne h.a1,e _ _ h.a2<|ne h.a2,e _ _ h.a3<|ne h.a3,e _ _ h.a4<|ne h.a4,h.ds.kt λb xs a=>e _ _ a λz=>by rw[z,hx]at a;cases a⟩
theorem cY.VB(e:cY x H f)(hx:H x=pe (.ins C g fs)):g_ H f:=λb xs a=>e _ _ a λz=>by rw[z,hx]at a;cases a
theorem cY.UG{H:Hp}{x C e:Wv}{fs:List (WD×V)}(hx:H x=pe (.ins C e fs)){b:Wv}{xs:List V}(a:H b=pe (.lst xs)):b≠x:=λz=>by rw[z,hx]at a;cases a
theorem Jn{H:Hp}{x C f:Wv}{fs:List (WD×V)}(hx:H x=pe (.ins C f fs)){b:Wv}{a:List (cD×V)}(e:H b=pe (.dK a)):b≠x:=λz=>by rw[z,hx]at e;cases e
theorem LW{H:Hp}{x C f:Wv}{fs:List (WD×V)}(hx:H x=pe (.ins C f fs)){b:Wv}{a:List (TK×V)}(e:H b=pe (.dT a)):b≠x:=λz=>by rw[z,hx]at e;cases e
structure MC(K:Za)(C:Wv):Prop where
 cls:HN K C
 a1:bO K C "own_asks"
 a2:bO K C "own_says"
 a3:bO K C "own_rooms"
 a4:bO K C "own_doors"
 a5:bO K C "leaving"
 a6:bO K C "quiet"
 a7:bO K C "sign_goals"
 a8:bO K C "still_led"
theorem CL(f:WD)(y:V)(hx:H x=pe (.ins C a fs)):∃e,e=upd H x (.ins C a<|dL f y fs)/\e x=pe (.ins C a<|dL f y fs)/\cY x H e :=
 ⟨_,pw,aa,cY.upd _ _ _⟩
theorem tU{a:Zb}(h:a[i]?=pe w):(a.take<|i+1).filter p=(a.take i).filter p++(if p w=true then[w]else[]):=by
 rw[take_snoc h,rH];congr 1;by_cases c:p w=true
 .rw[if_pos c];simp[c]
 .rw[if_neg c];simp[c]
theorem Ev(a:List ak)(r:WD):(cV a r).length<=a.length:=j3 _ _
theorem aE.UN(m:aE a f rooms ds):∀d∈cV ds r,d.sg≠[]:=by
 intro d g;have:=m.good d (gv.mp g).1;obtain⟨w,_,e⟩|⟨w,_,e⟩|e:=this.sg<;>rw[e]<;>exact List.cons_ne_nil _ _
theorem KL{K:Za}(M:MC K C)(h:uv C B H Q E):
  oZ K wq wy An qt (yl K) A1 A2 Oo (bH Q) (start pH B) H:=by
 let⟨x,G,l1,l2,l3,l4,ts,J0,J2,rooms,ds,rfl,hx,L,m,k⟩:=h;have z3:=m.A3;have z4:=m.Qb;apply⟨_,pw,_,pw,_,pw,_,pw,l1,l2,l3,l4,ts,J0,J2,rooms,ds,pw,L,m,λH1 S1=>?_⟩;have aT:=S1 _ _ hx;have L1:=L.same S1;have E1:cY x H H1:=ac.Rz S1;apply⟨_,pw,.inl ⟨l1,_,pw,.inl<|aA.of L1.a1,λo1 aX=>⟨_,pw,x,C,G,_,pw,kp aT aX,M.cls,M.a1,(by show 0<1000;decide),?_⟩⟩⟩;let⟨H2,e2,a0,F2⟩:=CL "own_asks" (.ref o1)<|kp (x:=.lst<|J0.map V.str) aT aX;rw[<-e2];have n1:o1≠x:=(ag aT aX).symm;have f1:=F2 _ _ aa n1;have E2:cY x H1 H2:=(cY.new aX).trans F2;have cc:=L1.TM aT E2;have dr:(dL ("own_asks":WD) (.ref o1) []).length<=1:=iz _ _ _;clear e2 F2;apply⟨_,pw,.inl ⟨l2,_,pw,.inl<|aA.of cc.a2,λo2 a9=>⟨_,pw,x,C,G,_,pw,kp a0 a9,M.cls,M.a2,by nofun,?_⟩⟩⟩;let⟨H3,e3,bd,F3⟩:=CL "own_says" (.ref o2)<|kp (x:=.lst<|J2.map V.str) a0 a9;rw[<-e3];have n2:o2≠x:=(ag a0 a9).symm;have f2:=F3 _ _ aa n2;have E3:cY x H2 H3:=(cY.new a9).trans F3;have L3:=cc.TM a0 E3;have dy:=iz ("own_says":WD) (.ref o2)<|dL ("own_asks":WD) (.ref o1) [];clear e3 F3;apply⟨_,pw,.inl ⟨l3,_,pw,.inl<|aA.of L3.a3,λo3 bi=>⟨_,pw,x,C,G,_,pw,kp bd bi,M.cls,M.a3,by nofun,?_⟩⟩⟩;let⟨H4,e4,bl,F4⟩:=CL "own_rooms" (.ref o3)<|kp (x:=.lst<|rooms.map V.str) bd bi;rw[<-e4];have n3:o3≠x:=(ag bd bi).symm;have f3:=F4 _ _ aa n3;have E4:cY x H3 H4:=(cY.new bi).trans F4;have L4:=L3.TM bd E4;have dT:=iz ("own_rooms":WD) (.ref o3)<|dL ("own_says":WD) (.ref o2)<|dL ("own_asks":WD) (.ref o1) [];clear e4 F4;apply⟨_,pw,.inl ⟨l4,_,pw,.inl<|aA.of L4.a4,λo4 bm=>⟨_,pw,x,C,G,_,pw,kp bl bm,M.cls,M.a4,by nofun,?_⟩⟩⟩;let⟨H5,e5,n,F5⟩:=CL "own_doors" (.ref o4)<|kp (x:=.lst<|ts.map V.ref) bl bm;rw[<-e5];have n4:o4≠x:=(ag bl bm).symm;have f4:=F5 _ _ aa n4;have E5:cY x H4 H5:=(cY.new bm).trans F5;have L5:=L4.TM bl E5;generalize b3:dL ("own_doors":WD) (.ref o4) (dL ("own_rooms":WD) (.ref o3)<|dL ("own_says":WD) (.ref o2)<|dL ("own_asks":WD) (.ref o1) [])=s at n;have dV:s.length<=4:=by
  rw[<-b3];have:=iz ("own_doors":WD) (.ref o4)<|dL ("own_rooms":WD) (.ref o3)<|dL ("own_says":WD) (.ref o2)<|dL ("own_asks":WD) (.ref o1) [];nofun
 clear e5 F5;apply⟨_,pw,_,pw,l3,l4,ts,rooms,ds,pw,L5.a3,L5.a4,L5.ds,m.RX.1,by nofun,by nofun,λd hd=>(m.good d hd).a,λN bn d2 O T b4 S6=>⟨_,pw,x,C,G,s,pw,S6 _ _ n,M.cls,M.a5,by nofun,?_⟩⟩;let⟨H6,e6,u,F6⟩:=CL "leaving" (.ref N)<|S6 _ _ n;rw[<-e6];have E6:cY x H5 H6:=(ac.Rz S6).trans F6;have L6:=L5.TM n E6;have b5:=F6 _ _ T<|Jn (S6 _ _ n) T;have ce:∀y∈bn,∃A,H6 y.2=pe (.lst<|A.map V.ref)/\df H6 A (cV ds y.1):=λy hy=>by
  let⟨A,I,g2⟩:=b4 y hy;exact⟨A,F6 _ _ I<|cY.UG (S6 _ _ n) I,g2.kt<|F6.VB<|S6 _ _ n⟩
 have ct:(bn.map (·.1)).Nodup:=by rw[O];exact m.RX.1
 have dX:=iz ("leaving":WD) (.ref N) s;have cB:lk "leaving" (dL ("leaving":WD) (.ref N) s)=pe (.ref N):=by
  show ix _ _=_;rw[fx,if_pos rfl]
 clear e6 F6 T b4;apply⟨_,pw,l3,pw,⟨_,aA.of L6.a3⟩,λf hf=>?_⟩
 let cC:Nat->List V->Hp->Prop:=λi B U=>B=((rooms.take i).filter<|fj ds).map V.str/\ac H6 U/\U f=pe (.lst B)
 refine cW (xs:=rooms.map V.str) cC ⟨pw,ac.new hf,aa⟩ (λi B U _ zq=>by let⟨_,S,h'⟩:=zq;exact⟨h',aA.of<|S _ _ L6.a3⟩) ?_ ?_;rotate_left
 .rintro i B U x' b6 hi ⟨rfl,S,f'⟩;let⟨r,hr,rfl⟩:=bJ b6;let⟨⟨r',a⟩,ch,er⟩:=aV.mp (show r∈bn.map (·.1) by rw[O];exact cH hr);obtain rfl:r'=r:=er;let⟨A,c0,c1⟩:=ce _ ch;refine gN ?_;apply⟨_,pw,x,C,G,_,.ref N,pw,S _ _ u,M.cls,M.a5,cB,_,pw,N,.ref a,pw,.inl ⟨_,.inr r',.inl<|S _ _ b5,pw,(fG jR ct ch).symm⟩,a,A,cV ds r',pw,S _ _ c0,c1.kt<|ac.kt S,bh (Ev _ _) ⋯,m.UN,λbw l=>⟨_,pw,?_⟩⟩;have ci:(((rooms.take i).filter<|fj ds).map V.str).length<ai:=by
   rw[am];refine ax<|bh (j3 _ _) ?_;rw[aP];nofun
  refine kb (λhq=>?_)<|λhq=>?_
  .refine⟨_,pw,l _ _ f',ci,rC hi ⟨?_,?_,aa⟩⟩
   .rw[tU hr,if_pos<|show fj ds r'=true from hq,ay];rfl
   .intro b o q;rw[aj<|ag q hf];exact l _ _<|S _ _ q
  .refine rC hi ⟨?_,S.trans l,?_⟩
   .rw[tU hr,if_neg<|show ¬fj ds r'=true from hq,eI]
   .exact l _ _ f'
 rintro B d3 ⟨rfl,S7,f7⟩;rw[am,bC]at f7;refine tf (ws:=rooms.filter<|fj ds) (aA.of f7) (bh (j3 _ _) ⋯) λqu b0=>⟨_,pw,x,C,G,_,pw,kp (S7 _ _ u) b0,M.cls,M.a6,by nofun,?_⟩;let⟨H7,e7,ab,F7⟩:=CL "quiet" (.ref qu)<|kp (x:=.dK<|bR<|rooms.filter<|fj ds) (S7 _ _ u) b0;rw[<-e7];have n7:qu≠x:=(ag (S7 _ _ u) b0).symm;have c2:=F7 _ _ aa n7;have E7:cY x H6 H7:=((ac.Rz S7).trans<|cY.new b0).trans F7;have L7:=L6.TM u E7;have d0:=iz ("quiet":WD) (.ref qu)<|dL ("leaving":WD) (.ref N) s;clear e7 F7;apply⟨_,pw,l4,ts,ds,pw,L7.a4,L7.ds,by nofun,λsg b7 d4 G' S8=>⟨_,pw,x,C,G,_,pw,S8 _ _ ab,M.cls,M.a7,by nofun,?_⟩⟩;let⟨H8,e8,v,F8⟩:=CL "sign_goals" (.ref sg)<|S8 _ _ ab;rw[<-e8];have E8:cY x H7 H8:=(ac.Rz S8).trans F8;have L8:=L7.TM ab E8;have G8:jU H8 sg b7 ds:=⟨G'.nd,F8 _ _ G'.g<|LW (S8 _ _ ab) G'.g,λy hy=>F8 _ _ (G'.ls y hy)<|cY.UG (S8 _ _ ab)<|G'.ls y hy,G'.all⟩;have d1:=iz ("sign_goals":WD) (.ref sg)<|dL ("quiet":WD) (.ref qu)<|dL ("leaving":WD) (.ref N) s;have c3:lk "sign_goals" (dL ("sign_goals":WD) (.ref sg)<|dL ("quiet":WD) (.ref qu)<|dL ("leaving":WD) (.ref N) s)=pe (.ref sg):=by
  show ix _ _=_;rw[fx,if_pos rfl]
 clear e8 F8 G';apply⟨_,pw,l3,pw,⟨_,aA.of L8.a3⟩,λb1 ck=>?_⟩
 let c4:Nat->List V->Hp->Prop:=λi B U=>NZ λ(A:Ze) (pl:List<|WD×Wv)=>Ol (B=A.map V.ref) (Paired (λt (p:WD×Wv)=>U t=pe (.tup [.str p.1,.ref p.2])) A pl) (pl.map (·.1)=rooms.take i) ((∀p∈pl,∃L,U p.2=pe (.dK<|bR L)/\L.Nodup/\∀w,w∈L↔Reach ds p.1 w)) (ac H8 U)<|U b1=pe (.lst B)
 refine cW (xs:=rooms.map V.str) c4
  ⟨[],[],pw,.nil,pw,by simp,ac.new ck,aa⟩ (λi B U _ zq=>by let⟨_,_,_,_,_,_,S,h'⟩:=zq;exact⟨h',aA.of<|S _ _ L8.a3⟩) ?_ ?_
 rotate_left
 .rintro i B U x' b6 hi ⟨A,pl,rfl,al,cl,c5,S,f'⟩;let⟨r,hr,rfl⟩:=bJ b6;have dc:A.length<=150:=by
   rw[Paired.length al,<-am (f:=(·.1)) (as:=pl),cl,aP];nofun
  refine gN<|oQ ?_;apply⟨_,pw,_,pw,x,C,G,_,.ref sg,pw,S _ _ v,M.cls,M.a7,c3,_,pw,sg,r,b7,ds,rooms,pw,G8.same S,λd hd=>(m.good d hd).b,by nofun,λld Lr bw dd nd di d5 l=>⟨Q2,λt ht=>⟨?_,?_,rC hi ⟨A++[t],pl++[(r,ld)],?_,?_,?_,?_,?_,aa⟩⟩⟩⟩
  .exact kp (l _ _ f') ht
  .rw[am];exact ax ⋯
  .rw[ay];rfl
  .have KT:g_ (upd bw t<|.tup [.str r,.ref ld]) (upd (upd bw t<|.tup [.str r,.ref ld]) b1<|.lst<|A.map V.ref++[.ref t]):=dO<|kp (l _ _ f') ht;exact Paired.app (Paired.OJ al λt' p' e=>KT _ _<|kp (l _ _ e) ht)<|.cons (KT _ _ aa) .nil
  .rw[ay,cl,take_snoc hr];rfl
  .have cm:∀{b:Wv}{dk:List (cD×V)},upd bw t (.tup [.str r,.ref ld]) b=pe (.dK dk)->b≠b1:=λhb z=>by rw[z,kp (l _ _ f') ht]at hb;cases hb
   intro p hp;obtain hp|hp:=bp.mp hp
   .obtain⟨L0,I,g2⟩:=c5 p hp;apply⟨L0,?_,g2⟩;have:=kp (x:=.tup [.str r,.ref ld]) (l _ _ I) ht;rw[aj<|cm this];exact this
   .have:p=(r,ld):=by simpa using hp
    subst this;apply⟨Lr,?_,nd,di⟩;have:=kp (x:=.tup [.str r,.ref ld]) dd ht;rw[aj<|cm this];exact this
  .intro b o q;rw[aj<|ag q ck];exact kp (l _ _<|S _ _ q) ht
 rintro B d6 ⟨A,Sk,rfl,al,D,cn,S9,f9⟩;rw[am,bC]at D;have dm:(Sk.map (·.1)).Nodup:=by rw[D];exact m.RX.1
 apply⟨b1,A,eU Sum.inr Sk,pw,aA.of f9,?_,?_,λsl J=>⟨_,pw,x,C,G,_,pw,kp (S9 _ _ v) J,M.cls,M.a8,by nofun,?_⟩⟩
 .rw[Paired.length al];unfold eU;rw[am]
 .intro j t kv hj b8;let⟨p,hp,e⟩:=Paired.getL al hj;unfold eU at b8;rw[eL,hp]at b8;have:=ff b8;rw[<-this];exact e
 have b2:fP [] (eU Sum.inr Sk)=eU Sum.inr Sk:=vX Sk [] dm;rw[b2];let⟨H9,e9,b9,F9⟩:=CL "still_led" (.ref sl)<|kp (x:=.dK<|eU Sum.inr Sk) (S9 _ _ v) J;rw[<-e9];have n9:sl≠x:=(ag (S9 _ _ v) J).symm;have co:=F9 _ _ aa n9;have E9:cY x H8 H9:=((ac.Rz S9).trans<|cY.new J).trans F9;have L9:=L8.TM v E9;have an:∀p∈Sk,∃L,H9 p.2=pe (.dK<|bR L)/\L.Nodup/\∀w,w∈L↔Reach ds p.1 w:=λp hp=>by
  let⟨L0,I,g2⟩:=cn p hp;have g3:=kp (x:=.dK<|eU Sum.inr Sk) I J;exact⟨L0,F9 _ _ g3<|Jn (kp (S9 _ _ v) J) g3,g2⟩
 clear e9 F9;have cq:lk "still_led" (dL ("still_led":WD) (.ref sl)<|dL ("sign_goals":WD) (.ref sg)<|dL ("quiet":WD) (.ref qu)<|dL ("leaving":WD) (.ref N) s)=pe (.ref sl):=by
  show ix _ _=_;rw[fx,if_pos rfl]
 apply⟨_,pw,_,pw,x,C,G,_,.ref sl,pw,b9,M.cls,M.a8,cq,l3,sl,rooms,Sk,pw,L9.a3,co,D,m.RX.1,λp hp=>?_,λcs aC=>⟨_,pw,k cs ?_ ?_⟩⟩
 .obtain⟨L0,I,g2,g3⟩:=an p hp;exact⟨L0,I,λz=>m.OB _<|(g3 _).mp z⟩
 .have cb:cY x H6 H9:=(E7.trans E8).trans E9;have dn:=((E6.trans E7).trans E8).trans E9;have Y:∀{b:Wv}{o:HO},H9 b=pe o->cs b=pe o:=λh=>aC _ _ h;have LL:PK H5 o1 o2 o3 o4 ts J0 J2 rooms ds:=⟨(E3.trans<|E4.trans E5) _ _ f1 n1,(E4.trans E5) _ _ f2 n2,E5 _ _ f3 n3,f4,L5.ds⟩;apply⟨⟨G,_,o1,o2,o3,o4,N,qu,sg,sl,ts,bn,b7,Sk,Y b9,?_,?_,?_,?_,?_,?_,?_,?_,?_,?_,?_,cq,(LL.TM n dn).same aC,O,?_,?_,?_,?_,D,Y co,λp hp=>?_⟩,m,⟨G,_,Y b9,?_,?_,?_,?_⟩⟩
  rotate_right 9
  .exact Y<|cb _ _ b5<|Jn u b5
  .intro y hy;let⟨dp,I,g2⟩:=ce y hy;exact⟨dp,Y<|cb _ _ I<|cY.UG u I,(g2.kt<|cb.VB u).kt<|ac.kt aC⟩
  .exact Y<|(E8.trans E9) _ _ c2 n7
  .exact jU.same ⟨G8.nd,E9 _ _ G8.g<|LW v G8.g,λy hy=>E9 _ _ (G8.ls y hy)<|cY.UG v<|G8.ls y hy,G8.all⟩ aC
  .obtain⟨L0,I,g2⟩:=an p hp;exact⟨L0,Y I,g2⟩
  all_goals(show ix _ _=_;subst b3;repeat (rw[fx];first|rw[if_pos rfl] | rw[if_neg (by decide +kernel)]))
  all_goals rfl
 .exact((((((((E1.trans E2).trans E3).trans E4).trans E5).trans E6).trans E7).trans E8).trans E9).trans<|ac.Rz aC
theorem Li(a b:WD):decide (dJ a=dJ b)=decide (a=b):=by
 by_cases e:a=b
 .rw[qh e,qh (by rw[e])]
 .rw[qb e,qb<|λz=>e<|qA z]
theorem bE.by(h:bE C H x s t rooms u)(j:∀b v,H b=pe (.lst<|List.map V.str v)->e b=pe (.lst<|List.map V.str v))(w:∀b k,H b=pe (.lst<|List.map V.ref k)->e b=pe (.lst<|List.map V.ref k))(z:g_ H e)(l:∀b a,H b=pe (.dK a)->e b=pe (.dK a))(A:∀b a,H b=pe (.dT a)->e b=pe (.dT a))(hi:∀b C f fs,H b=pe (.ins C f fs)->e b=pe (.ins C f fs)):bE C e x s t rooms u:=by
 let⟨f,fs,B,D,E,I,J,M,N,O,k,m,n,o,Q,a1,a2,a3,T,U,Y,b3,b4,b5,b6,b7,b8,L,c1,c2,c3,c4,G,d1,d2,d3⟩:=h.at_;apply⟨⟨f,fs,B,D,E,I,J,M,N,O,k,m,n,o,hi _ _ _ _ Q,a1,a2,a3,T,U,Y,b3,b4,b5,b6,b7,b8,⟨j _ _ L.a1,j _ _ L.a2,j _ _ L.a3,w _ _ L.a4,L.ds.kt z⟩,c1,l _ _ c2,λy i=>?_,l _ _ c4,⟨G.nd,A _ _ G.g,λy i=>j _ _<|G.ls y i,G.all⟩,d1,l _ _ d2,λy i=>?_⟩,h.ok,by let⟨f,fs,g,r⟩:=h.more;exact⟨f,fs,hi _ _ _ _ g,r⟩⟩
 .obtain⟨us,p,q⟩:=c3 y i;exact⟨us,w _ _ p,q.kt z⟩
 .obtain⟨L0,p,q⟩:=d3 y i;exact⟨L0,l _ _ p,q⟩
theorem bE.same(h:bE C H x f g rooms i)(S:ac H a):bE C a x f g rooms i :=
 h.by (λ_ _ e=>S _ _ e) (λ_ _ e=>S _ _ e) (ac.kt S) (λ_ _ e=>S _ _ e) (λ_ _ e=>S _ _ e) (λ_ _ _ _ e=>S _ _ e)
theorem bE.ex(h:bE C H x g i rooms j)(a:eF H p c)(S:cY p H f):bE C f x g i rooms j:=by
 let⟨xs,hx⟩:=a.lst;exact h.by (λ_ _ e=>S _ _ e<|a.r3 e) (λ_ _ e=>S _ _ e<|a.So e) (S.kt hx) (λ_ _ e=>S _ _ e (λz=>by rw[z,hx]at e;cases e)) (λ_ _ e=>S _ _ e (λz=>by rw[z,hx]at e;cases e)) (λ_ _ _ _ e=>S _ _ e (λz=>by rw[z,hx]at e;cases e))
inductive jL(C:Wv)(vs:List V)(H:Hp)(Q:VK)(E:XK):Prop
 |mk (x:Wv) (w:WD) (J0 J2 rooms:Zb) (ds:List ak):vs=[.ref x,.str w]->bE C H x J0 J2 rooms ds->Q (.bl (decide (w∈rooms.filter (fj ds)))) H->jL C vs H Q E
theorem BX{K:Za}(M:MC K C)(h:jL C a H Q E):oY K (bH Q) (start pG a) H:=by
 let⟨x,w,o,p,rooms,q,rfl,h,k⟩:=h;let⟨f,fs,r,s,t,u,v,e,y,z,A,g,i,j,l,a1,a2,a3,B,D,G,I,J,N,m,O,T,L,U,Y,c3,n,_⟩:=h.at_;apply⟨_,pw,_,pw,x,C,f,fs,.ref e,pw,l,M.cls,M.a6,m,e,_,pw,.inl ⟨_,.inr w,.inl n,pw,pw⟩,?_⟩;rw[i3];exact k
def cz:List WD:=[("hush":WD)]
inductive eO(C:Wv)(vs:List V)(H:Hp)(Q:VK)(E:XK):Prop
 |mk (t l1 l2 l3 l4:Wv) (ts:Ze) (J0 J2 rooms:Zb) (ds:List ak):vs=[.ref t]->eD H t l1 l2 l3 l4 ts J0 J2 rooms ds->aE J0 J2 rooms ds->(∀(x:Wv) (H':Hp),bE C H' x J0 J2 rooms ds->ac H H'->Q (.ref x) H')->eO C vs H Q E
theorem Ec{K:Za}(h:eO C B H Q E):wZ K C (uv C) (bH Q) (start xK B) H:=by
 let⟨t,J,L,N,O,f,g,i,rooms,U,rfl,T,m,k⟩:=h;apply⟨_,pw,.inr<|.inl ⟨t,_,0,_,pw,pw,bj.of T.t,pw,.inl ⟨J,_,pw,.inl<|aA.of T.a1,λr D=>?_⟩⟩⟩;have s:=T.same<|ac.new (o:=.lst<|g.map V.str) D;apply⟨_,pw,.inr<|.inl ⟨t,_,1,_,pw,pw,bj.of s.t,pw,.inl ⟨L,_,pw,.inl<|aA.of s.a2,λu v=>?_⟩⟩⟩;have w:=s.same<|ac.new (o:=.lst<|i.map V.str) v;apply⟨_,pw,.inr<|.inl ⟨t,_,2,_,pw,pw,bj.of w.t,pw,.inl ⟨N,_,pw,.inl<|aA.of w.a3,λy n=>?_⟩⟩⟩;have z:=w.same<|ac.new (o:=.lst<|rooms.map V.str) n;apply⟨_,pw,.inr<|.inl ⟨t,_,3,_,pw,pw,bj.of z.t,pw,.inl ⟨O,_,pw,.inl<|aA.of z.a4,λA j=>?_⟩⟩⟩;have T4:=z.same<|ac.new (o:=.lst<|f.map V.ref) j;have G:=(((ac.new (o:=.lst<|g.map V.str) D).trans<|ac.new (o:=.lst<|i.map V.str) v).trans<|ac.new (o:=.lst<|rooms.map V.str) n).trans<|ac.new (o:=.lst<|f.map V.ref) j;refine λx p hx a l=>?_;have I:ac H (upd (upd (upd (upd (upd (upd H r<|.lst<|g.map V.str) u<|.lst<|i.map V.str) y<|.lst<|rooms.map V.str) A<|.lst<|f.map V.ref) p<|.own x) x<|.ins C p []) :=
  (G.trans<|ac.new a).trans (ac.new (by rw[aj l.symm];exact hx))
 have e:upd (upd (upd (upd (upd H r<|.lst<|g.map V.str) u<|.lst<|i.map V.str) y<|.lst<|rooms.map V.str) A<|.lst<|f.map V.ref) p (.own x) x=none:=by rw[aj l.symm];exact hx
 apply⟨x,p,r,u,y,A,f,g,i,rooms,U,pw,aa,⟨?_,?_,?_,?_,T.ds.kt<|ac.kt I⟩,m,λY M ex=>⟨pw,k x Y M λb o q=>?_⟩⟩
 .exact kp (kp (kp (kp (kp aa v) n) j) a) e
 .exact kp (kp (kp (kp aa n) j) a) e
 .exact kp (kp (kp aa j) a) e
 .exact kp (kp aa a) e
 .have hq:=I _ _ q;exact ex _ _ hq<|ag (G.trans (ac.new a) _ _ q) e
def lH(ds:List ak):List WD:=(ds.filter λd=>!qR d).map (·.a)
theorem o9(e:List ak)(r:WD):fj e r=decide (r∉lH e):=by
 unfold fj lH cV;rw[uJ,u_,decide_eq_true_iff];constructor
 .intro h z;let⟨d,a,rfl⟩:=aV.mp z;rw[gv]at a;have:=h d<|gv.mpr ⟨a.1,qh rfl⟩;rw[this]at a;exact absurd a.2 WE
 .intro h d a;rw[gv]at a;cases q:qR d with
  |true=>rfl
  |false =>
   refine absurd (aV.mpr ⟨d,gv.mpr ⟨a.1,by rw[q];rfl⟩,?_⟩) h;exact of_decide_eq_true a.2
theorem nJ{a:Zb}:dJ w∈a.map dJ↔w∈a:=by
 constructor
 .intro h;let⟨x,hx,e⟩:=aV.mp h;rw[<-qA e];exact hx
 .exact ma
def t8(K:Za):TS :=
 be (dj (eh K)<|av<|w8 K V0 "own_rooms")
def ul:List WD:=["self"]
def oX(K:Za):TS :=
 be (dj (eh K)<|av<|Al K (w8 K V0 "still_led") V1<|aU<|bx)
def pF:List WD:=["self","room"]
def t_(K:Za):TS :=
 be (dj (eh K)<|av<|Al K (w8 K V0 "sign_goals") (aU<|aM V1 V2)<|aU<|bx)
def um:List WD:=["self","room","sign"]
def vv(K:Za):TS :=
 ar (aL (dj (eh K)<|av V1) U2)
 (ar (aL (tC<|.int 0) U3)
 (ar (sD (aQ<|aD G9 V3<|dj (dg K)<|av V2) (ar (fF (cf K V0) (gC K 3<|aS U4<|aS U5<|aS U6<|gh)<|bS (o7 (aQ<|aD (mF K) V4<|aD (pK K) V2 V3)<|o7 (aQ<|aD (mF K) V5<|aU<|av<|tC<|.str "still")<|aQ<|aD (qF K true) V6 V2) (cy<|Bl K "list" eP V2<|av V6)<|bf)
 (aL (aD fh V3<|tC<|.int 1) U3)))
 (be V2)))
def wD:List WD:=["doors","rooms","found","at","room","sign","other"]
inductive mB(C:Wv)(vs:List V)(H:Hp)(Q:VK)(E:XK):Prop
 |mk (x:Wv) (J0 J2 rooms:Zb) (ds:List ak):vs=[.ref x]->bE C H x J0 J2 rooms ds->(∀l,H l=none->Q (.ref l) (upd H l (.lst (rooms.map V.str))))->mB C vs H Q E
theorem IE{K:Za}(M:MC K C)(h:mB C a H Q E):t8 K (bH Q) (start ul a) H:=by
 let⟨x,n,o,rooms,p,rfl,h,k⟩:=h;let⟨f,fs,q,r,e,s,t,u,v,w,y,g,i,j,l,a1,a2,a3,z,A,B,m,D,G,I,J,N,L,_⟩:=h.at_;exact⟨_,pw,x,C,f,fs,.ref e,pw,l,M.cls,M.a3,m,.inl ⟨e,_,pw,.inl<|aA.of L.a3,k⟩⟩
theorem CF:∀{L:Zb},L.Nodup->(bR L).map (λa=>kV a.1)=L.map V.str:=by
 intro L;refine mr (λL=>L.Nodup->(bR L).map (λa=>kV a.1)=L.map V.str) (λ_=>rfl) (λf w g e=>?_) L;rw[eK]at e;have h:c8 (bR f) (.inr w)=none:=by
  rw[vZ,if_neg (λz=>e.2.2 w z w ∅ rfl)]
 show(bR<|f++[w]).map _=_;rw[gA,qH _ h,ay,g e.1,ay]
 rfl
inductive jJ(C:Wv)(vs:List V)(H:Hp)(Q:VK)(E:XK):Prop
 |mk (x:Wv) (r:WD) (J0 J2 rooms:Zb) (ds:List ak):vs=[.ref x,.str r]->bE C H x J0 J2 rooms ds->r∈rooms->(∀(l:Wv) (L:Zb) (H':Hp),H' l=pe (.lst (L.map V.str))->L.Nodup->(∀w,w∈L↔Reach ds r w)->H l=none->ac H H'->Q (.ref l) H')->jJ C vs H Q E
theorem BW{K:Za}(M:MC K C)(h:jJ C j H Q E):oX K (bH Q) (start pF j) H:=by
 let⟨x,r,N,O,rooms,T,rfl,h,t,k⟩:=h;let⟨u,fs,U,Y,o3,o4,lv,qu,sg,m,ts,v,w,g,y,a1,a2,a3,a4,b1,b2,b3,b4,b5,b6,b7,z,L,c1,c2,c3,c4,G,n,o,A⟩:=h.at_;have i:=h.ok.RX.1;let⟨⟨p,a⟩,f,B⟩:=aV.mp (show r∈g.map (·.1) by rw[n];exact t);obtain rfl:p=r:=B;let⟨D,I,q,J⟩:=A _ f;apply⟨_,pw,x,C,u,fs,.ref m,pw,y,M.cls,M.a8,z,m,pw,.inl ⟨_,.inl o⟩,_,pw,Q0,λet e=>⟨_,.inl ⟨_,.inr p,.inl<|kp o e,pw,pw⟩,?_⟩⟩;rw[fG jR (by rw[n];exact i) f];refine .inr ⟨a,_,pw,.inl<|kp I e,λl s=>k l D _ ?_ q J ((ac.new e).free s)<|(ac.new e).trans<|ac.new s⟩;rw[aa,CF q]
theorem Reach.trans(e:Reach ds a b)(f:Reach ds b c):Reach ds a c:=by
 induction f with
 |one h=>exact .step e h
 |step r h g=>exact .step g h
def lJ(ds:List ak)(gs:Zb)(w:WD):Prop:=∃g∈gs,w=g∨Reach ds g w
theorem lJ.Uh{a:List ak}{e rooms:Zb}{w:WD}(f:∀g∈e,g∈rooms)(i:∀d∈a,d.b∈rooms)(h:lJ a e w):w∈rooms:=by
 obtain⟨g,j,rfl|h2⟩:=h
 .exact f _ j
 .exact h2.Uh i
inductive eJ(K:Za)(vs:List V)(H:Hp)(Q:VK)(E:XK):Prop
 |mk (l4 l:Wv) (ts:Ze) (ds:List ak) (gs rooms:Zb):vs=[.ref l4,.ref l]->H l4=pe (.lst (ts.map V.ref))->df H ts ds->H l=pe (.lst (gs.map V.str))->((∀d∈ds,d.b∈rooms))->rooms.length<=1000->gs.length<=1000->(∀(f:Wv) (F:Zb) (H':Hp),H' f=pe (.lst (F.map V.str))->(∀w,w∈F↔lJ ds gs w)->F.length<=2000->H f=none->ac H H'->Q (.ref f) H')->eJ K vs H Q E
structure SO(H0 H:Hp)(ds:List ak)(gs:Zb)(f:Wv)(X:Zb):Prop where
 f:H f=pe (.lst ((gs++X).map V.str))
 same:ac H0 H
 nd:X.Nodup
 new:∀y∈X,y∉gs
 sound:∀y∈X,lJ ds gs y
theorem lJ.step{ds:List ak}{f:Zb}{a b:WD}(h:lJ ds f a)(e:(⟨a,ao,b⟩:ak)∈ds):lJ ds f b:=by
 obtain⟨g,i,rfl|h⟩:=h
 .exact⟨_,i,.inr<|.one e⟩
 .exact⟨g,i,.inr<|.step h e⟩
theorem jS(a b:Zb):decide (iB a=iB b)=decide (a=b):=by
 by_cases e:a=b
 .rw[qh e,qh (by rw[e])]
 .rw[qb e,qb<|λz=>e<|FZ z]
inductive Vo(l4 l f:Wv)(at_:Int)(H:Hp)(ds:List ak)(gs X:Zb)(here:WD)(j:Nat)(σ:L2.St)(H':Hp):Prop
 |mk (X' Y:Zb) (x y z:Option V):σ=[pe (.ref l4),pe (.ref l),pe (.ref f),pe (.int at_),x,y,z]->X'=X++Y->SO H H' ds gs f X'->(∀d∈ds.take j,d.a=here->d.sg=ao->d.b∈gs++X')->Vo l4 l f at_ H ds gs X here j σ H'
theorem BS{K:Za}(h:eJ K vs H Q E):vv K (bH Q) (start wD vs) H:=by
 let⟨l4,l,ts,ds,p,rooms,rfl,h4,al,hl,a5,hz,bw,k⟩:=h;apply⟨_,pw,.inl ⟨l,_,pw,.inl<|aA.of hl,λf hf=>?_⟩⟩;have L:∀{X:Zb},X.Nodup->(∀y∈X,y∉p)->(∀y∈X,lJ ds p y)->X.length<=rooms.length:=λnd nw sd=>jl nd λy hy=>by
  obtain⟨g,hg,e|h⟩:=sd y hy
  .exact absurd (by rw[e];exact hg)<|nw y hy
  .exact h.Uh a5
 apply⟨λm σ H'=>∃(X:Zb) (at_:Nat) (x y z:Option V),σ=[pe<|.ref l4,pe<|.ref l,pe<|.ref f,pe<|.int at_,x,y,z]/\SO H H' ds p f X/\at_<=(p++X).length/\(∀i y,i<at_->(p++X)[i]?=pe y->∀c,(⟨y,ao,c⟩:ak)∈ds->c∈p++X)/\m=p.length+rooms.length-at_,
  ⟨_,[],0,_,_,_,pw,⟨by rw[eI];exact aa,ac.new hf,rT,by simp,by simp⟩,cw _,λi y h=>by nofun,pw⟩,?_⟩
 rintro m σ H1 ⟨X,at_,x4,x5,x6,rfl,D,b0,an,rfl⟩;have b1:=L D.nd D.new D.sound;apply⟨_,pw,_,pw,.inl ⟨f,_,pw,.inl<|aA.of D.f,_,_,pw,pw,_,pw,?_⟩⟩;refine kb (λN=>?_)<|λN=>?_
 .have B:at_<(p++X).length:=by
   have:=of_decide_eq_true N;rw[am]at this;nofun
  have bl:at_<p.length+rooms.length:=by rw[aH]at B;nofun
  generalize O:(p++X)[at_]=here;have I:(p++X)[at_]?=pe here:=by rw[<-O];exact dH B
  have T:∀{Y:Zb}{y:WD},(∀y∈Y,lJ ds p y)->y∈p++Y->lJ ds p y:=λsd hy=>by
   obtain hy|hy:=bp.mp hy
   .exact⟨_,hy,.inl rfl⟩
   .exact sd _ hy
  apply⟨fun σ' H'=>∃(M:Zb) (x y z:Option V),σ'=[pe<|.ref l4,pe<|.ref l,pe<|.ref f,pe<|.int ((at_+1:Nat):Int),x,y,z]/\SO H H' ds p f M/\at_+1<=(p++M).length/\(∀i y,i<at_+1->(p++M)[i]?=pe y->∀c,(⟨y,ao,c⟩:ak)∈ds->c∈p++M),
   fun σ' H' ⟨M,x,y,z,e,D',h1,h2⟩=>⟨_,(by nofun:p.length+rooms.length-(at_+1)<p.length+rooms.length-at_),M,at_+1,x,y,z,e,D',h1,h2,pw⟩,?_⟩
  apply⟨_,pw,l4,pw,⟨_,aA.of<|D.same _ _ h4⟩,?_⟩;refine cr (xs:=ts.map V.ref) (Vo l4 l f at_ H ds p X here)
   ⟨X,[],_,_,_,pw,by simp,D,by simp⟩ (λj σ H' _ zq=>by let⟨_,_,_,_,_,_,_,D',_⟩:=zq;exact aA.of<|D'.same _ _ h4) ?_ ?_
  .rintro j y σ H2 hj ⟨M,Y,a6,a7,a8,rfl,rfl,C,v⟩;let⟨t,ht,rfl⟩:=dq hj;let⟨u,as,aC⟩:=Paired.getL al ht;let⟨s,a9,bd⟩:=aC.kt<|ac.kt C.same;have aT:=cH as;have bm:=L C.nd C.new C.sound;have U:(p++(X++Y))[at_]?=pe here:=by
    rw[<-d9,vi B];exact I
   apply⟨t,_,pw,bj.of a9,pw,_,_,pw,_,_,pw,_,_,pw,pw,?_⟩;have A:∀(H3:Hp) (X3 Y3:Zb) (q4 q5 q6:Option V),X3=X++Y3->SO H H3 ds p f X3->(∀y∈X++Y,y∈X3)->(u.a=here->u.sg=ao->u.b∈p++X3) ->
     Vo l4 l f at_ H ds p X here (j+1) [pe<|.ref l4,pe<|.ref l,pe<|.ref f,pe<|.int at_,q4,q5,q6] H3:=by
    intro H3 X3 Y3 q4 q5 q6 e G aX a0;apply⟨X3,Y3,q4,q5,q6,pw,e,G,λd hd e1 e2=>?_⟩;rw[take_snoc as]at hd;obtain hd|hd:=bp.mp hd
    .obtain h|h:=bp.mp (v d hd e1 e2)
     .exact ej _ h
     .exact cE _<|aX _ h
    .have:d=u:=by simpa using hd
     subst this;exact a0 e1 e2
   apply⟨_,pw,_,pw,_,pw,.inl ⟨f,_,_,_,pw,pw,aA.of C.f,bA (j:=at_) (by rw[eL,U];rfl),dJ u.a,dJ here,qZ _,qZ _,(by show 0<=8;decide),(by show 0<=8;decide),_,pw,?_⟩⟩;rw[Li];by_cases c1:u.a=here;rotate_left
   .rw[qb c1];exact aY<|aY<|A H2 _ _ _ _ _ rfl C (λ_ h=>h) λe=>absurd e c1
   rw[qh c1];refine bo ?_;apply⟨_,pw,Q1,λst J=>⟨iB u.sg,iB ao,cN<|bj.of<|kp bd J,cN<|bj.of aa,by rw[dC];decide,by rw[dC];decide,_,pw,?_⟩⟩;rw[jS];have G:SO H (upd H2 st<|.tup [.str "still"]) ds p f (X++Y):=⟨kp C.f J,C.same.trans<|ac.new J,C.nd,C.new,C.sound⟩;have bn:H st=none:=C.same.free J;generalize upd H2 st (.tup [.str "still"])=H3 at G ⊢;by_cases c2:u.sg=ao;rotate_left
   .rw[qb c2];exact aY<|aY<|A H3 _ _ _ _ _ rfl G (λ_ h=>h) λ_ e=>absurd e c2
   rw[qh c2];refine bo ?_;apply⟨_,pw,_,pw,dJ u.b,(p++(X++Y)).map dJ,f,_,qZ _,pw,.inl<|aA.of G.f,mS _,(by show 0<=8;decide),by rw[fW];decide,_,pw,?_⟩;rw[if_pos rfl];by_cases c3:u.b∈p++(X++Y)
   .rw[qh<|nJ.mpr c3];exact aY<|A H3 _ _ _ _ _ rfl G (λ_ h=>h) λ_ _=>c3
   rw[qb<|λz=>c3<|nJ.mp z];refine bo ?_;apply⟨_,pw,.inl ⟨pw,_,aA.of G.f⟩,_,pw,f,_,_,pw,pw,G.f,by rw[am,aH];exact ib ⋯,?_⟩;have ab:(⟨here,ao,u.b⟩:ak)∈ds:=by
    have:u=⟨here,ao,u.b⟩:=by cases u;simp only at c1 c2;rw[c1,c2]
    rw[<-this];exact aT
   refine A _ (X++(Y++[u.b])) _ _ _ _ rfl ⟨?_,?_,?_,?_,?_⟩ ?_ ?_
   .rw[aa];have:p++(X++(Y++[u.b]))=p++(X++Y)++[u.b]:=by simp
    rw[this,ay (l₂:=[u.b])]
    rfl
   .intro b o q;rw[aj<|ag q hf];exact G.same _ _ q
   .rw[<-d9,eK];apply⟨G.nd,by simp,λa ha b hb e=>?_⟩;have:b=u.b:=by simpa using hb
    exact c3 (cE _ (by rw[<-this,<-e];exact ha))
   .intro y hy;rw[<-d9]at hy;obtain hy|hy:=bp.mp hy
    .exact G.new y hy
    .have:y=u.b:=by simpa using hy
     rw[this];exact λz=>c3<|ej _ z
   .intro y hy;rw[<-d9]at hy;obtain hy|hy:=bp.mp hy
    .exact G.sound y hy
    .have:y=u.b:=by simpa using hy
     rw[this];exact(T D.sound<|cH I).step ab
   .intro y hy;rw[<-d9];exact ej _ hy
   .intro _ _;exact cE _ ∅
  .rintro σ H2 ⟨M,Y,a6,a7,a8,rfl,rfl,C,v⟩;rw[am,Paired.length al,bC]at v;apply⟨_,pw,_,_,pw,pw,X++Y,_,_,_,pw,C,?_,λi y hi hy c hc=>?_⟩
   .rw[<-d9,aH];nofun
   .by_cases e:i=at_
    .subst e;rw[<-d9,vi B,I]at hy;have:=ff hy;subst this;exact v _ hc rfl rfl
    .have bi:i<at_:=by nofun
     rw[<-d9,vi ⋯]at hy;have:=an i y bi hy c hc;rw[<-d9];exact ej _ this
 .have a4:at_=(p++X).length:=by
   have:¬(at_<(p++X).length):=λz=>N (qh (by rw[am];nofun));nofun
  apply⟨_,pw,k f (p++X) H1 D.f (λw=>⟨λhw=>?_,λhw=>?_⟩) (by rw[aH];nofun) hf D.same⟩
  .obtain hw|hw:=bp.mp hw
   .exact⟨_,hw,.inl rfl⟩
   .exact D.sound _ hw
  .have closed:∀y∈p++X,∀c,(⟨y,ao,c⟩:ak)∈ds->c∈p++X:=λy hy c hc=>by
    let⟨n,hn⟩:=rJ hy;exact an n y (by rw[a4];exact(cx.mp hn).1) hn c hc
   obtain⟨g,hg,rfl|h⟩:=hw
   .exact ej _ hg
   .induction h with
    |one e=>exact closed _ (ej _ hg) _ e
    |step r e ih=>exact closed _ ih _ e

theorem DY(h:¬lJ g [b] a)(r:Reach (g++[⟨a,ao,b⟩]) x y):Reach g x y∨((x=a∨Reach g x a)/\(y=b∨Reach g b y)):=by
 have f:∀{u v:WD},(⟨u,ao,v⟩:ak)∈g++[⟨a,ao,b⟩]->(⟨u,ao,v⟩:ak)∈g∨(u=a/\v=b):=by
  intro u v e;obtain e|e:=bp.mp e
  .exact .inl e
  .have:(⟨u,ao,v⟩:ak)=⟨a,ao,b⟩:=by simpa using e
   injection this with j h2 k;exact .inr ⟨j,k⟩
 induction r with
 |one e =>
  obtain e|⟨rfl,rfl⟩:=f e
  .exact .inl<|.one e
  .exact .inr ⟨.inl rfl,.inl rfl⟩
 |step r l i =>
  obtain e|⟨rfl,rfl⟩:=f l
  .obtain i|⟨j,h2⟩:=i
   .exact .inl<|.step i e
   .refine .inr ⟨j,.inr ?_⟩;obtain h2|h2:=h2
    .exact .one (by rw[<-h2];exact e)
    .exact .step h2 e
  .obtain i|⟨j,h2⟩:=i
   .exact .inr ⟨.inr i,.inl rfl⟩
   .exact absurd ⟨_,by simp,h2⟩ h
theorem Az(g:∀r,¬Reach e r r)(h:¬lJ e [b] a):∀r,¬Reach (e++[⟨a,ao,b⟩]) r r:=by
 intro r z;have f:¬(a=b∨Reach e b a):=λz=>h ⟨b,by simp,z⟩;obtain z|⟨h1,h2⟩:=DY h z
 .exact g r z
 .obtain rfl|h1:=h1
  .exact f h2
  .obtain rfl|h2:=h2
   .exact f<|.inr h1
   .exact f<|.inr<|h2.trans h1
theorem aE.SX(m:aE g i rooms f)(j:a∈rooms)(k:b∈rooms)(h:¬lJ f [b] a)(hf:f.length<=699):aE g i rooms (mG f ⟨a,ao,b⟩):=by
 unfold mG;split
 .exact m
 .next l =>
  refine{m with nodup:=?_,good:=?_,Qb:=?_,OB:=Az m.OB h}
  .rw[eK];apply⟨m.nodup,by simp,λx hx y n e=>?_⟩;have:y=⟨a,ao,b⟩:=by simpa using n
   subst this;exact l<|e▸hx
  .intro d hd;obtain hd|hd:=bp.mp hd
   .exact m.good d hd
   .have:d=⟨a,ao,b⟩:=by simpa using hd
    subst this;exact⟨j,k,.inr<|.inr rfl⟩
  .rw[aH];show f.length+1<=1000;nofun
theorem vP(a:List ak)(d:ak):(mG a d).length<=a.length+1:=by
 unfold mG;split
 .omega
 .rw[aH];exact aB _
def mQ(ds:List ak)(sg:Zb)(face:Zb):List WD:=face.flatMap λr=>aZ ds (r,sg)
theorem qN:b∈mQ e f face↔∃r∈face,(⟨r,f,b⟩:ak)∈e:=by
 unfold mQ;rw[List.mem_flatMap];constructor
 .rintro⟨r,a,h⟩;exact⟨r,a,bG.mp h⟩
 .rintro⟨r,a,h⟩;exact⟨r,a,bG.mpr h⟩
theorem gQ{a:List ak}(h:a[i]?=pe d):(a.take<|i+1).filter p=(a.take i).filter p++(if p d=true then[d]else[]):=by
 rw[take_snoc h,rH];congr 1;by_cases c:p d=true
 .rw[if_pos c];simp[c]
 .rw[if_neg c];simp[c]
theorem GR{K:Za}(u:σ[i0]?=pe (pe<|.ref p))(o:σ[j]?=pe (pe<|.ref a))(q:eF H p c)(g:H a=pe (.lst<|e.map V.str))(h:e≠[])(r:e.length<=1000)(k:∀w∈e,∀H',eF H' p c->cY p H H'->Q (.str w) H') :
  (aD (cg K) (j_ j)<|aI ca<|aM (j_ i0)<|dj (dg K)<|av<|j_ j) σ H Q:=by
 have y:0<e.length:=by cases e with|nil=>exact absurd rfl h|cons _ _=>simp
 have v:(V.int ((e.map V.str).length:Nat))=V.int (e.length:Nat):=by rw[am]
 have i:=q.r3 g;have l:∀(x:Int) (H':Hp),0<=x->x<(e.length:Int)->eF H' p c->cY p H H'->cg K (.ref a) (.int x) H' Q:=by
  intro x H' m s f ex;let⟨n,rfl⟩:=i6 m;have t:n<e.length:=by nofun
  exact⟨a,_,(n:Int),.str e[n],pw,pw,aA.of<|ex _ _ g i,bA (by simp[t]),k _ (List.getElem_mem t) H' f ex⟩
 exact⟨_,o,_,u,_,o,.inl ⟨a,_,pw,.inl<|aA.of g,by rw[v];exact cJ q ⋯ ⋯ λx H' m s f ex=>l x H' m s f ex⟩⟩
def wX(K:Za)(qa:Sp)(ON:Sp):TS :=
 ar (aL V1<|gC K 4<|aS U2<|aS U3<|aS U4<|aS U5<|gh)
 (ar (aL (sG) U6)
 (ar (fF (FT K<|aq V4<|av<|aI ON<|aM V0<|dj (dg K)<|av V4) (gC K 2<|aS U7<|aS U8<|gh)<|ol V6 V7 V8)
 (ar (aL (dE 1 [6] (cf K V4) U0 (jc)<|p_ K V1 V0) U9)
 (ar (aL (aD fh (tC<|.int 1)<|aI qa<|aM V0<|dj (dg K)<|av V4) Of)
 (ar (aL (aD xA (aD xA (Di (vN K) V9 (fE)<|gL<|tC<|.int 1)<|Di (vN K) V9 (gL Ls)<|fE)<|Di (vN K) V9 (gL<|tC<|.int 1)<|gL Ls) U9)
 (ar (aL (dE 3 [6] (cf K V5) (gC K 3<|aS U0<|aS U1<|aS U2<|gh) (jc)<|aU<|bY (p_ K V3 V0) V1<|p_ K V3 V2) U5)
 (be<|aU<|aq V2<|bY V3 V9 V5)))))))
def xI:List WD:=["pen","told","asks","says","rooms","doors","names","room","name","some","at"]
theorem JG{K:Za}{a b:Wv}{xs ys:List V}{g:TG}{o:TS}{D:gm}{σ:L2.St}{H:Hp}(r:xs.length=ys.length)(Pv:Nat->L2.St->Hp->Prop)(s:Pv 0 σ H)(w:∀i σ H,i<=xs.length->Pv i σ H->aA K H a xs/\aA K H b ys)
  (z:∀i x y σ H p,xs[i]?=pe x->ys[i]?=pe y->Pv i σ H->H p=none->g (.ref p) σ (upd H p<|.tup [x,y]) fun σ2 k=>o {D with nx:=Pv<|i+1,ct:=Pv<|i+1,bk:=D.nx} σ2 k) (A:∀σ H,Pv xs.length σ H->D.nx σ H) :
  ∃W:Nat->Nat->L2.St->Hp->Prop,(∃m,W 0 m σ H)/\∀i m σ H,W i m σ H ->
   ((M_ K a b).stop i H/\D.nx σ H)∨((M_ K a b).go i H/\∃N:L2.St->Hp->Prop,(∀σ' f,N σ' f->∃q,q<m/\W (i+1) q σ' f)/\∀x f,(M_ K a b).Sq i H x f->g x σ f fun σ2 k=>o {D with nx:=N,ct:=N,bk:=D.nx} σ2 k):=by
 apply⟨λi m σ H=>m=xs.length-i/\i<=xs.length/\Pv i σ H,⟨xs.length,by simp,cw _,s⟩,?_⟩;rintro i m σ H ⟨rfl,hi,p⟩;let⟨l,n⟩:=w i σ H hi p;by_cases h:i<xs.length
 .have j:i<ys.length:=by nofun
  refine .inr ⟨⟨xs,ys,xs[i],ys[i],l,n,by simp[h],by simp[j]⟩,Pv<|i+1,fun σ' f B=>⟨xs.length-(i+1),by nofun,pw,h,B⟩,λx f y=>?_⟩;let⟨t,u,v,rfl,C,E,G,rfl⟩:=y;exact z i u v σ H t (E xs l) (G ys n) p C
 .have e:i=xs.length:=by nofun
  subst e;exact .inl ⟨⟨xs,ys,l,n,.inl<|aB _⟩,A σ H p⟩
def HR(ps:List<|WD×WD):List (cD×V):=ps.map λx=>(.inr x.1,.str x.2)
def Kg:List (WD×WD)->WD->WD
 |[],r=>r
 | (a,b)::ps,r=>if a=r then b else Kg ps r
theorem FO:∀{e:List (WD×WD)},r∈e.map (·.1)->c8 (HR e) (.inr r:cD)=pe (.str<|Kg e r)
 |[],h=>by cases h
 | (a,b)::e,h=>by
  unfold HR c8 Kg;rw[bP,fL];by_cases c:a=r
  .rw[if_pos c,qh (by rw[c])]
   rfl
  .rw[if_neg c,qb (λz=>c (by injection z))];have:r∈e.map (·.1):=by
    obtain z|z:=b_.mp h
    .exact absurd z.symm c
    .exact z
   exact FO this
theorem Cu:∀{e:List (WD×WD)},r∉e.map (·.1)->c8 (HR e) (.inr r:cD)=none
 |[],_=>rfl
 | (a,b)::e,h=>by
  unfold HR c8;rw[bP,fL,qb (λz=>h (by injection z with z;rw[bP];exact b_.mpr<|.inl z.symm))];exact Cu λz=>h (by rw[bP];exact de _ z)
theorem Jl(h:r∉a.map (·.1)):eQ (HR a) (.inr r) (.str w)=HR (a++[(r,w)]):=by
 rw[qH _<|Cu h];unfold HR;rw[ay]
 rfl
theorem zU:∀{a e:Zb},e.length=a.length->(a.zip e).map (·.1)=a
 |[],_,_=>by simp
 |_::_,[],h=>by cases h
 |r::a,w::e,h=>by
  rw[List.zip_cons_cons,bP,zU (by simpa using h)]
theorem FA:∀{a e:Zb},a.Nodup->e.length=a.length->a.map (Kg<|a.zip e)=e
 |[],[],_,_=>rfl
 |[],_::_,_,h=>by cases h
 |_::_,[],_,h=>by cases h
 |r::a,w::e,g,h=>by
  rw[List.zip_cons_cons,bP];have f:=j8.mp g;have i:Kg ((r,w)::a.zip e) r=w:=by unfold Kg;rw[if_pos rfl]
  have j:a.map (Kg<|(r,w)::a.zip e)=a.map (Kg<|a.zip e):=by
   refine zA λx hx=>?_;show(if r=x then w else Kg (a.zip e) x)=_
   rw[if_neg (λz=>f.1 (by rw[z];exact hx))]
  rw[i,j,FA f.2 (by simpa using h)]
def xu(f:WD->WD)(d:ak):ak:=⟨f d.a,d.sg,f d.b⟩
theorem MT{rooms g:Zb}{f:WD->WD}(hf:rooms.map f=g)(k:g.Nodup){a b:WD}(l:a∈rooms)(m:b∈rooms)(e:f a=f b):a=b:=by
 let⟨i,hi⟩:=rJ l;let⟨j,h⟩:=rJ m;have n:g[i]?=pe (f a):=by rw[<-hf,eL,hi];rfl
 have o:g[j]?=pe (f a):=by rw[<-hf,eL,h,e];rfl
 have:=uF k n o;subst this;rw[hi]at h;exact ff h
theorem GK{rooms:Zb}{f:WD->WD}{ds:List ak}(inj:∀a∈rooms,∀b∈rooms,f a=f b->a=b)(g:∀d∈ds,d.a∈rooms/\d.b∈rooms){x y:WD}(h:Reach (ds.map<|xu f) x y):
  ∃a∈rooms,∃b∈rooms,x=f a/\y=f b/\Reach ds a b:=by
 have j:∀{u v:WD},(⟨u,ao,v⟩:ak)∈ds.map (xu f)->∃a b,(⟨a,ao,b⟩:ak)∈ds/\u=f a/\v=f b:=by
  intro u v e;let⟨⟨a,s,b⟩,i,e⟩:=aV.mp e;unfold xu at e;injection e with l k m;simp only at k;subst k;exact⟨a,b,i,l.symm,m.symm⟩
 induction h with
 |one e =>
  let⟨a,b,i,rfl,rfl⟩:=j e;exact⟨a,(g _ i).1,b,(g _ i).2,pw,pw,.one i⟩
 |step r e o =>
  let⟨a,p,b,q,l,k,t⟩:=o;let⟨n,w,i,m,rfl⟩:=j e;have:b=n:=inj b q n (g _ i).1<|k.symm.trans m;subst this;exact⟨a,p,w,(g _ i).2,l,pw,.step t i⟩
theorem aE.renamed(m:aE A B rooms v)(k:jT u)(hf:rooms.map f=u)(o:g.Perm u):aE A B g (v.map<|xu f):=by
 have i:g.length=rooms.length:=by rw[o.length_eq,<-hf,am]
 have inj:∀a∈rooms,∀b∈rooms,f a=f b->a=b:=λa n b x e=>MT hf k.1 n x e;have h:∀d∈v,d.a∈rooms/\d.b∈rooms:=λd p=>⟨(m.good d p).a,(m.good d p).b⟩;have j:∀a∈rooms,f a∈g:=λa n=>o.mem_iff.mpr (by rw[<-hf];exact ma n);refine{m with RX:=⟨o.nodup_iff.mpr k.1,λw G=>k.2 w<|o.mem_iff.mp G⟩,OI:=?_,A3:=by rw[i];exact m.A3,nodup:=?_,good:=?_,Qb:=by rw[am];exact m.Qb,OB:=?_}
 .intro z;rw[z]at i;exact m.OI<|List.eq_nil_of_length_eq_zero i.symm
 .refine List.Pairwise.map _ ?_<|List.Pairwise.and_mem.mp m.nodup;rintro⟨a,s,b⟩ ⟨H,M,I⟩ ⟨C,D,y⟩ e;unfold xu at e;injection e with q t E;simp only at q t E;refine y ?_;rw[inj a (h _ C).1 H (h _ D).1 q,t,inj b (h _ C).2 I (h _ D).2 E]
 .intro d p;let⟨J,l,rfl⟩:=aV.mp p;exact⟨j _ (h _ l).1,j _ (h _ l).2,(m.good J l).sg⟩
 .intro r z;let⟨a,n,b,x,q,t,L⟩:=GK inj h z;have:=inj a n b x<|q.symm.trans t;subst this;exact m.OB a L
theorem Hw(a:Zb)(f:j<=k)(e:k<=a.length):fQ (a.map V.str) (pe (j:Int)) (pe (k:Int))=((a.drop j).take<|k-j).map V.str:=by
 unfold fQ;rw[HT.Ow,HT.Ow,am,uT e,uT<|bh f e,uU,y8]
theorem Bx(a:Zb)(n:Nat):(a.take 1++a.drop (1+n)++(a.drop 1).take (1+n-1)).Perm a:=by
 have e:a.drop (1+n)=(a.drop 1).drop n:=by rw[List.drop_drop]
 have f:1+n-1=n:=by nofun
 rw[e,f,d9];have h:a=a.take 1++((a.drop 1).take n++(a.drop 1).drop n):=by rw[y3,y3]
 exact(List.Perm.append_left _ List.perm_append_comm).trans (by rw[<-h])
theorem AR(o:WD)(L:Zb):decide (dJ o∈L.map dJ)=decide (o∈L):=by
 by_cases c:o∈L
 .rw[qh<|nJ.mpr c,qh c]
 .rw[qb<|λz=>c<|nJ.mp z,qb c]
theorem bj.same{K:Za}(S:ac H e)(h:bj K H a xs):bj K e a xs:=by
 obtain(h|⟨o,h⟩)|h:=h
 .exact .inl<|.inl<|S _ _ h
 .exact .inl<|.inr ⟨o,S _ _ h⟩
 .exact .inr h
theorem aA.same{K:Za}(S:ac H e)(h:aA K H a xs):aA K e a xs:=by
 obtain(h|⟨o,h⟩)|h:=h
 .exact .inl<|.inl<|S _ _ h
 .exact .inl<|.inr ⟨o,S _ _ h⟩
 .exact .inr h
mutual
theorem gE.same{K:Za}(S:ac H f):∀{d:DT}{v:V},gE K H d v->gE K f d v
 |.k a,v,h=>by unfold gE at h ⊢;exact h
 |.t l,v,h=>by
  unfold gE at h ⊢;let⟨b,xs,e,q,r⟩:=h;exact⟨b,xs,e,bj.same S q,wh.same S r⟩
 |.s l,v,h=>by
  unfold gE at h ⊢;let⟨b,xs,e,q,r⟩:=h;exact⟨b,xs,e,aA.same S q,wh.same S r⟩
theorem wh.same{K:Za}(S:ac H g):∀{f:List DT}{a:List V},wh K H f a->wh K g f a
 |[],a,h=>by unfold wh at h ⊢;exact h
 |d::f,a,h=>by
  unfold wh at h ⊢;let⟨v,i,e,q,r⟩:=h;exact⟨v,i,e,gE.same S q,wh.same S r⟩
end
theorem wh.get{K:Za}:∀{f:List DT}{a:List V}{i:Nat}{v:V},wh K H f a->a[i]?=pe v->∃d,f[i]?=pe d/\gE K H d v
 |[],a,i,v,h,e=>by unfold wh at h;subst h;simp at e
 |d::f,a,i,v,h,e=>by
  unfold wh at h;let⟨l,m,rfl,q,r⟩:=h;cases i with
  |zero=>simp at e;subst e;exact⟨d,pw,q⟩
  |succ i =>
   simp at e;let⟨g,j,k⟩:=wh.get r e;exact⟨g,by simpa using j,k⟩
theorem wh.len{K:Za}:∀{e:List DT}{a:List V},wh K H e a->a.length=e.length
 |[],a,h=>by unfold wh at h;subst h;rfl
 |d::e,a,h=>by
  unfold wh at h;let⟨f,g,rfl,q,r⟩:=h;rw[da,da,wh.len r]
theorem pj:∀{a:List DT}{i:Nat}{d:DT},DT.l' a<=n->a[i]?=pe d->d.depth<=n
 |[],i,d,_,e=>by simp at e
 |x::a,i,d,h,e=>by
  have f:max (DT.depth x) (DT.l' a)<=n:=h;cases i with
  |zero=>simp at e;subst e;nofun
  |succ i=>simp at e;exact pj ⋯ e
theorem Lg(h:(DT.t l).depth<=n+1):DT.l' l<=n:=by
 have:DT.l' l+1<=n+1:=h;nofun
theorem Lh(h:(DT.s l).depth<=n+1):DT.l' l<=n:=by
 have:DT.l' l+1<=n+1:=h;nofun
theorem JJ(h:(DT.t l).depth<=n):1<=n:=by
 have:DT.l' l+1<=n:=h;nofun
theorem JK(h:(DT.s l).depth<=n):1<=n:=by
 have:DT.l' l+1<=n:=h;nofun
inductive Kd(K:Za)(H:Hp):DT->V->Prop
 |int (i:Int):Kd K H (.k (.inl i)) (.int i)
 |str (x:WD):Kd K H (.k (.inr x)) (.str x)
 |tup {a:Wv}{xs:List V}{l:List DT}(q:bj K H a xs) (r:wh K H l xs):Kd K H (.t l) (.ref a)
 |lst {a:Wv}{xs:List V}{l:List DT}(q:aA K H a xs) (r:wh K H l xs):Kd K H (.s l) (.ref a)
theorem gE.kd{K:Za}:∀{d:DT}{v:V},gE K H d v->Kd K H d v
 |.k (.inl i),v,h=>by unfold gE at h;subst h;exact .int i
 |.k (.inr x),v,h=>by unfold gE at h;subst h;exact .str x
 |.t l,v,h=>by
  unfold gE at h;let⟨b,xs,rfl,q,r⟩:=h;exact .tup q r
 |.s l,v,h=>by
  unfold gE at h;let⟨b,xs,rfl,q,r⟩:=h;exact .lst q r

open Classical in
def Qn(rooms:Zb)(ds:List ak)(gs:Zb):List WD:=rooms.filter λr=>decide (lJ ds gs r)
theorem yL:∀r∈Qn rooms e a,r∈rooms:=λr h=>(gv.mp h).1
theorem yM:(Qn rooms e a).length<=rooms.length:=j3 _ _
def Rb(rooms:Zb)(ds:List ak)(face sg:Zb):List WD:=if sg=cz then face.filter (λr=>decide (r∉lH ds))else Qn rooms ds (mQ ds sg face)
theorem JT(hf:∀r∈face,r∈rooms):∀r∈Rb rooms e face a,r∈rooms:=by
 intro r h;unfold Rb at h;split at h
 .exact hf r (gv.mp h).1
 .exact yL r h
theorem JU(f:rooms.length<=1000)(hf:face.length<=1000):(Rb rooms e face a).length<=1000:=by
 unfold Rb;split
 .exact bh (j3 _ _) hf
 .exact bh yM f
theorem wa(a:List ak):DT.l' (a.map AS)<=2:=by
 induction a with
 |nil=>exact cw _
 |cons x xs e=>rw[bP];show max (DT.depth<|AS x) (DT.l' _)<=2;rw[AQ];nofun
theorem GI(g:De j k rooms i):∃f a,i.sg=f::a/\(!decide (V.str f=V.str ("ask":WD)))=!qR i:=by
 obtain⟨f,a,h⟩:∃f a,i.sg=f::a:=by
  obtain⟨w,_,e⟩|⟨w,_,e⟩|e:=g.sg<;>exact⟨_,_,e⟩
 apply⟨f,a,h,?_⟩;unfold qR;rw[h];congr 1;show _=decide (f=("ask":WD));by_cases c:f=("ask":WD)
 .rw[qh c,qh (by rw[c])]
 .rw[qb c,qb (λz=>c (by injection z))]
def Jt(J0 J2:Zb):List (List WD):=J0.map cX++J2.map kH++[cz]
theorem wc(xs:List V)(k:Nat):fQ xs (pe (k:Int)) none=xs.drop k:=by
 unfold fQ;rw[HT.O4,HT.Ow,kY (by rw[d_];nofun)];by_cases h:k<=xs.length
 .rw[uT h]
 .rw[Nat.min_eq_right ⋯,rO ∅,rO ⋯]
theorem Paired.Sj:∀(n:Nat) {xs:List α}{a:List β},Paired R xs a->Paired R (xs.take n) (a.take n)
 |0,_,_,_=>by rw[uO,uO];exact .nil
 |_+1,_,_,.nil=>.nil
 |n+1,_,_,.cons r t=>.cons r<|Paired.Sj n t
theorem Paired.Tn:∀(n:Nat) {xs:List α}{a:List β},Paired R xs a->Paired R (xs.drop n) (a.drop n)
 |0,_,_,h=>h
 |_+1,_,_,.nil=>.nil
 |n+1,_,_,.cons r t=>Paired.Tn n t
def OK(rooms:Zb)(ds:List ak)(story:List<|List WD):List WD:=story.foldl (Rb rooms ds)<|Qn rooms ds<|rooms.take 1
theorem CN(rooms:Zb)(e:List ak)(a:List<|List WD)(f:Zb):OK rooms e (a++[f])=Rb rooms e (OK rooms e a) f:=by
 unfold OK;rw[uP]
 rfl
theorem yE(j:rooms.length<=1000)(a:List<|List WD):(∀r∈OK rooms e a,r∈rooms)/\(OK rooms e a).length<=1000:=by
 have g:∀(L:List<|List WD) (f:Zb),(∀r∈f,r∈rooms)->f.length<=1000->(∀r∈L.foldl (Rb rooms e) f,r∈rooms)/\(L.foldl (Rb rooms e) f).length<=1000:=by
  intro L
  induction L with
  |nil=>intro f h i;exact⟨h,i⟩
  |cons l L k=>intro f h i;exact k _ (JT h)<|JU j i
 exact g a _ yL<|bh yM j
def vx(K:Za):TS :=
 be (dj (eh K)<|av<|w8 K V0 "own_asks")
def wF:List WD:=["self"]
def vw(K:Za):TS :=
 be (dj (eh K)<|av<|w8 K V0 "own_says")
def wE:List WD:=["self"]


theorem Ao(h:bE C H x k l rooms m):∃(j:Wv) (fs:List<|WD×V) (f g i:Wv) (a:List<|WD×Wv),H x=pe (.ins C j fs)/\lk "asks" fs=none/\lk "says" fs=none/\lk "doors_from" fs=none/\lk "is_quiet" fs=none/\lk "own_asks" fs=pe (.ref f)/\lk "own_says" fs=pe (.ref g)/\lk "leaving" fs=pe (.ref i) /\
  H f=pe (.lst<|k.map V.str)/\H g=pe (.lst<|l.map V.str)/\a.map (·.1)=rooms/\H i=pe (.dK<|eU Sum.inr a)/\(∀x∈a,∃n,H x.2=pe (.lst<|n.map V.ref)/\df H n (cV m x.1)):=by
 let⟨j,fs,f,g,E,I,i,J,M,N,O,a,p,q,o,a1,a2,a3,Q,r,s,T,U,t,Y,b7,b8,L,u,v,w,c4,G,d1,d2,d3⟩:=h.at_;let⟨y,z,e,A,B,e3,D⟩:=h.more;rw[o]at e;cases e;exact⟨j,fs,f,g,i,a,o,A,B,D,a1,r,s,t,L.a1,L.a2,u,v,w⟩
inductive nD(C:Wv)(vs:List V)(H:Hp)(Q:VK)(E:XK):Prop
 |mk (x:Wv) (J0 J2 rooms:Zb) (ds:List ak):vs=[.ref x]->bE C H x J0 J2 rooms ds->(∀l,H l=none->Q (.ref l) (upd H l (.lst (J0.map V.str))))->nD C vs H Q E
theorem KM{K:Za}(M:MC K C)(h:nD C a H Q E):vx K (bH Q) (start wF a) H:=by
 let⟨x,m,n,rooms,o,rfl,h,k⟩:=h;let⟨f,fs,e,p,q,g,i,a1,a2,a3,r,j,s,t,l,u,_⟩:=Ao h;exact⟨_,pw,x,C,f,fs,.ref e,pw,i,M.cls,M.a1,j,.inl ⟨e,_,pw,.inl<|aA.of l,k⟩⟩
inductive qp(C:Wv)(vs:List V)(H:Hp)(Q:VK)(E:XK):Prop
 |mk (x:Wv) (J0 J2 rooms:Zb) (ds:List ak):vs=[.ref x]->bE C H x J0 J2 rooms ds->(∀l,H l=none->Q (.ref l) (upd H l (.lst (J2.map V.str))))->qp C vs H Q E
theorem KD{K:Za}(M:MC K C)(h:qp C a H Q E):vw K (bH Q) (start wE a) H:=by
 let⟨x,m,n,rooms,o,rfl,h,k⟩:=h;let⟨f,fs,p,e,q,g,i,a1,a2,a3,r,s,j,t,u,l,_⟩:=Ao h;exact⟨_,pw,x,C,f,fs,.ref e,pw,i,M.cls,M.a2,j,.inl ⟨e,_,pw,.inl<|aA.of l,k⟩⟩
open Classical in
theorem yh:r∈Qn rooms e a↔r∈rooms/\lJ e a r:=by
 unfold Qn;rw[gv,decide_eq_true_iff]
mutual
def DR(K:Za)(G:Hp):DT->V->Prop
 |.k a,v=>v=kV a
 |.t l,v=>∃b xs,v=.ref b/\bj K G b xs/\Qz K G l xs
 |.s l,v=>∃b xs,v=.ref b/\G b=pe (.lst xs)/\Qz K G l xs
def Qz(K:Za)(G:Hp):List DT->List V->Prop
 |[],vs=>vs=[]
 |k::r,vs=>∃v us,vs=v::us/\DR K G k v/\Qz K G r us
end
mutual
theorem DR.same{K:Za}(S:ac H f):∀{d:DT}{v:V},DR K H d v->DR K f d v
 |.k a,v,h=>by unfold DR at h ⊢;exact h
 |.t l,v,h=>by
  unfold DR at h ⊢;let⟨b,xs,e,q,r⟩:=h;exact⟨b,xs,e,bj.same S q,Qz.same S r⟩
 |.s l,v,h=>by
  unfold DR at h ⊢;let⟨b,xs,e,q,r⟩:=h;exact⟨b,xs,e,S _ _ q,Qz.same S r⟩
theorem Qz.same{K:Za}(S:ac H g):∀{f:List DT}{a:List V},Qz K H f a->Qz K g f a
 |[],a,h=>by unfold Qz at h ⊢;exact h
 |d::f,a,h=>by
  unfold Qz at h ⊢;let⟨v,i,e,q,r⟩:=h;exact⟨v,i,e,DR.same S q,Qz.same S r⟩
end
mutual
theorem DR.SS{K:Za}:∀{d:DT}{v:V},DR K H d v->gE K H d v
 |.k a,v,h=>by unfold DR at h;unfold gE;exact h
 |.t l,v,h=>by
  unfold DR at h;unfold gE;let⟨b,xs,e,q,r⟩:=h;exact⟨b,xs,e,q,Qz.Ru r⟩
 |.s l,v,h=>by
  unfold DR at h;unfold gE;let⟨b,xs,e,q,r⟩:=h;exact⟨b,xs,e,aA.of q,Qz.Ru r⟩
theorem Qz.Ru{K:Za}:∀{f:List DT}{a:List V},Qz K H f a->wh K H f a
 |[],a,h=>by unfold Qz at h;unfold wh;exact h
 |d::f,a,h=>by
  unfold Qz at h;unfold wh;let⟨v,g,e,q,r⟩:=h;exact⟨v,g,e,DR.SS q,Qz.Ru r⟩
end
structure AV where
 p:Hp->V->Prop
 mono:∀{G G':Hp}{v:V},ac G G'->p G v->p G' v
def dv(K:Za)(d:DT):AV:=⟨λG v=>DR K G d v,λS h=>DR.same S h⟩
section
variable{K:Za}
def RV(v:V)(z:AV):Prop:=∀G,z.p G v
theorem Mv:RV (.str w) (dv K<|dJ w):=λG=>by show DR K G _ _;unfold dJ DR;rfl
end
inductive Ce where
 |lst (xs:List Sl)
 |dk (kvs:List (cD×Sl))
 |dt (kvs:List (TK×Sl))
 |ins (C:Wv) (fs:List (WD×Sl))
 |fk (o:Obj) (l:List (cD×V)) (kvs:List (cD×Sl))







abbrev IT:List V->Hp->VK->Prop:=λxs H Q=>(∃i,xs=[.int i]/\Q (.int i) H)∨∃k,xs=[.bl k]/\Q (.int<|if k then 1 else 0) H

def z5(K:Za)(rk:Wv)(Ov:Sp)(C':Sp)(qg:Wv):(L2.St->XK)->TS :=
 Kv (Fw (aQ<|aD (sI K) (gy rk "asks" C' [] E0 V0 bx)<|gy rk "asks" C' [] E0 V1 bx)<|aQ<|aD (sI K) (gy rk "says" Ov [] E0 V0 bx)<|gy rk "says" Ov [] E0 V1 bx) (vy qg<|av<|tC<|.str "the asks or the says are unlike") (Ac bf)
def rj:List WD:=["M","I"]
def Kt(K:Za)(rk:Wv)(Py:Sp)(K':Sp):TS :=
 be (dj (UU K)<|aq (dE 1 [0,2] (cf K<|aD xA (cK<|av V1)<|gy rk "led_from" Py [] E0 V0<|av V1) U0 (jc)<|aD G_ (dj (dg K)<|aq (gy rk "goals" K' [] E0 V1<|aM V0<|aU<|aq (tC<|.str "ask")<|av V2) bx)<|tC<|.int 0) bx)
def Lz:List WD:=["I","room","ask"]
def lZ(K:Za)(rk:Wv)(OG:Sp)(C':Sp)(O2:Sp)(qd:Wv)(Qs:Sp):(L2.St->XK)->TS :=
 Fx (cf K<|gy rk "rooms" OG [] E0 V0 bx) U1 (Fx (cf K<|gy rk "asks" C' [] E0 V0 bx) U2<|Kv (Ab<|tB<|aI O2<|bY V0 V1 V2) (nq qd Qs<|aM V1 V2)<|Ac bf)
def l6:List WD:=["I","room","ask"]
def zZ(K:Za)(Pb:Sp)(Oq:Sp):(L2.St->XK)->TS :=
 xV (vz<|λW=>oj Oq [] W<|aM V0 V1)
 (vz<|λW=>oj Pb [] W<|av V1)
def Ba:List WD:=["M","I"]
def wV(K:Za)(F':Sp)(qa:Sp)(B6:Sp):TS :=
 ar (aL V1<|gC K 4<|aS U2<|aS U3<|aS U4<|aS U5<|gh)
 (ar (aL (dj (eh K)<|av V5) U5)
 (ar (fF (cf K V4) U6 (fF (cf K V2) U7 (ar (aL (aI B6<|aM V5<|cK<|av V6) U8)
 (bS (aQ<|aD (mF K) (dE 1 [8,7] (cf K V5) U0 (o7 (aQ<|aD (qF K false) (aD (pK K) V0<|tC<|.int 0) V1)<|aQ<|aD (mF K) (aD (pK K) V0<|tC<|.int 1)<|aU<|aM (tC<|.str "ask") V2) V0)<|cK<|bx) (ar (aL (aD (cg K) (cK<|aq V6<|aq (aD (cg K) V4<|aI qa<|aM V0<|dj (dg K)<|av V4) bx)<|aI qa<|aM V0<|tC<|.int 2) U9)
 (cy<|aI F'<|aq V5<|aq (aU<|bY V6 (aU<|aM (tC<|.str "ask") V7) V9) bx))<|bf))))
 (be<|aU<|aq V2<|bY V3 V4 V5)))
def xG:List WD:=["pen","told","asks","says","rooms","doors","room","ask","there","other"]
def Dx(K:Za)(B6:Sp):TS :=
 ar (fF (cf K<|aD (pK K) V0<|tC<|.int 2) U1 (ar (aL (aI B6<|aM (aD (pK K) V0<|tC<|.int 3)<|cK<|av V1) U2)
 (fF (cf K<|aD (pK K) V0<|tC<|.int 0) U3<|bS (aQ<|aD (mF K) (dE 1 [2,3] (cf K<|aD (pK K) V0<|tC<|.int 3) U0 (o7 (aQ<|aD (qF K false) (aD (pK K) V0<|tC<|.int 0) V1)<|aQ<|aD (mF K) (aD (pK K) V0<|tC<|.int 1)<|aU<|aM (tC<|.str "ask") V2) V0)<|cK<|bx) (be<|aU<|aM V1 V3)<|bf)))
 (be<|tC .L')
def EW:List WD:=["told","room","there","ask"]
def z6(K:Za)(F':Sp)(qa:Sp)(B6:Sp):TS :=
 ar (aL V1<|gC K 4<|aS U2<|aS U3<|aS U4<|aS U5<|gh)
 (ar (aL (dj (eh K)<|av V5) U5)
 (ar (aL (aI qa<|aM V0<|tC<|.int 6) U6)
 (ar (aL (aI qa<|aq V0<|av<|dj ND<|aM (tC<|.int 1)<|dj (dg K)<|av V5) U7)
 (ar (aL (aD (cg K) V4<|aI qa<|aM V0<|dj (dg K)<|av V4) U8)
 (ar (aL (aD (cg K) V4<|aI qa<|aM V0<|dj (dg K)<|av V4) U9)
 (ar (bS (aQ<|aD kW V6<|tC<|.int 0) (cy<|aI F'<|aq V5<|aq (aU<|aq V8<|aq (aU<|aq (tC<|.str "say")<|aq (aD (cg K) V3<|aI qa<|aM V0<|dj (dg K)<|av V3) bx)<|av V9) bx) (bS (aQ<|aD kW V6<|tC<|.int 1) (cy<|aI F'<|aq V5<|aq (aU<|aq V8<|aq (aU<|aq (tC<|.str "ask")<|aq (aD (cg K) V2<|aI qa<|aM V0<|dj (dg K)<|av V2) bx)<|av V9) bx) (bS (o7 (aQ<|aD G9 V6<|tC<|.int 4)<|o7 (aQ<|aD (sI K) V5<|cK<|bx)<|aQ<|aD Oc (aD (cu K) (aD (cu K) (aD (cg K) V5 V7)<|tC<|.int 1)<|tC<|.int 0)<|tC<|.str "still") (ar (aL (Bl K "list" IR V5<|av V7) Of)
 (bS (aQ<|aD kW V6<|tC<|.int 3) (cy<|aI F'<|aq V5<|aq (aU<|bY (aD (cu K) Ls<|tC<|.int 0) (aD (cu K) Ls<|tC<|.int 1) V9) bx)<|bf))<|bS (o7 (aQ<|aD kW V6<|tC<|.int 4)<|aQ<|aD (qF K true) V8<|aI B6<|aM V5<|cK<|av V9) (cy<|aI F'<|aq V5<|aq (aU<|bY V8 (aU<|av<|tC<|.str "still") V9) bx)<|bf)))
 (be<|aU<|aq V2<|bY V3 V4 V5)))))))
def Bc:List WD:=["pen","told","asks","says","rooms","doors","way","at","room","other","door"]
def Dv(K:Za)(qa:Sp)(QH:Sp)(QF:Sp)(QV:Sp)(Pk:Sp):TS :=
 ar (cy<|aI Pk<|av V0)
 (ar (fF (tS<|aq (aI qa<|aM V0<|aD fh V2<|tC<|.int 1) bx) U3<|aL (aI QV<|aM V0 V1) U1)
 (ar (aL (aI QF<|aM V0 V1) U1)
 (ar (bS (aQ<|aD kW (aI qa<|aM V0<|tC<|.int 2)<|tC<|.int 0) (aL (aI QH<|aM V0 V1) U1)<|bf)
 (be V1))))
def EU:List WD:=["pen","told","most","turn"]


mutual
def DT.sm:DT->Bool
 |.k _=>true
 |.t l=>decide (l.length<=1000000) && DT.UM l
 |.s l=>decide (l.length<=1000000) && DT.UM l
def DT.UM:List DT->Bool
 |[]=>true
 |a::r=>DT.sm a && DT.UM r
end
structure XC(K:Za)(Cx:Wv):Prop where
 cls:jo K Cx
 p:bO K Cx "part"
 n:bO K Cx "number"
 self:kZ K (.ref Cx) (.ref Cx)=pe true
theorem K9(h:j<n):HS n (j:Int)=pe j:=by
 unfold HS;rw[if_pos<|Int.natCast_nonneg j,if_pos ⋯]
 rfl
theorem Reach.mono(h:∀a b,(⟨a,ao,b⟩:ak)∈g->(⟨a,ao,b⟩:ak)∈f)(r:Reach g a b):Reach f a b:=by
 induction r with
 |one e=>exact .one<|h _ _ e
 |step _ e i=>exact .step i<|h _ _ e
theorem Jm{K:Za}(f:H l=pe (.lst<|e.map V.ref))(g:df H e a)(h:H q=pe (.lst []))(i:a≠[]->Q (.bl true) H)(j:a=[]->Q (.bl false) H):sI K (.ref l) (.ref q) H Q:=by
 apply⟨.s<|a.map AS,.s [],(by unfold gE;exact⟨l,_,pw,aA.of f,g.Ru⟩),(by unfold gE;exact⟨q,_,pw,aA.of h,by unfold wh;rfl⟩),?_,WE,?_⟩
 .show DT.l' _+1<=8;have:=wa a;nofun
 .by_cases c:a=[]
  .subst c;rw[qh<|show DT.s (([]:List ak).map AS)=DT.s []from rfl];exact j rfl
  .rw[qb (λz=>c (by injection z with z;exact oA.mp z))];exact i c
def Nu(K:Za)(f:WD):TS:=ar (cy<|DO K<|aM V0 V1)<|Fz K V0 V1 f
def Nt(K:Za)(f g:WD):TS:=ar (cy<|DO K<|bY V0 V1 V2)<|ar (Fz K V0 V1 f)<|Fz K V0 V2 g
def JX(a:Wv)(H H':Hp):Prop:=∀b o,H b=pe o->b≠a->H' b=pe o
inductive vJ(Cx:Wv)(f:WD)(vs:List V)(H:Hp)(Q:VK)(E:XK):Prop
 |mk (a:Wv) (x:V):vs=[.ref a,x]->H a=pe (.ext (cP a Cx none))->(∀d H',H' a=pe (.ext (cP a Cx (pe d)))->H' d=pe (.ext (gB d [(f,x)]))->d≠a->JX a H H'->Q .L' H')->vJ Cx f vs H Q E
inductive vI(Cx:Wv)(f g:WD)(vs:List V)(H:Hp)(Q:VK)(E:XK):Prop
 |mk (a:Wv) (x y:V):vs=[.ref a,x,y]->H a=pe (.ext (cP a Cx none))->(∀d H',H' a=pe (.ext (cP a Cx (pe d)))->H' d=pe (.ext (gB d [(f,x),(g,y)]))->d≠a->JX a H H'->Q .L' H')->vI Cx f g vs H Q E
theorem My{K:Za}{Cx:Wv}{f n0 n1:WD}(c:jo K Cx)(l:bO K Cx f){g:List V}{H:Hp}{Q:VK}{E:XK}(h:vJ Cx f g H Q E):Nu K f (bH Q) (start [n0,n1] g) H:=by
 let⟨a,x,rfl,i,k⟩:=h;apply⟨_,pw,_,pw,a,Cx,none,[x],pw,i,c,Q1,?_⟩;apply⟨_,pw,_,pw,a,Cx,pw,c,l,.inl ⟨i,λd m j=>?_⟩⟩;refine k d _ aa (by rw[aj j,aa]) j λb o e n=>?_;rw[aj n,aj (λz=>by rw[z,m]at e;cases e)];exact e
theorem Mx{K:Za}{Cx:Wv}{f g n0 n1 n2:WD}(c:jo K Cx)(p:bO K Cx f)(q:bO K Cx g)(r:f≠g){j:List V}{H:Hp}{Q:VK}{E:XK}(h:vI Cx f g j H Q E):Nt K f g (bH Q) (start [n0,n1,n2] j) H:=by
 let⟨a,x,y,rfl,l,k⟩:=h;apply⟨_,pw,_,pw,_,pw,a,Cx,none,[x,y],pw,l,c,Q2,?_⟩;apply⟨_,pw,_,pw,a,Cx,pw,c,p,.inl ⟨l,λd m i=>?_⟩⟩;have n:upd (upd H d<|.ext<|gB d [(f,x)]) a (.ext<|cP a Cx<|some d) a=pe (.ext<|cP a Cx<|some d):=aa;have s:upd (upd H d<|.ext<|gB d [(f,x)]) a (.ext<|cP a Cx<|some d) d=pe (.ext<|gB d [(f,x)]):=by rw[aj i,aa]
 apply⟨_,pw,_,pw,a,Cx,pw,c,q,.inr ⟨d,_,n,s,(by show 1<1000;decide),?_⟩⟩;refine k d _ (by rw[aj i.symm];exact n) ?_ i λb o e t=>?_
 .rw[aa];have:dL g y [(f,x)]=[(f,x),(g,y)]:=by simp[dL,r]
  rw[this]
 .rw[aj (λz=>by rw[z,m]at e;cases e),aj t,aj (λz=>by rw[z,m]at e;cases e)];exact e
structure XF(K:Za)(C:Wv)(fs:Zb):Prop where
 cls:jo K C
 no:∀f∈fs,bO K C f
 self:kZ K (.ref C) (.ref C)=pe true
section
variable{j z:Int}{r rest:(L2.St->XK)->TS}{W:L2.St->XK}{D:gm}{σ:L2.St}{H:Hp}{C:Wv}{f g:WD}{i1 i2:Nat}{x y:V}
def JW(C:Wv)(H H':Hp)(a:Wv):Prop:=ac H H'/\∃od,H' a=pe (.ext<|gk a C od)/\(od=none∨∃d fs,od=pe d/\H' d=pe (.ext<|gB d fs))
end
theorem VE{K:Za}(h:H a=pe (.tup e))(q:Qz K H f e):DR K H (.t f) (.ref a):=by unfold DR;exact⟨a,e,pw,bj.of h,q⟩
theorem VF{K:Za}:Qz K H [] []:=by unfold Qz;rfl
theorem Nj{K:Za}(h:DR K H d v)(q:Qz K H e a):Qz K H (d::e) (v::a):=by unfold Qz;exact⟨v,a,pw,h,q⟩
theorem yG{K:Za}:DR K H (dJ w) (.str w):=Mv (K:=K) H
section
variable{K:Za}{mg:WD->Option Wx}{Ct:Wv}
theorem LD(h:XX K mg x C Ct)(a:C≠Ct)(e:∀f∈fs,bO K C f):XF K C fs:=⟨h.cls,e,by rw[h.TL h a,qh rfl]⟩
theorem Vy(h:bO K C f):∀g∈[f],bO K C g:=λg a=>by
 have:g=f:=by simpa using a
 rw[this];exact h
theorem Wb(h:bO K C f)(i:bO K C a):∀g∈[f,a],bO K C g:=λg j=>by
 obtain e|e:=b_.mp j
 .rw[e];exact h
 .exact Vy i g e
end
def kS(ds:List ak)(r a:WD):Prop:=∃h,(h=r∨Reach ds r h)/\∃b,(⟨h,cX a,b⟩:ak)∈ds
open Classical in
def KI(ds:List ak)(r a:WD):Bool:=decide (kS ds r a)
theorem tK:KI ds r a=true↔kS ds r a:=by unfold KI;exact @decide_eq_true_iff _ (Classical.propDecidable _)
theorem zY:KI ds r a=false↔¬kS ds r a:=by unfold KI;exact @decide_eq_false_iff_not _ (Classical.propDecidable _)
theorem tT:0<(aZ e (h,f)).length↔∃b,(⟨h,f,b⟩:ak)∈e:=by
 rw[List.length_pos_iff_exists_mem];constructor
 .rintro⟨b,a⟩;exact⟨b,bG.mp a⟩
 .rintro⟨b,a⟩;exact⟨b,bG.mpr a⟩
theorem Gv(i:∀w,w∈L↔Reach ds r w):((r::L).map λh=>decide ((0:Int)<(aZ ds (h,cX a)).length)).any id=KI ds r a:=by
 rw[uJ,tK,List.any_eq_true];constructor
 .rintro⟨b,f,e⟩;let⟨h,g,rfl⟩:=aV.mp f;have:=of_decide_eq_true e;apply⟨h,?_,tT.mp ⋯⟩;obtain e|e:=b_.mp g
  .exact .inl e
  .exact .inr<|(i h).mp e
 .rintro⟨h,g,f⟩;apply⟨true,aV.mpr ⟨h,?_,qh (by have:=tT.mpr f;nofun)⟩,pw⟩;obtain e|e:=g
  .rw[e];exact cF
  .exact de _<|(i h).mpr e
inductive O2(C:Wv)(vs:List V)(H:Hp)(Q:VK)(E:XK):Prop
 |mk (x:Wv) (r a:WD) (J0 J2 rooms:Zb) (ds:List ak):vs=[.ref x,.str r,.str a]->bE C H x J0 J2 rooms ds->r∈rooms->(∀H',ac H H'->Q (.bl (KI ds r a)) H')->O2 C vs H Q E
def Pq(ds:List ak)(r:WD):List WD->Option (WD×WD)
 |[]=>none
 |a::as=>if KI ds r a=true then Pq ds r as else pe (r,a)
def O9(ds:List ak)(J0:Zb):List WD->Option (WD×WD)
 |[]=>none
 |r::rs=>match Pq ds r J0 with
  |some x=>pe x
  |none=>O9 ds J0 rs
theorem mN:∀{e:Zb},(∀a∈e,KI f r a=true)->Pq f r e=none
 |[],_=>rfl
 |a::e,h=>by
  unfold Pq;rw[if_pos<|h a cF];exact mN λb g=>h b<|de _ g
theorem sT:∀{e:Zb}{j:Nat},(∀b∈e.take j,KI f r b=true)->e[j]?=pe a->KI f r a=false->Pq f r e=pe (r,a)
 |[],j,_,h,_=>by cases h
 |b::e,0,_,h,n=>by
  cases h;unfold Pq;rw[if_neg (by rw[n];decide)]
 |b::e,j+1,g,h,n=>by
  unfold Pq;rw[if_pos<|g b cF];exact sT (λc i=>g c<|de _ i) h n
theorem sS:∀{e:Zb},(∀r∈e,∀a∈g,KI f r a=true)->O9 f g e=none
 |[],_=>rfl
 |r::e,h=>by
  unfold O9;rw[mN<|h r cF];exact sS λb i=>h b<|de _ i
theorem AD:∀{e:Zb}{i:Nat},(∀b∈e.take i,∀a∈g,KI f b a=true)->e[i]?=pe r->Pq f r g=pe x->O9 f g e=pe x
 |[],i,_,h,_=>by cases h
 |b::e,0,_,h,n=>by
  cases h;unfold O9;rw[n]
 |b::e,i+1,j,h,n=>by
  unfold O9;rw[mN<|j b cF];exact AD (λc k=>j c<|de _ k) h n
def Oe(Ck:Wv)(r a:WD)(H H':Hp)(e:Wv):Prop:=ac H H'/\∃d,H' e=pe (.ext<|gk e Ck<|some d)/\H' d=pe (.ext<|gB d [("room",.str r),("ask",.str a)])
theorem uC{K:Za}{a b:Zb}(e:H l=pe (.lst<|a.map V.str))(f:H m=pe (.lst<|b.map V.str))(k:Q (.bl (!decide (a=b))) H):sI K (.ref l) (.ref m) H Q:=by
 apply⟨.s<|a.map dJ,.s<|b.map dJ,wb<|aA.of e,wb<|aA.of f,?_,?_,?_⟩
 .show DT.l' _+1<=8;rw[fW];decide
 .show DT.l' _+1<=8;rw[fW];decide
 .rw[decide_eq_decide.mpr (show DT.s (a.map dJ)=DT.s (b.map dJ)↔a=b from⟨λh=>fu (by injection h),λh=>by rw[h]⟩)];exact k
inductive Oq(C Cm:Wv)(vs:List V)(H:Hp)(Q:VK)(E:XK):Prop
 |mk (x y:Wv) (J0 J2 rooms A' Mr OA:Zb) (ds Qc:List ak):vs=[.ref x,.ref y]->bE C H x J0 J2 rooms ds->bE C H y A' Mr OA Qc->((J0=A'->J2=Mr->∀H',ac H H'->Q .L' H'))->((¬(J0=A'/\J2=Mr)->∀a H',JW Cm H H' a->E (.ref Cm) (pe a) H'))->Oq C Cm vs H Q E
theorem WG{H:L2.Hp}{p:PySem.Addr}{o:L2.HO}(h:H p=none):∃Z,upd H p o=Z∧ac H Z∧Z p=some o:=⟨_,rfl,ac.new h,aa⟩
theorem WI(H:L2.Hp)(p:PySem.Addr)(o:L2.HO):upd H p o p=some o:=aa
theorem xx{K:Za}(h:Oq C t v H Q E):z5 K C (qp C) (nD C) t (λ_=>E) (bH Q) (start rj v) H:=by
 let⟨x,y,i,j,rooms,e,f,g,w,m,rfl,M,N,k,kx⟩:=h;let⟨A,fs,B,a1,a2,_⟩:=id M.more;let⟨D,G,I,b1,b2,_⟩:=id N.more;apply⟨_,pw,x,A,fs,pw,B,a1,x,i,j,rooms,w,pw,M,λq h1=>?_⟩;let⟨L,WH,r,J⟩:=WG (o:=.lst<|i.map V.str) h1;rw[WH];apply⟨_,pw,y,D,G,pw,r _ _ I,b1,y,e,f,g,m,pw,N.same r,λO T=>?_⟩;have o:ac H (upd L O<|.lst<|e.map V.str):=r.trans<|ac.new T;refine uC (kp J T) aa ⟨_,pw,?_⟩;generalize upd L O (.lst<|e.map V.str)=u at o ⊢;have U:¬(i=e/\j=f)->∀p:Hp,ac H p->(vy t<|av<|tC<|.str "the asks or the says are unlike") (λ_=>E) (bH Q) (start rj [.ref x,.ref y]) p:=λn p l =>
  ⟨Q1,λa ha=>kx n a _ ⟨l.trans<|ac.new ha,none,aa,.inl rfl⟩⟩
 by_cases c:i=e
 .rw[qh c];refine aY ?_;apply⟨_,pw,x,A,fs,pw,o _ _ B,a2,x,i,j,rooms,w,pw,M.same o,λs h3=>?_⟩;let⟨p,WH,l,Y⟩:=WG (o:=.lst<|j.map V.str) h3;rw[WH];have l:=o.trans<|l;apply⟨_,pw,y,D,G,pw,l _ _ I,b2,y,e,f,g,m,pw,N.same l,λl4 h4=>?_⟩;have S4:ac H (upd p l4<|.lst<|f.map V.str):=l.trans<|ac.new h4;refine uC (kp Y h4) aa ⟨_,pw,?_⟩;by_cases d:j=f
  .rw[qh d];exact aY<|k c d _ S4
  .rw[qb d];exact bo<|U (λz=>d z.2) _ S4
 .rw[qb c];exact bo<|bo<|U (λz=>c z.1) _ o
theorem IP(l:σ[i]?=pe (pe<|.str r))(m:σ[j]?=pe (pe<|.str a))(k:∀e g,Oe f r a H g e->W σ (.ref f) (pe e) g):
  nq f (vI f "room" "ask") (aM (j_ i)<|j_ j) W D σ H:=by
 apply⟨_,l,_,m,Q2,λe n=>⟨e,_,_,pw,aa,λd g p s t kp=>⟨pw,pe d,p,k e _ ⟨λb o q=>?_,d,aa,by rw[aj t];exact s⟩⟩⟩⟩;have h:b≠e:=ag q n;rw[aj h];exact kp b o (by rw[aj h];exact q) h
inductive jI(C Ck:Wv)(vs:List V)(H:Hp)(Q:VK)(E:XK):Prop
 |mk (x:Wv) (J0 J2 rooms:Zb) (ds:List ak):vs=[.ref x]->bE C H x J0 J2 rooms ds->((O9 ds J0 rooms=none->∀H',ac H H'->Q .L' H'))->(∀r a,O9 ds J0 rooms=pe (r,a)->∀e H',Oe Ck r a H H' e->E (.ref Ck) (pe e) H')->jI C Ck vs H Q E
theorem BV{K:Za}(h:jI C A Y H Q E):lZ K C (mB C) (nD C) (O2 C) A (vI A "room" "ask") (λ_=>E) (bH Q) (start l6 Y) H:=by
 let⟨x,g,B,rooms,m,rfl,M,k,kx⟩:=h;let⟨D,fs,o1,o2,o3,o4,lv,qu,ab,sl,ts,al,an,as,G,a1,a2,a3,a4,_⟩:=id M.at_;apply⟨_,pw,x,D,fs,pw,G,a4,x,g,B,rooms,m,pw,M,λn h1=>?_⟩;let⟨H1,WH,t,I⟩:=WG (o:=.lst<|rooms.map V.str) h1;rw[WH];apply⟨n,pw,⟨_,aA.of I⟩,?_⟩
 let J:Nat->L2.St->Hp->Prop:=λi σ l=>∃y z,σ=[pe<|.ref x,y,z]/\ac H1 l/\∀r∈rooms.take i,∀a∈g,KI m r a=true
 refine cr (xs:=rooms.map V.str) J ⟨_,_,pw,ac.refl _,by simp⟩ (λi σ l _ L=>by let⟨_,_,_,S,_⟩:=L;exact aA.of<|S _ _ I) ?_ ?_
 .rintro i v σ o hi ⟨y,z,rfl,u,ok⟩;let⟨r,N,rfl⟩:=bJ hi;have M2:=M.same<|t.trans u;let⟨D,fs,G,a1,_⟩:=id M2.more;apply⟨_,pw,x,D,fs,pw,G,a1,x,g,B,rooms,m,pw,M2,λp h2=>?_⟩;let⟨H3,WH,O,T⟩:=WG (o:=.lst<|g.map V.str) h2;rw[WH];have O:=u.trans<|O;apply⟨p,pw,⟨_,aA.of T⟩,?_⟩
  let U:Nat->L2.St->Hp->Prop:=λj σ l=>∃z,σ=[pe<|.ref x,pe<|.str r,z]/\ac H3 l/\∀a∈g.take j,KI m r a=true
  refine cr (xs:=g.map V.str) U ⟨_,pw,ac.refl _,by simp⟩ (λi σ l _ L=>by let⟨_,_,S,_⟩:=L;exact aA.of<|S _ _ T) ?_ ?_
  .rintro j v σ H4 hj ⟨z,rfl,w,f⟩;let⟨a,ha,rfl⟩:=bJ hj;have s:=(t.trans O).trans w;apply⟨_,pw,_,pw,_,pw,x,r,a,g,B,rooms,m,pw,M.same s,cH N,λH5 S5=>⟨_,pw,?_⟩⟩;cases q:KI m r a with
   |true =>
    refine aY ⟨_,pw,w.trans S5,λb hb=>?_⟩;rw[take_snoc ha]at hb;obtain hb|hb:=bp.mp hb
    .exact f b hb
    .have:b=a:=by simpa using hb
     rw[this];exact q
   |false =>
    refine bo ?_;exact IP rfl rfl λe l ⟨S,X⟩=>kx r a (AD ok N<|sT f ha q) e l ⟨(s.trans S5).trans S,X⟩
  .rintro σ H4 ⟨z,rfl,w,f⟩;rw[am,bC]at f;apply⟨_,_,pw,O.trans w,λb hb=>?_⟩;rw[take_snoc N]at hb;obtain hb|hb:=bp.mp hb
   .exact ok b hb
   .have:b=r:=by simpa using hb
    rw[this];exact f
 .rintro σ o ⟨y,z,rfl,u,ok⟩;rw[am,bC]at ok;exact k (sS ok) o<|t.trans u
inductive eX(C Cm Ck:Wv)(vs:List V)(H:Hp)(Q:VK)(E:XK):Prop
 |mk (x y:Wv) (J0 J2 rooms A' Mr OA:Zb) (ds Qc:List ak):vs=[.ref x,.ref y]->bE C H x J0 J2 rooms ds->bE C H y A' Mr OA Qc->((J0=A'->J2=Mr->O9 Qc A' OA=none->∀H',ac H H'->Q .L' H'))->((¬(J0=A'/\J2=Mr)->∀a H',JW Cm H H' a->E (.ref Cm) (pe a) H'))->((J0=A'->J2=Mr->∀r a,O9 Qc A' OA=pe (r,a)->∀e H',Oe Ck r a H H' e->E (.ref Ck) (pe e) H'))->eX C Cm Ck vs H Q E
theorem xv{K:Za}(h:eX C m n o H Q E):zZ K (jI C n) (Oq C m) (λ_=>E) (bH Q) (start Ba o) H:=by
 let⟨x,y,s,t,rooms,g,i,f,u,j,rfl,M,N,k,v,w⟩:=h;apply⟨_,pw,_,pw,x,y,s,t,rooms,g,i,f,u,j,pw,M,N,λp q D l=>?_,v⟩;exact⟨_,pw,y,g,i,f,j,pw,N.same l,λe z A=>k p q e z<|l.trans A,λr a e ex B ⟨S,X⟩=>w p q r a e ex B ⟨l.trans S,X⟩⟩
def C2(F:Zb)(a:WD)(d:ak):Bool:=decide (d.a∈F) && decide (d.sg=cX a)
theorem re(i:∀w,w∈F↔lJ f [r] w):f.filter (C2 F a)=[]↔KI f r a=false:=by
 rw[zY,List.filter_eq_nil_iff];constructor
 .rintro h ⟨w,j,b,k⟩;refine h _ k ?_;unfold C2;rw[qh,qh]
  .rfl
  .rfl
  .exact(i w).mpr ⟨r,cF,j⟩
 .intro n d hd q;unfold C2 at q;rw[oJ]at q;have l:=of_decide_eq_true q.1;have m:=of_decide_eq_true q.2;let⟨g,o,e⟩:=(i _).mp l;have:g=r:=by simpa using o
  subst this;let⟨x,p,b⟩:=d;exact n ⟨x,e,b,by rw[<-m];exact hd⟩
theorem C0{K:Za}(st:σ[jt]?=pe (pe<|.ref f))(N:σ[ja]?=pe (pe<|.str a))(O:m I=pe (.lst<|B.map V.ref))(hd:df m B r)(hf:m f=pe (.lst<|F.map V.str))(z:r.length<=1000)(J:m l=none)(k:∀(g:Ze) (e:Hp),e l=pe (.lst<|g.map V.ref)->df e g (r.filter<|C2 F a)->ac m e->Q e) :
  fA 1 [jt,ja] σ (Ki K I) U0 (o7 (aQ<|aD (qF K false) (aD (pK K) V0<|tC<|.int 0) V1)<|aQ<|aD (mF K) (aD (pK K) V0<|tC<|.int 1)<|aU<|aM (tC<|.str "ask") V2) V0 m l Q:=by
 have T:dA 1 [jt,ja] σ=[none,pe<|.ref f,pe<|.str a]:=by simp[dA,st,N]
 let C:Nat->List V->Hp->Prop:=λi t e=>∃g:List Wv,t=g.map V.ref/\df e g ((r.take i).filter<|C2 F a)/\ac m e/\e l=pe (.lst t)
 refine cW (xs:=B.map V.ref) C
  ⟨[],pw,.nil,ac.new J,aa⟩ (λi t e _ U=>by let⟨_,_,_,S,n⟩:=U;exact⟨n,aA.of<|S _ _ O⟩) ?_ ?_
 .rintro t e ⟨g,rfl,D,S,n⟩;rw[am,Paired.length hd,bC]at D;exact k g e n D S
 .rintro i t e y Y hi ⟨g,rfl,D,S,n⟩;let⟨u,hu,rfl⟩:=dq Y;let⟨w,j,E⟩:=Paired.getL hd hu;let⟨sb,p,v⟩:=E.kt<|ac.kt S;have ab:i<r.length:=(cx.mp j).1;have zu:g.length<=i:=by
   have:=Paired.length D;rw[this];refine bh (j3 _ _) ?_;rw[aP];nofun
  rw[T];refine gN ?_;apply⟨_,pw,.inr (.inl ⟨u,_,0,_,pw,pw,bj.of p,pw,_,pw,dJ w.a,F.map dJ,f,_,qZ _,pw,.inl<|aA.of<|S _ _ hf,mS _,(by show 0<=8;decide),by rw[fW];decide,_,pw,?_⟩)⟩;rw[if_neg jZ,AR];by_cases x:w.a∈F;rotate_left
  .rw[qb x];refine aY<|aY<|rC hi ⟨g,pw,?_,S,n⟩;rw[gQ j,if_neg (by unfold C2;rw[qb x,Fe];decide),eI];exact D
  rw[qh x];refine bo ?_;apply⟨_,pw,.inr<|.inl ⟨u,_,1,_,pw,pw,bj.of p,pw,_,pw,Q2,λs hs=>?_⟩⟩;have h:=ac.new (o:=.tup<|(cX a).map V.str) hs;have L:=WI e s (.tup<|(cX a).map V.str);have G:(.tup [.str "ask",.str a]:HO)=.tup ((cX a).map V.str):=rfl;rw[G];generalize upd e s (.tup<|(cX a).map V.str)=H at h L ⊢;have M:=D.kt<|ac.kt h;apply⟨iB w.sg,iB<|cX a,cN<|bj.of<|h _ _ v,cN<|bj.of L,by rw[dC];decide,by rw[dC];decide,_,pw,?_⟩;rw[jS];by_cases A:w.sg=cX a;rotate_left
  .rw[qb A];refine aY<|rC hi ⟨g,pw,?_,S.trans h,h _ _ n⟩;rw[gQ j,if_neg (by unfold C2;rw[qb A,rP];decide),eI];exact M
  rw[qh A];refine bo ?_;have S3:ac m (upd H l<|.lst<|g.map V.ref++[.ref u]):=λb o q=>by
   rw[aj<|ag q J];exact h _ _<|S _ _ q
  have kt:g_ H (upd H l<|.lst<|g.map V.ref++[.ref u]):=λb xs q=>by
   rw[aj (λz=>by rw[z,h _ _ n]at q;cases q)];exact q
  apply⟨_,pw,h _ _ n,by rw[am];exact ax ⋯,rC hi ⟨g++[u],by rw[ay];rfl,?_,S3,aa⟩⟩;rw[gQ j,if_pos (by unfold C2;rw[qh x,qh A];rfl)];exact dI (M.kt kt) ⟨sb,kt _ _<|h _ _ p,kt _ _<|h _ _ v⟩
theorem CO{K:Za}(f:H l=pe (.lst<|e.map V.ref))(g:df H e a)(i:H q=pe (.lst []))(h:Q (.bl<|decide (a=[])) H):mF K (.ref l) (.ref q) H Q:=by
 apply⟨.s<|a.map AS,.s [],(by unfold gE;exact⟨l,_,pw,aA.of f,g.Ru⟩),(by unfold gE;exact⟨q,_,pw,aA.of i,by unfold wh;rfl⟩),?_,WE,?_⟩
 .show DT.l' _+1<=8;have:=wa a;nofun
 .rw[decide_eq_decide.mpr (show DT.s (a.map AS)=DT.s []↔a=[]from⟨λz=>oA.mp (by injection z),λz=>by rw[z];rfl⟩)];exact h
inductive jK(K:Za)(vs:List V)(H:Hp)(Q:VK)(E:XK):Prop
 |mk (t l1 l2 l3 l4:Wv) (ts:Ze) (J0 J2 rooms:Zb) (ds:List ak):vs=[.ref t]->eD H t l1 l2 l3 l4 ts J0 J2 rooms ds->aE J0 J2 rooms ds->((O9 ds J0 rooms=none->∀H',ac H H'->Q .L' H'))->(∀r a,O9 ds J0 rooms=pe (r,a)->∀u H',H' u=pe (.tup [.str r,.str a])->ac H H'->Q (.ref u) H')->jK K vs H Q E
theorem KJ{K:Za}(h:jK K Y H Q E):Dx K (eJ K) (bH Q) (start EW Y) H:=by
 let⟨t,l1,l2,l3,l4,ts,D,J2,rooms,s,rfl,T,m,k,kx⟩:=h;have hb:∀d∈s,d.b∈rooms:=λd hd=>(m.good d hd).b;have z3:=m.A3;have z4:=m.Qb;apply⟨_,pw,.inr<|.inl ⟨t,_,2,_,pw,pw,bj.of T.t,pw,l3,pw,⟨_,aA.of T.a3⟩,?_⟩⟩
 let G:Nat->L2.St->Hp->Prop:=λi σ w=>∃x y z,σ=[pe<|.ref t,x,y,z]/\ac H w/\∀r∈rooms.take i,∀a∈D,KI s r a=true
 refine cr (xs:=rooms.map V.str) G ⟨_,_,_,pw,ac.refl _,by simp⟩ (λi σ w _ I=>by let⟨_,_,_,_,S,_⟩:=I;exact aA.of<|S _ _ T.a3) ?_ ?_
 .rintro i v σ H1 hi ⟨x,y,z,rfl,J,ok⟩;let⟨r,hr,rfl⟩:=bJ hi;have L:=T.same J;apply⟨_,pw,.inr<|.inl ⟨t,_,3,_,pw,pw,bj.of L.t,pw,_,pw,Q1,λq hq=>?_⟩⟩;have T2:=L.same<|ac.new (o:=.lst [.str r]) hq;apply⟨l4,q,ts,s,[r],rooms,pw,T2.a4,T2.ds,aa,hb,by nofun,by simp,λf F A hf hF _ _ M=>?_⟩;have n:ac H1 A:=(ac.new hq).trans M;have B:=L.same n;apply⟨_,pw,.inr<|.inl ⟨t,_,0,_,pw,pw,bj.of B.t,pw,l1,pw,⟨_,aA.of B.a1⟩,?_⟩⟩
  let N:Nat->L2.St->Hp->Prop:=λj σ w=>∃z,σ=[pe<|.ref t,pe<|.str r,pe<|.ref f,z]/\ac A w/\∀a∈D.take j,KI s r a=true
  refine cr (xs:=D.map V.str) N ⟨_,pw,ac.refl _,by simp⟩ (λi σ w _ I=>by let⟨_,_,S,_⟩:=I;exact aA.of<|S _ _ B.a1) ?_ ?_
  .rintro j v σ H4 hj ⟨z,rfl,p,g⟩;let⟨a,ha,rfl⟩:=bJ hj;have C:=B.same p;have f4:=p _ _ hf;apply⟨_,pw,.inr<|.inl ⟨t,_,3,_,pw,pw,bj.of C.t,pw,l4,pw,⟨_,aA.of C.a4⟩,λl hl=>?_⟩⟩;refine C0 (K:=K) (jt:=2) (ja:=3) rfl rfl C.a4 C.ds f4 z4 hl λus H5 h5 D5 S5=>⟨Q0,λe O=>?_⟩;refine CO (kp h5 O) (D5.kt<|ac.kt<|ac.new O) aa ⟨_,pw,?_⟩;have U:ac H4 (upd H5 e<|.lst []):=S5.trans<|ac.new O;generalize upd H5 e (.lst [])=H6 at U ⊢;cases q:KI s r a with
   |true =>
    rw[qb (λz=>by rw[re hF,q]at z;cases z)];refine aY ⟨_,pw,p.trans U,λb hb=>?_⟩;rw[take_snoc ha]at hb;obtain hb|hb:=bp.mp hb
    .exact g b hb
    .have:b=a:=by simpa using hb
     rw[this];exact q
   |false =>
    rw[qh<|(re hF).mpr q];refine bo ⟨_,pw,_,pw,Q2,λu hu=>?_⟩;exact kx r a (AD ok hr<|sT g ha q) u _ aa<|(((J.trans n).trans p).trans U).trans<|ac.new hu
  .rintro σ H4 ⟨z,rfl,p,g⟩;rw[am,bC]at g;apply⟨_,_,_,pw,(J.trans n).trans p,λb hb=>?_⟩;rw[take_snoc hr]at hb;obtain hb|hb:=bp.mp hb
   .exact ok b hb
   .have:b=r:=by simpa using hb
    rw[this];exact g
 .rintro σ A ⟨x,y,z,rfl,M,ok⟩;rw[am,bC]at ok;exact k (sS ok) A M
theorem Reach.Uu(n:d.sg≠ao)(r:Reach (ds++[d]) a b):Reach ds a b:=by
 have f:∀{x y:WD},(⟨x,ao,y⟩:ak)∈ds++[d]->(⟨x,ao,y⟩:ak)∈ds:=λq=>by
  obtain q|q:=bp.mp q
  .exact q
  .have e:=dF.mp q;exact absurd (by rw[<-e]) n
 induction r with
 |one q=>exact .one<|f q
 |step _ q g=>exact .step g<|f q
theorem kS.mono(h:∀d∈ds,d∈e):kS ds r a->kS e r a:=λ⟨w,f,b,g⟩=>⟨w,f.imp id<|Reach.mono λx y=>h _,b,h _ g⟩
theorem mem_putD:x∈mG a d↔x∈a∨x=d:=by
 unfold mG;split
 .rename_i h;exact⟨.inl,λz=>z.elim id λe=>by rw[e];exact h⟩
 .simp
theorem aE.Rl(m:aE i j rooms f)(g:De i j rooms d)(n:d.sg≠ao)(z:f.length+1<=1000):aE i j rooms (mG f d):=by
 apply⟨m.Tu,m.Tz,m.apart,m.RX,m.PJ,m.P2,m.OI,m.O',m.Pd,m.A3,?_,λx hx=>?_,?_,λr q=>?_⟩
 .unfold mG;split
  .exact m.nodup
  .rename_i h;rw[eK];exact⟨m.nodup,by simp,λa k b l e=>h (by rw[<-dF.1 l,<-e];exact k)⟩
 .obtain h|h:=mem_putD.mp hx
  .exact m.good x h
  .rw[h];exact g
 .have:=vP f d;nofun
 .refine m.OB r ?_;unfold mG at q;split at q
  .exact q
  .exact q.Uu n
theorem yW(a:WD):cX a≠ao:=by unfold cX ao;intro h;injection h with _ h;cases h
structure TX(H0:Hp)(p c l:Wv)(R:List ak->Prop)(H:Hp):Prop where
 pen:eF H p c
 ds:∃ts ds,H l=pe (.lst (ts.map V.ref))/\df H ts ds/\R ds
 ex:cY p H0 H
 fr:H0 l=none
 pl:p≠l
 cl:c≠l
section
variable{H0 H H':Hp}{p c l:Wv}{R R':List ak->Prop}
theorem TX.Pg(h:TX H0 p c l R H)(a:eF H' p c)(e:cY p H H'):TX H0 p c l R H':=by
 let⟨f,g,i,j,k⟩:=h.ds;let⟨xs,hx⟩:=h.pen.lst;exact⟨a,⟨f,g,e _ _ i h.pl.symm,j.kt<|e.kt hx,k⟩,h.ex.trans e,h.fr,h.pl,h.cl⟩
theorem TX.same(h:TX H0 p c l R H)(S:ac H H'):TX H0 p c l R H':=h.Pg (h.pen.ex S)<|ac.Rz S
theorem TX.imp(h:TX H0 p c l R H)(q:∀a,R a->R' a):TX H0 p c l R' H:=by
 let⟨e,a,f,g,i⟩:=h.ds;exact⟨h.pen,⟨e,a,f,g,q _ i⟩,h.ex,h.fr,h.pl,h.cl⟩
theorem TX.put(h:TX H0 p c l R H)(f:∃xs,H l=pe (.lst xs))(g:df H a e)(r:R' e):TX H0 p c l R' (upd H l<|.lst<|a.map V.ref):=by
 let⟨xs,hx⟩:=f;apply⟨h.pen.upd h.pl h.cl,⟨a,e,aa,g.kt λb i q=>?_,r⟩,λb o q n=>?_,h.fr,h.pl,h.cl⟩
 .rw[aj (λz=>by rw[z,hx]at q;cases q)];exact q
 .rw[aj<|ag q h.fr];exact h.ex _ _ q n
end
def WR(J0 J2 rooms:Zb)(D:List<|WD×WD)(n:Nat)(ds:List ak):Prop:=aE J0 J2 rooms ds/\ds.length<=n/\∀x∈D,kS ds x.1 x.2
theorem WR.up(h:WR J0 a rooms D n f)(z:n<=e):WR J0 a rooms D e f:=⟨h.1,bh h.2.1 z,h.2.2⟩
inductive lh (vs:List V)(H:Hp)(Q:VK)(E:XK):Prop
 |mk (p c t l1 l2 l3 l4:Wv) (ts:Ze) (J0 J2 rooms:Zb) (ds:List ak):vs=[.ref p,.ref t]->eF H p c->eD H t l1 l2 l3 l4 ts J0 J2 rooms ds->aE J0 J2 rooms ds->rooms.length<=26->ds.length<=800->(∀(t' SE:Wv) (RU:Ze) (Qc:List ak) (H':Hp),eD H' t' l1 l2 l3 SE RU J0 J2 rooms Qc->aE J0 J2 rooms Qc->(∀r∈rooms,∀a∈J0,kS Qc r a)->Qc.length<=ds.length+4 * rooms.length->eF H' p c->cY p H H'->Q (.ref t') H')->lh  vs H Q E
theorem DZ{K:Za}(h:lh vs H Q E):wV K lm ca (eJ K) (bH Q) (start xG vs) H:=by
 let⟨p,c,t,l1,l2,N,l4,ts,J0,O,rooms,ds,rfl,hp,T,m,b4,z8,k⟩:=h;have a4:=m.O';apply⟨_,pw,t,_,pw,bj.of T.t,pw,_,_,pw,_,_,pw,_,_,pw,_,_,pw,pw,?_⟩;apply⟨_,pw,.inl ⟨l4,_,pw,.inl<|aA.of T.a4,λf hf=>?_⟩⟩;have B0:TX H p c f (WR J0 O rooms [] ds.length) (upd H f<|.lst<|ts.map V.ref):=⟨hp.ex<|ac.new hf,⟨ts,ds,aa,T.ds.kt<|ac.kt<|ac.new hf,m,aB _,by simp⟩,cY.new hf,hf,hp.Ry hf,hp.Tv hf⟩;generalize upd H f (.lst<|ts.map V.ref)=H1 at B0 ⊢;have A:∀{G:Hp}{R:List ak->Prop},TX H p c f R G->G l1=pe (.lst<|J0.map V.str)/\G l2=pe (.lst<|O.map V.str)/\G N=pe (.lst<|rooms.map V.str):=λB =>
  ⟨B.ex _ _ T.a1<|hp.r3 T.a1,B.ex _ _ T.a2<|hp.r3 T.a2,B.ex _ _ T.a3<|hp.r3 T.a3⟩
 apply⟨_,pw,N,pw,⟨_,aA.of (A B0).2.2⟩,?_⟩
 let a0:Nat->L2.St->Hp->Prop:=λi σ G=>Oj λ(a6 U Y a9:Option V)=>σ=[pe<|.ref p,pe<|.ref t,pe<|.ref l1,pe<|.ref l2,pe<|.ref N,pe<|.ref f,a6,U,Y,a9]/\TX H p c f (WR J0 O rooms ((rooms.take i).flatMap λr=>J0.map λa=>(r,a))<|ds.length+4 * i) G
 refine cr (xs:=rooms.map V.str) a0
  ⟨_,_,_,_,pw,B0⟩ (λi σ G _ zq=>by let⟨_,_,_,_,_,B⟩:=zq;exact aA.of (A B).2.2) ?_ ?_
 .rintro i v σ H2 hi ⟨a6,U,Y,a9,rfl,J⟩;let⟨r,hr,rfl⟩:=bJ hi;have b5:i<rooms.length:=(cx.mp hr).1;have ab:=cH hr;apply⟨_,pw,l1,pw,⟨_,aA.of (A J).1⟩,?_⟩
  let a5:Nat->L2.St->Hp->Prop:=λj σ G=>Nn λ(U Y a9:Option V)=>σ=[pe<|.ref p,pe<|.ref t,pe<|.ref l1,pe<|.ref l2,pe<|.ref N,pe<|.ref f,pe<|.str r,U,Y,a9]/\TX H p c f (WR J0 O rooms ((rooms.take i).flatMap (λr=>J0.map λa=>(r,a))++(J0.take j).map λa=>(r,a))<|ds.length+4 * i+j) G
  refine cr (xs:=J0.map V.str) a5
   ⟨_,_,_,pw,J.imp λds h=>by simpa using h⟩ (λi σ G _ zq=>by let⟨_,_,_,_,B⟩:=zq;exact aA.of (A B).1) ?_ ?_
  .rintro j v σ H3 hj ⟨U,Y,a9,rfl,B3⟩;let⟨a,ha,rfl⟩:=bJ hj;have b6:j<J0.length:=(cx.mp ha).1;have bd:=cH ha;have al:∀C n,WR J0 O rooms ((rooms.take i).flatMap (λr=>J0.map λa=>(r,a))++(J0.take j).map λa=>(r,a)) n C->kS C r a->WR J0 O rooms ((rooms.take i).flatMap (λr=>J0.map λa=>(r,a))++(J0.take<|j+1).map λa=>(r,a)) n C:=λC n w tk=>by
    apply⟨w.1,w.2.1,λx hx=>?_⟩;rw[take_snoc ha,ay,<-d9]at hx;obtain h|h:=bp.mp hx
    .exact w.2.2 x h
    .have:x=(r,a):=by simpa using h
     rw[this];exact tk
   apply⟨_,pw,_,pw,Q1,λq hq=>?_⟩;have B4:=B3.same<|ac.new (o:=.lst [.str r]) hq;have q4:=WI H3 q (.lst [.str r]);generalize upd H3 q (.lst [.str r])=H4 at B4 q4 ⊢;let⟨us,C,g1,g2,D⟩:=B4.ds;apply⟨f,q,us,C,[r],rooms,pw,g1,g2,q4,λd hd=>(D.1.good d hd).b,by nofun,(by show 1<=1000;decide),λth F H5 bi hF _ _ S5=>?_⟩;have B5:=B4.same S5;have f5:=S5 _ _ g1;have d5:=g2.kt<|ac.kt S5;apply⟨_,pw,f,pw,⟨_,aA.of f5⟩,λl hl=>?_⟩;refine C0 (K:=K) (jt:=8) (ja:=7) rfl rfl f5 d5 bi D.1.Qb hl λvs H6 h6 D6 S6=>⟨Q0,λe he=>?_⟩;refine CO (kp h6 he) (D6.kt<|ac.kt<|ac.new he) aa ⟨_,pw,?_⟩;have S7:ac H5 (upd H6 e<|.lst []):=S6.trans<|ac.new he;generalize upd H6 e (.lst [])=H7 at S7 ⊢;have f7:=S7 _ _ f5;have d7:=d5.kt<|ac.kt S7;have B7:TX H p c f (λan=>an=C) H7:=by
    have B:=B5.same S7;exact⟨B.pen,⟨us,C,f7,d7,pw⟩,B.ex,B.fr,B.pl,B.cl⟩
   cases q:KI C r a with
   |true =>
    rw[qb (λz=>by rw[re hF,q]at z;cases z)];exact aY ⟨_,_,_,pw,B7.imp λan e=>by rw[e];exact al _ _ (D.up ⋯)<|tK.mp q⟩
   |false =>
    rw[qh<|(re hF).mpr q];refine bo ?_;have bl:=(A B7).2.2;apply⟨_,pw,_,pw,_,pw,_,pw,.inl ⟨N,_,pw,.inl<|aA.of bl,?_⟩⟩;rw[am];refine cJ B7.pen ⋯ ⋯ λx H8 x0 x1 bm bn=>?_;let⟨n,rfl⟩:=i6 x0;have B8:=B7.Pg bm bn;obtain⟨w,hw⟩:∃w,rooms[n]?=pe w:=⟨_,dH ⋯⟩;apply⟨N,_,(n:Int),.str w,pw,pw,aA.of (A B8).2.2,bA (j:=n) (by rw[eL,hw];rfl),Q2,λu hu=>?_⟩;have B9:=B8.same<|ac.new (o:=.lst [.str r,.str w]) hu;have u9:upd H8 u (.lst [.str r,.str w]) u=pe (.lst<|[r,w].map V.str):=aa;generalize upd H8 u (.lst [.str r,.str w])=H9 at B9 u9 ⊢;apply⟨_,pw,cJ B9.pen WE WE λy I y0 y1 as L=>?_⟩;have bw:=B9.Pg as L;obtain⟨g,hg,b0⟩:∃g,A5 ([r,w].map V.str) y=pe (.str g)/\g∈rooms:=by
     have:y=0∨y=1:=by nofun
     obtain rfl|rfl:=this
     .exact⟨r,pw,ab⟩
     .exact⟨w,pw,cH hw⟩
    apply⟨u,_,y,.str g,pw,pw,aA.of<|L _ _ u9<|B9.pen.r3 u9,hg,?_⟩;apply⟨_,pw,_,pw,_,pw,Q2,λs hs=>⟨_,pw,Q3,λd hd=>?_⟩⟩;have aC:ac I (upd (upd I s<|.tup [.str "ask",.str a]) d<|.tup [.str r,.ref s,.str g]):=(ac.new hs).trans<|ac.new hd;have M:ii (upd (upd I s<|.tup [.str "ask",.str a]) d<|.tup [.str r,.ref s,.str g]) d ⟨r,cX a,g⟩:=⟨s,aa,kp aa hd⟩;generalize upd (upd I s<|.tup [.str "ask",.str a]) d (.tup [.str r,.ref s,.str g])=b7 at aC M ⊢;have aT:=bw.same aC;let⟨b1,b2,k1,k2,rfl⟩:=id aT.ds;have zz:=D.2.1;have aX:De J0 O rooms ⟨r,cX a,g⟩:=⟨ab,b0,.inl ⟨a,bd,pw⟩⟩;apply⟨f,d,b1,_,⟨r,cX a,g⟩,pw,k1,k2,M,D.1.Qb,λb8 D2=>?_⟩;apply⟨_,_,_,pw,aT.put ⟨_,k1⟩ D2 (al _ _ ⟨D.1.Rl aX (yW a) ⋯,?_,λx hx=>(D.2.2 x hx).mono λy hy=>mem_putD.mpr<|.inl hy⟩ ⟨r,.inl rfl,g,mem_putD.mpr<|.inr rfl⟩)⟩;have:=vP b2 ⟨r,cX a,g⟩;nofun
  .rintro σ H3 ⟨U,Y,a9,rfl,B3⟩;apply⟨_,_,_,_,pw,B3.imp λC h=>?_⟩;rw[am]at h;apply⟨h.1,by have:=h.2.1;nofun,λx hx=>h.2.2 x ?_⟩;rw[take_snoc hr,List.flatMap_append]at hx;rw[bC];simpa using hx
 .rintro σ H2 ⟨a6,U,Y,a9,rfl,J⟩;rw[am,bC]at J;let⟨us,C,g1,g2,D⟩:=J.ds;let⟨q1,q2,q3⟩:=A J;apply⟨_,pw,_,pw,_,pw,_,pw,Q4,λt' b3=>?_⟩;have S3:=ac.new (o:=.tup [.ref l1,.ref l2,.ref N,.ref f]) b3;exact k t' f us C _ ⟨aa,S3 _ _ q1,S3 _ _ q2,S3 _ _ q3,S3 _ _ g1,g2.kt<|ac.kt S3⟩ D.1 (λr hr a ha=>D.2.2 (r,a)<|List.mem_flatMap.mpr ⟨r,hr,aV.mpr ⟨a,ha,pw⟩⟩) D.2.1 (J.pen.ex S3)<|J.ex.trans<|ac.Rz S3
abbrev Sg:=List WD
def T'(J0 J2 rooms:Zb)(ds:List ak)(face:Zb):List (Sg×List WD):=((Jt J0 J2).map λsg=>(sg,Rb rooms ds face sg)).filter λp=>decide (p.2≠[])
structure VT where
 fs:List (List WD)
 ss:List (List Sg)
abbrev Vv:=VT×List (List<|Sg×Nat)
def Vt(rooms f:Zb):Prop:=∃p:WD->Bool,f=rooms.filter p
structure Good(rooms:Zb)(m:VT):Prop where
 nd:m.fs.Nodup
 len:m.ss.length=m.fs.length
 Wr:∀f∈m.fs,Vt rooms f
 sl:∀(i:Nat) (s:List Sg),m.ss[i]?=pe s->s.length<=i
structure Wo(J0 J2 rooms:Zb)(ds:List ak)(S:Vv):Prop where
 good:Good rooms S.1
 le:S.2.length<=S.1.fs.length
 zero:S.1.fs[0]?=pe (Qn rooms ds (rooms.take 1))
 st:∀(i:Nat) (l:List (Sg×Nat)),S.2[i]?=pe l->∃f,S.1.fs[i]?=pe f/\Paired (λ(a:Sg×Nat) (p:Sg×List WD)=>a.1=p.1/\S.1.fs[a.2]?=pe p.2) l (T' J0 J2 rooms ds f)
theorem zX{K:Za}(h:∀H,bj K H a xs)(H:Hp):bN K H a xs:=by
 obtain(h|⟨o,h⟩)|h:=h (λ_=>none)
 .cases h
 .cases h
 .exact .inr h
abbrev gS(K:Za)(H:Hp)(w:Wv)(s:List Sg):Prop:=∃gs:List Wv,H w=pe (.lst<|gs.map V.ref)/\Paired (λg (sg:Sg)=>bN K H g<|sg.map V.str) gs s
theorem bN.kt{K:Za}(k:g_ H e)(h:bN K H a xs):bN K e a xs:=h.keeps k
theorem bN.sq{K:Za}(h:bN K H a xs):bj K H a xs:=h.imp .inl id
abbrev Pr:=Nat×Nat
structure Nh where
 key:Pr
 Tf:Option (Pr×Sg)
 story:List Sg
def Ve(P:List Nh)(k:Pr):Bool:=P.any λc=>decide (c.key=k)
def NK(l:List<|Sg×Nat)(sg:Sg):Option Nat:=(l.find? λp=>decide (p.1=sg)).map (·.2)
theorem Paired.rev:∀{a:List α}{b:List β},Paired R a b->Paired R a.reverse b.reverse
 |_,_,.nil=>.nil
 |_,_,.cons r t=>by
  rw[rW,rW];exact Paired.app (Paired.rev t)<|.cons r .nil
def VN(ms ws:List<|List<|Sg×Nat)(P:List Nh)(c:Nh):Prop:=∀p∈ms.getD c.key.2 [],match NK (ws.getD c.key.1 []) p.1 with
 |none=>p.1.head?=pe ("ask":WD)
 |some w=>Ve P (w,p.2)=true
theorem aE.out(m:aE a e rooms ds)(k:Nat):aE a e rooms (ds.eraseIdx k):=by
 have sub:(ds.eraseIdx k).Sublist ds:=List.eraseIdx_sublist ds k;exact{m with nodup:=m.nodup.sublist sub,good:=λd f=>m.good d<|sub.mem f,Qb:=bh sub.length_le m.Qb,OB:=λr z=>m.OB r (z.mono λx y h=>sub.mem h)}
theorem Paired.out:∀{a:List α}{bs:List β}(k:Nat),Paired R a bs->Paired R (a.eraseIdx k) (bs.eraseIdx k)
 |_,_,_,.nil=>.nil
 |_,_,0,.cons _ t=>t
 |_,_,k+1,.cons r t=>.cons r<|Paired.out k t
theorem yF{α β:Type}(f:α->β):∀(l:List α) (n:Nat),(l.map f).eraseIdx n=(l.eraseIdx n).map f
 |[],_=>rfl
 |_::_,0=>rfl
 |a::l,n+1=>by show f a::_=f a::_;rw[yF f l n]
def TR(J0 J2 rooms:Zb)(n:Nat)(ds:List ak):Prop:=aE J0 J2 rooms ds/\ds.length<=n
inductive nu (vs:List V)(H:Hp)(Q:VK)(E:XK):Prop
 |mk (p c t l1 l2 l3 l4:Wv) (ts:Ze) (J0 J2 rooms:Zb) (ds:List ak):vs=[.ref p,.ref t]->eF H p c->eD H t l1 l2 l3 l4 ts J0 J2 rooms ds->aE J0 J2 rooms ds->ds.length<=690->(∀(t' SE:Wv) (RU:Ze) (Qc:List ak) (H':Hp),eD H' t' l1 l2 l3 SE RU J0 J2 rooms Qc->aE J0 J2 rooms Qc->Qc.length<=ds.length+1->eF H' p c->cY p H H'->Q (.ref t') H')->nu  vs H Q E
theorem GL{K:Za}(h:nu vs H Q E):z6 K lm ca (eJ K) (bH Q) (start Bc vs) H:=by
 let⟨p,c,t,l1,l2,l3,l4,ts,J0,J2,rooms,ds,rfl,hp,T,m,z8,k⟩:=h;have a4:=m.O';have s4:=m.Pd;have r4:=m.A3;apply⟨_,pw,t,_,pw,bj.of T.t,pw,_,_,pw,_,_,pw,_,_,pw,_,_,pw,pw,?_⟩;apply⟨_,pw,.inl ⟨l4,_,pw,.inl<|aA.of T.a4,λf hf=>?_⟩⟩;have B0:TX H p c f (λx=>x=ds) (upd H f<|.lst<|ts.map V.ref):=⟨hp.ex<|ac.new hf,⟨ts,ds,aa,T.ds.kt<|ac.kt<|ac.new hf,pw⟩,cY.new hf,hf,hp.Ry hf,hp.Tv hf⟩;generalize upd H f (.lst<|ts.map V.ref)=H1 at B0 ⊢;have r:∀{H':Hp}{R:List ak->Prop},TX H p c f R H'->H' l1=pe (.lst<|J0.map V.str)/\H' l2=pe (.lst<|J2.map V.str)/\H' l3=pe (.lst<|rooms.map V.str):=λB =>
  ⟨B.ex _ _ T.a1<|hp.r3 T.a1,B.ex _ _ T.a2<|hp.r3 T.a2,B.ex _ _ T.a3<|hp.r3 T.a3⟩
 apply⟨_,pw,cJ B0.pen WE WE λY H2 w0 w1 as aC=>?_⟩;have B2:=B0.Pg as aC;let⟨C,es,D,J,rfl⟩:=id B2.ds;apply⟨_,pw,_,pw,.inl ⟨f,_,pw,.inl<|aA.of D,_,_,pw,?_⟩⟩;have lu:C.length=es.length:=Paired.length J;refine cJ B2.pen (by split<;>nofun) (by rw[am,lu];split<;>nofun) λat_ H3 n0 n1 aT aX=>?_;have B3:=B2.Pg aT aX;rw[am,lu]at n1;refine iT (λ_ _ _ _ h=>h) rfl rfl B3.pen (r B3).2.2 m.OI ⋯ λroom v H4 a0 a5=>?_;have B4:=B3.Pg a0 a5;refine iT (λ_ _ _ _ h=>h) rfl rfl B4.pen (r B4).2.2 m.OI ⋯ λother i H5 a6 a7=>?_;have O:=B4.Pg a6 a7;clear B0 B2 B3 B4 as aT a0 a6 aC aX a5 a7 D J;have L:∀{l:Hp}(G:Option V),TX H p c f (TR J0 J2 rooms<|es.length+1) l->(be<|aU<|aq V2<|bY V3 V4 V5) (bH Q) [pe<|.ref p,pe<|.ref t,pe<|.ref l1,pe<|.ref l2,pe<|.ref l3,pe<|.ref f,pe<|.int Y,pe<|.int at_,pe<|.str room,pe<|.str other,G] l:=λG B=>by
  let⟨C,fs,D,J,g3⟩:=B.ds;let⟨q1,q2,q3⟩:=r B;apply⟨_,pw,_,pw,_,pw,_,pw,Q4,λt' bn=>?_⟩;have S3:=ac.new (o:=.tup [.ref l1,.ref l2,.ref l3,.ref f]) bn;exact k t' f C fs _ ⟨aa,S3 _ _ q1,S3 _ _ q2,S3 _ _ q3,S3 _ _ D,J.kt<|ac.kt S3⟩ g3.1 g3.2 (B.pen.ex S3)<|B.ex.trans<|ac.Rz S3
 have put:∀{l:Hp}{fs:List ak}{d:Wv}{x:ak}(G:Option V),TX H p c f (λy=>y=fs) l->fs.length<=es.length->ii l d x->aE J0 J2 rooms (mG fs x)->lm [.ref f,.ref d] l (λ_ H'=>(be<|aU<|aq V2<|bY V3 V4 V5) (bH Q) [pe<|.ref p,pe<|.ref t,pe<|.ref l1,pe<|.ref l2,pe<|.ref l3,pe<|.ref f,pe<|.int Y,pe<|.int at_,pe<|.str room,pe<|.str other,G] H') E0:=λG B le M ok=>by
  let⟨bw,b4,k1,k2,rfl⟩:=id B.ds;apply⟨f,_,bw,_,_,pw,k1,k2,M,by nofun,λb5 D2=>L G<|B.put ⟨_,k1⟩ D2 ⟨ok,?_⟩⟩;exact bh (vP _ _) ⋯
 apply⟨_,pw,pw,_,pw,?_⟩;refine kb (λ_=>?_)<|λ_=>?_
 .refine⟨_,pw,_,pw,iT (λ_ _ _ _ h=>h) rfl rfl O.pen (r O).2.1 m.P2 ⋯ λw hw l ab al=>⟨Q2,λs hs=>⟨_,pw,Q3,λd I=>?_⟩⟩⟩;have N:=O.Pg ab al;have S:ac l (upd (upd l s<|.tup [.str "say",.str w]) d<|.tup [.str room,.ref s,.str other]):=(ac.new hs).trans<|ac.new I;exact put (x:=⟨room,kH w,other⟩) _ (N.same S) (aB _) ⟨s,aa,kp aa I⟩ (m.Rl ⟨v,i,.inr<|.inl ⟨w,hw,pw⟩⟩ (by unfold kH ao;intro h;injection h with _ h;cases h) ⋯)
 apply⟨_,pw,pw,_,pw,?_⟩;refine kb (λ_=>?_)<|λ_=>?_
 .refine⟨_,pw,_,pw,iT (λ_ _ _ _ h=>h) rfl rfl O.pen (r O).1 m.PJ ⋯ λw hw l ab al=>⟨Q2,λs hs=>⟨_,pw,Q3,λd I=>?_⟩⟩⟩;have N:=O.Pg ab al;have S:ac l (upd (upd l s<|.tup [.str "ask",.str w]) d<|.tup [.str room,.ref s,.str other]):=(ac.new hs).trans<|ac.new I;exact put (x:=⟨room,cX w,other⟩) _ (N.same S) (aB _) ⟨s,aa,kp aa I⟩ (m.Rl ⟨v,i,.inl ⟨w,hw,pw⟩⟩ (yW w) ⋯)
 have A:∀{l:Hp},TX H p c f (λy=>y=es) l->(bS (o7 (aQ<|aD kW V6<|tC<|.int 4)<|aQ<|aD (qF K true) V8<|aI (eJ K)<|aM V5<|cK<|av V9) (cy<|aI lm<|aq V5<|aq (aU<|bY V8 (aU<|av<|tC<|.str "still") V9) bx)<|bf) { nx:=(be<|aU<|aq V2<|bY V3 V4 V5)<|bH Q,rt:=Q} [pe<|.ref p,pe<|.ref t,pe<|.ref l1,pe<|.ref l2,pe<|.ref l3,pe<|.ref f,pe<|.int Y,pe<|.int at_,pe<|.str room,pe<|.str other,none] l:=fun{l} B=>by
  have a8:TX H p c f (TR J0 J2 rooms<|es.length+1) l:=B.imp λy e=>by rw[e];exact⟨m,iG _⟩
  apply⟨_,pw,pw,_,pw,?_⟩;refine kb (λ_=>?_)<|λ_=>aY<|L _ a8;apply⟨_,pw,_,pw,_,pw,Q1,λbl b0=>?_⟩;have B7:=B.same<|ac.new (o:=.lst [.str other]) b0;have e7:=WI l bl (.lst [.str other]);generalize upd l bl (.lst [.str other])=H7 at B7 e7 ⊢;let⟨C,fs,D,J,rfl⟩:=id B7.ds;apply⟨f,bl,C,fs,[other],rooms,pw,D,J,e7,λd I=>(m.good d I).b,by nofun,(by show 1<=1000;decide),λg F H8 hg hF _ _ S8=>?_⟩;have B8:=B7.same S8;apply⟨dJ room,F.map dJ,g,_,qZ room,pw,.inl<|aA.of hg,mS _,(by show 0<=8;decide),by rw[fW];decide,_,pw,?_⟩;rw[if_pos rfl];by_cases c1:room∈F
  .rw[qh<|nJ.mpr c1];exact aY (L _ (B8.imp λy e=>by rw[e];exact⟨m,iG _⟩))
  rw[qb<|λz=>c1<|nJ.mp z];refine bo ?_;apply⟨_,pw,_,pw,Q1,λs hs=>⟨_,pw,Q3,λd I=>?_⟩⟩;have S:ac H8 (upd (upd H8 s<|.tup [.str "still"]) d<|.tup [.str room,.ref s,.str other]):=(ac.new hs).trans<|ac.new I;exact put (x:=⟨room,ao,other⟩) _ (B8.same S) (aB _) ⟨s,aa,kp aa I⟩ (m.SX v i (λz=>c1<|(hF room).mpr z) ⋯)
 apply⟨_,pw,_,_,pw,pw,_,pw,?_⟩;refine kb (λ_=>?_)<|λ_=>aY<|A O;apply⟨_,pw,Q0,λq hq=>?_⟩;have N:=O.same<|ac.new (o:=.lst []) hq;have e6:=WI H5 q (.lst []);generalize upd H5 q (.lst [])=l at N e6 ⊢;let⟨C,fs,D,J,rfl⟩:=id N.ds;refine Jm D J e6 (λc1=>⟨_,pw,bo ?_⟩)<|λ_=>⟨_,pw,aY<|aY<|A N⟩;have fl:0<fs.length:=y2.2 c1;have n2:at_<fs.length:=by split at n1<;>nofun
 let⟨n,rfl⟩:=i6 n0;have n3:n<fs.length:=by nofun
 have an:fs[n]?=pe fs[n]:=dH n3;let⟨u,hu,M⟩:=Paired.get J an;generalize fs[n]=U at an M;have hm:=cH an;let⟨sb,a9,bd⟩:=M;let⟨s0,b3,bi,_⟩:=GI<|m.good U hm;have b1:A5 (U.sg.map V.str) 0=pe (.str s0):=by rw[bi];exact bA (j:=0) rfl
 have bm:(C.map V.ref)[n]?=pe (.ref u):=by rw[eL,hu];rfl
 apply⟨_,pw,_,pw,f,_,_,_,pw,pw,aA.of D,bA bm,u,_,1,_,pw,pw,bj.of a9,pw,sb,_,0,_,pw,pw,bj.of bd,b1,pw,_,pw,?_⟩;refine kb (λc2=>?_)<|λ_=>A N;have ns:U.sg≠ao:=λz=>by
  rw[bi]at z;injection z with z;rw[z]at c2;simp at c2
 have b2:zP (n:Int) (C.map V.ref).length=pe n:=(AK (K9 (by rw[am,Paired.length J];exact n3))).1;apply⟨_,pw,.inl ⟨pw,_,aA.of D⟩,_,pw,f,_,_,n,.ref u,pw,pw,D,by nofun,by nofun,b2,bm,?_⟩;have ee:(C.map V.ref).eraseIdx n=(C.eraseIdx n).map V.ref:=yF _ C n;rw[ee];have k6:g_ l (upd l f<|.lst<|(C.eraseIdx n).map V.ref):=dO D;have B7:TX H p c f (λy=>y=fs.eraseIdx n) (upd l f<|.lst<|(C.eraseIdx n).map V.ref):=N.put ⟨_,D⟩ (Paired.out n J) rfl;have t7:=k6 _ _ a9;have s7:=k6 _ _ bd;generalize upd l f (.lst<|(C.eraseIdx n).map V.ref)=H7 at B7 t7 s7 ⊢;have m7:=m.out n;have l7:(fs.eraseIdx n).length<=fs.length:=(List.eraseIdx_sublist fs n).length_le;apply⟨_,pw,pw,_,pw,?_⟩;refine kb (λ_=>?_) (λ_=>L _ (B7.imp λy e=>by rw[e];exact⟨m7,by nofun⟩));apply⟨_,pw,_,pw,u,_,0,_,pw,pw,bj.of t7,pw,_,pw,u,_,1,_,pw,pw,bj.of t7,pw,_,pw,Q3,λd I=>?_⟩;have S:=ac.new (o:=.tup [.str U.a,.ref sb,.str other]) I;exact put (x:=⟨U.a,U.sg,other⟩) _ (B7.same S) l7 ⟨sb,aa,S _ _ s7⟩ (m7.Rl ⟨(m.good U hm).a,i,(m.good U hm).sg⟩ ns ⋯)
theorem Reach.UQ(h:Reach a x y):Reach (a.map<|xu f) (f x) (f y):=by
 induction h with
 |one e=>exact .one<|aV.2 ⟨_,e,pw⟩
 |step _ e g=>exact .step g<|aV.2 ⟨_,e,pw⟩
theorem kS.UQ:kS g r a->kS (g.map<|xu f) (f r) a:=λ⟨w,h,b,i⟩ =>
 ⟨f w,h.imp (λe=>by rw[e]) Reach.UQ,f b,aV.2 ⟨_,i,pw⟩⟩
inductive jH (vs:List V)(H:Hp)(Q:VK)(E:XK):Prop
 |mk (p c t l1 l2 l3 l4:Wv) (ts:Ze) (J0 J2 rooms:Zb) (ds:List ak):vs=[.ref p,.ref t]->eF H p c->eD H t l1 l2 l3 l4 ts J0 J2 rooms ds->aE J0 J2 rooms ds->rooms.length<=26->(∀(t' Va SE:Wv) (RU:Ze) (OA:Zb) (f:WD->WD) (H':Hp),eD H' t' l1 l2 Va SE RU J0 J2 OA (ds.map (xu f))->aE J0 J2 OA (ds.map (xu f))->OA.Perm (rooms.map f)->eF H' p c->cY p H H'->Q (.ref t') H')->jH  vs H Q E
theorem BU{K:Za}(h:jH D H Q E):wX K ca mC (bH Q) (start xI D) H:=by
 let⟨p,c,t,l1,l2,l3,l4,ts,J0,J2,rooms,ds,rfl,hp,T,m,z3,k⟩:=h;have z4:=m.Qb;have cn:0<rooms.length:=by
  cases hq:rooms with
  |nil=>exact absurd hq m.OI
  |cons _ _=>simp
 apply⟨_,pw,t,_,pw,bj.of T.t,pw,_,_,pw,_,_,pw,_,_,pw,_,_,pw,pw,?_⟩;refine λd hd=>?_;have dp:=hp.Ry hd;have dc:=hp.Tv hd;have T1:=T.same<|ac.new (o:=.dK []) hd;have al:=hp.ex<|ac.new (o:=.dK []) hd;have an:upd H d (.dK []) d=pe (.dK<|HR []):=aa;have a7:cY p H (upd H d<|.dK []):=cY.new hd;generalize upd H d (.dK [])=H1 at T1 al an a7 ⊢;apply⟨_,pw,_,pw,_,pw,.inl ⟨l3,_,pw,.inl<|aA.of T1.a3,p,c,(rooms.map V.str).length,pw,al,by rw[am];exact z3,λlw l H2 b2 v a8 as a9 aC=>?_⟩⟩;rw[am]at v;have T2:=T1.ex al aC;have b3:=aC _ _ an dp.symm;have b4:lw≠d:=λz=>by rw[z,an]at a8;cases a8
 have co:=a9.r3 as;apply⟨l3,lw,pw,.inl ⟨⟨_,aA.of T2.a3⟩,⟨_,aA.of as⟩,?_⟩⟩;have ez:(rooms.zip l).length=rooms.length:=by rw[rG,v,zC]
 let b5:Nat->L2.St->Hp->Prop:=λi σ A=>NZ λ(x7 x8:Option V)=>N0 (σ=[pe<|.ref p,pe<|.ref t,pe<|.ref l1,pe<|.ref l2,pe<|.ref l3,pe<|.ref l4,pe<|.ref d,x7,x8,none,none]) (A d=pe (.dK<|HR<|(rooms.zip l).take i)) (A lw=pe (.lst<|l.map V.str)) (eF A p c)<|cY p H A
 refine JG (xs:=rooms.map V.str) (ys:=l.map V.str) (by rw[am,am,v]) b5
  ⟨_,_,pw,b3,as,a9,a7.trans aC⟩ (λi σ A _ zq=>by let⟨_,_,_,_,h1,_,ex⟩:=zq;exact⟨aA.of<|ex _ _ T.a3<|hp.r3 T.a3,aA.of h1⟩) ?_ ?_
 .rintro i x y σ H3 q hx hy ⟨x7,x8,rfl,G,U,aT,M⟩ hq;let⟨r,Y,rfl⟩:=bJ hx;let⟨w,hw,rfl⟩:=bJ hy;have hi:i<rooms.length:=(cx.mp Y).1;apply⟨q,_,pw,bj.of aa,pw,_,_,pw,_,_,pw,pw,?_⟩;have bd:(HR<|(rooms.zip l).take i).length<ai:=by
   unfold HR;rw[am,aP];exact ax ⋯
  apply⟨_,pw,_,pw,_,pw,d,_,pw,.inl ⟨_,.inr r,kp G hq,pw,bd,pw⟩,_,_,pw,?_,?_,?_,?_⟩
  .have hz:(rooms.zip l)[i]?=pe (r,w):=by
    rw[List.getElem?_zip_eq_some];exact⟨Y,hw⟩
   have hn:r∉((rooms.zip l).take i).map (·.1):=by
    rw[uU,zU v];intro z;let⟨j,hj⟩:=rJ z;have b6:j<i:=by
     have:=(cx.mp hj).1;rw[aP]at this;nofun
    rw[List.getElem?_take_of_lt b6]at hj;have:=uF m.RX.1 hj Y;nofun
   rw[aa,Jl hn,take_snoc hz]
  .rw[aj b4];exact kp U hq
  .exact(aT.ex<|ac.new hq).upd dp dc
  .intro b o e n;rw[aj<|ag e hd];exact kp (M _ _ e n) hq
 rintro σ H3 ⟨x7,x8,rfl,G,U,aT,M⟩;rw[am,<-ez,bC]at G;have T3:=T.ex hp M;generalize hρ:Kg (rooms.zip l)=ρ;have I:rooms.map ρ=l:=by rw[<-hρ];exact FA m.RX.1 v
 have J:∀r∈rooms,c8 (HR<|rooms.zip l) (.inr r:cD)=pe (.str<|ρ r):=λr Y=>by
  rw[<-hρ];exact FO (by rw[zU v];exact Y)
 apply⟨_,pw,l3,pw,⟨_,aA.of T3.a3⟩,λf hf=>?_⟩
 let b7:Nat->List V->Hp->Prop:=λi D A=>D=((rooms.take i).map ρ).map V.str/\ac H3 A/\A f=pe (.lst D)
 refine cW (xs:=rooms.map V.str) b7 ⟨pw,ac.new hf,aa⟩ (λi D A _ zq=>by let⟨_,S,h'⟩:=zq;exact⟨h',aA.of<|S _ _ T3.a3⟩) ?_ ?_;rotate_left
 .rintro i D A x' aX hi ⟨rfl,S,f'⟩;let⟨r,Y,rfl⟩:=bJ aX;refine gN<|oQ ?_;apply⟨_,pw,_,pw,d,.str<|ρ r,pw,.inl ⟨_,.inr r,.inl<|S _ _ G,pw,(J r<|cH Y).symm⟩,f',?_,rC hi ⟨?_,?_,aa⟩⟩
  .rw[am,am,aP];exact ax ⋯
  .rw[take_snoc Y,ay,ay];rfl
  .intro b o q;rw[aj<|ag q hf];exact S _ _ q
 rintro D H4 ⟨rfl,S4,f4⟩;rw[am,bC,I]at f4;have T4:=T3.same S4;have a0:=aT.ex S4;have b8:=S4 _ _ G;apply⟨_,pw,_,pw,.inl ⟨l3,_,pw,.inl<|aA.of T4.a3,cJ (m:=((rooms.map V.str).length:Nat)) a0 (by rw[am];nofun) (by rw[am];nofun) λr H5 r0 r1 b9 N=>⟨_,_,pw,pw,?_⟩⟩⟩;rw[am]at r1;let⟨n,rfl⟩:=i6 r0;have T5:=T4.ex a0 N;have f5:=N _ _ f4<|a0.r3 f4;have cb:=N _ _ b8 dp.symm;have bi:cY p H H5:=(M.trans<|ac.Rz S4).trans N;have c1:fQ (l.map V.str) none (pe 1)=(l.take 1).map V.str:=AT l 1;have c2:fQ (l.map V.str) (pe<|1+(n:Int)) none=(l.drop<|1+n).map V.str:=yI l<|1+n;have c3:fQ (l.map V.str) (pe 1) (pe<|1+(n:Int))=((l.drop 1).take<|1+n-1).map V.str:=Hw l (j:=1) (k:=1+n) ⋯ ⋯;apply⟨_,pw,_,pw,f,_,pw,aA.of f5,λq1 a5=>⟨_,pw,_,pw,_,pw,f,_,pw,aA.of<|kp f5 a5,λq2 a6=>⟨q1,q2,_,_,pw,pw,kp aa a6,aa,?_,λq3 bl=>⟨_,pw,_,pw,_,pw,_,pw,f,_,pw,aA.of<|kp (kp (kp f5 a5) a6) bl,λq4 bm=>⟨q3,q4,_,_,pw,pw,kp aa bm,aa,?_,λq5 O=>?_⟩⟩⟩⟩⟩
 .rw[c1,c2,am,am,aP,d_];exact eo (ax ⋯)
 .rw[c1,c2,c3,aH,am,am,am,aP,d_,aP,d_];exact eo (ax ⋯)
 rw[c1,c2,c3]at O ⊢;have m1:(l.take 1).map V.str++(l.drop<|1+n).map V.str=(l.take 1++l.drop (1+n)).map V.str:=ay.symm;have m2:(l.take 1++l.drop (1+n)).map V.str++((l.drop 1).take<|1+n-1).map V.str=(l.take 1++l.drop (1+n)++(l.drop 1).take (1+n-1)).map V.str:=ay.symm;rw[m1]at O ⊢;rw[m2];have S6:=((((ac.new (o:=.lst<|(l.take 1).map V.str) a5).trans (ac.new (o:=.lst<|(l.drop<|1+n).map V.str) (by rw[<-c1];exact a6))).trans (ac.new (o:=.lst<|(l.take 1++l.drop (1+n)).map V.str) (by rw[<-c1,<-c2];exact bl))).trans (ac.new (o:=.lst<|((l.drop 1).take<|1+n-1).map V.str) (by rw[ay,<-c1,<-c2];exact bm))).trans<|ac.new (o:=.lst<|(l.take 1++l.drop (1+n)++(l.drop 1).take (1+n-1)).map V.str) O;have B:=Bx l n;generalize l.take 1++l.drop (1+n)++(l.drop 1).take (1+n-1)=s at S6 B O ⊢;have bn:(upd (upd (upd (upd (upd H5 q1<|.lst<|(l.take 1).map V.str) q2<|.lst<|(l.drop<|1+n).map V.str) q3<|.lst<|(l.take 1++l.drop (1+n)).map V.str) q4<|.lst<|((l.drop 1).take<|1+n-1).map V.str) q5<|.lst<|s.map V.str) q5=pe (.lst<|s.map V.str):=aa;generalize(upd (upd (upd (upd (upd H5 q1<|.lst<|(l.take 1).map V.str) q2<|.lst<|(l.drop<|1+n).map V.str) q3<|.lst<|(l.take 1++l.drop (1+n)).map V.str) q4<|.lst<|((l.drop 1).take<|1+n-1).map V.str) q5<|.lst<|s.map V.str)=H6 at S6 bn ⊢;have T6:=T5.same S6;have bw:=S6 _ _ cb;apply⟨_,pw,l4,pw,⟨_,aA.of T6.a4⟩,λg hg=>?_⟩
 let cc:Nat->List V->Hp->Prop:=λi D A=>∃us:List Wv,D=us.map V.ref/\ac H6 A/\A g=pe (.lst D)/\df A us ((ds.take i).map<|xu ρ)
 refine cW (xs:=ts.map V.ref) cc ⟨[],pw,ac.new hg,aa,.nil⟩ (λi D A _ zq=>by let⟨_,_,S,h',_⟩:=zq;exact⟨h',aA.of<|S _ _ T6.a4⟩) ?_ ?_;rotate_left
 .rintro i D A x' aX hi ⟨us,rfl,S,g',hP⟩;let⟨u,hu,rfl⟩:=dq aX;let⟨L,b0,b1⟩:=Paired.getL T6.ds hu;let⟨sb,ce,ch⟩:=b1.kt<|ac.kt S;have ab:=cH b0;have ci:=J L.a (m.good L ab).a;have ck:=J L.b (m.good L ab).b;apply⟨u,_,pw,bj.of ce,pw,_,_,pw,_,_,pw,_,_,pw,pw,?_⟩;refine oQ ?_;apply⟨_,pw,_,pw,d,.str<|ρ L.a,pw,.inl ⟨_,.inr L.a,.inl<|S _ _ bw,pw,ci.symm⟩,_,pw,_,pw,_,pw,d,.str<|ρ L.b,pw,.inl ⟨_,.inr L.b,.inl<|S _ _ bw,pw,ck.symm⟩,Q3,λw hw=>⟨kp g' hw,?_,rC hi ⟨us++[w],by rw[ay];rfl,?_,aa,?_⟩⟩⟩
  .rw[am,Paired.length hP,am,aP];exact ax ⋯
  .intro b o q;rw[aj<|ag q hg];exact kp (S _ _ q) hw
  .rw[take_snoc b0,ay];have hk:g_ A (upd (upd A w<|.tup [.str<|ρ L.a,.ref sb,.str<|ρ L.b]) g<|.lst<|us.map V.ref++[.ref w]):=(ac.kt<|ac.new hw).trans<|dO<|kp g' hw;refine dI (hP.kt hk) ⟨sb,?_,hk _ _ ch⟩;exact(dO<|kp g' hw) _ _ aa
 rintro D H7 ⟨us,rfl,S7,g7,hP⟩;rw[am,Paired.length T.ds,bC]at hP;have T7:=T6.same S7;have cl:=(b9.ex S6).ex S7;have cm:cY p H H7:=bi.trans<|ac.Rz<|S6.trans S7;apply⟨_,pw,_,pw,_,pw,_,pw,Q4,λt' C=>k t' q5 g us s ρ _ ⟨aa,kp T7.a1 C,kp T7.a2 C,kp (S7 _ _ bn) C,kp g7 C,hP.kt<|ac.kt<|ac.new C⟩ (m.renamed b2 I B) (by rw[I];exact B) (cl.ex<|ac.new C)<|cm.trans<|cY.new C⟩
inductive ut (vs:List V)(H:Hp)(Q:VK)(E:XK):Prop
 |mk (p c t l1 l2 l3 l4:Wv) (ts:Ze) (J0 J2 rooms:Zb) (ds:List ak) (n:Nat):(vs=[.ref p,.ref t,.int (n:Nat)])->eF H p c->eD H t l1 l2 l3 l4 ts J0 J2 rooms ds->aE J0 J2 rooms ds->rooms.length<=26->ds.length<=650->n<=8->(∀(t' Va SE:Wv) (RU:Ze) (OA:Zb) (Qc:List ak) (H':Hp),eD H' t' l1 l2 Va SE RU J0 J2 OA Qc->aE J0 J2 OA Qc->(∀r∈OA,∀a∈J0,kS Qc r a)->OA.length=rooms.length->Qc.length<=ds.length+n+4 * rooms.length->eF H' p c->cY p H H'->Q (.ref t') H')->ut  vs H Q E
theorem KG{K:Za}(h:ut vs H Q E):Dv K ca jH lh nu uw (bH Q) (start EU vs) H:=by
 let⟨p,c,t,U,Y,D,l4,ts,G,I,rooms,ds,n,rfl,hp,T,m,z3,z4,zn,k⟩:=h;apply⟨_,pw,p,c,pw,hp,λH1 J L=>?_⟩;have T1:=T.ex hp L;apply⟨_,pw,_,pw,_,_,pw,pw,cJ J ⋯ ⋯ λx H2 x0 x1 ab M=>?_⟩;have T2:=T1.ex J M;apply⟨x,pw,by nofun,by nofun,?_⟩
 let al:Nat->L2.St->Hp->Prop:=λi σ H'=>Vr λ(C g:Wv) (j:Ze) (e:List ak) (x3:Option V)=>Ol (σ=[pe<|.ref p,pe<|.ref C,pe<|.int (n:Nat),x3]) (eD H' C U Y D g j G I rooms e) (aE G I rooms e) (e.length<=ds.length+i) (eF H' p c)<|cY p H H'
 refine kM (lo:=0) (n:=x.toNat) al
  ⟨t,l4,ts,ds,_,pw,T2,m,aB _,ab,L.trans M⟩ ?_ ?_
 .rintro i σ H3 hi ⟨C,g,j,e,x3,rfl,T3,m3,z,A,l⟩;apply⟨_,pw,_,pw,p,c,C,U,Y,D,g,j,G,I,rooms,e,pw,A,T3,m3,by nofun,λt2 o q s H4 T4 m4 z4 u v=>?_⟩;exact⟨t2,o,q,s,_,pw,T4,m4,by nofun,u,l.trans v⟩
 .rintro σ H3 ⟨C,g,j,e,x3,rfl,T3,m3,z,A,l⟩;apply⟨_,pw,_,pw,p,c,C,U,Y,D,g,j,G,I,rooms,e,pw,A,T3,m3,z3,by nofun,λt2 o q s H4 T4 m4 N zw u v=>?_⟩;apply⟨_,pw,cJ u WE WE λw H5 w0 w1 O B=>⟨pw,_,pw,?_⟩⟩;have T5:=T4.ex u B;refine kb (λ_=>?_)<|λ_=>?_
  .refine⟨_,pw,_,pw,p,c,t2,U,Y,D,o,q,G,I,rooms,s,pw,O,T5,m4,z3,λt3 an as aC y f H6 T6 m6 pr aT aX=>⟨_,pw,?_⟩⟩;refine k t3 an as aC y _ H6 T6 m6 (λr hr a ha=>?_) (by rw[pr.length_eq,am]) (by rw[am];nofun) aT<|((l.trans v).trans B).trans aX;let⟨r0,a0,rfl⟩:=aV.1<|pr.mem_iff.1 hr;exact(N r0 a0 a ha).UQ
  .exact⟨_,pw,k t2 D o q rooms s H5 T5 m4 N rfl ⋯ O<|(l.trans v).trans B⟩
abbrev LP:=(List WD×List WD)×List Sg
abbrev Wu:=List WD×List WD
open Builtin.Int (intBits)
def bB:Nat->Nat
 |0=>1
 |d+1=>5 * bB d+7
def pi(H:Hp)(a:Wv):Hp:=λb=>if b=a then none else H b
theorem nN(H:Hp)(a:Wv):pi H a a=none:=if_pos rfl
theorem nO(h:b≠a):pi H a b=H b:=if_neg h
theorem i5:ac (pi H a) H:=λb o e=>by
 by_cases c:b=a
 .rw[c,nN]at e;cases e
 .rw[nO c]at e;exact e
def fH(J2:Zb):Option WD->List Sg
 |none=>J2.map kH++[cz]
 |some a=>cX a::J2.map kH
theorem yd(e:Zb)(ask:Option WD):(fH e ask).length=e.length+1:=by
 cases ask with
 |none=>unfold fH;rw[aH,am];rfl
 |some a=>unfold fH;rw[da,am]

mutual
def eE(K:Za)(H:Hp):DT->V->Prop
 |.k a,v=>v=kV a
 |.t l,v=>∃b xs,v=.ref b/\bN K H b xs/\Ql K H l xs
 |.s _,_=>False
def Ql(K:Za)(H:Hp):List DT->List V->Prop
 |[],vs=>vs=[]
 |k::r,vs=>∃v us,vs=v::us/\eE K H k v/\Ql K H r us
end
mutual
theorem eE.kt{K:Za}(k:g_ H a):∀(d:DT) (v:V),eE K H d v->eE K a d v
 |.k _,_,h=>h
 |.t l,v,h=>by
  let⟨b,xs,e,t,r⟩:=h;exact⟨b,xs,e,bN.kt k t,Ql.kt k l xs r⟩
 |.s _,_,h=>h
theorem Ql.kt{K:Za}(k:g_ H f):∀(l:List DT) (a:List V),Ql K H l a->Ql K f l a
 |[],_,h=>h
 |d::r,a,h=>by
  let⟨v,g,e,t,q⟩:=h;exact⟨v,g,e,eE.kt k d v t,Ql.kt k r g q⟩
end
mutual
theorem eE.SS{K:Za}:∀(d:DT) (v:V),eE K H d v->gE K H d v
 |.k _,_,h=>h
 |.t l,v,h=>by
  let⟨b,xs,e,t,r⟩:=h;exact⟨b,xs,e,bN.sq t,Ql.SS l xs r⟩
 |.s _,_,h=>h.elim
theorem Ql.SS{K:Za}:∀(l:List DT) (a:List V),Ql K H l a->wh K H l a
 |[],_,h=>h
 |d::r,a,h=>by
  let⟨v,f,e,t,q⟩:=h;exact⟨v,f,e,eE.SS d v t,Ql.SS r f q⟩
end
abbrev l9(K:Za)(H:Hp)(vs:List V)(ps:List DT):Prop:=Paired (λv d=>eE K H d v) vs ps
theorem l9.kt{K:Za}(k:g_ H a)(h:l9 K H e f):l9 K a e f:=Paired.OJ h λv d r=>eE.kt k d v r
theorem l9.all{K:Za}(f:l9 K H vs e):Ql K H e vs:=by
 have h:Paired (λv d=>eE K H d v) vs e:=f;clear f
 induction h with
 |nil=>rfl
 |cons a _ g=>exact⟨_,_,pw,a,g⟩
theorem ni{K:Za}(s:WD):eE K H (dJ s) (.str s):=rfl
def iu:Sg:=["blame"]
def fJ:Sg:=["end"]
theorem sr{K:Za}:∀{a:Sg},bN K H b (a.map V.str)->eE K H (iB a) (.ref b):=fun{a} h=>by
 apply⟨b,_,pw,h,?_⟩;clear h
 induction a with
 |nil=>rfl
 |cons s r e=>exact⟨_,_,pw,ni s,e⟩
def kJ(w:WD)(d:DT):DT:=.t [dJ w,d]
def cI(J2:Zb):Option WD->List DT->DT
 |none,ps=>.t [dJ "wait",.t<|iC kJ J2<|ps.take J2.length,(ps[J2.length]?).getD<|iB fJ]
 |some a,ps=>.t [dJ "tell",dJ a,(ps[0]?).getD<|iB fJ,.t<|iC kJ J2<|ps.drop 1]
theorem yJ{K:Za}(A:xs.length<=ys.length)(Pv:Nat->List V->Hp->Prop)(B:Pv 0 []<|upd s l<|.lst [])(m:∀i e H,i<=xs.length->Pv i e H->H l=pe (.lst e)/\aA K H a xs/\aA K H b ys)(C:∀e H,Pv xs.length e H->Q H)(D:∀i e H x y p,xs[i]?=pe x->ys[i]?=pe y->i<xs.length->Pv i e H->H p=none->g (.ref p) (dA k o σ) (upd H p<|.tup [x,y]) fun σ2 E=>q σ2 E λb w =>
   if b=true then r σ2 w λv z=>z l=pe (.lst e)/\e.length<ai/\∃f,f<xs.length-i/\Wc xs.length Pv (i+1) f (e++[v]) (upd z l<|.lst<|e++[v])else ∃f,f<xs.length-i/\Wc xs.length Pv (i+1) f e w) :
  fA k o σ (M_ K a b) g q r s l Q:=by
 refine kR xs.length Pv B (λi e H hi p=>(m i e H hi p).1) (λi e H hi p=>?_) (λe H p=>?_) λi e H x L hi p y=>?_
 .obtain⟨_,h,j⟩:=m i e H (eo hi) p;have n:i<ys.length:=by nofun
  exact⟨xs,ys,xs[i],ys[i],h,j,by simp[hi],by simp[n]⟩
 .obtain⟨_,h,j⟩:=m _ e H (aB _) p;exact⟨⟨xs,ys,h,j,.inl<|aB _⟩,C e H p⟩
 .obtain⟨_,h,j⟩:=m i e H (eo hi) p;let⟨t,u,v,rfl,G,I,J,rfl⟩:=y;exact D i e H u v t (I xs h) (J ys j) hi p G
theorem Hy(xs:List V):fQ xs none (pe (-1))=xs.take (xs.length-1):=by
 unfold fQ;have a:HT.Hx xs.length 0 none=0:=rfl;have e:HT.Hx xs.length xs.length (pe (-1))=xs.length-1:=by unfold HT.Hx;simp;nofun
 rw[a,e];rfl
theorem Gf{xs:List V}(a:n+1=xs.length)(h:xs[n]?=pe v):A5 xs (-1)=pe v:=by
 have e:xs=xs.take n++[v]:=by rw[<-take_snoc h,a,bC]
 rw[e];exact wz _ _
theorem jE(h:e[a.length]?=pe d):cI a none e=.t [dJ "wait",.t<|iC kJ a<|e.take a.length,d]:=by
 show DT.t [_,_,(e[a.length]?).getD _]=_;rw[h];rfl
theorem jD(h:e[0]?=pe d):cI f (pe a) e=.t [dJ "tell",dJ a,d,.t<|iC kJ f<|e.drop 1]:=by
 show DT.t [_,_,(e[0]?).getD _,_]=_;rw[h];rfl
open Builtin.Int (intBits)
theorem eF.Te(h:eF H p c)(e:p≠a)(f:c≠a):eF (pi H a) p c:=by
 let⟨x,r,g,i⟩:=h;apply⟨x,r,g,?_⟩;cases i;constructor<;>first|assumption|(rw[nO e];assumption)|(rw[nO f];assumption)
def GA(K:Za):TS :=
 be (kB (aD kW (dj (dg K)<|av V0)<|tC<|.int 4)<|aD kW (aD (cu K) V0<|tC<|.int 0)<|tC<|.str "tell")
def HJ:List WD:=["trial"]
def Gz(K:Za):TS :=
 be (kB (aD kW (dj (dg K)<|av V0)<|tC<|.int 3)<|aD kW (aD (cu K) V0<|tC<|.int 0)<|tC<|.str "wait")
def HI:List WD:=["trial"]
def sv(K:Za):TS :=
 be (dE 2 [] (MU K V0) (gC K 2<|aS U0<|aS U1<|gh) (jc)<|aU<|aM (aU<|aq (tC<|.str "say")<|av V0) V1)
def tj:List WD:=["pairs"]
def vp(K:Za)(PM:Sp)(OW:Sp)(OD:Wv)(PN:Sp):TS :=
 ar (bS (tB<|aI PN<|av V0) (be<|aD xA (cK<|aq (aU<|aq (aU<|aM (tC<|.str "ask")<|aD (cu K) V0<|tC<|.int 1)<|av<|aD (cu K) V0<|tC<|.int 2) bx)<|aI OW<|av<|aD (cu K) V0<|tC<|.int 3)<|bf)
 (ar (bS (tB<|aI PM<|av V0) (be<|aD xA (aI OW<|av<|aD (cu K) V0<|tC<|.int 1)<|cK<|aq (aU<|aM (tC<|.ref OD)<|aD (cu K) V0<|tC<|.int 2) bx)<|bf)
 (be<|cK<|bx))
def wA:List WD:=["trial"]
def vq(K:Za)(Qo:Sp):TS :=
 ar (aL (cK<|bx) U3)
 (ar (fF (v4 K<|av<|aI Qo<|av V2) (gC K 2<|aS U4<|aS U5<|gh) (ar (aL V5<|gC K 2<|aS U6<|aS U7<|gh)
 (cy<|Bl K "list" eP V3<|aq (aU<|bY (aD (FE K) V0<|aU<|av V4) (aD xA V1<|cK<|av V6) V7) bx)))
 (be V3))
def wB:List WD:=["way","story","trial","behind","number","signed","sign","part"]
def By(K:Za)(Qp:Sp):TS :=
 ar (aL (cK<|bx) U1)
 (ar (aL (cK<|av<|aU<|bY (aU<|bx) (cK<|bx) V0) U2)
 (ar (sD (aQ<|aD G_ (dj (dg K)<|av V2)<|tC<|.int 0) (ar (aL (DN K "list" G7 V2)<|gC K 3<|aS U3<|aS U4<|aS U5<|gh)
 (ar (cy<|Bl K "list" eP V1<|av<|aU<|bY V3 V4 V5)
 (ar (fF (NQ K<|av<|aI Qp<|bY V3 V4 V5) U6<|cy<|Bl K "list" eP V2<|av V6)
 (bS (Fw (aQ<|aD kW (dj (dg K)<|av V3)<|tC<|.int 8)<|aQ<|aD G_ (aD fh (dj (dg K)<|av V1)<|dj (dg K)<|av V2)<|tC<|.int 1000) (DA)<|bf)))))
 (be V1)))
def C3:List WD:=["trial","found","waiting","way","story","here","one"]
def nR(K:Za)(rk:Wv)(Ov:Sp):TS :=
 be (aD (mF K) (dE 2 [] (MU K V1) (gC K 2<|aS U0<|aS U1<|gh) (jc) V0)<|gy rk "says" Ov [] E0 V0 bx)
def n6:List WD:=["M","pairs"]
def pV(K:Za)(OE:Wv)(Pw:Wv)(PM:Sp)(OH:Sp)(PN:Sp)(rk:Wv)(C':Sp):TS :=
 ar (bS (tB<|aI PN<|av V1) (be<|kB (aD (qF K false) (aD (cu K) V1<|tC<|.int 1)<|gy rk "asks" C' [] E0 V0 bx)<|aI OH<|aM V0<|aD (cu K) V1<|tC<|.int 3)<|bf)
 (ar (bS (tB<|aI PM<|av V1) (be<|aI OH<|aM V0<|aD (cu K) V1<|tC<|.int 1)<|bf)
 (be<|Nw (aD (mF K) V1<|tC<|.ref Pw)<|aD (mF K) V1<|tC<|.ref OE))
def rp:List WD:=["M","trial"]
def n8:List WD:=["M","trial","found","way","story","here"]
inductive Tr where
 |bl
 |en
 |nd (a:Option WD) (ps:List Tr)
mutual
def Tr.dt(J2:Zb):Tr->DT
 |.bl=>iB iu
 |.en=>iB fJ
 |.nd a ps=>cI J2 a<|Tr.OY J2 ps
def Tr.OY(J2:Zb):List Tr->List DT
 |[]=>[]
 |t::r=>Tr.dt J2 t::Tr.OY J2 r
end
theorem Tr.Kx(a:Zb):∀l:List Tr,Tr.OY a l=l.map (Tr.dt a)
 |[]=>rfl
 |t::r=>by rw[Tr.OY,Tr.Kx a r];rfl
mutual
def Tr.wf(J0 J2:Zb):Tr->Prop
 |.bl=>True
 |.en=>True
 |.nd a ps=>ps.length=J2.length+1/\(∀w,a=pe w->w∈J0)/\Tr.QU J0 J2 ps
def Tr.QU(J0 J2:Zb):List Tr->Prop
 |[]=>True
 |t::r=>Tr.wf J0 J2 t/\Tr.QU J0 J2 r
end
theorem Tr.P0:∀{l:List Tr},Tr.QU a e l↔∀t∈l,Tr.wf a e t
 |[]=>by simp[Tr.QU]
 |t::r=>by
  rw[Tr.QU,Tr.P0 (l:=r)];simp
mutual
def Tr.P4:Tr->Nat
 |.bl=>0
 |.en=>0
 |.nd _ ps=>Tr.OT ps+1
def Tr.OT:List Tr->Nat
 |[]=>0
 |t::r=>max t.P4<|Tr.OT r
end
def Mq:Nat->Nat
 |0=>1
 |h+1=>1+5 * Mq h
theorem l9.of{K:Za}:∀{e:List DT}{a:List V},Ql K H e a->l9 K H a e
 |[],a,h=>by
  have h:a=[]:=h;rw[h];exact .nil
 |p::e,a,h=>by
  let⟨v,i,rfl,f,g⟩:=h;exact .cons f<|l9.of g
inductive lp(K:Za)(n:Nat)(w:WD)(vs:List V)(H:Hp)(Q:VK)(E:XK):Prop
 |mk (v:V) (s:WD) (r:List DT):vs=[v]->(eE K H (.t (dJ s::r)) v)->Q (.bl (decide (r.length+1=n) && decide (s=w))) H->lp K n w vs H Q E
theorem F0{xs:List V}{r:List DT}(h:xs.length=r.length+1):decide (V.int (xs.length:Nat)=V.int (n:Nat))=decide (r.length+1=n):=by
 rw[h];exact decide_eq_decide.2 ⟨λz=>by injection z with z;nofun,λz=>by rw[z]⟩
theorem P':decide (V.str s=V.str w)=decide (s=w):=decide_eq_decide.2 ⟨λz=>by injection z,λz=>by rw[z]⟩
theorem GW{K:Za}(h:lp K 4 "tell" e H Q E):GA K (bH Q) (start HJ e) H:=by
 let⟨v,s,r,rfl,⟨b,xs,rfl,f,hx⟩,k⟩:=h;have g:=l9.of hx;have i:=Paired.length g;let⟨y,l,rfl,a,_⟩:=hx;have a:y=V.str s:=a;subst a;apply⟨_,pw,.inl ⟨b,_,pw,.inr<|bN.sq f,pw,_,pw,?_⟩⟩;rw[show decide (V.int ((V.str s::l).length:Nat)=V.int 4)=decide (r.length+1=4)from F0 (n:=4) i];by_cases c:r.length+1=4
 .rw[qh c]at k ⊢;refine bo ⟨_,pw,b,_,0,.str s,pw,pw,bN.sq f,bA (j:=0) rfl,pw,?_⟩;rw[P'];exact k
 .rw[qb c]at k ⊢;exact aY k
theorem GV{K:Za}(h:lp K 3 "wait" e H Q E):Gz K (bH Q) (start HI e) H:=by
 let⟨v,s,r,rfl,⟨b,xs,rfl,f,hx⟩,k⟩:=h;have g:=l9.of hx;have i:=Paired.length g;let⟨y,l,rfl,a,_⟩:=hx;have a:y=V.str s:=a;subst a;apply⟨_,pw,.inl ⟨b,_,pw,.inr<|bN.sq f,pw,_,pw,?_⟩⟩;rw[show decide (V.int ((V.str s::l).length:Nat)=V.int 3)=decide (r.length+1=3)from F0 (n:=3) i];by_cases c:r.length+1=3
 .rw[qh c]at k ⊢;refine bo ⟨_,pw,b,_,0,.str s,pw,pw,bN.sq f,bA (j:=0) rfl,pw,?_⟩;rw[P'];exact k
 .rw[qb c]at k ⊢;exact aY k
def Lv(K:Za)(H:Hp)(q:Wv)(p:Sg×DT):Prop:=∃s v,H q=pe (.tup [.ref s,v])/\bN K H s (p.1.map V.str)/\eE K H p.2 v
theorem Lv.kt{K:Za}(k:g_ H a)(h:Lv K H q p):Lv K a q p:=by
 let⟨s,v,e,f,g⟩:=h;exact⟨s,v,k _ _ e,bN.kt k f,eE.kt k _ _ g⟩
abbrev mV(K:Za)(H:Hp)(qs:Ze)(L:List<|Sg×DT):Prop:=Paired (Lv K H) qs L
theorem mV.kt{K:Za}{H a:Hp}{qs:Ze}{L:List (Sg×DT)}(k:g_ H a)(h:mV K H qs L):mV K a qs L:=Paired.OJ h λ_ _ r=>r.kt k
inductive iR(K:Za)(vs:List V)(H:Hp)(Q:VK)(E:XK):Prop
 |mk (v:V) (ws:Zb) (ps:List DT):vs=[v]->eE K H (.t (iC kJ ws ps)) v->ws.length=ps.length->ws.length<=1000->(∀(l:Wv) (qs:Ze) (H':Hp),H' l=pe (.lst (qs.map V.ref))->mV K H' qs ((ws.map kH).zip ps)->ac H H'->Q (.ref l) H')->iR K vs H Q E
theorem As{K:Za}(h:iR K O H Q E):sv K (bH Q) (start tj O) H:=by
 let⟨v,A,T,rfl,⟨b,xs,rfl,U,hx⟩,zl,z,k⟩:=h;have Y:=l9.of hx;have hl:=Paired.length Y;rw[yZ]at hl;apply⟨_,pw,b,pw,⟨_,bN.sq U⟩,λl m=>?_⟩
 let B:Nat->List V->Hp->Prop:=λi n g=>∃qs:List Wv,n=qs.map V.ref/\ac H g/\g l=pe (.lst n)/\mV K g qs (((A.take i).map kH).zip<|T.take i)
 refine CS (xs:=xs) B ⟨[],pw,ac.new m,aa,.nil⟩ (λi n g _ zq=>by let⟨_,_,S,C,_⟩:=zq;exact⟨C,bN.sq<|bN.kt (ac.kt S) U⟩) ?_ ?_
 .rintro n g ⟨qs,rfl,S,C,r⟩;have e1:xs.length=A.length:=by nofun
  rw[e1,bC,zl,bC]at r;exact k l qs g C r S
 .rintro i n a x D hi ⟨qs,rfl,S,h1,r⟩;obtain⟨d,hd⟩:∃d,T[i]?=pe d:=⟨_,dH ⋯⟩;obtain⟨w,hw⟩:∃w,A[i]?=pe w:=⟨_,dH ⋯⟩;let⟨y,u,s⟩:=Paired.getL Y D;rw[List.getElem?_zipWith,hw,hd]at u;injection u with u;rw[<-u]at s;let⟨c,ab,rfl,hc,x1,al,rfl,G,j,I,rfl,J,L⟩:=s;have L:I=[]:=L;subst L;cases G;have M:=bN.kt (ac.kt S) hc;apply⟨c,_,pw,bN.sq M,pw,_,_,pw,_,_,pw,pw,oQ ?_⟩;apply⟨_,pw,Q2,λp N=>⟨_,pw,Q2,λq t=>?_⟩⟩;have S2:=ac.new (o:=.tup [.str "say",.str w]) N;have p2:upd a p (.tup [.str "say",.str w]) p=pe (.tup<|(kH w).map V.str):=aa
  change upd a p (.tup [.str "say",.str w]) q=none at t
  have S3:ac (upd a p<|.tup [.str "say",.str w]) (upd (upd a p<|.tup [.str "say",.str w]) q<|.tup [.ref p,j]):=ac.new t;have q3:=WI (upd a p<|.tup [.str "say",.str w]) q (.tup [.ref p,j]);have p3:=S3 _ _ p2;have f:=S2.trans S3;have h3:=f _ _ h1;apply⟨h3,?_,rC hi ⟨qs++[q],by rw[ay];rfl,λb o e=>?_,aa,?_⟩⟩
  .rw[am,Paired.length r,rG,am,aP];exact ax ⋯
  .rw[aj<|ag e m];exact f _ _<|S _ _ e
  .have kt:g_ (upd (upd a p<|.tup [.str "say",.str w]) q<|.tup [.ref p,j]) (upd (upd (upd a p<|.tup [.str "say",.str w]) q<|.tup [.ref p,j]) l<|.lst<|qs.map V.ref++[.ref q]):=dO h3;rw[take_snoc hw,take_snoc hd,ay,List.zip_append (by rw[am,aP,aP];nofun)];refine dI (mV.kt (λb xs e=>kt _ _<|ac.kt f _ _ e) r) ?_;exact⟨p,j,kt _ _ q3,.inl<|kt _ _ p3,eE.kt (λb xs e=>kt _ _<|ac.kt (S.trans f) _ _ e) _ _ J⟩
def lc(w:List Nat):List V:=w.map λ(n:Nat)=>V.int n
theorem Lo{K:Za}(l:H f=pe (.tup<|lc a))(h:H e=pe (.tup [.int (i:Nat)]))(n:a.length<=999)(k:∀(j:Wv) (g:Hp),g j=pe (.tup<|lc<|a++[i])->ac H g->R (.ref j) g):FE K (.ref f) (.ref e) H R:=by
 apply⟨f,e,_,_,pw,pw,bj.of l,bj.of h,(by intro z;cases z),?_,λz=>?_,λz p m=>?_⟩
 .have:(lc a).length=a.length:=am _;rw[this];exact eo (ax (by show _+1<=1000;nofun))
 .have:a=[]:=oA.1 z;subst this;exact k e H h<|ac.refl _
 .refine k p _ ?_<|ac.new m;rw[aa];unfold lc;rw[ay];rfl
def J8(H:Hp)(c:Wv)(H' J:Hp):Prop:=(∀b o,H' b=pe o->H b=none->b≠c->J b=pe o)/\g_ H' J
def qS(H:Hp)(f w:Wv):Hp:=λb=>if b=f∨b=w then none else H b
theorem AN(a:b≠f)(e:b≠w):qS H f w b=H b:=if_neg (by rintro(z|z)<;>contradiction)
theorem yv(h:qS H f w b=pe o):b≠f/\b≠w/\H b=pe o:=by
 unfold qS at h;split at h
 .cases h
 .next c=>exact⟨λz=>c<|.inl z,λz=>c<|.inr z,h⟩
theorem yy:ac (qS H f w) H:=λb o e=>(yv e).2.2
theorem La(S:ac H a):ac (qS H f w) (qS a f w):=λb o e=>by
 let⟨g,h,i⟩:=yv e;rw[AN g h];exact S _ _ i
theorem Hq:qS (upd H f o) f w=qS H f w:=funext λb=>by
 unfold qS;split
 .rfl
 .next c=>exact aj λz=>c<|.inl z
theorem yu:qS (upd H w o) f w=qS H f w:=funext λb=>by
 unfold qS;split
 .rfl
 .next c=>exact aj λz=>c<|.inr z
def Qg(H0 G:Hp):Hp:=λb=>open Classical in if ∃xs,H0 b=pe (.lst xs)then none else G b
theorem Ho(h:a b=none):Qg a G b=G b:=if_neg λ⟨xs,e⟩=>by rw[h]at e;cases e
theorem yr(h:Qg a G b=pe o):(∀xs,a b≠pe (.lst xs))/\G b=pe o:=by
 unfold Qg at h;split at h
 .cases h
 .next c=>exact⟨λxs e=>c ⟨xs,e⟩,h⟩
theorem FV(h:∀xs,a b≠pe (.lst xs)):Qg a G b=G b:=if_neg λ⟨xs,e⟩=>h xs e
theorem yt:ac (Qg a G) G:=λb o e=>(yr e).2
theorem FU(S:ac G f):ac (Qg a G) (Qg a f):=λb o e=>by
 let⟨g,h⟩:=yr e;rw[FV g];exact S _ _ h
noncomputable abbrev OC(H0 H:Hp)(f w:Wv):Hp:=Qg H0<|qS H f w
theorem AM(e:a b=none)(g:b≠f)(h:b≠w):OC a H f w b=H b:=(Ho e).trans<|AN g h
theorem sW:ac (OC a H f w) H:=yt.trans yy
theorem FW(S:ac H e):ac (OC a H f w) (OC a e f w):=FU<|La S
inductive Gt where
 |lf (w:WD)
 |nd (a:Option WD) (ws:Zb) (ps:List Gt)
mutual
def Gt.dt:Gt->DT
 |.lf w=>iB [w]
 |.nd a ws ps=>cI ws a<|Gt.OY ps
def Gt.OY:List Gt->List DT
 |[]=>[]
 |t::r=>Gt.dt t::Gt.OY r
end
theorem Gt.Kx:∀l:List Gt,Gt.OY l=l.map Gt.dt
 |[]=>rfl
 |t::r=>by rw[Gt.OY,Gt.Kx r];rfl
mutual
def Gt.wf:Gt->Prop
 |.lf _=>True
 |.nd a ws ps=>ps.length=ws.length+1/\ws.length<=4/\Gt.QU ps
def Gt.QU:List Gt->Prop
 |[]=>True
 |t::r=>Gt.wf t/\Gt.QU r
end
theorem Gt.P0:∀{l:List Gt},Gt.QU l↔∀t∈l,Gt.wf t
 |[]=>by simp[Gt.QU]
 |t::r=>by
  rw[Gt.QU,Gt.P0 (l:=r)];simp
structure Eg where
 way:List Nat
 story:List Sg
 tr:Gt
mutual
def eR(w:List Nat)(s:List Sg):Gt->List Eg
 |.lf v=>[⟨w,s,.lf v⟩]
 |.nd a ws ps=>⟨w,s,.nd a ws ps⟩::Pe w s (fH ws a) 0 ps
def Pe(w:List Nat)(s:List Sg)(sgs:List Sg)(i:Nat):List Gt->List Eg
 |[]=>[]
 |p::ps=>eR (w++[i]) (s++(sgs.take 1)) p++Pe w s (sgs.drop 1) (i+1) ps
end
def qP(w:List Nat)(s:List Sg)(sgs:List Sg)(i:Nat):List Gt->List Eg
 |[]=>[]
 |p::ps=>⟨w++[i],s++sgs.take 1,p⟩::qP w s (sgs.drop 1) (i+1) ps
def sU(e:Eg):List Eg :=
 match e.tr with
 |.nd a ws ps=>qP e.way e.story (fH ws a) 0 ps
 |_=>[]
def sL(e:Eg):List Eg:=eR e.way e.story e.tr
theorem vQ(w:List Nat)(s:List Sg):∀(e:List Gt) (a:List Sg) (i:Nat),Pe w s a i e=(qP w s a i e).flatMap sL
 |[],_,_=>rfl
 |p::e,a,i=>by
  rw[Pe,vQ w s e];show _=List.flatMap _ (_::_);rw[List.flatMap_cons];rfl
theorem x_(e:Eg):sL e=e::(sU e).flatMap sL:=by
 let⟨w,s,t⟩:=e;unfold sL sU;cases t with
 |lf v=>rfl
 |nd a f g =>
  show _::Pe w s (fH f a) 0 g=_;rw[vQ];rfl
theorem I0(e:Eg):0<(sL e).length:=by rw[x_];exact Nat.succ_pos _
theorem CD:∀{f:List Gt}{a:List Sg}{i:Nat},(∀p∈f,Gt.wf p)->∀e∈qP w s a i f,Gt.wf e.tr
 |[],_,_,_,e,he=>by cases he
 |p::f,a,i,h,e,he=>by
  obtain rfl|he:=b_.1 he
  .exact h p cF
  .exact CD (λq g=>h q<|de _ g) e he
theorem K8(h:Gt.wf e.tr):∀k∈sU e,Gt.wf k.tr:=by
 let⟨w,s,t⟩:=e;cases t with
 |lf v=>intro k f;cases f
 |nd a i j =>
  let⟨_,_,g⟩:=h;exact CD<|Gt.P0.1 g
mutual
def Gt.P4:Gt->Nat
 |.lf _=>0
 |.nd _ _ ps=>Gt.OT ps+1
def Gt.OT:List Gt->Nat
 |[]=>0
 |t::r=>max t.P4<|Gt.OT r
end
mutual
theorem Cb{P:Sg->Prop}(l:∀f a,∀g∈fH f a,P g):∀(t:Gt) (w:List Nat) (s:List Sg),Gt.wf t->(∀g∈s,P g)->s.length<=w.length->∀e∈eR w s t,e.way.length<=w.length+t.P4/\e.story.length<=e.way.length/\(∀g∈e.story,P g)/\Gt.wf e.tr
 |.lf v,w,s,i,h,j,e,he=>by rw[dF.1 he];exact⟨Nat.le_add_right _ _,j,h,i⟩
 |.nd a f k,w,s,i,h,j,e,he=>by
  obtain rfl|he:=b_.1 he
  .exact⟨Nat.le_add_right _ _,j,h,i⟩
  .have:=Rg l k w s (fH f a) 0 i.2.2 h (l f a) j e he;have m:(Gt.nd a f k).P4=Gt.OT k+1:=rfl;exact⟨by nofun,this.2⟩
theorem Rg{P:Sg->Prop}(l:∀o a,∀f∈fH o a,P f):∀(j:List Gt) (w:List Nat) (s g:List Sg) (i:Nat),Gt.QU j->(∀f∈s,P f)->(∀f∈g,P f)->s.length<=w.length->∀e∈Pe w s g i j,e.way.length<=w.length+1+Gt.OT j/\e.story.length<=e.way.length/\(∀f∈e.story,P f)/\Gt.wf e.tr
 |[],_,_,_,_,_,_,_,_,e,he=>by cases he
 |p::j,w,s,g,i,m,h,n,r,e,he=>by
  have u:Gt.OT (p::j)=max p.P4 (Gt.OT j):=rfl;have t:(w++[i]).length=w.length+1:=by rw[aH];rfl
  obtain he|he:=bp.1 he
  .have:=Cb l p (w++[i]) (s++g.take 1) m.1 (λf k=>(bp.1 k).elim (h f) λq=>n f<|j5 q) (by rw[t,aH,aP];nofun) e he;exact⟨by nofun,this.2⟩
  .have:=Rg l j w s (g.drop 1) (i+1) m.2 h (λf k=>n f<|y4 k) r e he;exact⟨by nofun,this.2⟩
end
mutual
theorem Cc:∀(h:Nat) (t:Gt) (w:List Nat) (s:List Sg),Gt.wf t->t.P4<=h->(eR w s t).length<=Mq h
 |0,.lf _,_,_,_,_=>aB _
 |0,.nd a g e,_,_,_,f=>absurd f (by show ¬Gt.OT e+1<=0;nofun)
 |h+1,.lf _,_,_,_,_=>by show 1<=1+_;nofun
 |h+1,.nd a g e,w,s,i,f=>by
  let⟨k,z,j⟩:=i;have f:Gt.OT e+1<=h+1:=f;have:=Rh h e w s (fH g a) 0 j ⋯;show(Pe w s (fH g a) 0 e).length+1<=1+5 * Mq h;have:e.length * Mq h<=5 * Mq h:=Nat.mul_le_mul_right _ ⋯;nofun
theorem Rh:∀(h:Nat) (e:List Gt) (w:List Nat) (s a:List Sg) (i:Nat),Gt.QU e->Gt.OT e<=h->(Pe w s a i e).length<=e.length * Mq h
 |h,[],_,_,_,_,_,_=>cw _
 |h,p::e,w,s,a,i,f,g=>by
  have j:Gt.OT (p::e)=max p.P4 (Gt.OT e):=rfl;have k:=Cc h p (w++[i]) (s++a.take 1) f.1 ⋯;have l:=Rh h e w s (a.drop 1) (i+1) f.2 ⋯;show(eR (w++[i]) (s++a.take 1) p++Pe w s (a.drop 1) (i+1) e).length<=(e.length+1) * Mq h;rw[aH,Nat.succ_mul];nofun
end
def Gt.so(J0 J2:Zb):Gt->Prop
 |.lf w=>w="end"∨w="blame"
 |.nd a ws _=>(∀w,a=pe w->w∈J0)/\ws=J2
open Classical in
def TV(J0 J2:Zb)(t:Gt):Bool:=decide (t.so J0 J2)
mutual
def Gt.of(J2:Zb):Tr->Gt
 |.bl=>.lf "blame"
 |.en=>.lf "end"
 |.nd a ps=>.nd a J2<|Gt.TB J2 ps
def Gt.TB(J2:Zb):List Tr->List Gt
 |[]=>[]
 |t::r=>Gt.of J2 t::Gt.TB J2 r
end
theorem Gt.Sn(a:Zb):∀l:List Tr,(Gt.TB a l).length=l.length
 |[]=>rfl
 |t::r=>by show(Gt.TB a r).length+1=r.length+1;rw[Gt.Sn a r]
mutual
theorem Gt.Tc(e:Zb):∀t:Tr,(Gt.of e t).dt=t.dt e
 |.bl=>rfl
 |.en=>rfl
 |.nd a f=>by show cI e a (Gt.OY<|Gt.TB e f)=cI e a (Tr.OY e f);rw[Gt.Ta e f]
theorem Gt.Ta(a:Zb):∀l:List Tr,Gt.OY (Gt.TB a l)=Tr.OY a l
 |[]=>rfl
 |t::r=>by show _::_=_::_;rw[Gt.Tc a t,Gt.Ta a r]
end
mutual
theorem Gt.Tb(z:e.length<=4):∀t:Tr,t.wf J0 e->(Gt.of e t).wf/\(Gt.of e t).P4=t.P4
 |.bl,_=>⟨trivial,pw⟩
 |.en,_=>⟨trivial,pw⟩
 |.nd a f,h=>by
  have:=Gt.S_ z f h.2.2;exact⟨⟨by rw[Gt.Sn];exact h.1,z,this.1⟩,by show Gt.OT _+1=Tr.OT f+1;rw[this.2]⟩
theorem Gt.S_(z:a.length<=4):∀l:List Tr,Tr.QU g a l->Gt.QU (Gt.TB a l)/\Gt.OT (Gt.TB a l)=Tr.OT l
 |[],_=>⟨trivial,pw⟩
 |t::r,h=>by
  have e:=Gt.Tb z t h.1;have f:=Gt.S_ z r h.2;exact⟨⟨e.1,f.1⟩,by show max _ _=max _ _;rw[e.2,f.2]⟩
end
mutual
theorem Gt.TY:∀(t:Tr) (w:List Nat) (s:List Sg),t.wf g f->∀e∈eR w s (Gt.of f t),e.tr.so g f
 |.bl,w,s,_,e,he=>by rw[dF.1 he];exact .inr rfl
 |.en,w,s,_,e,he=>by rw[dF.1 he];exact .inl rfl
 |.nd a i,w,s,h,e,he=>by
  obtain rfl|he:=b_.1 he
  .exact⟨h.2.1,pw⟩
  .exact Gt.S' i w s _ 0 h.2.2 e he
theorem Gt.S':∀(l:List Tr) (w:List Nat) (s a:List Sg) (i:Nat),Tr.QU g f l->∀e∈Pe w s a i (Gt.TB f l),e.tr.so g f
 |[],_,_,_,_,_,e,he=>by cases he
 |t::r,w,s,a,i,h,e,he=>by
  obtain he|he:=bp.1 he
  .exact Gt.TY t _ _ h.1 e he
  .exact Gt.S' r w s _ (i+1) h.2 e he
end
def Ny:Gt->List (Sg×DT)
 |.nd a ws ps=>(fH ws a).zip<|Gt.OY ps
 |_=>[]
def Gt.ok:Gt->Prop
 |.nd _ ws ps=>ps.length=ws.length+1/\ws.length<=4
 |_=>True
theorem Gt.wf.ok:∀{t:Gt},t.wf->t.ok
 |.lf _,_=>trivial
 |.nd _ _ _,h=>⟨h.1,h.2.1⟩
inductive ll(K:Za)(vs:List V)(H:Hp)(Q:VK)(E:XK):Prop
 |mk (v:V) (T:Gt):vs=[v]->eE K H (T.dt) v->T.ok->(∀(l:Wv) (qs:Ze) (H':Hp),H' l=pe (.lst (qs.map V.ref))->mV K H' qs (Ny T)->ac H H'->Q (.ref l) H')->ll K vs H Q E
theorem D_{K:Za}(hh:∀H,bj K H s<|cz.map V.str)(h:ll K vs H Q E):vp K (lp K 3 "wait") (iR K) s (lp K 4 "tell") (bH Q) (start wA vs) H:=by
 let⟨v,T,rfl,q,ok,k⟩:=h;cases T with
 |lf w =>
  apply⟨_,pw,v,w,[],pw,q,_,pw,?_⟩;refine aY ⟨_,pw,v,w,[],pw,q,_,pw,?_⟩;refine aY ⟨Q0,λl N=>k l [] _ aa .nil<|ac.new N⟩
 |nd a t O =>
  have ok:O.length=t.length+1/\t.length<=4:=ok;have z4:=ok.2;have zd:(Gt.OY O).length=t.length+1:=by rw[Gt.Kx,am,ok.1]
  have q:eE K H (cI t a<|Gt.OY O) v:=q;have k:∀(l:Wv) (qs:Ze) (H':Hp),H' l=pe (.lst<|qs.map V.ref)->mV K H' qs ((fH t a).zip<|Gt.OY O)->ac H H'->Q (.ref l) H':=k;generalize Gt.OY O=g at zd q k;cases a with
  |some a =>
   obtain⟨d0,i⟩:∃d,g[0]?=pe d:=⟨_,dH ⋯⟩;rw[jD i]at q;have ec:g=d0::g.drop 1:=by
    cases g with
    |nil=>cases i
    |cons x r=>injection i with i;rw[i];rfl
   apply⟨_,pw,v,"tell",_,pw,q,_,pw,?_⟩;let⟨b,xs,rfl,L,x0,ab,rfl,e0,x1,al,rfl,e1,f,U,rfl,e2,x3,an,rfl,e3,B⟩:=q;have B:an=[]:=B;subst B;cases e0;cases e1;refine bo ?_;apply⟨_,pw,b,_,1,.str a,pw,pw,bN.sq L,bA (j:=1) rfl,Q2,λo as=>?_⟩;have C:=ac.new (o:=.tup [.str "ask",.str a]) as;have Y:upd H o (.tup [.str "ask",.str a]) o=pe (.tup<|(cX a).map V.str):=aa;generalize upd H o (.tup [.str "ask",.str a])=m at C Y ⊢;apply⟨_,pw,b,_,2,f,pw,pw,bN.sq<|bN.kt (ac.kt C) L,bA (j:=2) rfl,Q2,λe D=>⟨Q1,λp u=>?_⟩⟩;have S2:=ac.new (o:=.tup [.ref o,f]) D;have G:=WI m e (.tup [.ref o,f])
   change upd m e (.tup [.ref o,f]) p=none at u
   have S3:ac (upd m e<|.tup [.ref o,f]) (upd (upd m e<|.tup [.ref o,f]) p<|.lst [.ref e]):=ac.new u;have y:=WI (upd m e<|.tup [.ref o,f]) p (.lst [.ref e]);have z:=S3 _ _ G;have n:=S2.trans S3;generalize upd (upd m e<|.tup [.ref o,f]) p (.lst [.ref e])=H3 at n y z ⊢;have A:=C.trans n;apply⟨_,pw,b,_,3,x3,pw,pw,bN.sq<|bN.kt (ac.kt A) L,bA (j:=3) rfl,x3,t,g.drop 1,pw,eE.kt (ac.kt A) _ _ e3,by rw[d_];nofun,by nofun,λl2 qs H4 h4 hq S4=>?_⟩;have zq:qs.length<=4:=by rw[Paired.length hq,rG,am];nofun
   apply⟨p,l2,_,_,pw,pw,S4 _ _ y,h4,by rw[am];exact eo (ax (by show 1+_<=1000;nofun)),λl N=>?_⟩;have M:=ac.new (o:=.lst<|[V.ref e]++qs.map V.ref) N;refine k l (e::qs) _ aa ?_<|(A.trans S4).trans M;rw[ec];have I:=S4.trans M;exact .cons ⟨o,f,I _ _ z,.inl<|I _ _<|n _ _ Y,eE.kt (ac.kt<|A.trans I) _ _ e2⟩<|mV.kt (ac.kt M) hq
  |none =>
   obtain⟨d0,i⟩:∃d,g[t.length]?=pe d:=⟨_,dH ⋯⟩;rw[jE i]at q;have ec:g=g.take t.length++[d0]:=by rw[<-take_snoc i,<-zd,bC]
   apply⟨_,pw,v,"wait",_,pw,q,_,pw,?_⟩;refine aY ⟨_,pw,v,"wait",_,pw,q,_,pw,?_⟩;let⟨b,xs,rfl,L,x0,ab,rfl,e0,x1,al,rfl,e1,f,U,rfl,e2,B⟩:=q;have B:U=[]:=B;subst B;cases e0;refine bo ?_;apply⟨_,pw,b,_,1,x1,pw,pw,bN.sq L,bA (j:=1) rfl,x1,t,g.take t.length,pw,e1,by rw[aP];nofun,by nofun,λl2 qs m h1 hq C=>?_⟩;have zq:qs.length<=4:=by rw[Paired.length hq,rG,am];nofun
   apply⟨_,pw,b,_,2,f,pw,pw,bN.sq<|bN.kt (ac.kt C) L,bA (j:=2) rfl,Q2,λe D=>⟨Q1,λp u=>?_⟩⟩;have S2:=ac.new (o:=.tup [.ref s,f]) D;have G:=WI m e (.tup [.ref s,f])
   change upd m e (.tup [.ref s,f]) p=none at u
   have S3:ac (upd m e<|.tup [.ref s,f]) (upd (upd m e<|.tup [.ref s,f]) p<|.lst [.ref e]):=ac.new u;have y:=WI (upd m e<|.tup [.ref s,f]) p (.lst [.ref e]);have z:=S3 _ _ G;have n:=S2.trans S3;generalize upd (upd m e<|.tup [.ref s,f]) p (.lst [.ref e])=H3 at n y z ⊢;apply⟨l2,p,_,_,pw,pw,n _ _ h1,y,by rw[am];exact eo (ax (by show _+1<=1000;nofun)),λl N=>?_⟩;have M:=ac.new (o:=.lst<|qs.map V.ref++[.ref e]) N;have J:=n.trans M;refine k l (qs++[e]) _ (by rw[aa,ay];rfl) ?_<|C.trans J;rw[ec];show mV K _ _ ((t.map kH++[cz]).zip _);rw[List.zip_append (by rw[am,aP];nofun)];exact dI (mV.kt (ac.kt J) hq) ⟨s,f,M _ _ z,zX hh _,eE.kt (ac.kt<|C.trans J) _ _ e2⟩
def mZ(K:Za)(J:Hp)(q:Wv)(e:Eg):Prop:=∃(wr st:Wv) (v:V),J q=pe (.tup [.ref wr,.ref st,v])/\J wr=pe (.tup<|lc e.way)/\gS K J st e.story/\eE K J (e.tr.dt) v
theorem mZ.same{K:Za}(S:ac J a)(h:mZ K J q e):mZ K a q e:=by
 let⟨f,st,v,g,i,⟨j,k,l⟩,m⟩:=h;exact⟨f,st,v,S _ _ g,S _ _ i,⟨j,S _ _ k,Paired.OJ l λ_ _ r=>bN.kt (ac.kt S) r⟩,eE.kt (ac.kt S) _ _ m⟩
theorem yn:∀{ps:List Gt}{sgs:List Sg}{i j:Nat}{p:Gt}{sg:Sg},ps[j]?=pe p->sgs[j]?=pe sg->(qP w s sgs i ps)[j]?=pe ⟨w++[i+j],s++[sg],p⟩
 |[],_,_,_,_,_,h,_=>by cases h
 |p0::ps,[],_,_,_,_,_,h=>by cases h
 |p0::ps,UN::sgs,i,0,p,sg,a,e=>by
  injection a with a;injection e with e;rw[<-a,<-e];rfl
 |p0::ps,UN::sgs,i,j+1,p,sg,a,e=>by
  have:=yn (w:=w) (s:=s) (i:=i+1) (ps:=ps) (sgs:=sgs) (j:=j) (p:=p) (sg:=sg) a e;rw[show i+(j+1)=i+1+j by nofun];exact this
theorem ym:∀{e:List Gt}{a:List Sg}{i:Nat},(qP w s a i e).length=e.length
 |[],_,_=>rfl
 |p0::e,a,i=>by
  show(qP w s (a.drop 1) (i+1) e).length+1=e.length+1;rw[ym]
theorem Jv(h:e.tr.ok):(sU e).length=(Ny e.tr).length:=by
 let⟨w,s,t⟩:=e;cases t with
 |lf w=>rfl
 |nd a f g =>
  have h:g.length=f.length+1:=h.1;show(qP w s (fH f a) 0 g).length=((fH f a).zip<|Gt.OY g).length;rw[ym,rG,yd,Gt.Kx,am];nofun
theorem Jw{e:Eg}{i:Nat}{x:Sg×DT}(h:e.tr.ok)(hx:(Ny e.tr)[i]?=pe x):∃p:Gt,(sU e)[i]?=pe ⟨e.way++[i],e.story++[x.1],p⟩/\p.dt=x.2:=by
 let⟨w,s,t⟩:=e;cases t with
 |lf w=>cases hx
 |nd a f g =>
  have h:g.length=f.length+1:=h.1;have hx:((fH f a).zip<|Gt.OY g)[i]?=pe x:=hx;rw[List.getElem?_zip_eq_some]at hx;let⟨k,j⟩:=hx;rw[Gt.Kx,eL]at j;let⟨p,l,m⟩:=rV.1 j;apply⟨p,?_,m⟩;have:=yn (w:=w) (s:=s) (i:=0) l k;rw[yY]at this;exact this
inductive nC(K:Za)(vs:List V)(H:Hp)(Q:VK)(E:XK):Prop
 |mk (wr st:Wv) (v:V) (e:Eg):vs=[.ref wr,.ref st,v]->H wr=pe (.tup (lc e.way))->gS K H st e.story->eE K H (e.tr.dt) v->e.tr.ok->e.way.length<=900->(e.story.length<=900) ->
  (∀(l:Wv) (qs:Ze) (H':Hp),H' l=pe (.lst (qs.map V.ref))->H l=none->(∀J,J8 H l H' J->Paired (mZ K J) qs (sU e))->ac H H'->Q (.ref l) H')->nC K vs H Q E
theorem GS{K:Za}(h:nC K vs H Q E):vq K (ll K) (bH Q) (start wB vs) H:=by
 let⟨wr,st,v,e,rfl,hw,⟨I,aT,M⟩,hv,ok,zw,zs,k⟩:=h;apply⟨Q0,λg m=>?_⟩;let⟨H1,WH,S1,b1⟩:=WG (o:=.lst []) m;rw[WH];apply⟨_,pw,v,e.tr,pw,eE.kt (ac.kt S1) _ _ hv,ok,λsl sq H2 f N S2=>⟨sl,pw,⟨_,aA.of f⟩,?_⟩⟩;have B:=S1.trans S2;have b2:=S2 _ _ b1;have aX:sl≠g∨sq=[]:=by
  by_cases c:sl=g
  .right
   rw[c,b2]at f;injection f with f;injection f with f;exact oA.1 f.symm
  .exact .inl c
 have kl:=Jv  (e:=e) ok;have ql:=Paired.length N;have q5:(Ny e.tr).length<=5:=by
  generalize e.tr=T at ok;cases T with
  |lf w=>exact cw _
  |nd a J2 ps=>show((fH J2 a).zip _).length<=5;rw[rG,yd];have z:J2.length<=4:=ok.2;nofun
 let a0:Nat->L2.St->Hp->Prop:=λi σ H'=>Vr λ(qs:Ze) (x4 x5 x6 x7:Option V)=>N0 (σ=[pe<|.ref wr,pe<|.ref st,pe v,pe<|.ref g,x4,x5,x6,x7]) (H' g=pe (.lst<|qs.map V.ref)) (qs.length=i) ((∀b o,H2 b=pe o->b≠g->H' b=pe o)) (∀J,J8 H g H' J->Paired (mZ K J) qs ((sU e).take i))
 refine kN (xs:=sq.map V.ref) a0
  ⟨[],_,_,_,_,pw,b2,pw,λ_ _ q _=>q,λJ _=>.nil⟩ (λi σ H' hi ⟨qs,_,_,_,_,_,A,O,ex,_⟩=>?_) ?_ ?_
 .obtain n|n:=aX
  .exact aA.of<|ex _ _ f n
  .rw[n]at hi f ⊢;by_cases c:sl=g
   .have:qs=[]:=by cases qs with|nil=>rfl|cons a r=>exact absurd hi (by rw[<-O];show ¬_<=0;simp)
    rw[this]at A;rw[c];exact aA.of A
   .exact aA.of<|ex _ _ f c
 .rintro i x σ t p hi ⟨qs,x4,x5,x6,x7,rfl,A,O,ex,hk⟩ hp;let⟨q,hq,rfl⟩:=dq hi;let⟨y,hy,s,pv,a4,hs,a5⟩:=Paired.getL N hq;let⟨T,hT,eT⟩:=Jw ok hy;have il:i<(Ny e.tr).length:=(cx.1 hy).1;have nb:∀{b xs},H2 b=pe (.tup xs)->t b=pe (.tup xs):=fun{b xs} q=>ex _ _ q λz=>by rw[z,b2]at q;cases q
  let⟨H4,WH,S4,p4⟩:=WG (o:=.tup [.int (i:Nat),.ref q]) hp;rw[WH];apply⟨p,_,pw,bj.of p4,pw,_,_,pw,_,_,pw,pw,?_⟩;apply⟨_,pw,q,_,pw,bj.of<|S4 _ _<|nb a4,pw,_,_,pw,_,_,pw,pw,?_⟩;apply⟨_,pw,.inl ⟨pw,_,aA.of<|S4 _ _ A⟩,_,pw,_,pw,Q1,λt1 a6=>?_⟩;let⟨H5,WH,S5,t5⟩:=WG (o:=.tup [.int (i:Nat)]) a6;rw[WH];have U:=S4.trans S5;have C:∀{b o},H b=pe o->t b=pe o:=fun{b o} q=>ex _ _ (B _ _ q)<|ag q m;refine Lo (U _ _<|C hw) t5 ⋯ λY H6 a7 S6=>?_;have a8:=U.trans S6;apply⟨_,pw,_,pw,Q1,λl1 a9=>?_⟩;let⟨H7,WH,S7,ab⟩:=WG (o:=.lst [.ref s]) a9;rw[WH];have u:=a8.trans S7;have gl:I.length=e.story.length:=Paired.length M;apply⟨st,l1,_,_,pw,pw,u _ _<|C aT,ab,by rw[am];exact eo (ax (by show _+1<=1000;nofun)),λj D=>?_⟩;have S8:=ac.new (o:=.lst<|I.map V.ref++[.ref s]) D;have al:upd H7 j (.lst<|I.map V.ref++[.ref s]) j=pe (.lst<|(I++[s]).map V.ref):=by rw[aa,ay];rfl
  have bd:H j=none:=by
   cases c:H j with
   |none=>rfl
   |some o=>have:=u _ _<|C c;rw[D]at this;cases this
  generalize upd H7 j (.lst<|I.map V.ref++[.ref s])=H8 at S8 al ⊢;have bi:=u.trans S8;apply⟨_,pw,Q3,λL bm=>?_⟩;let⟨H9,WH,S9,an⟩:=WG (o:=.tup [.ref Y,.ref j,pv]) bm;rw[WH];have l:=bi.trans S9;have as:=l _ _ A;have aC:j≠g:=λz=>by have:=u _ _ A;rw[<-z,D]at this;cases this
  have bn:g_ H9 (upd H9 g<|.lst<|qs.map V.ref++[.ref L]):=dO as;apply⟨g,_,_,pw,pw,as,by rw[am,O];exact ax ⋯,qs++[L],_,_,_,_,pw,by rw[aa,ay];rfl,by rw[aH,O];rfl,λb o q n=>?_,λJ nj=>?_⟩
  .rw[aj n];exact l _ _<|ex _ _ q n
  .have kj:g_ H9 J:=λb xs q=>nj.2 _ _<|bn _ _ q;have bw:J8 H g t J:=⟨λb o q n1 n2=>nj.1 b o (by rw[aj n2];exact l _ _ q) n1 n2,λb xs q=>kj _ _<|ac.kt l _ _ q⟩;rw[take_snoc hT];refine dI (hk J bw) ?_;have G:g_ H2 J:=λb xs q=>kj _ _<|ac.kt l _ _<|nb q;apply⟨Y,j,pv,kj _ _ an,kj _ _<|S9 _ _<|S8 _ _<|S7 _ _ a7,⟨I++[s],nj.1 j _ (by rw[aj aC];exact S9 _ _ al) bd aC,?_⟩,?_⟩
   .exact dI (Paired.OJ M λ_ _ r=>bN.kt (λb xs q=>G _ _<|ac.kt B _ _ q) r)<|bN.kt G hs
   .show eE K J (T.dt) pv;rw[eT];exact eE.kt G _ _ a5
 .rintro σ t ⟨qs,x4,x5,x6,x7,rfl,A,O,ex,hk⟩;rw[am,ql,<-kl,bC]at hk;exact⟨_,pw,k g qs t A m hk λb o q=>ex _ _ (B _ _ q)<|ag q m⟩
theorem QT.same{K:Za}{J a:Hp}{qs:Ze}{L:List Eg}(S:ac J a)(h:Paired (mZ K J) qs L):Paired (mZ K a) qs L:=Paired.OJ h λ_ _ r=>r.same S
theorem yD:∀L:List Eg,L.length<=(L.flatMap sL).length
 |[]=>aB _
 |e::r=>by
  rw[List.flatMap_cons,aH,da];have:=I0 e;have:=yD  r;nofun
theorem tR(h:s.length<=w.length):∀{f:List Gt}{a:List Sg}{i:Nat},∀e∈qP w s a i f,e.story.length<=e.way.length
 |[],_,_,e,he=>by cases he
 |p::f,a,i,e,he=>by
  obtain rfl|he:=b_.1 he
  .show(s++a.take 1).length<=(w++[i]).length;rw[aH,aH,aP];have:([i]:List Nat).length=1:=rfl;nofun
  .exact tR h e he
theorem Ex(h:e.story.length<=e.way.length):∀k∈sU e,k.story.length<=k.way.length:=by
 let⟨w,s,t⟩:=e;cases t with
 |lf w=>intro k f;cases f
 |nd a g i=>exact tR h
inductive qk(K:Za)(vs:List V)(H:Hp)(Q:VK)(E:XK):Prop
 |mk (v:V) (T:Gt):vs=[v]->eE K H (T.dt) v->T.wf->((eR [] [] T).length<=1000)->(∀e∈eR [] [] T,e.way.length<8) ->
  (∀(l:Wv) (qs:Ze) (H':Hp),H' l=pe (.lst (qs.map V.ref))->H l=none->Paired (mZ K (Qg H H')) qs (eR [] [] T)->(∀e∈eR [] [] T,e.tr.wf)->ac H H'->Q (.ref l) H')->qk K vs H Q E
inductive ICa(K:Za)(H:Hp)(v:V)(f a:Wv)(T:Gt)(σ:L2.St)(G:Hp)(W:List Eg):Prop
 |mk(s w:Ze)(F:List Eg)(x3 x4 x5 N:Option V):σ=[pe v,pe<|.ref f,pe<|.ref a,x3,x4,x5,N]->G f=pe (.lst<|s.map V.ref)->G a=pe (.lst<|w.map V.ref)->Paired (mZ K<|OC H G f a) s F->Paired (mZ K<|OC H G f a) w W->F++W.reverse.flatMap sL=eR [] [] T->(∀e∈W,e.tr.wf/\e.story.length<=e.way.length)->(∀e∈F,e.tr.wf)->ac H G->ICa K H v f a T σ G W
theorem IC{K:Za}(h:qk K vs H Q E):By K (nC K) (bH Q) (start C3 vs) H:=by
 let⟨v,T,rfl,hv,wf,zp,zw,k⟩:=h;apply⟨Q0,λf a0=>?_⟩;let⟨H1,WH,S1,f1⟩:=WG (o:=.lst []) a0;rw[WH];apply⟨Q0,λC ci=>?_⟩;have S2:=ac.new (o:=.tup []) ci;have w2:upd H1 C (.tup []) C=pe (.tup<|lc []):=aa;generalize upd H1 C (.tup [])=H2 at S2 w2 ⊢;apply⟨Q0,λst a5=>?_⟩;have S3:=ac.new (o:=.lst []) a5;have s3:upd H2 st (.lst []) st=pe (.lst<|([]:Ze).map V.ref):=aa;generalize upd H2 st (.lst [])=H3 at S3 s3 ⊢;apply⟨_,pw,Q3,λB ck=>⟨Q1,λa I=>?_⟩⟩;have S4:=ac.new (o:=.tup [.ref C,.ref st,v]) ck;have q4:=WI H3 B (.tup [.ref C,.ref st,v])
 change upd H3 B (.tup [.ref C,.ref st,v]) a=none at I
 have S5:ac (upd H3 B<|.tup [.ref C,.ref st,v]) (upd (upd H3 B<|.tup [.ref C,.ref st,v]) a<|.lst [.ref B]):=ac.new I;have l5:upd (upd H3 B<|.tup [.ref C,.ref st,v]) a (.lst [.ref B]) a=pe (.lst<|([B]:Ze).map V.ref):=aa;have cl:st≠f:=(ag (S2 _ _ f1) a5).symm;have cm:st≠a:=ag (S4 _ _ s3) I;have O:f≠a:=ag (S4 _ _<|S3 _ _<|S2 _ _ f1) I;have bl:H a=none:=(S1.trans<|S2.trans<|S3.trans S4).free I;have f5:=S5 _ _<|S4 _ _<|S3 _ _<|S2 _ _ f1;have s5:=S5 _ _<|S4 _ _ s3;have w5:=S5 _ _<|S4 _ _<|S3 _ _ w2;have q5:=S5 _ _ q4;have U:ac H _:=S1.trans<|S2.trans<|S3.trans<|S4.trans S5;generalize upd (upd H3 B<|.tup [.ref C,.ref st,v]) a (.lst [.ref B])=H5 at U l5 f5 s5 w5 q5 ⊢;have bm:∀{G:Hp}{xs ys:List V},ac H G->G f=pe (.lst xs)->G a=pe (.lst ys)->g_ G (OC H G f a):=fun{G xs ys} S e1 e2 b zs q=>by
  show Qg H (qS G f a) b=_;rw[FV (λys e=>by have:=S _ _ e;rw[q]at this;cases this),AN (λz=>by rw[z,e1]at q;cases q) (λz=>by rw[z,e2]at q;cases q)];exact q
 have a6:=bm U f5 l5;have cn:mZ K (OC H H5 f a) B ⟨[],[],T⟩:=⟨C,st,v,a6 _ _ q5,a6 _ _ w5,⟨[],by rw[AM ((S1.trans S2).free a5) cl cm];exact s5,.nil⟩,eE.kt (λb xs q=>a6 _ _<|ac.kt U _ _ q) _ _ hv⟩;apply⟨λm σ G=>∃W,ICa K H v f a T σ G W/\m=(W.reverse.flatMap sL).length,
  ⟨_,[⟨[],[],T⟩],⟨[],[B],[],_,_,_,_,pw,f5,l5,.nil,.cons cn .nil,by show _++List.flatMap _ [_]=_;rw[List.nil_append,List.flatMap_singleton];rfl,λe he=>?_,λe he=>(by cases he),U⟩,pw⟩,?_⟩
 .rw[dF.1 he];exact⟨wf,aB _⟩
 rintro m σ G ⟨W,⟨s,w,F,x3,x4,x5,N,rfl,gf,gw,hF,hW,eq,oW,oF,SG⟩,em⟩;have lw:=Paired.length hW;have lf:=Paired.length hF;apply⟨_,pw,.inl ⟨a,_,pw,.inl<|aA.of gw,_,_,pw,pw,_,pw,?_⟩⟩;rw[am];obtain e0|⟨A,e,e1⟩:=List.eq_nil_or_concat W
 .rw[e0]at lw;rw[qb (by show ¬(0:Int)<(w.length:Nat);rw[lw];decide)];refine aY ⟨_,pw,?_⟩;rw[e0]at eq;have eq:F++[]=_:=eq;rw[eI]at eq;rw[eq]at hF oF;exact k f s G gf a0 (QT.same (FU yy) hF) oF SG
 rw[List.concat_eq_append]at e1;subst e1;rw[qh (by show(0:Int)<(w.length:Nat);rw[lw,aH];show(0:Int)<((A.length+1:Nat));nofun)];refine bo ?_;let⟨q,hq,ea⟩:=Paired.get (i:=A.length) (y:=e) hW (by rw[iF<|aB _,j4];rfl);have co:w.length=A.length+1:=by rw[lw,aH];rfl
 have bn:w=w.take A.length++[q]:=by rw[<-take_snoc hq,<-co,bC]
 have Y:Paired (mZ K<|OC H G f a) (w.take A.length) A:=by
  have:=Paired.Sj A.length hW;rw[uN rfl]at this;exact this
 generalize w.take A.length=j at bn Y;subst bn;let⟨oe,se⟩:=oW e<|cE _<|dF.2 rfl;let⟨t,u,v1,a1,a2,a3,a4⟩:=id ea;have a7:(A++[e]).reverse.flatMap sL=e::((sU e)++A.reverse).flatMap sL:=by
  rw[uM];show List.flatMap _ (e::A.reverse)=_;rw[List.flatMap_cons,x_,List.flatMap_append];rfl
 rw[a7]at eq em;have cq:e∈eR [] [] T:=by rw[<-eq];exact cE _ cF
 have we:=zw e cq;have di:F.length+1+((sU e).length+A.length)<=1000:=by
  have h1:(F++e::((sU e)++A.reverse).flatMap sL).length<=1000:=by rw[eq];exact zp
  have h2:=yD <|(sU e)++A.reverse;rw[aH,mj]at h2;rw[aH,da]at h1;nofun
 apply⟨fun σ' G'=>∃W,ICa K H v f a T σ' G' W/\(W.reverse.flatMap sL).length<m,?_,?_⟩
 .rintro σ' G' ⟨W,y,z⟩;exact⟨_,z,W,y,pw⟩
 apply⟨_,pw,.inl ⟨pw,_,aA.of gw⟩,a,_,.ref q,pw,pw,gw,?_,?_⟩
 .rw[ay,aH,iF (by show _<=_+1-1;nofun)];show[V.ref q][_+1-1-_]?=_;rw[uL,j4];rfl
 have cs:((j++[q]).map V.ref).dropLast=j.map V.ref:=by
  rw[ay];exact yX
 rw[cs];have bw:f≠a:=O;have a8:=WI G a (.lst<|j.map V.ref);have ab:upd G a (.lst<|j.map V.ref) f=pe (.lst<|s.map V.ref):=by rw[aj O];exact gf
 have J1:OC H (upd G a<|.lst<|j.map V.ref) f a=OC H G f a:=congrArg (Qg H) yu;have a9:ac H (upd G a<|.lst<|j.map V.ref):=λb o q=>by rw[aj<|ag q bl];exact SG _ _ q
 generalize upd G a (.lst<|j.map V.ref)=G1 at a8 ab J1 a9 ⊢;rw[<-J1]at hF Y ea a1 a2 a3 a4;have b1:=sW _ _ a1;apply⟨q,_,pw,bj.of b1,pw,_,_,pw,_,_,pw,_,_,pw,pw,?_⟩;apply⟨_,pw,.inl ⟨pw,_,aA.of ab⟩,_,pw,_,pw,_,pw,Q3,λp hp=>?_⟩;have J:=ac.new (o:=.tup [.ref t,.ref u,v1]) hp;have p2:=WI G1 p (.tup [.ref t,.ref u,v1]);have ct:p≠f:=(ag ab hp).symm;have cB:p≠a:=(ag a8 hp).symm;generalize upd G1 p (.tup [.ref t,.ref u,v1])=G2 at J p2 ⊢;have cC:=J _ _ ab;have c0:=J _ _ a8;apply⟨f,_,_,pw,pw,cC,by rw[am,lf];exact ax ⋯,?_⟩;have al:upd G2 f (.lst<|s.map V.ref++[.ref p]) f=pe (.lst<|(s++[p]).map V.ref):=by rw[aa,ay];rfl
 have an:upd G2 f (.lst<|s.map V.ref++[.ref p]) a=pe (.lst<|j.map V.ref):=by rw[aj O.symm];exact c0
 have J3:OC H (upd G2 f<|.lst<|s.map V.ref++[.ref p]) f a=OC H G2 f a:=congrArg (Qg H) Hq;have as:ac H (upd G2 f<|.lst<|s.map V.ref++[.ref p]):=λb o q=>by rw[aj<|ag q a0];exact J _ _<|a9 _ _ q
 generalize upd G2 f (.lst<|s.map V.ref++[.ref p])=G3 at al an J3 as ⊢;have g:ac (OC H G1 f a) (OC H G3 f a):=by rw[J3];exact FW J
 have ep:mZ K (OC H G3 f a) p e:=by
  have:=ea.same g;let⟨bd,h1,h2⟩:=a3;exact⟨t,u,v1,by rw[J3,AM (a9.free hp) ct cB];exact p2,g _ _ a2,⟨bd,g _ _ h1,Paired.OJ h2 λ_ _ r=>bN.kt (ac.kt g) r⟩,eE.kt (ac.kt g) _ _ a4⟩
 have c1:=QT.same g hF;have c2:=QT.same g Y;have aC:ac (OC H G1 f a) G3:=g.trans sW;have c3:gS K G3 u e.story:=by
  let⟨bd,h1,h2⟩:=a3;exact⟨bd,aC _ _ h1,Paired.OJ h2 λ_ _ r=>bN.kt (ac.kt aC) r⟩
 apply⟨_,pw,_,pw,_,pw,t,u,v1,e,pw,aC _ _ a2,c3,eE.kt (ac.kt aC) _ _ a4,oe.ok,by nofun,by nofun,λl qs G4 hl b0 hk L=>⟨l,_,pw,aA.of hl,?_⟩⟩;have cb:=L _ _ al;have cc:=L _ _ an;have dk:l≠f:=(ag al b0).symm;have bw:l≠a:=(ag an b0).symm;have M:=hk (OC H G4 f a) ⟨λb o q n1 n2=>by rw[AM (as.free n1) (λz=>by rw[z,al]at n1;cases n1) (λz=>by rw[z,an]at n1;cases n1)];exact q,bm (as.trans L) cb cc⟩;have aX:ac (OC H G3 f a) (OC H G4 f a):=FW L;have lq:=Paired.length M;have dm:=Paired.length Y
 let c4:Nat->L2.St->Hp->Prop:=λi σ' G'=>∃N:Option V,σ'=[pe v,pe<|.ref f,pe<|.ref a,pe<|.ref t,pe<|.ref u,pe v1,N]/\G' a=pe (.lst<|(j++qs.reverse.take i).map V.ref)/\(∀b o,G4 b=pe o->b≠a->G' b=pe o)/\OC H G' f a=OC H G4 f a
 refine Le (xs:=qs.map V.ref) c4
  ⟨_,pw,by rw[uO,eI];exact cc,λ_ _ q _=>q,pw⟩ (λi σ' G' _ zq=>by let⟨_,_,_,ex,_⟩:=zq;exact aA.of<|ex _ _ hl bw) ?_ ?_
 .rintro i x σ' G' hx hi ⟨N,rfl,D,aT,J'⟩;rw[am]at hx hi;let⟨y,hy,rfl⟩:=dq hx;have ce:qs.reverse[i]?=pe y:=by rw[List.getElem?_reverse hi];exact hy
  apply⟨_,pw,.inl ⟨pw,_,aA.of D⟩,_,pw,a,_,_,pw,pw,D,?_,_,pw,?_,λb o q n=>?_,?_⟩
  .rw[am,aH,aP,mj];exact ax ⋯
  .rw[aa,take_snoc ce,<-d9,ay (l₂:=[y])];rfl
  .rw[aj n];exact aT _ _ q n
  .rw[show OC H _ f a=_ from congrArg (Qg H) yu];exact J'
 .rintro σ' G' ⟨N,rfl,D,aT,J'⟩;rw[am,<-mj,bC]at D;have ch:=aT _ _ cb O;have c5:ac (OC H G1 f a) (OC H G' f a):=by rw[J'];exact g.trans aX
  have dc:=sW _ _<|c5 _ _ a2;have dd:ac H G':=λb o q=>aT _ _ (L _ _<|as _ _ q)<|ag q bl;apply⟨_,pw,.inl ⟨t,_,pw,.inr<|bj.of dc,pw,_,pw,?_⟩⟩;have ew:(lc e.way).length=e.way.length:=am _;rw[ew,qb (by intro z;injection z with z;nofun)];refine aY ⟨_,pw,.inl ⟨f,_,pw,.inl<|aA.of ch,_,pw,.inl ⟨a,_,pw,.inl<|aA.of D,_,_,pw,pw,_,_,pw,pw,_,pw,?_⟩⟩⟩;rw[am,am,aH,aH,mj];rw[qb (by show ¬(1000:Int)<((s.length+1:Nat):Int)+((j.length+qs.length:Nat):Int);nofun)];refine aY ?_;have bi:ac (OC H G3 f a) (OC H G' f a):=by rw[J'];exact aX
  apply⟨A++(sU e).reverse,⟨s++[p],j++qs.reverse,F++[e],_,_,_,_,pw,ch,D,dI (QT.same bi c1)<|ep.same bi,Paired.app (QT.same bi c2) (Paired.rev (by rw[J'];exact M)),?_,λx hx=>?_,λx hx=>?_,dd⟩,?_⟩
  .rw[uM,List.reverse_reverse,d9];exact eq
  .obtain hx|hx:=bp.1 hx
   .exact oW x<|ej _ hx
   .exact⟨K8 oe x<|List.mem_reverse.1 hx,Ex se x<|List.mem_reverse.1 hx⟩
  .obtain hx|hx:=bp.1 hx
   .exact oF x hx
   .rw[dF.1 hx];exact oe
  .rw[uM,List.reverse_reverse,em];exact Bm _

def pX(K:Za)(rk:Wv)(K':Sp)(C1:Wv):TS :=
 ar (aL (dj (eh K)<|av V1) U2)
 (sD (aQ<|aD G_ (dj (dg K)<|av V2)<|tC<|.int 0) (ar (aL (DN K "list" G7 V2) U3)
 (fF (cf K<|gy rk "goals" K' [] E0 V0<|aM V3<|tC<|.ref C1) U4 (bS (tB<|p9 K V4 V1) (ar (ol V1 V4<|aU<|bY V3 (tC<|.ref C1) V4)
 (cy<|Bl K "list" eP V2<|av V4))<|bf))))
def rB:List WD:=["M","steps","waiting","room","goal"]
def Dr(K:Za)(OD:Wv)(rk:Wv)(Pz:Sp)(K':Sp):TS :=
 ar (aL (sG) U3)
 (ar (fF (LZ V1) U4<|bS (aQ<|aD (mF K) V2<|tC<|.ref OD) (bS (tB<|gy rk "is_quiet" Pz [] E0 V0<|av V4) (ol V3 V4<|aU<|bY V4 (tC<|.ref OD) V4)<|bf)<|fF (cf K<|gy rk "goals" K' [] E0 V0<|aM V4 V2) U5<|ol V3 V5<|aU<|bY V4 V2 V5)
 (be V3))
def ER:List WD:=["M","rooms","sign","steps","room","goal"]
def wU(K:Za)(OR:Sp)(RC:Sp)(rk:Wv)(OG:Sp):TS :=
 ar (aL (LM [(aD (cg K) (gy rk "rooms" OG [] E0 V0 bx)<|tC<|.int 0,tC .L')]) U2)
 (ar (aL (cK<|av V2) U3)
 (ar (cy<|aI OR<|aM V0 V2)
 (ar (fF (cf K V1) U4 (ar (aL (aI RC<|bY V0 V2 V4) U2)
 (ar (cy<|Bl K "list" eP V3<|av V2)
 (cy<|aI OR<|aM V0 V2))))
 (be V3))))
def xF:List WD:=["M","story","steps","along","sign"]
def Gw(K:Za)(C1:Wv)(QE:Sp):TS :=
 ar (aL (aI QE<|aM V0 V1) U2)
 (ar (bS (aQ<|aD kW (dj (LQ K)<|av<|aD (cg K) V2<|LJ (rU λi=>.int (-i))<|tC<|.int 1)<|tC<|.int 0) (be<|tC .L')<|bf)
 (ar (aL (aD (cg K) (dj (eh K)<|av<|aD (cg K) V2<|LJ (rU λi=>.int (-i))<|tC<|.int 1)<|tC<|.int 0) U3)
 (ar (aL (cK<|bx) U4)
 (ar (aL (DN K "list" G7 V2) U5)
 (ar (sD (tB<|xW<|p_ K V5 V3) (ar (aL (p_ K V5 V3) U6)
 (ar (cy<|Bl K "list" eP V4<|av V6)
 (ar (aL (aD (cu K) V6<|tC<|.int 0) U3)
 (bS (aQ<|aD (sI K) (aD (cu K) V6<|tC<|.int 1)<|tC<|.ref C1) (aL (DN K "list" G7 V2) U5)<|bf)))))
 (ar (cy<|DN K "list" B1 V4)
 (be V4)))))))
def HG:List WD:=["M","story","along","room","walk","steps","step"]
def jg(K:Za)(C:Wv):Sp:=λvs H Q _=>∃(x s:Wv) (r:WD) (sg J0 J2 rooms:Zb) (ds:List ak),vs=[.ref x,.str r,.ref s]/\bE C H x J0 J2 rooms ds/\bj K H s (sg.map V.str) /\
 ∀(l:Wv) (H':Hp),H' l=pe (.lst<|(aZ ds (r,sg)).map V.str)->H l=none->ac H H'->Q (.ref l) H'
theorem Ft{K:Za}:∀xs:List WD,OL K H (xs.map ug) (xs.map V.str)
 |[]=>by unfold OL;rfl
 |x::xs=>by
  rw[bP,bP];unfold OL;exact⟨_,_,pw,by unfold ug nZ;rfl,Ft xs⟩
theorem Eb{K:Za}(M:MC K C)(h:jg K C t H Q E):t_ K (bH Q) (start um t) H:=by
 let⟨x,s,r,e,Y,J2,rooms,w,rfl,h,A,k⟩:=h;let⟨B,fs,o1,o2,o3,o4,lv,qu,u,sl,ts,D,m,I,J,a1,a2,a3,a4,b1,b2,b3,b4,b5,b6,N,b8,L,c1,c2,c3,c4,G,d1,d2,d3⟩:=h.at_;have O:=h.ok.RX.1;apply⟨_,pw,x,C,B,fs,.ref u,pw,J,M.cls,M.a7,N,u,pw,.inr ⟨_,.inl G.g⟩,_,pw,_,pw,Q2,λkt j=>⟨Q0,λv i=>⟨c8 (eU wR m)<|wR (r,e),.inr ⟨_,wR (r,e),kt,.inl<|kp (kp G.g j) i,pw,?_,sH _,pw⟩,?_⟩⟩⟩
 .unfold wR nZ;apply⟨kt,_,pw,bj.of<|kp aa i,?_⟩;unfold OL;apply⟨_,_,pw,by unfold ug nZ;rfl,?_⟩;unfold OL;apply⟨_,_,pw,?_,by unfold OL;rfl⟩;unfold HU nZ;exact⟨s,_,pw,bj.same ((ac.new j).trans<|ac.new i) A,Ft e⟩
 have n:ac H (upd (upd H kt<|.tup [.str r,.ref s]) v<|.tup []):=(ac.new j).trans<|ac.new i;by_cases f:(r,e)∈m.map (·.1)
 .obtain⟨⟨y,a⟩,o,T⟩:=aV.mp f;obtain rfl:y=(r,e):=T;rw[fG iS G.nd o];exact .inl ⟨a,_,pw,.inl<|aA.of<|n _ _<|G.ls _ o,λl p=>k l _ aa (n.free p)<|n.trans<|ac.new p⟩
 .rw[nK iS f];have q:aZ w (r,e)=[]:=mP λy U z=>f (by rw[<-z];exact G.all y U);refine .inl ⟨v,[],pw,.inr<|bj.of aa,λl p=>k l _ ?_ (n.free p)<|n.trans<|ac.new p⟩;rw[q];exact aa
abbrev aG:=List<|WD×Option ak
def iQ(st:aG)(r:WD):Option (Option ak):=(st.find? λp=>decide (p.1=r)).map (·.2)
def jF(st:aG)(r:WD)(d:Option ak):aG:=if(st.any λp=>decide (p.1=r))=true then st.map (λp=>if p.1=r then(p.1,d)else p)else st++[(r,d)]
section
variable{K:Za}
theorem nr{st:aG}{r:WD}:iQ st r=none↔r∉st.map (·.1):=by
 unfold iQ;rw[Option.map_eq_none_iff,List.find?_eq_none];constructor
 .intro h e;let⟨p,a,e⟩:=aV.mp e;exact h p a<|qh e
 .intro h p a e;exact h<|aV.mpr ⟨p,a,of_decide_eq_true e⟩
theorem xY{st:aG}(h:r∉st.map (·.1)):jF st r d=st++[(r,d)]:=by
 unfold jF;rw[if_neg];intro e;let⟨p,a,e⟩:=List.any_eq_true.mp e;exact h<|aV.mpr ⟨p,a,of_decide_eq_true e⟩
inductive bV(ds:List ak):aG->aG->Prop
 |refl (st:aG):bV ds st st
 |step {st Rx:aG}{d:ak}(h:bV ds st Rx) (hd:d.sg=ao) (ha:d.a∈Rx.map (·.1)) (hb:d.b∈aZ ds (d.a,d.sg)) (hn:d.b∉Rx.map (·.1)):bV ds st (Rx++[(d.b,pe d)])
theorem bV.trans(x:bV ds a b)(y:bV ds b c):bV ds a c:=by
 induction y with
 |refl=>exact x
 |step _ e f g h i=>exact .step i e f g h
theorem bV.keys(x:bV e a b):∀r∈a.map (·.1),r∈b.map (·.1):=by
 induction x with
 |refl=>exact λr h=>h
 |step _ _ _ _ _ f=>exact λr h=>by rw[ay];exact ej _<|f r h
theorem bV.nodup(x:bV f a b)(h:(a.map (·.1)).Nodup):(b.map (·.1)).Nodup:=by
 induction x with
 |refl=>exact h
 |@step g d _ l m n i j =>
  rw[ay,eK];apply⟨j,by simp,λx hx y k z=>?_⟩;have e:y=d.b:=by simpa using k
  exact i (by rw[<-e,<-z];exact hx)
end
theorem bV.rooms{f:List ak}{rooms:Zb}{a b:aG}(x:bV f a b)(h:∀r∈a.map (·.1),r∈rooms)(k:∀d∈f,d.b∈rooms)(l:∀{w i g},g∈aZ f (w,i)->(⟨w,i,g⟩:ak)∈f):∀r∈b.map (·.1),r∈rooms:=by
 induction x with
 |refl=>exact h
 |@step m d _ _ _ n _ o =>
  intro r j;rw[ay]at j;obtain z|z:=bp.mp j
  .exact o r z
  .have e:r=d.b:=by simpa using z
   rw[e];exact k _<|l n
structure Wt(ds:List ak)(st Rx:aG)(wait:Zb):Prop where
 on:bV ds st Rx
 there:∀r∈wait,r∈Rx.map (·.1)
 done:∀r∈Rx.map (·.1),r∈wait∨∀g∈aZ ds (r,ao),g∈Rx.map (·.1)

def iA(ds:List ak)(sg:Zb)(r:WD)(gs:Zb)(acc:aG):aG:=gs.foldl (λacc g=>jF acc g<|some ⟨r,sg,g⟩) acc
def dW(rooms:Zb)(ds:List ak)(sg:Zb)(acc:aG)(r:WD):aG :=
 if sg=cz then(if r∈rooms.filter (fj ds)then jF acc r (pe ⟨r,cz,r⟩)else acc)else iA ds sg r (aZ ds (r,sg)) acc
def fb(rooms:Zb)(ds:List ak)(sg:Zb)(keys:Zb):aG:=keys.foldl (dW rooms ds sg) []
theorem vH{st:aG}{r:WD}{d:Option ak}:(jF st r d).map (·.1)=if r∈st.map (·.1)then st.map (·.1)else st.map (·.1)++[r]:=by
 by_cases z:r∈st.map (·.1)
 .rw[if_pos z];unfold jF;have:(st.any λp=>decide (p.1=r))=true:=by
   let⟨p,a,e⟩:=aV.mp z;exact List.any_eq_true.mpr ⟨p,a,qh e⟩
  rw[if_pos this,uR];apply zA;intro p _;show(if p.1=r then(p.1,d)else p).1=p.1
  by_cases y:p.1=r
  .rw[if_pos y]
  .rw[if_neg y]
 .rw[if_neg z,xY z,ay];rfl
structure wH(rooms:Zb)(st:aG):Prop where
 nd:(st.map (·.1)).Nodup
 inr:∀r∈st.map (·.1),r∈rooms
theorem wH.put{rooms:Zb}{st:aG}{r:WD}{d:Option ak}(h:wH rooms st)(a:r∈rooms):wH rooms (jF st r d):=by
 apply⟨?_,?_⟩<;>rw[vH]<;>by_cases z:r∈st.map (·.1)
 .rw[if_pos z];exact h.nd
 .rw[if_neg z,eK];apply⟨h.nd,by simp,λx hx y f e=>z ?_⟩;have:y=r:=by simpa using f
  rw[<-this,<-e];exact hx
 .rw[if_pos z];exact h.inr
 .rw[if_neg z];intro x hx;obtain y|y:=bp.mp hx
  .exact h.inr x y
  .have:x=r:=by simpa using y
   rw[this];exact a
theorem wH.len{rooms:Zb}{st:aG}(h:wH rooms st):st.length<=rooms.length:=by simpa using jl h.nd h.inr
theorem wH.goals:∀{gs:Zb}{a:aG},wH rooms a->(∀g∈gs,g∈rooms)->wH rooms (iA ds sg r gs a)
 |[],_,h,_=>h
 |g::gs,a,h,e=>wH.goals (ds:=ds) (gs:=gs) (h.put<|e g cF) λx hx=>e x<|de _ hx
theorem wH.room(h:wH rooms a)(i:∀d∈e,d.b∈rooms):wH rooms (dW rooms e f a r):=by
 unfold dW;by_cases z:f=cz
 .rw[if_pos z];by_cases y:r∈rooms.filter (fj e)
  .rw[if_pos y];exact h.put (gv.mp y).1
  .rw[if_neg y];exact h
 .rw[if_neg z];exact h.goals λg j=>i _<|bG.mp j
theorem wH.VH(f:∀d∈e,d.b∈rooms):∀(keys:Zb) {a:aG},wH rooms a->wH rooms (keys.foldl (dW rooms e g) a)
 |[],_,h=>h
 |r::keys,a,h=>wH.VH f keys<|h.room f
theorem mz(f:∀d∈a,d.b∈rooms)(keys:Zb):wH rooms (fb rooms a e keys):=wH.VH f keys ⟨rT,by simp⟩
theorem Am{keys:Zb}(h:keys[i]?=pe r):fb rooms ds sg (keys.take<|i+1)=dW rooms ds sg (fb rooms ds sg<|keys.take i) r:=by
 unfold fb;rw[List.take_add_one,h,uP];rfl


theorem K_:cz≠ao:=by decide +kernel
def dP(rooms:Zb):WD:=rooms.headD ""
theorem aE.first(m:aE a e rooms f):rooms[0]?=pe (dP rooms)/\dP rooms∈rooms:=by
 have:=m.OI;cases rooms with
 |nil=>exact absurd rfl this
 |cons r l=>exact⟨pw,cF⟩
theorem aE.take1(m:aE a e rooms f):rooms.take 1=[dP rooms]:=by
 have:=m.OI;cases rooms with
 |nil=>exact absurd rfl this
 |cons r l=>rfl
def MW(ds:List ak):WD->List ak->Bool
 |_,[]=>true
 |r,d::w=>decide (d.a=r) && ((if d.sg=cz then decide (d.b=r) && decide (r∉lH ds)else decide (d∈ds)) && MW ds d.b w)
def f8(w:List ak):List (List WD):=(w.filter λd=>!decide (d.sg=ao)).map (·.sg)
theorem yz(w v:List ak):f8 (w++v)=f8 w++f8 v:=by
 unfold f8;rw[rH,ay]
def Iu(ds:List ak)(d:ak):Prop:=(d.sg=cz->d.b=d.a/\d.a∉lH ds)/\(d.sg≠cz->d∈ds)
inductive Kh(ds:List ak)(r0:WD):List ak->WD->Prop
 |nil:Kh ds r0 [] r0
 |snoc {w:List ak}{d:ak}(h:Kh ds r0 w d.a) (ok:Iu ds d):Kh ds r0 (w++[d]) d.b
theorem Kh.go(h:Kh ds e w r):∀v,MW ds e (w++v)=MW ds r v:=by
 induction h with
 |nil=>intro v;rfl
 |@snoc w d h ok f =>
  intro v;rw[d9,f];show(decide (d.a=d.a) && ((if d.sg=cz then decide (d.b=d.a) && decide (d.a∉lH ds)else decide (d∈ds)) && MW ds d.b v))=MW ds d.b v
  rw[qh rfl];by_cases z:d.sg=cz
  .rw[if_pos z,qh (ok.1 z).1,qh (ok.1 z).2];rfl
  .rw[if_neg z,qh<|ok.2 z];rfl
theorem Kh.ok(h:Kh a e w r):MW a e w=true:=by
 have:=h.go [];rw[eI]at this;rw[this];rfl
theorem Iv{st:aG}{r:WD}{v:Option ak}(h:iQ st r=pe v):(r,v)∈st:=by
 unfold iQ at h;let⟨p,a,rfl⟩:=rV.mp h;have f:=List.find?_some a;have g:=List.mem_of_find?_eq_some a;have e:p.1=r:=of_decide_eq_true f;rw[<-e];exact g
theorem xZ{st:aG}(h:r∈st.map (·.1)):∃v,iQ st r=pe v:=by
 cases q:iQ st r with
 |none=>exact absurd h<|nr.mp q
 |some v=>exact⟨v,pw⟩
theorem Iw{st:aG}(h:r∈st.map (·.1)):iQ (st++x) r=iQ st r:=by
 let⟨v,a⟩:=xZ h;rw[a];unfold iQ at a ⊢;let⟨p,e,rfl⟩:=rV.mp a;rw[List.find?_append,e];rfl
theorem BQ{st:aG}(h:r∉st.map (·.1)):iQ (st++[(r,v)]) r=pe v:=by
 have a:=nr.mpr h;unfold iQ at a ⊢;rw[Option.map_eq_none_iff]at a;rw[List.find?_append,a];show((([(r,v)]:aG).find? λp=>decide (p.1=r)).map (·.2))=pe v;rw[fL,show decide ((r,v).1=r)=true from qh rfl];rfl
theorem bV.at_(x:bV e a b)(h:r∈a.map (·.1)):iQ b r=iQ a r:=by
 induction x with
 |refl=>rfl
 |step y _ _ _ _ f=>rw[Iw<|y.keys r h,f]
theorem yg{st:aG}{r:WD}{d:Option ak}{p:WD×Option ak}(h:p∈jF st r d):p∈st∨p=(r,d):=by
 unfold jF at h;split at h
 .obtain⟨q,a,e⟩:=aV.mp h;by_cases z:q.1=r
  .rw[if_pos z]at e;rw[<-e,z];exact .inr rfl
  .rw[if_neg z]at e;rw[<-e];exact .inl a
 .obtain z|z:=bp.mp h
  .exact .inl z
  .exact .inr (by simpa using z)
theorem mL{st:aG}{r:WD}{d:Option ak}{x:WD}:x∈(jF st r d).map (·.1)↔x∈st.map (·.1)∨x=r:=by
 rw[vH];by_cases z:r∈st.map (·.1)
 .rw[if_pos z];exact⟨.inl,λh=>h.elim id λe=>by rw[e];exact z⟩
 .rw[if_neg z,bp];simp
def vT(rooms:Zb)(ds:List ak)(sg:Zb)(k:WD):List WD:=if sg=cz then(if k∈rooms.filter (fj ds)then[k]else[])else aZ ds (k,sg)
def Kf(ds:List ak)(sg:Zb)(ks:Zb)(p:WD×Option ak):Prop:=∃d,p.2=pe d/\d.b=p.1/\d.sg=sg/\d.a∈ks/\Iu ds d
theorem qU{ds:List ak}{a:Zb}{r:WD}{P:WD×Option ak->Prop}:∀{gs:Zb}{acc:aG},(∀p∈acc,P p)->(∀g∈gs,P (g,pe ⟨r,a,g⟩))->∀p∈iA ds a r gs acc,P p
 |[],_,h,_=>h
 |g::gs,acc,h,e=>qU (ds:=ds) (gs:=gs) (acc:=jF acc g<|some ⟨r,a,g⟩) (λp f=>by
   obtain z|z:=yg f
   .exact h p z
   .rw[z];exact e g cF) λx hx=>e x<|de _ hx
theorem oo:∀{gs:Zb}{a:aG},x∈(iA ds e r gs a).map (·.1)↔x∈a.map (·.1)∨x∈gs
 |[],a=>by show x∈a.map (·.1)↔_;simp
 |g::gs,a=>by
  show x∈(iA ds e r gs<|jF a g<|some ⟨r,e,g⟩).map (·.1)↔_;rw[oo (ds:=ds) (gs:=gs),mL,b_];exact⟨λh=>by obtain(h|h)|h:=h;exact .inl h;exact .inr<|.inl h;exact .inr<|.inr h,λh=>by obtain h|h|h:=h;exact .inl<|.inl h;exact .inl<|.inr h;exact .inr h⟩
theorem Ar:x∈(dW rooms e f a k).map (·.1)↔x∈a.map (·.1)∨x∈vT rooms e f k:=by
 unfold dW vT;by_cases z:f=cz
 .rw[if_pos z,if_pos z];by_cases y:k∈rooms.filter (fj e)
  .rw[if_pos y,if_pos y,mL];simp
  .rw[if_neg y,if_neg y];simp
 .rw[if_neg z,if_neg z,oo]
theorem DX(j:k∈i)(h:∀p∈a,Kf f sg i p):∀p∈dW rooms f sg a k,Kf f sg i p:=by
 unfold dW;by_cases z:sg=cz
 .rw[if_pos z];by_cases y:k∈rooms.filter (fj f)
  .rw[if_pos y];intro p l;obtain x|x:=yg l
   .exact h p x
   .rw[x];have q:=(gv.mp y).2;rw[o9]at q;exact⟨⟨k,cz,k⟩,pw,pw,z.symm,j,λ_=>⟨pw,of_decide_eq_true q⟩,λn=>absurd rfl n⟩
  .rw[if_neg y];exact h
 .rw[if_neg z];exact qU h λg m=>⟨⟨k,sg,g⟩,pw,pw,pw,j,λe=>absurd e z,λ_=>bG.mp m⟩
theorem tW:∀{ks:Zb}{a:aG},x∈(ks.foldl (dW rooms e f) a).map (·.1)↔x∈a.map (·.1)∨∃k∈ks,x∈vT rooms e f k
 |[],a=>by show x∈a.map (·.1)↔_;simp
 |k::ks,a=>by
  show x∈(ks.foldl (dW rooms e f)<|dW rooms e f a k).map (·.1)↔_;rw[tW (ks:=ks),Ar];constructor
  .rintro((h|h)|⟨j,hj,h⟩)
   .exact .inl h
   .exact .inr ⟨k,cF,h⟩
   .exact .inr ⟨j,de _ hj,h⟩
  .rintro(h|⟨j,hj,h⟩)
   .exact .inl<|.inl h
   .obtain rfl|hj:=b_.mp hj
    .exact .inl<|.inr h
    .exact .inr ⟨j,hj,h⟩
theorem yQ{K:Zb}:∀{ks:Zb}{a:aG},(∀k∈ks,k∈K)->(∀p∈a,Kf e f K p)->∀p∈ks.foldl (dW rooms e f) a,Kf e f K p
 |[],_,_,h=>h
 |k::ks,a,g,h=>yQ (ks:=ks) (λx hx=>g x<|de _ hx)<|DX (g k cF) h
theorem qj:x∈(fb rooms a e f).map (·.1)↔∃k∈f,x∈vT rooms a e k:=by
 unfold fb;rw[tW];simp
theorem DQ:∀p∈fb rooms ds a e,Kf ds a e p:=yQ (λ_ h=>h) λ_ h=>nomatch h
def mU(ds:List ak)(a b:aG):Prop:=bV ds a b/\∀r∈b.map (·.1),∀g∈aZ ds (r,ao),g∈b.map (·.1)
inductive m_(rooms:Zb)(ds:List ak):List (List WD)->List aG->aG->Prop
 |nil {st:aG}(h:mU ds [(dP rooms,none)] st):m_ rooms ds [] [] st
 |snoc {story:List (List WD)}{fz:List aG}{st:aG}{sg:Zb}{Rx:aG}(a:m_ rooms ds story fz st) (h:mU ds (fb rooms ds sg (st.map (·.1))) Rx):m_ rooms ds (story++[sg]) (st::fz) Rx
theorem mU.Tf(h:mU k a b):r∈b.map (·.1)↔lJ k (a.map (·.1)) r:=by
 let⟨on,l⟩:=h;constructor
 .clear l;intro m
  induction on generalizing r with
  |refl=>exact⟨r,m,.inl rfl⟩
  |@step n d y o p s t j =>
   rw[ay]at m;obtain z|z:=bp.mp m
   .exact j z
   .have e:r=d.b:=by simpa using z
    have f:(⟨d.a,ao,d.b⟩:ak)∈k:=by
     have:=bG.mp s;rw[o]at this;exact this
    let⟨g,i,q⟩:=j p;rw[e];obtain q|q:=q
    .exact⟨g,i,.inr (.one (by rw[<-q];exact f))⟩
    .exact⟨g,i,.inr<|.step q f⟩
 .rintro⟨g,i,rfl|q⟩
  .exact on.keys _ i
  .induction q with
   |one e=>exact l g (on.keys _ i) _<|bG.mpr e
   |step _ e j=>exact l _ j _<|bG.mpr e
theorem Ha(h:r∉lH a):(⟨r,ao,g⟩:ak)∉a:=λz=>h (aV.mpr ⟨_,gv.mpr ⟨z,by show(!decide (("still":WD)="ask"))=true;decide +kernel⟩,pw⟩)
theorem EE(h:∀g∈a,g∉lH ds):lJ ds a r↔r∈a:=by
 constructor
 .rintro⟨g,f,rfl|q⟩
  .exact f
  .exfalso;have:∀{x},Reach ds g x->∃y,(⟨g,ao,y⟩:ak)∈ds:=by
    intro x q
    induction q with
    |one e=>exact⟨_,e⟩
    |step _ _ i=>exact i
   let⟨y,j⟩:=this q;exact Ha (h g f) j
 .exact λk=>⟨r,k,.inl rfl⟩
section
variable{J0 J2 rooms:Zb}{ds:List ak}
theorem m_.face(m:aE J0 J2 rooms ds){f:List (List WD)}{t:List aG}{st:aG}(h:m_ rooms ds f t st):∀r,r∈st.map (·.1)↔r∈OK rooms ds f:=by
 have l:∀d∈ds,d.b∈rooms:=λd l=>(m.good d l).b
 induction h with
 |@nil st h =>
  intro r;rw[h.Tf];show _↔r∈Qn rooms ds (rooms.take 1);rw[yh,m.take1];have v:∀g∈[dP rooms],g∈rooms:=λg i=>by
   rw[dF.mp i];exact m.first.2
  exact⟨λq=>⟨q.Uh v l,q⟩,λq=>q.2⟩
 |@snoc f t st n w a h p =>
  intro r;rw[h.Tf,CN];have s:∀k∈st.map (·.1),k∈rooms:=λk j=>(yE (by have:=m.A3;nofun) f).1 k<|(p k).mp j;unfold Rb;by_cases z:n=cz
  .rw[if_pos z,gv,decide_eq_true_iff,<-p r];have o:∀g,g∈(fb rooms ds n<|st.map (·.1)).map (·.1)↔g∈st.map (·.1)/\g∉lH ds:=by
    intro g;rw[qj];constructor
    .rintro⟨k,j,i⟩;unfold vT at i;rw[if_pos z]at i;by_cases y:k∈rooms.filter (fj ds)
     .rw[if_pos y]at i;have e:g=k:=by simpa using i
      have q:=(gv.mp y).2;rw[o9]at q;rw[e];exact⟨j,of_decide_eq_true q⟩
     .rw[if_neg y]at i;cases i
    .rintro⟨j,A⟩;apply⟨g,j,?_⟩;unfold vT;rw[if_pos z,if_pos (gv.mpr ⟨s g j,by rw[o9];exact qh A⟩)];exact cF
   rw[EE λg i=>((o g).mp i).2,o]
  .rw[if_neg z,yh];have o:∀g,g∈(fb rooms ds n<|st.map (·.1)).map (·.1)↔g∈mQ ds n (OK rooms ds f):=by
    intro g;rw[qj,qN];unfold vT;simp only[if_neg z];exact⟨λ⟨k,j,i⟩=>⟨k,(p k).mp j,bG.mp i⟩,λ⟨k,j,i⟩=>⟨k,(p k).mpr j,bG.mpr i⟩⟩
   constructor
   .rintro⟨g,i,q⟩;have u:lJ ds (mQ ds n<|OK rooms ds f) r:=⟨g,(o g).mp i,q⟩;exact⟨u.Uh (λx hx=>by let⟨y,_,B⟩:=qN.mp hx;exact l _ B) l,u⟩
   .rintro⟨_,g,i,q⟩;exact⟨g,(o g).mpr i,q⟩
theorem m_.kin(m:aE J0 J2 rooms ds){e:List (List WD)}{g:List aG}{st:aG}(h:m_ rooms ds e g st):wH rooms st:=by
 have f:∀d∈ds,d.b∈rooms:=λd f=>(m.good d f).b;apply⟨?_,λr i=>(yE (by have:=m.A3;nofun) e).1 r<|(h.face m r).mp i⟩;cases h with
 |nil h=>exact h.1.nodup ∅
 |snoc a h=>exact h.1.nodup (mz f _).nd
end
inductive wJ:List aG->aG->WD->List ak->Prop
 |stop {fz:List aG}{st:aG}{r:WD}(h:iQ st r=pe none):wJ fz st r []
 |still {fz:List aG}{st:aG}{r:WD}{d:ak}{ws:List ak}(h:iQ st r=pe (pe d)) (e:d.sg=ao) (b:wJ fz st d.a ws):wJ fz st r (d::ws)
 |pop {fz:List aG}{st Rx:aG}{r:WD}{d:ak}{ws:List ak}(h:iQ st r=pe (pe d)) (e:d.sg≠ao) (b:wJ fz Rx d.a ws):wJ (Rx::fz) st r (d::ws)
section
variable{J0 J2 rooms:Zb}{ds:List ak}
theorem wx{q:List aG}{a st:aG}{f:List (List WD)}{N:Nat}(h:bV ds a st)(base:∀r∈a.map (·.1),∃w,Kh ds (dP rooms) w r/\f8 w=f/\w.length<=N+a.length/\wJ q st r w.reverse):
  ∀{b:aG},bV ds a b->bV ds b st->∀r∈b.map (·.1),∃w,Kh ds (dP rooms) w r/\f8 w=f/\w.length<=N+b.length/\wJ q st r w.reverse:=by
 intro b j
 induction j with
 |refl=>exact λ_=>base
 |@step b d y k s j t u =>
  intro on r v;have g:bV ds b st:=(bV.step (.refl b) k s j t).trans on;rw[ay]at v;obtain z|z:=bp.mp v
  .obtain⟨w,l,m,x,n⟩:=u g r z;exact⟨w,l,m,by rw[aH];nofun,n⟩
  .have e:r=d.b:=by simpa using z
   let⟨w,l,m,x,n⟩:=u g d.a s;have i:d.b∈(b++[(d.b,pe d)]).map (·.1):=by rw[ay];exact cE _ ∅
   have o:iQ st d.b=pe (pe d):=by rw[on.at_ i,BQ t]
   have p:d∈ds:=bG.mp j;have A:d.sg≠cz:=by rw[k];exact λz=>K_ z.symm
   rw[e];apply⟨w++[d],.snoc l ⟨λz=>absurd z A,λ_=>p⟩,?_,?_,?_⟩
   .rw[yz,m];have:f8 [d]=[]:=by unfold f8;rw[List.filter_cons_of_neg (by rw[k];simp)];rfl
    rw[this,eI]
   .rw[aH,aH];show w.length+1<=N+(b.length+1);nofun
   .rw[uM];exact .still o k n
theorem m_.back(m:aE J0 J2 rooms ds){f:List (List WD)}{l:List aG}{st:aG}(h:m_ rooms ds f l st):(∀g∈f,g≠ao)->∀r∈st.map (·.1),∃w,Kh ds (dP rooms) w r/\f8 w=f/\w.length<=f.length * 151+st.length/\wJ l st r w.reverse:=by
 induction h with
 |@nil st h =>
  intro _;refine wx (N:=0) h.1 (λr i=>?_) h.1<|.refl _;have e:r=dP rooms:=by simpa using i
  apply⟨[],by rw[e];exact .nil,pw,cw _,.stop ?_⟩;rw[h.1.at_ i,e];exact BQ (st:=[]) ∅
 |@snoc f l st g u a h x =>
  intro q;have n:∀s∈f,s≠ao:=λs y=>q s<|ej _ y;have j:g≠ao:=q g (cE _ ∅);have I:=(a.kin m).len;have z:=m.A3;refine wx (N:=(f++[g]).length * 151) h.1 (λr i=>?_) h.1<|.refl _;let⟨v,t⟩:=xZ i;let⟨d,A,B,o,C,D⟩:=DQ (r,v)<|Iv t;have p:v=pe d:=A;have k:d.b=r:=B;subst p;let⟨w,E,G,J,H⟩:=x n d.a C;rw[<-k];apply⟨w++[d],.snoc E D,?_,?_,?_⟩
  .rw[yz,G];have:f8 [d]=[g]:=by unfold f8;rw[List.filter_cons_of_pos (by rw[o];simp[j])];show[d.sg]=_;rw[o]
   rw[this]
  .rw[aH,aH];show w.length+1<=(f.length+1) * 151+_;nofun
  .rw[uM];exact .pop (by rw[k,h.1.at_ i];exact t) (by rw[o];exact j) H
end
def HE(K:Za)(H:Hp)(v:V):Option ak->Prop
 |none=>v=.L'
 |some d=>∃t s,v=.ref t/\H t=pe (.tup [.str d.a,.ref s,.str d.b])/\bN K H s (d.sg.map V.str)
theorem HE.kt{K:Za}(k:g_ H a)(h:HE K H v o):HE K a v o:=by
 cases o with
 |none=>exact h
 |some d =>
  let⟨t,s,e,f,g⟩:=h;exact⟨t,s,e,k _ _ f,bN.kt k g⟩
def Vs(K:Za)(H:Hp)(kv:cD×V)(p:WD×Option ak):Prop:=kv.1=.inr p.1/\HE K H kv.2 p.2
abbrev gU(K:Za)(H:Hp)(kvs:List<|cD×V)(st:aG):Prop:=Paired (Vs K H) kvs st
theorem gU.kt{K:Za}{H e:Hp}{a:List (cD×V)}{st:aG}(k:g_ H e)(h:gU K H a st):gU K e a st:=Paired.OJ h λ_ _ r=>⟨r.1,r.2.kt k⟩
theorem gU.look{K:Za}:∀{e:List (cD×V)}{st:aG},gU K H e st->(c8 e (.inr r:cD)=none/\iQ st r=none)∨∃v o,c8 e (.inr r:cD)=pe v/\iQ st r=pe o/\HE K H v o
 |_,_,.nil=>.inl ⟨pw,pw⟩
 |_,_,.cons (a:=f) (b:=p) (l₁:=e) (l₂:=st) h t=>by
  let⟨g,i⟩:=h;by_cases c:p.1=r
  .refine .inr ⟨f.2,p.2,?_,?_,i⟩
   .unfold c8;rw[fL,g,qh (by rw[c])];rfl
   .unfold iQ;rw[fL,qh c];rfl
  .have j:c8 (f::e) (.inr r:cD)=c8 e (.inr r:cD):=by
    unfold c8;rw[fL,g,qb (λz=>c (by injection z))]
   have k:iQ (p::st) r=iQ st r:=by
    unfold iQ;rw[fL,qb c]
   rw[j,k];exact gU.look t
theorem gU.keys{K:Za}:∀{a:List (cD×V)}{st:aG},gU K H a st->(a.map λe=>kV e.1)=(st.map (·.1)).map V.str
 |_,_,.nil=>rfl
 |_,_,.cons h t=>by
  rw[bP,bP,bP,gU.keys t,h.1];rfl
theorem gU.put{K:Za}{H:Hp}{e:List (cD×V)}{st:aG}{r:WD}{v:V}{o:Option ak}(h:gU K H e st)(g:HE K H v o):gU K H (eQ e (.inr r:cD) v) (jF st r o):=by
 have i:(e.any λj=>decide (j.1=(.inr r:cD)))=st.any λp=>decide (p.1=r):=by
  induction h with
  |nil=>rfl
  |cons a t f =>
   rw[mi,mi,f,a.1];congr 1;exact decide_eq_decide.2 ⟨λz=>by injection z,λz=>by rw[z]⟩
 unfold eQ jF;rw[i];split
 .next k =>
  clear i k
  induction h with
  |nil=>exact .nil
  |@cons j p e st a t f =>
   rw[bP,bP];refine .cons ?_ f;by_cases c:p.1=r
   .rw[if_pos (by rw[a.1,c]),if_pos c];exact⟨a.1,g⟩
   .rw[if_neg (by rw[a.1];intro z;exact c (by injection z)),if_neg c];exact a
 .exact dI h ⟨pw,g⟩
inductive nF(K:Za)(C:Wv)(vs:List V)(H:Hp)(Q:VK)(E:XK):Prop
 |mk (H0:Hp) (x d:Wv) (kvs:List (cD×V)) (st:aG) (J0 J2 rooms:Zb) (ds:List ak):vs=[.ref x,.ref d]->bE C H0 x J0 J2 rooms ds->H0 d=none->ac H0 H->H d=pe (.dK kvs)->gU K H kvs st->(wH rooms st) ->
  (∀(Td:List (cD×V)) (Rx:aG) (H':Hp),H' d=pe (.dK Td)->gU K H' Td Rx->mU ds st Rx->cY d H H'->Q .L' H')->nF K C vs H Q E
inductive GZa(K:Za)(H:Hp)(x d s:Wv)(A:List ak)(st:aG)(σ:L2.St)(G:Hp)(f:Zb)(j:aG):Prop
 |mk(m:List<|cD×V)(x3 Y:Option V):σ=[pe<|.ref x,pe<|.ref d,pe<|.ref s,x3,Y]->G d=pe (.dK m)->gU K G m j->G s=pe (.lst<|f.map V.str)->Wt A st j f->(∀b o,H b=pe o->b≠d->G b=pe o)->GZa K H x d s A st σ G f j
inductive GZb(K:Za)(H:Hp)(x d s:Wv)(A:List ak)(st:aG)(room:WD)(a b i:Nat)(σ:L2.St)(I:Hp):Prop
 |mk(m:List<|cD×V)(j:aG)(f:Zb)(Y:Option V):σ=[pe<|.ref x,pe<|.ref d,pe<|.ref s,pe<|.str room,Y]->I d=pe (.dK m)->gU K I m j->I s=pe (.lst<|f.map V.str)->bV A st j->room∈j.map (·.1)->(∀r∈f,r∈j.map (·.1))->(∀r∈j.map (·.1),r=room∨r∈f∨∀g∈aZ A (r,ao),g∈j.map (·.1))->(∀g∈(aZ A (room,ao)).take i,g∈j.map (·.1))->f.length+2 * (a-j.length)<b->(∀b o,H b=pe o->b≠d->b≠s->I b=pe o)->GZb K H x d s A st room a b i σ I
theorem GZ{K:Za}(ha:∀H,bj K H a<|ao.map V.str)(h:nF K C vs H Q E):pX K C (jg K C) a (bH Q) (start rB vs) H:=by
 let⟨H0,x,d,a0,st,J0,J2,rooms,A,rfl,MA,b0,S0,hd,a4,kin,k⟩:=h;have z3:=MA.ok.A3;have a5:=MA.ok.good;have gd:∀q∈A,q.b∈rooms:=λq hq=>(a5 q hq).b;have rm:∀{j},bV A st j->j.length<=rooms.length:=fun{j} o=>by
  have:=jl (o.nodup kin.nd)<|o.rooms kin.inr gd λhg=>bG.mp hg;simpa using this
 apply⟨_,pw,.inr ⟨d,a0,pw,.inl hd,λs B=>?_⟩⟩;rw[a4.keys];have S1:=ac.new (o:=.lst<|(st.map (·.1)).map V.str) B;have a6:=WI H s (.lst<|(st.map (·.1)).map V.str);have as:s≠d:=(ag hd B).symm;have co:H0 s=none:=S0.free B;generalize upd H s (.lst<|(st.map (·.1)).map V.str)=H1 at S1 a6 ⊢;apply⟨λn σ G=>∃f j,GZa K H x d s A st σ G f j/\n=f.length+2 * (rooms.length-j.length)/\n<=300,
  ⟨_,st.map (·.1),st,⟨a0,_,_,pw,S1 _ _ hd,a4.kt<|ac.kt S1,a6,⟨.refl _,λr h=>h,λr h=>.inl h⟩,λb o e _=>S1 _ _ e⟩,pw,by rw[am];have:=rm<|.refl st;nofun⟩,?_⟩
 rintro n σ G ⟨f,L,⟨D,x3,Y,rfl,a7,ab,M,W,a8⟩,rfl,cn⟩;apply⟨_,pw,.inl ⟨s,_,pw,.inl<|aA.of M,_,_,pw,pw,_,pw,?_⟩⟩;rw[am];obtain e0|⟨u,room,e1⟩:=List.eq_nil_or_concat f
 .rw[e0,qb (by show ¬(0:Int)<(([]:Zb).length:Nat);decide)];refine aY<|k D L G a7 ab ⟨W.on,λr hr=>?_⟩ λb o e nb=>a8 b o e nb;obtain z|z:=W.done r hr
  .rw[e0]at z;cases z
  .exact z
 rw[List.concat_eq_append]at e1;subst e1;rw[qh (by show(0:Int)<((u++[room]).length:Nat);rw[aH];show(0:Int)<((u.length+1:Nat));nofun)];refine bo ?_;have l1:=rm W.on;apply⟨fun σ' I=>∃f j,GZa K H x d s A st σ' I f j/\f.length+2 * (rooms.length-j.length)<(u++[room]).length+2 * (rooms.length-L.length),?_,?_⟩
 .rintro σ' I ⟨f,j,y,z⟩;exact⟨_,z,f,j,y,pw,by nofun⟩
 apply⟨_,pw,.inl ⟨pw,_,aA.of M⟩,s,_,.str room,pw,pw,M,?_,?_⟩
 .rw[ay,aH,iF (by show _<=_+1-1;nofun)];show[V.str room][_+1-1-_]?=_;rw[uL,j4];rfl
 have b7:((u++[room]).map V.str).dropLast=u.map V.str:=by
  rw[ay];exact yX
 rw[b7];have b8:g_ G (upd G s<|.lst<|u.map V.str):=dO M;have aC:upd G s (.lst<|u.map V.str) d=pe (.dK D):=by rw[aj as.symm];exact a7
 have aT:=WI G s (.lst<|u.map V.str);have aX:∀b o,H b=pe o->b≠d->upd G s (.lst<|u.map V.str) b=pe o:=λb o e nb=>by rw[aj<|ag e B];exact a8 b o e nb
 have al:=ab.kt b8;generalize upd G s (.lst<|u.map V.str)=G2 at aC aT aX al ⊢;have b9:ac H0 G2:=λb o e=>aX _ _ (S0 _ _ e)<|ag e b0;have M2:=MA.same b9;let⟨dm,fm,_,_,_,_,_,_,_,_,_,_,_,_,q1,_,q2,_⟩:=M2.at_;apply⟨_,pw,x,dm,fm,pw,q1,q2,_,pw,x,a,room,ao,J0,J2,rooms,A,pw,M2,ha _,λgl G3 a9 bd S3=>⟨gl,pw,⟨_,aA.of a9⟩,?_⟩⟩;have cb:gl≠d:=(ag aC bd).symm;have cc:gl≠s:=(ag aT bd).symm;refine cr (xs:=(aZ A (room,ao)).map V.str) (GZb K G3 x d s A st room rooms.length<|(u++[room]).length+2 * (rooms.length-L.length))
  ⟨D,L,u,_,pw,S3 _ _ aC,al.kt<|ac.kt S3,S3 _ _ aT,W.on,W.there room ∅,λr h=>W.there r (by simp[h]),λr h=>?_,by simp,by simp,λ_ _ e _ _=>e⟩ (λi σ' I _ zq=>by let⟨_,_,_,_,_,_,_,_,_,_,_,_,_,_,ex⟩:=zq;exact aA.of<|ex _ _ a9 cb cc) ?_ ?_
 .obtain z|z:=W.done r h
  .obtain z|z:=bp.mp z
   .exact .inr<|.inl z
   .exact .inl (by simpa using z)
  .exact .inr<|.inr z
 .rintro i y σ' G4 hy ⟨l,p,w4,ce,rfl,J,t,N,on,ir,th,dn,tk,lt,O⟩;let⟨g,hg,rfl⟩:=bJ hy;have bi:∀{T:aG},g∈T.map (·.1)->(∀y∈p.map (·.1),y∈T.map (·.1))->∀y∈(aZ A (room,ao)).take (i+1),y∈T.map (·.1):=fun{T} h1 h2 y hy=>by
   rw[take_snoc hg]at hy;obtain z|z:=bp.mp hy
   .exact h2 y<|tk y z
   .rw[dF.1 z];exact h1
  have gi:g∈aZ A (room,ao):=cH hg;apply⟨_,pw,_,pw,d,_,pw,.inl ⟨l,.inr g,.inl J,pw,pw⟩,_,pw,?_⟩;obtain⟨e1,e2⟩|⟨v,o,e1,e2,_⟩:=t.look (r:=g)
  .rw[e1];refine bo ?_;have ng:g∉p.map (·.1):=nr.1 e2;apply⟨_,pw,_,pw,Q3,λw ch=>?_⟩;let⟨G5,WH,S5,t5⟩:=WG (o:=.tup [.str room,.ref a,.str g]) ch;rw[WH];have bl:=S5 _ _ J;have ci:=S5 _ _ N;have bm:bV A st (p++[(g,pe (⟨room,ao,g⟩:ak))]):=.step (d:=⟨room,ao,g⟩) on rfl ir gi ng;have l3:=rm bm;rw[aH]at l3;have l3:p.length+1<=rooms.length:=l3;have zk:l.length=p.length:=Paired.length t;apply⟨_,pw,_,pw,d,_,pw,.inl ⟨l,.inr g,bl,pw,by rw[lT];nofun,pw⟩,?_⟩;have ck:g_ G5 (upd G5 d<|.dK<|eQ l (.inr g)<|.ref w):=λb xs q=>by rw[aj (λz=>by rw[z,bl]at q;cases q)];exact q
   have an:gU K (upd G5 d<|.dK<|eQ l (.inr g)<|.ref w) (eQ l (.inr g)<|.ref w) (p++[(g,pe (⟨room,ao,g⟩:ak))]):=by
    rw[<-xY ng];exact((t.kt<|ac.kt S5).put (o:=pe (⟨room,ao,g⟩:ak)) ⟨w,a,pw,t5,zX ha _⟩).kt ck
   have U:upd G5 d (.dK<|eQ l (.inr g)<|.ref w) s=pe (.lst<|w4.map V.str):=by rw[aj as];exact ci
   have bn:=WI G5 d (.dK<|eQ l (.inr g)<|.ref w);have bw:∀b o,G5 b=pe o->b≠d->upd G5 d (.dK<|eQ l (.inr g)<|.ref w) b=pe o:=λb o q n=>by rw[aj n];exact q
   generalize upd G5 d (.dK<|eQ l (.inr g)<|.ref w)=G6 at an U bn bw ⊢;have k3:∀y∈p.map (·.1),y∈(p++[(g,pe (⟨room,ao,g⟩:ak))]).map (·.1):=λy h=>by rw[ay];exact ej _ h
   have kg:g∈(p++[(g,pe (⟨room,ao,g⟩:ak))]).map (·.1):=by rw[ay];exact cE _ ∅
   apply⟨_,pw,.inl ⟨pw,_,aA.of U⟩,_,pw,s,_,_,pw,pw,U,by rw[am];exact ax ⋯,?_⟩;have cl:g_ G6 (upd G6 s<|.lst<|w4.map V.str++[.str g]):=dO U;apply⟨_,_,w4++[g],_,pw,by rw[aj as.symm];exact bn,an.kt cl,by rw[aa,ay];rfl,bm,k3 _ ir,λr h=>?_,λr h=>?_,bi kg k3,?_,λb o q n1 n2=>?_⟩
   .obtain h|h:=bp.1 h
    .exact k3 r<|th r h
    .rw[dF.1 h];exact kg
   .rw[ay]at h;obtain h|h:=bp.1 h
    .obtain z|z|z:=dn r h
     .exact .inl z
     .exact .inr<|.inl<|ej _ z
     .exact .inr<|.inr λy hy=>k3 y<|z y hy
    .have:r=g:=by simpa using h
     rw[this];exact .inr (.inl (cE _ ∅))
   .rw[aH,aH];have:([g]:Zb).length=1:=rfl;have:([(g,pe (⟨room,ao,g⟩:ak))]:aG).length=1:=rfl;nofun
   .rw[aj n2];exact bw _ _ (S5 _ _<|O _ _ q n1 n2) n1
  .rw[e1];refine aY ?_;have cm:g∈p.map (·.1):=by
    cases Classical.em (g∈p.map (·.1))with
    |inl h=>exact h
    |inr h=>rw[nr.2 h]at e2;cases e2
   exact⟨l,p,w4,_,pw,J,t,N,on,ir,th,dn,bi cm λ_ h=>h,lt,O⟩
 .rintro σ' G4 ⟨l,p,w4,ce,rfl,J,t,N,on,ir,th,dn,tk,lt,O⟩;rw[am,bC]at tk;apply⟨w4,p,⟨l,_,_,pw,J,t,N,⟨on,th,λr h=>?_⟩,λb o e nb=>O _ _ (S3 _ _<|aX b o e nb) nb<|ag e B⟩,lt⟩;obtain z|z|z:=dn r h
  .rw[z];exact .inr tk
  .exact .inl z
  .exact .inr z
theorem Lf{d:Wv}{o:Obj}{a:List (cD×V)}{g:TG}{k:TS}{D:gm}{σ:L2.St}{H:Hp}(Pv:Nat->L2.St->Hp->Prop)(n:Pv 0 σ H)(r:∀i σ H,i<=a.length->Pv i σ H->H d=pe (.PF o<|.dK a))
  (s:∀i h σ H,a[i]?=pe h->Pv i σ H->g (kV h.1) σ H fun σ2 j=>k {D with nx:=Pv<|i+1,ct:=Pv<|i+1,bk:=D.nx} σ2 j) (t:∀σ H,Pv a.length σ H->D.nx σ H) :
  ∃W:Nat->Nat->L2.St->Hp->Prop,(∃m,W 0 m σ H)/\∀i m σ H,W i m σ H ->
   ((Nc d o a).stop i H/\D.nx σ H)∨((Nc d o a).go i H/\∃N:L2.St->Hp->Prop,(∀σ' f,N σ' f->∃l,l<m/\W (i+1) l σ' f)/\∀x f,(Nc d o a).Sq i H x f->g x σ f fun σ2 j=>k {D with nx:=N,ct:=N,bk:=D.nx} σ2 j):=by
 apply⟨λi m σ H=>m=a.length-i/\i<=a.length/\Pv i σ H,⟨a.length,by simp,cw _,n⟩,?_⟩;rintro i m σ H ⟨rfl,hi,p⟩;have q:=r i σ H hi p;by_cases lt:i<a.length
 .refine .inr ⟨⟨q,lt⟩,Pv<|i+1,fun σ' f u=>⟨a.length-(i+1),by nofun,pw,lt,u⟩,λx f y=>?_⟩;let⟨rfl,h,v,rfl⟩:=y;exact s i h σ _ v p
 .have e:i=a.length:=by nofun
  subst e;exact .inl ⟨⟨q,aB _⟩,t σ H p⟩
inductive jG(K:Za)(C:Wv)(vs:List V)(H:Hp)(Q:VK)(E:XK):Prop
 |mk (H0:Hp) (x d su:Wv) (kvs:List (cD×V)) (st:aG) (sg:Sg) (J0 J2 rooms:Zb) (ds:List ak):vs=[.ref x,.ref d,.ref su]->bE C H0 x J0 J2 rooms ds->H0 d=none->ac H0 H->H d=pe (.dK kvs)->gU K H kvs st->(bN K H su (sg.map V.str)) ->
  (∀(o:Obj) (d':Wv) (Td:List (cD×V)) (H':Hp),H' d=pe (.PF o (.dK kvs))->H' d'=pe (.dK Td)->H d'=none->gU K H' Td (fb rooms ds sg (st.map (·.1)))->cY d H H'->Q (.ref d') H')->jG K C vs H Q E
theorem BT{K:Za}(hh:∀H,bj K H J<|cz.map V.str)(h:jG K C vs H Q E):Dr K J C (jL C) (jg K C) (bH Q) (start ER vs) H:=by
 let⟨H0,x,d,D,f,st,sg,J0,J2,rooms,ds,rfl,MA,a4,S0,hd,ab,a5,k⟩:=h;have z3:=MA.ok.A3;have al:∀q∈ds,q.b∈rooms:=λq hq=>(MA.ok.good q hq).b;refine λe m=>?_;have S1:=ac.new (o:=.dK []) m;have d1:=WI H e (.dK []);have L:e≠d:=(ag hd m).symm;have b2:H0 e=none:=S0.free m;generalize upd H e (.dK [])=Y at S1 d1 ⊢;apply⟨_,pw,d,f,pw,.inl ⟨S1 _ _ hd,λo=>?_⟩⟩;have a6:g_ Y (upd Y d<|.PF o<|.dK f):=λb xs q=>by rw[aj (λz=>by rw[z,S1 _ _ hd]at q;cases q)];exact q
 have d2:=WI Y d (.PF o<|.dK f);have an:upd Y d (.PF o<|.dK f) e=pe (.dK []):=by rw[aj L];exact d1
 have M:∀b u,H b=pe u->b≠d->upd Y d (.PF o<|.dK f) b=pe u:=λb u q n=>by rw[aj n];exact S1 _ _ q
 generalize upd Y d (.PF o<|.dK f)=H2 at a6 d2 an M ⊢;have zk:f.length=(st.map (·.1)).length:=by rw[Paired.length ab,am]
 refine Lf (λi σ G=>∃(a:List<|cD×V) (x4 x5:Option V),σ=[pe<|.ref x,pe<|.ref d,pe<|.ref D,pe<|.ref e,x4,x5]/\G e=pe (.dK a)/\gU K G a (fb rooms ds sg<|(st.map (·.1)).take i)/\∀b u,H2 b=pe u->b≠e->G b=pe u)
  ⟨[],_,_,pw,an,.nil,λ_ _ q _=>q⟩ (λi σ G _ zq=>by let⟨_,_,_,_,_,_,ex⟩:=zq;exact ex _ _ d2 L.symm) ?_ ?_
 .rintro i kv σ G hi ⟨a,x4,x5,rfl,N,I,ex⟩;let⟨p,hp,a7,_⟩:=Paired.getL ab hi;have hr:(st.map (·.1))[i]?=pe p.1:=by rw[eL,hp];rfl
  have a8:kV kv.1=V.str p.1:=by rw[a7];rfl
  rw[a8];have es:=Am (rooms:=rooms) (ds:=ds) (sg:=sg) hr;have Vh:∀b u,H b=pe u->b≠d->G b=pe u:=λb u q n=>ex _ _ (M b u q n)<|ag q m;have a9:ac H0 G:=λb u q=>Vh _ _ (S0 _ _ q)<|ag q a4;have bd:g_ H G:=λb xs q=>Vh b _ q λz=>by rw[z,hd]at q;cases q
  have MG:=MA.same a9;have kin:wH rooms (fb rooms ds sg<|(st.map (·.1)).take i):=mz al _;have as:a.length<=150:=by rw[Paired.length I];exact bh kin.len z3
  generalize fb rooms ds sg ((st.map (·.1)).take i)=base at I kin es as;let⟨dm,fm,_,_,_,_,_,_,_,_,_,_,_,_,q1,qi,q2,_⟩:=MG.at_;have t:=bN.kt bd a5;apply⟨_,pw,iB sg,iB cz,cN<|bN.sq t,cN<|hh G,by rw[dC];decide,by rw[dC];decide,_,pw,?_⟩;rw[jS];by_cases cs:sg=cz
  .rw[qh cs];refine bo ?_;apply⟨_,pw,x,dm,fm,pw,q1,qi,_,pw,x,p.1,J0,J2,rooms,ds,pw,MG,_,pw,?_⟩;by_cases cq:p.1∈rooms.filter (fj ds)
   .rw[qh cq];refine bo ⟨_,pw,_,pw,Q3,λs O=>?_⟩;have A:=ac.new (o:=.tup [.str p.1,.ref J,.str p.1]) O;have t3:=WI G s (.tup [.str p.1,.ref J,.str p.1]);have T:=A _ _ N;have aC:=I.kt<|ac.kt A;apply⟨_,pw,_,pw,e,_,pw,.inl ⟨a,.inr p.1,T,pw,by rw[lT];nofun,pw⟩,?_⟩;generalize upd G s (.tup [.str p.1,.ref J,.str p.1])=G3 at A t3 T aC ⊢;have bi:g_ G3 (upd G3 e<|.dK<|eQ a (.inr p.1)<|.ref s):=λb xs q=>by rw[aj (λz=>by rw[z,T]at q;cases q)];exact q
    apply⟨_,_,_,pw,aa,?_,λb u q n=>by rw[aj n];exact A _ _<|ex b u q n⟩;rw[es];unfold dW;rw[if_pos cs,if_pos cq];exact(aC.put (o:=pe (⟨p.1,cz,p.1⟩:ak)) ⟨s,J,pw,t3,zX hh _⟩).kt bi
   .rw[qb cq];refine aY ⟨a,_,_,pw,N,?_,ex⟩;rw[es];unfold dW;rw[if_pos cs,if_neg cq];exact I
  .rw[qb cs];refine aY ?_;apply⟨_,pw,x,dm,fm,pw,q1,q2,_,pw,_,pw,x,D,p.1,sg,J0,J2,rooms,ds,pw,MG,bN.sq t,λgl G3 aT bl A=>⟨gl,pw,⟨_,aA.of aT⟩,?_⟩⟩;have bm:gl≠e:=(ag N bl).symm;have ep:∀acc:aG,dW rooms ds sg acc p.1=iA ds sg p.1 (aZ ds (p.1,sg)) acc:=λacc=>by unfold dW;rw[if_neg cs]
   have gg:∀g∈aZ ds (p.1,sg),g∈rooms:=λg hg=>al _<|bG.mp hg;refine cr (xs:=(aZ ds (p.1,sg)).map V.str) (λj σ G'=>∃(v:List<|cD×V) (x5:Option V),σ=[pe<|.ref x,pe<|.ref d,pe<|.ref D,pe<|.ref e,pe<|.str p.1,x5]/\G' e=pe (.dK v)/\gU K G' v (iA ds sg p.1 ((aZ ds (p.1,sg)).take j) base)/\∀b u,G3 b=pe u->b≠e->G' b=pe u)
    ⟨a,_,pw,A _ _ N,I.kt<|ac.kt A,λ_ _ q _=>q⟩ (λj σ G' _ zq=>by let⟨_,_,_,_,_,bn⟩:=zq;exact aA.of<|bn _ _ aT bm) ?_ ?_
   .rintro j y σ G4 hy ⟨l,bw,rfl,U,w,B⟩;let⟨g,hg,rfl⟩:=bJ hy;have aX:=wH.goals (ds:=ds) (sg:=sg) (r:=p.1) (gs:=(aZ ds (p.1,sg)).take j) kin λg hg=>gg g<|j5 hg;have z4:l.length<=150:=by rw[Paired.length w];exact bh aX.len z3
    apply⟨_,pw,_,pw,_,pw,Q3,λs O=>?_⟩;let⟨G5,WH,S5,t5⟩:=WG (o:=.tup [.str p.1,.ref D,.str g]) O;rw[WH];have a0:=S5 _ _ U;have b0:g_ G G5:=λb xs q=>S5 _ _ (B _ _ (A _ _ q) λz=>by rw[z,N]at q;cases q);apply⟨_,pw,_,pw,e,_,pw,.inl ⟨l,.inr g,a0,pw,by rw[lT];nofun,pw⟩,?_⟩;have b1:g_ G5 (upd G5 e<|.dK<|eQ l (.inr g)<|.ref s):=λb xs q=>by rw[aj (λz=>by rw[z,a0]at q;cases q)];exact q
    apply⟨_,_,pw,aa,?_,λb u q n=>by rw[aj n];exact S5 _ _<|B _ _ q n⟩;rw[take_snoc hg];unfold iA;rw[uP];exact((w.kt<|ac.kt S5).put (o:=pe (⟨p.1,sg,g⟩:ak)) ⟨s,D,pw,t5,bN.kt b0 t⟩).kt b1
   .rintro σ G4 ⟨l,bw,rfl,U,w,B⟩;rw[am,bC]at w;apply⟨l,_,_,pw,U,?_,λb u q n=>B _ _ (A _ _<|ex b u q n) n⟩;rw[es,ep];exact w
 .rintro σ G ⟨a,x4,x5,rfl,N,I,ex⟩;rw[zk,bC]at I;exact⟨_,pw,k o e a G (ex _ _ d2 L.symm) N m I λb u q n=>ex _ _ (M b u q n)<|ag q m⟩
def ke(K:Za)(H:Hp)(a:Wv)(st:aG):Prop:=∃(o:Obj) (kvs:List<|cD×V),H a=pe (.PF o<|.dK kvs)/\gU K H kvs st
theorem ke.ex{K:Za}{H i:Hp}{a c:Wv}{st:aG}{f:List (cD×V)}(h:ke K H a st)(j:H c=pe (.dK f))(e:cY c H i):ke K i a st:=by
 let⟨o,k,g,l⟩:=h;exact⟨o,k,e _ _ g (λz=>by rw[z,j]at g;cases g),l.kt λb xs q=>e _ _ q λz=>by rw[z,j]at q;cases q⟩
theorem ke.same{K:Za}{H e:Hp}{a:Wv}{st:aG}(h:ke K H a st)(S:ac H e):ke K e a st:=by
 let⟨o,f,g,i⟩:=h;exact⟨o,f,S _ _ g,i.kt<|ac.kt S⟩
inductive nE(K:Za)(C:Wv)(vs:List V)(H:Hp)(Q:VK)(E:XK):Prop
 |mk (x sl:Wv) (story:List Sg) (J0 J2 rooms:Zb) (ds:List ak):vs=[.ref x,.ref sl]->bE C H x J0 J2 rooms ds->gS K H sl story->(story.length<=1101) ->
  (∀(al d:Wv) (as:Ze) (kvs:List (cD×V)) (fz:List aG) (st:aG) (H':Hp),m_ rooms ds story fz st->H' al=pe (.lst ((as++[d]).map V.ref))->H al=none->Paired (ke K H') as fz.reverse->H' d=pe (.dK kvs)->gU K H' kvs st->ac H H'->Q (.ref al) H')->nE K C vs H Q E
theorem GY{K:Za}(h:nE K C vs H Q E):wU K (nF K C) (jG K C) C (mB C) (bH Q) (start xF vs) H:=by
 let⟨x,sl,l,J0,J2,rooms,ds,rfl,MA,⟨gs,aX,a0⟩,zs,k⟩:=h;have m:=MA.ok;have z3:=m.A3;let⟨ef,b7⟩:=m.first;refine λd hd=>?_;let⟨H1,WH,S1,d1⟩:=WG (o:=.dK []) hd;rw[WH];let⟨dm,fm,_,_,_,_,_,_,_,_,_,_,_,_,q1,_,_,_,q4,_⟩:=(MA.same S1).at_;apply⟨_,pw,x,dm,fm,pw,q1,q4,x,J0,J2,rooms,ds,pw,MA.same S1,λrl b8=>?_⟩;let⟨H2,WH,S2,r2⟩:=WG (o:=.lst<|rooms.map V.str) b8;rw[WH];have b9:(rooms.map V.str)[0]?=pe (.str<|dP rooms):=by rw[eL,ef];rfl
 apply⟨rl,_,0,.str<|dP rooms,pw,pw,aA.of r2,bA (j:=0) b9,?_⟩;have d2:=S2 _ _ d1;apply⟨d2,[(.inr<|dP rooms,.L')],pw,(by show 1<=15;decide),?_⟩;have cb:g_ H2 (upd H2 d<|.dK<|fP [] [(.inr<|dP rooms,.L')]):=λb xs q=>by rw[aj (λz=>by rw[z,d2]at q;cases q)];exact q
 have d3:upd H2 d (.dK<|fP [] [(.inr<|dP rooms,.L')]) d=pe (.dK [(.inr<|dP rooms,.L')]):=aa;have a4:∀b o,H b=pe o->upd H2 d (.dK<|fP [] [(.inr<|dP rooms,.L')]) b=pe o:=λb o q=>by rw[aj<|ag q hd];exact S2 _ _<|S1 _ _ q
 generalize upd H2 d (.dK<|fP [] [(.inr<|dP rooms,.L')])=H3 at cb d3 a4 ⊢;have O:ac H H3:=a4;apply⟨_,pw,Q1,λg a5=>?_⟩;have S4:=ac.new (o:=.lst [.ref d]) a5;have I:upd H3 g (.lst [.ref d]) g=pe (.lst<|([]++[d]:Ze).map V.ref):=aa;have a6:H g=none:=O.free a5;generalize upd H3 g (.lst [.ref d])=H4 at S4 I ⊢;have d4:=S4 _ _ d3;have a7:gU K H4 [(.inr<|dP rooms,.L')] [(dP rooms,none)]:=.cons ⟨pw,pw⟩ .nil;have a8:wH rooms [(dP rooms,none)]:=⟨by simp,λr hr=>by have:r=dP rooms:=(by simpa using hr);rw[this];exact b7⟩;apply⟨_,pw,_,pw,H,x,d,_,_,J0,J2,rooms,ds,pw,MA,hd,O.trans S4,d4,a7,a8,λa9 cc H5 d5 bd ce bi=>?_⟩;have bl:ac H H5:=λb o q=>bi _ _ ((O.trans S4) _ _ q)<|ag q hd;have ch:g≠d:=λz=>by rw[z,d4]at I;cases I
 apply⟨_,pw,sl,pw,⟨_,aA.of<|bl _ _ aX⟩,?_⟩;have zg:gs.length=l.length:=Paired.length a0;refine cr (xs:=gs.map V.ref) (λi σ G=>∃(e:Wv) (t:Ze) (p:List<|cD×V) (T:List aG) (st:aG) (x4:Option V),σ=[pe<|.ref x,pe<|.ref sl,pe<|.ref e,pe<|.ref g,x4]/\m_ rooms ds (l.take i) T st/\G g=pe (.lst<|(t++[e]).map V.ref)/\t.length=i/\Paired (ke K G) t T.reverse/\G e=pe (.dK p)/\gU K G p st/\H e=none/\ac H G)
  ⟨d,[],a9,[],cc,_,pw,.nil ce,bi _ _ I ch,pw,.nil,d5,bd,hd,bl⟩ (λi σ G _ zq=>by let⟨_,_,_,_,_,_,_,_,_,_,_,_,_,_,S⟩:=zq;exact aA.of<|S _ _ aX) ?_ ?_
 .rintro i v σ G hi ⟨e,t,p,T,st,x4,rfl,A,y,za,U,Y,J,he,SG⟩;let⟨su,ci,rfl⟩:=dq hi;let⟨sg,bm,ck⟩:=Paired.getL a0 ci;have il:i<l.length:=(cx.1 bm).1;have cl:g≠e:=λz=>by rw[z,Y]at y;cases y
  apply⟨_,pw,_,pw,_,pw,H,x,e,su,p,st,sg,J0,J2,rooms,ds,pw,MA,he,SG,Y,J,bN.kt (ac.kt SG) ck,λo B bn D g1 bw ab b0 L=>?_⟩;have f:=L _ _ y cl;have cs:B≠e:=λz=>by rw[z,Y]at ab;cases ab
  have N:g≠B:=λz=>by rw[z,bw]at f;cases f
  have cm:ac H D:=λb u q=>L _ _ (SG _ _ q)<|ag q he;have an:H B=none:=SG.free ab;have b1:Paired (ke K D) t T.reverse:=Paired.OJ U λ_ _ r=>r.ex Y L;have cn:ke K D e st:=⟨o,p,g1,J.kt λb xs q=>L _ _ q λz=>by rw[z,Y]at q;cases q⟩;apply⟨_,pw,.inl ⟨pw,_,aA.of f⟩,_,pw,g,_,_,pw,pw,f,by rw[am,aH,za];exact zM (m:=2000) (by show _+1<=2000;nofun) (by rw[lT];decide),?_⟩;have b2:upd D g (.lst<|(t++[e]).map V.ref++[.ref B]) g=pe (.lst<|((t++[e])++[B]).map V.ref):=by rw[aa,ay (l₁:=t++[e])];rfl
  have M:∀b u,D b=pe u->b≠g->upd D g (.lst<|(t++[e]).map V.ref++[.ref B]) b=pe u:=λb u q n=>by rw[aj n];exact q
  have aC:g_ D (upd D g<|.lst<|(t++[e]).map V.ref++[.ref B]):=dO f;generalize upd D g (.lst<|(t++[e]).map V.ref++[.ref B])=G2 at b2 M aC ⊢;have b3:∀{a:Wv}{s:aG},ke K D a s->ke K G2 a s:=fun{a s} r=>by
   let⟨o,kv,h1,h2⟩:=r;exact⟨o,kv,M _ _ h1 (λz=>by rw[z,f]at h1;cases h1),h2.kt aC⟩
  have aT:=M _ _ bw N.symm;have b4:ac H G2:=λb u q=>M _ _ (cm _ _ q)<|ag q a6;apply⟨_,pw,_,pw,H,x,B,bn,_,J0,J2,rooms,ds,pw,MA,an,b4,aT,b0.kt aC,mz (λq hq=>(m.good q hq).b) _,λb5 co G3 g3 b6 cq w=>?_⟩;apply⟨B,t++[e],b5,st::T,co,_,pw,?_,w _ _ b2 N,by rw[aH,za];rfl,?_,g3,b6,an,λb u q=>w _ _ (b4 _ _ q)<|ag q an⟩
  .rw[take_snoc bm];exact .snoc A cq
  .rw[rW];exact dI (Paired.OJ b1 λ_ _ r=>(b3 r).ex aT w)<|(b3 cn).ex aT w
 .rintro σ G ⟨e,t,p,T,st,x4,rfl,A,y,za,U,Y,J,he,SG⟩;rw[am,zg,bC]at A;exact⟨_,pw,k g e t p T st G A y a6 U Y J SG⟩
theorem IJ(k:∀o,H d=pe o->H' d=pe o)(h:Rd H d x):Rd H' d x:=h.imp (k _) λ⟨o,e⟩=>⟨o,k _ e⟩
def Ng(K:Za)(H:Hp)(t:Wv)(d:ak):Prop:=∃s,H t=pe (.tup [.str d.a,.ref s,.str d.b])/\bN K H s (d.sg.map V.str)
theorem Ng.kt{K:Za}(k:g_ H a)(h:Ng K H t d):Ng K a t d:=by
 let⟨s,e,f⟩:=h;exact⟨s,k _ _ e,bN.kt k f⟩
theorem Cp(h:Paired R f<|bs++[b]):∃e a,f=e++[a]/\Paired R e bs/\R a b:=by
 have g:=Paired.length h;rw[aH]at g;have g:f.length=bs.length+1:=g;let⟨a,j,r⟩:=Paired.get (i:=bs.length) (y:=b) h (by rw[iF<|aB _,j4];rfl);apply⟨f.take bs.length,a,by rw[<-take_snoc j,<-g,bC],?_,r⟩;have:=Paired.Sj bs.length h;rw[uN rfl]at this;exact this
inductive qo(K:Za)(C:Wv)(vs:List V)(H:Hp)(Q:VK)(E:XK):Prop
 |mk (x sl:Wv) (story:List Sg) (J0 J2 rooms:Zb) (ds:List ak):vs=[.ref x,.ref sl]->bE C H x J0 J2 rooms ds->gS K H sl story->story.length<=1101->(∀sg∈story,sg≠ao)->(OK rooms ds story=[]->∀H',ac H H'->Q .L' H') ->
  (OK rooms ds story≠[]->∀(l:Wv) (ts:Ze) (w:List ak) (H':Hp),H' l=pe (.lst (ts.map V.ref))->H l=none->Paired (Ng K H') ts w->MW ds (dP rooms) w=true->f8 w=story->w.length<=200000->ac H H'->Q (.ref l) H')->qo K C vs H Q E
inductive WkI(K:Za)(H:Hp)(x sl J g:Wv)(w:List ak)(σ:L2.St)(G:Hp)(I:List ak):Prop
 |mk(e:Wv)(p:Ze)(f:List<|cD×V)(O:List aG)(st:aG)(r:WD)(i:Ze)(M:List ak)(x6:Option V):σ=[pe<|.ref x,pe<|.ref sl,pe<|.ref J,pe<|.str r,pe<|.ref g,pe<|.ref e,x6]->G J=pe (.lst<|p.map V.ref)->Paired (ke K G) p O.reverse->Rd G e (.dK f)->gU K G f st->wJ O st r I->G g=pe (.lst<|i.map V.ref)->Paired (Ng K G) i M->M++I=w.reverse->ac H G->WkI K H x sl J g w σ G I
theorem ID{K:Za}(ha:∀H,bj K H a<|ao.map V.str)(h:qo K C vs H Q E):Gw K a (nE K C) (bH Q) (start HG vs) H:=by
 let⟨x,sl,D,J0,J2,rooms,ds,rfl,MA,hs,zs,cb,k0,k1⟩:=h;have m:=MA.ok;have z3:=m.A3;apply⟨_,pw,_,pw,x,sl,D,J0,J2,rooms,ds,pw,MA,hs,zs,λJ d p f O st H1 A u bd ab gd T S1=>?_⟩;have cc:(p++[d]).map V.ref=p.map V.ref++[.ref d]:=by rw[ay];rfl
 rw[cc]at u;have zk:f.length=st.length:=Paired.length T;have face:=A.face m;apply⟨_,pw,_,pw,J,_,-1,.ref d,pw,pw,aA.of u,wz _ _,.inr ⟨d,f,pw,.inl gd,pw,_,pw,?_⟩⟩;obtain _|⟨p0,L⟩:=st
 .rw[qh (by rw[zk];rfl)];refine bo<|k0 ?_ H1 S1;cases ef:OK rooms ds D with
  |nil=>rfl
  |cons r l=>exact absurd ((face r).2 (by rw[ef];exact cF)) ∅
 have zk:f.length=L.length+1:=zk;rw[qb (by intro z;injection z with z;nofun)];refine aY ?_;have bi:p0.1∈(p0::L).map (·.1):=cF;have ce:OK rooms ds D≠[]:=λz=>by have:=(face p0.1).1 bi;rw[z]at this;cases this
 let⟨w,wk,hw,zw,bk⟩:=A.back m cb p0.1 bi;have ct:(p0::L).length<=150:=bh (A.kin m).len z3;have ch:w.length<=200000:=by have:D.length * 151<=1101 * 151:=Nat.mul_le_mul_right _ zs;nofun
 apply⟨_,pw,_,pw,J,_,-1,.ref d,pw,pw,aA.of u,wz _ _,.inr ⟨d,f,pw,.inl gd,λkl ci=>?_⟩⟩;rw[T.keys];let⟨H2,WH,S2,bl⟩:=WG (o:=.lst<|((p0::L).map (·.1)).map V.str) ci;rw[WH];apply⟨kl,_,0,.str p0.1,pw,pw,aA.of bl,bA (j:=0) rfl,?_⟩;apply⟨Q0,λg a7=>?_⟩;have S3:=ac.new (o:=.lst []) a7;have bm:upd H2 g (.lst []) g=pe (.lst<|([]:Ze).map V.ref):=aa;generalize upd H2 g (.lst [])=H3 at S3 bm ⊢;have an:=S2.trans S3;have aC:=an _ _ u;have a0:J≠g:=ag (S2 _ _ u) a7;have a4:H g=none:=(S1.trans S2).free a7;apply⟨_,pw,.inl ⟨pw,_,aA.of aC⟩,J,_,.ref d,pw,pw,aC,?_,?_⟩
 .rw[aH,iF (by show _<=_+1-1;nofun)];show[V.ref d][_+1-1-_]?=_;rw[uL,j4];rfl
 rw[show(p.map V.ref++[V.ref d]).dropLast=p.map V.ref from yX];have popped:∀{G:Hp}{xs ys:List V},G J=pe (.lst xs)->g_ G (upd G J<|.lst ys)/\(∀{b:Wv}{s:aG},ke K G b s->ke K (upd G J<|.lst ys) b s):=fun{G xs ys} e=>by
  have kt:g_ G (upd G J<|.lst ys):=dO e;apply⟨kt,fun{b s} r=>?_⟩;let⟨o,kv,Y,h2⟩:=r;exact⟨o,kv,by rw[aj (λz=>by rw[z,e]at Y;cases Y)];exact Y,h2.kt kt⟩
 let⟨ck,cl⟩:=popped (ys:=p.map V.ref) aC;have cm:J≠d:=λz=>by rw[z,gd]at u;cases u
 apply⟨λn σ G=>∃I,WkI K H x sl J g w σ G I/\n=I.length,
  ⟨_,w.reverse,⟨d,p,f,O,p0::L,p0.1,[],[],_,pw,aa,Paired.OJ ab λ_ _ r=>cl<|r.same an,.inl (by rw[aj cm.symm];exact an _ _ gd),(T.kt<|ac.kt an).kt ck,bk,by rw[aj a0.symm];exact bm,.nil,pw,λb o q=>by rw[aj<|ag q bd];exact(S1.trans an) _ _ q⟩,pw⟩,?_⟩
 rintro n σ G ⟨I,⟨e,p,f,O,st,r,i,M,x6,rfl,u,ab,rd,T,bk,k,a5,ew,SG⟩,rfl⟩;have cB:i.length=M.length:=Paired.length a5;have cC:M.length+I.length=w.length:=by rw[<-aH,ew,mj]
 have go:∀{q:ak}{ws:List ak},iQ st r=pe (pe q)->I=q::ws->∃t s,c8 f (.inr r:cD)=pe (.ref t)/\G t=pe (.tup [.str q.a,.ref s,.str q.b])/\bN K G s (q.sg.map V.str):=fun{q ws} Y _=>by
  obtain⟨_,U⟩|⟨v,o,e1,U,e3⟩:=T.look (r:=r)
  .rw[Y]at U;cases U
  .rw[Y]at U;injection U with U;subst U;let⟨t,s,rfl,q1,q2⟩:=e3;exact⟨t,s,e1,q1,q2⟩
 cases bk with
 |stop hn =>
  obtain⟨_,U⟩|⟨v,o,e1,U,e3⟩:=T.look (r:=r)
  .rw[hn]at U;cases U
  rw[hn]at U;injection U with U;subst U;have e3:v=.L':=e3;subst e3;apply⟨_,pw,_,pw,e,_,pw,.inl ⟨f,.inr r,rd,pw,e1.symm⟩,_,pw,?_⟩;refine aY ?_;rw[eI]at ew;apply⟨_,pw,.inl ⟨pw,_,aA.of k⟩,g,_,pw,pw,k,?_⟩;have kt:g_ G (upd G g<|.lst (i.map V.ref).reverse):=dO k;apply⟨_,pw,k1 ce g i.reverse w _ (by rw[aa,List.map_reverse]) a4 ?_ wk.ok hw ch λb o q=>by rw[aj<|ag q a4];exact SG _ _ q⟩;have:=Paired.rev<|Paired.OJ a5 λ_ _ r=>r.kt kt;rw[ew,List.reverse_reverse]at this;exact this
 |@still _ _ _ q ws hn es b =>
  let⟨t,s,e1,q1,q2⟩:=go hn rfl;apply⟨_,pw,_,pw,e,_,pw,.inl ⟨f,.inr r,rd,pw,e1.symm⟩,_,pw,?_⟩;refine bo ⟨fun σ' N=>∃I,WkI K H x sl J g w σ' N I/\I.length<(q::ws).length,?_,?_⟩
  .rintro σ' N ⟨I,y,z⟩;exact⟨_,z,I,y,pw⟩
  apply⟨_,pw,_,pw,e,_,pw,.inl ⟨f,.inr r,rd,pw,e1.symm⟩,?_⟩;apply⟨_,pw,.inl ⟨pw,_,aA.of k⟩,_,pw,g,_,_,pw,pw,k,by rw[am,lT];show _<_;nofun,?_⟩;have kt:g_ G (upd G g<|.lst<|i.map V.ref++[.ref t]):=dO k;have aT:upd G g (.lst<|i.map V.ref++[.ref t]) g=pe (.lst<|(i++[t]).map V.ref):=by rw[aa,ay];rfl
  have y:∀b o,G b=pe o->b≠g->upd G g (.lst<|i.map V.ref++[.ref t]) b=pe o:=λb o q n=>by rw[aj n];exact q
  generalize upd G g (.lst<|i.map V.ref++[.ref t])=G2 at kt aT y ⊢;have a6:∀{b:Wv}{s:aG},ke K G b s->ke K G2 b s:=fun{b s} r=>by
   let⟨o,kv,Y,h2⟩:=r;exact⟨o,kv,y _ _ Y (λz=>by rw[z,k]at Y;cases Y),h2.kt kt⟩
  have cn:Rd G2 e (.dK f):=IJ (λo q=>y _ _ q λz=>by rw[z,k]at q;obtain r|⟨_,r⟩:=rd<;>(rw[z,k]at r;cases r)) rd;apply⟨_,pw,t,_,0,_,pw,pw,bj.of<|kt _ _ q1,bA (j:=0) rfl,?_⟩;apply⟨_,pw,t,_,1,_,pw,pw,bj.of<|kt _ _ q1,bA (j:=1) rfl,iB q.sg,iB ao,cN<|bN.sq<|bN.kt kt q2,cN<|ha _,by rw[dC];decide,by rw[dC];decide,_,pw,?_⟩;rw[jS,qh es];refine aY ⟨ws,⟨e,p,f,O,st,q.a,i++[t],M++[q],_,pw,y _ _ u a0,Paired.OJ ab λ_ _ r=>a6 r,cn,T.kt kt,b,aT,dI (Paired.OJ a5 λ_ _ r=>r.kt kt) ⟨s,kt _ _ q1,bN.kt kt q2⟩,by rw[d9];exact ew,λb o q=>y _ _ (SG _ _ q)<|ag q a4⟩,Bm _⟩
 |@pop co _ cq _ q ws hn es b =>
  let⟨t,s,e1,q1,q2⟩:=go hn rfl;apply⟨_,pw,_,pw,e,_,pw,.inl ⟨f,.inr r,rd,pw,e1.symm⟩,_,pw,?_⟩;refine bo ⟨fun σ' N=>∃I,WkI K H x sl J g w σ' N I/\I.length<(q::ws).length,?_,?_⟩
  .rintro σ' N ⟨I,y,z⟩;exact⟨_,z,I,y,pw⟩
  apply⟨_,pw,_,pw,e,_,pw,.inl ⟨f,.inr r,rd,pw,e1.symm⟩,?_⟩;apply⟨_,pw,.inl ⟨pw,_,aA.of k⟩,_,pw,g,_,_,pw,pw,k,by rw[am,lT];show _<_;nofun,?_⟩;have kt:g_ G (upd G g<|.lst<|i.map V.ref++[.ref t]):=dO k;have aT:upd G g (.lst<|i.map V.ref++[.ref t]) g=pe (.lst<|(i++[t]).map V.ref):=by rw[aa,ay];rfl
  have y:∀b o,G b=pe o->b≠g->upd G g (.lst<|i.map V.ref++[.ref t]) b=pe o:=λb o q n=>by rw[aj n];exact q
  generalize upd G g (.lst<|i.map V.ref++[.ref t])=G2 at kt aT y ⊢;have a6:∀{b:Wv}{s:aG},ke K G b s->ke K G2 b s:=fun{b s} r=>by
   let⟨o,kv,Y,h2⟩:=r;exact⟨o,kv,y _ _ Y (λz=>by rw[z,k]at Y;cases Y),h2.kt kt⟩
  apply⟨_,pw,t,_,0,_,pw,pw,bj.of<|kt _ _ q1,bA (j:=0) rfl,?_⟩;apply⟨_,pw,t,_,1,_,pw,pw,bj.of<|kt _ _ q1,bA (j:=1) rfl,iB q.sg,iB ao,cN<|bN.sq<|bN.kt kt q2,cN<|ha _,by rw[dC];decide,by rw[dC];decide,_,pw,?_⟩;rw[jS,qb es];refine bo ?_;rw[rW]at ab;let⟨aX,e',rfl,bn,fe⟩:=Cp ab;have B:=y _ _ u a0;rw[ay]at B;have B:G2 J=pe (.lst<|aX.map V.ref++[.ref e']):=B;apply⟨_,pw,.inl ⟨pw,_,aA.of B⟩,J,_,.ref e',pw,pw,B,?_,?_⟩
  .rw[aH,iF (by show _<=_+1-1;nofun)];show[V.ref e'][_+1-1-_]?=_;rw[uL,j4];rfl
  rw[show(aX.map V.ref++[V.ref e']).dropLast=aX.map V.ref from yX];let⟨a9,bw⟩:=popped (ys:=aX.map V.ref) B;let⟨o',b0,g',cs⟩:=bw<|a6 fe;apply⟨ws,⟨e',aX,b0,co,cq,q.a,i++[t],M++[q],_,pw,aa,Paired.OJ bn λ_ _ r=>bw<|a6 r,.inr ⟨o',g'⟩,cs,b,by rw[aj a0.symm];exact aT,dI (Paired.OJ a5 λ_ _ r=>(r.kt kt).kt a9) ⟨s,a9 _ _<|kt _ _ q1,bN.kt a9<|bN.kt kt q2⟩,by rw[d9];exact ew,λb o q=>by rw[aj<|ag q bd];exact y _ _ (SG _ _ q)<|ag q a4⟩,Bm _⟩
theorem qz{K:Za}:∀a:List WD,wh K H (a.map dJ) (a.map V.str)
 |[]=>rfl
 |w::a=>⟨_,_,pw,pw,qz a⟩
theorem lz:∀a:List WD,DT.l' (a.map dJ)=0
 |[]=>rfl
 |w::a=>by
  show max 0 (DT.l'<|a.map dJ)=0;rw[lz a];rfl
open Builtin.Int (intBits)
open Builtin.Int (intBits)
open Builtin.Int (intBits)
def Vh(H:Hp)(P:Wv->Prop):Hp:=λb=>open Classical in if P b then none else H b
def hB:Nat->Nat
 |0=>0
 |d+1=>12+25 * hB d
open Builtin.Int (intBits)
open Builtin.Int (intBits)
theorem v5(h:H a=none):pi (upd H a o) a=H:=funext λb=>by
 by_cases c:b=a
 .rw[c,nN,h]
 .rw[nO c,aj c]
mutual
def Tr.sz:Tr->Nat
 |.bl=>1
 |.en=>1
 |.nd _ ps=>Tr.Vx ps+1
def Tr.Vx:List Tr->Nat
 |[]=>0
 |t::r=>t.sz+Tr.Vx r
end
theorem FX:∀{l:List Tr},(∀t∈l,t.P4<=n)->Tr.OT l<=n
 |[],_=>cw _
 |t::r,h=>by
  have e:=h t cF;have f:=FX λq a=>h q<|de _ a;show max t.P4 (Tr.OT r)<=n;nofun
def J9:List WD:=["M","trial"]
def J_:List WD:=["M","trial","I","way","story","word","walk"]
def BB(K:Za):TS :=
 be (dj (NA K)<|aq (dE 2 [] (FT K<|aM V0 V1) (gC K 2<|aS U0<|aS U1<|gh) (jc)<|aU<|aM V0 V1) bx)
def C6:List WD:=["says","some"]
def BA(K:Za)(OM:Sp)(qa:Sp)(Oz:Sp):TS :=
 ar (aL (aD IQ (aD (cg K) V3<|tC<|.int 0)<|tC<|.int 1)<|CH V3 (tC<|.int 0) tL)
 (ar (aL (aI qa<|aM V0<|tC<|.int 6) U4)
 (ar (bS (Fw (aQ<|aD kW V2<|tC<|.int 0)<|Fw (aQ<|aD G9 (aD (cg K) V3<|tC<|.int 0)<|tC<|.int 0)<|aQ<|aD kW V4<|tC<|.int 0) (be<|aD (cg K) (cK<|aM (aU<|av<|tC<|.str "end")<|aU<|av<|tC<|.str "blame")<|aI qa<|aM V0<|tC<|.int 2)<|bf)
 (ar (aL (dE 1 [0,1,3,2] (tS<|aq (aD fh (dj (dg K)<|av<|aD (cu K) V1<|tC<|.int 1)<|tC<|.int 1) bx) U0 (jc)<|aI Oz<|aq V1<|bY V2 (aD IQ V4<|tC<|.int 1) V3) U5)
 (ar (bS (aQ<|aD G9 V4<|tC<|.int 4) (ar (aL (aD (cg K) (aD (cu K) V1<|tC<|.int 0)<|aI qa<|aq V0<|aq (dj (dg K)<|av<|aD (cu K) V1<|tC<|.int 0) bx) U6)
 (be<|aU<|aq (tC<|.str "tell")<|aq V6<|aq (aD (cg K) V5<|tC<|.int 0)<|aq (aI OM<|aM (aD (cu K) V1<|tC<|.int 1)<|Di (vN K) V5 (gL<|tC<|.int 1)<|fE) bx))<|bf)
 (be<|aU<|aq (tC<|.str "wait")<|aq (aI OM<|aM (aD (cu K) V1<|tC<|.int 1) V5)<|av<|aD (cg K) V5<|LJ (rU λi=>.int (-i))<|tC<|.int 1)))))
def C5:List WD:=["pen","told","deep","left","way","some","ask"]

theorem Jr{K:Za}(h:eE K H (iB [w]) v):∃b,v=.ref b/\bN K H b [.str w]:=by
 let⟨b,xs,rfl,g,i,a,rfl,e,f⟩:=h;have f:a=[]:=f;have e:i=V.str w:=e;subst f e;exact⟨b,pw,g⟩
inductive kC(K:Za)(vs:List V)(H:Hp)(Q:VK)(E:XK):Prop
 |mk (a b:Wv) (ws:Zb) (us:List V) (ps:List DT):vs=[.ref a,.ref b]->H a=pe (.lst (ws.map V.str))->H b=pe (.lst us)->l9 K H us ps->ws.length<=ps.length->ws.length<=8->(∀(q:Wv) (xs:List V) (H':Hp),H' q=pe (.tup xs)->l9 K H' xs (iC kJ ws (ps.take ws.length))->ac H H'->Q (.ref q) H')->kC K vs H Q E
theorem GU{K:Za}(h:kC K f H Q E):BB K (bH Q) (start C6 f) H:=by
 let⟨a,b,B,C,Y,rfl,D,G,I,zl,z4,k⟩:=h;have zu:=Paired.length I;apply⟨_,pw,_,pw,a,b,pw,.inl ⟨⟨_,aA.of D⟩,⟨_,aA.of G⟩,λl J=>?_⟩⟩
 let u:Nat->List V->Hp->Prop:=λi f r=>ac H r/\r l=pe (.lst f)/\l9 K r f (iC kJ (B.take i)<|Y.take i)
 refine yJ (xs:=B.map V.str) (ys:=C) (by rw[am];nofun) u ⟨ac.new J,aa,.nil⟩ (λi C r _ zq=>by let⟨S,h',_⟩:=zq;exact⟨h',aA.of<|S _ _ D,aA.of<|S _ _ G⟩) ?_ ?_
 .rintro f j ⟨S,y,m⟩;rw[am,bC]at m;apply⟨l,f,pw,.inl ⟨aA.of y,λq s=>k q f _ aa (l9.kt (ac.kt<|ac.new s) m)<|S.trans<|ac.new s⟩⟩
 .rintro i f j x v p hx hv hi ⟨S,y,m⟩ z;let⟨w,hw,rfl⟩:=bJ hx;let⟨d,hd,A⟩:=Paired.getL I hv;let⟨t,WH,L,M⟩:=WG (o:=.tup [.str w,v]) z;rw[WH];apply⟨p,_,pw,bj.of M,pw,_,_,pw,_,_,pw,pw,oQ ?_⟩;apply⟨_,pw,_,pw,Q2,λq s=>?_⟩;let⟨T,WH,N,O⟩:=WG (o:=.tup [.str w,v]) s;rw[WH];have g:=L.trans N;have U:=g _ _ y;have kt:g_ T (upd T l<|.lst<|f++[.ref q]):=dO U;have n:f.length<=1000:=by
   rw[Paired.length m,yZ,aP];nofun
  apply⟨U,ax n,rC hi ⟨λb o e=>?_,aa,?_⟩⟩
  .rw[aj<|ag e J];exact g _ _<|S _ _ e
  .rw[take_snoc hw,take_snoc hd,List.zipWith_append (by rw[aP,aP];rw[am]at hi;nofun)];refine dI (l9.kt (λb xs e=>kt _ _<|ac.kt g _ _ e) m) ?_;exact⟨q,_,pw,.inl<|kt _ _ O,_,_,pw,ni w,_,_,pw,eE.kt (λb xs e=>kt _ _<|ac.kt g _ _<|ac.kt S _ _ e) _ _ A,pw⟩
theorem gS.same{K:Za}{J a:Hp}{st:Wv}{s:List Sg}(S:ac J a)(h:gS K J st s):gS K a st s:=by
 let⟨e,f,g⟩:=h;exact⟨e,S _ _ f,Paired.OJ g λ_ _ r=>bN.kt (ac.kt S) r⟩
theorem Co(f:Zb)(a:Option WD):∀g∈fH f a,g≠ao:=λg h e=>by
 subst e;have i:∀w:WD,kH w≠ao:=λw z=>by have z:([("say":WD),w]:Zb)=[("still":WD)]:=z;injection z with z _;exact absurd z WE
 cases a with
 |none =>
  obtain h|h:=bp.1 (show ao∈f.map kH++[cz]from h)
  .obtain⟨w,_,e⟩:=aV.1 h;exact i w e
  .exact absurd (dF.1 h) WE
 |some w =>
  obtain h|h:=b_.1 (show ao∈cX w::f.map kH from h)
  .have z:([("still":WD)]:Zb)=[("ask":WD),w]:=h;injection z with z _;exact absurd z WE
  .obtain⟨w,_,e⟩:=aV.1 h;exact i w e
open Classical in
theorem XX.VY{K:Za}(h:XX K e x C a)(g:XO K a eg):l_ K (.ref C) (.ref a)=pe true:=by
 unfold l_;split
 .rfl
 .rw[h.o.Ug g,gJ,gJ,lA,lA];simp


def mw(K:Za)(PQ:Sp)(qe:Wv)(Qr:Sp)(Rj:Sp):(L2.St->XK)->TS :=
 xV (Ac<|aL (aI Rj<|av V1) U2)
 (xV (Fx (cf K V2) (gC K 3<|aS U3<|aS U4<|aS U5<|gh)<|Kv (Ab<|tB<|aI PQ<|aM V0 V5) (nq qe Qr<|av V3)<|Ac bf)
 (Ac<|be V2))
def Gx(K:Za)(Pm:Sp):(L2.St->XK)->TS :=
 LK (λW=>dE 3 [] (cf K<|(λW=>oj Pm [] W<|aM V0 V1) W) (gC K 3<|aS U0<|aS U1<|aS U2<|gh) (aQ<|aD kW (dj (dg K)<|av V2)<|tC<|.int 1)<|aU<|bY V0 V1<|aD (cu K) V2<|tC<|.int 0)
def GC(K:Za)(Sr:Sp)(R1:Sp)(eX:Sp):(L2.St->XK)->TS :=
 xV (vz<|λW=>oj eX [] W<|aM V0 V2)
 (xV (Ip (λW=>cf K<|(λW=>oj Sr [] W<|aM V0 V1) W) (gC K 3<|aS U3<|aS U4<|aS U5<|gh) (Ac (bS (aQ<|aD kW V5<|tC<|.str "blame") (ar (aL (aI R1<|aM V2 V4) U6)
 (bS (tB<|xW V6) (be V6)<|bf))<|bf)))
 (Ac<|be<|tC .L'))
def BF(K:Za):TS :=
 ar (aL (cK<|aq (tC<|.str "q")<|aq (tC<|.str "qa")<|aq (tC<|.str "qb")<|aq (tC<|.str "qc")<|aq (tC<|.str "qd")<|aq (tC<|.str "qe")<|aq (tC<|.str "qf")<|bY (tC<|.str "qg") (tC<|.str "qh")<|tC<|.str "qi") U1)
 (be<|aD (cg K) (dE 1 [0] (cf K V1) U0 (aQ<|aD (qF K true) V0<|aD xA (aD (cu K) V1<|tC<|.int 0)<|aD (cu K) V1<|tC<|.int 1) V0)<|tC<|.int 0)
def C_:List WD:=["told","some"]
def BE(K:Za)(B6:Sp):TS :=
 ar (fF (cf K<|aD (pK K) V0<|tC<|.int 2) U1 (ar (aL (aI B6<|aM (aD (pK K) V0<|tC<|.int 3)<|cK<|av V1) U2)
 (fF (cf K<|aD (pK K) V0<|tC<|.int 0) U3<|bS (aQ<|aD (mF K) (dE 1 [2,3] (cf K<|aD (pK K) V0<|tC<|.int 3) U0 (o7 (aQ<|aD (qF K false) (aD (pK K) V0<|tC<|.int 0) V1)<|aQ<|aD (mF K) (aD (pK K) V0<|tC<|.int 1)<|aU<|aM (tC<|.str "ask") V2) V0)<|cK<|bx) (be<|aU<|aM V1 V3)<|bf)))
 (be<|tC .L')
def C9:List WD:=["told","room","there","ask"]
def Dw(K:Za)(qa:Sp):TS :=
 ar (aL V1<|gC K 4<|aS U2<|aS U3<|aS U4<|aS U5<|gh)
 (ar (aL (aD (cg K) V2<|aI qa<|aM V0<|dj (dg K)<|av V2) U6)
 (ar (aL (dE 1 [0] (cf K V4) U0 (aQ<|aD kW (aI qa<|aM V1<|tC<|.int 2)<|tC<|.int 0) V0) U7)
 (be<|aU<|aq V2<|aq V3<|aq V4<|aq (dE 1 [7,6] (cf K V5) U0 (Fw (aQ<|aD (sI K) (aD (cu K) V0<|tC<|.int 1)<|aU<|aM (tC<|.str "ask") V2)<|aQ<|aD (qF K true) (aD (cu K) V0<|tC<|.int 0) V1) V0) bx)))
def EV:List WD:=["pen","told","asks","says","rooms","doors","ask","some"]
def z_(K:Za):TS :=
 ar (aL (dE 1 [2,1] (cf K<|aD (cu K) V0<|tC<|.int 0) U0 (jc)<|aD (cg K) (cK<|aM V0 V1)<|dj IT<|av<|aD kW V0 V2) U3)
 (ar (aL (dE 1 [2,1] (cf K<|aD (cu K) V0<|tC<|.int 1) U0 (jc)<|aD (cg K) (cK<|aM V0 V1)<|dj IT<|av<|aD kW V0 V2) U4)
 (ar (aL (cK<|bx) U5)
 (ar (fF (cf K<|aD (cu K) V0<|tC<|.int 3) (gC K 3<|aS U6<|aS U7<|aS U8<|gh) (ar (bS (o7 (aQ<|aD kW (aD (cu K) V7<|LJ (rU λi=>.int (-i))<|tC<|.int 1) V1)<|aQ<|aD kW (dj (dg K)<|av V7)<|tC<|.int 2) (aL (aU<|aM (aD (cu K) V7<|tC<|.int 0) V2) U7)<|bf)
 (cy<|Bl K "list" eP V5<|av<|aU<|bY V6 V7 V8)))
 (be<|aU<|aq V3<|bY V4 (aD (cu K) V0<|tC<|.int 2) V5))))
def Bf:List WD:=["told","word","fresh","asks","says","doors","room","sign","other"]
def wW(K:Za)(QX:Sp)(Pc:Sp)(qa:Sp):TS :=
 ar (aL (aI qa<|aM V0<|tC<|.int 4) U2)
 (ar (bS (aQ<|aD kW V2<|tC<|.int 0) (be<|aU<|aq (Im K<|aD (cu K) V1<|tC<|.int 0)<|bY (aD (cu K) V1<|tC<|.int 1) (aD (cu K) V1<|tC<|.int 2)<|aD (cu K) V1<|tC<|.int 3)<|bf)
 (ar (bS (aQ<|aD kW V2<|tC<|.int 1) (be<|aU<|aq (aD (cu K) V1<|tC<|.int 0)<|bY (Im K<|aD (cu K) V1<|tC<|.int 1) (aD (cu K) V1<|tC<|.int 2)<|aD (cu K) V1<|tC<|.int 3)<|bf)
 (ar (aL (aD (cg K) (cK<|aM (aD (cu K) V1<|tC<|.int 0)<|aD (cu K) V1<|tC<|.int 1)<|aD IQ V2<|tC<|.int 2) U3)
 (be<|aI QX<|aq V1<|aq (aD (cg K) V3<|aI qa<|aM V0<|dj (dg K)<|av V3)<|av<|aI Pc<|av V1))))
def xH:List WD:=["pen","told","way","words"]
def BG(K:Za)(Pc:Sp)(OM:Sp)(qa:Sp):TS :=
 ar (aL (aI qa<|aM V0<|tC<|.int 5) U3)
 (ar (aL (aI OM<|aq (aD (cu K) V1<|tC<|.int 1)<|aq (dE 1 [] (cf K<|aD (cu K) V1<|tC<|.int 1) U0 (jc)<|aU<|av<|tC<|.str "end") bx) U4)
 (ar (aL (aI Pc<|av V1) U5)
 (ar (bS (aQ<|aD kW V3<|tC<|.int 0) (be<|aU<|aM (aU<|aq (tC<|.str "tell")<|bY V5 V2 V4)<|aU<|bx)<|bf)
 (ar (bS (aQ<|aD kW V3<|tC<|.int 1) (be<|aU<|aq (aU<|bY (tC<|.str "wait") (Di (MB K) V4 (gL<|tC<|.int 1)<|fE) V2)<|av<|aU<|bx)<|bf)
 (ar (bS (aQ<|aD kW V3<|tC<|.int 2) (be<|aU<|aq (aU<|bY (tC<|.str "wait") V4<|aU<|av<|tC<|.str "stop")<|av<|aU<|av<|dj (dg K)<|av V4)<|bf)
 (ar (bS (aQ<|aD kW V3<|tC<|.int 3) (ar (aL (aD (FE K) (Di (MB K) V4 (fE)<|gL<|LJ (rU λi=>.int (-i))<|tC<|.int 1)<|aU<|aq (aU<|aM (aD (cg K) (aD (cu K) V1<|tC<|.int 1)<|LJ (rU λi=>.int (-i))<|tC<|.int 1)<|aU<|bY (tC<|.str "wait") (aU<|bx) V2) bx) U6)
 (be<|aU<|aq (aU<|aq (tC<|.str "tell")<|bY (aD (cg K) (aD (cu K) V1<|tC<|.int 0)<|tC<|.int 0) (aU<|av<|tC<|.str "blame") V6)<|av<|aU<|av<|dj (dg K)<|av V4))<|bf)
 (be<|aU<|aq (aU<|aq (tC<|.str "wait")<|aq V4<|aq (aU<|aq (tC<|.str "tell")<|bY V5 (aU<|av<|tC<|.str "q") V4) bx)<|av<|aU<|av<|dj (dg K)<|av V4)))))))
def Db:List WD:=["pen","told","trial","way","pairs","bad","some"]
def wY(K:Za)(Ss:Sp)(qe:Wv)(ro:Wv)(rz:Wv)(qx:Wv)(Px:Wv)(qy:Wv)(qd:Wv)(q0:Wv)(sA:Wv)(Rw:Wv)(qg:Wv)(ri:Wv)(vr:Wv):TS :=
 ar (aL (tC<|.str "none") U3)
 (ar (aL (tC<|.bl true) U4)
 (ar (Nv (vz<|λW=>oj Ss [] W<|bY V0 V1 V2) (Kw K qg 5 (ar (aL (tC<|.str "match") U3)
 (aL (kB (dj (KP K)<|aM V5<|tC<|.ty "ValueError")<|BH<|dj (FC K)<|aq V5<|aq (aU<|aq (tC<|.ref qy)<|aq (tC<|.ref vr)<|bY (tC<|.ref Px) (tC<|.ref qx)<|tC<|.ref ri) bx) U4)) (Kw K qd 5 (ar (aL (aU<|bY (tC<|.str "taker") (Fv K V5 "room")<|Fv K V5 "ask") U3)
 (aL (kB (dj (KP K)<|aM V5<|tC<|.ref Rw)<|BH<|dj (FC K)<|aq V5<|aq (aU<|aq (tC<|.ref sA)<|aq (tC<|.ref rz)<|bY (tC<|.ref ro) (tC<|.ref q0)<|tC<|.ref Px) bx) U4)) (Kw K qe 5 (ar (aL (aU<|aM (tC<|.str "trial")<|Fv K V5 "way") U3)
 (aL (kB (dj (KP K)<|aM V5<|tC<|.ty "ValueError")<|BH<|dj (FC K)<|aq V5<|aq (aU<|aq (tC<|.ref qy)<|aq (tC<|.ref Px)<|bY (tC<|.ref qx) (tC<|.ref rz)<|tC<|.ref ro) bx) U4))<|Nx))))
 (be<|cK<|aM V3 V4)))
def xJ:List WD:=["model","trial","machine","found","kin","e"]
def Ku(K:Za)(E':Sp)(B':Sp)(zm:Sp)(N':Sp)(qa:Sp)(Pj:Sp)(Oz:Sp)(QG:Sp)(RF:Sp)(RE:Sp)(Rk:Sp)(RD:Sp):TS :=
 ar (aL (aI RD<|av V0) U1)
 (ar (fF (tS<|av<|tC<|.int 4) U2 (ar (aL (aI Rk<|bY V1 (tC<|.int 6)<|tC<|.int 1) U3)
 (ar (aL (aI zm<|av V3) U4)
 (ar (aL (aI RE<|bY V1 V3<|tC<|.int 2) U5)
 (ar (bS (aQ<|aD kW (aI qa<|aM V1<|tC<|.int 2)<|tC<|.int 0) (aL (aI RF<|aM V1 V5) U5)<|bf)
 (ar (bS (aQ<|aD kW (aI qa<|aM V1<|tC<|.int 4)<|tC<|.int 0) (aL (aI QG<|aM V1 V5) U5)<|bf)
 (ar (aL (aI Oz<|aq V1<|bY V3 (tC<|.int 2)<|cK<|av<|tC<|.int 5) U6)
 (ar (aL (tC<|.str "none") U7)
 (ar (bS (aQ<|aD kW (aI qa<|aM V1<|tC<|.int 2)<|tC<|.int 0) (ar (aL (aI Pj<|bY V1 V3 V6)<|gC K 2<|aS U6<|aS U8<|gh)
 (aL (aU<|aM (tC<|.str "trial") V8) U7))<|bf)
 (ar (bS (tB<|xW<|aI N'<|av V5) (aL (aD (IV K) (aU<|av<|tC<|.str "taker")<|aI N'<|av V5) U7)<|bf)
 (ar (bS (Fw (aQ<|aD (sI K) (aD (cu K) V5<|tC<|.int 0)<|aD (cu K) V3<|tC<|.int 0)<|aQ<|aD (sI K) (aD (cu K) V5<|tC<|.int 1)<|aD (cu K) V3<|tC<|.int 1) (aL (tC<|.str "match") U7)<|bf)
 (bS (Ab<|tB<|aI E'<|aq (aI B'<|bY V4 V6<|aI zm<|av V5)<|av<|cK<|aM V7<|tC<|.bl true) (be<|tC<|.bl false)<|bf))))))))))))
 (be<|tC<|.bl true))
def Gk:List WD:=["script","pen","turn","told","model","own","trial","due","way"]
def IZ:List WD:=["script"]
def z9(K:Za)(E':Sp):TS :=
 ar (bS (tB<|Mp V1) (be<|Mp V0)<|bf)
 (ar (bS (tB<|dj (vO K)<|aM V1<|tC<|.ty "bool") (be<|kB (dj (vO K)<|aM V0<|tC<|.ty "bool")<|aD kW V0 V1)<|bf)
 (ar (bS (tB<|dj (vO K)<|aM V1<|tC<|.ty "str") (be<|kB (dj (vO K)<|aM V0<|tC<|.ty "str")<|aD (mF K) V0 V1)<|bf)
 (ar (bS (tB<|dj (vO K)<|aM V1<|tC<|.ty "int") (be<|kB (dj (vO K)<|aM V0<|tC<|.ty "int")<|kB (BH<|dj (vO K)<|aM V0<|tC<|.ty "bool")<|aD (mF K) V0 V1)<|bf)
 (ar (bS (o7 (tB<|dj (vO K)<|aM V1<|tC<|.ty "tuple")<|Ab<|tB<|dj (vO K)<|aM V0<|tC<|.ty "tuple") (be<|tC<|.bl false)<|bf)
 (ar (bS (Fw (o7 (tB<|dj (vO K)<|aM V1<|tC<|.ty "list")<|Ab<|tB<|dj (vO K)<|aM V0<|tC<|.ty "list")<|aQ<|aD Oc (dj (dg K)<|av V0)<|dj (dg K)<|av V1) (be<|tC<|.bl false)<|bf)
 (be<|dj (MD K)<|aq (dE 2 [] (FT K<|aM V0 V1) (gC K 2<|aS U0<|aS U1<|gh) (jc)<|aI E'<|aM V0 V1) bx))))))
def Be:List WD:=["found","due"]
theorem qv:TV J0 a t=true↔t.so J0 a:=by unfold TV;exact @decide_eq_true_iff _ (Classical.propDecidable _)
theorem vK(h:t.so a e↔b=true):TV a e t=b:=by rw[uJ,qv];exact h
inductive jM(K:Za)(C:Wv)(vs:List V)(H:Hp)(Q:VK)(E:XK):Prop
 |mk (M:Wv) (v:V) (ws:Zb) (ps:List DT) (J0 J2 rooms:Zb) (ds:List ak):vs=[.ref M,v]->bE C H M J0 J2 rooms ds->eE K H (.t (iC kJ ws ps)) v->ws.length=ps.length->ws.length<=4->(∀H',ac H H'->Q (.bl (decide (ws=J2))) H')->jM K C vs H Q E
theorem BY{K:Za}(h:jM K C G H Q E):nR K C (qp C) (bH Q) (start n6 G) H:=by
 let⟨M,v,a,O,T,g,rooms,U,rfl,I,⟨b,xs,rfl,J,hx⟩,zl,z4,k⟩:=h;have L:=l9.of hx;have Y:=Paired.length L;rw[yZ]at Y;apply⟨_,pw,b,pw,⟨_,bN.sq J⟩,λl j=>?_⟩
 let t:Nat->List V->Hp->Prop:=λi m u=>m=(a.take i).map V.str/\ac H u/\u l=pe (.lst m)
 refine CS (xs:=xs) t ⟨pw,ac.new j,aa⟩ (λi m u _ zq=>by let⟨_,S,h'⟩:=zq;exact⟨h',bN.sq<|bN.kt (ac.kt S) J⟩) ?_ ?_
 .rintro m z ⟨rfl,S,p⟩;have e1:xs.length=a.length:=by nofun
  rw[e1,bC]at p;let⟨dm,fm,o1,o2,lv,ab,g1,a1,a2,_⟩:=Ao<|I.same S;apply⟨_,pw,M,dm,fm,pw,g1,a2,M,T,g,rooms,U,pw,I.same S,λw q=>?_⟩;have N:=ac.new (o:=.lst<|g.map V.str) q;apply⟨.s<|a.map dJ,.s<|g.map dJ,⟨l,_,pw,aA.of<|N _ _ p,qz a⟩,⟨w,_,pw,aA.of aa,qz g⟩,?_,?_,?_⟩
  .show DT.l' _+1<=8;rw[lz];decide
  .show DT.l' _+1<=8;rw[lz];decide
  .rw[decide_eq_decide.mpr (show DT.s (a.map dJ)=DT.s (g.map dJ)↔a=g from⟨λh=>fu (by injection h),λh=>by rw[h]⟩)];exact k _<|S.trans N
 .rintro i m z x A hi ⟨rfl,S,p⟩;obtain⟨d,hd⟩:∃d,O[i]?=pe d:=⟨_,dH ⋯⟩;obtain⟨w,q⟩:∃w,a[i]?=pe w:=⟨_,dH ⋯⟩;let⟨y,r,n⟩:=Paired.getL L A;rw[List.getElem?_zipWith,q,hd]at r;injection r with r;rw[<-r]at n;let⟨c,al,rfl,hc,x1,an,rfl,f,x2,B,rfl,as,D⟩:=n;have D:B=[]:=D;subst D;have f:x1=V.str w:=f;subst f;apply⟨c,_,pw,bN.sq<|bN.kt (ac.kt S) hc,pw,_,_,pw,_,_,pw,pw,oQ ?_⟩;apply⟨_,pw,p,?_,rC hi ⟨by rw[take_snoc q,ay];rfl,λb o e=>?_,aa⟩⟩
  .rw[am,aP];exact ax ⋯
  .rw[aj<|ag e j];exact S _ _ e
inductive qr(K:Za)(C:Wv)(vs:List V)(H:Hp)(Q:VK)(E:XK):Prop
 |mk (M:Wv) (v:V) (T:Gt) (J0 J2 rooms:Zb) (ds:List ak):vs=[.ref M,v]->bE C H M J0 J2 rooms ds->eE K H T.dt v->T.ok->(∀H',ac H H'->Q (.bl (TV J0 J2 T)) H')->qr K C vs H Q E
theorem IK{K:Za}(hb:∀H,bj K H O<|iu.map V.str)(he:∀H,bj K H U<|fJ.map V.str)(h:qr K C Y H Q E):pV K O U (lp K 3 "wait") (jM K C) (lp K 4 "tell") C (nD C) (bH Q) (start rp Y) H:=by
 let⟨M,v,T,g,p,rooms,B,rfl,u,f,ok,k⟩:=h;cases T with
 |lf w =>
  apply⟨_,pw,v,w,[],pw,f,_,pw,?_⟩;refine aY ⟨_,pw,v,w,[],pw,f,_,pw,?_⟩;have f:eE K H (iB [w]) v:=f;refine aY ⟨_,pw,iB [w],iB fJ,eE.SS _ _ f,cN<|he H,by rw[dC];decide,by rw[dC];decide,_,pw,?_⟩;rw[jS];by_cases c:w="end"
  .rw[qh (by rw[c];rfl)];have:=k H<|ac.refl _;rw[vK (t:=.lf w) (b:=true) ⟨λ_=>rfl,λ_=>Or.inl c⟩]at this;exact bo this
  rw[qb (λz=>c (by injection z))];refine aY ⟨_,pw,iB [w],iB iu,eE.SS _ _ f,cN<|hb H,by rw[dC];decide,by rw[dC];decide,?_⟩;have:=k H<|ac.refl _;rw[vK (t:=.lf w) (b:=decide ([w]=iu)) ⟨λz=>qh (by obtain z|z:=(show w="end"∨w="blame" from z);exact absurd z c;rw[z];rfl),λz=>Or.inr (by have:=of_decide_eq_true z;injection this)⟩]at this;rw[jS];exact this
 |nd a i m =>
  let⟨ok,z4⟩:=(show m.length=i.length+1/\i.length<=4 from ok);have zd:(Gt.OY m).length=i.length+1:=by rw[Gt.Kx,am,ok]
  have f:eE K H (cI i a<|Gt.OY m) v:=f;generalize Gt.OY m=l at zd f;cases a with
  |some a =>
   obtain⟨d0,n⟩:∃d,l[0]?=pe d:=⟨_,dH ⋯⟩;rw[jD n]at f;apply⟨_,pw,v,"tell",_,pw,f,_,pw,?_⟩;let⟨b,xs,rfl,x,x0,D,rfl,e0,A,G,rfl,q,x2,r,rfl,e2,x3,I,rfl,e3,o⟩:=f;have o:I=[]:=o;subst o;have q:A=V.str a:=q;subst q;refine bo ?_;let⟨dm,fm,o1,o2,lv,ab,g1,a1,a2,_⟩:=Ao u;apply⟨_,pw,b,_,1,.str a,pw,pw,bN.sq x,bA (j:=1) rfl,_,pw,M,dm,fm,pw,g1,a1,M,g,p,rooms,B,pw,u,λw hw=>?_⟩;have s:=ac.new (o:=.lst<|g.map V.str) hw;apply⟨dJ a,g.map dJ,w,_,pw,pw,.inl<|aA.of aa,qz g,cw _,by rw[lz];decide,_,pw,?_⟩;have hm:dJ a∈g.map dJ↔a∈g:=⟨λz=>by let⟨y,hy,e⟩:=aV.1 z;rw[<-List.singleton_inj.1 (fu (show[y].map dJ=[a].map dJ by show[dJ y]=[dJ a];rw[e]))];exact hy,λz=>ma z⟩;by_cases c:a∈g
   .have J:(if false=true then !decide (dJ a∈g.map dJ)else decide (dJ a∈g.map dJ))=true:=qh<|hm.2 c
    rw[J];refine bo ⟨_,pw,_,pw,b,_,3,x3,pw,pw,bN.sq<|bN.kt (ac.kt s) x,bA (j:=3) rfl,M,x3,i,l.drop 1,g,p,rooms,B,pw,u.same s,eE.kt (ac.kt s) _ _ e3,by rw[d_];nofun,z4,λL N=>?_⟩;have:=k L<|s.trans N;rw[vK (t:=.nd _ i m) (b:=decide (i=p)) ⟨λz=>qh z.2,λz=>⟨λw e=>by cases e;exact c,of_decide_eq_true z⟩⟩]at this;exact this
   .have J:(if false=true then !decide (dJ a∈g.map dJ)else decide (dJ a∈g.map dJ))=false:=qb<|λz=>c<|hm.1 z
    rw[J];have:=k _ s;rw[vK (t:=.nd _ i m) (b:=false) ⟨λz=>absurd (z.1 a rfl) c,λz=>by cases z⟩]at this;exact aY this
  |none =>
   obtain⟨d0,n⟩:∃d,l[i.length]?=pe d:=⟨_,dH ⋯⟩;rw[jE n]at f;apply⟨_,pw,v,"wait",_,pw,f,_,pw,?_⟩;refine aY ⟨_,pw,v,"wait",_,pw,f,_,pw,?_⟩;let⟨b,xs,rfl,x,x0,D,rfl,e0,A,G,rfl,q,x2,r,rfl,e2,o⟩:=f;have o:r=[]:=o;subst o;refine bo ⟨_,pw,_,pw,b,_,1,A,pw,pw,bN.sq x,bA (j:=1) rfl,M,A,i,l.take i.length,g,p,rooms,B,pw,u,q,by rw[aP];nofun,z4,λL N=>?_⟩;have:=k L N;rw[vK (t:=.nd _ i m) (b:=decide (i=p)) ⟨λz=>qh z.2,λz=>⟨λw e=>(by cases e),of_decide_eq_true z⟩⟩]at this;exact this
def EN(Cn:Wv)(way:List Nat)(H H':Hp)(e:Wv):Prop:=ac H H'/\∃d wr,H' e=pe (.ext<|gk e Cn<|some d)/\H' d=pe (.ext<|gB d [("way",.ref wr)])/\H' wr=pe (.tup<|lc way)
theorem EN.from(S:ac f H)(h:EN Cn a H g e):EN Cn a f g e:=⟨S.trans h.1,h.2⟩
theorem G0(l:σ[i1]?=pe (pe<|.ref f))(i:H f=pe (.tup<|lc g))(k:∀e h,EN Cn g H h e->W σ (.ref Cn) (pe e) h):
  nq Cn (vJ Cn "way") (av<|j_ i1) W D σ H:=by
 apply⟨_,l,Q1,λe j=>⟨e,_,pw,aa,λd h m n p kp=>⟨pw,pe d,m,k e _ ⟨λb o q=>?_,d,f,aa,by rw[aj p];exact n,?_⟩⟩⟩⟩
 .have a:b≠e:=ag q j;rw[aj a];exact kp b o (by rw[aj a];exact q) a
 .have a:f≠e:=ag i j;rw[aj a];exact kp f _ (by rw[aj a];exact i) a
def Oy(J0 J2:Zb)(L:List Eg):Option Eg:=L.find? λe=>!TV J0 J2 e.tr
inductive jN(K:Za)(C Cn:Wv)(vs:List V)(H:Hp)(Q:VK)(E:XK):Prop
 |mk (M:Wv) (v:V) (T:Gt) (J0 J2 rooms:Zb) (ds:List ak):vs=[.ref M,v]->bE C H M J0 J2 rooms ds->eE K H T.dt v->T.wf->(T.P4<=4) ->
  (Oy J0 J2 (eR [] [] T)=none->∀(l:Wv) (qs:Ze) (H':Hp),H' l=pe (.lst (qs.map V.ref))->Paired (mZ K H') qs (eR [] [] T)->ac H H'->Q (.ref l) H') ->
  (∀e,Oy J0 J2 (eR [] [] T)=pe e->∀x H',EN Cn e.way H H' x->E (.ref Cn) (pe x) H')->jN K C Cn vs H Q E
theorem FG(wf:T.wf)(f:T.P4<=4):(eR [] [] T).length<=1000/\∀e∈eR [] [] T,e.way.length<8/\e.story.length<=8/\(∀a∈e.story,a≠ao)/\e.tr.wf:=by
 apply⟨bh (Cc 4 T [] [] wf f) WE,λe g=>?_⟩;have:=Cb (P:=λa=>a≠ao) Co T [] [] wf (λ_ h=>by cases h) (aB _) e g;have z:([]:List Nat).length=0:=rfl;exact⟨by nofun,by nofun,this.2.2⟩
theorem BZ{K:Za}(h:jN K C Cn D H Q E):mw K (qr K C) Cn (vJ Cn "way") (qk K) (λ_=>E) (bH Q) (start n8 D) H:=by
 let⟨M,v,T,j,m,rooms,O,rfl,U,Y,wf,hg,k,G⟩:=h;let⟨zp,p⟩:=FG wf hg;apply⟨_,pw,v,T,pw,Y,wf,zp,λe n=>(p e n).1,λl qs I r ab g s t=>?_⟩;have o:Paired (mZ K I) qs (eR [] [] T):=QT.same yt g;generalize eR [] [] T=L at p o s k G;apply⟨_,pw,l,pw,⟨_,aA.of r⟩,?_⟩
 let u:Nat->L2.St->Hp->Prop:=λi σ J=>Nn λ(w y z:Option V)=>VQ (σ=[pe<|.ref M,pe v,pe<|.ref l,w,y,z]) (ac I J)<|Oy j m L=Oy j m (L.drop i)
 refine cr (xs:=qs.map V.ref) u ⟨_,_,_,pw,ac.refl _,pw⟩ (λi σ J _ zq=>by let⟨_,_,_,_,S,_⟩:=zq;exact aA.of<|S _ _ r) ?_ ?_
 .rintro i x σ N hi ⟨w,y,z,rfl,f,a⟩;let⟨q,g,rfl⟩:=dq hi;let⟨e,n,A⟩:=Paired.getL o g;let⟨wr,st,v1,a1,a2,a3,a4⟩:=A.same f;have ed:L.drop i=e::L.drop (i+1):=by
   let⟨h1,h2⟩:=cx.1 n;rw[zh h1,h2]
  rw[ed]at a;unfold Oy at a;rw[fL]at a;apply⟨q,_,pw,bj.of a1,pw,_,_,pw,_,_,pw,_,_,pw,pw,?_⟩;apply⟨_,pw,_,pw,M,v1,e.tr,j,m,rooms,O,pw,U.same<|t.trans f,a4,(p e<|cH n).2.2.2.ok,λH3 B=>⟨_,pw,?_⟩⟩;cases c:TV j m e.tr with
  |true =>
   rw[c]at a;exact aY ⟨_,_,_,pw,f.trans B,a⟩
  |false =>
   rw[c]at a;exact bo<|G0 (i1:=3) rfl (B _ _ a2) λx H4 X4=>G e a x H4<|X4.from<|(t.trans f).trans B
 .rintro σ N ⟨w,y,z,rfl,f,a⟩;rw[am,Paired.length o,y6]at a;exact⟨_,pw,k a l qs N (f _ _ r) (QT.same f o)<|t.trans f⟩
def N2(K:Za)(J H:Hp)(q:Wv)(e:Eg):Prop:=∃(wr st:Wv) (w:WD),H q=pe (.tup [.ref wr,.ref st,.str w])/\gS K J st e.story
theorem N2.kt{K:Za}(k:g_ H a)(h:N2 K J H q e):N2 K J a q e:=by
 let⟨f,st,w,g,i⟩:=h;exact⟨f,st,w,k _ _ g,i⟩
inductive ln(K:Za)(C Cn:Wv)(vs:List V)(H:Hp)(Q:VK)(E:XK):Prop
 |mk (M:Wv) (v:V) (T:Gt) (J0 J2 rooms:Zb) (ds:List ak):vs=[.ref M,v]->bE C H M J0 J2 rooms ds->eE K H T.dt v->T.wf->(T.P4<=4) ->
  (Oy J0 J2 (eR [] [] T)=none->∀(l:Wv) (qs:Ze) (L:List Eg) (H':Hp),H' l=pe (.lst (qs.map V.ref))->Paired (N2 K H' H') qs L->(∀e∈L,e.story.length<=8/\∀sg∈e.story,sg≠ao)->ac H H'->Q (.ref l) H') ->
  (∀e,Oy J0 J2 (eR [] [] T)=pe e->∀x H',EN Cn e.way H H' x->E (.ref Cn) (pe x) H')->ln K C Cn vs H Q E
theorem MV{K:Za}{T:Gt}(ok:T.ok)(h:eE K H T.dt v):∃b xs,v=.ref b/\bN K H b xs/\((∃w,xs=[.str w])∨xs.length=3∨xs.length=4):=by
 cases T with
 |lf w =>
  let⟨b,e,i⟩:=Jr (w:=w) h;exact⟨b,_,e,i,.inl ⟨w,pw⟩⟩
 |nd a l m =>
  have ok:m.length=l.length+1:=ok.1;have q:(Gt.OY m).length=l.length+1:=by rw[Gt.Kx,am,ok]
  have h:eE K H (cI l a<|Gt.OY m) v:=h;generalize Gt.OY m=j at q h;cases a with
  |none =>
   obtain⟨r,f⟩:∃d,j[l.length]?=pe d:=⟨_,dH ⋯⟩;rw[jE f]at h;let⟨b,xs,rfl,i,s,n,rfl,t,u,o,rfl,x,y,k,rfl,z,g⟩:=h;have g:k=[]:=g;subst g;exact⟨b,_,pw,i,.inr<|.inl rfl⟩
  |some a =>
   obtain⟨r,f⟩:∃d,j[0]?=pe d:=⟨_,dH ⋯⟩;rw[jD f]at h;let⟨b,xs,rfl,i,s,n,rfl,t,u,o,rfl,x,y,k,rfl,z,A,p,rfl,B,g⟩:=h;have g:p=[]:=g;subst g;exact⟨b,_,pw,i,.inr<|.inr rfl⟩
theorem Ed{K:Za}(h:ln K C Cn D H Q E):Gx K (jN K C Cn) (λ_=>E) (bH Q) (start J9 D) H:=by
 let⟨M,v,T,J0,J2,rooms,ds,rfl,MA,hv,wf,U,k,kx⟩:=h;let⟨zp,Y⟩:=FG wf U;apply⟨_,pw,_,pw,M,v,T,J0,J2,rooms,ds,pw,MA,hv,wf,U,λbd cl qs H1 g hP S1=>⟨cl,pw,⟨_,aA.of g⟩,λl hl=>?_⟩,kx⟩;have k:=k bd;generalize eR [] [] T=L at zp hP Y
 let G:Nat->List V->Hp->Prop:=λi p s=>∃(a:Ze) (f:List Eg),p=a.map V.ref/\ac H1 s/\s l=pe (.lst p)/\Paired (N2 K H1 s) a f/\(∀e∈f,e.story.length<=8/\∀sg∈e.story,sg≠ao)/\a.length<=i
 refine cW (xs:=qs.map V.ref) G ⟨[],[],pw,ac.new hl,aa,.nil,λ_ h=>(by cases h),aB _⟩ (λi D s _ zq=>by let⟨_,_,_,S,h',_⟩:=zq;exact⟨h',aA.of<|S _ _ g⟩) ?_ ?_
 .rintro p m ⟨a,f,rfl,S,t,u,A,_⟩;exact k l a f m t (Paired.OJ u λ_ _ r=>by let⟨B,st,w,r1,r2⟩:=r;exact⟨B,st,w,r1,gS.same S r2⟩) A<|S1.trans S
 .rintro i p m x hx hi ⟨a,f,rfl,S,t,u,A,zr⟩;let⟨q,hq,rfl⟩:=dq hx;let⟨e,he,I⟩:=Paired.getL hP hq;have i1:i<L.length:=(cx.1 he).1;let⟨q1,q2,q3,q4⟩:=Y e<|cH he;let⟨B,st,ab,g1,g2,g3,g4⟩:=I;apply⟨q,_,pw,bj.of<|S _ _ g1,pw,_,_,pw,_,_,pw,_,_,pw,pw,?_⟩;let⟨b,xs,rfl,ht,hc⟩:=MV q4.ok g4;have n:bN K m b xs:=bN.kt (ac.kt S) ht;apply⟨_,pw,.inl ⟨b,xs,pw,.inr<|bN.sq n,pw,_,pw,?_⟩⟩;by_cases c:∃w,xs=[.str w]
  .obtain⟨w,rfl⟩:=c;rw[qh (by rfl)];refine bo ⟨_,pw,_,pw,_,pw,b,_,0,_,pw,pw,bN.sq n,bA (j:=0) rfl,Q3,λJ N=>?_⟩;have O:=ac.new (o:=.tup [.ref B,.ref st,.str w]) N;have h3:=O _ _ t;have kt:=dO (o:=.lst<|a.map V.ref++[.ref J]) h3;apply⟨h3,by rw[am];exact ax ⋯,rC hi ⟨a++[J],f++[e],by rw[ay];rfl,λb o e=>?_,aa,?_,λy hy=>?_,by rw[aH];exact i9 zr⟩⟩
   .rw[aj<|ag e hl];exact O _ _<|S _ _ e
   .exact dI (Paired.OJ u λ_ _ r=>r.kt<|λb xs q=>kt _ _<|ac.kt O _ _ q) ⟨B,st,w,kt _ _ aa,g3⟩
   .obtain hy|hy:=bp.1 hy
    .exact A y hy
    .rw[dF.1 hy];exact⟨q2,q3⟩
  .rw[qb (by intro z;injection z with z;obtain hc|hc|hc:=hc;exact c hc;nofun;nofun)];exact aY (rC hi ⟨a,f,pw,S,t,u,A,by nofun⟩)
inductive lr(K:Za)(C Cm Ck Cn:Wv)(vs:List V)(H:Hp)(Q:VK)(E:XK):Prop
 |mk (M I:Wv) (v:V) (T:Gt) (J0 J2 rooms A' Mr r1:Zb) (ds d1:List ak):vs=[.ref M,v,.ref I]->bE C H M J0 J2 rooms ds->bE C H I A' Mr r1 d1->eE K H T.dt v->T.wf->(T.P4<=4) ->
  (J0=A'->J2=Mr->O9 d1 A' r1=none->Oy J0 J2 (eR [] [] T)=none->∀u H',ac H H'->Q u H') ->
  (¬(J0=A'/\J2=Mr)->∀a H',JW Cm H H' a->E (.ref Cm) (pe a) H') ->
  (J0=A'->J2=Mr->∀r a,O9 d1 A' r1=pe (r,a)->∀e H',Oe Ck r a H H' e->E (.ref Ck) (pe e) H') ->
  (J0=A'->J2=Mr->O9 d1 A' r1=none->∀e,Oy J0 J2 (eR [] [] T)=pe e->∀x H',EN Cn e.way H H' x->E (.ref Cn) (pe x) H')->lr K C Cm Ck Cn vs H Q E
theorem Ef{K:Za}(h:lr K C B D Cn G H Q E):GC K (ln K C Cn) (qo K C) (eX C B D) (λ_=>E) (bH Q) (start J_ G) H:=by
 let⟨M,I,v,T,J,N,rooms,a,f,O,U,Y,rfl,MA,IA,hv,wf,hg,k,x1,x2,j⟩:=h;apply⟨_,pw,_,pw,M,I,J,N,rooms,a,f,O,U,Y,pw,MA,IA,λea es lk H1 o=>?_,x1,x2⟩;apply⟨_,pw,_,pw,M,v,T,J,N,rooms,U,pw,MA.same o,eE.kt (ac.kt o) _ _ hv,wf,hg,λbd l qs L H2 hl hP hL S2=>⟨l,pw,⟨_,aA.of hl⟩,?_⟩,λe r x p X'=>j ea es lk e r x p<|X'.from o⟩;have k:=k ea es lk bd;have m:=o.trans S2
 let s:Nat->L2.St->Hp->Prop:=λi σ p=>Oj λ(j t u y:Option V)=>(σ=[pe<|.ref M,pe v,pe<|.ref I,j,t,u,y])/\(ac H2 p)
 refine cr (xs:=qs.map V.ref) s ⟨_,_,_,_,pw,ac.refl _⟩ (λi σ p _ zq=>by let⟨_,_,_,_,_,S⟩:=zq;exact aA.of<|S _ _ hl) ?_ ?_
 .rintro i x σ H3 hx ⟨j,t,u,y,rfl,g⟩;let⟨q,hq,rfl⟩:=dq hx;let⟨e,r,wr,sx,w,g1,g3⟩:=Paired.getL hP hq;let⟨e2,e1⟩:=hL e<|cH r;apply⟨q,_,pw,bj.of<|g _ _ g1,pw,_,_,pw,_,_,pw,_,_,pw,pw,?_⟩;apply⟨_,pw,pw,_,pw,?_⟩;by_cases c:w=("blame":WD);rotate_left
  .rw[qb (λz=>c (by injection z))];exact aY ⟨_,_,_,_,pw,g⟩
  rw[qh (by rw[c])];refine bo ?_;have n:=m.trans g;apply⟨_,pw,_,pw,I,sx,e.story,a,f,O,Y,pw,IA.same n,gS.same g g3,by nofun,e1,λf0 H4 A=>?_,λf0 wl ts w H4 ab al an gw hw zw A=>?_⟩
  .refine⟨_,pw,_,pw,?_⟩;exact aY ⟨_,_,_,_,pw,g.trans A⟩
  .refine⟨_,pw,_,pw,?_⟩;exact bo ⟨_,pw,k _ H4<|n.trans A⟩
 .rintro σ H3 ⟨j,t,u,y,rfl,g⟩;exact k _ H3<|m.trans g
theorem aE.sub(m:aE J0 f rooms g)(h:e.Sublist g):aE J0 f rooms e :=
 ⟨m.Tu,m.Tz,m.apart,m.RX,m.PJ,m.P2,m.OI,m.O',m.Pd,m.A3,m.nodup.sublist h,λd i=>m.good d<|h.subset i,bh h.length_le m.Qb,λr z=>m.OB r<|z.mono λa b q=>h.subset q⟩
theorem II{K:Za}(h:jK K a H Q E):BE K (eJ K) (bH Q) (start C9 a) H:=KJ h
def gj:List WD:=[("q":WD),"qa","qb","qc","qd","qe","qf","qg","qh","qi"]
theorem CK:jT gj:=by
 apply⟨by decide +kernel,λw a=>?_⟩;have:gj.all (λw=>decide (1<=w.length) && decide (w.length<=8) && w.cps.toList.all λc=>decide (97<=c) && decide (c<=122))=true:=by decide +kernel
 have:=u_.1 this w a;simp only[oJ,decide_eq_true_eq,u_]at this;exact⟨this.1.1,this.1.2,λc e=>this.2 c e⟩
inductive kD(K:Za)(vs:List V)(H:Hp)(Q:VK)(E:XK):Prop
 |mk (t l1 l2 l3 l4:Wv) (ts:Ze) (J0 J2 rooms:Zb) (ds:List ak):vs=[.ref t]->eD H t l1 l2 l3 l4 ts J0 J2 rooms ds->J0.length<=4->J2.length<=4->(∀w H',js w->w∉J0->w∉J2->ac H H'->Q (.str w) H')->kD K vs H Q E
theorem IL{K:Za}(h:kD K A H Q E):BF K (bH Q) (start C_ A) H:=by
 let⟨t,L,M,l3,l4,ts,a,g,rooms,ds,rfl,T,z1,z2,k⟩:=h;apply⟨(by show 10<=ai;decide),λf hf=>?_⟩;have B:=ac.new (o:=.lst<|gj.map V.str) hf;have C:=WI H f (.lst<|gj.map V.str);have e0:([.str "q",.str "qa",.str "qb",.str "qc",.str "qd",.str "qe",.str "qf",.str "qg",.str "qh",.str "qi"]:List V)=gj.map V.str:=rfl;rw[e0];generalize upd H f (.lst<|gj.map V.str)=H1 at B C ⊢;have T1:=T.same B;have zl:(a++g).length<=8:=by rw[aH];nofun
 obtain⟨w0,D,G⟩:∃w∈gj,w∉a++g:=u3 λc=>by
  have:gj.length<=(a++g).length:=jl CK.1 λw n=>u3 λz=>c ⟨w,n,z⟩;have e:gj.length=10:=rfl;nofun
 apply⟨_,pw,f,pw,⟨_,aA.of C⟩,λl N=>?_⟩
 let I:Nat->List V->Hp->Prop:=λi u J=>∃m:List WD,u=m.map V.str/\ac H1 J/\J l=pe (.lst u)/\m=(gj.take i).filter λw=>decide (w∉a++g)
 refine cW (xs:=gj.map V.str) I ⟨[],pw,ac.new N,aa,pw⟩ (λi A J _ zq=>by let⟨_,_,S,h',_⟩:=zq;exact⟨h',aA.of<|S _ _ C⟩) ?_ ?_
 .rintro u p ⟨m,rfl,S,v,q⟩;rw[am,bC]at q;cases m with
  |nil =>
   have:w0∈gj.filter λw=>decide (w∉a++g):=gv.2 ⟨D,qh G⟩;rw[<-q]at this;cases this
  |cons w r =>
   have n:=gv.1<|show w∈gj.filter _ from q▸cF;have O:=of_decide_eq_true n.2;exact⟨l,_,0,.str w,pw,pw,aA.of v,bA (j:=0) rfl,k w p (CK.2 w n.1) (λz=>O<|ej _ z) (λz=>O<|cE _ z)<|B.trans S⟩
 .rintro i u p x hx hi ⟨m,rfl,S,v,q⟩;let⟨w,n,rfl⟩:=bJ hx;have y:=T1.same S;have zr:m.length<=10:=by rw[q];exact bh (j3 _ _) (by rw[aP];exact Nat.min_le_right _ _)
  refine gN ⟨_,pw,_,pw,t,_,0,.ref L,pw,pw,bj.of y.t,pw,_,pw,t,_,1,.ref M,pw,pw,bj.of y.t,pw,L,M,_,_,pw,pw,y.a1,y.a2,by rw[am,am];exact eo (ax ⋯),λc hc=>?_⟩;rw[<-ay];let⟨H3,WH,s,U⟩:=WG (o:=.lst<|(a++g).map V.str) hc;rw[WH];apply⟨dJ w,(a++g).map dJ,c,_,qZ _,pw,.inl<|aA.of U,mS _,(by show 0<=8;decide),by rw[fW];decide,_,pw,?_⟩;rw[if_pos rfl,AR];have Y:(gj.take<|i+1).filter (λw=>decide (w∉a++g))=m++(if w∉a++g then[w]else[]):=by
   rw[take_snoc n,rH,<-q];by_cases c:w∈a++g
   .rw[if_neg<|λz=>z c,List.filter_cons,if_neg (by rw[qb<|λz=>z c];decide)];rfl
   .rw[if_pos c,List.filter_cons,if_pos<|qh c];rfl
  by_cases c:w∈a++g
  .rw[qh c];refine aY<|rC hi ⟨m,pw,S.trans s,s _ _ v,?_⟩;rw[Y,if_neg<|λz=>z c,eI]
  .rw[qb c];refine bo ⟨_,pw,s _ _ v,by rw[am];exact ax ⋯,rC hi ⟨m++[w],by rw[ay];rfl,λb o e=>?_,aa,by rw[Y,if_pos c]⟩⟩;rw[aj<|ag e N];exact s _ _<|S _ _ e
def CA(F:Zb)(a:WD)(d:ak):Bool:=decide (d.sg≠cX a) || decide (d.a∉F)
inductive uu(vs:List V)(H:Hp)(Q:VK)(E:XK):Prop
 |mk (p c t l1 l2 l3 l4:Wv) (ts:Ze) (J0 J2 rooms:Zb) (ds:List ak):vs=[.ref p,.ref t]->eF H p c->eD H t l1 l2 l3 l4 ts J0 J2 rooms ds->aE J0 J2 rooms ds->(∀(t' SE:Wv) (RU:Ze) (Qc:List ak) (H':Hp),eD H' t' l1 l2 l3 SE RU J0 J2 rooms Qc->aE J0 J2 rooms Qc->eF H' p c->cY p H H'->Q (.ref t') H')->uu vs H Q E
theorem KH{K:Za}(h:uu C H Q E):Dw K ca (bH Q) (start EV C) H:=by
 let⟨p,c,t,l1,l2,l3,l4,ts,J0,J2,rooms,ds,rfl,hp,T,m,k⟩:=h;have z1:=m.O';have z3:=m.A3;have z4:=m.Qb;apply⟨_,pw,t,_,pw,bj.of T.t,pw,_,_,pw,_,_,pw,_,_,pw,_,_,pw,pw,?_⟩;refine iT (λ_ _ _ _ h=>h) rfl rfl hp T.a1 m.PJ ⋯ λa ha H1 A U=>?_;have T1:=T.ex hp U;apply⟨_,pw,l3,pw,⟨_,aA.of T1.a3⟩,λf hf=>?_⟩;have G:f≠p:=(A.Ry hf).symm;have Y:f≠c:=(A.Tv hf).symm
 let aX:Nat->List V->Hp->Prop:=λi us g=>∃rs:List WD,us=rs.map V.str/\g f=pe (.lst us)/\eF g p c/\(∀b o,H1 b=pe o->b≠p->g b=pe o)/\rs.length<=i
 refine cW (xs:=rooms.map V.str) aX ⟨[],pw,aa,A.upd G.symm Y.symm,λb o e _=>by rw[aj<|ag e hf];exact e,aB _⟩ (λi C g _ zq=>by let⟨_,_,I,_,ex,_⟩:=zq;exact⟨I,aA.of<|ex _ _ T1.a3<|A.r3 T1.a3⟩) ?_ ?_;rotate_left
 .rintro i us H2 x hx hi ⟨rs,rfl,h2,J,B,zr⟩;rw[am]at hi;let⟨w,hw,rfl⟩:=bJ hx;refine gN ⟨_,pw,cJ J WE WE λr H3 r0 r2 ab L=>⟨pw,_,pw,?_⟩⟩;have h3:=L _ _ h2 G;refine kb (λ_=>?_)<|λ_=>?_
  .refine⟨_,pw,h3,by rw[am];exact ax ⋯,rC (by rw[am];exact hi) ⟨rs++[w],by rw[ay];rfl,aa,ab.upd G.symm Y.symm,λb o e n=>?_,by rw[aH];exact i9 zr⟩⟩;rw[aj<|ag e hf];exact L _ _ (B _ _ e n) n
  .exact rC (by rw[am];exact hi) ⟨rs,pw,h3,ab,λb o e n=>L _ _ (B _ _ e n) n,by nofun⟩
 rintro us H2 ⟨F,rfl,h2,J,al,zF⟩;have B:cY p H1 H2:=al;rw[am]at zF;have M:=T1.ex A B;apply⟨_,pw,_,pw,_,pw,_,pw,l4,pw,⟨_,aA.of M.a4⟩,λl hl=>?_⟩
 let an:Nat->List V->Hp->Prop:=λi C g=>∃us:List Wv,C=us.map V.ref/\df g us ((ds.take i).filter<|CA F a)/\ac H2 g/\g l=pe (.lst C)
 refine cW (xs:=ts.map V.ref) an
  ⟨[],pw,.nil,ac.new hl,aa⟩ (λi C g _ zq=>by let⟨_,_,_,S,I⟩:=zq;exact⟨I,aA.of<|S _ _ M.a4⟩) ?_ ?_
 .rintro C H3 ⟨us,rfl,D,S,h3⟩;rw[am,Paired.length M.ds,bC]at D;apply⟨Q4,λt' as=>?_⟩;have S4:=S.trans<|ac.new (o:=.tup [.ref l1,.ref l2,.ref l3,.ref l]) as;have aC:=ac.new (o:=.tup [.ref l1,.ref l2,.ref l3,.ref l]) as;exact k t' l us _ _ ⟨aa,S4 _ _ M.a1,S4 _ _ M.a2,S4 _ _ M.a3,aC _ _ h3,D.kt<|ac.kt aC⟩ (m.sub List.filter_sublist) (J.ex S4)<|(U.trans B).trans<|ac.Rz S4
 .rintro i C g y hy hi ⟨us,rfl,D,S,I⟩;let⟨u,hu,rfl⟩:=dq hy;let⟨dr,N,a0⟩:=Paired.getL M.ds hu;let⟨sb,O,aT⟩:=a0.kt<|ac.kt S;have a6:i<ds.length:=(cx.mp N).1;have zu:us.length<=i:=by
   rw[Paired.length D];refine bh (j3 _ _) ?_;rw[aP];nofun
  refine gN ⟨_,pw,u,_,1,_,pw,pw,bj.of O,pw,_,pw,Q2,λs hs=>?_⟩;have j:=ac.new (o:=.tup<|(cX a).map V.str) hs;have e2:=WI g s (.tup<|(cX a).map V.str);have a5:(.tup [.str "ask",.str a]:HO)=.tup ((cX a).map V.str):=rfl;rw[a5];generalize upd g s (.tup<|(cX a).map V.str)=H4 at j e2 ⊢;have D2:=D.kt<|ac.kt j;have put:CA F a dr=true->V0 [pe<|.ref u,pe<|.ref f,pe<|.str a] H4 λv H6=>H6 l=pe (.lst<|us.map V.ref)/\(us.map V.ref).length<ai/\∃m',m'<(ts.map V.ref).length-i/\Wc (ts.map V.ref).length an (i+1) m' (us.map V.ref++[v]) (upd H6 l<|.lst<|us.map V.ref++[v]):=λcc=>by
   have S3:ac H2 (upd H4 l<|.lst<|us.map V.ref++[.ref u]):=λb o q=>by
    rw[aj<|ag q hl];exact j _ _<|S _ _ q
   have kt:g_ H4 (upd H4 l<|.lst<|us.map V.ref++[.ref u]):=dO<|j _ _ I;apply⟨_,pw,j _ _ I,by rw[am];exact ax ⋯,rC hi ⟨us++[u],by rw[ay];rfl,?_,S3,aa⟩⟩;rw[gQ N,if_pos cc];exact dI (D2.kt kt) ⟨sb,kt _ _<|j _ _ O,kt _ _<|j _ _ aT⟩
  apply⟨iB dr.sg,iB<|cX a,cN<|bj.of<|j _ _ aT,cN<|bj.of e2,by rw[dC];decide,by rw[dC];decide,_,pw,?_⟩;rw[jS];by_cases c2:dr.sg=cX a;rotate_left
  .rw[qb c2];exact bo (bo (put (by unfold CA;rw[qh c2];rfl)))
  rw[qh c2];refine aY ⟨_,pw,u,_,0,_,pw,pw,bj.of<|j _ _ O,pw,_,pw,dJ dr.a,F.map dJ,f,_,qZ _,pw,.inl<|aA.of<|j _ _<|S _ _ h2,mS _,(by show 0<=8;decide),by rw[fW];decide,_,pw,?_⟩;rw[if_pos rfl,AR];by_cases c1:dr.a∈F
  .rw[qh c1];refine aY<|rC hi ⟨us,pw,?_,S.trans j,j _ _ I⟩;rw[gQ N,if_neg (by unfold CA;rw[qb<|λz=>z c2,qb<|λz=>z c1];decide),eI];exact D2
  .rw[qb c1];exact bo (put (by unfold CA;rw[qh c1,Bool.or_true]))
def gD(word fresh w:WD):WD:=if w=word then fresh else w
def CW(f:WD->WD):List WD->List WD
 |[k,w]=>[k,f w]
 |s=>s
def NV(f:WD->WD)(d:ak):ak:=⟨d.a,CW f d.sg,d.b⟩
theorem qJ{α β:Type}{f:α->β}:∀{l:List α},(∀a∈l,∀b∈l,f a=f b->a=b)->l.Nodup->(l.map f).Nodup
 |[],_,_=>rT
 |x::r,h,i=>by
  let⟨j,k⟩:=j8.1 i;refine j8.2 ⟨λz=>?_,qJ (λa m b n=>h a (de _ m) b<|de _ n) k⟩;let⟨y,g,e⟩:=aV.1 z;have:=h y (de _ g) x cF e;subst this;exact j g
theorem wu{word fresh a b:WD}(e:a≠fresh)(f:b≠fresh)(h:gD word fresh a=gD word fresh b):a=b:=by
 unfold gD at h;split at h<;>split at h
 .rename_i g i;rw[g,i]
 .exact absurd h.symm f
 .exact absurd h e
 .exact h
theorem aE.called{s t rooms:Zb}{L:List ak}{word fresh:WD}(m:aE s t rooms L)(Y:js fresh)(B:fresh∉s)(C:fresh∉t):
  aE (s.map<|gD word fresh) (t.map<|gD word fresh) rooms (L.map<|NV<|gD word fresh):=by
 have M:∀a∈s,∀b∈s,gD word fresh a=gD word fresh b->a=b:=λa j b o=>wu (λe=>B<|e▸j)<|λe=>B<|e▸o;have is:∀a∈t,∀b∈t,gD word fresh a=gD word fresh b->a=b:=λa j b o=>wu (λe=>C<|e▸j)<|λe=>C<|e▸o;have N:∀w,js w->js (gD word fresh w):=λw h=>by unfold gD;split;exact Y;exact h
 have ne:∀{k w:WD},([k,w]:Zb)≠ao:=λz=>by have:=congrArg List.length z;cases this
 apply⟨⟨qJ M m.Tu.1,λw f=>?_⟩,⟨qJ is m.Tz.1,λw f=>?_⟩,λw f z=>?_,m.RX,λz=>m.PJ<|oA.1 z,λz=>m.P2<|oA.1 z,m.OI,by rw[am];exact m.O',by rw[am];exact m.Pd,m.A3,qJ (λd D d' E e=>?_) m.nodup,λd D=>?_,by rw[am];exact m.Qb,λr z=>m.OB r<|z.mono λa b q=>?_⟩
 .obtain⟨a,j,rfl⟩:=aV.1 f;exact N a<|m.Tu.2 a j
 .obtain⟨a,j,rfl⟩:=aV.1 f;exact N a<|m.Tz.2 a j
 .obtain⟨a,j,rfl⟩:=aV.1 f;let⟨b,o,e⟩:=aV.1 z;have:=wu (word:=word) (fresh:=fresh) (a:=b) (b:=a) (λe=>B<|e▸o) (λe=>C<|e▸j) e;exact m.apart a j<|this▸o
 .obtain⟨x,O,y⟩:=d;let⟨x',u,y'⟩:=d';have G:x=x':=congrArg ak.a e;have H:y=y':=congrArg ak.b e;have i:CW (gD word fresh) O=CW (gD word fresh) u:=congrArg ak.sg e;subst G H;have I:O=u:=by
   have Q:=(m.good _ D).sg;have T:=(m.good _ E).sg;dsimp only at Q T;have v:∀{k U w p:WD},([k,w]:Zb)=[U,p]->k=U/\w=p:=λz=>by injection z with z1 J;injection J with J;exact⟨z1,J⟩
   obtain⟨w,f,rfl⟩|⟨w,f,rfl⟩|rfl:=Q<;>obtain⟨p,n,rfl⟩|⟨p,n,rfl⟩|rfl:=T
   .rw[M w f p n (v i).2]
   .exact absurd (v i).1 WE
   .exact absurd i ne
   .exact absurd (v i).1 WE
   .rw[is w f p n (v i).2]
   .exact absurd i ne
   .exact absurd i.symm ne
   .exact absurd i.symm ne
   .rfl
  rw[I]
 .obtain⟨l,A,rfl⟩:=aV.1 D;have g:=m.good l A;apply⟨g.a,g.b,?_⟩;obtain⟨w,f,e⟩|⟨w,f,e⟩|e:=g.sg
  .exact .inl ⟨_,ma f,by show CW _ l.sg=_;rw[e];rfl⟩
  .exact .inr (.inl ⟨_,ma f,by show CW _ l.sg=_;rw[e];rfl⟩)
  .exact .inr (.inr (by show CW _ l.sg=_;rw[e];rfl))
 .obtain⟨l,A,e⟩:=aV.1 q;have G:l.a=a:=congrArg ak.a e;have H:l.b=b:=congrArg ak.b e;have i:CW (gD word fresh) l.sg=ao:=congrArg ak.sg e;have:l.sg=ao:=by
   obtain⟨w,f,z⟩|⟨w,f,z⟩|z:=(m.good l A).sg
   .rw[z]at i;exact absurd i ne
   .rw[z]at i;exact absurd i ne
   .exact z
  rw[<-G,<-H,<-this];exact A
theorem yN{K:Za}{σ:L2.St}{r s:Nat}{A l:Wv}{f:Zb}{word fresh:WD}{h:Hp}{Q:Hp->Prop}(G:σ[r]?=pe (pe<|.str fresh))(H:σ[s]?=pe (pe<|.str word))(t:h A=pe (.lst<|f.map V.str))(z:f.length<=1000)(B:h l=none)
  (k:∀a,a l=pe (.lst<|(f.map<|gD word fresh).map V.str)->ac h a->Q a) :
  fA 1 [r,s] σ (Ki K A) U0 (jc) (aD (cg K) (cK<|aM V0 V1)<|dj IT<|av<|aD kW V0 V2) h l Q:=by
 have I:dA 1 [r,s] σ=[none,pe<|.str fresh,pe<|.str word]:=by simp[dA,G,H]
 let m:Nat->List V->Hp->Prop:=λi n a=>n=((f.take i).map<|gD word fresh).map V.str/\ac h a/\a l=pe (.lst n)
 refine cW (xs:=f.map V.str) m ⟨pw,ac.new B,aa⟩ (λi n a _ J=>by let⟨_,S,g⟩:=J;exact⟨g,aA.of<|S _ _ t⟩) ?_ ?_
 .rintro n a ⟨rfl,S,g⟩;rw[am,bC]at g;exact k a g S
 .rintro i n a y L hi ⟨rfl,S,g⟩;let⟨w,C,rfl⟩:=bJ L;have M:i<f.length:=(cx.mp C).1;rw[I];refine gN<|oQ ⟨_,pw,_,pw,Q2,λq N=>?_⟩;let⟨D,WH,u,v⟩:=WG (o:=.lst [.str w,.str fresh]) N;rw[WH];have p:∀x:WD,x=gD word fresh w->D l=pe (.lst<|((f.take i).map<|gD word fresh).map V.str)/\(((f.take i).map<|gD word fresh).map V.str).length<ai/\∃E,E<(f.map V.str).length-i/\Wc (f.map V.str).length m (i+1) E (((f.take i).map<|gD word fresh).map V.str++[.str x]) (upd D l<|.lst<|((f.take i).map<|gD word fresh).map V.str++[.str x]):=λx e=>by
   apply⟨u _ _ g,?_,rC hi ⟨?_,λb o e=>?_,aa⟩⟩
   .rw[am,am,aP];exact ax ⋯
   .rw[take_snoc C,ay,ay,e];rfl
   .rw[aj<|ag e B];exact u _ _<|S _ _ e
  apply⟨_,pw,_,pw,pw,.inr ⟨_,pw,?_⟩⟩;by_cases c:w=word
  .rw[qh (by rw[c])];exact⟨q,_,1,.str fresh,pw,pw,aA.of v,bA (j:=1) rfl,p fresh (by unfold gD;rw[if_pos c])⟩
  .rw[qb (λz=>c (by injection z))];exact⟨q,_,0,.str w,pw,pw,aA.of v,bA (j:=0) rfl,p w (by unfold gD;rw[if_neg c])⟩
inductive kE(K:Za)(vs:List V)(H:Hp)(Q:VK)(E:XK):Prop
 |mk (t l1 l2 l3 l4:Wv) (ts:Ze) (J0 J2 rooms:Zb) (ds:List ak) (word fresh:WD):vs=[.ref t,.str word,.str fresh]->eD H t l1 l2 l3 l4 ts J0 J2 rooms ds->aE J0 J2 rooms ds->js fresh->fresh∉J0->(fresh∉J2) ->
  (∀(t' Vc Vb SE:Wv) (RU:Ze) (A' Mr:Zb) (Qc:List ak) (H':Hp),eD H' t' Vc Vb l3 SE RU A' Mr rooms Qc->aE A' Mr rooms Qc->ac H H'->Q (.ref t') H')->kE K vs H Q E
theorem GX{K:Za}(h:kE K vs H Q E):z_ K (bH Q) (start Bf vs) H:=by
 let⟨t,l1,l2,l3,l4,ts,J0,J2,rooms,ds,word,fresh,rfl,T,m,nf,na,ns,k⟩:=h;have z1:=m.O';have z2:=m.Pd;have z4:=m.Qb;apply⟨_,pw,t,_,0,.ref l1,pw,pw,bj.of T.t,pw,l1,pw,⟨_,aA.of T.a1⟩,λD ab=>?_⟩;refine yN (word:=word) (fresh:=fresh) rfl rfl T.a1 ⋯ ab λH1 a1 S1=>?_;have O:=T.same S1;apply⟨_,pw,t,_,1,.ref l2,pw,pw,bj.of O.t,pw,l2,pw,⟨_,aA.of O.a2⟩,λG al=>?_⟩;refine yN (word:=word) (fresh:=fresh) rfl rfl O.a2 ⋯ al λU a2 S2=>?_;apply⟨Q0,λf hf=>?_⟩;let⟨H3,WH,S3,f3⟩:=WG (o:=.lst []) hf;rw[WH];have A:=S2.trans S3;have I:=O.same A;have an:=A _ _ a1;have as:=S3 _ _ a2;have Hf:H f=none:=(S1.trans S2).free hf;apply⟨_,pw,t,_,3,.ref l4,pw,pw,bj.of I.t,pw,l4,pw,⟨_,aA.of I.a4⟩,?_⟩;have aC:l4≠f:=ag T.a4 Hf
 let J:Nat->L2.St->Hp->Prop:=λi σ Y=>Oj λ(r:Ze) (x6 x7 x8:Option V)=>VP (σ=[pe<|.ref t,pe<|.str word,pe<|.str fresh,pe<|.ref D,pe<|.ref G,pe<|.ref f,x6,x7,x8]) (Y f=pe (.lst<|r.map V.ref)) (df Y r<|(ds.take i).map<|NV<|gD word fresh) (∀b o,H3 b=pe o->b≠f->Y b=pe o)
 refine cr (xs:=ts.map V.ref) J ⟨[],_,_,_,pw,f3,.nil,λ_ _ e _=>e⟩ (λi σ Y _ zq=>by let⟨_,_,_,_,_,_,_,ex⟩:=zq;exact aA.of<|ex _ _ I.a4 aC) ?_ ?_
 .rintro i v σ L hi ⟨r,x6,x7,x8,rfl,f4,M,j⟩;let⟨u,hu,rfl⟩:=dq hi;let⟨g,B,C,aT,aX⟩:=Paired.getL I.ds hu;have nt:∀{b xs},H3 b=pe (.tup xs)->L b=pe (.tup xs):=fun{b xs} q=>j _ _ q λz=>by rw[z,f3]at q;cases q
  have il:i<ds.length:=(cx.mp B).1;have zu:r.length<=1000:=by rw[Paired.length M,am,aP];nofun
  apply⟨u,_,pw,bj.of<|nt aT,pw,_,_,pw,_,_,pw,_,_,pw,pw,?_⟩;have app:∀(x:Wv) (y:Hp),y x=pe (.tup<|(CW (gD word fresh) g.sg).map V.str)->ac L y->(cy<|Bl K "list" eP V5<|av<|aU<|bY V6 V7 V8) { nx:=fun σ H=>J (i+1) σ H,rt:=Q} [pe<|.ref t,pe<|.str word,pe<|.str fresh,pe<|.ref D,pe<|.ref G,pe<|.ref f,pe<|.str g.a,pe<|.ref x,pe<|.str g.b] y:=λx y a0 l=>by
   have f5:=l _ _ f4;apply⟨_,pw,.inl ⟨pw,_,aA.of f5⟩,_,pw,_,pw,_,pw,Q3,λd hd=>?_⟩;let⟨H6,WH,S6,d6⟩:=WG (o:=.tup [.str g.a,.ref x,.str g.b]) hd;rw[WH];have f6:=S6 _ _ f5;have N:=l.trans S6;have kt:=dO (o:=.lst<|r.map V.ref++[.ref d]) f6;apply⟨f,_,_,pw,pw,f6,by rw[am];exact ax zu,r++[d],_,_,_,pw,by rw[aa,ay];rfl,?_,λb o e n=>by rw[aj n];exact N _ _<|j _ _ e n⟩;rw[take_snoc B,ay];exact dI (M.kt λb xs q=>kt _ _<|ac.kt N _ _ q) ⟨x,kt _ _ d6,kt _ _<|S6 _ _ a0⟩
  have a5:(∃kd w,g.sg=[kd,w])∨g.sg=ao:=by
   obtain⟨w,_,e⟩|⟨w,_,e⟩|e:=(m.good g<|cH B).sg
   .exact .inl ⟨_,_,e⟩
   .exact .inl ⟨_,_,e⟩
   .exact .inr e
  have p:=nt aX;obtain⟨kd,w,e⟩|e:=a5
  .rw[e]at p;apply⟨_,pw,_,pw,C,_,-1,.str w,pw,pw,bj.of p,pw,_,pw,pw,_,pw,?_⟩;by_cases c:w=word
   .rw[qh (by rw[c])];refine bo ⟨_,pw,.inl ⟨C,_,pw,.inr<|bj.of p,pw,_,pw,?_⟩⟩;refine bo ⟨_,pw,C,_,0,.str kd,pw,pw,bj.of p,pw,_,pw,Q2,λs hs=>?_⟩;refine app s _ ?_<|ac.new hs;rw[e,aa];show pe (HO.tup [.str kd,.str fresh])=pe (.tup [.str kd,.str<|gD word fresh w]);unfold gD;rw[if_pos c]
   .rw[qb (λz=>c (by injection z))];refine aY<|aY<|app C _ ?_<|ac.refl _;rw[e,p];show pe (HO.tup [.str kd,.str w])=pe (.tup [.str kd,.str<|gD word fresh w]);unfold gD;rw[if_neg c]
  .have fin:=app C L (by rw[e,p,e];rfl)<|ac.refl _;rw[e]at p;apply⟨_,pw,_,pw,C,_,-1,.str "still",pw,pw,bj.of p,pw,_,pw,pw,_,pw,?_⟩;by_cases c:("still":WD)=word
   .rw[qh (by rw[c])];refine bo ⟨_,pw,.inl ⟨C,_,pw,.inr<|bj.of p,pw,_,pw,?_⟩⟩;exact aY fin
   .rw[qb (λz=>c (by injection z))];exact aY<|aY fin
 .rintro σ L ⟨r,x6,x7,x8,rfl,f4,M,j⟩;rw[am,Paired.length I.ds,bC]at M;have nl:∀{b o},H b=pe o->L b=pe o:=fun{b o} q=>j _ _ (A _ _<|S1 _ _ q)<|ag q Hf;have a6:D≠f:=ag (S2 _ _ a1) hf;have a7:G≠f:=ag a2 hf;apply⟨_,pw,_,pw,_,pw,t,_,2,.ref l3,pw,pw,bj.of<|nl T.t,pw,_,pw,Q4,λt' a8=>?_⟩;have l:=ac.new (o:=.tup [.ref D,.ref G,.ref l3,.ref f]) a8;exact k t' D G f r _ _ _ _ ⟨aa,l _ _<|j _ _ an a6,l _ _<|j _ _ as a7,l _ _<|nl T.a3,l _ _ f4,M.kt<|ac.kt l⟩ (m.called nf na ns) λb o q=>l _ _<|nl q
theorem aE.perm(m:aE k l rooms n)(i:A'.Perm k)(j:f.Perm l):aE A' f rooms n :=
 ⟨⟨i.nodup_iff.2 m.Tu.1,λw h=>m.Tu.2 w<|i.mem_iff.1 h⟩,⟨j.nodup_iff.2 m.Tz.1,λw h=>m.Tz.2 w<|j.mem_iff.1 h⟩,λw h z=>m.apart w (j.mem_iff.1 h)<|i.mem_iff.1 z,m.RX,λz=>m.PJ<|List.nil_perm.1<|z▸i,λz=>m.P2<|List.nil_perm.1<|z▸j,m.OI,by rw[i.length_eq];exact m.O',by rw[j.length_eq];exact m.Pd,m.A3,m.nodup,λd o=>by
  have g:=m.good d o;exact⟨g.a,g.b,g.sg.imp (λ⟨w,h,e⟩=>⟨w,i.mem_iff.2 h,e⟩)<|Or.imp (λ⟨w,h,e⟩=>⟨w,j.mem_iff.2 h,e⟩) id⟩,m.Qb,m.OB⟩
inductive je(K:Za)(vs:List V)(H:Hp)(Q:VK)(E:XK):Prop
 |mk (p c t l1 l2 l3 l4:Wv) (ts:Ze) (J0 J2 rooms:Zb) (ds:List ak):vs=[.ref p,.ref t]->eF H p c->eD H t l1 l2 l3 l4 ts J0 J2 rooms ds->aE J0 J2 rooms ds->(∀(t' Vc Vb SE:Wv) (RU:Ze) (A' Mr:Zb) (Qc:List ak) (H':Hp),eD H' t' Vc Vb l3 SE RU A' Mr rooms Qc->aE A' Mr rooms Qc->eF H' p c->cY p H H'->Q (.ref t') H')->je K vs H Q E
theorem D0{K:Za}(h:je K vs H Q E):wW K (kE K) (kD K) ca (bH Q) (start xH vs) H:=by
 let⟨p,c,t,a,e,G,v,U,x,y,rooms,ds,rfl,hp,T0,m,k⟩:=h;have z1:=m.O';have z2:=m.Pd;apply⟨_,pw,cJ hp WE WE λq g w0 w4 A r=>?_⟩;have T:=T0.ex hp r;apply⟨_,pw,pw,_,pw,?_⟩;by_cases c0:q=0
 .rw[qh (by rw[c0])];refine bo ⟨_,pw,t,_,0,.ref a,pw,pw,bj.of T.t,pw,a,_,pw,aA.of T.a1,λl I=>?_⟩;have f:=ac.new (o:=.lst (x.map V.str).reverse) I;have s:upd g l (.lst (x.map V.str).reverse) l=pe (.lst<|x.reverse.map V.str):=by rw[aa,List.map_reverse]
  generalize upd g l (.lst (x.map V.str).reverse)=Y at f s ⊢;have i:=T.same f;apply⟨_,pw,t,_,1,.ref e,pw,pw,bj.of i.t,pw,_,pw,t,_,2,.ref G,pw,pw,bj.of i.t,pw,_,pw,t,_,3,.ref v,pw,pw,bj.of i.t,pw,Q4,λJ B=>?_⟩;have u:=ac.new (o:=.tup [.ref l,.ref e,.ref G,.ref v]) B;have n:=i.same u;exact k J l e v U _ _ _ _ ⟨aa,u _ _ s,n.a2,n.a3,n.a4,n.ds⟩ (m.perm (List.reverse_perm _)<|List.Perm.refl _) (A.ex<|f.trans u)<|r.trans<|ac.Rz<|f.trans u
 rw[qb (λz=>c0 (by injection z))];refine aY ⟨_,pw,pw,_,pw,?_⟩;by_cases c1:q=1
 .rw[qh (by rw[c1])];refine bo ⟨_,pw,t,_,0,.ref a,pw,pw,bj.of T.t,pw,_,pw,t,_,1,.ref e,pw,pw,bj.of T.t,pw,e,_,pw,aA.of T.a2,λl I=>?_⟩;have f:=ac.new (o:=.lst (y.map V.str).reverse) I;have s:upd g l (.lst (y.map V.str).reverse) l=pe (.lst<|y.reverse.map V.str):=by rw[aa,List.map_reverse]
  generalize upd g l (.lst (y.map V.str).reverse)=Y at f s ⊢;have i:=T.same f;apply⟨_,pw,t,_,2,.ref G,pw,pw,bj.of i.t,pw,_,pw,t,_,3,.ref v,pw,pw,bj.of i.t,pw,Q4,λJ B=>?_⟩;have u:=ac.new (o:=.tup [.ref a,.ref l,.ref G,.ref v]) B;have n:=i.same u;exact k J a l v U _ _ _ _ ⟨aa,n.a1,u _ _ s,n.a3,n.a4,n.ds⟩ (m.perm (List.Perm.refl _)<|List.reverse_perm _) (A.ex<|f.trans u)<|r.trans<|ac.Rz<|f.trans u
 rw[qb (λz=>c1 (by injection z))];refine aY ⟨_,pw,t,_,0,.ref a,pw,pw,bj.of T.t,pw,_,pw,t,_,1,.ref e,pw,pw,bj.of T.t,pw,Q2,λl I=>?_⟩;let⟨Y,WH,f,s⟩:=WG (o:=.lst [.ref a,.ref e]) I;rw[WH];have i:=T.same f;have L:=A.ex f;have M:∀(lw:Wv) (ws:Zb),Y lw=pe (.lst<|ws.map V.str)->ws≠[]->ws.length<=4->(be<|aI (kE K)<|aq V1<|aq (aD (cg K) V3<|aI ca<|aM V0<|dj (dg K)<|av V3)<|av<|aI (kD K)<|av V1) (bH Q) [pe<|.ref p,pe<|.ref t,pe<|.int q,pe<|.ref lw] Y:=λlw ws hw n0 n4=>by
  apply⟨_,pw,GR (i0:=0) (j:=3) rfl rfl L hw n0 ⋯ λw _ H3 ab N=>?_⟩;have n:=i.ex L N;apply⟨_,pw,t,a,e,G,v,U,x,y,rooms,ds,pw,n,z1,z2,λfr H4 nf na ns S4=>?_⟩;apply⟨t,a,e,G,v,U,x,y,rooms,ds,w,fr,pw,n.same S4,m,nf,na,ns,λJ al an as aC C D aT H5 T5 m5 S5=>?_⟩;have O:=S4.trans S5;exact k J al an as aC C D aT H5 T5 m5 (ab.ex O)<|((r.trans<|ac.Rz f).trans N).trans<|ac.Rz O
 apply⟨_,pw,_,_,pw,pw,?_⟩;have:q=2∨q=3:=by nofun
 obtain rfl|rfl:=this
 .exact⟨l,_,0,.ref a,pw,pw,aA.of s,pw,M a x i.a1 m.PJ z1⟩
 .exact⟨l,_,1,.ref e,pw,pw,aA.of s,pw,M e y i.a2 m.P2 z2⟩
def Ic(n:Nat):DT:=.k<|.inl n
theorem vn{K:Za}:∀w:List Nat,wh K H (w.map Ic) (lc w)
 |[]=>by show wh K H [] [];unfold wh;rfl
 |n::w=>by
  show wh K H (Ic n::w.map Ic) (.int n::lc w);unfold wh;apply⟨_,_,pw,?_,vn w⟩;unfold Ic gE
  rfl
theorem xP:∀w:List Nat,DT.l' (w.map Ic)=0
 |[]=>rfl
 |n::w=>by
  show max (Ic n).depth (DT.l'<|w.map Ic)=0;rw[xP w];rfl
theorem uB{K:Za}(j:H q=pe (.tup [.str "tell",.str a,i,.ref h]))(k:H h=pe (.tup e))(l:g[0]?=pe d0)(m:eE K H d0 i)(hx:l9 K H e<|iC kJ f<|(g.drop 1).take f.length)(n:g.length=f.length+1):eE K H (cI f (pe a) g) (.ref q):=by
 rw[jD l];rw[kY (by rw[d_];nofun)]at hx;exact⟨q,_,pw,.inl j,_,_,pw,ni _,_,_,pw,ni _,_,_,pw,m,_,_,pw,⟨h,_,pw,.inl k,l9.all hx⟩,pw⟩
theorem qK{K:Za}(h:H q=pe (.tup [.str "wait",.ref f,g]))(i:H f=pe (.tup xs1))(j:e[a.length]?=pe d0)(k:eE K H d0 g)(hx:l9 K H xs1<|iC kJ a<|e.take a.length):eE K H (cI a none e) (.ref q):=by
 rw[jE j];exact⟨q,_,pw,.inl h,_,_,pw,ni _,_,_,pw,⟨f,_,pw,.inl i,l9.all hx⟩,_,_,pw,k,pw⟩
def Df(p f:Wv)(H H':Hp):Prop:=∀b o,H b=pe o->b≠p->b≠f->H' b=pe o
theorem Df.RW(a:Df p f H h)(b:Df p f h g):Df p f H g:=λx o e i j=>b x o (a x o e i j) i j
theorem Df.UW(a:ac H g):Df p f H g:=λx o e _ _=>a x o e
theorem Df.UE(a:cY p H g):Df p f H g:=λx o e n _=>a x o e n
theorem Df.Ut(a:Df p f H g):cY p (pi H f) (pi g f):=λb o e n=>by
 by_cases c:b=f
 .rw[c,nN]at e;cases e
 .rw[nO c]at e ⊢;exact a b o e n c
theorem Df.kt(a:Df p f H g)(i:H p=pe (.lst xs))(hf:H f=pe (.lst h)):g_ H g:=λb j e=>a b _ e (λz=>by rw[z,i]at e;cases e) (λz=>by rw[z,hf]at e;cases e)
inductive eW(K:Za)(D:Nat)(vs:List V)(H:Hp)(Q:VK)(E:XK):Prop
 |mk (p c t l1 l2 l3 l4 lf:Wv) (ts:Ze) (d:Nat) (n:Int) (J0 J2 rooms:Zb) (ds:List ak):(vs=[.ref p,.ref t,.int (d:Nat),.ref lf])->d<=D->eF H p c->lf≠p->lf≠c->eD (pi H lf) t l1 l2 l3 l4 ts J0 J2 rooms ds->aE J0 J2 rooms ds->(H lf=pe (.lst [.int n])) ->
  (∀(v:V) (T:Tr) (n':Int) (H':Hp),eE K H' (T.dt J2) v->T.wf J0 J2->T.P4<=d->eF H' p c->H' lf=pe (.lst [.int n'])->Df p lf H H'->Q v H')->eW K D vs H Q E
theorem GN{K:Za}(d5:D<=4)(hR:∀m,D=m+1->bw=eW K m)(h:eW K D vs H Q E):BA K (kC K) ca bw (bH Q) (start C5 vs) H:=by
 let⟨p,c,t,l1,M,l3,l4,f,ts,d,n,J0,s,rooms,ds,rfl,hd,hp,n1,n2,Tt,m,b0,k⟩:=h;have z1:=m.O';have z2:=m.Pd;have za:0<J0.length:=y2.2 m.PJ;apply⟨_,pw,f,_,0,.int n,pw,pw,aA.of b0,pw,_,_,pw,pw,_,pw,f,[.int n],0,0,pw,pw,b0,pw,?_⟩;have b1:eF (upd H f<|.lst [.int<|n-1]) p c:=hp.upd n1.symm n2.symm;have b2:=WI H f (.lst [.int<|n-1]);have b3:Df p f H (upd H f<|.lst [.int<|n-1]):=λb o e _ nf=>by rw[aj nf];exact e
 show(ar _ _) _ _ (upd H f<|.lst [.int<|n-1]);generalize upd H f (.lst [.int<|n-1])=H1 at b1 b2 b3 ⊢;apply⟨_,pw,p,c,6,pw,b1,WE,WE,λw N w0 w6 G a4=>?_⟩;have a5:=b3.RW<|.UE a4;have an:=a4 _ _ b2 n1;have T2:eD (pi N f) t l1 M l3 l4 ts J0 s rooms ds:=Tt.ex (hp.Te n1.symm n2.symm) a5.Ut;have g:(be<|aD (cg K) (cK<|aM (aU<|av<|tC<|.str "end")<|aU<|av<|tC<|.str "blame")<|aI ca<|aM V0<|tC<|.int 2) (bH Q) [pe<|.ref p,pe<|.ref t,pe<|.int (d:Nat),pe<|.ref f,pe<|.int w,none,none] N:=by
  apply⟨Q1,λy b4=>⟨Q1,λA a6=>⟨Q2,λl hl=>?_⟩⟩⟩;have S4:ac N (upd (upd (upd N y<|.tup [.str "end"]) A<|.tup [.str "blame"]) l<|.lst [.ref y,.ref A]):=((ac.new b4).trans<|ac.new a6).trans<|ac.new hl;have b5:upd (upd (upd N y<|.tup [.str "end"]) A<|.tup [.str "blame"]) l (.lst [.ref y,.ref A]) y=pe (.tup<|fJ.map V.str):=kp (kp aa a6) hl;have b6:upd (upd (upd N y<|.tup [.str "end"]) A<|.tup [.str "blame"]) l (.lst [.ref y,.ref A]) A=pe (.tup<|iu.map V.str):=kp aa hl;have a7:upd (upd (upd N y<|.tup [.str "end"]) A<|.tup [.str "blame"]) l (.lst [.ref y,.ref A]) l=pe (.lst [.ref y,.ref A]):=aa;have b7:l≠p:=((G.ex<|(ac.new b4).trans<|ac.new a6).Ry hl).symm;show(aI ca<|aM V0<|tC<|.int 2) _ (upd (upd (upd N y<|.tup [.str "end"]) A<|.tup [.str "blame"]) l<|.lst [.ref y,.ref A]) _;generalize upd (upd (upd N y<|.tup [.str "end"]) A<|.tup [.str "blame"]) l (.lst [.ref y,.ref A])=L at S4 b5 b6 a7 ⊢;have I:=G.ex S4;apply⟨_,pw,p,c,2,pw,I,WE,WE,λr H5 r0 r2 b8 O=>?_⟩;have b9:g_ L H5:=by let⟨xs,hx⟩:=I.lst;exact O.kt hx
  have cc:Df p f H H5:=(a5.RW<|.UW S4).RW<|.UE O;have ce:=O _ _ (S4 _ _ an) n1;have:r=0∨r=1:=by nofun
  obtain rfl|rfl:=this
  .exact⟨l,_,0,.ref y,pw,pw,aA.of<|O _ _ a7 b7,pw,k _ .en _ H5 (sr<|.inl<|b9 _ _ b5) trivial (cw _) b8 ce cc⟩
  .exact⟨l,_,1,.ref A,pw,pw,aA.of<|O _ _ a7 b7,pw,k _ .bl _ H5 (sr<|.inl<|b9 _ _ b6) trivial (cw _) b8 ce cc⟩
 apply⟨_,pw,pw,_,pw,?_⟩
 match d,hd,k,g with
 |0,_,_,g=>exact bo<|bo g
 |d+1,hd,k,g =>
 rw[qb (by intro z;injection z with z;nofun)];refine aY ?_;apply⟨_,pw,f,_,0,.int<|n-1,pw,pw,aA.of an,pw,_,_,pw,pw,_,pw,?_⟩;by_cases c1:n-1<0
 .rw[qh c1];exact bo<|bo g
 rw[qb c1];refine aY ?_;apply⟨_,pw,pw,_,pw,?_⟩;by_cases c2:w=0
 .rw[qh (by rw[c2])];exact bo g
 rw[qb (λz=>c2 (by injection z))];refine aY ?_;clear g;obtain⟨w',rfl⟩:∃w',D=w'+1:=⟨D-1,by nofun⟩;cases hR w' rfl;have ch:=T2.same i5;apply⟨_,pw,t,_,1,.ref M,pw,pw,bj.of ch.t,pw,.inl ⟨M,_,pw,.inl<|aA.of ch.a2,_,_,pw,pw,(s.length:Int)+1,by rw[am],by nofun,by nofun,λcl as=>?_⟩⟩;have aC:cl≠p:=(G.Ry as).symm;have ci:cl≠c:=(G.Tv as).symm;have a8:cl≠f:=(ag an as).symm;have ck:∀{b:Wv}{o:HO},N b=pe o->b≠cl:=λe=>ag e as
 let cs:Nat->List V->Hp->Prop:=λi x B=>Nn λ(Ts:List Tr) (n':Int) (_:Unit)=>Ol (B cl=pe (.lst x)) (l9 K B x<|Tr.OY s Ts) (Ts.length=i/\∀T∈Ts,T.wf J0 s/\T.P4<=d) (eF B p c) (B f=pe (.lst [.int n'])) (∀b o,N b=pe o->b≠p->b≠f->B b=pe o)
 refine wg (lo:=0) (n:=s.length+1) cs ⟨[],_,(),aa,.nil,⟨pw,λ_ h=>(by cases h)⟩,G.upd aC.symm ci.symm,by rw[aj a8.symm];exact an,λb o e _ _=>by rw[aj<|ck e];exact e⟩ (λi x B _ zq=>by let⟨_,_,_,h',_,_,_,_,_⟩:=zq;exact h') ?_ ?_;rotate_left
 .rintro i x H3 hi ⟨Ts,n',_,h3,hP,⟨zt,hT⟩,J,U,aT⟩;have T3:eD (pi H3 f) t l1 M l3 l4 ts J0 s rooms ds:=by
   refine T2.ex (G.Te n1.symm n2.symm) λb o e nb=>?_;by_cases cb:b=f
   .rw[cb,nN]at e;cases e
   .rw[nO cb]at e ⊢;exact aT b o e nb cb
  refine gN<|oQ ?_;apply⟨_,pw,_,pw,_,pw,_,_,pw,pw,_,pw,p,c,t,l1,M,l3,l4,f,ts,d,n',J0,s,rooms,ds,?_,by nofun,J,n1,n2,T3,m,U,λv T n4 L hv wT ct I cB u=>?_⟩
  .show[V.ref p,V.ref t,V.int<|((d+1:Nat):Int)-1,V.ref f]=_;rw[show(((d+1:Nat):Int)-1)=(d:Nat) by nofun]
  have h4:=u _ _ h3 aC a8;have Y:g_ H3 L:=by let⟨xs,hx⟩:=J.lst;exact u.kt hx U
  have kt:g_ L (upd L cl<|.lst<|x++[v]):=dO h4;have zu:x.length=i:=by rw[Paired.length hP,Tr.Kx,am,zt]
  apply⟨h4,ax ⋯,rC hi ⟨Ts++[T],n4,(),aa,?_,⟨by rw[aH,zt];rfl,λX hX=>?_⟩,I.upd aC.symm ci.symm,by rw[aj a8.symm];exact cB,λb o e nb nf=>by rw[aj<|ck e];exact u _ _ (aT _ _ e nb nf) nb nf⟩⟩
  .rw[Tr.Kx,ay,<-Tr.Kx];exact dI (l9.kt (λb xs e=>kt _ _<|Y _ _ e) hP)<|eE.kt kt _ _ hv
  .obtain hX|hX:=bp.1 hX
   .exact hT X hX
   .rw[dF.1 hX];exact⟨wT,ct⟩
 rintro x H3 ⟨Ts,n',_,h3,hP,⟨zt,hT⟩,J,U,aT⟩;have C:Df p f H H3:=a5.RW aT;have T3:eD (pi H3 f) t l1 M l3 l4 ts J0 s rooms ds:=Tt.ex (hp.Te n1.symm n2.symm) C.Ut;have ab:=T3.same i5;have zp:(Tr.OY s Ts).length=s.length+1:=by rw[Tr.Kx,am,zt]
 have zv:x.length=s.length+1:=by rw[Paired.length hP,zp]
 have cm:∀a:Option WD,(∀w,a=pe w->w∈J0)->(Tr.nd a Ts).wf J0 s:=λa ha=>⟨zt,ha,Tr.P0.2 λT h=>(hT T h).1⟩;have cn:∀a:Option WD,(Tr.nd a Ts).P4<=d+1:=λa=>i9<|FX λT h=>(hT T h).2;have k2:∀(a:Option WD) (v:V) (n':Int) (B:Hp),(∀w,a=pe w->w∈J0)->eE K B (cI s a<|Tr.OY s Ts) v->eF B p c->B f=pe (.lst [.int n'])->Df p f H B->Q v B:=λa v n' B ha hv q1 q2 q3=>k v (.nd a Ts) n' B hv (cm a ha) (cn a) q1 q2 q3;clear k hT cm cn;generalize Tr.OY s Ts=dp at hP zp k2;apply⟨_,pw,_,_,pw,pw,_,pw,?_⟩;by_cases c4:w<4
 .rw[qh c4];refine bo ?_;apply⟨_,pw,t,_,0,.ref l1,pw,pw,bj.of ab.t,pw,_,pw,_,pw,t,_,0,.ref l1,pw,pw,bj.of ab.t,pw,.inl ⟨l1,_,pw,.inl<|aA.of ab.a1,p,c,J0.length,(by rw[am];rfl),J,by nofun,by nofun,λr L r0 r1 I u=>?_⟩⟩;have T4:eD (pi L f) t l1 M l3 l4 ts J0 s rooms ds:=Tt.ex (hp.Te n1.symm n2.symm) (C.RW<|.UE u).Ut;have a9:=T4.same i5;obtain⟨j,rfl⟩:∃j:Nat,r=j:=⟨r.toNat,by nofun⟩;obtain⟨a,ha⟩:∃w,J0[j]?=pe w:=⟨_,dH ⋯⟩;apply⟨l1,_,j,.str a,pw,pw,aA.of a9.a1,bA (by rw[eL,ha];rfl),?_⟩;have h4:=u _ _ h3 aC;have Y:g_ H3 L:=by let⟨xs,hx⟩:=J.lst;exact u.kt hx
  have co:=l9.kt Y hP;obtain⟨v0,al⟩:∃v,x[0]?=pe v:=⟨_,dH ⋯⟩;let⟨d1,bd,bi⟩:=Paired.getL co al;apply⟨_,pw,_,pw,cl,_,0,v0,pw,pw,aA.of h4,bA (j:=0) al,_,pw,t,_,1,.ref M,pw,pw,bj.of a9.t,pw,_,pw,_,pw,cl,_,pw,aA.of h4,λdl cC=>?_⟩;rw[show fQ x (pe 1) none=x.drop 1 from wc _ 1];let⟨H5,WH,S5,cq⟩:=WG (o:=.lst<|x.drop 1) cC;rw[WH];apply⟨M,dl,s,x.drop 1,dp.drop 1,pw,S5 _ _ a9.a2,cq,Paired.Tn 1<|l9.kt (ac.kt S5) co,by rw[d_];nofun,by nofun,λq xs H6 hq bm S6=>⟨Q4,λr bn=>?_⟩⟩;have S7:=ac.new (o:=.tup [.str "tell",.str a,v0,.ref q]) bn;have aX:=S5.trans<|S6.trans S7;exact k2 (pe a) _ _ _ (λw e=>by injection e with e;rw[<-e];exact cH ha) (uB aa (S7 _ _ hq) bd (eE.kt (ac.kt aX) _ _ bi) (l9.kt (ac.kt S7) bm) zp) (I.ex aX) (aX _ _<|u _ _ U n1)<|(C.RW<|.UE u).RW<|.UW aX
 .rw[qb c4];refine aY ?_;obtain⟨v0,al⟩:∃v,x[s.length]?=pe v:=⟨_,dH ⋯⟩;let⟨d1,bd,bi⟩:=Paired.getL hP al;apply⟨_,pw,t,_,1,.ref M,pw,pw,bj.of ab.t,pw,_,pw,M,cl,s,x,dp,pw,ab.a2,h3,hP,by nofun,by nofun,λq xs H6 hq bm S6=>?_⟩;apply⟨_,pw,_,pw,cl,_,-1,v0,pw,pw,aA.of<|S6 _ _ h3,Gf zv.symm al,Q3,λr bn=>?_⟩;have S7:=ac.new (o:=.tup [.str "wait",.ref q,v0]) bn;have a0:=S6.trans S7;exact k2 none _ _ _ (λw e=>(by cases e)) (qK aa (S7 _ _ hq) bd (eE.kt (ac.kt a0) _ _ bi)<|l9.kt (ac.kt S7) bm) (J.ex a0) (a0 _ _ U)<|C.RW<|.UW a0
theorem mO:∀{l:List Gt},(∀t∈l,t.P4<=n)->Gt.OT l<=n
 |[],_=>cw _
 |t::r,h=>by
  have e:=h t cF;have f:=mO λq a=>h q<|de _ a;show max t.P4 (Gt.OT r)<=n;nofun
theorem yV(h:e.tr.so J0 a):Oy J0 a (e::L)=Oy J0 a L:=by
 unfold Oy;rw[fL,qv.2 h];rfl
theorem s_(h:¬e.tr.so a f):Oy a f (e::L)=pe e:=by
 unfold Oy;have:TV a f e.tr=false:=by
  cases c:TV a f e.tr with
  |false=>rfl
  |true=>exact absurd (qv.1 c) h
 rw[fL,this];rfl
theorem Hc(w:List Nat)(s:List Sg)(t:Gt):∃L,eR w s t=⟨w,s,t⟩::L:=by
 cases t with
 |lf v=>exact⟨[],pw⟩
 |nd a e f=>exact⟨_,pw⟩
theorem rc(g:¬X.so J0 J2)(w:List Nat)(s:List Sg):∀(f:Zb) (a:List Sg) (i:Nat),(∀v∈f,(Gt.lf v).so J0 J2)->∃e,Oy J0 J2 (Pe w s a i<|f.map Gt.lf++[X])=pe e/\e.way=w++[i+f.length]
 |[],a,i,_=>by
  let⟨L,e⟩:=Hc (w++[i]) (s++a.take 1) X;apply⟨⟨w++[i],s++a.take 1,X⟩,?_,pw⟩;show Oy J0 J2 (eR _ _ X++[])=_;rw[e];exact s_ g
 |v::f,a,i,h=>by
  let⟨e,j,k⟩:=rc g w s f (a.drop 1) (i+1) λu l=>h u<|de _ l;apply⟨e,?_,by rw[k,da,show i+1+f.length=i+(f.length+1) by nofun]⟩;exact(yV<|h v cF).trans j
theorem Mt:(Gt.lf "end").so J0 a:=Or.inl rfl
theorem Ix:(Gt.lf "blame").so J0 a:=Or.inr rfl
theorem EM(h:(Gt.nd a g i).so e f):Oy e f (eR [] []<|.nd a g i)=Oy e f (Pe [] [] (fH g a) 0 i):=yV h
theorem pU:∀{l r:List Gt},Gt.QU l->Gt.QU r->Gt.QU (l++r)
 |[],_,_,h=>h
 |_::_,_,h,g=>⟨h.1,pU h.2 g⟩
theorem oR:∀a:List WD,Gt.QU (a.map Gt.lf)
 |[]=>trivial
 |_::r=>⟨trivial,oR r⟩
theorem uo(h:g.wf):Gt.QU [g]:=⟨h,trivial⟩
theorem LG(g:f.length=e.length+1)(h:e.length<=4)(i:Gt.QU f):(Gt.nd a e f).wf:=⟨g,h,i⟩
theorem uG(l r:List Gt):Gt.OY (l++r)=Gt.OY l++Gt.OY r:=by rw[Gt.Kx,Gt.Kx,Gt.Kx,ay]
abbrev jn(n:Nat):List WD:=eM n ("end":WD)
theorem kP(n:Nat):Gt.OY ((jn n).map Gt.lf)=eM n (iB fJ):=by rw[Gt.Kx,List.map_replicate,List.map_replicate];rfl
inductive kF(K:Za)(vs:List V)(H:Hp)(Q:VK)(E:XK):Prop
 |mk (p c t l1 l2 l3 l4:Wv) (ts:Ze) (J0 J2 rooms:Zb) (ds:List ak) (v:V) (T:Tr):vs=[.ref p,.ref t,v]->eF H p c->eD H t l1 l2 l3 l4 ts J0 J2 rooms ds->aE J0 J2 rooms ds->eE K H (T.dt J2) v->T.wf J0 J2->(T.P4<=2) ->
  (∀(u wr:Wv) (v':V) (G:Gt) (way:List Nat) (H':Hp),H' u=pe (.tup [v',.ref wr])->H' wr=pe (.tup (lc way))->eE K H' G.dt v'->G.wf->G.P4<=4->way.length<=1->(∃e,Oy J0 J2 (eR [] [] G)=pe e/\e.way=way)->eF H' p c->cY p H H'->Q (.ref u) H')->kF K vs H Q E
theorem IM{K:Za}(h:kF K vs H Q E):BG K (kD K) (kC K) ca (bH Q) (start Db vs) H:=by
 let⟨p,c,t,l1,l2,l3,l4,ts,J0,J2,rooms,ds,v,T,rfl,hp,T0,m,b5,wf,hg,k⟩:=h;have z1:=m.O';have z2:=m.Pd;have zs:0<J2.length:=y2.2 m.P2;apply⟨_,pw,cJ hp WE WE λC H1 w0 w5 b6 aX=>?_⟩;have T1:=T0.ex hp aX;have bd:eE K H1 (T.dt J2) v:=by let⟨xs,hx⟩:=hp.lst;exact eE.kt (aX.kt hx) _ _ b5
 apply⟨_,pw,t,_,1,.ref l2,pw,pw,bj.of T1.t,pw,_,pw,t,_,1,.ref l2,pw,pw,bj.of T1.t,pw,l2,pw,⟨_,aA.of T1.a2⟩,λl hl=>?_⟩
 let b7:Nat->List V->Hp->Prop:=λi us H'=>ac H1 H'/\H' l=pe (.lst us)/\l9 K H' us (eM i<|iB fJ)
 refine cW (xs:=J2.map V.str) b7 ⟨ac.new hl,aa,.nil⟩ (λi us H' _ zq=>by let⟨S,h',_⟩:=zq;exact⟨h',aA.of<|S _ _ T1.a2⟩) ?_ ?_;rotate_left
 .rintro i us H2 x hx hi ⟨S,h2,hP⟩;let⟨w,hw,rfl⟩:=bJ hx;have cm:i<J2.length:=(cx.mp hw).1;refine gN<|oQ ⟨Q1,λq hq=>?_⟩;have S3:=ac.new (o:=.tup<|fJ.map V.str) hq;have q3:=WI H2 q (.tup<|fJ.map V.str);have e0:(.tup [.str "end"]:HO)=.tup (fJ.map V.str):=rfl;rw[e0];generalize upd H2 q (.tup<|fJ.map V.str)=H3 at S3 q3 ⊢;have h3:=S3 _ _ h2;have kt:=dO (o:=.lst<|us++[.ref q]) h3;have zu:us.length=i:=by rw[Paired.length hP,dh]
  apply⟨h3,ax ⋯,rC hi ⟨λb o e=>by rw[aj<|ag e hl];exact S3 _ _<|S _ _ e,aa,?_⟩⟩;rw[List.replicate_succ'];exact dI (l9.kt (λb xs e=>kt _ _<|ac.kt S3 _ _ e) hP)<|sr<|.inl<|kt _ _ q3
 rintro us H2 ⟨S2,h2,hP⟩;rw[am]at hP;have T2:=T1.same S2;apply⟨l2,l,J2,us,_,pw,T2.a2,h2,hP,by rw[dh];exact aB _,by nofun,λq xs H3 bi al S3=>?_⟩;rw[kY (by rw[dh];exact aB _)]at al;have T3:=T2.same S3;apply⟨_,pw,t,l1,l2,l3,l4,ts,J0,J2,rooms,ds,pw,T3,z1,z2,λr I nb bl cn S4=>?_⟩;have T4:=T3.same S4;have a4:=(S2.trans S3).trans S4;have b8:=b6.ex a4;have hq:=S4 _ _ bi;have O:=l9.kt (ac.kt S4) al;have hv:=eE.kt (ac.kt a4) _ _ bd;have bm:cY p H I:=aX.trans<|ac.Rz a4;have zx:xs.length=J2.length:=by rw[Paired.length O,yZ,dh];exact zC _
 clear al bi bd T1 T2 T3 hP h2;let⟨wG,hG⟩:=Gt.Tb (J0:=J0) z2 T wf;have hG:(Gt.of J2 T).P4<=2:=by nofun
 have dG:=Gt.Tc J2 T;have zE:(eM J2.length<|iB fJ).length=J2.length:=dh;have hE:∀n,∀g∈(jn n).map Gt.lf,g.P4<=0:=λn g hg=>by let⟨y,_,rfl⟩:=aV.1 hg;exact aB _
 have oE:∀n,∀y∈jn n,(Gt.lf y).so J0 J2:=λn y hy=>by rw[List.eq_of_mem_replicate hy];exact Mt
 have a5:∀(N:Hp) (f:Wv) (G:Gt) (C:List Nat),ac I N->eE K N G.dt (.ref f)->G.wf->G.P4<=4->C.length<=1->(∃e,Oy J0 J2 (eR [] [] G)=pe e/\e.way=C)->∀D,N D=none->∀u,upd N D (.tup<|lc C) u=none->Q (.ref u) (upd (upd N D<|.tup<|lc C) u<|.tup [.ref f,.ref D]):=λN f G C SA hG wG gG zw hb D U u hu=>by
  have Sw:=ac.new (o:=.tup<|lc C) U;have Su:ac (upd N D<|.tup<|lc C) (upd (upd N D<|.tup<|lc C) u<|.tup [.ref f,.ref D]):=ac.new hu;have S:=Sw.trans Su;exact k u D (.ref f) G C _ aa (Su _ _ aa) (eE.kt (ac.kt S) _ _ hG) wG gG zw hb (b8.ex<|SA.trans S)<|bm.trans<|ac.Rz<|SA.trans S
 apply⟨_,pw,pw,_,pw,?_⟩;by_cases c0:C=0
 .rw[qh (by rw[c0])];refine bo ⟨_,pw,_,pw,_,pw,Q4,λf L=>?_⟩;let⟨J,WH,M,q5⟩:=WG (o:=.tup [.str "tell",.str r,v,.ref q]) L;rw[WH];apply⟨Q0,λD U=>⟨Q2,λu hu=>?_⟩⟩;refine a5 J f (.nd (pe r) J2<|Gt.of J2 T::(jn J2.length).map Gt.lf) [] M ?_ ⟨by rw[da,am,dh],z2,wG,oR _⟩ ?_ (cw _) ?_ D U u hu
  .show eE K J (cI J2 (pe r)<|Gt.dt _::Gt.OY _) _;rw[dG,kP];exact uB q5 (M _ _ hq) rfl (eE.kt (ac.kt M) _ _ hv) (by rw[List.drop_one,List.tail_cons,kY (by rw[zE];exact aB _)];exact l9.kt (ac.kt M) O) (by rw[da,zE])
  .exact i9 (mO λg hg=>by obtain rfl|hg:=b_.1 hg;(exact bh hG WE);(exact bh (hE _ g hg) WE))
  .exact⟨_,s_ λz=>bl<|z.1 r rfl,pw⟩
 rw[qb (λz=>c0 (by injection z))];refine aY ⟨_,pw,pw,_,pw,?_⟩;by_cases c1:C=1
 .rw[qh (by rw[c1])];refine bo ⟨_,pw,_,pw,.inl ⟨q,xs,pw,bj.of hq,λz=>?_,λpl a6=>?_⟩⟩
  .have:=z.1;rw[show(pe (1:Int))=pe ((1:Nat):Int)from rfl,HT.Ow]at this;nofun
  rw[show fQ xs (pe 1) none=xs.drop 1 from wc _ 1];let⟨J,WH,M,p5⟩:=WG (o:=.tup<|xs.drop 1) a6;rw[WH];apply⟨_,pw,Q3,λf L=>?_⟩;let⟨Y,WH,S6,q6⟩:=WG (o:=.tup [.str "wait",.ref pl,v]) L;rw[WH];have ab:=M.trans S6;apply⟨Q0,λD U=>⟨Q2,λu hu=>?_⟩⟩;have zd:(J2.drop 1).length=J2.length-1:=d_;refine a5 Y f (.nd none (J2.drop 1)<|(jn<|J2.length-1).map Gt.lf++[Gt.of J2 T]) [] ab ?_ ⟨by rw[aH,am,dh,zd];rfl,by nofun,pU (oR _) ⟨wG,trivial⟩⟩ ?_ (cw _) ?_ D U u hu
  .show eE K Y (cI (J2.drop 1) none<|Gt.OY _) _;rw[uG,kP,show Gt.OY [Gt.of J2 T]=[T.dt J2]from by show[_]=[_];rw[dG]];refine qK q6 (S6 _ _ p5) (d0:=T.dt J2) ?_ (eE.kt (ac.kt ab) _ _ hv) ?_
   .rw[iF (by rw[dh,zd];exact aB _),dh,zd,j4];rfl
   .rw[uN (by rw[dh,zd])];have:=Paired.Tn 1<|l9.kt (ac.kt ab) O;rw[List.drop_zipWith,List.drop_replicate]at this;exact this
  .exact i9 (mO λg hg=>by obtain hg|hg:=bp.1 hg;(exact bh (hE _ g hg) WE);(rw[dF.1 hg];exact bh hG WE))
  .refine⟨_,s_ λz=>?_,pw⟩;have:=congrArg List.length<|show J2.drop 1=J2 from z.2;nofun
 rw[qb (λz=>c1 (by injection z))];refine aY ⟨_,pw,pw,_,pw,?_⟩;have bn:∀{A:Hp}{D:Wv},upd A D (.tup [.int (xs.length:Nat)])=upd A D (.tup<|lc [J2.length]):=fun{A D}=>by rw[zx];rfl
 have an:∀(N:Hp) (f:Wv) (G:Gt),ac I N->eE K N G.dt (.ref f)->G.wf->G.P4<=4->(∃e,Oy J0 J2 (eR [] [] G)=pe e/\e.way=[J2.length])->dg K [.ref q] N λy H'=>1<=ai/\∀D,H' D=none->2<=ai/\∀u,upd H' D (.tup [y]) u=none->Q (.ref u) (upd (upd H' D<|.tup [y]) u<|.tup [.ref f,.ref D]):=λN f G SA h1 h2 h3 h4=>by
  refine .inl ⟨q,_,pw,.inr<|bj.of<|SA _ _ hq,Q1,λD U=>⟨Q2,λu hu=>?_⟩⟩;rw[bn]at hu ⊢;exact a5 N f G [J2.length] SA h1 h2 h3 (aB _) h4 D U u hu
 by_cases c2:C=2
 .rw[qh (by rw[c2])];refine bo ⟨_,pw,Q1,λs hs=>?_⟩;have M:=ac.new (o:=.tup [.str "stop"]) hs;have s5:upd I s (.tup [.str "stop"]) s=pe (.tup<|(["stop"]:Zb).map V.str):=aa;generalize upd I s (.tup [.str "stop"])=J at M s5 ⊢;apply⟨Q3,λf L=>?_⟩;let⟨Y,WH,S6,q6⟩:=WG (o:=.tup [.str "wait",.ref q,.ref s]) L;rw[WH];have ab:=M.trans S6;apply⟨_,pw,an Y f (.nd none J2<|(jn J2.length).map Gt.lf++[.lf "stop"]) ab ?_ ⟨by rw[aH,am,dh];rfl,z2,pU (oR _)<|uo (g:=.lf "stop") trivial⟩ ?_ ?_⟩
  .show eE K Y (cI J2 none<|Gt.OY _) _;rw[uG,kP];refine qK q6 (ab _ _ hq) (d0:=iB ["stop"]) ?_ (sr<|.inl<|S6 _ _ s5) ?_
   .rw[iF (by rw[zE];exact aB _),zE,j4];rfl
   .rw[uN zE];exact l9.kt (ac.kt ab) O
  .exact i9 (mO λg hg=>by obtain hg|hg:=bp.1 hg;(exact bh (hE _ g hg) WE);(rw[dF.1 hg];exact cw _))
  .rw[EM ⟨λw e=>(by cases e),pw⟩];let⟨e,he,hw⟩:=rc (J0:=J0) (J2:=J2) (X:=.lf "stop") (λz=>by obtain z|z:=(show("stop":WD)="end"∨("stop":WD)="blame" from z)<;>exact absurd z (by decide +kernel)) [] [] (jn J2.length) (fH J2 none) 0<|oE _;exact⟨e,he,by rw[hw,dh,yY];rfl⟩
 rw[qb (λz=>c2 (by injection z))];refine aY ⟨_,pw,pw,_,pw,?_⟩;by_cases c3:C=3
 .rw[qh (by rw[c3])];obtain⟨n,en⟩:∃n,J2.length=n+1:=⟨J2.length-1,by nofun⟩;obtain⟨wl,bw⟩:∃w,J2[n]?=pe w:=⟨_,dH ⋯⟩;have b9:J2=J2.take n++[wl]:=by rw[<-take_snoc bw,<-en,bC]
  refine bo ⟨_,pw,_,pw,_,pw,.inl ⟨q,xs,pw,bj.of hq,λz=>?_,λpl a6=>?_⟩⟩
  .have:=z.2;rw[show HT.Hx xs.length xs.length (pe (-1))=xs.length-1 by unfold HT.Hx;simp;nofun]at this;nofun
  rw[Hy,zx,en,uL];let⟨J,WH,M,p5⟩:=WG (o:=.tup<|xs.take n) a6;rw[WH];have T5:=T4.same M;apply⟨_,pw,t,_,1,.ref l2,pw,pw,bj.of T5.t,pw,_,pw,l2,_,-1,.str wl,pw,pw,aA.of T5.a2,Gf (n:=n) (by rw[am,en]) (by rw[eL,bw];rfl),Q0,λe0 cb=>?_⟩;have S6:=ac.new (o:=.tup []) cb;have e6:=WI J e0 (.tup []);show(av V2) _ (upd J e0<|.tup []) _;generalize upd J e0 (.tup [])=Y at S6 e6 ⊢;apply⟨_,pw,Q3,λw3 a7=>?_⟩;let⟨H7,WH,S7,w7⟩:=WG (o:=.tup [.str "wait",.ref e0,v]) a7;rw[WH];apply⟨Q2,λpr cc=>?_⟩;let⟨H8,WH,S8,p8⟩:=WG (o:=.tup [.str wl,.ref w3]) cc;rw[WH];apply⟨Q1,λtp ce=>?_⟩;let⟨H9,WH,S9,t9⟩:=WG (o:=.tup [.ref pr]) ce;rw[WH];have b0:=S6.trans<|S7.trans<|S8.trans S9;have aC:=M.trans b0;have done:∀(sm:Wv) (A:Hp),A sm=pe (.tup<|xs.take n++[.ref pr])->ac H9 A->(be<|aU<|aq (aU<|aq (tC<|.str "tell")<|bY (aD (cg K) (aD (cu K) V1<|tC<|.int 0)<|tC<|.int 0) (aU<|av<|tC<|.str "blame") V6)<|av<|aU<|av<|dj (dg K)<|av V4) (bH Q) [pe<|.ref p,pe<|.ref t,pe v,pe<|.int C,pe<|.ref q,pe<|.str r,pe<|.ref sm] A:=λsm A a8 SA=>by
   have ch:=aC.trans SA;have TA:=T4.same ch;obtain⟨a0,b2⟩:∃a,J0[0]?=pe a:=⟨_,dH<|y2.2 m.PJ⟩;apply⟨_,pw,t,_,0,.ref l1,pw,pw,bj.of TA.t,pw,l1,_,0,.str a0,pw,pw,aA.of TA.a1,bA (j:=0) (by rw[eL,b2];rfl),Q1,λb1 ci=>?_⟩;have SB:=ac.new (o:=.tup [.str "blame"]) ci;have bB:upd A b1 (.tup [.str "blame"]) b1=pe (.tup<|iu.map V.str):=aa;show(av V6) _ (upd A b1<|.tup [.str "blame"]) _;generalize upd A b1 (.tup [.str "blame"])=B at SB bB ⊢;apply⟨_,pw,Q4,λf L=>?_⟩;let⟨CC,WH,SC,qC⟩:=WG (o:=.tup [.str "tell",.str a0,.ref b1,.ref sm]) L;rw[WH];have b3:=SB.trans SC;have aT:=SA.trans b3;apply⟨_,pw,an CC f (.nd (pe a0) J2<|((("blame":WD)::jn n).map Gt.lf)++[.nd none [] [Gt.of J2 T]]) (aC.trans aT) ?_ ⟨by rw[aH,am,da,dh,en];rfl,z2,pU (oR _)<|uo<|LG rfl (cw _)<|uo wG⟩ ?_ ?_⟩
   .show eE K CC (cI J2 (pe a0)<|Gt.OY _) _;rw[uG,show Gt.OY ((("blame":WD)::jn n).map Gt.lf)=iB iu::eM n (iB fJ)from by rw[<-kP];rfl,show Gt.OY [Gt.nd none [] [Gt.of J2 T]]=[cI [] none [T.dt J2]]from by show[cI [] none [_]]=_;rw[dG]];refine uB qC (b3 _ _ a8) (d0:=iB iu) rfl (sr<|.inl<|SC _ _ bB) ?_ (by rw[aH,da,dh,en];rfl);rw[List.cons_append,List.drop_one,List.tail_cons,kY (l:=eM n (iB fJ)++[cI [] none [T.dt J2]]) (i:=J2.length) (by rw[aH,dh,en];exact aB _)];have ez:iC kJ J2 (eM n (iB fJ)++[cI [] none [T.dt J2]])=iC kJ (J2.take n) (eM n<|iB fJ)++[kJ wl<|cI [] none [T.dt J2]]:=by
     generalize cI [] none [T.dt J2]=dX
     conv=>lhs;rw[b9]
     rw[List.zipWith_append (by rw[dh,aP,en];nofun)];rfl
    rw[ez];have h1:=Paired.Sj n<|l9.kt (ac.kt<|aC.trans aT) O;rw[List.take_zipWith,List.take_replicate,en,show min n (n+1)=n by nofun]at h1;have a9:=S9.trans aT;have a7:eE K CC (cI [] none [T.dt J2]) (.ref w3):=qK (xs1:=[]) ((S8.trans a9) _ _ w7) ((S7.trans<|S8.trans a9) _ _ e6) (d0:=T.dt J2) rfl (eE.kt (ac.kt<|aC.trans aT) _ _ hv) .nil;exact dI h1 ⟨pr,_,pw,.inl<|a9 _ _ p8,_,_,pw,ni _,_,_,pw,a7,pw⟩
   .exact i9 (mO λg hg=>by
     obtain hg|hg:=bp.1 hg
     .obtain⟨y,_,rfl⟩:=aV.1 hg;exact cw _
     .rw[dF.1 hg];exact i9 (mO λg hg=>by rw[dF.1 hg];exact hG))
   .rw[EM ⟨λw e=>by injection e with e;rw[<-e];exact cH b2,pw⟩];let⟨e,he,hw⟩:=rc (J0:=J0) (J2:=J2) (X:=.nd none [] [Gt.of J2 T]) (λz=>m.P2 (show[]=J2 from z.2).symm) [] [] (("blame":WD)::jn n) (fH J2<|some a0) 0 (λy hy=>by obtain rfl|hy:=b_.1 hy;(exact Ix);(exact oE _ y hy));exact⟨e,he,by rw[hw,da,dh,yY,en];rfl⟩
  apply⟨pl,tp,_,_,pw,pw,bj.of<|b0 _ _ p5,bj.of t9,(λz=>by cases z),?_,λz=>?_,λz sm a8=>?_⟩
  .have:(xs.take n).length=n:=by rw[aP,zx,en];nofun
   rw[this];exact eo (ax (by show n+1<=1000;nofun))
  .exact done tp H9 (by rw[z];exact t9) (ac.refl _)
  .exact done sm _ aa (ac.new a8)
 .rw[qb (λz=>c3 (by injection z))];refine aY ⟨_,pw,_,pw,Q1,λs hs=>?_⟩;have M:=ac.new (o:=.tup [.str "q"]) hs;have s5:upd I s (.tup [.str "q"]) s=pe (.tup<|(["q"]:Zb).map V.str):=aa;show(av V4) _ (upd I s<|.tup [.str "q"]) _;generalize upd I s (.tup [.str "q"])=J at M s5 ⊢;apply⟨_,pw,Q4,λf L=>?_⟩;let⟨Y,WH,S6,q6⟩:=WG (o:=.tup [.str "tell",.str r,.ref s,.ref q]) L;rw[WH];apply⟨Q3,λq2 ck=>?_⟩;let⟨H7,WH,S7,q7⟩:=WG (o:=.tup [.str "wait",.ref q,.ref f]) ck;rw[WH];have b4:=S6.trans S7;have as:=M.trans b4;have cl:eE K H7 (cI J2 (pe r)<|iB ["q"]::eM J2.length (iB fJ)) (.ref f):=uB (S7 _ _ q6) (as _ _ hq) (d0:=iB ["q"]) rfl (sr<|.inl<|b4 _ _ s5) (by rw[List.drop_one,List.tail_cons,kY (by rw[zE];exact aB _)];exact l9.kt (ac.kt as) O) (by rw[da,zE]);apply⟨_,pw,an H7 q2 (.nd none J2<|(jn J2.length).map Gt.lf++[.nd (pe r) J2<|(("q":WD)::jn J2.length).map Gt.lf]) as ?_ ⟨by rw[aH,am,dh];rfl,z2,pU (oR _) (uo (LG (by rw[am,da,dh]) z2<|oR _))⟩ ?_ ?_⟩
  .show eE K H7 (cI J2 none<|Gt.OY _) _;rw[uG,kP,show Gt.OY [Gt.nd (pe r) J2<|(("q":WD)::jn J2.length).map Gt.lf]=[cI J2 (pe r)<|iB ["q"]::eM J2.length (iB fJ)]from by rw[<-kP];rfl];refine qK q7 (as _ _ hq) ?_ cl ?_
   .rw[iF (by rw[zE];exact aB _),zE,j4];rfl
   .rw[uN zE];exact l9.kt (ac.kt as) O
  .exact i9 (mO λg hg=>by
    obtain hg|hg:=bp.1 hg
    .exact bh (hE _ g hg) WE
    .rw[dF.1 hg];exact i9 (mO λg hg=>by let⟨y,_,rfl⟩:=aV.1 hg;exact cw _))
  .rw[EM ⟨λw e=>(by cases e),pw⟩];let⟨e,he,hw⟩:=rc (J0:=J0) (J2:=J2) (X:=.nd (pe r) J2<|(("q":WD)::jn J2.length).map Gt.lf) (λz=>bl<|z.1 r rfl) [] [] (jn J2.length) (fH J2 none) 0<|oE _;exact⟨e,he,by rw[hw,dh,yY];rfl⟩
theorem GO{K:Za}(h:O2 C f H Q E):Kt K C (jJ C) (jg K C) (bH Q) (start Lz f) H:=by
 let⟨x,r,a,J0,J2,rooms,p,rfl,M,hr,k⟩:=h;apply⟨_,pw,Q1,λl t=>?_⟩;let⟨H1,WH,u,e1⟩:=WG (o:=.lst [.str r]) t;rw[WH];have M1:=M.same u;let⟨v,fs,o1,o2,o3,o4,lv,qu,z,sl,ts,A,B,D,G,a1,a2,a3,a4,_⟩:=id M1.at_;apply⟨_,pw,x,v,fs,pw,G,a3,_,pw,x,r,J0,J2,rooms,p,pw,M1,hr,λl2 L I e2 nd hL _ S2=>?_⟩;have J:∀w∈L,w∈rooms:=λw N=>((hL w).mp N).Uh λd hd=>(M.ok.good d hd).b;have zL:=jl nd J;have z3:=M.ok.A3;apply⟨l,l2,_,_,pw,pw,S2 _ _ e1,e2,by rw[am];show 1+L.length<=ai;exact eo (ax ⋯),λm O=>?_⟩;have eq:([.str r]++L.map V.str:List V)=(r::L).map V.str:=rfl;rw[eq];let⟨H3,WH,T,U⟩:=WG (o:=.lst<|(r::L).map V.str) O;rw[WH];have T:=(u.trans S2).trans<|T;apply⟨m,pw,⟨_,aA.of U⟩,λq hq=>?_⟩
 let Y:Nat->List V->Hp->Prop:=λi f j=>f=(((r::L).take i).map λh=>decide ((0:Int)<(aZ p (h,cX a)).length)).map V.bl/\ac H3 j/\j q=pe (.lst f)
 refine cW (xs:=(r::L).map V.str) Y ⟨pw,ac.new hq,aa⟩ (λi f j _ zq=>by let⟨_,S,h⟩:=zq;exact⟨h,aA.of<|S _ _ U⟩) ?_ ?_
 .rintro f j ⟨rfl,S,h⟩;rw[am,bC]at h;apply⟨q,_,pw,aA.of h,?_⟩;rw[Gv hL];exact k j<|T.trans S
 .rintro i f j y hy hi ⟨rfl,S,h⟩;let⟨w,N,rfl⟩:=bJ hy;refine gN<|oQ ?_;have M':=M.same<|T.trans S;let⟨v,fs,o1,o2,o3,o4,lv,qu,z,sl,ts,A,B,D,G,a1,a2,a3,a4,_⟩:=id M'.at_;apply⟨_,pw,x,v,fs,pw,G,a2,_,pw,_,pw,Q2,λs hs=>?_⟩;have S4:=ac.new (o:=.tup<|(cX a).map V.str) hs;apply⟨x,s,w,cX a,J0,J2,rooms,p,pw,M'.same S4,bj.of aa,λg H5 hg _ S5=>?_⟩;have n:=S4.trans S5;refine .inl ⟨g,_,pw,.inl<|aA.of hg,_,_,pw,pw,n _ _ h,?_,?_⟩
  .rw[am,am,aP];exact ax (by rw[da];nofun)
  refine rC hi ⟨?_,λb o e=>?_,aa⟩
  .rw[take_snoc N,ay,ay];show _++[V.bl<|decide ((0:Int)<(((aZ p (w,cX a)).map V.str).length:Nat))]=_;rw[am];rfl
  .rw[aj<|ag e hq];exact n _ _<|S _ _ e
theorem Hz{K:Za}(A:xs.length<=ys.length)(Pv:Nat->List V->Hp->Prop)(B:Pv 0 []<|upd s l<|.lst [])(m:∀i e H,i<=xs.length->Pv i e H->H l=pe (.lst e)/\bj K H a xs/\bj K H b ys)(C:∀e H,Pv xs.length e H->Q H)(D:∀i e H x y p,xs[i]?=pe x->ys[i]?=pe y->i<xs.length->Pv i e H->H p=none->g (.ref p) (dA k o σ) (upd H p<|.tup [x,y]) fun σ2 E=>q σ2 E λb w =>
   if b=true then r σ2 w λv z=>z l=pe (.lst e)/\e.length<ai/\∃f,f<xs.length-i/\Wc xs.length Pv (i+1) f (e++[v]) (upd z l<|.lst<|e++[v])else ∃f,f<xs.length-i/\Wc xs.length Pv (i+1) f e w) :
  fA k o σ (LC K a b) g q r s l Q:=by
 refine kR xs.length Pv B (λi e H hi p=>(m i e H hi p).1) (λi e H hi p=>?_) (λe H p=>?_) λi e H x L hi p y=>?_
 .obtain⟨_,h,j⟩:=m i e H (eo hi) p;have n:i<ys.length:=by nofun
  exact⟨xs,ys,xs[i],ys[i],h,j,by simp[hi],by simp[n]⟩
 .obtain⟨_,h,j⟩:=m _ e H (aB _) p;exact⟨⟨xs,ys,h,j,.inl<|aB _⟩,C e H p⟩
 .obtain⟨_,h,j⟩:=m i e H (eo hi) p;let⟨t,u,v,rfl,G,I,J,rfl⟩:=y;exact D i e H u v t (I xs h) (J ys j) hi p G
mutual
def DT.Qb:DT->Prop
 |.k _=>True
 |.t l=>l.length<=1000/\DT.Tg l
 |.s l=>l.length<=1000/\DT.Tg l
def DT.Tg:List DT->Prop
 |[]=>True
 |a::r=>DT.Qb a/\DT.Tg r
end
theorem v9:∀{l:List DT}{i:Nat}{d:DT},DT.Tg l->l[i]?=pe d->DT.Qb d
 |[],_,_,_,h=>by cases h
 |a::r,0,d,h,e=>by injection e with e;rw[<-e];exact h.1
 |a::r,i+1,d,h,e=>v9 h.2 (by rw[List.getElem?_cons_succ]at e;exact e)
theorem rg:∀n:Nat,(eM n true).all id=true
 |0=>rfl
 |n+1=>rg n
theorem IB{α:Type}(a:α)(n:Nat):eM n a++[a]=eM (n+1) a:=by
 rw[List.replicate_succ']
def N8(K:Za)(n:Nat)(H:Hp)(x y:V):Prop:=(∃d,gE K H d x/\gE K H d y/\d.depth<=n/\DT.Qb d)∨∃b,x=.bl b/\y=.bl b
theorem N8.same{K:Za}(S:ac H a)(h:N8 K n H x y):N8 K n a x y:=by
 obtain⟨d,e,f,g⟩|h:=h
 .exact .inl ⟨d,gE.same S e,gE.same S f,g⟩
 .exact .inr h
inductive cR(K:Za)(n:Nat)(vs:List V)(H:Hp)(Q:VK)(E:XK):Prop
 |mk (x y:V):vs=[x,y]->(N8 K n H x y∨∃a b x' y',x=.ref a/\y=.ref b/\H a=pe (.lst [x',.bl true])/\H b=pe (.lst [y',.bl true])/\∃m,n=m+1/\∃d,gE K H d x'/\gE K H d y'/\d.depth<=m/\DT.Qb d)->(∀H',ac H H'->Q (.bl true) H')->cR K n vs H Q E
theorem mD{K:Za}(L:(J=M_ K f b/\aA K H f xs/\aA K H b j)∨(J=LC K f b/\bj K H f xs/\bj K H b j))(B:xs.length=j.length)(hz:xs.length<=1000)(M:∀(i:Nat) (x y:V),xs[i]?=pe x->j[i]?=pe y->N8 K n H x y)(C:H l=none)(k:∀a,ac H a->a l=pe (.lst<|(eM xs.length true).map V.bl)->Q a) :
  fA 2 [] σ J (gC K 2<|aS U0<|aS U1<|gh) (jc) (aI (cR K n)<|aM V0 V1) H l Q:=by
 let g:Nat->List V->Hp->Prop:=λi h a=>h=(eM i true).map V.bl/\ac H a/\a l=pe (.lst h)
 have m:∀h a,g xs.length h a->Q a:=by
  rintro h a ⟨rfl,S,q⟩;exact k a S q
 have step:∀i h a x y p,xs[i]?=pe x->j[i]?=pe y->i<xs.length->g i h a->a p=none->(gC K 2<|aS U0<|aS U1<|gh) (.ref p) (dA 2 [] σ) (upd a p<|.tup [x,y]) fun σ2 N=>(jc) σ2 N λb D =>
   if b=true then(aI (cR K n)<|aM V0 V1) σ2 D λv E=>E l=pe (.lst h)/\h.length<ai/\∃r,r<xs.length-i/\Wc xs.length g (i+1) r (h++[v]) (upd E l<|.lst<|h++[v])else ∃r,r<xs.length-i/\Wc xs.length g (i+1) r h D:=by
  rintro i h t x y p hx O hi ⟨rfl,S,T⟩ U;let⟨H2,WH,u,G⟩:=WG (o:=.tup [x,y]) U;rw[WH];apply⟨p,_,pw,bj.of G,pw,_,_,pw,_,_,pw,pw,oQ ?_⟩;apply⟨_,pw,_,pw,x,y,pw,.inl<|(M i x y hx O).same<|S.trans u,λH3 Y=>?_⟩;have s:=u.trans Y;apply⟨s _ _ T,by rw[am,dh];exact ax ⋯,rC hi ⟨by rw[<-IB,ay];rfl,λb o e=>?_,aa⟩⟩;rw[aj<|ag e C];exact s _ _<|S _ _ e
 have I:g 0 [] (upd H l<|.lst []):=⟨pw,ac.new C,aa⟩;obtain⟨rfl,w,z⟩|⟨rfl,w,z⟩:=L
 .exact yJ (xs:=xs) (ys:=j) ⋯ g I (λi h a _ A=>by let⟨_,S,q⟩:=A;exact⟨q,aA.same S w,aA.same S z⟩) m step
 .exact Hz (xs:=xs) (ys:=j) ⋯ g I (λi h a _ A=>by let⟨_,S,q⟩:=A;exact⟨q,bj.same S w,bj.same S z⟩) m step
theorem GQ{K:Za}(hn:n<=8)(r:∀m,n=m+1->U=cR K m)(h:cR K n Y H Q E):z9 K U (bH Q) (start Be Y) H:=by
 let⟨x,y,rfl,hA,k⟩:=h;obtain(⟨d,hx,A,v,z⟩|⟨b,rfl,rfl⟩)|⟨f,b,x,y,rfl,rfl,hf,N,m,rfl,d,hx,A,v,z⟩:=hA;rotate_left
 .refine⟨_,pw,_,pw,?_⟩;rw[qb nofun];refine aY ?_;apply⟨_,pw,.bl b,"bool",_,true,pw,.inl<|jp.bl b,pw,_,pw,bo ?_⟩;apply⟨_,pw,.bl b,"bool",_,true,pw,.inl<|jp.bl b,pw,_,pw,bo ?_⟩;apply⟨_,pw,_,pw,pw,?_⟩;rw[qh rfl];exact k H<|ac.refl _
 .obtain rfl:=r m rfl;have ty:Lu K H (.ref b) (.type "list"):=.inr<|.inr ⟨_,_,pw,pw,aA.of N⟩;have B:Lu K H (.ref f) (.type "list"):=.inr<|.inr ⟨_,_,pw,pw,aA.of hf⟩;apply⟨_,pw,_,pw,?_⟩;rw[qb nofun];refine aY ?_;apply⟨_,pw,.ref b,"bool",_,false,pw,ty,pw,_,pw,aY ?_⟩;apply⟨_,pw,.ref b,"str",_,false,pw,ty,pw,_,pw,aY ?_⟩;apply⟨_,pw,.ref b,"int",_,false,pw,ty,pw,_,pw,aY ?_⟩;apply⟨_,pw,.ref b,"tuple",_,false,pw,ty,pw,_,pw,aY<|aY ?_⟩;apply⟨_,pw,.ref b,"list",_,true,pw,ty,pw,_,pw,bo ⟨_,pw,.ref f,"list",_,true,pw,B,pw,_,pw,aY ?_⟩⟩;apply⟨_,pw,.inl ⟨f,_,pw,.inl<|aA.of hf,_,pw,.inl ⟨b,_,pw,.inl<|aA.of N,pw,_,pw,?_⟩⟩⟩;refine aY ⟨_,pw,_,pw,f,b,pw,.inl ⟨⟨_,aA.of hf⟩,⟨_,aA.of N⟩,λl a=>?_⟩⟩;refine mD (.inl ⟨pw,aA.of hf,aA.of N⟩) rfl (by show 2<=1000;decide) (λi u w e g=>?_) a λC S D=>⟨l,_,pw,aA.of D,by rw[rg];exact k C S⟩
  match i,e,g with
  |0,e,g=>cases e;cases g;exact .inl ⟨d,hx,A,v,z⟩
  |1,e,g=>cases e;cases g;exact .inr ⟨true,pw,pw⟩
  |n+2,e,_=>cases e
 have j:=gE.kd hx;have G:=gE.kd A;apply⟨_,pw,_,pw,?_⟩;have ny:decide (y=V.L')=false:=by cases G<;>exact qb nofun
 rw[ny];refine aY ?_;cases G with
 |int i =>
  cases j;apply⟨_,pw,.int i,"bool",_,false,pw,.inl<|jp.int i,pw,_,pw,aY ?_⟩;apply⟨_,pw,.int i,"str",_,false,pw,.inl<|jp.int i,pw,_,pw,aY ?_⟩;apply⟨_,pw,.int i,"int",_,true,pw,.inl<|jp.int i,pw,_,pw,bo ?_⟩;apply⟨_,pw,.int i,"int",_,true,pw,.inl<|jp.int i,pw,_,pw,bo ?_⟩;apply⟨_,pw,.int i,"bool",_,false,pw,.inl<|jp.int i,pw,_,pw,_,pw,bo ?_⟩;apply⟨_,pw,_,pw,_,_,hx,A,by nofun,by nofun,?_⟩;rw[qh rfl];exact k H<|ac.refl _
 |str i =>
  cases j;apply⟨_,pw,.str i,"bool",_,false,pw,.inl<|jp.str i,pw,_,pw,aY ?_⟩;apply⟨_,pw,.str i,"str",_,true,pw,.inl<|jp.str i,pw,_,pw,bo ?_⟩;apply⟨_,pw,.str i,"str",_,true,pw,.inl<|jp.str i,pw,_,pw,bo ?_⟩;apply⟨_,pw,_,pw,_,_,hx,A,by nofun,by nofun,?_⟩;rw[qh rfl];exact k H<|ac.refl _
 |@tup b I ds o J =>
  cases j with
  |@tup f xs _ p s =>
  have ty:Lu K H (.ref b) (.type "tuple"):=.inr<|.inl ⟨_,_,pw,pw,o⟩;have B:Lu K H (.ref f) (.type "tuple"):=.inr<|.inl ⟨_,_,pw,pw,p⟩;obtain⟨m,rfl⟩:∃m,n=m+1:=⟨n-1,by have:=JJ v;nofun⟩;obtain rfl:=r m rfl;apply⟨_,pw,.ref b,"bool",_,false,pw,ty,pw,_,pw,aY ?_⟩;apply⟨_,pw,.ref b,"str",_,false,pw,ty,pw,_,pw,aY ?_⟩;apply⟨_,pw,.ref b,"int",_,false,pw,ty,pw,_,pw,aY ?_⟩;apply⟨_,pw,.ref b,"tuple",_,true,pw,ty,pw,_,pw,bo ⟨_,pw,.ref f,"tuple",_,true,pw,B,pw,_,pw,aY ?_⟩⟩;apply⟨_,pw,.ref b,"list",_,false,pw,ty,pw,_,pw,aY<|aY ?_⟩;apply⟨_,pw,.inl ⟨f,_,pw,.inr p,_,pw,.inl ⟨b,_,pw,.inr o,pw,_,pw,?_⟩⟩⟩;have L:xs.length=I.length:=by rw[wh.len s,wh.len J]
  have O:(!decide (V.int (xs.length:Nat)=V.int (I.length:Nat)))=false:=by rw[qh (by rw[L])];rfl
  rw[O];refine aY ⟨_,pw,_,pw,f,b,pw,.inr ⟨⟨_,p⟩,⟨_,o⟩,λl a=>?_⟩⟩;exact mD (.inr ⟨pw,p,o⟩) L (by rw[wh.len s];exact z.1) (λi u w e g=>by let⟨d,t,T⟩:=wh.get s e;let⟨d',q,M⟩:=wh.get J g;rw[t]at q;injection q with q;rw[<-q]at M;exact .inl ⟨d,T,M,pj (Lg v) t,v9 z.2 t⟩) a λC S D=>⟨l,_,pw,aA.of D,by rw[rg];exact k C S⟩
 |@lst b I ds o J =>
  cases j with
  |@lst f xs _ p s =>
  have ty:Lu K H (.ref b) (.type "list"):=.inr<|.inr ⟨_,_,pw,pw,o⟩;have B:Lu K H (.ref f) (.type "list"):=.inr<|.inr ⟨_,_,pw,pw,p⟩;obtain⟨m,rfl⟩:∃m,n=m+1:=⟨n-1,by have:=JK v;nofun⟩;obtain rfl:=r m rfl;apply⟨_,pw,.ref b,"bool",_,false,pw,ty,pw,_,pw,aY ?_⟩;apply⟨_,pw,.ref b,"str",_,false,pw,ty,pw,_,pw,aY ?_⟩;apply⟨_,pw,.ref b,"int",_,false,pw,ty,pw,_,pw,aY ?_⟩;apply⟨_,pw,.ref b,"tuple",_,false,pw,ty,pw,_,pw,aY<|aY ?_⟩;apply⟨_,pw,.ref b,"list",_,true,pw,ty,pw,_,pw,bo ⟨_,pw,.ref f,"list",_,true,pw,B,pw,_,pw,aY ?_⟩⟩;apply⟨_,pw,.inl ⟨f,_,pw,.inl p,_,pw,.inl ⟨b,_,pw,.inl o,pw,_,pw,?_⟩⟩⟩;have L:xs.length=I.length:=by rw[wh.len s,wh.len J]
  have O:(!decide (V.int (xs.length:Nat)=V.int (I.length:Nat)))=false:=by rw[qh (by rw[L])];rfl
  rw[O];refine aY ⟨_,pw,_,pw,f,b,pw,.inl ⟨⟨_,p⟩,⟨_,o⟩,λl a=>?_⟩⟩;exact mD (.inl ⟨pw,p,o⟩) L (by rw[wh.len s];exact z.1) (λi u w e g=>by let⟨d,t,T⟩:=wh.get s e;let⟨d',q,M⟩:=wh.get J g;rw[t]at q;injection q with q;rw[<-q]at M;exact .inl ⟨d,T,M,pj (Lh v) t,v9 z.2 t⟩) a λC S D=>⟨l,_,pw,aA.of D,by rw[rg];exact k C S⟩
def EG:Option Eg->DT
 |none=>dJ "none"
 |some e=>.t [dJ "trial",.t<|e.way.map Ic]
def Hr:Option (WD×WD)->DT->DT
 |none,d=>d
 |some (r,a),_=>.t [dJ "taker",dJ r,dJ a]
def ui(b:Bool)(d:DT):DT:=if b=true then d else dJ "match"
structure VO(K:Za)(Cn Cw VU VW Cx Cd Ck Wq Cs Ct Cm Cr Cj:Wv):Prop where
 mm:kZ K (.ref Cm) (.ref Cm)=pe true
 km:kZ K (.ref Ck) (.ref Cm)=pe false
 kk:kZ K (.ref Ck) (.ref Ck)=pe true
 nm:kZ K (.ref Cn) (.ref Cm)=pe false
 nk:kZ K (.ref Cn) (.ref Ck)=pe false
 nn:kZ K (.ref Cn) (.ref Cn)=pe true
 em:Nf K Cm
 ek:Nf K Ck
 en:Nf K Cn
 mv:l_ K (.ref Cm) (.type "ValueError")=pe true
 kt:l_ K (.ref Ck) (.ref Ct)=pe true
 nv:l_ K (.ref Cn) (.type "ValueError")=pe true
 mo:oB K (.ref Cm) [.ref Cd,.ref Cj,.ref Cx,.ref VW,.ref Cr]=pe false
 ko:oB K (.ref Ck) [.ref Cs,.ref VU,.ref Cw,.ref Wq,.ref Cx]=pe false
 no:oB K (.ref Cn) [.ref Cd,.ref Cx,.ref VW,.ref VU,.ref Cw]=pe false
 fk:XF K Ck ["room","ask"]
 fn:XF K Cn ["way"]
inductive eN(K:Za)(C:Wv)(vs:List V)(H:Hp)(Q:VK)(E:XK):Prop
 |mk (M I:Wv) (v:V) (T:Gt) (J0 J2 rooms A' Mr r1:Zb) (ds d1:List ak):vs=[.ref M,v,.ref I]->bE C H M J0 J2 rooms ds->bE C H I A' Mr r1 d1->eE K H T.dt v->T.wf->(T.P4<=4) ->
  (∀(l:Wv) (x:V) (H':Hp),H' l=pe (.lst [x,.bl true])->gE K H' (ui (decide (J0=A'/\J2=Mr)) (Hr (O9 d1 A' r1) (EG (Oy J0 J2 (eR [] [] T))))) x->ac H H'->Q (.ref l) H')->eN K C vs H Q E
theorem Ea{K:Za}{C Cn N m p Cx O y A Cs Ct U Cr Cj:Wv}(F:VO K Cn N m p Cx O y A Cs Ct U Cr Cj){vs:List V}{H:Hp}{Q:VK}{E:XK}(h:eN K C vs H Q E):wY K (lr K C U y Cn) Cn N m p Cx O y A Cs Ct U Cr Cj (bH Q) (start xJ vs) H:=by
 let⟨M,I,v,T,J0,J2,rooms,f,g,r1,ds,d1,rfl,MA,IA,hv,wf,hg,k⟩:=h;have B:∀(x:V) (i:Hp) (x5:Option V),gE K i (ui (decide (J0=f/\J2=g))<|Hr (O9 d1 f r1)<|EG<|Oy J0 J2<|eR [] [] T) x->ac H i->(be<|cK<|aM V3 V4) (bH Q) [pe<|.ref M,pe v,pe<|.ref I,pe x,pe<|.bl true,x5] i:=λx i x5 hx D=>by
  apply⟨_,pw,_,pw,Q2,λl hl=>?_⟩;have j:=ac.new (o:=.lst [x,.bl true]) hl;exact k l x _ aa (gE.same j hx)<|D.trans j
 have L:∀{d:DT},J0=f->J2=g->ui (decide (J0=f/\J2=g)) d=d:=fun{d} h1 h2=>by unfold ui;rw[if_pos<|qh ⟨h1,h2⟩]
 apply⟨_,pw,_,pw,_,pw,M,I,v,T,J0,J2,rooms,f,g,r1,ds,d1,pw,MA,IA,hv,wf,hg,λea es lk bd u i D=>?_,λn a i X1=>?_,λea es r a lk e i X1=>?_,λea es lk e bd x i X1=>?_⟩
 .refine B _ i _ ?_ D;rw[L ea es,lk,bd];rfl
 .obtain⟨D,od,G,ab⟩:=X1;apply⟨U,a,true,pw,pw,F.mm,bo ?_⟩;apply⟨_,pw,a,U,od,_,_,_,pw,.inr ⟨_,pw,pw⟩,G,ab,F.em,F.mv,_,pw,bo ?_⟩;apply⟨_,pw,(by show 5<=ai;decide),λw hw=>?_⟩;have j:=ac.new (o:=.tup [.ref O,.ref Cj,.ref Cx,.ref p,.ref Cr]) hw;apply⟨a,U,w,od,[O,Cj,Cx,p,Cr],false,pw,aa,j _ _ G,?_,F.em,F.mo,_,pw,?_⟩
  .obtain z|⟨d,fs,e,J⟩:=ab
   .exact .inl z
   .exact .inr ⟨d,fs,e,j _ _ J⟩
  refine B _ _ _ ?_<|D.trans j;unfold ui;rw[if_neg (by rw[qb n];decide)];rfl
 .obtain⟨D,d,G,J⟩:=X1;apply⟨y,e,false,pw,pw,F.km,aY ?_⟩;apply⟨y,e,true,pw,pw,F.kk,bo ?_⟩;apply⟨_,pw,e,y,d,_,.str r,pw,G,J,F.fk.cls,F.fk.no _ ∅,(by simp[ix]),?_⟩;apply⟨_,pw,e,y,d,_,.str a,pw,G,J,F.fk.cls,F.fk.no _ ∅,?_,Q3,λu hu=>?_⟩
  .have:(("ask":WD)=="room")=false:=by decide +kernel
   simp[ix,this]
  let⟨H2,WH,j,u2⟩:=WG (o:=.tup [.str "taker",.str r,.str a]) hu;rw[WH];have q:=j _ _ G;have s:=j _ _ J;apply⟨_,pw,e,y,pe d,_,_,_,pw,.inl ⟨_,pw,pw⟩,q,.inr ⟨d,_,pw,s⟩,F.ek,F.kt,_,pw,bo ?_⟩;apply⟨_,pw,(by show 5<=ai;decide),λw hw=>?_⟩;have t:=ac.new (o:=.tup [.ref Cs,.ref m,.ref N,.ref A,.ref Cx]) hw;apply⟨e,y,w,pe d,[Cs,m,N,A,Cx],false,pw,aa,t _ _ q,.inr ⟨d,_,pw,t _ _ s⟩,F.ek,F.ko,_,pw,?_⟩;refine B _ _ _ ?_<|(D.trans j).trans t;rw[L ea es,lk];exact(VE (t _ _ u2)<|Nj yG<|Nj yG<|Nj yG VF).SS
 .obtain⟨D,d,Y,G,J,al⟩:=X1;apply⟨Cn,x,false,pw,pw,F.nm,aY ?_⟩;apply⟨Cn,x,false,pw,pw,F.nk,aY ?_⟩;apply⟨Cn,x,true,pw,pw,F.nn,bo ?_⟩;apply⟨_,pw,x,Cn,d,_,.ref Y,pw,G,J,F.fn.cls,F.fn.no _ ∅,(by simp[ix]),Q2,λu hu=>?_⟩;let⟨H2,WH,j,u2⟩:=WG (o:=.tup [.str "trial",.ref Y]) hu;rw[WH];have q:=j _ _ G;have s:=j _ _ J;apply⟨_,pw,x,Cn,pe d,_,_,_,pw,.inr ⟨_,pw,pw⟩,q,.inr ⟨d,_,pw,s⟩,F.en,F.nv,_,pw,bo ?_⟩;apply⟨_,pw,(by show 5<=ai;decide),λw hw=>?_⟩;have t:=ac.new (o:=.tup [.ref O,.ref Cx,.ref p,.ref m,.ref N]) hw;apply⟨x,Cn,w,pe d,[O,Cx,p,m,N],false,pw,aa,t _ _ q,.inr ⟨d,_,pw,t _ _ s⟩,F.en,F.no,_,pw,?_⟩;refine B _ _ _ ?_<|(D.trans j).trans t;rw[L ea es,lk,bd];exact⟨u,_,pw,bj.of<|t _ _ u2,_,_,pw,pw,_,_,pw,⟨Y,_,pw,bj.of<|(j.trans t) _ _ al,vn e.way⟩,pw⟩
theorem MY(c:Bool)(lk:Option<|WD×WD)(f:Option Eg)(g:∀e,f=pe e->e.way.length<=1):(ui c<|Hr lk<|EG f).depth<=2/\DT.Qb (ui c<|Hr lk<|EG f):=by
 unfold ui;split
 .cases lk with
  |some x=>let⟨r,a⟩:=x;exact⟨by show 1<=2;decide,by show 3<=1000;decide,trivial,trivial,trivial,trivial⟩
  |none =>
   cases f with
   |none=>exact⟨cw _,trivial⟩
   |some e =>
    have k:=g e rfl;have h:DT.l' (e.way.map Ic)=0:=xP e.way;have i:∀w:List Nat,DT.Tg (w.map Ic):=λw=>by
     induction w with
     |nil=>trivial
     |cons n r j=>exact⟨trivial,j⟩
    apply⟨?_,by show 2<=1000;decide,trivial,⟨by rw[am];nofun,i _⟩,trivial⟩;show max 0 (max (DT.l' (e.way.map Ic)+1) 0)+1<=2;rw[h];decide
 .exact⟨cw _,trivial⟩
abbrev NL(K:Za)(E' B' zm:Sp):TS :=
 (ar (bS (Fw (aQ<|aD (sI K) (aD (cu K) V5<|tC<|.int 0)<|aD (cu K) V3<|tC<|.int 0)<|aQ<|aD (sI K) (aD (cu K) V5<|tC<|.int 1)<|aD (cu K) V3<|tC<|.int 1) (aL (tC<|.str "match") U7)<|bf)
 (bS (Ab<|tB<|aI E'<|aq (aI B'<|bY V4 V6<|aI zm<|av V5)<|av<|cK<|aM V7<|tC<|.bl true) (be<|tC<|.bl false)<|bf))
abbrev MP(K:Za)(E' B' zm N':Sp):TS :=
 (ar (bS (tB<|xW<|aI N'<|av V5) (aL (aD (IV K) (aU<|av<|tC<|.str "taker")<|aI N'<|av V5) U7)<|bf)
 (NL K E' B' zm))
structure NW(K:Za)(C:Wv)(H:Hp)(p c t M o:Wv)(v:V)(G:Gt)(J0 J2 A' Mr r':Zb)(d':List ak):Prop where
 pen:eF H p c
 tl:∃l1 l2 l3 l4 ts rooms ds,eD H t l1 l2 l3 l4 ts J0 J2 rooms ds/\bE C H M J0 J2 rooms ds
 ow:∃o1 o2 o3 o4 ts,eD H o o1 o2 o3 o4 ts A' Mr r' d'
 mo:aE A' Mr r' d'
 hv:eE K H G.dt v
 wf:G.wf
 hg:G.P4<=4
 bw:∀e,Oy J0 J2 (eR [] [] G)=pe e->e.way.length<=1
theorem NW.same{K:Za}(h:NW K C H p c t M o v G g i a e j k)(S:ac H f):NW K C f p c t M o v G g i a e j k:=by
 let⟨l,⟨m,n,q,r,s,rooms,u,w,x⟩,⟨y,z,A,B,D,E⟩,I,J,L,N,O⟩:=h;exact⟨l.ex S,⟨m,n,q,r,s,rooms,u,w.same S,x.same S⟩,⟨y,z,A,B,D,E.same S⟩,I,eE.kt (ac.kt S) _ _ J,L,N,O⟩
theorem Ma{K:Za}(s:NW K C H p c t M o v G g h a e i j)(Y:gE K H (Hr (O9 j a i)<|EG<|Oy g h<|eR [] [] G) k)(kn:∀(k:Option V) (J:Hp),eF J p c->D.nx [r,pe<|.ref p,u,pe<|.ref t,pe<|.ref M,pe<|.ref o,pe v,k,w] J) :
  NL K (cR K 3) (eN K C) (eO C) D [r,pe<|.ref p,u,pe<|.ref t,pe<|.ref M,pe<|.ref o,pe v,pe k,w] H:=by
 let⟨l1,l2,l3,l4,ts,rooms,ds,T,MA⟩:=s.tl;let⟨L,N,o3,o4,us,O⟩:=s.ow;have f:∀(y:V),gE K H (ui (decide (g=a/\h=e))<|Hr (O9 j a i)<|EG<|Oy g h<|eR [] [] G) y->(bS (Ab<|tB<|aI (cR K 3)<|aq (aI (eN K C)<|bY V4 V6<|aI (eO C)<|av V5)<|av<|cK<|aM V7<|tC<|.bl true) (be<|tC<|.bl false)<|bf) D [r,pe<|.ref p,u,pe<|.ref t,pe<|.ref M,pe<|.ref o,pe v,pe y,w] H:=λy hy=>by
  apply⟨_,pw,_,pw,_,pw,o,L,N,o3,o4,us,a,e,i,j,pw,O,s.mo,λI H1 I1 A=>?_⟩;apply⟨M,I,v,G,g,h,rooms,a,e,i,ds,j,pw,MA.same A,I1,eE.kt (ac.kt A) _ _ s.hv,s.wf,s.hg,λl x Q hl hx S2=>?_⟩;apply⟨_,pw,Q2,λU B=>?_⟩;have E:=ac.new (o:=.lst [y,.bl true]) B;let⟨z1,z2⟩:=MY (decide (g=a/\h=e)) (O9 j a i) (Oy g h<|eR [] [] G) s.bw;have m:=(A.trans S2).trans E;apply⟨_,_,pw,.inr ⟨l,U,x,y,pw,pw,E _ _ hl,aa,2,pw,_,gE.same E hx,gE.same m hy,z1,z2⟩,λH4 S4=>⟨_,pw,?_⟩⟩;exact aY<|kn _ H4<|s.pen.ex<|m.trans S4
 apply⟨_,pw,o,_,0,.ref L,pw,pw,bj.of O.t,pw,_,pw,t,_,0,.ref l1,pw,pw,bj.of T.t,pw,?_⟩;refine uC O.a1 T.a1 ⟨_,pw,?_⟩;by_cases n:a=g
 .rw[qh n];refine aY ⟨_,pw,o,_,1,.ref N,pw,pw,bj.of O.t,pw,_,pw,t,_,1,.ref l2,pw,pw,bj.of T.t,pw,?_⟩;refine uC O.a2 T.a2 ⟨_,pw,?_⟩;by_cases q:e=h
  .rw[qh q];refine aY<|f k ?_;unfold ui;rw[if_pos<|qh ⟨n.symm,q.symm⟩];exact Y
  .rw[qb q];refine bo<|f (.str "match") ?_
   unfold ui;rw[if_neg (by rw[qb<|λz=>q z.2.symm];decide)];rfl
 .rw[qb n];refine bo<|bo<|f (.str "match") ?_
  unfold ui;rw[if_neg (by rw[qb<|λz=>n z.1.symm];decide)];rfl
theorem Ju{K:Za}(s:NW K C H p c t M o v G n x e f l m)(hd:gE K H (EG<|Oy n x<|eR [] [] G) j)(E:∀(j:Option V) (I:Hp),eF I p c->D.nx [y,pe<|.ref p,A,pe<|.ref t,pe<|.ref M,pe<|.ref o,pe v,j,B] I) :
  MP K (cR K 3) (eN K C) (eO C) (jK K) D [y,pe<|.ref p,A,pe<|.ref t,pe<|.ref M,pe<|.ref o,pe v,pe j,B] H:=by
 let⟨J,L,N,Q,T,O⟩:=s.ow;apply⟨_,pw,o,J,L,N,Q,T,e,f,l,m,pw,O,s.mo,λlk g k=>⟨_,pw,?_⟩,λr a lk u g hu k=>⟨_,pw,?_⟩⟩
 .rw[qh rfl];refine aY<|Ma (s.same k) ?_ E;rw[lk];exact gE.same k hd
 .rw[qb (λz=>by cases z)];refine bo ⟨Q1,λq hq=>?_⟩;let⟨H2,WH,U,Y⟩:=WG (o:=.tup [.str "taker"]) hq;rw[WH];have h:=k.trans U;apply⟨_,pw,o,J,L,N,Q,T,e,f,l,m,pw,O.same h,s.mo,(λz=>by rw[lk]at z;cases z),λr2 a2 i w H3 hw S3=>?_⟩;rw[lk]at i;cases i;apply⟨q,w,_,_,pw,pw,bj.of<|S3 _ _ Y,bj.of hw,(λz=>by cases z),Q3,(λz=>by cases z),λ_ b hb=>?_⟩;have S4:=ac.new (o:=.tup [.str "taker",.str r,.str a]) hb;refine Ma (s.same<|(h.trans S3).trans S4) ?_ E;rw[lk];exact(VE aa<|Nj yG<|Nj yG<|Nj yG VF).SS
abbrev NM(K:Za)(E' B' zm N' qa Pj Oz:Sp):TS :=
 (ar (aL (aI Oz<|aq V1<|bY V3 (tC<|.int 2)<|cK<|av<|tC<|.int 5) U6)
 (ar (aL (tC<|.str "none") U7)
 (ar (bS (aQ<|aD kW (aI qa<|aM V1<|tC<|.int 2)<|tC<|.int 0) (ar (aL (aI Pj<|bY V1 V3 V6)<|gC K 2<|aS U6<|aS U8<|gh)
 (aL (aU<|aM (tC<|.str "trial") V8) U7))<|bf)
 (MP K E' B' zm N'))))
theorem CZ(wf:T.wf f a):Oy f a (eR [] []<|Gt.of a T)=none:=by
 unfold Oy;refine List.find?_eq_none.2 λe g z=>?_;rw[qv.2<|Gt.TY T [] [] wf e g]at z;cases z
theorem Fs{K:Za}(hp:eF H p c)(T:eD H t s w l3 x y J0 h rooms i)(m:aE J0 h rooms i)(MA:bE C H M J0 h rooms i)(O:eD H o U Y o3 o4 us a f r' d')(mo:aE a f r' d')(kn:∀(x6 x7 x8:Option V) (N:Hp),eF N p c->D.nx [x0,pe<|.ref p,x2,pe<|.ref t,pe<|.ref M,pe<|.ref o,x6,x7,x8] N) :
  NM K (cR K 3) (eN K C) (eO C) (jK K) ca (kF K) (eW K 2) D [x0,pe<|.ref p,x2,pe<|.ref t,pe<|.ref M,pe<|.ref o,x6,x7,x8] H:=by
 apply⟨_,pw,_,pw,Q1,λg j=>?_⟩;have z:g≠p:=(hp.Ry j).symm;have A:g≠c:=(hp.Tv j).symm;have T5:eD (pi (upd H g<|.lst [.int 5]) g) t s w l3 x y J0 h rooms i:=by rw[v5 j];exact T
 have O5:eD (pi (upd H g<|.lst [.int 5]) g) o U Y o3 o4 us a f r' d':=by rw[v5 j];exact O
 have M5:bE C (pi (upd H g<|.lst [.int 5]) g) M J0 h rooms i:=by rw[v5 j];exact MA
 have B:eF (upd H g<|.lst [.int 5]) p c:=hp.upd z.symm A.symm;have ab:=WI H g (.lst [.int 5]);show eW K 2 [.ref p,.ref t,.int 2,.ref g] (upd H g<|.lst [.int 5]) _ _;generalize upd H g (.lst [.int 5])=H5 at T5 O5 M5 B ab ⊢;apply⟨p,c,t,s,w,l3,x,g,y,2,5,J0,h,rooms,i,pw,WE,B,z,A,T5,m,ab,λv Tt n' H6 hv wf hg k aT E=>?_⟩;have hh:=B.Te z.symm A.symm;have T6:eD H6 t s w l3 x y J0 h rooms i:=(T5.ex hh E.Ut).same i5;have O6:eD H6 o U Y o3 o4 us a f r' d':=(O5.ex hh E.Ut).same i5;have M6:bE C H6 M J0 h rooms i:=(M5.ex hh E.Ut).same i5;apply⟨_,pw,cJ k WE WE λr H7 r0 r2 l n=>⟨pw,_,pw,?_⟩⟩;have T7:=T6.ex k n;have O7:=O6.ex k n;have M7:=M6.ex k n;have al:eE K H7 (Tt.dt h) v:=by let⟨xs,hx⟩:=k.lst;exact eE.kt (n.kt hx) _ _ hv
 refine kb (λ_=>?_)<|λ_=>?_
 .refine⟨_,pw,_,pw,_,pw,p,c,t,s,w,l3,x,y,J0,h,rooms,i,v,Tt,pw,l,T7,m,al,wf,hg,λu Q v' G an H8 hu as hG wG gG zw hb aC I=>?_⟩;let⟨e,he,hw⟩:=hb;apply⟨u,_,pw,bj.of hu,pw,_,_,pw,_,_,pw,pw,?_⟩;apply⟨_,pw,Q2,λq hq=>?_⟩;have J:=ac.new (o:=.tup [.str "trial",.ref Q]) hq;have q9:=WI H8 q (.tup [.str "trial",.ref Q]);show(MP _ _ _ _ _) _ _ (upd H8 q<|.tup [.str "trial",.ref Q]);generalize upd H8 q (.tup [.str "trial",.ref Q])=H9 at J q9 ⊢;refine Ju ⟨aC.ex J,⟨s,w,l3,x,y,rooms,i,(T7.ex l I).same J,(M7.ex l I).same J⟩,⟨U,Y,o3,o4,us,(O7.ex l I).same J⟩,mo,eE.kt (ac.kt J) _ _ hG,wG,gG,λe' L=>?_⟩ ?_ λx7 N q=>kn _ _ _ N q
  .rw[he]at L;injection L with L;rw[<-L,hw];exact zw
  .rw[he];exact⟨q,_,pw,bj.of q9,_,_,pw,pw,_,_,pw,⟨Q,_,pw,bj.of<|J _ _ as,by rw[hw];exact vn an⟩,pw⟩
 .obtain⟨wG,hG⟩:=Gt.Tb (J0:=J0) m.Pd Tt wf;refine Ju (G:=Gt.of h Tt) ⟨l,⟨s,w,l3,x,y,rooms,i,T7,M7⟩,⟨U,Y,o3,o4,us,O7⟩,mo,by rw[Gt.Tc];exact al,wG,by nofun,λe' L=>by rw[CZ wf]at L;cases L⟩ ?_ λx7 N q=>kn _ _ _ N q;rw[CZ wf];rfl
inductive Pl(K:Za)(vs:List V)(H:Hp)(Q:VK)(E:XK):Prop
 |mk (a:Wv) (ns:List Int):vs=[.ref a]->aA K H a (ns.map V.int)->ns.length<=63->(∀H',Q (.bl true) H')->Pl K vs H Q E
theorem IH{K:Za}(h:Pl K vs H Q E):Ku K (cR K 3) (eN K C) (eO C) (jK K) ca (kF K) (eW K 2) (je K) uu ut qq (ur K) (bH Q) (start Gk vs) H:=by
 let⟨a,ns,rfl,hs,hn,k⟩:=h;apply⟨_,pw,a,ns,pw,hs,hn,λp c H1 _ ab S1=>?_⟩;apply⟨4,pw,WE,WE,?_⟩
 let B:Nat->L2.St->Hp->Prop:=λi σ H'=>∃(x2 x3 x4 x5 y z A:Option V),σ=[pe<|.ref a,pe<|.ref p,x2,x3,x4,x5,y,z,A]/\eF H' p c
 refine kM (lo:=0) (n:=Int.toNat 4) B ⟨_,_,_,_,_,_,_,pw,ab⟩ ?_ ?_;rotate_left
 .rintro σ G ⟨x2,x3,x4,x5,y,z,A,rfl,_⟩;exact k G
 rintro i σ H2 hi ⟨x2,x3,x4,x5,y,z,A,rfl,al⟩;apply⟨_,pw,p,c,6,1,pw,al,WE,WE,WE,WE,λt L N l3 l4 ts s u rooms O H3 T3 m an Qb as a5=>?_⟩;have zr:rooms.length<=6:=an;apply⟨_,pw,t,L,N,l3,l4,ts,s,u,rooms,O,pw,T3,m,λM H4 M4 S4=>?_⟩;have T4:=T3.same S4;have v:=as.ex S4;apply⟨_,pw,_,pw,p,c,t,L,N,l3,l4,ts,s,u,rooms,O,2,pw,v,T4,m,by nofun,by nofun,by nofun,λo n3 n4 D T d1 H5 O5 m1 _ _ _ l I=>?_⟩;have T5:=T4.ex v I;have M5:=M4.ex v I;have f:∀{w:Hp}{o o1 o2 o3 o4:Wv}{D:Ze}{U:List ak},eF w p c->eD w t L N l3 l4 ts s u rooms O->bE C w M s u rooms O->eD w o o1 o2 o3 o4 D s u T U->aE s u T U ->
   (ar (bS (aQ<|aD kW (aI ca<|aM V1<|tC<|.int 4)<|tC<|.int 0) (aL (aI (je K)<|aM V1 V5) U5)<|bf)<|NM K (cR K 3) (eN K C) (eO C) (jK K) ca (kF K)<|eW K 2) { nx:=B<|i+1,rt:=Q} [pe<|.ref a,pe<|.ref p,pe<|.int<|0+(i:Nat),pe<|.ref t,pe<|.ref M,pe<|.ref o,y,z,A] w:=fun{w o o1 o2 o3 o4 D U} e Y M6 O6 mo=>by
  apply⟨_,pw,cJ e WE WE λr H7 r0 r2 g j=>⟨pw,_,pw,?_⟩⟩;have T7:=Y.ex e j;have O7:=O6.ex e j;have M7:=M6.ex e j;refine kb (λ_=>?_)<|λ_=>?_
  .refine⟨_,pw,_,pw,p,c,o,o1,o2,o3,o4,D,s,u,T,U,pw,g,O7,mo,λo' a6 a7 aC aT aX a0 e' H8 O8 m8 a4 J=>?_⟩;exact Fs a4 (T7.ex g J) m (M7.ex g J) O8 m8 λy z A H' q=>⟨_,_,_,_,_,_,_,pw,q⟩
  .exact Fs g T7 m M7 O7 mo λy z A H' q=>⟨_,_,_,_,_,_,_,pw,q⟩
 apply⟨_,pw,cJ l WE WE λr w r0 r2 e x=>⟨pw,_,pw,?_⟩⟩;have Y:=T5.ex l x;have O6:=O5.ex l x;have M6:=M5.ex l x;refine kb (λ_=>?_)<|λ_=>?_
 .refine⟨_,pw,_,pw,p,c,o,L,N,n3,n4,D,s,u,T,d1,pw,e,O6,m1,λo' aC aT e' H7 O7 m7 g j=>?_⟩;exact f g (Y.ex e j) (M6.ex e j) O7 m7
 .exact f e Y M6 O6 m1
theorem NJ{L:Ze}(f:L.Nodup)(i j:Nat)(h:i<j)(hi:L[i]?=pe a)(g:L[j]?=pe b):b≠a:=λe=>by
 let⟨k,l⟩:=cx.1 hi;let⟨m,n⟩:=cx.1 g;have:=List.pairwise_iff_getElem.mp f i j k m h;rw[l,n]at this;exact this e.symm
section
variable{K:Za}{mg:WD->Option Wx}{Ct:Wv}
theorem Ew{x:WD}{C:Wv}(h:XX K mg x C Ct){L:Ze}(a:∀D∈L,(∃y,XX K mg y D Ct)/\D≠Ct/\D≠C):oB K (.ref C) (L.map Value.ref)=pe false:=by
 refine yk λv e=>?_;let⟨D,f,rfl⟩:=aV.1 e;let⟨⟨y,g⟩,i,j⟩:=a D f;rw[h.is g i,qb j]
theorem M3{P:Wv->Prop}{a b c d e:Wv}(f:P a)(g:P b)(h:P c)(i:P d)(j:P e):∀D∈[a,b,c,d,e],P D:=λD hD=>by
 obtain rfl|hD:=b_.1 hD
 .exact f
 obtain rfl|hD:=b_.1 hD
 .exact g
 obtain rfl|hD:=b_.1 hD
 .exact h
 obtain rfl|hD:=b_.1 hD
 .exact i
 .rw[dF.1 hD];exact j
theorem Mw{a1 a2 a3 H I J L M N O Q T:WD}{Cn o g h Cx p Ck k Cs r s t:Wv}(e:XX K mg a1 Cn Ct)(z:XX K mg a2 o Ct)(m:XX K mg a3 g Ct)(n:XX K mg H h Ct)(hx:XX K mg I Cx Ct)(A:XX K mg J p Ct)(f:XX K mg L Ck Ct)(u:XX K mg M k Ct)(U:XX K mg N Cs Ct)(l:XX K mg O r Ct)(Y:XX K mg Q s Ct)(hj:XX K mg T t Ct)(xt:XO K Ct eg)(v:XG K)
  (n1:bO K Ck "room") (n2:bO K Ck "ask") (n3:bO K Cn "way") (nd:[Ct,Cx,Ck,Cn,o,g,r,t,Cs,p,h,s,k].Nodup):VO K Cn o g h Cx p Ck k Cs Ct r s t:=by
 have q:=λ(i j:Nat) {a b:Wv}=>NJ nd i j (a:=a) (b:=b);have w:=q 0 1 WE rfl rfl;have x:=q 0 2 WE rfl rfl;have B:=q 0 3 WE rfl rfl;have C:=q 0 4 WE rfl rfl;have D:=q 0 5 WE rfl rfl;have y:=q 0 6 WE rfl rfl;have zj:=q 0 7 WE rfl rfl;have zs:=q 0 8 WE rfl rfl;have E:=q 0 9 WE rfl rfl;have G:=q 0 10 WE rfl rfl;have zr:=q 0 11 WE rfl rfl;have zy:=q 0 12 WE rfl rfl;have km:=q 2 6 WE rfl rfl;have nm:=q 3 6 WE rfl rfl;have kn:=q 2 3 WE rfl rfl;apply⟨by rw[l.TL l y,qh rfl],by rw[f.TL l y,qb km],by rw[f.TL f x,qh rfl],by rw[e.TL l y,qb nm],by rw[e.TL f x,qb<|dD kn],by rw[e.TL e B,qh rfl],l.Vg v,f.Vg v,e.Vg v,l.ve,XX.VY f xt,e.ve,
  Ew l (M3 ⟨⟨_,A⟩,E,q 6 9 WE rfl rfl⟩ ⟨⟨_,hj⟩,zj,q 6 7 WE rfl rfl⟩ ⟨⟨_,hx⟩,w,dD (q 1 6 WE rfl rfl)⟩ ⟨⟨_,n⟩,G,q 6 10 WE rfl rfl⟩ ⟨⟨_,Y⟩,zr,q 6 11 WE rfl rfl⟩),
  Ew f (M3 ⟨⟨_,U⟩,zs,q 2 8 WE rfl rfl⟩ ⟨⟨_,m⟩,D,q 2 5 WE rfl rfl⟩ ⟨⟨_,z⟩,C,q 2 4 WE rfl rfl⟩ ⟨⟨_,u⟩,zy,q 2 12 WE rfl rfl⟩ ⟨⟨_,hx⟩,w,dD (q 1 2 WE rfl rfl)⟩),
  Ew e (M3 ⟨⟨_,A⟩,E,q 3 9 WE rfl rfl⟩ ⟨⟨_,hx⟩,w,dD (q 1 3 WE rfl rfl)⟩ ⟨⟨_,n⟩,G,q 3 10 WE rfl rfl⟩ ⟨⟨_,m⟩,D,q 3 5 WE rfl rfl⟩ ⟨⟨_,z⟩,C,q 3 4 WE rfl rfl⟩),
  LD f x (Wb n1 n2),LD e B<|Vy n3⟩
end
def fO(i:Nat):WC:=PySem.Challenge.pw_mumtrial_k32_blames_refused.main.body.getD i<|.Pass ⟨0,0,0,0⟩
local macro_rules | `(tactic| walk_at "s")=>`(tactic| exact⟨pw,pw,pw,by decide +kernel,pw,by decide +kernel,by decide +kernel⟩)
local macro_rules | `(tactic| walk_at "l")=>`(tactic| (intro _ _ _ _ h;first|exact Vz h|exact VA h|(cases h;subst_vars;rfl)|(let⟨_,_,h,_⟩:=h;subst h;rfl)|((repeat let⟨_,h⟩:=h);subst_vars;rfl)))
theorem UJ{e:List Wx}{n:Nat}(h:e.length=n+1):∃ a t,e=a::t∧t.length=n:=by
  cases e with
  |nil=>cases h
  |cons a t=>exact⟨a,t,pw,Nat.succ.inj h⟩
local macro_rules | `(tactic| walk_at "b")=>`(tactic| (intro _ _ _ _ _ _ us hl;(repeat (have h:=UJ hl;clear hl;let⟨_,_,e,hl⟩:=h;subst e));cases List.eq_nil_of_length_eq_zero hl;rfl))
def N4(K:Za)(x qual:WD)(st:WC)(f:Wv):Prop:=∃(oc:Wx) (od an:Option Wv) (sl:Array<|Option Wx) (kV dc pm cd ct:Wx),
 K.lookup f=pe ⟨oc,od,.func<|jb x qual (iX st) (f_ st) (bL st) .none kV dc pm an cd ct,sl⟩/\oK K cd qual=true/\db K (.ref f)=true
theorem JH{K:Za}{x a:WD}{st:WC}{f:Wv}{e:Wx}{g h:Option Wv}{i:Array (Option Wx)}{kV j m cd n:Wx}(l:K.lookup f=pe ⟨e,g,.func<|jb x a (iX st) (f_ st) (bL st) .none kV j m h cd n,i⟩)
  (c:oK K cd a=true) (k:db K (.ref f)=true):N4 K x a st f:=⟨e,g,h,i,kV,j,m,cd,n,l,c,k⟩
def gV(K:Za)(x:WD)(st:WC):Prop:=∃f,br K bq x=pe (pe<|.ref f)/\N4 K x x st f
theorem Ul{K:Za}{x:WD}{st:WC}{f:Wv}{e:Wx}{g h:Option Wv}{i:Array (Option Wx)}{kV j m cd n:Wx}(a:br K bq x=pe (pe<|.ref f))(l:K.lookup f=pe ⟨e,g,.func<|jb x x (iX st) (f_ st) (bL st) .none kV j m h cd n,i⟩)
  (c:oK K cd x=true) (k:db K (.ref f)=true):gV K x st:=⟨f,a,JH l c k⟩
def HM(K:Za)(C:Wv)(m qual:WD)(st:WC):Prop:=∃f,aF K (.ref C) m=pe (pe<|.ref f)/\tG K (.ref f)=true/\N4 K m qual st f
theorem Uk{K:Za}{C:Wv}{m e:WD}{st:WC}{f:Wv}{g:Wx}{h j:Option Wv}{n:Array (Option Wx)}{kV o p cd q:Wx}(a:aF K (.ref C) m=pe (pe<|.ref f))(i:tG K (.ref f)=true)
  (l:K.lookup f=pe ⟨g,h,.func<|jb m e (iX st) (f_ st) (bL st) .none kV o p j cd q,n⟩) (c:oK K cd e=true) (k:db K (.ref f)=true):HM K C m e st:=⟨f,a,i,JH l c k⟩
theorem N4.R6{K:Za}{x a:WD}{st:WC}{f:Wv}(T:N4 K x a st f):∃e,Mj K x a st f e:=by
 let⟨g,h,i,j,kV,m,n,cd,o,l,c,k⟩:=T;exact⟨_,JE (st:=st) l c k⟩
def Ms:Sp:=λ_ _ _ _=>False
theorem LU{P:bI}{w:Wy}{K:Za}{a:WD->Option Wx}{base:WA}{k:Nat}{f:Wv}{e:iL}{g:Zb}:ju P w K a base RT k f e g Ms:=⟨λ_ _ _ _ h=>h.elim,λ_ _ _ _ _ _ _ _ _ _ _ _ _ h=>h.elim⟩
def JY(K:Za)(a:Wv)(ws:Zb):Prop:=∀H,bj K H a (ws.map V.str)
theorem uq{K:Za}{a:Wv}{f:Zb}{o:Obj}{e:Array Wx}{n:Nat}(l:K.lookup a=pe o)(c:o.cls=.type "tuple")(d:o.data=.seq e n)(z:e.size<=ai)(v:bg (f.map V.str) e.toList):JY K a f :=
 λ_=>.inr ⟨o,e,n,l,c,d,z,v⟩
section
variable{P:bI}{w:Wy}{K:Za}{mg:WD->Option Wx}{base h:WA}{C:Wv}{x qual:WD}{st:WC}{N ps:Zb}{k:Nat}{sp:Sp}
abbrev Dd(ps:Zb)(sp:Sp):Prop:=∀vs H Q E,sp vs H Q E->vs.length=ps.length
abbrev BodyOk(CX:HP)(P:bI)(w:Wy)(K:Za)(mg:WD->Option Wx)(base:WA)(qual:WD)(st:WC)(N:Zb)(k:Nat)(sp:Sp)(Qx:Cx->Cx):Prop:=N.Nodup->∀(f:Wv) (T8:Wx) (A:Wz) (outer:List Env) (s:Ww) (H:Hp) (vs:List V) (Q:VK) (E:XK),eG k (A.deeper<|envOfC qual (bL st) ↑s f T8)->(A.deeper<|envOfC qual (bL st) ↑s f T8).units+16<cLine->sp vs H Q E ->
 ∃t,A9 (Qx<|xD CX P w K mg base N qual (bL st) f T8 A outer s H E) (f_ st) t/\t (bH Q) (start N vs) H
abbrev wI(x qual:WD)(st:WC)(ps:Zb):Prop:=∀(kV doc pm:Wx) (an:Option Wv) (T8 ct:Wx) (us:Zf),us.length=ps.length->bindArgs (jb x qual (iX st) (f_ st) (bL st) .none kV doc pm an T8 ct) ⟨us,[]⟩=pure (ps.zip us)
theorem dG(X:K.In h)(G:h.Ns bq mg)(T:gV K x st)(b:BodyOk RT P w K mg base x st N k sp Cx.Qx)(i:wI x x st ps)(S:iw N ps (bL st):=by walk_at "s")(l:Dd ps sp:=by walk_at "l"):g6 P w K mg base x ps (k+1) sp:=by
 let⟨f,a,t⟩:=T;let⟨j,F⟩:=t.R6;exact⟨f,j,F.ok S l λe A outer s H m Q E g h=>b S.nd f e A outer s H m Q E g (yq g) h,bX X G a,F.kp,F.binds i⟩
theorem dM(j:HN K C)(T:HM K C x qual st)(b:BodyOk RT P w K mg base qual st N k sp Cx.Qx)(m:wI x qual st ps)(S:iw N ps (bL st):=by walk_at "s")(l:Dd ps sp:=by walk_at "l"):Ka P w K mg base C x ps (k+1) sp:=by
 let⟨f,a,i,t⟩:=T;let⟨n,F⟩:=t.R6;exact⟨f,n,F.ok S l λe A outer s H o Q E g h=>b S.nd f e A outer s H o Q E g (yq g) h,j,⟨a,i,F.kp⟩,F.binds m⟩
theorem dN{y:WD}(j:mg y=pe (.ref C))(m:Bn K C=true)(n:db K (.ref C)=true)(T:HM K C "__init__" qual st)(b:BodyOk RT P w K mg base qual st N k sp Cx.Qx)(o:wI "__init__" qual st ps)(S:iw N ps (bL st):=by walk_at "s")(l:Dd ps sp:=by walk_at "l"):Vq P w K mg base y C ps (k+1) sp:=by
 let⟨f,a,i,t⟩:=T;let⟨p,F⟩:=t.R6;exact⟨f,p,F.ok S l λe A outer s H q Q E g h=>b S.nd f e A outer s H q Q E g (yq g) h,j,⟨m,a,i,n⟩,F.binds o⟩
theorem Nk(X:K.In h)(G:h.Ns bq mg)(T:gV K x st)(b:BodyOk (Ml P w K) P w K mg base x st N k sp id)(i:wI x x st ps)(S:iw N ps (bL st):=by walk_at "s")(l:Dd ps sp:=by walk_at "l"):Dg P w K mg base x ps (k+1) sp:=by
 let⟨f,a,t⟩:=T;let⟨j,F⟩:=t.R6;exact⟨f,j,F.Wa S l λe A outer s H m Q E g h=>b S.nd f e A outer s H m Q E g (yq g) h,bX X G a,F.kp,F.binds i⟩
theorem VG{y:WD}(j:mg y=pe (.ref C))(m:jo K C)(n:db K (.ref C)=true)(T:HM K C "__init__" qual st)(b:BodyOk RT P w K mg base qual st N k sp Cx.Qx)(o:wI "__init__" qual st ps)(S:iw N ps (bL st):=by walk_at "s")(l:Dd ps sp:=by walk_at "l"):Lq P w K mg base y C ps (k+1) sp:=by
 let⟨f,a,i,t⟩:=T;let⟨p,F⟩:=t.R6;exact⟨f,p,F.ok S l λe A outer s H q Q E g h=>b S.nd f e A outer s H q Q E g (yq g) h,j,m,a,i,n,F.binds o⟩
end
structure Zs(mg:WD->Option Wx):Prop where
 ValueError:mg "ValueError"=none
 all:mg "all"=none
 any:mg "any"=none
 bool:mg "bool"=none
 dict:mg "dict"=none
 enumerate:mg "enumerate"=none
 int:mg "int"=none
 isinstance:mg "isinstance"=none
 len:mg "len"=none
 list:mg "list"=none
 max:mg "max"=none
 range:mg "range"=none
 reversed:mg "reversed"=none
 str:mg "str"=none
 tuple:mg "tuple"=none
 zip:mg "zip"=none
structure Cs(K:Za)(mg:WD->Option Wx)(C Cx Ct C1 OD OE Pw qd qe ro rz qg vr sA qy qx ri q0:Wv):Prop where
 LETTERS:Gc mg "LETTERS" (.str "abcdefghijklmnopqrstuvwxyz")
 LONGEST_NAME:Gc mg "LONGEST_NAME" (.int 8)
 MOST_WORDS:Gc mg "MOST_WORDS" (.int 4)
 MOST_ROOMS:Gc mg "MOST_ROOMS" (.int 150)
 MOST_DOORS:Gc mg "MOST_DOORS" (.int 2000)
 MOST_WITHIN:Gc mg "MOST_WITHIN" (.int 8)
 MOST_TRIALS:Gc mg "MOST_TRIALS" (.int 1000)
 STILL:Gc mg "STILL" (.ref C1)
 HUSH:Gc mg "HUSH" (.ref OD)
 BLAME:Gc mg "BLAME" (.ref OE)
 END:Gc mg "END" (.ref Pw)
 still:JY K C1 ao
 hush:JY K OD cz
 Wj:JY K OE iu
 Wi:JY K Pw fJ
 mc:MC K C
 cm:mg "Machine"=pe (.ref C)
 makes:Bn K C=true
 kc:db K (.ref C)=true
 xc:XC K Cx
 xb:Mi K Ct
 NoMachine:mg "NoMachine"=pe (.ref Cx)
 TrialError:mg "TrialError"=pe (.ref Ct)
 kx:db K (.ref Cx)=true
 xt:XO K Ct eg
 xg:XG K
 OV:XX K mg "NoMachine" Cx Ct
 nd:[Ct,Cx,qd,qe,ro,rz,qg,vr,sA,qy,qx,ri,q0].Nodup
 OP:XX K mg "NoTaker" qd Ct
 Pf:bO K qd "room"
 Po:bO K qd "ask"
 OO:XX K mg "NoTrial" qe Ct
 Pn:bO K qe "way"
 QA:XX K mg "NoWord" ro Ct
 Sy:bO K ro "number"
 QB:XX K mg "NoText" rz Ct
 Sz:bO K rz "number"
 O1:XX K mg "NoMatch" qg Ct
 SH:aF K (.ref qg) "__init__"=pe (pe (.builtin "ValueError.__init__"))
 RB:XX K mg "NoJoin" vr Ct
 Uz:aF K (.ref vr) "__init__"=pe (pe (.builtin "ValueError.__init__"))
 RA:XX K mg "NoSign" sA Ct
 Uy:aF K (.ref sA) "__init__"=pe (pe (.builtin "ValueError.__init__"))
 Qd:XX K mg "NoDepth" qy Ct
 Us:aF K (.ref qy) "__init__"=pe (pe (.builtin "ValueError.__init__"))
 PL:XX K mg "NoNumber" qx Ct
 Ui:aF K (.ref qx) "__init__"=pe (pe (.builtin "ValueError.__init__"))
 Rf:XX K mg "NoRight" ri Ct
 Ur:aF K (.ref ri) "__init__"=pe (pe (.builtin "ValueError.__init__"))
 Rc:XX K mg "TooWide" q0 Ct
 Uq:aF K (.ref q0) "__init__"=pe (pe (.builtin "ValueError.__init__"))
structure Ts(K:Za)(C Cx qd qe ro rz qg vr sA qy qx ri q0:Wv):Prop where
 Rq:gV K "_law_spread" (fO 63)
 R9:gV K "_law_open" (fO 64)
 Sd:gV K "_law_anew" (fO 65)
 R8:gV K "_law_take" (fO 66)
 RM:gV K "_law_names" (fO 67)
 SJ:gV K "_law_put" (fO 69)
 Qi:gV K "_law_draw_doors" (fO 70)
 RN:gV K "_law_model" (fO 71)
 SN:gV K "is_name" (fO 23)
 SQ:gV K "as_keys" (fO 24)
 PR:gV K "first_wrong_name" (fO 25)
 Rt:gV K "door_signs" (fO 26)
 PU:gV K "first_wrong_door" (fO 27)
 OU:gV K "goals_by_start_and_sign" (fO 28)
 QL:gV K "led_by_still" (fO 29)
 P9:gV K "first_led_round" (fO 30)
 RK:gV K "need_none" (fO 31)
 Rn:gV K "need_parts" (fO 32)
 Qk:gV K "doors_by_start" (fO 33)
 Qj:gV K "has_asks_alone" (fO 34)
 PZ:HM K C "__init__" "Machine.__init__" (iW (fO 35) 0)
 Q_:gV K "_law_machine" (fO 79)
 Qv:HM K C "rooms" "Machine.rooms" (iW (fO 35) 3)
 PV:HM K C "led_from" "Machine.led_from" (iW (fO 35) 8)
 Qw:HM K C "goals" "Machine.goals" (iW (fO 35) 7)
 PX:HM K C "is_quiet" "Machine.is_quiet" (iW (fO 35) 5)
 QM:gV K "_law_still_on" (fO 68)
 QR:HM K C "asks" "Machine.asks" (iW (fO 35) 1)
 QQ:HM K C "says" "Machine.says" (iW (fO 35) 2)
 QP:HM K qd "__init__" "NoTaker.__init__" (iW (fO 4) 0)
 QO:HM K qe "__init__" "NoTrial.__init__" (iW (fO 5) 0)
 TH:gV K "takes" (fO 38)
 Ro:gV K "need_match" (fO 37)
 Ph:gV K "need_all_asks_taken" (fO 39)
 Rm:gV K "need_taker" (fO 40)
 P_:gV K "add_still_steps" (fO 42)
 R7:gV K "steps_by" (fO 43)
 QZ:gV K "steps_along" (fO 44)
 SI:gV K "walk_of" (fO 45)
 SM:gV K "is_tell" (fO 51)
 SK:gV K "is_wait" (fO 52)
 Qh:gV K "says_and_parts" (fO 53)
 QJ:gV K "signed_parts" (fO 54)
 QK:gV K "parts_behind" (fO 55)
 RJ:gV K "with_ways" (fO 56)
 PB:gV K "has_says_in_order" (fO 57)
 P8:gV K "is_so_by_itself" (fO 58)
 PD:gV K "checked_with_ways" (fO 59)
 Th:gV K "leaves" (fO 60)
 Ti:gV K "blames" (fO 61)
 Q5:gV K "_law_willing" (fO 72)
 Rp:gV K "_law_turned" (fO 73)
 Q8:gV K "_law_renamed" (fO 74)
 R_:gV K "_law_near" (fO 75)
 RL:gV K "_law_pairs" (fO 77)
 Qm:gV K "_law_trial" (fO 78)
 QN:gV K "_law_same" (fO 76)
 RP:gV K "_law_fresh" (fO 80)
 RO:gV K "_law_lacks" (fO 81)
 Sa:gV K "_law_lazy" (fO 82)
 Rr:gV K "_law_called" (fO 83)
 Q7:gV K "_law_strange" (fO 84)
 Sb:gV K "_law_bent" (fO 85)
 Q9:gV K "_law_refusal" (fO 86)
 TJ:gV K "law" (fO 87)
section
variable{P:bI}{w:Wy}{K:Za}{mg:WD->Option Wx}{base h:WA}{C Cx Ct C1 OD OE Pw qd qe ro rz qg vr sA qy qx ri q0:Wv}
section
variable(P:bI)(w:Wy)(K:Za)(mg:WD->Option Wx)(C Cx Ct C1 OD OE Pw qd qe ro rz qg vr sA qy qx ri q0:Wv)
abbrev lP:Prop:=∀base,g6 P w K mg base "_law_spread" ["cell","at"] 1 nB
abbrev wM:Prop:=∀base,g6 P w K mg base "_law_open" ["script"] 1 (ur K)
abbrev lR:Prop:=∀base,g6 P w K mg base "_law_anew" ["pen"] 1 uw
abbrev cA:Prop:=∀base,g6 P w K mg base "_law_take" ["pen","many"] 2 ca
abbrev jX:Prop:=∀base,g6 P w K mg base "_law_names" ["pen","many"] 3 mC
abbrev kT:Prop:=∀base,g6 P w K mg base "_law_put" ["doors","door"] 1 lm
abbrev ik:Prop:=∀base,g6 P w K mg base "_law_draw_doors" ["pen","asks","says","rooms","full"] 3 ip
abbrev t4:Prop:=∀base,g6 P w K mg base "_law_model" ["pen","most","full"] 4 qq
abbrev tz:Prop:=∀base,g6 P w K mg base "is_name" ["text"] 1 Ox
abbrev kU:Prop:=∀base,g6 P w K mg base "as_keys" ["things"] 1 (yl K)
abbrev gp:Prop:=∀base,g6 P w K mg base "first_wrong_name" ["names","most","taken"] 2 (r6 K)
abbrev lS:Prop:=∀base,g6 P w K mg base "door_signs" ["asks","says"] 1 (Ot K)
abbrev gq:Prop:=∀base,g6 P w K mg base "first_wrong_door" ["doors","rooms","signs"] 2 (wt K)
abbrev dR:Prop:=∀base,g6 P w K mg base "goals_by_start_and_sign" ["doors"] 1 qt
abbrev jy:Prop:=∀base,g6 P w K mg base "led_by_still" ["goals","room"] 1 An
abbrev gX:Prop:=∀base,g6 P w K mg base "first_led_round" ["rooms","led"] 1 wy
abbrev jV:Prop:=∀base,g6 P w K mg base "need_none" ["part","number"] 3 wq
abbrev lM:Prop:=∀base,g6 P w K mg base "need_parts" ["asks","says","rooms","doors"] 4 Oo
abbrev io:Prop:=∀base,g6 P w K mg base "doors_by_start" ["rooms","doors"] 1 A2
abbrev im:Prop:=∀base,g6 P w K mg base "has_asks_alone" ["doors"] 1 A1
abbrev tF:Prop:=∀base,Vq P w K mg base "Machine" C ["self","asks","says","rooms","doors"] 5 (uv C)
abbrev oz:Prop:=∀base,g6 P w K mg base "_law_machine" ["told"] 7 (eO C)
abbrev gb:Prop:=∀base,Ka P w K mg base C "rooms" ["self"] 1 (mB C)
abbrev gr:Prop:=∀base,Ka P w K mg base C "led_from" ["self","room"] 1 (jJ C)
abbrev eV:Prop:=∀base,Ka P w K mg base C "goals" ["self","room","sign"] 1 (jg K C)
abbrev gu:Prop:=∀base,Ka P w K mg base C "is_quiet" ["self","room"] 1 (jL C)
abbrev fC:Prop:=∀base,g6 P w K mg base "_law_still_on" ["doors","rooms"] 1 (eJ K)
abbrev fD:Prop:=∀base,Ka P w K mg base C "asks" ["self"] 1 (nD C)
abbrev g0:Prop:=∀base,Ka P w K mg base C "says" ["self"] 1 (qp C)
abbrev tE:Prop:=∀base,Lq P w K mg base "NoTaker" qd ["self","room","ask"] 2 (vI qd "room" "ask")
abbrev tD:Prop:=∀base,Lq P w K mg base "NoTrial" qe ["self","way"] 2 (vJ qe "way")
abbrev Bk:Prop:=∀base,g6 P w K mg base "takes" ["I","room","ask"] 2 (O2 C)
abbrev lN:Prop:=∀base,Dg P w K mg base "need_match" ["M","I"] 2 (Oq C qg)
abbrev e_:Prop:=∀base,Dg P w K mg base "need_all_asks_taken" ["I"] 4 (jI C qd)
abbrev lL:Prop:=∀base,Dg P w K mg base "need_taker" ["M","I"] 5 (eX C qg qd)
abbrev gZ:Prop:=∀base,g6 P w K mg base "add_still_steps" ["M","steps"] 2 (nF K C)
abbrev pJ:Prop:=∀base,g6 P w K mg base "steps_by" ["M","rooms","sign"] 2 (jG K C)
abbrev kf:Prop:=∀base,g6 P w K mg base "steps_along" ["M","story"] 3 (nE K C)
abbrev tw:Prop:=∀base,g6 P w K mg base "walk_of" ["M","story"] 4 (qo K C)
abbrev nQ:Prop:=∀base,g6 P w K mg base "is_tell" ["trial"] 1 (lp K 4 "tell")
abbrev nP:Prop:=∀base,g6 P w K mg base "is_wait" ["trial"] 1 (lp K 3 "wait")
abbrev ij:Prop:=∀base,g6 P w K mg base "says_and_parts" ["pairs"] 1 (iR K)
abbrev jv:Prop:=∀base,g6 P w K mg base "signed_parts" ["trial"] 2 (ll K)
abbrev jx:Prop:=∀base,g6 P w K mg base "parts_behind" ["way","story","trial"] 3 (nC K)
abbrev nc:Prop:=∀base,g6 P w K mg base "with_ways" ["trial"] 4 (qk K)
abbrev fR:Prop:=∀base,g6 P w K mg base "has_says_in_order" ["M","pairs"] 2 (jM K C)
abbrev gW:Prop:=∀base,g6 P w K mg base "is_so_by_itself" ["M","trial"] 3 (qr K C)
abbrev fS:Prop:=∀base,Dg P w K mg base "checked_with_ways" ["M","trial"] 5 (jN K C qe)
abbrev wK:Prop:=∀base,Dg P w K mg base "leaves" ["M","trial"] 6 (ln K C qe)
abbrev wQ:Prop:=∀base,Dg P w K mg base "blames" ["M","trial","I"] 7 (lr K C qg qd qe)
abbrev kh:Prop:=∀base,g6 P w K mg base "_law_willing" ["pen","told"] 3 lh
abbrev lO:Prop:=∀base,g6 P w K mg base "_law_turned" ["pen","told"] 3 nu
abbrev ki:Prop:=∀base,g6 P w K mg base "_law_renamed" ["pen","told"] 4 jH
abbrev wN:Prop:=∀base,g6 P w K mg base "_law_near" ["pen","told","most"] 5 ut
abbrev jW:Prop:=∀base,g6 P w K mg base "_law_pairs" ["says","some"] 1 (kC K)
abbrev tZ:Prop:=∀base,g6 P w K mg base "_law_trial" ["pen","told","deep","left"] 5 (eW K 2)
abbrev wL:Prop:=∀base,g6 P w K mg base "_law_same" ["found","due"] 4 (cR K 3)
abbrev jY:Prop:=∀base,g6 P w K mg base "_law_fresh" ["told"] 1 (kD K)
abbrev t6:Prop:=∀base,g6 P w K mg base "_law_lacks" ["told"] 2 (jK K)
abbrev wO:Prop:=∀base,g6 P w K mg base "_law_lazy" ["pen","told"] 3 uu
abbrev lQ:Prop:=∀base,g6 P w K mg base "_law_called" ["told","word","fresh"] 1 (kE K)
abbrev ou:Prop:=∀base,g6 P w K mg base "_law_strange" ["pen","told"] 3 (je K)
abbrev wP:Prop:=∀base,g6 P w K mg base "_law_bent" ["pen","told","trial"] 3 (kF K)
abbrev oy:Prop:=∀base,g6 P w K mg base "_law_refusal" ["model","trial","machine"] 8 (eN K C)
end
section
variable(X:K.In h)(G:h.Ns bq mg)(z:Zs mg)(c:Cs K mg C Cx Ct C1 OD OE Pw qd qe ro rz qg vr sA qy qx ri q0)(T:Ts K C Cx qd qe ro rz qg vr sA qy qx ri q0)
include X G z c T
theorem xi:lP P w K mg:=λbase=>dG X G T.Rq (λS _ _ _ _ _ _ _ _ _ a e h=>bK (GP (K:=K) h)<|ae (bD (g8 NH (pv 0)<|ba Ji af af) (ah<|az<|pv 0) aO)<|ae (qs 2 S<|ba ig (ba dw (ba dw (ba jk (ba ig (pv 0) af) af)<|ba jk (pv 1) af) af) af)<|ae (qs 3 S<|ba ig (ba dw (ba dw (ba jk (pv 2)<|pv 2)<|ba jk (pv 1) af)<|ba ig (pv 0) af) af)<|ae (qs 4 S<|ba ig (ba dw (ba dw (ba jk (pv 3)<|pv 3)<|ba jk (pv 2) af) af) af)<|ah<|az<|ba dw (ba jk (ba dw (ba jk (pv 2) af)<|pv 3) af)<|pv 4) (by walk_at "b")
theorem BL:wM P w K mg:=λbase=>dG X G T.R9 (λS _ _ _ _ _ _ _ _ _ a e h=>bK (KF h)<|ae (qs 1 S<|qL rfl z.list<|a1<|du iq (pv 0) fZ<|dB af)<|ae (cj bQ rfl (nG rfl z.enumerate<|a1<|du iq (pv 0) (dB af)<|dB af) (c9 rfl<|au (gn 2 S)<|au (gn 3 S) bT)<|ah<|ic (ba dw (xl (pv 1)<|ba ig (pv 2) af)<|pv 3)<|sM (pv 1) (ba ig (pv 2) af) kG)<|ah<|az<|bt<|a3 (pv 1) af af) (by walk_at "b")
theorem BP:lR P w K mg:=λbase=>dG X G T.Sd (λS _ _ _ _ _ _ _ _ _ a e h=>bK (KN (K:=K) h)<|ae (ic af<|sM (pv 0) af kG)<|ah<|az<|pv 0) (by walk_at "b")
theorem BJ(a:lP P w K mg):cA P w K mg:=λbase=>dG X G T.R8 (λS _ _ _ _ _ _ _ _ _ e f h=>bK (KC h)<|ae (bD (g8 ye (xl (pv 0) af)<|pv 1) (ae (qs 2 S<|xl (pv 0) af)<|ae (qs 3 S af)<|ae (bD (g8 ye (pv 2)<|ql z.len<|a1<|xl (pv 0) af) (ah<|qs 3 S<|xl (xl (pv 0) af)<|pv 2)<|ah<|bD (g8 yf (ql z.len<|a1<|xl (pv 0) af) af) (ah<|qs 3 S<|ba ig (xl (xl (pv 0) af)<|ba ig (ba dw (ba jk (pv 2) af) af)<|ql z.len<|a1<|xl (pv 0) af)<|ba dw (ba Ji af af)<|pv 2) aO)<|ae (ic (ba dw (pv 2) af)<|sM (pv 0) af kG)<|ah<|ic (qf e (a base)<|a2 (pv 3)<|pv 2)<|sM (pv 0) af kG) aO)<|ae (qs 4 S<|ba ig (xl (pv 0) af)<|pv 1)<|ae (ic (ba FL (xl (pv 0) af)<|pv 1)<|sM (pv 0) af kG)<|ah<|az<|pv 4) (by walk_at "b")
theorem Ah(a:cA P w K mg):jX P w K mg:=λbase=>dG X G T.RM (λS _ _ _ _ _ _ _ _ _ e f h=>bK (IF h) (ae (qs 2 S aN) (ae (qs 3 S (iO PySem.F.plainAttrs_str PySem.F.slot_str_join PySem.F.type_str_join K7 aN (a1 (qc (ie rfl z.range<|a1 af) (bb WE) λ_ _ _ _ _ _=>⟨gc 0,cL,Tq (pv 1)<|qf e (a base)<|a2 (pv 2) af⟩))))<|ae (qs 4 S<|qf e (a base)<|a2 (pv 0) af)<|ae (qs 5 S<|qf e (a base)<|a2 (pv 0) af)<|ae (qs 6 S<|qf e (a base)<|a2 (pv 0) af)<|ae (qs 7 S<|bt c_)<|ae (cj bQ rfl (ie rfl z.range<|a1<|pv 1) (gn 8 S)<|ae (qs 9 S<|Tq (pv 2)<|ba ig (ba dw (pv 5)<|ba jk af<|pv 8) af)<|ae (qs 10 S<|du DS (pv 3) fZ<|dB<|ba ig (ba dw (pv 6)<|ba jk (pv 8)<|ba ig (pv 4) af) af)<|ae (qs 11 S<|xl (bt<|a3 af (ql z.len<|a1<|pv 10)<|ba FL (ql z.len<|a1<|pv 10) af)<|pv 4)<|ah<|bu<|iO eA hZ hV cT (pv 7)<|a1<|ba vU (ba vU (du DS (pv 10) fZ<|dB<|pv 11)<|pv 9)<|du DS (pv 10) (dB<|pv 11) fZ)<|ah<|az<|pv 7))) (by walk_at "b")
theorem DC:kT P w K mg:=λbase=>dG X G T.SJ (λS _ _ _ _ _ _ _ _ _ e a h=>bK (Mz h)<|ah<|bD (LI (iZ a) (pv 1)<|pv 0) (ah<|bu<|iO eA hZ hV cT (pv 0)<|a1<|pv 1) aO) (by walk_at "b")
theorem pZ(a:cA P w K mg)(e:kT P w K mg):ik P w K mg:=λbase=>dG X G T.Qi (λS _ _ _ _ _ _ _ _ _ f g h=>bK (xy h)<|ae (qs 5 S<|bt c_)<|ae (qs 6 S<|qf f (a base)<|a2 (pv 0) af)<|ae (cj bQ rfl (nG rfl z.enumerate<|a1<|pv 3) (c9 rfl<|au (gn 7 S)<|au (gn 8 S) bT)<|ae (cj bQ rfl (ie rfl z.range<|a1<|xl (bt<|aW af<|a3 af af af)<|qf f (a base)<|a2 (pv 0) af) (gn 9 S)<|ae (qs 10 S<|aw<|a2 aN<|xl (pv 2)<|qf f (a base)<|a2 (pv 0)<|ql z.len<|a1<|pv 2)<|ah<|bu<|qf f (e base)<|a2 (pv 5)<|aw<|a3 (pv 8) (pv 10)<|xl (pv 3)<|qf f (a base)<|a2 (pv 0)<|ql z.len<|a1<|pv 3)<|ae (cj bQ rfl (bz<|pv 1) (gn 11 S)<|ah<|cj bQ rfl (ie rfl z.range<|a1<|xl (bt<|aW (pv 4)<|a3 af af af)<|qf f (a base)<|a2 (pv 0) af) (gn 9 S)<|ah<|bu<|qf f (e base)<|a2 (pv 5)<|aw<|a3 (pv 8) (aw<|a2 aN<|pv 11)<|xl (pv 3)<|qf f (a base)<|a2 (pv 0)<|ql z.len<|a1<|pv 3)<|ae (qs 12 S<|xl (bt<|a2 (du iq (pv 3) (dB<|ba dw (pv 7) af) fZ)<|du iq (pv 3) fZ<|dB<|pv 7)<|pv 6)<|ah<|bD (PW.pt<|ji (g8 (mK g) (pv 12)<|bt c_)<|iU<|g8 cM (qf f (a base)<|a2 (pv 0) af) af) (ah<|bu<|qf f (e base)<|a2 (pv 5)<|aw<|a3 (pv 8) (aw<|a1 aN)<|xq (pv 12)<|qf f (a base)<|a2 (pv 0)<|ql z.len<|a1<|pv 12) aO)<|ah<|az<|pv 5) (by walk_at "b")
theorem Ai(g:lR P w K mg)(a:cA P w K mg)(e:jX P w K mg)(f:ik P w K mg):t4 P w K mg:=λbase=>dG X G T.RN (λS _ _ _ _ _ _ _ _ _ i j h=>bK (IG h)<|ae (bu<|qf i (g base)<|a1<|pv 0)<|ae (qs 3 S<|qf i (e base)<|a2 (pv 0) af)<|ae (qs 4 S<|du iq (pv 3) fZ<|dB<|ba dw af<|xl (bt<|aW af<|aW af<|aW af<|a3 af af af)<|qf i (a base)<|a2 (pv 0) af)<|ae (qs 5 S<|du iq (pv 3) (dB af)<|dB<|ba dw af<|xl (bt<|aW af<|aW af<|aW af<|a3 af af af)<|qf i (a base)<|a2 (pv 0) af)<|ae (qs 6 S<|qf i (e base)<|a2 (pv 0)<|ba dw af<|qf i (a base)<|a2 (pv 0)<|pv 1)<|ae (qs 7 S<|qf i (f base)<|aW (pv 0)<|aW (pv 4)<|a3 (pv 5) (pv 6)<|pv 2)<|ah<|az<|aw<|aW (pv 4)<|a3 (pv 5) (pv 6)<|pv 7) (by walk_at "b")
theorem DF:tz P w K mg:=λbase=>dG X G T.SN (λS _ _ _ _ _ _ _ _ _ a e h=>bK (Ee h) (ah (az (iI (Dj Jj (pv 0) aN) (iI (Dj NG (ql z.len<|a1<|pv 0)<|g9 rfl c.LONGEST_NAME) (jj (qB (mT rfl) z.all boot_all (a1 (qc (MH<|pv 0) (bb WE) λ_ _ _ _ _ _=>⟨gc 0,cL,VD En (pv 0)<|g9 rfl c.LETTERS⟩))))))))) (by walk_at "b")
theorem DG:kU P w K mg:=λbase=>dG X G T.SQ (λS _ _ _ _ _ _ _ _ _ e a h=>bK (Eh h)<|ae (qs 1 S mJ)<|ae (cj bQ rfl (bz<|pv 0) (gn 2 S)<|ah<|iV a (pv 1) (pv 2) om rfl)<|ah<|az<|pv 1) (by walk_at "b")
theorem nV(a:tz P w K mg)(e:kU P w K mg):gp P w K mg:=λbase=>dG X G T.PR (λS _ _ _ _ _ _ _ _ _ f g h=>bK (nX h)<|ae (bD (g8 cM (ql z.len<|a1<|pv 0) af) (ah<|az af) aO)<|ae (qs 3 S<|qf f (e base)<|a1<|pv 2)<|ae (cj bQ rfl (nG rfl z.enumerate<|a1<|pv 0) (c9 rfl<|au (gn 4 S)<|au (gn 5 S) bT)<|ae (bD (PW.pt<|lW (g8 cM (pv 4)<|pv 1)<|lW (iH<|Ay g (pv 5)<|pv 3)<|lB<|sJ<|fo<|qf f (a base)<|a1<|pv 5) (ah<|az<|pv 4) aO)<|ah<|iV g (pv 3) (pv 5) om rfl)<|ah<|az pc) (by walk_at "b")
theorem xk:lS P w K mg:=λbase=>dG X G T.Rt (λS _ _ _ _ _ _ _ _ _ a e h=>bK (xz c.still h) (ah (az (ba lF (ba lF (qc (bz<|pv 0) (bb WE) λ_ _ _ _ _ _=>⟨gc 0,cL,aw<|a2 aN<|pv 0⟩) (qc (bz<|pv 1) (bb WE) λ_ _ _ _ _ _=>⟨gc 0,cL,aw<|a2 aN<|pv 0⟩))<|bt<|a1<|g9 rfl c.STILL)))) (by walk_at "b")
theorem nW(a:kU P w K mg):gq P w K mg:=λbase=>dG X G T.PU (λS _ _ _ _ _ _ _ _ _ f e h=>bK (nY h)<|ae (qs 3 S<|qf f (a base)<|a1<|pv 1)<|ae (qs 4 S Cg)<|ae (cj bQ rfl (nG rfl z.enumerate<|a1<|pv 0) (c9 rfl<|au (gn 5 S)<|au (gn 6 S) bT)<|ae (bD (PW.pt<|lW (g8 cM (pv 5)<|g9 rfl c.MOST_DOORS)<|lB<|iH<|Ay e (pv 6)<|pv 4) (ah<|az<|pv 5) aO)<|ae (bD (PW.pt<|lW (iH<|nH e (xq (pv 6) af)<|pv 3)<|lW (LI (iZ e) (xq (pv 6) af)<|pv 2)<|lB<|iH<|nH e (xq (pv 6) af)<|pv 3) (ah<|az<|pv 5) aO)<|ah<|iV e (pv 4) (pv 6) om rfl)<|ah<|az pc) (by walk_at "b")
theorem jd:dR P w K mg:=λbase=>dG X G T.OU (λS _ _ _ _ _ _ _ _ _ e a h=>bK (jh h)<|ae (qs 1 S Cg)<|ae (cj bQ rfl (bz<|pv 0) (c9 rfl<|au (gn 2 S)<|au (gn 3 S)<|au (gn 4 S) bT)<|ah<|bu<|iO eA hZ hV cT (iO PySem.F.plainAttrs_dict PySem.F.slot_dict_setdefault PySem.F.type_dict_setdefault (Hh a) (pv 1)<|a2 (aw<|a2 (pv 2)<|pv 3)<|bt c_)<|a1<|pv 4)<|ah<|az<|pv 1) (by walk_at "b")
theorem ue:jy P w K mg:=λbase=>dG X G T.QL (λS _ _ _ _ _ _ _ _ _ e a h=>bK (uh c.still h)<|ae (qs 2 S mJ)<|ae (qs 3 S<|bt<|a1<|pv 1)<|ae (mH bQ (g8 yf (ql z.len<|a1<|pv 3) af)<|ae (qs 4 S<|sO eA rF rE vW<|pv 3)<|ah<|cj bQ rfl (MI<|vS a (pv 0) (aw<|a2 (pv 4)<|g9 rfl c.STILL) (aw c_) ⟨pw,pw,pw,pw⟩) (gn 5 S)<|ah<|bD (iH<|nH a (pv 5)<|pv 2) (ae (iV a (pv 2) (pv 5) om rfl)<|ah<|bu<|iO eA hZ hV cT (pv 3)<|a1<|pv 5) aO)<|ah<|az<|pv 2) (by walk_at "b")
theorem o5:gX P w K mg:=λbase=>dG X G T.P9 (λS _ _ _ _ _ _ _ _ _ e a h=>bK (o8 h)<|ae (cj bQ rfl (nG rfl z.enumerate<|a1<|pv 0) (c9 rfl<|au (gn 2 S)<|au (gn 3 S) bT)<|ah<|bD (iH<|Ay a (pv 3)<|jP a (pv 1) (pv 3)<|λ_ _=>rfl) (ah<|az<|pv 2) aO)<|ah<|az pc) (by walk_at "b")
theorem Ae:jV P w K mg:=λbase=>dG X G T.RK (λS _ _ _ _ _ _ _ _ _ a e h=>bK (At (K:=K) h)<|ah<|bD (iH<|uA<|pv 1) (ah<|Ca) aO) (by walk_at "b")
theorem xa(a:gp P w K mg)(g:lS P w K mg)(f:gq P w K mg)(e:jV P w K mg):lM P w K mg:=λbase=>dG X G T.Rn (λS _ _ _ _ _ _ _ _ _ i j h=>bK (xw (K:=K) h)<|ae (bu<|qf i (e base)<|a2 aN<|qf i (a base)<|a3 (pv 0) (g9 rfl c.MOST_WORDS)<|bt c_)<|ae (bu<|qf i (e base)<|a2 aN<|qf i (a base)<|a3 (pv 1) (g9 rfl c.MOST_WORDS)<|pv 0)<|ae (bu<|qf i (e base)<|a2 aN<|qf i (a base)<|a3 (pv 2) (g9 rfl c.MOST_ROOMS)<|bt c_)<|ah<|bu<|qf i (e base)<|a2 aN<|qf i (f base)<|a3 (pv 3) (pv 2)<|qf i (g base)<|a2 (pv 0)<|pv 1) (by walk_at "b")
theorem p7:io P w K mg:=λbase=>dG X G T.Qk (λS _ _ _ _ _ _ _ _ _ e a h=>bK (qE h)<|ae (qs 2 S mJ)<|ae (cj bQ rfl (bz<|pv 0) (gn 3 S)<|ah<|iV a (pv 2) (pv 3) (bt c_) rfl)<|ae (cj bQ rfl (bz<|pv 1) (gn 4 S)<|ah<|bu<|iO eA hZ hV cT (jP a (pv 2) (xq (pv 4) af)<|λ_ _=>rfl)<|a1<|pv 4)<|ah<|az<|pv 2) (by walk_at "b")
theorem p6:im P w K mg:=λbase=>dG X G T.Qj (λS _ _ _ _ _ _ _ _ _ a e h=>bK (qD h) (ah (az (qB (mT rfl) z.all boot_all (a1 (qc (bz<|pv 0) (bb WE) λ_ _ _ _ _ _=>⟨gc 0,cL,Dj cM (xq (xq (pv 0) af) af) aN⟩)))))) (by walk_at "b")
theorem DK(l:kU P w K mg)(a:dR P w K mg)(i:jy P w K mg)(e:gX P w K mg)(k:jV P w K mg)(j:lM P w K mg)(f:io P w K mg)(g:im P w K mg):tF P w K mg C:=λbase=>dN c.cm c.makes c.kc T.PZ (λS _ _ _ _ _ _ _ _ _ m n h=>bK (KL c.mc h) (ae (bu<|qf m (j base)<|aW (pv 1)<|a3 (pv 2) (pv 3)<|pv 4) (ae (mI (pv 0) (qL rfl z.list<|a1<|pv 1) rfl) (ae (mI (pv 0) (qL rfl z.list<|a1<|pv 2) rfl) (ae (mI (pv 0) (qL rfl z.list<|a1<|pv 3) rfl) (ae (mI (pv 0) (qL rfl z.list<|a1<|pv 4) rfl) (ae (mI (pv 0) (qf m (f base)<|a2 (pv 3)<|pv 4) rfl) (ae (mI (pv 0) (qf m (l base) (a1 (qc (bz<|pv 3) (bb WE) λ_ _ _ _ _ _=>⟨gc 0,lC<|fo<|qf m (g base)<|a1<|jP n (lD (pv 1) rfl) (pv 0)<|λ_ _=>rfl,pv 0⟩))) rfl) (ae (mI (pv 0) (qf m (a base)<|a1<|pv 4) rfl) (ae (mI (pv 0) (kI (AZ rfl) rfl z.dict EK (a1 (qc (bz<|pv 3) (bb WE) λ_ _ _ _ _ _=>⟨gc 0,cL,aw<|a2 (pv 0)<|qf m (i base)<|a2 (lD (pv 1) rfl)<|pv 0⟩))) rfl)<|ah<|bu<|qf m (k base)<|a2 aN<|qf m (e base)<|a2 (pv 3)<|lD (pv 0) rfl)))))))))) (by walk_at "b")
theorem vF(a:tF P w K mg C):oz P w K mg C:=λbase=>dG X G T.Q_ (λS _ _ _ _ _ _ _ _ _ e f h=>bK (Ec h) (ah (az (MM (a base) (e.mono WE) rfl<|aW (qL rfl z.list<|a1<|xq (pv 0) af)<|a3 (qL rfl z.list<|a1<|xq (pv 0) af) (qL rfl z.list<|a1<|xq (pv 0) af)<|qL rfl z.list<|a1<|xq (pv 0) af)))) (by walk_at "b")
theorem sE:gb P w K mg C:=λbase=>dM c.mc.cls T.Qv (λS _ _ _ _ _ _ _ _ _ a e h=>bK (IE c.mc h)<|ah<|az<|qL rfl z.list<|a1<|lD (pv 0) rfl) (by walk_at "b")
theorem nS:gr P w K mg C:=λbase=>dM c.mc.cls T.PV (λS _ _ _ _ _ _ _ _ _ e a h=>bK (BW c.mc h)<|ah<|az<|qL rfl z.list<|a1<|vS a (lD (pv 0) rfl) (pv 1) (aw c_) ⟨pw,pw,pw,pw⟩) (by walk_at "b")
theorem sF:eV P w K mg C:=λbase=>dM c.mc.cls T.Qw (λS _ _ _ _ _ _ _ _ _ e a h=>bK (Eb c.mc h)<|ah<|az<|qL rfl z.list<|a1<|vS a (lD (pv 0) rfl) (aw<|a2 (pv 1)<|pv 2) (aw c_) ⟨pw,pw,pw,pw⟩) (by walk_at "b")
theorem nU:gu P w K mg C:=λbase=>dM c.mc.cls T.PX (λS _ _ _ _ _ _ _ _ _ e a h=>bK (BX c.mc h)<|ah<|az<|Jg<|Ay a (pv 1)<|lD (pv 0) rfl) (by walk_at "b")
theorem uf:fC P w K mg:=λbase=>dG X G T.QM (λS _ _ _ _ _ _ _ _ _ e a h=>bK (BS h)<|ae (qs 2 S<|qL rfl z.list<|a1<|pv 1)<|ae (qs 3 S af)<|ae (mH bQ (g8 ye (pv 3)<|ql z.len<|a1<|pv 2)<|ae (cj bQ rfl (bz<|pv 0) (c9 rfl<|au (gn 4 S)<|au (gn 5 S)<|au (gn 6 S) bT)<|ah<|bD (PW.pt<|ji (g8 (iJ a) (pv 4)<|xq (pv 2)<|pv 3)<|ji (g8 (iJ a) (pv 5)<|aw<|a1 aN)<|iU<|LI (iZ a) (pv 6)<|pv 2) (ah<|bu<|iO eA hZ hV cT (pv 2)<|a1<|pv 6) aO)<|ah<|qs 3 S<|ba dw (pv 3) af)<|ah<|az<|pv 2) (by walk_at "b")
theorem ub:fD P w K mg C:=λbase=>dM c.mc.cls T.QR (λS _ _ _ _ _ _ _ _ _ a e h=>bK (KM c.mc h)<|ah<|az<|qL rfl z.list<|a1<|lD (pv 0) rfl) (by walk_at "b")
theorem ua:g0 P w K mg C:=λbase=>dM c.mc.cls T.QQ (λS _ _ _ _ _ _ _ _ _ a e h=>bK (KD c.mc h)<|ah<|az<|qL rfl z.list<|a1<|lD (pv 0) rfl) (by walk_at "b")
theorem DJ:tE P w K mg qd:=λbase=>VG c.OP.g c.OP.cls c.OP.kp T.QP (λS _ _ _ _ _ _ _ _ _ a e h=>bK (Mx (n0:="self") (n1:="room") (n2:="ask") c.OP.cls c.Pf c.Po (by decide +kernel) h)<|ae (bu<|Ci c.xb rfl c.TrialError<|a3 (pv 0) (pv 1)<|pv 2)<|ae (Au (pv 0) (pv 1) rfl)<|ah<|Au (pv 0) (pv 2) rfl) (by walk_at "b")
theorem DH:tD P w K mg qe:=λbase=>VG c.OO.g c.OO.cls c.OO.kp T.QO (λS _ _ _ _ _ _ _ _ _ a e h=>bK (My (n0:="self") (n1:="way") c.OO.cls c.Pn h)<|ae (bu<|Ci c.xb rfl c.TrialError<|a2 (pv 0)<|pv 1)<|ah<|Au (pv 0) (pv 1) rfl) (by walk_at "b")
theorem Iq(a:gr P w K mg C)(e:eV P w K mg C):Bk P w K mg C:=λbase=>dG X G T.TH (λS _ _ _ _ _ _ _ _ _ f g h=>bK (GO h) (ah (az (qB (CV rfl) z.any boot_any (a1 (qc (bz<|ba lF (bt<|a1<|pv 1)<|qm f (a base) (pv 0)<|a1<|pv 1) (bb WE) λ_ _ _ _ _ _=>⟨gc 0,cL,Dj yf (ql z.len<|a1<|qm f (e base) (pv 1)<|a2 (pv 0)<|aw<|a2 aN<|pv 2) af⟩)))))) (by walk_at "b")
theorem xf(a:fD P w K mg C)(e:g0 P w K mg C):lN P w K mg C qg:=λbase=>Nk X G T.Ro (λS _ _ _ _ _ _ _ _ _ f i h=>bK (xx h)<|sK<|gM<|IW (PW.pt<|lW (g8 (mK i) (KR f (a base)<|pv 0)<|KR f (a base)<|pv 1)<|lB<|g8 (mK i) (KR f (e base)<|pv 0)<|KR f (e base)<|pv 1) (gM<|HQ<|Hb c.O1.cls c.SH c.O1.kp rfl rfl c.O1.g<|a1 aN) Ej) (by walk_at "b")
theorem lg(a:gb P w K mg C)(e:fD P w K mg C)(f:tE P w K mg qd)(g:Bk P w K mg C):e_ P w K mg C qd:=λbase=>Nk X G T.Ph (λS _ _ _ _ _ _ _ _ _ i j h=>bK (BV h) (sK (gM (Ek rfl (bz<|KR i (a base)<|pv 0) (gn 1 S) (gM (Ek rfl (bz<|KR i (e base)<|pv 0) (gn 2 S) (gM (IW (sJ<|fo<|qf i (g base)<|a3 (pv 0) (pv 1)<|pv 2) (gM (HQ (x9 (f base) (i.mono WE) rfl rfl<|a2 (pv 1)<|pv 2))) Ej)))))))) (by walk_at "b")
theorem w_(e:lN P w K mg C qg)(a:e_ P w K mg C qd):lL P w K mg C qd qg:=λbase=>Nk X G T.Rm (λS _ _ _ _ _ _ _ _ _ f g h=>bK (xv (K:=K) h) (sK (qG (HQ (uz (sN (e base) (f.mono WE) rfl<|a2 (pv 0)<|pv 1))) (gM (HQ (uz (sN (a base) (f.mono WE) rfl<|a1<|pv 1))))))) (by walk_at "b")
theorem o6(a:eV P w K mg C):gZ P w K mg C:=λbase=>dG X G T.P_ (λS _ _ _ _ _ _ _ _ _ f e h=>bK (GZ c.still h)<|ae (qs 2 S<|qL rfl z.list<|a1<|pv 1)<|ah<|mH bQ (g8 yf (ql z.len<|a1<|pv 2) af)<|ae (qs 3 S<|sO eA rF rE vW<|pv 2)<|ah<|cj bQ rfl (bz<|qm f (a base) (pv 0)<|a2 (pv 3)<|g9 rfl c.STILL) (gn 4 S)<|ah<|bD (iH<|nH e (pv 4)<|pv 1) (ae (iV e (pv 1) (pv 4) (aw<|a3 (pv 3) (g9 rfl c.STILL)<|pv 4) rfl)<|ah<|bu<|iO eA hZ hV cT (pv 2)<|a1<|pv 4) aO) (by walk_at "b")
theorem BI(e:eV P w K mg C)(a:gu P w K mg C):pJ P w K mg C:=λbase=>dG X G T.R7 (λS _ _ _ _ _ _ _ _ _ g f h=>bK (BT c.hush h)<|ae (qs 3 S mJ)<|ae (cj bQ rfl (KY<|pv 1) (gn 4 S)<|ah<|bD (g8 (iJ f) (pv 2)<|g9 rfl c.HUSH) (ah<|bD (fo<|qm g (a base) (pv 0)<|a1<|pv 4) (ah<|iV f (pv 3) (pv 4) (aw<|a3 (pv 4) (g9 rfl c.HUSH)<|pv 4) rfl) aO)<|ah<|cj bQ rfl (bz<|qm g (e base) (pv 0)<|a2 (pv 4)<|pv 2) (gn 5 S)<|ah<|iV f (pv 3) (pv 5) (aw<|a3 (pv 4) (pv 2)<|pv 5) rfl)<|ah<|az<|pv 3) (by walk_at "b")
theorem vA(e:gb P w K mg C)(a:gZ P w K mg C)(f:pJ P w K mg C):kf P w K mg C:=λbase=>dG X G T.QZ (λS _ _ _ _ _ _ _ _ _ g i h=>bK (GY h) (ae (qs 2 S (K2 (I_ (xl (KR g (e base)<|pv 0) af) pc KW) rfl rfl nofun WE))<|ae (qs 3 S<|bt<|a1<|pv 2)<|ae (bu<|qf g (a base)<|a2 (pv 0)<|pv 2)<|ae (cj bQ rfl (bz<|pv 1) (gn 4 S)<|ae (qs 2 S<|qf g (f base)<|a3 (pv 0) (pv 2)<|pv 4)<|ae (bu<|iO eA hZ hV cT (pv 3)<|a1<|pv 2)<|ah<|bu<|qf g (a base)<|a2 (pv 0)<|pv 2)<|ah<|az<|pv 3)) (by walk_at "b")
theorem DB(a:kf P w K mg C):tw P w K mg C:=λbase=>dG X G T.SI (λS _ _ _ _ _ _ _ _ _ f e h=>bK (ID c.still h)<|ae (qs 2 S<|qf f (a base)<|a2 (pv 0)<|pv 1)<|ae (bD (g8 cM (qB HC z.len PySem.boot_len<|a1<|xl (pv 2)<|tM mq af) af) (ah<|az pc) aO)<|ae (qs 3 S<|xl (qL rfl z.list<|a1<|xl (pv 2)<|tM mq af) af)<|ae (qs 4 S<|bt c_)<|ae (qs 5 S<|sO eA rF rE vW<|pv 2)<|ae (mH bQ (iH<|uA<|jP e (pv 5) (pv 3)<|λ_ _=>rfl)<|ae (qs 6 S<|jP e (pv 5) (pv 3)<|λ_ _=>rfl)<|ae (bu<|iO eA hZ hV cT (pv 4)<|a1<|pv 6)<|ae (qs 3 S<|xt (pv 6) af)<|ah<|bD (g8 (mK e) (xt (pv 6) af)<|g9 rfl c.STILL) (ah<|qs 5 S<|sO eA rF rE vW<|pv 2) aO)<|ae (bu<|sO eA PySem.F.slot_list_reverse PySem.F.type_list_reverse Ep<|pv 4)<|ah<|az<|pv 4) (by walk_at "b")
theorem DE:nQ P w K mg:=λbase=>dG X G T.SM (λS _ _ _ _ _ _ _ _ _ a e h=>bK (GW h)<|ah<|az<|iI (Dj cM (ql z.len<|a1<|pv 0) af)<|jj<|Dj cM (xt (pv 0) af) aN) (by walk_at "b")
theorem DD:nP P w K mg:=λbase=>dG X G T.SK (λS _ _ _ _ _ _ _ _ _ a e h=>bK (GV h)<|ah<|az<|iI (Dj cM (ql z.len<|a1<|pv 0) af)<|jj<|Dj cM (xt (pv 0) af) aN) (by walk_at "b")
theorem pY:ij P w K mg:=λbase=>dG X G T.Qh (λS _ _ _ _ _ _ _ _ _ a e h=>bK (As h) (ah (az (qc (Ja<|pv 0) (nI (cS (bb WE) bv (cS (bb WE) bv (kK)<|cU)<|ei bv<|cU)) λ_ _ _ _ _ _=>⟨c9 rfl<|au (gc 0)<|au (gc 1) bT,cL,aw<|a2 (aw<|a2 aN<|pv 0)<|pv 1⟩)))) (by walk_at "b")
theorem uc(e:nQ P w K mg)(f:nP P w K mg)(a:ij P w K mg):jv P w K mg:=λbase=>dG X G T.QJ (λS _ _ _ _ _ _ _ _ _ g i h=>bK (D_ c.hush h)<|ae (bD (fo<|qf g (e base)<|a1<|pv 0) (ah<|az<|ba lF (bt<|a1<|aw<|a2 (aw<|a2 aN<|xt (pv 0) af)<|xt (pv 0) af)<|qf g (a base)<|a1<|xt (pv 0) af) aO)<|ae (bD (fo<|qf g (f base)<|a1<|pv 0) (ah<|az<|ba lF (qf g (a base)<|a1<|xt (pv 0) af)<|bt<|a1<|aw<|a2 (g9 rfl c.HUSH)<|xt (pv 0) af) aO)<|ah<|az<|bt c_) (by walk_at "b")
theorem ud(a:jv P w K mg):jx P w K mg:=λbase=>dG X G T.QK (λS _ _ _ _ _ _ _ _ _ e f h=>bK (GS h)<|ae (qs 3 S<|bt c_)<|ae (cj bQ rfl (nG rfl z.enumerate<|a1<|qf e (a base)<|a1<|pv 2) (c9 rfl<|au (gn 4 S)<|au (gn 5 S) bT)<|ae (ic (pv 5)<|c9 rfl<|au (gn 6 S)<|au (gn 7 S) bT)<|ah<|bu<|iO eA hZ hV cT (pv 3)<|a1<|aw<|a3 (ba FN (pv 0)<|aw<|a1<|pv 4) (ba lF (pv 1)<|bt<|a1<|pv 6)<|pv 7)<|ah<|az<|pv 3) (by walk_at "b")
theorem Ad(a:jx P w K mg):nc P w K mg:=λbase=>dG X G T.RJ (λS _ _ _ _ _ _ _ _ _ e f h=>bK (IC h)<|ae (qs 1 S<|bt c_)<|ae (qs 2 S<|bt<|a1<|aw<|a3 (aw c_) (bt c_)<|pv 0)<|ae (mH bQ (g8 yf (ql z.len<|a1<|pv 2) af)<|ae (ic (sO eA rF rE vW<|pv 2)<|c9 rfl<|au (gn 3 S)<|au (gn 4 S)<|au (gn 5 S) bT)<|ae (bu<|iO eA hZ hV cT (pv 1)<|a1<|aw<|a3 (pv 3) (pv 4)<|pv 5)<|ae (cj bQ rfl (MJ rfl z.reversed<|a1<|qf e (a base)<|a3 (pv 3) (pv 4)<|pv 5) (gn 6 S)<|ah<|bu<|iO eA hZ hV cT (pv 2)<|a1<|pv 6)<|ah<|bD (PW.pt<|lW (g8 cM (ql z.len<|a1<|pv 3)<|g9 rfl c.MOST_WITHIN)<|lB<|g8 yf (ba dw (ql z.len<|a1<|pv 1)<|ql z.len<|a1<|pv 2)<|g9 rfl c.MOST_TRIALS) (ah<|Ca) aO)<|ah<|az<|pv 1) (by walk_at "b")
theorem mx(a:g0 P w K mg C):fR P w K mg C:=λbase=>dG X G T.PB (λS _ _ _ _ _ _ _ _ _ e f h=>bK (BY h) (ah (az (Dj (iJ f) (qc (Ja<|pv 1) (nI (cS (bb WE) bv (cS (bb WE) bv (kK)<|cU)<|ei bv<|cU)) λ_ _ _ _ _ _=>⟨c9 rfl<|au (gc 0)<|au (gc 1) bT,cL,pv 0⟩)<|KR e (a base)<|pv 0)))) (by walk_at "b")
theorem o0(e:fD P w K mg C)(f:nQ P w K mg)(g:nP P w K mg)(a:fR P w K mg C):gW P w K mg C:=λbase=>dG X G T.P8 (λS _ _ _ _ _ _ _ _ _ i j h=>bK (IK c.Wj c.Wi h)<|ae (bD (fo<|qf i (f base)<|a1<|pv 1) (ah<|az<|iI (VD (Eo j) (xt (pv 1) af)<|KR i (e base)<|pv 0)<|jj<|qf i (a base)<|a2 (pv 0)<|xt (pv 1) af) aO)<|ae (bD (fo<|qf i (g base)<|a1<|pv 1) (ah<|az<|qf i (a base)<|a2 (pv 0)<|xt (pv 1) af) aO)<|ah<|az<|NF (Dj (iJ j) (pv 1)<|g9 rfl c.END)<|jj<|Dj (iJ j) (pv 1)<|g9 rfl c.BLAME) (by walk_at "b")
theorem my(f:tD P w K mg qe)(e:nc P w K mg)(a:gW P w K mg C):fS P w K mg C qe:=λbase=>Nk X G T.PD (λS _ _ _ _ _ _ _ _ _ g i h=>bK (BZ h) (sK (qG (HQ<|uy<|qs 2 S<|qf g (e base)<|a1<|pv 1) (qG (Ek rfl (bz<|pv 2) (c9 rfl<|au (gn 3 S)<|au (gn 4 S)<|au (gn 5 S) bT) (gM (IW (sJ<|fo<|qf g (a base)<|a2 (pv 0)<|pv 5) (gM (HQ (x9 (f base) (g.mono WE) rfl rfl<|a1<|pv 3))) Ej)))<|gM<|HQ<|uy<|az<|pv 2)))) (by walk_at "b")
theorem GF(a:fS P w K mg C qe):wK P w K mg C qe:=λbase=>Nk X G T.Th (λS _ _ _ _ _ _ _ _ _ e f h=>bK (Ed h) (sK (gM (HQ (ME (Jc (k:=3) (N:=["way","story","here"]) (fi:=[]) (by(with_unfolding_all rfl)) rfl (Cf (sN (a base) (e.mono WE) rfl<|a2 (pv 0)<|pv 1)) (λ_ _ _ _ _ _=>c9 rfl (au (qI (i:=0) (show(["way","story","here"]:Zb).Nodup by decide +kernel) rfl<|Or.inl rfl) (au (qI (i:=1) (show(["way","story","here"]:Zb).Nodup by decide +kernel) rfl<|Or.inl rfl) (au (qI (i:=2) (show(["way","story","here"]:Zb).Nodup by decide +kernel) rfl<|Or.inl rfl) bT)))) (nI (cS (bb WE) bv (cS (bb WE) bv (cS (bb WE) bv (kK)<|cU)<|ei bv<|cU)<|ei bv<|ei bv<|cU)) (λ_ _ _ _ _ _=>lC<|g8 cM (ql z.len<|a1<|pv 2) af)<|λ_ _ _ _ _ _=>aw<|a3 (pv 0) (pv 1)<|xt (pv 2) af)))))) (by walk_at "b")
theorem GG(a:lL P w K mg C qd qg)(e:tw P w K mg C)(f:wK P w K mg C qe):wQ P w K mg C qd qe qg:=λbase=>Nk X G T.Ti (λS _ _ _ _ _ _ _ _ _ g i h=>bK (Ef h) (sK (qG (HQ (uz (sN (a base) (g.mono WE) rfl<|a2 (pv 0)<|pv 2))) (qG (KS rfl (Cf (sN (f base) (g.mono WE) rfl<|a2 (pv 0)<|pv 1)) (c9 rfl<|au (gn 3 S)<|au (gn 4 S)<|au (gn 5 S) bT)<|gM<|HQ<|uy<|bD (g8 cM (pv 5) aN) (ae (qs 6 S<|qf g (e base)<|a2 (pv 2)<|pv 4)<|ah<|bD (iH<|uA<|pv 6) (ah<|az<|pv 6) aO) aO)<|gM<|HQ<|uy<|az pc)))) (by walk_at "b")
theorem vB(a:cA P w K mg)(f:kT P w K mg)(e:fC P w K mg):kh P w K mg:=λbase=>dG X G T.Q5 (λS _ _ _ _ _ _ _ _ _ g i h=>bK (DZ h) (ae (ic (pv 1)<|c9 rfl<|au (gn 2 S)<|au (gn 3 S)<|au (gn 4 S)<|au (gn 5 S) bT) (ae (qs 5 S<|qL rfl z.list<|a1<|pv 5) (ae (cj bQ rfl (bz<|pv 4) (gn 6 S) (ah (cj bQ rfl (bz<|pv 2) (gn 7 S) (ae (qs 8 S<|qf g (e base)<|a2 (pv 5)<|bt<|a1<|pv 6) (ah (bD (g8 (iJ i) (qc (bz<|pv 5) (bb WE) λ_ _ _ _ _ _=>⟨gc 0,lC<|PW.pt<|ji (LI (Eo i) (xq (pv 0) af)<|pv 1)<|iU<|g8 (iJ i) (xq (pv 0) af)<|aw<|a2 aN<|pv 2,pv 0⟩)<|bt c_) (ae (qs 9 S<|xl (bt<|a2 (pv 6)<|xl (pv 4)<|qf g (a base)<|a2 (pv 0)<|ql z.len<|a1<|pv 4)<|qf g (a base)<|a2 (pv 0) af)<|ah<|bu<|qf g (f base)<|a2 (pv 5)<|aw<|a3 (pv 6) (aw<|a2 aN<|pv 7)<|pv 9) aO))))))<|ah<|az<|aw<|aW (pv 2)<|a3 (pv 3) (pv 4)<|pv 5)))) (by walk_at "b")
theorem xh(a:cA P w K mg)(e:kT P w K mg)(f:fC P w K mg):lO P w K mg:=λbase=>dG X G T.Rp (λS _ _ _ _ _ _ _ _ _ g i h=>bK (GL h)<|ae (ic (pv 1)<|c9 rfl<|au (gn 2 S)<|au (gn 3 S)<|au (gn 4 S)<|au (gn 5 S) bT)<|ae (qs 5 S<|qL rfl z.list<|a1<|pv 5)<|ae (qs 6 S<|qf g (a base)<|a2 (pv 0) af)<|ae (qs 7 S<|qf g (a base)<|a2 (pv 0)<|qB (HB rfl) z.max PyProof.Rows.boot_max<|a2 af<|ql z.len<|a1<|pv 5)<|ae (qs 8 S<|xl (pv 4)<|qf g (a base)<|a2 (pv 0)<|ql z.len<|a1<|pv 4)<|ae (qs 9 S<|xl (pv 4)<|qf g (a base)<|a2 (pv 0)<|ql z.len<|a1<|pv 4)<|ae (bD (g8 cM (pv 6) af) (ah<|bu<|qf g (e base)<|a2 (pv 5)<|aw<|a3 (pv 8) (aw<|a2 aN<|xl (pv 3)<|qf g (a base)<|a2 (pv 0)<|ql z.len<|a1<|pv 3)<|pv 9)<|ah<|bD (g8 cM (pv 6) af) (ah<|bu<|qf g (e base)<|a2 (pv 5)<|aw<|a3 (pv 8) (aw<|a2 aN<|xl (pv 2)<|qf g (a base)<|a2 (pv 0)<|ql z.len<|a1<|pv 2)<|pv 9)<|ah<|bD (PW.pt<|ji (g8 ye (pv 6) af)<|ji (g8 (mK i) (pv 5)<|bt c_)<|iU<|g8 Jj (xt (xt (xl (pv 5)<|pv 7) af) af) aN) (ae (qs 10 S<|iO eA rF rE Jp (pv 5)<|a1<|pv 7)<|ah<|bD (g8 cM (pv 6) af) (ah<|bu<|qf g (e base)<|a2 (pv 5)<|aw<|a3 (xt (pv 10) af) (xt (pv 10) af)<|pv 9) aO)<|ah<|bD (PW.pt<|ji (g8 cM (pv 6) af)<|iU<|LI (iZ i) (pv 8)<|qf g (f base)<|a2 (pv 5)<|bt<|a1<|pv 9) (ah<|bu<|qf g (e base)<|a2 (pv 5)<|aw<|a3 (pv 8) (aw<|a1 aN)<|pv 9) aO)<|ah<|az<|aw<|aW (pv 2)<|a3 (pv 3) (pv 4)<|pv 5) (by walk_at "b")
theorem vD(e:cA P w K mg)(a:jX P w K mg):ki P w K mg:=λbase=>dG X G T.Q8 (λS _ _ _ _ _ _ _ _ _ g f h=>bK (BU h) (ae (ic (pv 1)<|c9 rfl<|au (gn 2 S)<|au (gn 3 S)<|au (gn 4 S)<|au (gn 5 S) bT) (ae (qs 6 S mJ) (ae (cj bQ rfl (Av rfl z.zip<|a2 (pv 4)<|qf g (a base)<|a2 (pv 0)<|ql z.len<|a1<|pv 4) (c9 rfl<|au (gn 7 S)<|au (gn 8 S) bT)<|ah<|iV f (pv 6) (pv 7) (pv 8) rfl) (ae (NE 9 S (bz<|pv 4) (bb WE) λ_ _ _ _ _ _=>⟨gc 0,cL,jP f (pv 1) (pv 0)<|λ_ _=>rfl⟩) (ae (qs 10 S<|ba dw af<|qf g (e base)<|a2 (pv 0)<|ql z.len<|a1<|pv 4) (ae (qs 9 S<|ba lF (ba lF (du iq (pv 9) fZ<|dB af)<|du iq (pv 9) (dB<|pv 10) fZ)<|du iq (pv 9) (dB af)<|dB<|pv 10) (ae (NE 5 S (bz<|pv 5) (nI (cS (bb WE) bv (cS (bb WE) bv (cS (bb WE) bv (kK)<|cU)<|ei bv<|cU)<|ei bv<|ei bv<|cU)) λ_ _ _ _ _ _=>⟨c9 rfl<|au (gc 0)<|au (gc 1)<|au (gc 2) bT,cL,aw<|a3 (jP f (pv 3) (pv 0)<|λ_ _=>rfl) (pv 1)<|jP f (pv 3) (pv 2)<|λ_ _=>rfl⟩)<|ah<|az<|aw<|aW (pv 2)<|a3 (pv 3) (pv 9)<|pv 5)))))))) (by walk_at "b")
theorem BM(i:lR P w K mg)(a:cA P w K mg)(e:kh P w K mg)(g:lO P w K mg)(f:ki P w K mg):wN P w K mg:=λbase=>dG X G T.R_ (λS _ _ _ _ _ _ _ _ _ j k h=>bK (KG (K:=K) h)<|ae (bu<|qf j (i base)<|a1<|pv 0)<|ae (cj bQ rfl (ie rfl z.range<|a1<|qf j (a base)<|a2 (pv 0)<|ba dw (pv 2) af) (gn 3 S)<|ah<|qs 1 S<|qf j (g base)<|a2 (pv 0)<|pv 1)<|ae (qs 1 S<|qf j (e base)<|a2 (pv 0)<|pv 1)<|ae (bD (g8 cM (qf j (a base)<|a2 (pv 0) af) af) (ah<|qs 1 S<|qf j (f base)<|a2 (pv 0)<|pv 1) aO)<|ah<|az<|pv 1) (by walk_at "b")
theorem Ag:jW P w K mg:=λbase=>dG X G T.RL (λS _ _ _ _ _ _ _ _ _ a e h=>bK (GU h) (ah (az (kI xE rfl z.tuple tX (a1 (qc (Av rfl z.zip<|a2 (pv 0)<|pv 1) (nI (cS (bb WE) bv (cS (bb WE) bv (kK)<|cU)<|ei bv<|cU)) λ_ _ _ _ _ _=>⟨c9 rfl<|au (gc 0)<|au (gc 1) bT,cL,aw<|a2 (pv 0)<|pv 1⟩)))))) (by walk_at "b")
theorem Af(g:cA P w K mg)(i:jW P w K mg):tZ P w K mg:=λbase=>by
  have E0:g6 P w K mg base "_law_trial" ["pen","told","deep","left"] 2 Ms:=by
   let⟨f,a,t⟩:=T.Qm;let⟨p,F⟩:=t.R6;exact⟨f,p,LU,bX X G a,F.kp,F.binds (ps:=["pen","told","deep","left"]) (by walk_at "b")⟩
  have l:∀(n D:Nat) (o:Sp),2<=n->D<=2->(∀m,D=m+1->o=(eW K m))->g6 P w K mg base "_law_trial" ["pen","told","deep","left"] n o->g6 P w K mg base "_law_trial" ["pen","told","deep","left"] (n+1) (eW K D):=λn D o k q r s=>dG X G T.Qm (λS _ _ _ _ _ _ _ _ _ j y h=>bK (GN (bh q WE) r h) (ae (ic (ba Em (xl (pv 3) af) af)<|sM (pv 3) af kG) (ae (qs 4 S (qf (k0:=2) (j.mono (bh WE k)) (g base)<|a2 (pv 0) af)) (ae (bD (PW.pt<|lW (g8 cM (pv 2) af)<|lW (g8 ye (xl (pv 3) af) af)<|lB<|g8 cM (pv 4) af) (ah (az (xl (bt<|a2 (aw<|a1 aN)<|aw<|a1 aN) (qf (k0:=2) (j.mono (bh WE k)) (g base)<|a2 (pv 0) af)))) aO) (ae (NE 5 S (ie rfl z.range<|a1<|ba dw (ql z.len<|a1<|xt (pv 1) af) af) (bb WE) λ_ _ _ _ _ _=>⟨gc 0,cL,Jf s j rfl<|aW (pv 1)<|a3 (pv 2) (ba Em (pv 4) af)<|pv 3⟩) (ae (bD (g8 ye (pv 4) af) (ae (qs 6 S (xl (xt (pv 1) af) (qf (k0:=2) (j.mono (bh WE k)) (g base)<|a2 (pv 0)<|ql z.len<|a1<|xt (pv 1) af))) (ah (az (aw (aW aN (a3 (pv 6) (xl (pv 5) af) (qf (k0:=1) (j.mono (bh WE k)) (i base)<|a2 (xt (pv 1) af)<|du iq (pv 5) (dB af) fZ))))))) aO) (ah (az (aw (a3 aN (qf (k0:=1) (j.mono (bh WE k)) (i base)<|a2 (xt (pv 1) af)<|pv 5)<|xl (pv 5)<|tM mq af)))))))))) (by walk_at "b");have u:=l 2 0 _ WE WE (λm e=>by cases e) E0;have v:=l 3 1 _ WE WE (λm e=>by cases e;rfl) u;have x:=l 4 2 _ WE WE (λm e=>by cases e;rfl) v;exact x
theorem BK:wL P w K mg:=λbase=>by
  have E0:g6 P w K mg base "_law_same" ["found","due"] 0 Ms:=by
   let⟨f,a,t⟩:=T.QN;let⟨k,F⟩:=t.R6;exact⟨f,k,LU,bX X G a,F.kp,F.binds (ps:=["found","due"]) (by walk_at "b")⟩
  have g:∀(n D:Nat) (i:Sp),0<=n->D<=3->(∀m,D=m+1->i=(cR K m))->g6 P w K mg base "_law_same" ["found","due"] n i->g6 P w K mg base "_law_same" ["found","due"] (n+1) (cR K D):=λn D i x l o p=>dG X G T.QN (λS _ _ _ _ _ _ _ _ _ q j h=>bK (GQ (bh l WE) o h) (ae (bD (iH<|Jh<|pv 1) (ah<|az<|Jg<|Jh<|pv 0) aO) (ae (bD (fo<|qB fy z.isinstance cO<|a2 (pv 1)<|pb rfl z.bool) (ah<|az<|iI (qB fy z.isinstance cO<|a2 (pv 0)<|pb rfl z.bool)<|jj<|Dj cM (pv 0)<|pv 1) aO) (ae (bD (fo<|qB fy z.isinstance cO<|a2 (pv 1)<|ya rfl z.str) (ah<|az<|iI (qB fy z.isinstance cO<|a2 (pv 0)<|ya rfl z.str)<|jj<|Dj (iJ j) (pv 0)<|pv 1) aO) (ae (bD (fo<|qB fy z.isinstance cO<|a2 (pv 1)<|yb rfl z.int) (ah<|az<|iI (qB fy z.isinstance cO<|a2 (pv 0)<|yb rfl z.int)<|iI (Ax<|qB fy z.isinstance cO<|a2 (pv 0)<|pb rfl z.bool)<|jj<|Dj (iJ j) (pv 0)<|pv 1) aO) (ae (bD (PW.pt<|ji (fo<|qB fy z.isinstance cO<|a2 (pv 1)<|tN rfl z.tuple)<|iU<|sJ<|fo<|qB fy z.isinstance cO<|a2 (pv 0)<|tN rfl z.tuple) (ah<|az om) aO) (ae (bD (PW.pt<|lW (PW.pt<|ji (fo<|qB fy z.isinstance cO<|a2 (pv 1)<|vR rfl z.list)<|iU<|sJ<|fo<|qB fy z.isinstance cO<|a2 (pv 0)<|vR rfl z.list)<|lB<|g8 Jj (ql z.len<|a1<|pv 0)<|ql z.len<|a1<|pv 1) (ah<|az om) aO) (ah (az (qB (mT rfl) z.all boot_all (a1 (qc (Av rfl z.zip<|a2 (pv 0)<|pv 1) (nI (cS (bb WE) bv (cS (bb WE) bv (kK)<|cU)<|ei bv<|cU)) λ_ _ _ _ _ _=>⟨c9 rfl<|au (gc 0)<|au (gc 1) bT,cL,Jf p q rfl<|a2 (pv 0)<|pv 1⟩)))))))))))) (by walk_at "b");have r:=g 0 0 _ WE WE (λm e=>by cases e) E0;have s:=g 1 1 _ WE WE (λm e=>by cases e;rfl) r;have u:=g 2 2 _ WE WE (λm e=>by cases e;rfl) s;have v:=g 3 3 _ WE WE (λm e=>by cases e;rfl) u;exact v
theorem Ak:jY P w K mg:=λbase=>dG X G T.RP (λS _ _ _ _ _ _ _ _ _ e a h=>bK (IL h) (ae (qs 1 S<|bt<|aW aN<|aW aN<|aW aN<|aW aN<|aW aN<|aW aN<|aW aN<|a3 aN aN aN) (ah (az (xl (qc (bz<|pv 1) (bb WE) λ_ _ _ _ _ _=>⟨gc 0,lC<|LI (iZ a) (pv 0)<|ba lF (xt (pv 1) af)<|xt (pv 1) af,pv 0⟩) af))))) (by walk_at "b")
theorem Aj(a:fC P w K mg):t6 P w K mg:=λbase=>dG X G T.RO (λS _ _ _ _ _ _ _ _ _ f e h=>bK (II h) (ae (cj bQ rfl (bz<|xq (pv 0) af) (gn 1 S) (ae (qs 2 S<|qf f (a base)<|a2 (xq (pv 0) af)<|bt<|a1<|pv 1) (ah (cj bQ rfl (bz<|xq (pv 0) af) (gn 3 S) (ah (bD (g8 (iJ e) (qc (bz<|xq (pv 0) af) (bb WE) λ_ _ _ _ _ _=>⟨gc 0,lC<|PW.pt<|ji (LI (Eo e) (xq (pv 0) af)<|pv 1)<|iU<|g8 (iJ e) (xq (pv 0) af)<|aw<|a2 aN<|pv 2,pv 0⟩)<|bt c_) (ah<|az<|aw<|a2 (pv 1)<|pv 3) aO))))))<|ah<|az pc)) (by walk_at "b")
theorem BN(a:cA P w K mg):wO P w K mg:=λbase=>dG X G T.Sa (λS _ _ _ _ _ _ _ _ _ e f h=>bK (KH h) (ae (ic (pv 1)<|c9 rfl<|au (gn 2 S)<|au (gn 3 S)<|au (gn 4 S)<|au (gn 5 S) bT) (ae (qs 6 S<|xl (pv 2)<|qf e (a base)<|a2 (pv 0)<|ql z.len<|a1<|pv 2) (ae (qs 7 S (qc (bz<|pv 4) (bb WE) λ_ _ _ _ _ _=>⟨gc 0,lC<|g8 cM (qf e (a base)<|a2 (pv 1) af) af,pv 0⟩)) (ah (az (aw (aW (pv 2) (a3 (pv 3) (pv 4) (qc (bz<|pv 5) (bb WE) λ_ _ _ _ _ _=>⟨gc 0,lC<|PW.pt<|lW (g8 (mK f) (xt (pv 0) af)<|aw<|a2 aN<|pv 2)<|lB<|LI (iZ f) (xt (pv 0) af)<|pv 1,pv 0⟩)))))))))) (by walk_at "b")
theorem xj:lQ P w K mg:=λbase=>dG X G T.Rr (λS _ _ _ _ _ _ _ _ _ a e h=>bK (GX h) (ae (NE 3 S (bz<|xt (pv 0) af) (bb WE) λ_ _ _ _ _ _=>⟨gc 0,cL,xl (bt<|a2 (pv 0)<|pv 1)<|kI yP rfl z.int sZ<|a1<|Dj cM (pv 0)<|pv 2⟩) (ae (NE 4 S (bz<|xt (pv 0) af) (bb WE) λ_ _ _ _ _ _=>⟨gc 0,cL,xl (bt<|a2 (pv 0)<|pv 1)<|kI yP rfl z.int sZ<|a1<|Dj cM (pv 0)<|pv 2⟩)<|ae (qs 5 S<|bt c_)<|ae (cj bQ rfl (bz<|xt (pv 0) af) (c9 rfl<|au (gn 6 S)<|au (gn 7 S)<|au (gn 8 S) bT)<|ae (bD (PW.pt<|ji (g8 cM (xt (pv 7)<|tM mq af)<|pv 1)<|iU<|g8 cM (ql z.len<|a1<|pv 7) af) (ah<|qs 7 S<|aw<|a2 (xt (pv 7) af)<|pv 2) aO)<|ah<|bu<|iO eA hZ hV cT (pv 5)<|a1<|aw<|a3 (pv 6) (pv 7)<|pv 8)<|ah<|az<|aw<|aW (pv 3)<|a3 (pv 4) (xt (pv 0) af)<|pv 5))) (by walk_at "b")
theorem vC(a:cA P w K mg)(f:jY P w K mg)(e:lQ P w K mg):ou P w K mg:=λbase=>dG X G T.Q7 (λS _ _ _ _ _ _ _ _ _ g i h=>bK (D0 h)<|ae (qs 2 S<|qf g (a base)<|a2 (pv 0) af)<|ae (bD (g8 cM (pv 2) af) (ah<|az<|aw<|aW (FH (xt (pv 1) af)<|tM mq af)<|a3 (xt (pv 1) af) (xt (pv 1) af)<|xt (pv 1) af) aO)<|ae (bD (g8 cM (pv 2) af) (ah<|az<|aw<|aW (xt (pv 1) af)<|a3 (FH (xt (pv 1) af)<|tM mq af) (xt (pv 1) af)<|xt (pv 1) af) aO)<|ae (qs 3 S<|xl (bt<|a2 (xt (pv 1) af)<|xt (pv 1) af)<|ba Em (pv 2) af)<|ah<|az<|qf g (e base)<|a3 (pv 1) (xl (pv 3)<|qf g (a base)<|a2 (pv 0)<|ql z.len<|a1<|pv 3)<|qf g (f base)<|a1<|pv 1) (by walk_at "b")
theorem BO(f:cA P w K mg)(a:jW P w K mg)(e:jY P w K mg):wP P w K mg:=λbase=>dG X G T.Sb (λS _ _ _ _ _ _ _ _ _ g i h=>bK (IM h) (ae (qs 3 S<|qf g (f base)<|a2 (pv 0) af) (ae (qs 4 S (qf g (a base) (a2 (xt (pv 1) af) (qc (bz<|xt (pv 1) af) (bb WE) λ_ _ _ _ _ _=>⟨gc 0,cL,aw<|a1 aN⟩))))<|ae (qs 5 S<|qf g (e base)<|a1<|pv 1)<|ae (bD (g8 cM (pv 3) af) (ah<|az<|aw<|a2 (aw<|aW aN<|a3 (pv 5) (pv 2)<|pv 4)<|aw c_) aO)<|ae (bD (g8 cM (pv 3) af) (ah<|az<|aw<|a2 (aw<|a3 aN (du Fy (pv 4) (dB af) fZ)<|pv 2)<|aw c_) aO)<|ae (bD (g8 cM (pv 3) af) (ah<|az<|aw<|a2 (aw<|a3 aN (pv 4)<|aw<|a1 aN)<|aw<|a1<|ql z.len<|a1<|pv 4) aO)<|ae (bD (g8 cM (pv 3) af) (ae (qs 6 S<|ba FN (du Fy (pv 4) fZ<|dB<|tM mq af)<|aw<|a1<|aw<|a2 (xl (xt (pv 1) af)<|tM mq af)<|aw<|a3 aN (aw c_)<|pv 2)<|ah<|az<|aw<|a2 (aw<|aW aN<|a3 (xl (xt (pv 1) af) af) (aw<|a1 aN)<|pv 6)<|aw<|a1<|ql z.len<|a1<|pv 4) aO)<|ah<|az<|aw<|a2 (aw<|a3 aN (pv 4)<|aw<|aW aN<|a3 (pv 5) (aw<|a1 aN)<|pv 4)<|aw<|a1<|ql z.len<|a1<|pv 4))) (by walk_at "b")
theorem vE(e:wQ P w K mg C qd qe qg):oy P w K mg C:=λbase=>dG X G T.Q9 (λS _ _ _ _ _ _ _ _ _ f j h=>bK (Ea (Mw c.OO c.QA c.QB c.PL c.OV c.Qd c.OP c.Rc c.RA c.O1 c.Rf c.RB c.xt c.xg c.Pf c.Po c.Pn c.nd) h) (ae (qs 3 S aN) (ae (qs 4 S om) (ae (KU (gM (HQ (uz (sN (e base) (f.mono WE) rfl<|a3 (pv 0) (pv 1)<|pv 2))))<|Jb (i:=5) S rfl rfl rfl c.O1.g (λa=>ae (qs 3 S aN)<|ah<|qs 4 S<|iI (qB wo z.isinstance cO<|a2 (pv 5)<|lE rfl z.ValueError CY rfl)<|jj<|Ax<|qB sY z.isinstance cO<|a2 (pv 5)<|aw<|aW (dY rfl c.Qd.g rfl)<|aW (dY rfl c.RB.g rfl)<|a3 (dY rfl c.OV.g rfl) (dY rfl c.PL.g rfl)<|dY rfl c.Rf.g rfl)<|Jb (i:=5) S rfl rfl rfl c.OP.g (λa=>ae (qs 3 S<|aw<|a3 aN (Aw (pv 5) rfl)<|Aw (pv 5) rfl)<|ah<|qs 4 S<|iI (qB wo z.isinstance cO<|a2 (pv 5)<|dY rfl c.TrialError rfl)<|jj<|Ax<|qB sY z.isinstance cO<|a2 (pv 5)<|aw<|aW (dY rfl c.RA.g rfl)<|aW (dY rfl c.QB.g rfl)<|a3 (dY rfl c.QA.g rfl) (dY rfl c.Rc.g rfl)<|dY rfl c.OV.g rfl)<|Jb (i:=5) S rfl rfl rfl c.OO.g (λa=>ae (qs 3 S<|aw<|a2 aN<|Aw (pv 5) rfl)<|ah<|qs 4 S<|iI (qB wo z.isinstance cO<|a2 (pv 5)<|lE rfl z.ValueError CY rfl)<|jj<|Ax<|qB sY z.isinstance cO<|a2 (pv 5)<|aw<|aW (dY rfl c.Qd.g rfl)<|aW (dY rfl c.OV.g rfl)<|a3 (dY rfl c.PL.g rfl) (dY rfl c.QB.g rfl)<|dY rfl c.QA.g rfl) MK)<|ah<|az<|bt<|a2 (pv 3)<|pv 4)))) (by walk_at "b")
end
theorem MO(X:K.In h)(G:h.Ns bq mg)(z:Zs mg)(c:Cs K mg C Cx Ct C1 OD OE Pw qd qe ro rz qg vr sA qy qx ri q0)(T:Ts K C Cx qd qe ro rz qg vr sA qy qx ri q0):∃f fd,mg "law"=pe (.ref f)/\(∀(s:Ww) (v:Wx),oP s fd ⟨[v],[]⟩ [("script",v)])/\∀base:WA,ju P w K mg base RT 9 f fd ["script"] (Pl K):=by
 have bd:lP P w K mg:=xi X G z c T;have b4:wM P w K mg:=BL X G z c T;have as:lR P w K mg:=BP X G z c T;have e:cA P w K mg:=BJ X G z c T bd;have L:jX P w K mg:=Ah X G z c T e;have D:kT P w K mg:=DC X G z c T;have M:ik P w K mg:=pZ X G z c T e D;have b1:t4 P w K mg:=Ai X G z c T as e L M;have cb:tz P w K mg:=DF X G z c T;have E:kU P w K mg:=DG X G z c T;have x:gp P w K mg:=nV X G z c T cb E;have bi:lS P w K mg:=xk X G z c T;have y:gq P w K mg:=nW X G z c T E;have m:dR P w K mg:=jd X G z c T;have aC:jy P w K mg:=ue X G z c T;have H:gX P w K mg:=o5 X G z c T;have N:jV P w K mg:=Ae X G z c T;have bl:lM P w K mg:=xa X G z c T x bi y N;have O:io P w K mg:=p7 X G z c T;have Q:im P w K mg:=p6 X G z c T;have cc:tF P w K mg C:=DK X G z c T E m aC H N bl O Q;have q:oz P w K mg C:=vF X G z c T cc;have n:gb P w K mg C:=sE X G z c T;have A:gr P w K mg C:=nS X G z c T;have g:eV P w K mg C:=sF X G z c T;have B:gu P w K mg C:=nU X G z c T;have i:fC P w K mg:=uf X G z c T;have j:fD P w K mg C:=ub X G z c T;have p:g0 P w K mg C:=ua X G z c T;have ce:tE P w K mg qd:=DJ X G z c T;have ch:tD P w K mg qe:=DH X G z c T;have cm:Bk P w K mg C:=Iq X G z c T A g;have bm:lN P w K mg C qg:=xf X G z c T j p;have o:e_ P w K mg C qd:=lg X G z c T n j ce cm;have bn:lL P w K mg C qd qg:=w_ X G z c T bm o;have I:gZ P w K mg C:=o6 X G z c T g;have b5:pJ P w K mg C:=BI X G z c T g B;have a0:kf P w K mg C:=vA X G z c T n I b5;have ci:tw P w K mg C:=DB X G z c T a0;have a4:nQ P w K mg:=DE X G z c T;have a5:nP P w K mg:=DD X G z c T;have U:ij P w K mg:=pY X G z c T;have aT:jv P w K mg:=uc X G z c T a4 a5 U;have aX:jx P w K mg:=ud X G z c T aT;have b2:nc P w K mg:=Ad X G z c T aX;have r:fR P w K mg C:=mx X G z c T p;have J:gW P w K mg C:=o0 X G z c T j a4 a5 r;have u:fS P w K mg C qe:=my X G z c T ch b2 J;have ck:wK P w K mg C qe:=GF X G z c T u;have cl:wQ P w K mg C qd qe qg:=GG X G z c T bn ci ck;have a6:kh P w K mg:=vB X G z c T e D i;have bw:lO P w K mg:=xh X G z c T e D i;have a7:ki P w K mg:=vD X G z c T e L;have b6:wN P w K mg:=BM X G z c T as e a6 bw a7;have Y:jW P w K mg:=Ag X G z c T;have b3:tZ P w K mg:=Af X G z c T e Y;have b7:wL P w K mg:=BK X G z c T;have ab:jY P w K mg:=Ak X G z c T;have al:t6 P w K mg:=Aj X G z c T i;have b8:wO P w K mg:=BN X G z c T e;have b0:lQ P w K mg:=xj X G z c T;have a8:ou P w K mg:=vC X G z c T e ab b0;have b9:wP P w K mg:=BO X G z c T e Y ab;have a9:oy P w K mg C:=vE X G z c T cl;let⟨f,a,t⟩:=T.TJ;let⟨oc,od,an,sl,kV,dc,pm,cd,ct,l,c1,k1⟩:=t;have F:=JE (st:=(fO 87)) l c1 k1;have sc:iw Gk IZ (bL<|fO 87):=by walk_at "s"
 have S:=sc.nd;exact⟨f,_,bX X G a,λs v=>.of_eq rfl,λbase=>F.ok (k:=8) sc (by walk_at "l") (λ_ _ _ _ _ _ _ _ hr h=>by have hu:=yq hr;exact bK (IH (C:=C) h)<|ae (qs 1 S<|qf hr (b4 base)<|a1<|pv 0)<|ae (cj bQ rfl (ie rfl z.range<|a1 af) (gn 2 S)<|ae (qs 3 S<|qf hr (b1 base)<|a3 (pv 1) af af)<|ae (qs 4 S<|qf hr (q base)<|a1<|pv 3)<|ae (qs 5 S<|qf hr (b6 base)<|a3 (pv 1) (pv 3) af)<|ae (bD (g8 cM (qf hr (e base)<|a2 (pv 1) af) af) (ah<|qs 5 S<|qf hr (b8 base)<|a2 (pv 1)<|pv 5) aO)<|ae (bD (g8 cM (qf hr (e base)<|a2 (pv 1) af) af) (ah<|qs 5 S<|qf hr (a8 base)<|a2 (pv 1)<|pv 5) aO)<|ae (qs 6 S<|qf hr (b3 base)<|aW (pv 1)<|a3 (pv 3) af<|bt<|a1 af)<|ae (qs 7 S aN)<|ae (bD (g8 cM (qf hr (e base)<|a2 (pv 1) af) af) (ae (ic (qf hr (b9 base)<|a3 (pv 1) (pv 3)<|pv 6)<|c9 rfl<|au (gn 6 S)<|au (gn 8 S) bT)<|ah<|qs 7 S<|aw<|a2 aN<|pv 8) aO)<|ae (bD (iH<|uA<|qf hr (al base)<|a1<|pv 5) (ah<|qs 7 S<|ba FM (aw<|a1 aN)<|qf hr (al base)<|a1<|pv 5) aO)<|ae (bD (PW.pt<|lW (g8 (mK hu) (xt (pv 5) af)<|xt (pv 3) af)<|lB<|g8 (mK hu) (xt (pv 5) af)<|xt (pv 3) af) (ah<|qs 7 S aN) aO)<|ah<|bD (sJ<|fo<|qf hr (b7 base)<|a2 (qf hr (a9 base)<|a3 (pv 4) (pv 6)<|qf hr (q base)<|a1<|pv 5)<|bt<|a2 (pv 7) om) (ah<|az om) aO)<|ah<|az om)⟩
theorem all_mk{l:PySem.W.OpenLaw}{fa:Wv}{mX qX:WD}{NX:Wv}{m0 ga:Zf}{m1:Zb}{m2:Bool}{gd:Option Bool}{m3:Option Wv}{m4 m5 m6 m7 m8:Option Wx}{na qT:WD}{NT:Wv}{nb ge:Zf}{nf:Zb}{ng:Bool}{gf:Option Bool}{nj:Option Wv}{nk nm nn no np:Option Wx}{gg ns:WD}{nt:Wv}{gi cq:Zf}{gl:Zb}{gs:Bool}{cs:Option Bool}{gt:Option Wv}{gw gx gz gG gI:Option Wx}{gO nv:WD}{nw:Wv}{gT ct:Zf}{gY:Zb}{g1:Bool}{cB:Option Bool}{g2:Option Wv}{g3 g4 g5 g7 ha:Option Wx}{hb nx:WD}{ny:Wv}{hc cC:Zf}{he:Zb}{hf:Bool}{c0:Option Bool}{hg:Option Wv}{hh hi hj hk hl:Option Wx}{hm nz:WD}{nA:Wv}{hn c1:Zf}{ho:Zb}{hp:Bool}{c2:Option Bool}{hq:Option Wv}{hr hs ht hu hv:Option Wx}{hw nT:WD}{n0:Wv}{hx c3:Zf}{hy:Zb}{hz:Bool}{c4:Option Bool}{hA:Option Wv}{hC hD hE hF hG:Option Wx}{hH n1:WD}{n2:Wv}{hI c5:Zf}{hJ:Zb}{hK:Bool}{dc:Option Bool}{hL:Option Wv}{hM hN hO hP hQ:Option Wx}{hR n3:WD}{n4:Wv}{hS dd:Zf}{hT:Zb}{hU:Bool}{di:Option Bool}{hW:Option Wv}{hX hY h0 h1 h2:Option Wx}{h3 n7:WD}{n9:Wv}{h4 dk:Zf}{h5:Zb}{h6:Bool}{dm:Option Bool}{h7:Option Wv}{h8 h9 ia ih il:Option Wx}{ir oa:WD}{ob:Wv}{iv dn:Zf}{i0:Zb}{i1:Bool}{dp:Option Bool}{i2:Option Wv}{ja jf jt jw j0:Option Wx}{j1 oc:WD}{od:Wv}{j2 dr:Zf}{kg:Zb}{kj:Bool}{ds:Option Bool}{kk:Option Wv}{kl km kn ko ks:Option Wx}{dx ku:WD}{kv:Wv}{dy b4:Zf}{dK:Zb}{dT:Bool}{b5:Option Bool}{dV:Option Wv}{dX d0 d1 d2 d3:Option Wx}{q:Wx}{a:Wx}{j:Wx}{m:Wx}{n:Wx}{g:Wx}{i:Wx}{r:Obj}{t:Array Wx}{a4:Nat}{Q:Obj}{U:Array Wx}{b6:Nat}{u:Obj}{x:Array Wx}{a5:Nat}{al:Obj}{an:Array Wx}{d4:Nat}(X:K.In h)(G:h.Ns bq mg)(oe:mg "law"=pe (.ref fa))
  (aC:br K bq "Machine"=pe (pe<|.ref C))
  (pg:Bq K C Str.empty=true)
  (hd:Fb K C=true)
  (po:PySem.W.plainOver K C=true)
  (sa:aF K (.ref C) "__setattr__"=pe (pe<|.builtin "object.__setattr__"))
  (mk:Bn K C=true)
  (kc:db K (.ref C)=true)
  (oi:aF K (.ref C) "own_asks"=pe none)
  (op:aF K (.ref C) "own_says"=pe none)
  (ot:aF K (.ref C) "own_rooms"=pe none)
  (ov:aF K (.ref C) "own_doors"=pe none)
  (ow:aF K (.ref C) "leaving"=pe none)
  (ox:aF K (.ref C) "quiet"=pe none)
  (oD:aF K (.ref C) "sign_goals"=pe none)
  (oE:aF K (.ref C) "still_led"=pe none)
  (aX:br K bq "NoMachine"=pe (pe<|.ref Cx))
  (aT:br K bq "TrialError"=pe (pe<|.ref Ct))
  (xo:K.lookup Cx=pe (cZ mX qX Cx NX m0 (.ref Ct::eg) true m1 ga m2 gd m3 m4 m5 m6 m7 m8 "ValueError.__new__"))
  (kw:aF K (.ref Cx) "__setattr__"=pe (pe<|.builtin "object.__setattr__"))
  (ky:aF K (.ref Cx) "__getattribute__"=pe (pe<|.builtin "BaseException.__getattribute__"))
  (kX:aF K (.ref Cx) "__getattr__"=pe none)
  (xp:aF K (.ref Cx) "part"=pe none)
  (xn:aF K (.ref Cx) "number"=pe none)
  (oF:PySem.W.subIn K (.ref Cx) (.type "BaseException")=pe true)
  (oI:PySem.W.isClsIn K Cx=true)
  (oL:PySem.W.typeIn K (.ref Cx)=pe (.type "type"))
  (oN:PySem.W.subIn K (.ref Cx) (.ref Cx)=pe true)
  (oT:PySem.W.readsIn K Ct (.type "type")=true)
  (oW:PySem.W.findCls K (.ref Ct) (.type "type") "__init__"=pe (.val<|.builtin "ValueError.__init__"))
  (o1:E_ K (.ref Ct) "__getattribute__"=pe (pe<|.builtin "type.__getattribute__"))
  (kx:db K (.ref Cx)=true)
  (o2:aF K (.ref Cx) "__class__"=pe (pe<|.builtin "object.__class__"))
  (o3:E_ K (.builtin "object.__class__") "__get__"=pe (pe<|.builtin "getset_descriptor.__get__"))
  (o4:PySem.W.takesIn K (.builtin "object.__class__")=pe true)
  (pa:K.lookup Ct=pe (cZ na qT Ct NT nb eg true nf ge ng gf nj nk nm nn no np "ValueError.__new__"))
  (k0:br K bq "NoTaker"=pe (pe<|.ref qd))
  (k1:K.lookup qd=pe (cZ gg ns qd nt gi (.ref Ct::eg) true gl cq gs cs gt gw gx gz gG gI "ValueError.__new__"))
  (d5:aF K (.ref qd) "__setattr__"=pe (pe<|.builtin "object.__setattr__"))
  (d6:aF K (.ref qd) "__getattribute__"=pe (pe<|.builtin "BaseException.__getattribute__"))
  (d7:aF K (.ref qd) "__getattr__"=pe none)
  (d8:aF K (.ref qd) "__class__"=pe (pe<|.builtin "object.__class__"))
  (k2:db K (.ref qd)=true)
  (ea:aF K (.ref qd) "room"=pe none)
  (eb:aF K (.ref qd) "ask"=pe none)
  (k3:br K bq "NoTrial"=pe (pe<|.ref qe))
  (k5:K.lookup qe=pe (cZ gO nv qe nw gT (.ref Ct::eg) true gY ct g1 cB g2 g3 g4 g5 g7 ha "ValueError.__new__"))
  (ec:aF K (.ref qe) "__setattr__"=pe (pe<|.builtin "object.__setattr__"))
  (ed:aF K (.ref qe) "__getattribute__"=pe (pe<|.builtin "BaseException.__getattribute__"))
  (ee:aF K (.ref qe) "__getattr__"=pe none)
  (ef:aF K (.ref qe) "__class__"=pe (pe<|.builtin "object.__class__"))
  (k6:db K (.ref qe)=true)
  (ek:aF K (.ref qe) "way"=pe none)
  (k8:br K bq "NoWord"=pe (pe<|.ref ro))
  (la:K.lookup ro=pe (cZ hb nx ro ny hc (.ref Ct::eg) true he cC hf c0 hg hh hi hj hk hl "ValueError.__new__"))
  (el:aF K (.ref ro) "__setattr__"=pe (pe<|.builtin "object.__setattr__"))
  (em:aF K (.ref ro) "__getattribute__"=pe (pe<|.builtin "BaseException.__getattribute__"))
  (en:aF K (.ref ro) "__getattr__"=pe none)
  (ep:aF K (.ref ro) "__class__"=pe (pe<|.builtin "object.__class__"))
  (le:db K (.ref ro)=true)
  (er:aF K (.ref ro) "number"=pe none)
  (lf:br K bq "NoText"=pe (pe<|.ref rz))
  (li:K.lookup rz=pe (cZ hm nz rz nA hn (.ref Ct::eg) true ho c1 hp c2 hq hr hs ht hu hv "ValueError.__new__"))
  (es:aF K (.ref rz) "__setattr__"=pe (pe<|.builtin "object.__setattr__"))
  (et:aF K (.ref rz) "__getattribute__"=pe (pe<|.builtin "BaseException.__getattribute__"))
  (eu:aF K (.ref rz) "__getattr__"=pe none)
  (ev:aF K (.ref rz) "__class__"=pe (pe<|.builtin "object.__class__"))
  (lj:db K (.ref rz)=true)
  (ew:aF K (.ref rz) "number"=pe none)
  (lq:br K bq "NoMatch"=pe (pe<|.ref qg))
  (ls:K.lookup qg=pe (cZ hw nT qg n0 hx (.ref Ct::eg) true hy c3 hz c4 hA hC hD hE hF hG "ValueError.__new__"))
  (ey:aF K (.ref qg) "__setattr__"=pe (pe<|.builtin "object.__setattr__"))
  (ez:aF K (.ref qg) "__getattribute__"=pe (pe<|.builtin "BaseException.__getattribute__"))
  (eC:aF K (.ref qg) "__getattr__"=pe none)
  (eH:aF K (.ref qg) "__class__"=pe (pe<|.builtin "object.__class__"))
  (lu:db K (.ref qg)=true)
  (lv:aF K (.ref qg) "__init__"=pe (pe<|.builtin "ValueError.__init__"))
  (lw:br K bq "NoJoin"=pe (pe<|.ref vr))
  (lx:K.lookup vr=pe (cZ hH n1 vr n2 hI (.ref Ct::eg) true hJ c5 hK dc hL hM hN hO hP hQ "ValueError.__new__"))
  (eT:aF K (.ref vr) "__setattr__"=pe (pe<|.builtin "object.__setattr__"))
  (eY:aF K (.ref vr) "__getattribute__"=pe (pe<|.builtin "BaseException.__getattribute__"))
  (e1:aF K (.ref vr) "__getattr__"=pe none)
  (e2:aF K (.ref vr) "__class__"=pe (pe<|.builtin "object.__class__"))
  (ly:db K (.ref vr)=true)
  (l0:aF K (.ref vr) "__init__"=pe (pe<|.builtin "ValueError.__init__"))
  (l1:br K bq "NoSign"=pe (pe<|.ref sA))
  (l2:K.lookup sA=pe (cZ hR n3 sA n4 hS (.ref Ct::eg) true hT dd hU di hW hX hY h0 h1 h2 "ValueError.__new__"))
  (e3:aF K (.ref sA) "__setattr__"=pe (pe<|.builtin "object.__setattr__"))
  (e4:aF K (.ref sA) "__getattribute__"=pe (pe<|.builtin "BaseException.__getattribute__"))
  (e5:aF K (.ref sA) "__getattr__"=pe none)
  (e6:aF K (.ref sA) "__class__"=pe (pe<|.builtin "object.__class__"))
  (l3:db K (.ref sA)=true)
  (l4:aF K (.ref sA) "__init__"=pe (pe<|.builtin "ValueError.__init__"))
  (l5:br K bq "NoDepth"=pe (pe<|.ref qy))
  (l7:K.lookup qy=pe (cZ h3 n7 qy n9 h4 (.ref Ct::eg) true h5 dk h6 dm h7 h8 h9 ia ih il "ValueError.__new__"))
  (e7:aF K (.ref qy) "__setattr__"=pe (pe<|.builtin "object.__setattr__"))
  (e8:aF K (.ref qy) "__getattribute__"=pe (pe<|.builtin "BaseException.__getattribute__"))
  (e9:aF K (.ref qy) "__getattr__"=pe none)
  (fe:aF K (.ref qy) "__class__"=pe (pe<|.builtin "object.__class__"))
  (l8:db K (.ref qy)=true)
  (mb:aF K (.ref qy) "__init__"=pe (pe<|.builtin "ValueError.__init__"))
  (mc:br K bq "NoNumber"=pe (pe<|.ref qx))
  (mm:K.lookup qx=pe (cZ ir oa qx ob iv (.ref Ct::eg) true i0 dn i1 dp i2 ja jf jt jw j0 "ValueError.__new__"))
  (fg:aF K (.ref qx) "__setattr__"=pe (pe<|.builtin "object.__setattr__"))
  (fi:aF K (.ref qx) "__getattribute__"=pe (pe<|.builtin "BaseException.__getattribute__"))
  (fk:aF K (.ref qx) "__getattr__"=pe none)
  (fl:aF K (.ref qx) "__class__"=pe (pe<|.builtin "object.__class__"))
  (mo:db K (.ref qx)=true)
  (mp:aF K (.ref qx) "__init__"=pe (pe<|.builtin "ValueError.__init__"))
  (ms:br K bq "NoRight"=pe (pe<|.ref ri))
  (mu:K.lookup ri=pe (cZ j1 oc ri od j2 (.ref Ct::eg) true kg dr kj ds kk kl km kn ko ks "ValueError.__new__"))
  (fm:aF K (.ref ri) "__setattr__"=pe (pe<|.builtin "object.__setattr__"))
  (fn:aF K (.ref ri) "__getattribute__"=pe (pe<|.builtin "BaseException.__getattribute__"))
  (fp:aF K (.ref ri) "__getattr__"=pe none)
  (fq:aF K (.ref ri) "__class__"=pe (pe<|.builtin "object.__class__"))
  (mv:db K (.ref ri)=true)
  (mA:aF K (.ref ri) "__init__"=pe (pe<|.builtin "ValueError.__init__"))
  (fr:br K bq "TooWide"=pe (pe<|.ref q0))
  (fv:K.lookup q0=pe (cZ dx ku q0 kv dy (.ref Ct::eg) true dK b4 dT b5 dV dX d0 d1 d2 d3 "ValueError.__new__"))
  (b7:aF K (.ref q0) "__setattr__"=pe (pe<|.builtin "object.__setattr__"))
  (b8:aF K (.ref q0) "__getattribute__"=pe (pe<|.builtin "BaseException.__getattribute__"))
  (b9:aF K (.ref q0) "__getattr__"=pe none)
  (cb:aF K (.ref q0) "__class__"=pe (pe<|.builtin "object.__class__"))
  (fw:db K (.ref q0)=true)
  (fz:aF K (.ref q0) "__init__"=pe (pe<|.builtin "ValueError.__init__"))
  (nd:[Ct,Cx,qd,qe,ro,rz,qg,vr,sA,qy,qx,ri,q0].Nodup)
  (E:br K bq "ValueError"=pe none)
  (fI:br K bq "all"=pe none)
  (fN:br K bq "any"=pe none)
  (cc:br K bq "bool"=pe none)
  (ce:br K bq "dict"=pe none)
  (Y:br K bq "enumerate"=pe none)
  (fT:br K bq "int"=pe none)
  (H:br K bq "isinstance"=pe none)
  (fY:br K bq "len"=pe none)
  (ch:br K bq "list"=pe none)
  (f0:br K bq "max"=pe none)
  (a6:br K bq "range"=pe none)
  (ab:br K bq "reversed"=pe none)
  (f1:br K bq "str"=pe none)
  (a7:br K bq "tuple"=pe none)
  (f2:br K bq "zip"=pe none)
  (as:br K bq "LETTERS"=pe (pe q))
  (a0:RelV (.str "abcdefghijklmnopqrstuvwxyz") q)
  (o:br K bq "LONGEST_NAME"=pe (pe a))
  (p:RelV (.int 8) a)
  (I:br K bq "MOST_WORDS"=pe (pe j))
  (J:RelV (.int 4) j)
  (L:br K bq "MOST_ROOMS"=pe (pe m))
  (M:RelV (.int 150) m)
  (N:br K bq "MOST_DOORS"=pe (pe n))
  (O:RelV (.int 2000) n)
  (y:br K bq "MOST_WITHIN"=pe (pe g))
  (A:RelV (.int 8) g)
  (B:br K bq "MOST_TRIALS"=pe (pe i))
  (D:RelV (.int 1000) i)
  (a8:br K bq "STILL"=pe (pe<|.ref C1))
  (a9:K.lookup C1=pe r)
  (bd:r.cls=.type "tuple")
  (bi:r.data=.seq t a4)
  (bl:t.size<=ai)
  (bm:bg (ao.map V.str) t.toList)
  (ci:br K bq "HUSH"=pe (pe<|.ref OD))
  (ck:K.lookup OD=pe Q)
  (cl:Q.cls=.type "tuple")
  (cm:Q.data=.seq U b6)
  (cn:U.size<=ai)
  (co:bg (cz.map V.str) U.toList)
  (bn:br K bq "BLAME"=pe (pe<|.ref OE))
  (bw:K.lookup OE=pe u)
  (b0:u.cls=.type "tuple")
  (b1:u.data=.seq x a5)
  (b2:x.size<=ai)
  (b3:bg (iu.map V.str) x.toList)
  (f3:br K bq "END"=pe (pe<|.ref Pw))
  (f4:K.lookup Pw=pe al)
  (f5:al.cls=.type "tuple")
  (f6:al.data=.seq an d4)
  (f7:an.size<=ai)
  (f9:bg (fJ.map V.str) an.toList)
  (T:Ts K C Cx qd qe ro rz qg vr sA qy qx ri q0)
 :∃fd:iL,(∀(s:Ww) (v:Wx),oP s fd ⟨[v],[]⟩ [("script",v)])/\∀base:WA,K.In base->base.Ns bq mg->ju l.prog w K mg base RT 9 fa fd ["script"] (Pl K):=by
 have z:Zs mg:=⟨fK X G E,fK X G fI,fK X G fN,fK X G cc,fK X G ce,fK X G Y,fK X G fT,fK X G H,fK X G fY,fK X G ch,fK X G f0,fK X G a6,fK X G ab,fK X G f1,fK X G a7,fK X G f2⟩;have c:Cs K mg C Cx Ct C1 OD OE Pw qd qe ro rz qg vr sA qy qx ri q0:=⟨⟨_,bX X G as,a0⟩,⟨_,bX X G o,p⟩,⟨_,bX X G I,J⟩,⟨_,bX X G L,M⟩,⟨_,bX X G N,O⟩,⟨_,bX X G y,A⟩,⟨_,bX X G B,D⟩,⟨_,bX X G a8,pw⟩,⟨_,bX X G ci,pw⟩,⟨_,bX X G bn,pw⟩,⟨_,bX X G f3,pw⟩,uq a9 bd bi bl bm,uq ck cl cm cn co,uq bw b0 b1 b2 b3,uq f4 f5 f6 f7 f9,⟨⟨pg,hd,po,sa⟩,oi,op,ot,ov,ow,ox,oD,oE⟩,bX X G aC,mk,kc,⟨⟨⟨_,_,_,_,_,_,_,_,_,_,_,_,_,_,_,xo,.own .base⟩,kw,ky,kX⟩,xp,xn,MX oF oI oL oN⟩,⟨oT,oW,o1⟩,bX X G aX,bX X G aT,kx,⟨⟨_,_,_,_,_,_,_,_,_,_,_,_,_,_,pa⟩⟩,⟨o3,o4⟩,⟨bX X G aX,⟨⟨_,_,_,_,_,_,_,_,_,_,_,_,_,_,xo⟩⟩,kw,ky,kX,kx,o2⟩,nd,⟨bX X G k0,⟨⟨_,_,_,_,_,_,_,_,_,_,_,_,_,_,k1⟩⟩,d5,d6,d7,k2,d8⟩,ea,eb,⟨bX X G k3,⟨⟨_,_,_,_,_,_,_,_,_,_,_,_,_,_,k5⟩⟩,ec,ed,ee,k6,ef⟩,ek,⟨bX X G k8,⟨⟨_,_,_,_,_,_,_,_,_,_,_,_,_,_,la⟩⟩,el,em,en,le,ep⟩,er,⟨bX X G lf,⟨⟨_,_,_,_,_,_,_,_,_,_,_,_,_,_,li⟩⟩,es,et,eu,lj,ev⟩,ew,⟨bX X G lq,⟨⟨_,_,_,_,_,_,_,_,_,_,_,_,_,_,ls⟩⟩,ey,ez,eC,lu,eH⟩,lv,⟨bX X G lw,⟨⟨_,_,_,_,_,_,_,_,_,_,_,_,_,_,lx⟩⟩,eT,eY,e1,ly,e2⟩,l0,⟨bX X G l1,⟨⟨_,_,_,_,_,_,_,_,_,_,_,_,_,_,l2⟩⟩,e3,e4,e5,l3,e6⟩,l4,⟨bX X G l5,⟨⟨_,_,_,_,_,_,_,_,_,_,_,_,_,_,l7⟩⟩,e7,e8,e9,l8,fe⟩,mb,⟨bX X G mc,⟨⟨_,_,_,_,_,_,_,_,_,_,_,_,_,_,mm⟩⟩,fg,fi,fk,mo,fl⟩,mp,⟨bX X G ms,⟨⟨_,_,_,_,_,_,_,_,_,_,_,_,_,_,mu⟩⟩,fm,fn,fp,mv,fq⟩,mA,⟨bX X G fr,⟨⟨_,_,_,_,_,_,_,_,_,_,_,_,_,_,fv⟩⟩,b7,b8,b9,fw,cb⟩,fz⟩;let⟨f,fd,e,b,k⟩:=MO (P:=l.prog) (w:=w) X G z c T;have e0:=oe.symm.trans e;cases e0;exact⟨fd,b,λbase _ _=>k base⟩
end
end UC
namespace PySem.W.Fast
def tw6158760385371501862:=0
def tw5353963060583026919:=0
def tw7100811516846266227:=0
def tw8161671838425057972:=0
def tw1850936294617882388:=0
def tw4733469164555615298:=0
def tw9375399556222899914:=0
def tw16176537058643164833:=0
def tw17127272226518044844:=0
def tw3882766971367361200:=0
def tw14923572446599496834:=0
def tw9737562916717989392:=0
def tw18330310193525841165:=0
def tw1277717392910039382:=0
def tw11179620269447993307:=0
def tw10914356942953065426:=0
def tw623603730845894118:=0
def tw16374664327471071614:=0
def tw14431336306091626443:=0
def tw12180073948744821960:=0
def tw7970596055746840495:=0
def tw5361346500586924464:=0
def tw11062039955530102505:=0
def tw10509610060555495849:=0
def tw16704157239799300998:=0
def tw2128123882868190067:=0
def tw2438882422742973093:=0
def tw18357864409532866675:=0
def tw9230796447240785406:=0
def tw5392722901420183006:=0
def tw16550287945351976049:=0
def tw11189702325708725763:=0
def tw11607228527164183944:=0
def tw12391570808785849812:=0
def tw17210131364680033661:=0
def tw15314678717376121810:=0
def tw15853805508996430215:=0
def tw3310291727489245879:=0
def tw15622012861332134162:=0
def tw10376874387497444712:=0
def tw17254085281984141371:=0
def tw1519645953830799130:=0
def tw4250274493305829219:=0
def tw14538405995899228218:=0
def tw7469752275713553432:=0
def tw5221727485831481952:=0
def tw18265447946949603591:=0
def tw6795533711882958438:=0
def tw9658462769121997143:=0
def tw13215915566073077118:=0
def tw12342475222543299468:=0
def tw8928324297657953966:=0
def tw10346329468365676051:=0
def tw9759100977035947871:=0
def tw17017473852850596793:=0
def tw14885232573683848310:=0
def tw17398415368985165944:=0
def tw7876857579673364930:=0
def tw282901779414512889:=0
def tw13973529815215175361:=0
def tw9984557948320792883:=0
def tw18021547910755915336:=0
def tw17528268176550878846:=0
def tw13291659730137586698:=0
def tw10123524616964354662:=0
def tw2197612266757415685:=0
def tw7939210653111645996:=0
def tw14651256513480562165:=0
def tw6457429865333970247:=0
def tw12109175989161042947:=0
def tw6890465352005481969:=0
def tw6230740280813179878:=0
def tw15683748667718122922:=0
def tw15602199397362198619:=0
def tw11221786248061141473:=0
def tw16523455267023845631:=0
def tw14458745372735037394:=0
def tw1166606706840451089:=0
def tw5261482665502304135:=0
def tw17789890762130789505:=0
def tw1684481357700590421:=0
def tw9471451437140128144:=0
def tw6735245154242710222:=0
def tw10608680767512011976:=0
def tw6830123051318706959:=0
def tw3834822627828157848:=0
def tw14655364441598155697:=0
def tw12868901299936290110:=0
def tw4076798451519255324:=0
def tw5482657917700653876:=0
def tw7118474653737669348:=0
def tw11905077518748989509:=0
def tw3358264923651574068:=0
def tw10098680978751769216:=0
def tw15028802287010195922:=0
def tw14819734504337660710:=0
def tw9122799571362864738:=0
def tw1180139724701224873:=0
def tw3911814893779915789:=0
def tw12782156606325092689:=0
def tw12171325758528841415:=0
def tw14389027549176089481:=0
def tw15039259411412633053:=0
def tw4467366071241758421:=0
def tw17583240012082801645:=0
def tw1037328194736146522:=0
def tw15389178732544697735:=0
def tw4370974090878152570:=0
def tw9099247440932916692:=0
def tw9315867956679291845:=0
def tw1126866365522361671:=0
def tw16003338010823320913:=0
def tw3340990934559650023:=0
def tw11274637119404747940:=0
def tw7798700540705288990:=0
def tw795353659949680215:=0
def tw6067160756619450108:=0
def tw9499597932160429729:=0
def tw13216326628193805522:=0
def tw17117644589664192397:=0
def tw11772078362289073980:=0
def tw16462250093421744411:=0
def tw13840404001829144193:=0
def tw17229747185059831460:=0
def tw9885352436654636993:=0
def tw10136893359353690629:=0
def tw17355120130261602268:=0
def tw16697655486438079747:=0
def tw13519981271068472148:=0
def tw4182832219824711250:=0
def tw17333746711595654232:=0
def tw309937705341161773:=0
def tw5882952200654064074:=0
def tw4071826599814427748:=0
def tw15344401221629649848:=0
def tw13532767750007184712:=0
def tw14942611159103575307:=0
def tw16966841180247574690:=0
def tw18257884745293148002:=0
def tw18389049028116515687:=0
def tw8070899886396674267:=0
def tw10873606715026959045:=0
def tw15443240823356200290:=0
def tw14051599222255866614:=0
def tw18157313358505657589:=0
def tw13293327466959150979:=0
def tw16293573671790283147:=0
def tw459518698283264282:=0
def tw1655404489136843216:=0
def tw8126492365202361695:=0
def tw14451945609157670646:=0
def tw7593229033144654478:=0
def tw11589070554908172193:=0
def tw8092147569283213081:=0
def tw10286427216925989454:=0
def tw17845643684125905159:=0
def tw3827203319286667879:=0
def tw4848993166871067894:=0
def tw10301950942818738693:=0
def tw6353402540366063107:=0
def tw3205949776494128684:=0
def tw17939530547417974378:=0
def tw4796772059131689551:=0
def tw15422478907612052576:=0
def tw16706118087376259020:=0
def tw11045951322463283216:=0
def tw4142495400163229718:=0
def tw17099527385380132444:=0
def tw12369683511619356396:=0
def tw1524077948134752939:=0
def tw15629915698439348476:=0
def tw9741436909790160027:=0
def tw7352937260476218642:=0
def tw9385946519611263306:=0
def tw10395453013851793900:=0
def tw9805733628485988626:=0
def tw16161901500753563004:=0
def tw1853495744666205542:=0
def tw13139365858530827090:=0
def tw2052290196669269813:=0
def tw7441243979314288294:=0
def tw12595202781920703268:=0
def tw2925188585175201858:=0
def tw8971730525631424209:=0
def tw7098144180902649911:=0
def tw2268846444840288246:=0
def tw10495382161292396571:=0
def tw12693320422528766398:=0
def tw5022569011850230099:=0
def tw6658638011400978891:=0
def tw7956996751786219839:=0
def tw6547731598783341416:=0
def tw6018687933571349310:=0
def tw2275299437934030491:=0
def tw14921424649520024826:=0
def tw14477847405265462551:=0
def tw6169613134568200570:=0
def tw528755141065041062:=0
def tw17975453417234332101:=0
def tw4559228649502855330:=0
def tw12541156895858339879:=0
def tw11299943866199067847:=0
def tw12614146151721700746:=0
def tw9018456463008794482:=0
def tw3804571052656412401:=0
def tw11736522270019439725:=0
def tw14642945934109923414:=0
def tw12775265381093279932:=0
def tw3068448487778427773:=0
def tw8612039245329428178:=0
def tw2300921360739511933:=0
def tw7117691888272495703:=0
def tw10987001190762031209:=0
def tw14136623805597482545:=0
def tw14921084372585819468:=0
def tw9641402814816914577:=0
def tw18221838355683696224:=0
def tw2197615795804975098:=0
def tw9229237590014320371:=0
def tw503010677615510389:=0
def tw11557738086649642132:=0
def tw2999943732321376243:=0
def tw14750109098060294482:=0
def tw8703195020704450560:=0
def tw15716894269684380944:=0
def tw10971948274018257077:=0
def tw12838136777664183476:=0
def tw1834558142840638240:=0
def tw10015846249934196057:=0
def tw15915447210705762489:=0
def tw3158672848784996145:=0
def tw3288800221669893329:=0
def tw1146042723763158282:=0
def tw13311206726763256716:=0
def tw6267507206279780528:=0
def tw15942174082269156598:=0
def tw13910890796407662950:=0
def tw4670368597609194276:=0
def tw11912304126337945494:=0
def tw6920200793507578719:=0
def tw2125465769882041427:=0
def tw17418236559490271477:=0
def tw6148235557645789129:=0
def tw4142933095376748051:=0
def tw7951969515633370060:=0
def tw4824921793164209361:=0
def tw17837866710382328149:=0
def tw11818063766886037714:=0
def tw11512188478313625229:=0
def tw15467656786750772628:=0
def tw8412543060786301738:=0
def tw6509715788968096020:=0
def tw2863363750909221068:=0
def tw3947209566224310171:=0
def tw18244045639336772877:=0
def tw17682885111444186436:=0
def tw3437958699661237914:=0
def tw3811139411534221364:=0
def tw12529197119964939927:=0
def tw17359886527025748599:=0
def tw7536731912250342780:=0
def tw3758794403540294070:=0
def tw17069622582302150925:=0
def tw2706527234826843834:=0
def tw12108398611307304442:=0
def tw4414231602625520978:=0
def tw11169228879346779396:=0
def tw410836021932706618:=0
def tw1130557473345689970:=0
def tw17030816456929224699:=0
def tw14350203160918449976:=0
def tw18189616157157155151:=0
def tw16546265252277305522:=0
def tw15244839134172786725:=0
def tw17428470506639251331:=0
def tw8750885374359041394:=0
def tw9019347844887660398:=0
def tw16338377993677590208:=0
def tw10658113268785043498:=0
def tw4837971929607210139:=0
def tw3221362641284708004:=0
def tw10502114758314290542:=0
def tw10741735070087706987:=0
def tw15133158658926815403:=0
def tw18188041636042992023:=0
def tw956848100075355505:=0
def tw7468368342586883632:=0
def tw8814439925141756705:=0
def tw5293263720908201347:=0
def tw7418584922000947618:=0
def tw7004345548632434543:=0
def tw9436912015634422666:=0
def tw5867792530623598393:=0
def tw2223978548264772613:=0
def tw6737400429357554679:=0
def tw9787008480187857014:=0
def tw6212177102434709594:=0
def tw16244436494438049259:=0
def tw7051683820587934569:=0
def tw15376020173759826890:=0
def tw4802137186880798108:=0
def tw5545584667851073317:=0
def tw17608765384469687707:=0
def tw14365067173791153792:=0
def tw16659732714205001047:=0
def tw11565268458291715708:=0
def tw6147564647924658455:=0
def tw5645148659452964576:=0
def tw9982447535481637825:=0
def tw4172216697712652496:=0
def tw17405015353044430182:=0
def tw5033306904026370013:=0
def tw14488111528975573935:=0
def tw12289085342122370660:=0
def tw15167032844232120882:=0
def tw2341112091743379831:=0
def tw2023324177449213725:=0
def tw12054779992958096714:=0
def tw1258548550589006758:=0
def tw4547838527459259132:=0
def tw8670355004931172201:=0
def tw2059085500689934589:=0
def tw16839365189452155648:=0
def tw5206963983638820816:=0
def tw6414397341574983787:=0
def tw934161355363671316:=0
def tw12842572813867066933:=0
def tw10606380610603592292:=0
def tw5067892560982567690:=0
def tw14541901299248424442:=0
def tw9936919437714219285:=0
def tw1094057381101785270:=0
def tw17670611398822078619:=0
def tw13075067913826740187:=0
def tw55812834640566542:=0
def tw17361888047411259174:=0
def tw12924874713716989602:=0
def tw16159204690371108594:=0
def tw15026378311592490952:=0
def tw17906646805327579376:=0
def tw10896051560760539916:=0
def tw7379206895371111874:=0
def tw14608556485645147727:=0
def tw9901313666630666222:=0
def tw1573616655901128361:=0
def tw13561184390186611952:=0
def tw10757718764989890509:=0
def tw16100289806225044589:=0
def tw9038108396689251189:=0
def tw203131772875073069:=0
def tw17936661784780077129:=0
def tw2592174281476348493:=0
def tw9004274105833270444:=0
def tw14309979100265561340:=0
def tw12538322146531485716:=0
def tw17530172096474764887:=0
def tw3516263711286534558:=0
def tw17872605569834319516:=0
def tw1697034888451810140:=0
def tw16267833915189400333:=0
def tw140848425940045696:=0
def tw16477924311605169292:=0
def tw12410987597244674526:=0
def tw9616225265195601023:=0
def tw8791072297931681729:=0
def tw14074466768728013992:=0
def tw13543886993920262169:=0
def tw15045187474414033484:=0
def tw17733242899665604628:=0
def tw17069894284565534454:=0
def tw18221702493226778647:=0
def tw6457646451893307512:=0
def tw93563593879117540:=0
def tw3422398866354616213:=0
def tw1692868288975837391:=0
def tw703579125455227229:=0
def tw5951474202941283440:=0
def tw5506543086622921030:=0
def tw2279066135445270930:=0
def tw13283547504459045884:=0
def tw12695807061942130380:=0
def tw4601632123066594127:=0
def tw2008019902843656787:=0
def tw5958272512524879449:=0
def tw12541756227585185009:=0
def tw2604362856320156044:=0
def tw1807425859678259475:=0
def tw11761429996824405202:=0
def tw12801086423795101656:=0
def tw5140380451854173434:=0
def tw13109179365202055859:=0
def tw9319097601315724328:=0
def tw10535786158706951440:=0
def tw1065387802517452366:=0
def tw11197092703521702623:=0
def tw3337877531900905705:=0
def tw15020667461330691911:=0
def tw13780733021298216883:=0
def tw14268403432986994005:=0
def tw11095903854311363096:=0
def tw3544927041156220650:=0
def tw7021147509882307107:=0
def tw13274904302914640671:=0
def tw2171837699467284071:=0
def tw16357674548815595532:=0
def tw14112488158483243240:=0
def tw12435381746704505660:=0
def tw16317368208688957159:=0
def tw7409595497986084637:=0
def tw17648358090880768310:=0
def tw2861260359820488533:=0
def tw957156597040294259:=0
def tw6742123935463677517:=0
def tw12700960014044280898:=0
def tw12098696627111091150:=0
def tw7071666201582644390:=0
def tw15750674331380717845:=0
def tw3529565070663313084:=0
def tw2664436945149618351:=0
def tw9411021252822638078:=0
def tw11990670684045332847:=0
def tw16745337277146484352:=0
def tw17385725961969713531:=0
def tw2304470943370163911:=0
def tw15535544929879467831:=0
def tw16356800496061881787:=0
def tw12363278683062796041:=0
def tw12921951871981957555:=0
def tw14869391084124737030:=0
def tw12882161793767463511:=0
def tw14486933687154890883:=0
def tw9491344284548187425:=0
def tw9336772701436325093:=0
def tw12794368134980510545:=0
def tw14758383015430866956:=0
def tw13710197067792553578:=0
def tw18134493439872795722:=0
def tw10310447223605866051:=0
def tw9305293102799693347:=0
def tw8513744303525963384:=0
def tw17542625951190217530:=0
def tw18132352031950292953:=0
def tw16360014504358514693:=0
def tw5245161072529489546:=0
def tw17754485476967671212:=0
def tw18006542006198047197:=0
def tw15733628442054132059:=0
def tw12211250483546466603:=0
def tw11305552201428722674:=0
def tw9712562994973394019:=0
def tw1472208594405178418:=0
def tw16688594948655513029:=0
def tw13055377204884858481:=0
def tw17252314678704709784:=0
def tw2918701173677705185:=0
def tw8647144734159762791:=0
def tw4579376127973387903:=0
def tw4299888221644136540:=0
def tw15845249867375052151:=0
def tw18077489588973950246:=0
def tw9993378871769087263:=0
def tw13484241581664502398:=0
def tw2741495556281494026:=0
def tw8525877730152164892:=0
def tw3794110099792015066:=0
def tw7627048411652795765:=0
def tw2602090087165684880:=0
def tw17479539906210125659:=0
def tw9807212493063262431:=0
def tw11992509774668558471:=0
def tw15866588439122626387:=0
def tw3512498094351451954:=0
def tw3821918884245851451:=0
def tw4873842022716540742:=0
def tw6265527849059030014:=0
def tw1447573029545581771:=0
def tw14762081397326772183:=0
def tw4744233766194256217:=0
def tw14246623913408300281:=0
def tw15779335822633162395:=0
def tw4680645914703284643:=0
def tw14685700106063462411:=0
def tw15492040556094083217:=0
def tw6451205412336249281:=0
def tw13940128072023531439:=0
def tw13650944904012421004:=0
def tw11195782458435582631:=0
def tw10228304830217813929:=0
def tw8721717117779416320:=0
def tw12639040505969901239:=0
def tw1678747966723179705:=0
def tw3971418926492090813:=0
def tw14901496769926431278:=0
def tw365039709886073226:=0
def tw15809945337000200843:=0
def tw3036865280411014071:=0
def tw11465478158060483738:=0
def tw4655802903834482677:=0
def tw6067583785346533106:=0
def tw10069045535691922180:=0
def tw14603555724847079380:=0
def tw1697725686611716351:=0
def tw8842389694241910701:=0
def tw3728284672740579906:=0
def tw12730057939151773781:=0
def tw4649390824543399174:=0
def tw12996055762347007974:=0
def tw10414979607735302724:=0
def tw2042933135690748002:=0
def tw14925341577977421074:=0
def tw9387648016321193473:=0
def tw18116668557474035807:=0
def tw2346688376379495875:=0
def tw9428547168000914151:=0
def tw4417140707608924242:=0
def tw16587962577600148685:=0
def tw1964789085195505545:=0
def tw8549746657788990039:=0
def tw1155543189324454221:=0
def tw15981044989151768846:=0
def tw5560613838455505793:=0
def tw7424374031682180911:=0
def tw7456768085448356944:=0
def tw2048736201668503555:=0
def tw12383419401749986415:=0
def tw6817433016304698897:=0
def tw3359403637658033881:=0
def tw3162648650873222201:=0
def tw8785857675320734880:=0
def tw4295128908214837207:=0
def tw10409612753926194574:=0
def tw4806091685656269542:=0
def tw11730464274175323047:=0
def tw16518612010990885559:=0
def tw4148165570667798901:=0
def tw11373639293393663201:=0
def tw9465435335301447972:=0
def tw547197138604076006:=0
def tw3819641246847872923:=0
def tw11221717029357823610:=0
def tw1216115254096062509:=0
def tw10495596328051256935:=0
def tw5708483431302159368:=0
def tw1865316860999695097:=0
def tw6764065094615088985:=0
def tw3701479106244499606:=0
def tw7142019613047479028:=0
def tw3589515130389466827:=0
def tw14156104320715509413:=0
def tw10192171386405045060:=0
def tw14101066772219976089:=0
def tw5273418882608270381:=0
def tw7373890911406502111:=0
def tw16270585197827498861:=0
def tw6048423758222162782:=0
def tw17622263601290161117:=0
def tw11079605097818926384:=0
def tw16693948021114261585:=0
def tw12762343714836851961:=0
def tw7841159496400302255:=0
def tw16161243791223617269:=0
def tw10497032388591947238:=0
def tw9497359113628920452:=0
def tw17213629547694661406:=0
def tw3111611013152027390:=0
def tw16048798529268819223:=0
def tw15123053443530092247:=0
def tw4236529297832184622:=0
def tw11394954401431743565:=0
def tw1512005719704169403:=0
def tw3133247106273896453:=0
def tw3788937073447599096:=0
def tw11378932396259181723:=0
def tw1665521000972655327:=0
def tw7827568248511894547:=0
def tw4424139192553560057:=0
def tw3373332874587247436:=0
def tw13853038472929044870:=0
def tw12588112874062068704:=0
def tw12281987106885436785:=0
def tw15603795492323230002:=0
def tw3880794047804970126:=0
def tw14586553607365282169:=0
def tw646427601406262835:=0
def tw16892114458974608137:=0
def tw4568075224638059224:=0
def tw515060545724414761:=0
def tw18079516342533571071:=0
def tw11364690299673288112:=0
def tw10330243729783540833:=0
def tw4489651956717173775:=0
def tw9082076250412433712:=0
def tw18244514909262797820:=0
def tw17376408497888839841:=0
def tw2529903115642960194:=0
def tw3992614558088459006:=0
def tw747222277557858160:=0
def tw8916303144161033646:=0
def tw15762332013998844712:=0
def tw12118501883658696380:=0
def tw10886311879823500922:=0
def tw6634705809237614483:=0
def tw7677377728237133666:=0
def tw6548636548203890950:=0
def tw10063970648759812037:=0
def tw10472874224303088836:=0
def tw17582723930707132514:=0
def tw233488041942975681:=0
def tw15676823695621886603:=0
def tw8386204106222619727:=0
def tw11287647023602455749:=0
def tw12538727553302623593:=0
def tw11576023287267250955:=0
def tw16156188587295154323:=0
def tw17934040846311910706:=0
def tw10511244272660136036:=0
def tw4539724460897690407:=0
def tw7663693787263033323:=0
def tw6933126159560173557:=0
def tw13465557511847216114:=0
def tw5042289939145018985:=0
def tw2547881348106122059:=0
def tw9167564467427598554:=0
def tw3372387104988599483:=0
def tw11147259268575121079:=0
def tw17871424789219054477:=0
def tw5476127187264887611:=0
def tw11193876293605627859:=0
def tw10473839626535026959:=0
end PySem.W.Fast
open PySem PySem.W PyProof.Rows
set_option maxRecDepth 100000 in
set_option maxHeartbeats 0 in
theorem PySem.Challenge.cw_mumtrial_k32_blames_refused_holds : PySem.Challenge.rw_mumtrial_k32_blames_refused.Holds := by
 w_on;o_law;k_head;(case hw=>w_witness2)
 k_fill
 refine L2.SW (l:=PySem.Challenge.rw_mumtrial_k32_blames_refused) (n:=63) (k:=9) (x:="script") (CX:=L2.RT) (sp:=UC.Pl) rfl (by decide) rfl ⟨rfl,by decide,by decide⟩ (fun w h Y=>PySem.W.kIn_of Y) ?F (fun _ _ a ns hl _ hS=>⟨a,ns,rfl,hS,hl,fun _=>rfl⟩) (fun _ _ _ _ z=>z)
 case F =>
  intro w mg fa h KX G Wf;refine' UC.all_mk KX G Wf ?aC ?pg ?hd ?po ?sa ?mk ?kc ?na1 ?na2 ?na3 ?na4 ?na5 ?na6 ?na7 ?na8 ?aX ?aT ?xo ?xsa ?xga ?xgx ?xp ?xn ?xs1 ?xs2 ?xs3 ?xs4 ?xrd ?xfi ?xgt ?kx ?xcl ?xgn ?xgk ?xoT ?aXY0 ?xoY0 ?xsaY0 ?xgaY0 ?xgxY0 ?xclY0 ?kxY0 ?xf0Y0 ?xf1Y0 ?aXY1 ?xoY1 ?xsaY1 ?xgaY1 ?xgxY1 ?xclY1 ?kxY1 ?xf0Y1 ?aXY2 ?xoY2 ?xsaY2 ?xgaY2 ?xgxY2 ?xclY2 ?kxY2 ?xf0Y2 ?aXY3 ?xoY3 ?xsaY3 ?xgaY3 ?xgxY3 ?xclY3 ?kxY3 ?xf0Y3 ?aXY4 ?xoY4 ?xsaY4 ?xgaY4 ?xgxY4 ?xclY4 ?kxY4 ?xiY4 ?aXY5 ?xoY5 ?xsaY5 ?xgaY5 ?xgxY5 ?xclY5 ?kxY5 ?xiY5 ?aXY6 ?xoY6 ?xsaY6 ?xgaY6 ?xgxY6 ?xclY6 ?kxY6 ?xiY6 ?aXY7 ?xoY7 ?xsaY7 ?xgaY7 ?xgxY7 ?xclY7 ?kxY7 ?xiY7 ?aXY8 ?xoY8 ?xsaY8 ?xgaY8 ?xgxY8 ?xclY8 ?kxY8 ?xiY8 ?aXY9 ?xoY9 ?xsaY9 ?xgaY9 ?xgxY9 ?xclY9 ?kxY9 ?xiY9 ?aXY10 ?xoY10 ?xsaY10 ?xgaY10 ?xgxY10 ?xclY10 ?kxY10 ?xiY10 ?nd ?z_ValueError ?z_all ?z_any ?z_bool ?z_dict ?z_enumerate ?z_int ?z_isinstance ?z_len ?z_list ?z_max ?z_range ?z_reversed ?z_str ?z_tuple ?z_zip ?g_LETTERS ?r_LETTERS ?g_LONGEST_NAME ?r_LONGEST_NAME ?g_MOST_WORDS ?r_MOST_WORDS ?g_MOST_ROOMS ?r_MOST_ROOMS ?g_MOST_DOORS ?r_MOST_DOORS ?g_MOST_WITHIN ?r_MOST_WITHIN ?g_MOST_TRIALS ?r_MOST_TRIALS ?g_STILL ?l_STILL ?c_STILL ?d_STILL ?s_STILL ?v_STILL ?g_HUSH ?l_HUSH ?c_HUSH ?d_HUSH ?s_HUSH ?v_HUSH ?g_BLAME ?l_BLAME ?c_BLAME ?d_BLAME ?s_BLAME ?v_BLAME ?g_END ?l_END ?c_END ?d_END ?s_END ?v_END ?T
  (case aC|pg|hd|po|sa|mk|kc|na1|na2|na3|na4|na5|na6|na7|na8|aX|aT|xo|xsa|xga|xgx|xp|xn|xs1|xs2|xs3|xs4|xrd|xfi|xgt|kx|xcl|xgn|xgk|xoT|aXY0|xoY0|xsaY0|xgaY0|xgxY0|xclY0|kxY0|xf0Y0|xf1Y0|aXY1|xoY1|xsaY1|xgaY1|xgxY1|xclY1|kxY1|xf0Y1|aXY2|xoY2|xsaY2|xgaY2|xgxY2|xclY2|kxY2|xf0Y2|aXY3|xoY3|xsaY3|xgaY3|xgxY3|xclY3|kxY3|xf0Y3|aXY4|xoY4|xsaY4|xgaY4|xgxY4|xclY4|kxY4|xiY4|aXY5|xoY5|xsaY5|xgaY5|xgxY5|xclY5|kxY5|xiY5|aXY6|xoY6|xsaY6|xgaY6|xgxY6|xclY6|kxY6|xiY6|aXY7|xoY7|xsaY7|xgaY7|xgxY7|xclY7|kxY7|xiY7|aXY8|xoY8|xsaY8|xgaY8|xgxY8|xclY8|kxY8|xiY8|aXY9|xoY9|xsaY9|xgaY9|xgxY9|xclY9|kxY9|xiY9|aXY10|xoY10|xsaY10|xgaY10|xgxY10|xclY10|kxY10|xiY10=>k_is)
  (case nd=>decide)
  (case z_ValueError|z_all|z_any|z_bool|z_dict|z_enumerate|z_int|z_isinstance|z_len|z_list|z_max|z_range|z_reversed|z_str|z_tuple|z_zip|g_LETTERS=>k_is)
  (case r_LETTERS=>exact⟨_,rfl⟩)
  (case g_LONGEST_NAME=>k_is)
  (case r_LONGEST_NAME=>exact⟨_,rfl⟩)
  (case g_MOST_WORDS=>k_is)
  (case r_MOST_WORDS=>exact⟨_,rfl⟩)
  (case g_MOST_ROOMS=>k_is)
  (case r_MOST_ROOMS=>exact⟨_,rfl⟩)
  (case g_MOST_DOORS=>k_is)
  (case r_MOST_DOORS=>exact⟨_,rfl⟩)
  (case g_MOST_WITHIN=>k_is)
  (case r_MOST_WITHIN=>exact⟨_,rfl⟩)
  (case g_MOST_TRIALS=>k_is)
  (case r_MOST_TRIALS=>exact⟨_,rfl⟩)
  (case g_STILL|l_STILL=>k_is)
  (case c_STILL|d_STILL=>rfl)
  (case s_STILL=>decide)
  (case v_STILL=>exact .cons ⟨_,rfl⟩ .nil)
  (case g_HUSH|l_HUSH=>k_is)
  (case c_HUSH|d_HUSH=>rfl)
  (case s_HUSH=>decide)
  (case v_HUSH=>exact .cons ⟨_,rfl⟩ .nil)
  (case g_BLAME|l_BLAME=>k_is)
  (case c_BLAME|d_BLAME=>rfl)
  (case s_BLAME=>decide)
  (case v_BLAME=>exact .cons ⟨_,rfl⟩ .nil)
  (case g_END|l_END=>k_is)
  (case c_END|d_END=>rfl)
  (case s_END=>decide)
  (case v_END=>exact .cons ⟨_,rfl⟩ .nil)
  (case T=>constructor<;>first|(refine' UC.Ul ?a ?l ?c ?k;(case a=>k_is);(case l=>k_is);(case c=>k_is);(case k=>k_is))|(refine' UC.Uk ?a ?i ?l ?c ?k;(case a=>k_is);(case i=>k_is);(case l=>k_is);(case c=>k_is);(case k=>k_is)))
