import PyProof.Rows.All
import Wide.All
import OpenK.AllK
import Wide.FinOn
import Lean
import PyProof.EqAt
import PyProof.EqKinds
import PyProof.TupleCall
import PyProof.NeKinds
import PyProof.DictIter
import PyProof.DictWalks
import PyProof.RaisesMany
import PyProof.RulesAs
import PyProof.NsDelKeeps
import PyProof.InstStoreFacts
import PyProof.ExcClass3
import PyProof.ExcInit
import KE.KTryMore
import PyProof.AutoSeq1
import PyProof.WalkInts
import PyProof.DictItems
import PyProof.DictItemsLoops
import KE.KPairComp
import PyProof.DictValues
import PyProof.SumAny
import PySem.Challenge.RW_mumtrial_k15_stories_counted
section
set_option Elab.async false
set_option linter.all false
set_option maxRecDepth 100000
namespace L2
open PySem PySem.Spec PyProof.Rows
abbrev Key:=Sum Int Str
def bj:Key->Value->Bool
 | .inl k,v=>Value.isInt k v
 | .inr x,v=>Value.isStrOf x v
def xf (w:World):Key->Int
 | .inl k=>hashInt k
 | .inr x=>hashStr w x
theorem aj:∀{k:Key}{v:Value},bj k v=true->(∃i t,k=Sum.inl i/\v=Value.int i t)∨(∃x t,k=Sum.inr x/\v=Value.str x t)
 | .inl i,v,h=>by
  obtain ⟨t,e⟩:=Value.isInt_shape (k:=i) (v:=v) h
  exact .inl ⟨i,t,rfl,e⟩
 | .inr x,v,h=>by
  obtain ⟨t,e⟩:=Value.isStrOf_shape (x:=x) (v:=v) h
  exact .inr ⟨x,t,rfl,e⟩
theorem rA (i:Int) (t:Tok):bj (.inl i) (.int i t)=true:=by simp [bj,Value.isInt]
theorem rq (x:Str) (t:Tok):bj (.inr x) (.str x t)=true:=by simp [bj,Value.isStrOf]
theorem ow (a b:Int):decide ((Sum.inl a:Key)=Sum.inl b)=(a == b):=by
 by_cases e:a=b
 ·subst e; simp
 ·have h:¬(Sum.inl a:Key)=Sum.inl b:=fun q=>e (Sum.inl.inj q)
  rw [decide_eq_false h]
  exact (beq_eq_false_iff_ne.mpr e).symm
theorem om (a b:Str):decide ((Sum.inr a:Key)=Sum.inr b)=decide (a=b):=by
 by_cases e:a=b
 ·subst e; simp
 ·have h:¬(Sum.inr a:Key)=Sum.inr b:=fun q=>e (Sum.inr.inj q)
  rw [decide_eq_false h,decide_eq_false e]
theorem oq (a:Int) (b:Str):decide ((Sum.inl a:Key)=Sum.inr b)=false:=decide_eq_false (fun q=>nomatch q)
theorem oo (a:Str) (b:Int):decide ((Sum.inr a:Key)=Sum.inl b)=false:=decide_eq_false (fun q=>nomatch q)
def aD (prog:Program) (w:World):PySem.KeyKind prog w Key where
 is:=bj
 hash:=xf w
 inj:=fun v a b ha hb=>by
  rcases aj ha with ⟨i,t,rfl,rfl⟩ | ⟨x,t,rfl,rfl⟩
  ·rcases aj hb with ⟨j,u,rfl,e⟩ | ⟨y,u,rfl,e⟩
   ·injection e with e1 _; rw [e1]
   ·exact nomatch e
  ·rcases aj hb with ⟨j,u,rfl,e⟩ | ⟨y,u,rfl,e⟩
   ·exact nomatch e
   ·injection e with e1 _; rw [e1]
 byValue:=fun k v h=>by
  rcases aj h with ⟨i,t,rfl,rfl⟩ | ⟨x,t,rfl,rfl⟩ <;> rfl
 pyHash:=fun hv h=>by
  rcases aj hv with ⟨i,t,rfl,rfl⟩ | ⟨x,t,rfl,rfl⟩
  ·exact wpAny_pyHash_int h
  ·exact wpAny_pyHash_str h
 eqBool:=fun hu hv h=>by
  rcases aj hu with ⟨i,t,rfl,rfl⟩ | ⟨x,t,rfl,rfl⟩
  ·rcases aj hv with ⟨j,u,rfl,rfl⟩ | ⟨y,u,rfl,rfl⟩
   ·rw [ow] at h; exact wpAny_eqBool_int h
   ·rw [oq] at h; exact SeqAt.EqAt.int_str i t y u _ _ _ _ h
  ·rcases aj hv with ⟨j,u,rfl,rfl⟩ | ⟨y,u,rfl,rfl⟩
   ·rw [oo] at h; exact SeqAt.EqAt.str_int x t j u _ _ _ _ h
   ·rw [om] at h; exact wpAny_eqBool_str h
 «strs»:=fun k x t v h=>by
  rcases aj h with ⟨i,u,rfl,e⟩ | ⟨y,u,rfl,e⟩
  ·exact nomatch e
  ·injection e with e1 _
   subst e1
   cases v <;> rfl
theorem nh (prog:Program) (w:World) (i:Int) (t:Tok):(aD prog w).is (.inl i) (.int i t)=true:=rA i t
theorem ng (prog:Program) (w:World) (x:Str) (t:Tok):(aD prog w).is (.inr x) (.str x t)=true:=rq x t
end L2
namespace L2
open PySem PySem.Spec PyProof.Rows
open Sem (wp)
inductive TK where
 | k (a:Key)
 | t (l:List TK)
mutual
def wv:(x y:TK)->Decidable (x=y)
 | .k a,.k b=>if h:a=b then Decidable.isTrue (by rw [h]) else Decidable.isFalse fun e=>h (by injection e)
 | .t l,.t m=>match decTKs l m with
  | Decidable.isTrue h=>Decidable.isTrue (by rw [h])
  | Decidable.isFalse h=>Decidable.isFalse fun e=>h (by injection e)
 | .k _,.t _=>Decidable.isFalse nofun
 | .t _,.k _=>Decidable.isFalse nofun
def decTKs:(x y:List TK)->Decidable (x=y)
 | [],[]=>Decidable.isTrue rfl
 | [],_::_=>Decidable.isFalse nofun
 | _::_,[]=>Decidable.isFalse nofun
 | a::l,b::m=>match wv a b with
  | Decidable.isTrue h=>match decTKs l m with
   | Decidable.isTrue h'=>Decidable.isTrue (by rw [h,h'])
   | Decidable.isFalse h'=>Decidable.isFalse fun e=>h' (by injection e)
  | Decidable.isFalse h=>Decidable.isFalse fun e=>h (by injection e)
end
instance:DecidableEq TK:=wv
mutual
def TK.depth:TK->Nat
 | .k _=>0
 | .t l=>TK.depths l+1
def TK.depths:List TK->Nat
 | []=>0
 | a::r=>max (TK.depth a) (TK.depths r)
end
mutual
def TK.hash (w:World):TK->Int
 | .k a=>xf w a
 | .t l=>reduceHash (Builtin.Tuple.tupleHashOf (TK.hashs w l))
def TK.hashs (w:World):List TK->List Int
 | []=>[]
 | a::r=>TK.hash w a::TK.hashs w r
end
mutual
def TK.draws:TK->Nat
 | .k _=>1
 | .t l=>TK.drawss l+1
def TK.drawss:List TK->Nat
 | []=>0
 | a::r=>TK.draws a+TK.drawss r
end
mutual
def TAt (h:Heap):TK->Value->Prop
 | .k a,v=>bj a v=true
 | .t l,v=>∃a o items n,v=.ref a/\h.get? a=some o/\o.cls=.type "tuple"/\o.data=.seq items n/\TAts h l items.toList
def TAts (h:Heap):List TK->List Value->Prop
 | [],vs=>vs=[]
 | k::r,vs=>∃v us,vs=v::us/\TAt h k v/\TAts h r us
end
theorem TAt.inj {h:Heap}:∀(d:Nat) {x y:TK}{v:Value},x.depth<=d->TAt h x v->TAt h y v->x=y:=by
 have key:∀(d:Nat) (ih:∀{x y:TK}{v:Value},x.depth<=d->TAt h x v->TAt h y v->x=y) (xs ys:List TK) (vs:List Value),TK.depths xs<=d->TAts h xs vs->TAts h ys vs->xs=ys:=by
  intro d ih xs
  induction xs with
  | nil =>
   intro ys vs _ hx hy
   have hx':vs=[]:=hx
   subst hx'
   cases ys with
   | nil=>rfl
   | cons y ys=>obtain ⟨_,_,e,_⟩:=hy; cases e
  | cons x xs ihl =>
   intro ys vs hd hx hy
   obtain ⟨v,us,rfl,hx1,hx2⟩:=hx
   cases ys with
   | nil=>have hy':v::us=[]:=hy; cases hy'
   | cons y ys =>
    obtain ⟨v',us',e,hy1,hy2⟩:=hy
    cases e
    have hd':max x.depth (TK.depths xs)<=d:=hd
    rw [ih (by omega) hx1 hy1,ihl ys us (by omega) hx2 hy2]
 have leaf:∀(a:Key) (l:List TK) (v:Value),TAt h (.k a) v->TAt h (.t l) v->False:=by
  intro a l v h1 h2
  obtain ⟨b,o,items,n,rfl,_⟩:=h2
  rcases aj (show bj a (.ref b)=true from h1) with ⟨_,_,_,e⟩ | ⟨_,_,_,e⟩ <;> cases e
 have kk:∀(a b:Key) (v:Value),bj a v=true->bj b v=true->a=b:=by
  intro a b v h1 h2
  rcases aj h1 with ⟨i,t,rfl,rfl⟩ | ⟨i,t,rfl,rfl⟩
  ·rcases aj h2 with ⟨j,u,rfl,e⟩ | ⟨j,u,rfl,e⟩
   ·cases e; rfl
   ·cases e
  ·rcases aj h2 with ⟨j,u,rfl,e⟩ | ⟨j,u,rfl,e⟩
   ·cases e
   ·cases e; rfl
 intro d
 induction d with
 | zero =>
  intro x y v hd hx hy
  cases x with
  | t l=>exact absurd hd (by show ¬(TK.depths l+1<=0); omega)
  | k a =>
   cases y with
   | k b=>rw [kk a b v hx hy]
   | t l=>exact (leaf a l v hx hy).elim
 | succ d ih =>
  intro x y v hd hx hy
  cases x with
  | k a =>
   cases y with
   | k b=>rw [kk a b v hx hy]
   | t l=>exact (leaf a l v hx hy).elim
  | t l =>
   cases y with
   | k b=>exact (leaf b l v hy hx).elim
   | t l' =>
    obtain ⟨a,o,items,n,rfl,ho,hc,hdt,hi⟩:=hx
    obtain ⟨a',o',items',n',e,ho',hc',hdt',hi'⟩:=hy
    cases e
    rw [ho] at ho'; cases ho'
    rw [hdt] at hdt'
    injection hdt' with e1 _
    subst e1
    rw [key d (fun h1=>ih h1) l l' items.toList (by have:TK.depths l+1<=d+1:=hd; omega) hi hi']
theorem TAt.mono {h h':Heap}(k:∀a o items n,h.get? a=some o->o.cls=.type "tuple"->o.data=.seq items n->h'.get? a=some o):∀(d:Nat) {x:TK}{v:Value},x.depth<=d->TAt h x v->TAt h' x v:=by
 have key:∀(d:Nat) (ih:∀{x:TK}{v:Value},x.depth<=d->TAt h x v->TAt h' x v) (xs:List TK) (vs:List Value),TK.depths xs<=d->TAts h xs vs->TAts h' xs vs:=by
  intro d ih xs
  induction xs with
  | nil=>intro vs _ hx; exact hx
  | cons x xs ihl =>
   intro vs hd hx
   obtain ⟨v,us,rfl,hx1,hx2⟩:=hx
   have hd':max x.depth (TK.depths xs)<=d:=hd
   exact ⟨v,us,rfl,ih (by omega) hx1,ihl us (by omega) hx2⟩
 intro d
 induction d with
 | zero =>
  intro x v hd hx
  cases x with
  | t l=>exact absurd hd (by show ¬(TK.depths l+1<=0); omega)
  | k a=>exact hx
 | succ d ih =>
  intro x v hd hx
  cases x with
  | k a=>exact hx
  | t l =>
   obtain ⟨a,o,items,n,rfl,ho,hc,hdt,hi⟩:=hx
   exact ⟨a,o,items,n,rfl,k a o items n ho hc hdt,hc,hdt,key d (fun h1=>ih h1) l _ (by have:TK.depths l+1<=d+1:=hd; omega) hi⟩
section
variable {prog:Program}{w:World}
theorem uK:∀(d:Nat) {A:Around}{E:Value->Shared->Prop}{s:Shared}{k:TK}{v:Value}{Q:Int->Shared->Prop},k.depth<=d->A.units+d<cLine->TAt s.heap k v->Q (k.hash w) { s with toks:=s.toks+k.draws } ->
  wpAny (model prog w) A (pyHash v) Q E s:=by
 intro d
 induction d with
 | zero =>
  intro A E s k v Q hd hu hk h
  cases k with
  | t l=>exact absurd hd (by show ¬(TK.depths l+1<=0); omega)
  | k a=>exact (aD prog w).pyHash (k:=a) hk h
 | succ d ih =>
  intro A E s k v Q hd hu hk h
  cases k with
  | k a=>exact (aD prog w).pyHash (k:=a) hk h
  | t l =>
   obtain ⟨a,o,items,n,rfl,ho,hc,hdt,hi⟩:=hk
   have hT:s.TypeIs (.ref a) "tuple":=⟨o,ho,hc⟩
   have hdl:TK.depths l<=d:=by have:TK.depths l+1<=d+1:=hd; omega
   unfold pyHash
   first | unfold pyHashByItsType | skip
   first | refine wpAny_bind (wpAny_cRoomFor_or (.inr (by omega)) ?_) | skip
   refine wpAny_bind (wpAny_specialOf hT F.slot_tuple_hash.lookup ?_)
   show wpAny _ _ (if (some (Value.builtin "tuple.__hash__") == some Value.none)=true then _ else _) Q E s
   rw [if_neg (by rw [beq_builtin_none]; exact Bool.false_ne_true)]
   refine wpAny_bind (wpAny_specialOf hT F.slot_tuple_hash.lookup ?_)
   show wpAny _ _ (callSpecialIfBoundUnlessNone? (.ref a) "__hash__" _ >>= _) Q E s
   refine wpAny_bind (wpAny_callSpecialIfBoundUnlessNone?_slot hT F.slot_tuple_hash (wpAny_call_entry F.slot_tuple_hash hT F.entry_tuple_hash ?_ (F.args_tuple_hash_1 _)))
   show wpAny _ _ (Builtin.Tuple.tupleItemsOf (.ref a) >>= _) _ _ s
   refine wpAny_bind (wpAny_tupleItemsOf ho hdt ?_)
   refine wpAny_bind ?_
   rw [<-Array.forIn_toList]
   refine wpAny_forIn_list _
    (fun rest (b:Array Int) s'=>∃done left,l=done++left/\TAts s.heap left rest/\b.toList=TK.hashs w done/\s'={ s with toks:=s.toks+TK.drawss done })
    _ ?_ ?_ _ _ ⟨[],l,rfl,hi,rfl,rfl⟩
   ·rintro x rest b s' ⟨done,left,e,hl,hb,rfl⟩
    cases left with
    | nil=>have hl':x::rest=[]:=hl; cases hl'
    | cons k' left =>
     obtain ⟨x',rest',e',h1,h2⟩:=hl
     cases e'
     have hdk:k'.depth<=d:=by
      have gen:∀(p:List TK),TK.depths (p++k'::left)<=d->k'.depth<=d:=by
       intro p
       induction p with
       | nil=>intro hp; have hp':max k'.depth (TK.depths left)<=d:=hp; omega
       | cons q p ihp=>intro hp; have hp':max q.depth (TK.depths (p++k'::left))<=d:=hp; exact ihp (by omega)
      exact gen done (by rw [<-e]; exact hdl)
     have hs:TK.hashs w (done++[k'])=TK.hashs w done++[k'.hash w]:=by
      clear e hb
      induction done with
      | nil=>rfl
      | cons q p ihp=>show _::TK.hashs w (p++[k'])=_; rw [ihp]; rfl
     have hdr:TK.drawss (done++[k'])=TK.drawss done+k'.draws:=by
      clear e hb hs
      induction done with
      | nil=>show k'.draws+0=0+k'.draws; omega
      | cons q p ihp=>show q.draws+TK.drawss (p++[k'])=q.draws+TK.drawss p+k'.draws; rw [ihp]; omega
     refine wpAny_bind (ih (k:=k') hdk (by show A.units+1+d<cLine; omega) h1 ?_)
     first
      | exact wpAny_pure ⟨done++[k'],left,by rw [e]; simp,h2,by rw [hs]; simp [hb],by rw [hdr]; simp [Nat.add_assoc]⟩
      | exact wpAny_bind (wpAny_pure (wpAny_pure ⟨done++[k'],left,by rw [e]; simp,h2,by rw [hs]; simp [hb],by rw [hdr]; simp [Nat.add_assoc]⟩))
   ·rintro b s' ⟨done,left,e,hl,hb,rfl⟩
    cases left with
    | cons k' left=>obtain ⟨_,_,e',_⟩:=hl; cases e'
    | nil =>
     rw [List.append_nil] at e
     subst e
     show wpAny _ _ (retInt (Builtin.Tuple.tupleHashOf b.toList)) _ _ _
     rw [hb]
     refine wpAny_ret_mkInt ?_
     have h':Q (reduceHash (Builtin.Tuple.tupleHashOf (TK.hashs w l))) { s with toks:=s.toks+(TK.drawss l+1) }:=h
     show wpAny _ _ (if (decide (-(2:Int) ^ 63<=Builtin.Tuple.tupleHashOf (TK.hashs w l)) && decide (Builtin.Tuple.tupleHashOf (TK.hashs w l)<2 ^ 63))=true then _ else _) Q E _
     unfold reduceHash at h'
     by_cases hr:(decide (-(2:Int) ^ 63<=Builtin.Tuple.tupleHashOf (TK.hashs w l)) && decide (Builtin.Tuple.tupleHashOf (TK.hashs w l)<2 ^ 63))=true
     ·rw [if_pos hr]
      rw [if_pos hr] at h'
      exact wpAny_pure (by simpa [Nat.add_assoc] using h')
     ·rw [if_neg hr]
      rw [if_neg hr] at h'
      exact wpAny_bind (wpAny_rule (wpAny_pure (by simpa [Nat.add_assoc] using h')))
theorem qk (d:Nat) (ih:∀{A:Around}{E:Value->Shared->Prop}{s:Shared}{x y:TK}{u v:Value}{Q:Bool->Shared->Prop},x.depth<=d->y.depth<=d->A.units+d<cLine->TAt s.heap x u->TAt s.heap y v->Q (decide (x=y)) s->wpAny (model prog w) A (eqBool u v) Q E s)
  {A:Around}{E:Value->Shared->Prop}{s:Shared}{x y:List TK}{a b:Addr}{P:Fin->Shared->Prop}{oa ob:Obj}{xs ys:Array Value}{na nb:Nat}(hx:TK.depths x<=d) (hy:TK.depths y<=d) (hu:A.units+d<cLine)
  (hoa:s.heap.get? a=some oa) (hda:oa.data=.seq xs na) (hia:TAts s.heap x xs.toList) (hob:s.heap.get? b=some ob) (hcb:ob.cls=.type "tuple") (hdb:ob.data=.seq ys nb) (hib:TAts s.heap y ys.toList)
  (h:P (.done (.ret (.bool (decide (x=y))))) s):wpAny (model prog w) A (Builtin.«tuple.__eq__» ⟨[.ref a,.ref b],[]⟩) P E s:=by
 have hTb:s.TypeIs (.ref b) "tuple":=⟨ob,hob,hcb⟩
 show wpAny _ _ (isInstance (.ref b) (.type "tuple") >>= _) _ _ s
 refine wpAny_bind (wpAny_isInstance hTb isSubtype_tuple_tuple ?_)
 simp only [Bool.not_true,Bool.false_eq_true,if_false]
 refine wpAny_bind (wpAny_tupleItemsOf hoa hda ?_)
 refine wpAny_bind (wpAny_tupleItemsOf hob hdb ?_)
 refine wpAny_bind ?_
 refine wpAny_forIn_list _
  (fun rest r s'=>r.1=none/\s'=s/\∃x' y' xs' ys',rest=List.zip xs' ys'/\TAts s.heap x' xs'/\TAts s.heap y' ys'/\TK.depths x'<=d/\TK.depths y'<=d/\decide (x'=y')=decide (x=y)/\(xs'.length == ys'.length)=(xs.size == ys.size))
  _ ?_ ?_ _ _ ⟨rfl,rfl,x,y,xs.toList,ys.toList,rfl,hia,hib,hx,hy,rfl,by simp⟩
 ·rintro ⟨u,v⟩ rest r s' ⟨hr,rfl,x',y',xs',ys',hz,hx',hy',dx,dy,hdec,hlen⟩
  cases x' with
  | nil =>
   have e:xs'=[]:=hx'
   subst e; simp at hz
  | cons k1 x'' =>
   obtain ⟨u',xs'',rfl,h1,hx''⟩:=hx'
   cases y' with
   | nil =>
    have e:ys'=[]:=hy'
    subst e; simp at hz
   | cons k2 y'' =>
    obtain ⟨v',ys'',rfl,h2,hy''⟩:=hy'
    simp only [List.zip_cons_cons,List.cons.injEq,Prod.mk.injEq] at hz
    obtain ⟨⟨rfl,rfl⟩,rfl⟩:=hz
    have dx':max k1.depth (TK.depths x'')<=d:=dx
    have dy':max k2.depth (TK.depths y'')<=d:=dy
    refine wpAny_bind (ih (x:=k1) (y:=k2) (by omega) (by omega) hu h1 h2 ?_)
    by_cases hk:k1=k2
    ·subst hk
     rw [decide_eq_true rfl]
     simp only [Bool.not_true,Bool.false_eq_true,if_false]
     refine wpAny_pure ⟨rfl,rfl,x'',y'',xs'',ys'',rfl,hx'',hy'',by omega,by omega,?_,by simpa using hlen⟩
     rw [<-hdec]
     by_cases hxy:x''=y''
     ·simp [hxy]
     ·simp [hxy]
    ·rw [decide_eq_false hk]
     simp only [Bool.not_false,if_true]
     have hf:decide (x=y)=false:=by rw [<-hdec]; simp [hk]
     rw [hf] at h
     exact wpAny_bind (wpAny_pure (wpAny_pure (wpAny_pure h)))
 ·rintro ⟨r1,r2⟩ s' ⟨hr,rfl,x',y',xs',ys',hz,hx',hy',dx,dy,hdec,hlen⟩
  simp only at hr
  subst hr
  refine wpAny_pure ?_
  have hfin:(xs.size == ys.size)=decide (x=y):=by
   rw [<-hdec,<-hlen]
   cases x' with
   | nil =>
    have e:xs'=[]:=hx'
    subst e
    cases y' with
    | nil=>have e:ys'=[]:=hy'; subst e; simp
    | cons _ _=>obtain ⟨_,_,rfl,_⟩:=hy'; simp
   | cons _ _ =>
    obtain ⟨_,_,rfl,_⟩:=hx'
    cases y' with
    | nil=>have e:ys'=[]:=hy'; subst e; simp
    | cons _ _=>obtain ⟨_,_,rfl,_⟩:=hy'; simp at hz
  show P (.done (.ret (.bool (xs.size == ys.size)))) s'
  rw [hfin]; exact h
theorem wI:∀(d:Nat) {A:Around}{E:Value->Shared->Prop}{s:Shared}{x y:TK}{u v:Value}{Q:Bool->Shared->Prop},x.depth<=d->y.depth<=d->A.units+d<cLine->TAt s.heap x u->TAt s.heap y v->Q (decide (x=y)) s ->
  wpAny (model prog w) A (eqBool u v) Q E s:=by
 have mixed1:∀{A:Around}{E:Value->Shared->Prop}{s:Shared}{a:Key}{l:List TK}{u v:Value}{Q:Bool->Shared->Prop},A.units<cLine->TAt s.heap (.k a) u->TAt s.heap (.t l) v->Q false s->wpAny (model prog w) A (eqBool u v) Q E s:=by
  intro A E s a l u v Q hu hx hy h
  obtain ⟨b,o,items,n,rfl,ho,hc,hdt,hi⟩:=hy
  have ht:s.heap.IsTuple b items:=⟨o,ho,hc,n,hdt⟩
  rcases aj (show bj a u=true from hx) with ⟨i,t,rfl,rfl⟩ | ⟨i,t,rfl,rfl⟩
  ·exact SeqAt.EqAt.int_tuple i t ht hu prog w E Q h
  ·exact SeqAt.EqAt.str_tuple i t ht hu prog w E Q h
 have mixed2:∀{A:Around}{E:Value->Shared->Prop}{s:Shared}{a:Key}{l:List TK}{u v:Value}{Q:Bool->Shared->Prop},A.units<cLine->TAt s.heap (.t l) u->TAt s.heap (.k a) v->Q false s->wpAny (model prog w) A (eqBool u v) Q E s:=by
  intro A E s a l u v Q hu hx hy h
  obtain ⟨b,o,items,n,rfl,ho,hc,hdt,hi⟩:=hx
  have ht:s.heap.IsTuple b items:=⟨o,ho,hc,n,hdt⟩
  rcases aj (show bj a v=true from hy) with ⟨i,t,rfl,rfl⟩ | ⟨i,t,rfl,rfl⟩
  ·exact SeqAt.EqAt.tuple_int i t ht hu prog w E Q h
  ·exact SeqAt.EqAt.tuple_str i t ht hu prog w E Q h
 have leaves:∀{A:Around}{E:Value->Shared->Prop}{s:Shared}{a b:Key}{u v:Value}{Q:Bool->Shared->Prop},TAt s.heap (.k a) u->TAt s.heap (.k b) v->Q (decide (TK.k a=TK.k b)) s->wpAny (model prog w) A (eqBool u v) Q E s:=by
  intro A E s a b u v Q hx hy h
  refine (aD prog w).eqBool (a:=a) (b:=b) hx hy ?_
  by_cases e:a=b
  ·subst e; simpa using h
  ·have:¬(TK.k a=TK.k b):=fun z=>e (by injection z)
   rw [decide_eq_false this] at h
   rw [decide_eq_false e]; exact h
 intro d
 induction d with
 | zero =>
  intro A E s x y u v Q hdx hdy hu hx hy h
  cases x with
  | t l=>exact absurd hdx (by show ¬(TK.depths l+1<=0); omega)
  | k a =>
   cases y with
   | t l=>exact absurd hdy (by show ¬(TK.depths l+1<=0); omega)
   | k b=>exact leaves hx hy h
 | succ d ih =>
  intro A E s x y u v Q hdx hdy hu hx hy h
  cases x with
  | k a =>
   cases y with
   | k b=>exact leaves hx hy h
   | t l =>
    rw [decide_eq_false (by intro z; cases z)] at h
    exact mixed1 (by omega) hx hy h
  | t l =>
   cases y with
   | k b =>
    rw [decide_eq_false (by intro z; cases z)] at h
    exact mixed2 (by omega) hx hy h
   | t m =>
    have hl:TK.depths l<=d:=by have:TK.depths l+1<=d+1:=hdx; omega
    have hm:TK.depths m<=d:=by have:TK.depths m+1<=d+1:=hdy; omega
    have hx0:=hx
    have hy0:=hy
    obtain ⟨a,oa,xs,na,rfl,hoa,hca,hda,hia⟩:=hx
    obtain ⟨b,ob,ys,nb,rfl,hob,hcb,hdb,hib⟩:=hy
    have hTa:s.TypeIs (.ref a) "tuple":=⟨oa,hoa,hca⟩
    have hTb:s.TypeIs (.ref b) "tuple":=⟨ob,hob,hcb⟩
    have hd':decide (TK.t l=TK.t m)=decide (l=m):=by
     by_cases e:l=m
     ·subst e; simp
     ·have:¬(TK.t l=TK.t m):=fun z=>e (by injection z)
      rw [decide_eq_false this,decide_eq_false e]
    unfold eqBool
    try with_reducible refine wpAny_holding ?_
    show wpAny _ _ (if (Value.ref a == Value.ref b)=true then _ else _) Q E s
    by_cases hab:(Value.ref a == Value.ref b)=true
    ·rw [if_pos hab]
     have e:a=b:=by have:=eq_of_beq hab; injection this
     subst e
     have e2:TK.t l=TK.t m:=TAt.inj _ (Nat.le_refl _) hx0 hy0
     rw [decide_eq_true e2] at h
     exact wpAny_bind (wpAny_rule (wpAny_pure h))
    ·rw [if_neg hab]
     rw [hd'] at h
     exact wpAny_bind (wpAny_richCompare_same_room (op:=.Eq) hTa hTb F.slot_tuple_eq
      (wpAny_call_entry F.slot_tuple_eq hTa F.entry_tuple_eq (qk d (fun h1 h2 h3 h4 h5 h6=>ih h1 h2 h3 h4 h5 h6) hl hm (by show A.units+1+d<cLine; omega) hoa hda hia hob hcb hdb hib ⟨_,rfl,(fun e=>nomatch e),wpAny_truthy_bool h⟩) (F.args_tuple_eq_2 _ _)) (by omega))
theorem sP:∀(d:Nat) {A:Around}{E:Value->Shared->Prop}{s:Shared}{k:TK}{v:Value}{Q:Bool->Shared->Prop},k.depth<=d->TAt s.heap k v->Q true s->wpAny (model prog w) A (eqIsQuiet d v) Q E s:=by
 intro d
 induction d with
 | zero =>
  intro A E s k v Q hd hk h
  cases k with
  | t l=>exact absurd hd (by show ¬(TK.depths l+1<=0); omega)
  | k a=>rw [eqIsQuiet_byValue _ ((aD prog w).byValue a v hk)]; exact wpAny_pure h
 | succ d ih =>
  intro A E s k v Q hd hk h
  cases k with
  | k a=>rw [eqIsQuiet_byValue _ ((aD prog w).byValue a v hk)]; exact wpAny_pure h
  | t l =>
   have hl:TK.depths l<=d:=by have:TK.depths l+1<=d+1:=hd; omega
   obtain ⟨a,o,items,n,rfl,ho,hc,hdt,hi⟩:=hk
   have hT:s.TypeIs (.ref a) "tuple":=⟨o,ho,hc⟩
   unfold eqIsQuiet
   refine wpAny_bind (wpAny_specialOf hT F.slot_tuple_eq.lookup ?_)
   show wpAny _ _ (isInstance (.ref a) (.type "tuple") >>= _) _ _ s
   refine wpAny_bind (wpAny_isInstance hT isSubtype_tuple_tuple ?_)
   simp only [Bool.not_true,Bool.false_eq_true,if_false]
   refine wpAny_bind (wpAny_seqItems ho hdt ?_)
   refine wpAny_bind ?_
   show wpAny _ _ (forIn items _ _) _ _ s
   rw [<-Array.forIn_toList]
   refine wpAny_forIn_list _ (fun rest r s'=>r.1=none/\s'=s/\∃left,TAts s.heap left rest/\TK.depths left<=d) _ ?_ ?_ _ _ ⟨rfl,rfl,l,hi,hl⟩
   ·rintro v rest r s' ⟨hr,rfl,left,hall,hdl⟩
    cases left with
    | nil=>have e:v::rest=[]:=hall; cases e
    | cons k' left =>
     obtain ⟨v',rest',e,h1,h2⟩:=hall
     cases e
     have hdl':max k'.depth (TK.depths left)<=d:=hdl
     refine wpAny_bind (ih (k:=k') (by omega) h1 ?_)
     simp only [Bool.not_true,Bool.false_eq_true,if_false]
     exact wpAny_pure ⟨rfl,rfl,left,h2,by omega⟩
   ·rintro ⟨r1,r2⟩ s' ⟨hr,rfl,_⟩
    simp only at hr
    subst hr
    exact wpAny_pure h
def bz (prog:Program) (w:World):HeapKind prog w TK where
 is:=fun h k a=>TAt h k (.ref a)/\k.depth<=8
 hash:=TK.hash w
 draws:=TK.draws
 room:=fun A=>A.units+8<cLine
 inj:=fun hx hy=>TAt.inj 8 hx.2 hx.1 hy.1
 keeps:=fun {h h' k a d o es ep} x ho hd hs=>⟨TAt.mono (fun b ob items n hb _ hdb=>(hs.2 b fun e=>by
  subst e
  rw [ho] at hb
  cases hb
  rw [hd] at hdb
  cases hdb).trans hb) 8 x.2 x.1,x.2⟩
 pyHash:=fun hu hk h=>uK 8 hk.2 hu hk.1 h
 eqBool:=fun hu hx hy h=>wI 8 hx.2 hy.2 hu hx.1 hy.1 h
 quiet:=fun hk h=>sP 8 hk.2 hk.1 h
end
end L2
namespace L2
open PySem PySem.Spec PyProof.Rows
inductive V where
 | non | bl (b:Bool) | int (i:Int) | str (x:Str) | byt (b:Array UInt8) | flt (b:UInt64) | ref (a:Addr) | ty (n:String)
 deriving DecidableEq
def RelV:V->Value->Prop
 | .non,u=>u=Value.none
 | .bl b,u=>u=Value.bool b
 | .int i,u=>∃t,u=Value.int i t
 | .str x,u=>∃t,u=Value.str x t
 | .byt b,u=>∃t,u=Value.bytes b t
 | .flt b,u=>∃t,u=Value.float b t
 | .ref a,u=>u=Value.ref a
 | .ty n,u=>u=Value.type n
abbrev Vals:List V->List Value->Prop:=Paired RelV
theorem Vals.length {xs:List V}{us:List Value}(r:Vals xs us):xs.length=us.length:=Paired.length r
theorem Vals.get:∀{xs:List V}{us:List Value}{i:Nat}{x:V},Vals xs us->xs[i]?=some x->∃u,us[i]?=some u/\RelV x u
 | _,_,_,_,.nil,e=>by simp at e
 | _,_,0,_,.cons r _,e=>by simp at e; subst e; exact ⟨_,rfl,r⟩
 | _,_,i+1,x,.cons _ t,e=>by
  obtain ⟨u,h1,h2⟩:=Vals.get (i:=i) (x:=x) t (by simpa using e)
  exact ⟨u,by simpa using h1,h2⟩
theorem Vals.set {x:V}{u:Value}(r:RelV x u):∀{xs:List V}{us:List Value}(i:Nat),Vals xs us->Vals (xs.set i x) (us.set i u)
 | _,_,_,.nil=>.nil
 | _,_,0,.cons _ t=>.cons r t
 | _,_,i+1,.cons q t=>.cons q (Vals.set r i t)
theorem Vals.append:∀{xs ys:List V}{us ws:List Value},Vals xs us->Vals ys ws->Vals (xs++ys) (us++ws)
 | _,_,_,_,.nil,s=>s
 | _,_,_,_,.cons r t,s=>.cons r (Vals.append t s)
theorem Vals.take:∀{xs:List V}{us:List Value}(n:Nat),Vals xs us->Vals (xs.take n) (us.take n)
 | _,_,0,_=>.nil
 | _,_,_+1,.nil=>.nil
 | _,_,n+1,.cons r t=>.cons r (Vals.take n t)
theorem Vals.drop:∀{xs:List V}{us:List Value}(n:Nat),Vals xs us->Vals (xs.drop n) (us.drop n)
 | _,_,0,r=>r
 | _,_,_+1,.nil=>.nil
 | _,_,n+1,.cons _ t=>Vals.drop n t
def RelO:Option V->Option Value->Prop
 | some v,some u=>RelV v u
 | none,none=>True
 | _,_=>False
def KV {κ:Type}:List (κ×V)->List (κ×Value)->Prop:=Paired fun (p:κ×V) (q:κ×Value)=>p.1=q.1/\RelV p.2 q.2
def kV:Key->V
 | .inl i=>.int i
 | .inr x=>.str x
inductive HO where
 | lst (xs:List V)
 | tup (xs:List V)
 | dK (kvs:List (Key×V)) | dT (kvs:List (TK×V))
 | set (S:Int->Bool) (n:Nat)
 | ins (C dx:Addr) (fs:List (Str×V))
 | own (x:Addr)
 | xd (fs:List (Str×V))
 | met (f x:Addr)
 | rng (lo hi:Int)
 | frz (o:Obj) (u:HO)
 | tbl (ps:Array Value)
 | ext (φ:Heap->Prop)
abbrev Hp:=Addr->Option HO
mutual
def TKAt (H:Hp):TK->V->Prop
 | .k a,v=>v=kV a
 | .t l,v=>∃b xs,v=.ref b/\H b=some (.tup xs)/\TKAts H l xs
def TKAts (H:Hp):List TK->List V->Prop
 | [],vs=>vs=[]
 | k::r,vs=>∃v us,vs=v::us/\TKAt H k v/\TKAts H r us
end
def TupC (K:PySem.W.Frag) (H:Hp) (a:Addr) (xs:List V):Prop :=
 H a=some (.tup xs)∨∃(o:Obj) (its:Array Value) (n:Nat),K.lookup a=some o/\o.cls=.type "tuple"/\o.data=.seq its n/\its.size<=sizeLine/\Vals xs its.toList
theorem TupC.keeps {K:PySem.W.Frag}{H H':Hp}{a:Addr}{xs:List V}(h:TupC K H a xs) (ht:∀b xs,H b=some (.tup xs)->H' b=some (.tup xs)):TupC K H' a xs:=h.imp (ht a xs) id
mutual
def TKC (K:PySem.W.Frag) (H:Hp):TK->V->Prop
 | .k a,v=>v=kV a
 | .t l,v=>∃b xs,v=.ref b/\TupC K H b xs/\TKCs K H l xs
def TKCs (K:PySem.W.Frag) (H:Hp):List TK->List V->Prop
 | [],vs=>vs=[]
 | k::r,vs=>∃v us,vs=v::us/\TKC K H k v/\TKCs K H r us
end
theorem TKC.keeps {K:PySem.W.Frag}{H H':Hp}(ht:∀b xs,H b=some (.tup xs)->H' b=some (.tup xs)):∀(d:Nat) {k:TK}{v:V},k.depth<=d->TKC K H k v->TKC K H' k v:=by
 have key:∀(d:Nat) (ih:∀{k:TK}{v:V},k.depth<=d->TKC K H k v->TKC K H' k v) (xs:List TK) (vs:List V),TK.depths xs<=d->TKCs K H xs vs->TKCs K H' xs vs:=by
  intro d ih xs
  induction xs with
  | nil=>intro vs _ hx; exact hx
  | cons x xs ihl =>
   intro vs hd hx
   obtain ⟨v,us,rfl,hx1,hx2⟩:=hx
   have hd':max x.depth (TK.depths xs)<=d:=hd
   exact ⟨v,us,rfl,ih (by omega) hx1,ihl us (by omega) hx2⟩
 intro d
 induction d with
 | zero =>
  intro k v hd hx
  cases k with
  | t l=>exact absurd hd (by show ¬(TK.depths l+1<=0); omega)
  | k a=>exact hx
 | succ d ih =>
  intro k v hd hx
  cases k with
  | k a=>exact hx
  | t l =>
   obtain ⟨b,xs,rfl,hb,hi⟩:=hx
   exact ⟨b,xs,rfl,hb.keeps ht,key d (fun h1=>ih h1) l xs (by have:TK.depths l+1<=d+1:=hd; omega) hi⟩
theorem TKAt.c {K:PySem.W.Frag}{H:Hp}:∀(d:Nat) {k:TK}{v:V},k.depth<=d->TKAt H k v->TKC K H k v:=by
 have key:∀(d:Nat) (ih:∀{k:TK}{v:V},k.depth<=d->TKAt H k v->TKC K H k v) (xs:List TK) (vs:List V),TK.depths xs<=d->TKAts H xs vs->TKCs K H xs vs:=by
  intro d ih xs
  induction xs with
  | nil=>intro vs _ hx; exact hx
  | cons x xs ihl =>
   intro vs hd hx
   obtain ⟨v,us,rfl,hx1,hx2⟩:=hx
   have hd':max x.depth (TK.depths xs)<=d:=hd
   exact ⟨v,us,rfl,ih (by omega) hx1,ihl us (by omega) hx2⟩
 intro d
 induction d with
 | zero =>
  intro k v hd hx
  cases k with
  | t l=>exact absurd hd (by show ¬(TK.depths l+1<=0); omega)
  | k a=>exact hx
 | succ d ih =>
  intro k v hd hx
  cases k with
  | k a=>exact hx
  | t l =>
   obtain ⟨b,xs,rfl,hb,hi⟩:=hx
   exact ⟨b,xs,rfl,.inl hb,key d (fun h1=>ih h1) l xs (by have:TK.depths l+1<=d+1:=hd; omega) hi⟩
def upd (H:Hp) (a:Addr) (o:HO):Hp:=fun b=>if b=a then some o else H b
theorem aa {H:Hp}{a:Addr}{o:HO}:upd H a o a=some o:=by unfold upd; rw [if_pos rfl]
theorem af {H:Hp}{a b:Addr}{o:HO}(h:b≠a):upd H a o b=H b:=by unfold upd; rw [if_neg h]
theorem jX {H:Hp}{a:Addr}{o u:HO}:upd (upd H a o) a u=upd H a u:=by
 funext b; unfold upd; split <;> rfl
theorem tL {H:Hp}{a b:Addr}{o u:HO}(h:H a=some o) (h':H b=some u) (d:o≠u):a≠b:=by
 intro e; subst e; rw [h] at h'; exact d (Option.some.inj h')
theorem ad {H:Hp}{a b:Addr}{o:HO}(h:H a=some o) (h':H b=none):a≠b:=by
 intro e; subst e; rw [h] at h'; cases h'
section
variable (P:Program) (w:World) (K:PySem.W.Frag)
def ObjOk (H:Hp) (h:Heap) (a:Addr):HO->Prop
 | .lst xs=>xs.length<=sizeLine/\∃(its:List Value) (n:Nat),Vals xs its/\h.get? a=some { cls:=.type "list",data:=.seq its.toArray n }
 | .tup xs=>xs.length<=sizeLine/\∃its:List Value,Vals xs its/\IsTup h a its.toArray
 | .dK kvs=>kvs.length<=sizeLine/\(a == sysModules)=false/\∃vs,KV kvs vs/\h.DictOf (aD P w) a vs
 | .dT kvs=>kvs.length<=sizeLine/\(a == sysModules)=false/\∃xs:List (TK×Addr×Value),
   Paired (fun (p:TK×V) (q:TK×Addr×Value)=>p.1=q.1/\TKC K H p.1 (.ref q.2.1)/\p.1.depth<=8/\RelV p.2 q.2.2) kvs xs /\
   ∃o es ep,h.get? a=some o/\o.ExactDict/\o.data=.dict es ep/\es.toList=xs.map (entryOfKey (bz P w))/\(xs.map (·.1)).Nodup
 | .set S n=>h.SetOf (intKind P w) a S n
 | .ins C dx fs=>H dx=some (.own a)/\fs.length<=1000/\dx≠a/\h.get? a=some (PySem.W.instObj C dx) /\
   ∃mA,h.Ns1 dx mA/\(∀f,RelO (fs.lookup f) (mA f))/\PySem.Within mA (fs.map (·.1))
 | .own _=>∃o,h.get? a=some o
 | .xd fs=>∃mA,h.Ns1 a mA/\∀f,RelO (fs.lookup f) (mA f)
 | .rng lo hi=>∃t u v,h.get? a=some { cls:=.type "range",data:=.fields #[.int lo t,.int hi u,.int 1 v] }
 | .frz o u=>h.get? a=some o/\ObjOk H h a u
 | .tbl ps=>h.get? a=some { cls:=.none,data:=.fields ps }
 | .met f x=>h.get? a=some (PySem.W.methodObj (.ref f) (.ref x))
 | .ext φ=>φ h/\(∃o,h.get? a=some o)/\∀h1 h2:Heap,φ h1->(∀o,h1.get? a=some o->h2.get? a=some o)->φ h2
def HOk (H:Hp) (h:Heap):Prop:=∀a o,H a=some o->ObjOk P w K H h a o
end
section
variable {P:Program}{w:World}{K:PySem.W.Frag}{H H':Hp}{h h':Heap}{a:Addr}{o:HO}
theorem ObjOk.lt (x:ObjOk P w K H h a o):a<h.objs.size:=by
 cases o with
 | lst xs=>obtain ⟨_,_,_,_,e⟩:=x; exact Heap.lt_size e
 | tup xs=>obtain ⟨_,_,_,p⟩:=x; exact p.lt
 | dK kvs=>obtain ⟨_,_,_,_,o,_,_,e,_⟩:=x; exact Heap.lt_size e
 | dT kvs=>obtain ⟨_,_,_,_,o,_,_,e,_⟩:=x; exact Heap.lt_size e
 | set S n=>obtain ⟨o,_,_,_,e,_⟩:=x; exact Heap.lt_size e
 | ins C dx fs=>obtain ⟨_,_,_,e,_⟩:=x; exact Heap.lt_size e
 | own y=>obtain ⟨_,e⟩:=x; exact Heap.lt_size e
 | xd fs=>obtain ⟨_,⟨_,_,_,e,_⟩,_⟩:=x; exact Heap.lt_size e
 | rng lo hi=>obtain ⟨_,_,_,e⟩:=x; exact Heap.lt_size e
 | frz ob u=>obtain ⟨e,_⟩:=x; exact Heap.lt_size e
 | tbl ps=>exact Heap.lt_size (show h.get? a=some _ from x)
 | met f y=>exact Heap.lt_size (show h.get? a=some _ from x)
 | ext φ=>obtain ⟨_,⟨_,e⟩,_⟩:=x; exact Heap.lt_size e
theorem Paired.mapP {α β:Type}{F G:α->β->Prop}:∀{l₁:List α}{l₂:List β},Paired F l₁ l₂->(∀a b,F a b->G a b)->Paired G l₁ l₂
 | _,_,.nil,_=>.nil
 | _,_,.cons r t,f=>.cons (f _ _ r) (Paired.mapP t f)
theorem ObjOk.stay (x:ObjOk P w K H h a o) (k:∀b u,(b=a∨H b=some (.own a))->h.get? b=some u->h'.get? b=some u)
  (ho:∀b,H b=some (.own a)->H' b=some (.own a)) (ht:∀b xs,H b=some (.tup xs)->H' b=some (.tup xs)):ObjOk P w K H' h' a o:=by
 induction o with
 | lst xs=>obtain ⟨z,its,n,r,e⟩:=x; exact ⟨z,its,n,r,k _ _ (.inl rfl) e⟩
 | tup xs=>obtain ⟨z,its,r,ob,e,c⟩:=x; exact ⟨z,its,r,ob,k _ _ (.inl rfl) e,c⟩
 | dK kvs=>obtain ⟨z,y,vs,r,ob,es,ep,e,c⟩:=x; exact ⟨z,y,vs,r,ob,es,ep,k _ _ (.inl rfl) e,c⟩
 | dT kvs =>
  obtain ⟨z,y,xs,r,ob,es,ep,e,c⟩:=x
  exact ⟨z,y,xs,Paired.mapP r fun p q z=>⟨z.1,TKC.keeps ht 8 z.2.2.1 z.2.1,z.2.2⟩,ob,es,ep,k _ _ (.inl rfl) e,c⟩
 | set S n=>obtain ⟨ob,es,ep,t,e,c⟩:=x; exact ⟨ob,es,ep,t,k _ _ (.inl rfl) e,c⟩
 | ins C dx fs =>
  obtain ⟨d,z,ne,e,mA,⟨od,es,ep,e2,c⟩,r⟩:=x
  exact ⟨ho _ d,z,ne,k _ _ (.inl rfl) e,mA,⟨od,es,ep,k _ _ (.inr d) e2,c⟩,r⟩
 | own y=>obtain ⟨ob,e⟩:=x; exact ⟨ob,k _ _ (.inl rfl) e⟩
 | xd fs=>obtain ⟨mA,⟨od,es,ep,e,c⟩,r⟩:=x; exact ⟨mA,⟨od,es,ep,k _ _ (.inl rfl) e,c⟩,r⟩
 | rng lo hi=>obtain ⟨t,u,v,e⟩:=x; exact ⟨t,u,v,k _ _ (.inl rfl) e⟩
 | frz ob u ih=>obtain ⟨e,q⟩:=x; exact ⟨k _ _ (.inl rfl) e,ih q⟩
 | tbl ps =>
  have e:h.get? a=some { cls:=.none,data:=.fields ps }:=x
  show h'.get? a=some { cls:=.none,data:=.fields ps }
  exact k a _ (.inl rfl) e
 | met f y =>
  have e:h.get? a=some (PySem.W.methodObj (.ref f) (.ref y)):=x
  show h'.get? a=some (PySem.W.methodObj (.ref f) (.ref y))
  exact k a _ (.inl rfl) e
 | ext φ=>obtain ⟨p,⟨o,e⟩,st⟩:=x; exact ⟨st _ _ p fun o q=>k _ _ (.inl rfl) q,⟨o,k _ _ (.inl rfl) e⟩,st⟩
theorem HOk.lt (x:HOk P w K H h) (e:H a=some o):a<h.objs.size:=(x a o e).lt
theorem HOk.fresh (x:HOk P w K H h) (e:h.objs.size<=a):H a=none:=by
 cases q:H a with
 | none=>rfl
 | some u=>exact absurd (Nat.lt_of_lt_of_le (x.lt q) e) (Nat.lt_irrefl _)
theorem HOk.kept (x:HOk P w K H h) (k:∀b u,h.get? b=some u->h'.get? b=some u):HOk P w K H h':=fun a o e =>
 (x a o e).stay (fun b u _ q=>k b u q) (fun _ q=>q) fun _ _ q=>q
theorem HOk.laid (x:HOk P w K H h) (k:∀b u,h.get? b=some u->h'.get? b=some u) (hp:h.objs.size<=a) (new:ObjOk P w K (upd H a o) h' a o):HOk P w K (upd H a o) h':=fun b u e=>by
 have hn:=x.fresh hp
 by_cases hb:b=a
 ·subst hb; rw [aa] at e; cases e; exact new
 ·rw [af hb] at e
  exact (x b u e).stay (fun c v _ q=>k c v q) (fun c q=>by rw [af (ad q hn)]; exact q) fun c xs q=>by rw [af (ad q hn)]; exact q
end
def Rd (H:Hp) (a:Addr) (u:HO):Prop:=H a=some u∨∃o,H a=some (.frz o u)
theorem Rd.ok {P:Program}{w:World}{K:PySem.W.Frag}{H:Hp}{h:Heap}{a:Addr}{u:HO}(r:Rd H a u) (x:HOk P w K H h):ObjOk P w K H h a u:=by
 rcases r with r | ⟨o,r⟩
 ·exact x a u r
 ·obtain ⟨_,q⟩:=x a _ r
  exact q
def Mut:Option HO->Prop
 | some (.lst _)=>True
 | some (.dK _)=>True
 | some (.dT _)=>True
 | some (.set _ _)=>True
 | some (.ins _ _ _)=>True
 | some (.ext _)=>True
 | _=>False
section
variable {P:Program}{w:World}{K:PySem.W.Frag}{H:Hp}{h h':Heap}{x e:Addr}{o':HO}
theorem HOk.write (ok:HOk P w K H h) (mu:Mut (H x)) (he:e=x∨H e=some (.own x)) (k:∀b u,b≠e->h.get? b=some u->h'.get? b=some u) (heo:∃u,h'.get? e=some u)
  (new:ObjOk P w K (upd H x o') h' x o'):HOk P w K (upd H x o') h':=fun b u q=>by
 have nown:∀c y,H c=some (.own y)->c≠x:=fun c y r z=>by subst z; rw [r] at mu; exact mu
 have ntup:∀c xs,H c=some (.tup xs)->c≠x:=fun c xs r z=>by subst z; rw [r] at mu; exact mu
 by_cases hb:b=x
 ·subst hb; rw [aa] at q; cases q; exact new
 ·rw [af hb] at q
  by_cases hbe:b=e
  ·have q':H b=some (.own x):=by
    rcases he with z | z
    ·exact absurd (hbe.trans z) hb
    ·rw [hbe]; exact z
   rw [q] at q'; cases q'
   obtain ⟨v,hv⟩:=heo
   exact ⟨v,by rw [hbe]; exact hv⟩
  ·refine (ok b u q).stay (fun c v hc r=>k c v ?_ r) (fun c r=>by rw [af (nown c b r)]; exact r) fun c xs r=>by rw [af (ntup c xs r)]; exact r
   rcases hc with rfl | hc
   ·exact hbe
   ·rintro rfl
    rcases he with z | z
    ·exact nown c b hc z
    ·rw [hc] at z; cases z; exact hb rfl
end
structure Un (fs ex:List Addr) (H H':Hp) (h h':Heap):Prop where
 keep:∀b o,h.get? b=some o->H b=none->b∉fs->b∉ex->h'.get? b=some o
 slot:∀b o,h.get? b=some o->H b=none->b∈fs->b∉ex->∃sl,h'.get? b=some { o with slots:=sl }
 free:∀b o,h.get? b=some o->H b=none->b∉ex->H' b=none
 there:∀b o,h.get? b=some o->b∉ex->∃o',h'.get? b=some o'
 tups:∀b xs,H b=some (.tup xs)->H' b=some (.tup xs)
 frzs:∀b o u,H b=some (.frz o u)->H' b=some (.frz o u)
 tbls:∀b ps,H b=some (.tbl ps)->∃more,H' b=some (.tbl (ps++more))
section
variable {fs fs' ex ex':List Addr}{H H1 H2:Hp}{h h1 h2 h':Heap}{a x e:Addr}{o:HO}
theorem Un.any (u:Un fs ex H H1 h h1) {b:Addr}{ob:Obj}(q:h.get? b=some ob) (n:H b=none) (hx:b∉ex):∃sl,h1.get? b=some { ob with slots:=sl }:=by
 by_cases hb:b∈fs
 ·exact u.slot b ob q n hb hx
 ·exact ⟨ob.slots,u.keep b ob q n hb hx⟩
theorem Un.kept (k:∀b u,h.get? b=some u->h'.get? b=some u):Un fs ex H H h h' :=
 ⟨fun b ob q _ _ _=>k b ob q,fun b ob q _ _ _=>⟨ob.slots,k b ob q⟩,fun _ _ _ n _=>n,fun b ob q _=>⟨ob,k b ob q⟩,fun _ _ q=>q,fun _ _ _ q=>q,fun _ ps q=>⟨#[],by rw [q]; simp⟩⟩
theorem Un.refl:Un fs ex H H h h:=Un.kept fun _ _ q=>q
theorem Un.laid (k:∀b u,h.get? b=some u->h'.get? b=some u) (hp:h.objs.size<=a) (hn:H a=none):Un fs ex H (upd H a o) h h' where
 keep:=fun b u q _ _ _=>k b u q
 slot:=fun b u q _ _ _=>⟨u.slots,k b u q⟩
 free:=fun b u q n _=>by rw [af (Nat.ne_of_lt (Nat.lt_of_lt_of_le (Heap.lt_size q) hp))]; exact n
 there:=fun b u q _=>⟨u,k b u q⟩
 tups:=fun b xs q=>by rw [af (ad q hn)]; exact q
 frzs:=fun b u xs q=>by rw [af (ad q hn)]; exact q
 tbls:=fun b ps q=>⟨#[],by rw [af (ad q hn),q]; simp⟩
theorem Un.write (mu:Mut (H x)) (he:e=x∨H e=some (.own x)) (k:∀b u,b≠e->h.get? b=some u->h'.get? b=some u) (heo:∃u,h'.get? e=some u):Un fs ex H (upd H x o) h h':=by
 have hx:∀b,H b=none->b≠x:=fun b n z=>by subst z; rw [n] at mu; exact mu
 have hb:∀b,H b=none->b≠e:=fun b n z=>by
  subst z
  rcases he with r | r
  ·exact hx b n r
  ·rw [n] at r; cases r
 have hm:∀b u,H b=some u->¬Mut (some u)->b≠x:=fun b u q nm z=>by subst z; rw [q] at mu; exact nm mu
 refine ⟨fun b u q n _ _=>k b u (hb b n) q,fun b u q n _ _=>⟨u.slots,k b u (hb b n) q⟩,fun b u q n _=>by rw [af (hx b n)]; exact n,fun b u q _=>?_,
  fun b xs q=>by rw [af (hm b _ q fun z=>z)]; exact q,fun b u xs q=>by rw [af (hm b _ q fun z=>z)]; exact q,fun b ps q=>⟨#[],by rw [af (hm b _ q fun z=>z),q]; simp⟩⟩
 by_cases hbe:b=e
 ·subst hbe; exact heo
 ·exact ⟨u,k b u hbe q⟩
end
def trk (h:Heap) (H:Hp):List Addr:=(List.range h.objs.size).filter fun a=>(H a).isSome
def tR (h:Heap) (H:Hp):Heap:=PySem.W.hideAll h (trk h H)
theorem rJ (h:Heap) (H:Hp):(tR h H).objs.size=h.objs.size:=PySem.W.hideAll_size _ _
theorem tQ {h:Heap}{H:Hp}{b:Addr}{o:Obj}(e:h.get? b=some o) (n:H b=none):(tR h H).get? b=some o :=
 PySem.W.hideAll_get _ e fun hm=>by
  have q:(H b).isSome=true:=(List.mem_filter.mp hm).2
  rw [n] at q; simp at q
theorem vk {h:Heap}{H:Hp}{b:Addr}{o:Obj}(e:(tR h H).get? b=some o):h.get? b=some o/\H b=none:=by
 have e':h.get? b=some o:=PySem.W.of_hideAll (trk h H) e
 refine ⟨e',?_⟩
 cases q:H b with
 | none=>rfl
 | some x =>
  have hm:b∈trk h H:=List.mem_filter.mpr ⟨List.mem_range.mpr (Heap.lt_size e'),by simp [q]⟩
  have z:(tR h H).get? b=none:=PySem.W.hideAll_none (trk h H) hm
  rw [z] at e; cases e
def vC (g h:Heap) (L:Addr):List (Addr×Obj):=(List.range h.objs.size).filterMap fun a=>if a=L∨(g.get? a).isSome=true then none else (h.get? a).map fun o=>(a,o)
def rest (g h:Heap) (L d:Addr):List (Addr×Obj):=(vC g h L).filter fun p=>decide (p.1≠d)
end L2
namespace L2
open PySem PySem.Spec PyProof.Rows
structure Mod (K:PySem.W.Frag) (mg:Str->Option Value) (base:Heap):Prop where
 kin:K.In base
 glob:base.Ns mainGlobals mg
 blt:∃mb,base.Ns builtinsNs mb/\∀x:Str,x≠"__name__"->mb x=bootBuiltins x
 nolimit:base.NoLimit
structure Cx where
 prog:Program
 w:World
 K:PySem.W.Frag
 mg:Str->Option Value
 base:Heap
 A:Around
 N:List Str
 s₀:Shared
 H₀:Hp
 env:Env
 outer:List Env
 stack:List Env
 ex:List Addr
 fn:Str->Bool
 calm:Bool
 pn:List (Addr×Obj)
 xe:Value->Shared->Prop
def frs (l:List Env):List Addr:=l.filterMap (·.frame)
abbrev Cx.fs (X:Cx):List Addr:=frs X.outer
def Vis (sc:Scope) (x:Str):Prop:=sc.names.lookup x=some .local∨sc.names.lookup x=some .cell∨sc.names.lookup x=some .free
def Loc (sc:Scope) (x:Str):Prop:=sc.names.lookup x=some .local∨sc.names.lookup x=some .cell
def xz (env:Env) (h:Heap) (m:Str->Option Value) (x:Str) (u:Value):Prop :=
 (env.kindOf x=some .local/\m x=some u)∨((env.kindOf x=some .cell∨env.kindOf x=some .free)/\∃c,env.cells.lookup x=some c/\h.IsCell c (some u))
structure Cx.Ok (X:Cx):Prop where
 mod:Mod X.K X.mg X.base
 kind:X.env.scope.kind=.function
 glob:X.env.globals=mainGlobals
 blt:X.env.builtins=builtinsNs
 above:X.s₀.heap.objs.size<=X.env.locals
 inj:∀x y c,X.env.cells.lookup x=some c->X.env.cells.lookup y=some c->x=y
 has:∀x,(X.env.kindOf x=some .cell∨X.env.kindOf x=some .free)->∃c,X.env.cells.lookup x=some c
 cab:∀x c,X.fn x=true->X.env.cells.lookup x=some c->X.s₀.heap.objs.size<=c
 hd:X.calm=true->X.A.handled=none
 frames:X.A.frames=some X.stack
 stk:X.stack=X.outer∨(X.stack=X.env::X.outer/\X.env.frame=some X.env.locals)
 exf:∀b∈X.ex,b≠X.env.locals/\∀x c,X.env.cells.lookup x=some c->c≠b
 bs:∀b o,X.base.get? b=some o->X.s₀.heap.get? b=some o/\X.H₀ b=none
 bsz:X.base.objs.size<=X.s₀.heap.objs.size
 noex:∀b o,X.base.get? b=some o->b∉X.ex
 exfs:∀b∈X.ex,b∉X.fs
 funs:X.s₀.heap.FunFrames X.base X.outer
 frf:∀b∈X.fs,X.H₀ b=none
structure Inv (X:Cx) (pins:List (Addr×Obj)) (σ:List (Option V)) (H:Hp) (s:Shared):Prop where
 ok:X.Ok
 os:s.os=X.s₀.os
 bare:AllBare s.gens
 base:Un X.fs X.ex X.H₀ H X.s₀.heap s.heap
 loc:∃m,s.heap.Ns X.env.locals m/\∀(i:Nat) (x:Str) (v:V),X.N[i]?=some x->σ[i]?=some (some v)->Vis X.env.scope x->∃u,RelV v u/\xz X.env s.heap m x u
 cell:∀x c,X.env.cells.lookup x=some c->∃v,s.heap.IsCell c v
 free:H X.env.locals=none
 freeC:∀x c,X.env.cells.lookup x=some c->H c=none
 pin:∀p∈X.pn++pins,s.heap.get? p.1=some p.2/\H p.1=none/\p.1≠X.env.locals/\p.1∉X.fs/\∀v,p.2.data≠.cell v
 hok:HOk X.prog X.w X.K H s.heap
 len:σ.length=X.N.length
section
variable {X:Cx}{pins:List (Addr×Obj)}{σ:List (Option V)}{H H':Hp}{s:Shared}{h':Heap}
theorem Cx.Ok.nofr (ok:X.Ok) {b:Addr}{o:Obj}(e:X.base.get? b=some o):b∉X.fs:=fun hb=>by
 have:=(ok.funs.mem hb).1
 rw [e] at this; cases this
theorem Inv.bs (I:Inv X pins σ H s):∀b o,X.base.get? b=some o->s.heap.get? b=some o/\H b=none:=fun b o e =>
 ⟨I.base.keep b o (I.ok.bs b o e).1 (I.ok.bs b o e).2 (I.ok.nofr e) (I.ok.noex b o e),I.base.free b o (I.ok.bs b o e).1 (I.ok.bs b o e).2 (I.ok.noex b o e)⟩
theorem Inv.bk (I:Inv X pins σ H s):∀b o,X.base.get? b=some o->s.heap.get? b=some o:=fun b o e=>(I.bs b o e).1
theorem Inv.mod (I:Inv X pins σ H s):Mod X.K X.mg X.base:=I.ok.mod
theorem Inv.kIn (I:Inv X pins σ H s):X.K.In s.heap:=I.ok.mod.kin.keeps I.bk
theorem Inv.fr (I:Inv X pins σ H s):∃m,Fr X.base X.env.locals s.heap m :=
 let ⟨m,hn,_⟩:=I.loc
 ⟨m,hn,I.bk,Nat.le_trans I.ok.bsz I.ok.above⟩
theorem Inv.lt (I:Inv X pins σ H s):X.env.locals<s.heap.objs.size:=let ⟨_,hn,_⟩:=I.loc; hn.lt
theorem Inv.sz (I:Inv X pins σ H s):X.s₀.heap.objs.size<=s.heap.objs.size:=Nat.le_trans I.ok.above (Nat.le_of_lt I.lt)
theorem Inv.nofs (I:Inv X pins σ H s) {a:Addr}(h:s.heap.objs.size<=a):a∉X.fs:=fun hb=>by
 obtain ⟨_,o,ho,_⟩:=I.ok.funs.mem hb
 exact absurd (Nat.lt_of_lt_of_le (Heap.lt_size ho) (Nat.le_trans I.sz h)) (Nat.lt_irrefl _)
theorem Inv.cne (I:Inv X pins σ H s):∀x c,X.env.cells.lookup x=some c->c≠X.env.locals:=fun x c e z=>by
 obtain ⟨v,o,ho,hd⟩:=I.cell x c e
 obtain ⟨m,⟨o',es,ep,ho',hd',_⟩,_⟩:=I.loc
 rw [z,ho'] at ho; cases ho; rw [hd'] at hd; cases hd
theorem Inv.funs (I:Inv X pins σ H s):s.heap.FunFrames X.base X.outer:=by
 have all:∀(l:List Env),(∀b∈frs l,b∈X.fs)->X.s₀.heap.FunFrames X.base l->s.heap.FunFrames X.base l:=by
  intro l
  induction l with
  | nil=>intro _ _; trivial
  | cons env r ih =>
   intro hs hl
   obtain ⟨hk,⟨L,o,hf,hn,ho,hd⟩,hr⟩:=hl
   have hL:L∈X.fs:=hs L (by unfold frs; rw [List.filterMap_cons,hf]; exact List.mem_cons_self)
   obtain ⟨sl,e⟩:=I.base.slot L o ho (I.ok.frf L hL) hL fun z=>I.ok.exfs L z hL
   exact ⟨hk,⟨L,_,hf,hn,e,hd⟩,ih (fun b hb=>hs b (by unfold frs; rw [List.filterMap_cons,hf]; exact List.mem_cons_of_mem _ hb)) hr⟩
 exact all X.outer (fun _ hb=>hb) I.ok.funs
theorem Inv.stack (I:Inv X pins σ H s):s.heap.FunFrames X.base X.stack:=by
 rcases I.ok.stk with e | ⟨e,hf⟩
 ·rw [e]; exact I.funs
 ·rw [e]
  obtain ⟨m,hn,_⟩:=I.loc
  refine .cons (by rw [I.ok.kind]; decide) hf hn ?_ I.funs
  exact Heap.get?_none_of_le (Nat.le_trans I.ok.bsz I.ok.above)
theorem Inv.stkSub (I:Inv X pins σ H s):∀b∈frs X.stack,b∈X.env.locals::X.fs:=fun b hb=>by
 rcases I.ok.stk with e | ⟨e,hf⟩
 ·rw [e] at hb; exact List.mem_cons_of_mem _ hb
 ·rw [e] at hb
  unfold frs at hb
  rw [List.filterMap_cons,hf] at hb
  exact hb
theorem Inv.stkFree (I:Inv X pins σ H s):∀b∈frs X.stack,H b=none:=fun b hb=>by
 rcases List.mem_cons.mp (I.stkSub b hb) with e | hb
 ·rw [e]; exact I.free
 ·obtain ⟨_,o,ho,_⟩:=I.ok.funs.mem hb
  exact I.base.free b o ho (I.ok.frf b hb) fun z=>I.ok.exfs b z hb
theorem Inv.step {g':Array GenState}{t':Nat}{d':Drawn}{ch:List Addr}(I:Inv X pins σ H s)
  (hch:∀b∈ch,(b∈X.ex∨X.s₀.heap.objs.size<=b)/\b≠X.env.locals/\(∀x c,X.env.cells.lookup x=some c->c≠b)/\∀p∈X.pn++pins,p.1≠b)
  (keep:∀b o,b≠X.env.locals->b∉X.fs->b∉ch->s.heap.get? b=some o->H b=none->h'.get? b=some o)
  (slot:∀b o,b≠X.env.locals->b∈X.fs->b∉ch->s.heap.get? b=some o->H b=none->∃sl,h'.get? b=some { o with slots:=sl }) (free:∀b o,b∉ch->s.heap.get? b=some o->H b=none->H' b=none)
  (there:∀b o,b∉ch->s.heap.get? b=some o->∃o',h'.get? b=some o')
  (tups:∀b xs,H b=some (.tup xs)->H' b=some (.tup xs)) (frzs:∀b o u,H b=some (.frz o u)->H' b=some (.frz o u)) (tbls:∀b ps,H b=some (.tbl ps)->∃more,H' b=some (.tbl (ps++more)))
  (ns:∀m,s.heap.Ns X.env.locals m->h'.Ns X.env.locals m) (hok:HOk X.prog X.w X.K H' h') (hg:AllBare g') :
  Inv X pins σ H' { s with heap:=h',gens:=g',drawn:=d',toks:=t' }:=by
 have neL:∀b o,X.s₀.heap.get? b=some o->b≠X.env.locals:=fun b o e=>Nat.ne_of_lt (Nat.lt_of_lt_of_le (Heap.lt_size e) I.ok.above)
 have neC:∀b o,X.s₀.heap.get? b=some o->b∉X.ex->b∉ch:=fun b o e hx hb=>by
  rcases (hch b hb).1 with z | z
  ·exact hx z
  ·exact absurd (Nat.lt_of_lt_of_le (Heap.lt_size e) z) (Nat.lt_irrefl _)
 have cellK:∀x c,X.env.cells.lookup x=some c->∀v,s.heap.IsCell c v->h'.IsCell c v:=fun x c e v ⟨o,ho,hd⟩=>by
  have nch:c∉ch:=fun z=>(hch c z).2.2.1 x c e rfl
  by_cases hc:c∈X.fs
  ·obtain ⟨sl,q⟩:=slot c o (I.cne x c e) hc nch ho (I.freeC x c e)
   exact ⟨_,q,hd⟩
  ·exact ⟨o,keep c o (I.cne x c e) hc nch ho (I.freeC x c e),hd⟩
 refine ⟨I.ok,I.os,hg,⟨fun b o e n hb hx=>?_,fun b o e n hb hx=>?_,fun b o e n hx=>?_,fun b o e hx=>?_,fun b xs e=>tups b xs (I.base.tups b xs e),fun b o xs e=>frzs b o xs (I.base.frzs b o xs e),fun b ps e=>?_⟩,?_,fun x c e=>?_,?_,fun x c e=>?_,fun p hp=>?_,hok,I.len⟩
 ·exact keep b o (neL b o e) hb (neC b o e hx) (I.base.keep b o e n hb hx) (I.base.free b o e n hx)
 ·obtain ⟨sl,e1⟩:=I.base.slot b o e n hb hx
  obtain ⟨sl',e2⟩:=slot b _ (neL b o e) hb (neC b o e hx) e1 (I.base.free b o e n hx)
  exact ⟨sl',e2⟩
 ·obtain ⟨o',e1⟩:=I.base.there b o e hx
  exact free b o' (neC b o e hx) e1 (I.base.free b o e n hx)
 ·obtain ⟨o',e1⟩:=I.base.there b o e hx
  exact there b o' (neC b o e hx) e1
 ·obtain ⟨m1,e1⟩:=I.base.tbls b ps e
  obtain ⟨m2,e2⟩:=tbls b _ e1
  exact ⟨m1++m2,by rw [e2,Array.append_assoc]⟩
 ·obtain ⟨m,hn,hl⟩:=I.loc
  refine ⟨m,ns m hn,fun i x v e1 e2 e3=>?_⟩
  obtain ⟨u,r,l⟩:=hl i x v e1 e2 e3
  refine ⟨u,r,?_⟩
  rcases l with l | ⟨k,c,e,z⟩
  ·exact .inl l
  ·exact .inr ⟨k,c,e,cellK x c e _ z⟩
 ·obtain ⟨v,z⟩:=I.cell x c e
  exact ⟨v,cellK x c e v z⟩
 ·obtain ⟨m,⟨o,_,_,ho,_⟩,_⟩:=I.loc
  exact free _ o (fun z=>(hch _ z).2.1 rfl) ho I.free
 ·obtain ⟨v,o,ho,hd⟩:=I.cell x c e
  exact free c o (fun z=>(hch c z).2.2.1 x c e rfl) ho (I.freeC x c e)
 ·obtain ⟨e,n,ne,nf,d⟩:=I.pin p hp
  have nch:p.1∉ch:=fun z=>(hch p.1 z).2.2.2 p hp rfl
  exact ⟨keep p.1 p.2 ne nf nch e n,free p.1 p.2 nch e n,ne,nf,d⟩
theorem Inv.un {t':Nat}(I:Inv X pins σ H s) (u:Un X.fs [] H H' s.heap h') (hok:HOk X.prog X.w X.K H' h'):Inv X pins σ H' { s with heap:=h',toks:=t' }:=by
 obtain ⟨m,⟨o,es,ep,ho,r⟩,_⟩:=id I.loc
 obtain ⟨sl,hL⟩:=u.any ho I.free (by simp)
 exact I.step (g':=s.gens) (d':=s.drawn) (ch:=[]) (fun _ z=>nomatch z) (fun b o _ hb _ e n=>u.keep b o e n hb (by simp)) (fun b o _ hb _ e n=>u.slot b o e n hb (by simp)) (fun b o _ e n=>u.free b o e n (by simp)) (fun b o _ e=>u.there b o e (by simp)) u.tups u.frzs u.tbls (fun m' hm=>by
  obtain ⟨o',es',ep',ho',r'⟩:=hm
  rw [ho] at ho'; cases ho'
  exact ⟨_,es',ep',hL,r'⟩) hok I.bare
theorem Inv.call {g':Array GenState}{t':Nat}{d':Drawn}{ch:List Addr}(I:Inv X pins σ H s) (u:Un (frs X.stack) ch H H' s.heap h') (hok:HOk X.prog X.w X.K H' h') (hg:AllBare g')
  (hch:∀b∈ch,(b∈X.ex∨X.s₀.heap.objs.size<=b)/\b≠X.env.locals/\(∀x c,X.env.cells.lookup x=some c->c≠b)/\∀p∈X.pn++pins,p.1≠b) :
  Inv X pins σ H' { s with heap:=h',gens:=g',drawn:=d',toks:=t' }:=by
 obtain ⟨m,⟨o,es,ep,ho,r⟩,_⟩:=id I.loc
 obtain ⟨sl,hL⟩:=u.any ho I.free fun z=>(hch _ z).2.1 rfl
 exact I.step (ch:=ch) hch (fun b o hL hb hc e n=>u.keep b o e n (fun z=>(List.mem_cons.mp (I.stkSub b z)).elim hL hb) hc) (fun b o _ _ hc e n=>u.any e n hc) (fun b o hc e n=>u.free b o e n hc) (fun b o hc e=>u.there b o e hc) u.tups u.frzs u.tbls (fun m' hm=>by
  obtain ⟨o',es',ep',ho',r'⟩:=hm
  rw [ho] at ho'; cases ho'
  exact ⟨_,es',ep',hL,r'⟩) hok hg
theorem Inv.turned {t':Nat}{it:Addr}(I:Inv X pins σ H s) (k:∀b o,b≠it->s.heap.get? b=some o->h'.get? b=some o) (hn:H it=none) (hL:it≠X.env.locals)
  (h1:it∈X.ex∨X.s₀.heap.objs.size<=it) (h2:∀x c,X.env.cells.lookup x=some c->c≠it) (h3:∀p∈X.pn++pins,p.1≠it):Inv X pins σ H { s with heap:=h',toks:=t' }:=by
 have nit:∀b u,H b=some u->b≠it:=fun b u e z=>by rw [z,hn] at e; cases e
 refine I.step (g':=s.gens) (d':=s.drawn) (ch:=[it]) (fun b hb=>?_) (fun b o _ _ hc e _=>k b o (fun z=>hc (by simp [z])) e) (fun b o _ _ hc e _=>⟨o.slots,k b o (fun z=>hc (by simp [z])) e⟩) (fun _ _ _ _ n=>n)
  (fun b o hc e=>⟨o,k b o (fun z=>hc (by simp [z])) e⟩) (fun _ _ e=>e) (fun _ _ _ e=>e) (fun b ps e=>⟨#[],by rw [e]; simp⟩) (fun m hm=>?_) (fun b u e=>?_) I.bare
 ·have e:b=it:=by simpa using hb
  subst e
  exact ⟨h1,hL,h2,h3⟩
 ·obtain ⟨o,es,ep,ho,r⟩:=hm
  exact ⟨o,es,ep,k _ o (Ne.symm hL) ho,r⟩
 ·refine (I.hok b u e).stay (fun c v hc q=>k c v ?_ q) (fun _ q=>q) fun _ _ q=>q
  rcases hc with z | z
  ·rw [z]; exact nit b u e
  ·exact nit c _ z
theorem Inv.tok (I:Inv X pins σ H s) (t:Nat):Inv X pins σ H { s with toks:=t }:=I.un (h':=s.heap) (t':=t) Un.refl I.hok
theorem Inv.kept {t':Nat}(I:Inv X pins σ H s) (k:∀b u,s.heap.get? b=some u->h'.get? b=some u):Inv X pins σ H { s with heap:=h',toks:=t' }:=I.un (Un.kept k) (I.hok.kept k)
theorem Inv.laid {a:Addr}{o:HO}{t':Nat}(I:Inv X pins σ H s) (k:∀b u,s.heap.get? b=some u->h'.get? b=some u) (hp:s.heap.objs.size<=a) (new:ObjOk X.prog X.w X.K (upd H a o) h' a o) :
  Inv X pins σ (upd H a o) { s with heap:=h',toks:=t' }:=I.un (Un.laid k hp (I.hok.fresh hp)) (I.hok.laid k hp new)
theorem Inv.write {x e:Addr}{o:HO}{t':Nat}(I:Inv X pins σ H s) (mu:Mut (H x)) (he:e=x∨H e=some (.own x)) (k:∀b u,b≠e->s.heap.get? b=some u->h'.get? b=some u) (heo:∃u,h'.get? e=some u)
  (new:ObjOk X.prog X.w X.K (upd H x o) h' x o):Inv X pins σ (upd H x o) { s with heap:=h',toks:=t' }:=I.un (Un.write mu he k heo) (I.hok.write mu he k heo new)
theorem Inv.weak {σ':List (Option V)}(I:Inv X pins σ H s) (hl:σ'.length=σ.length) (w:∀(i:Nat) v,σ'[i]?=some (some v)->σ[i]?=some (some v)):Inv X pins σ' H s :=
 ⟨I.ok,I.os,I.bare,I.base,let ⟨m,hn,hl'⟩:=I.loc; ⟨m,hn,fun i x v e1 e2 e3=>hl' i x v e1 (w i v e2) e3⟩,I.cell,I.free,I.freeC,I.pin,I.hok,hl.trans I.len⟩
theorem Inv.pins_of {pins':List (Addr×Obj)}(I:Inv X pins σ H s) (h:∀p∈pins',s.heap.get? p.1=some p.2/\H p.1=none/\p.1≠X.env.locals/\p.1∉X.fs/\∀v,p.2.data≠.cell v):Inv X pins' σ H s :=
 ⟨I.ok,I.os,I.bare,I.base,I.loc,I.cell,I.free,I.freeC,fun p hp=>(List.mem_append.mp hp).elim (fun z=>I.pin p (List.mem_append_left _ z)) (h p),I.hok,I.len⟩
theorem n_ {N:List Str}(hN:N.Nodup) {i j:Nat}{x:Str}(a:N[i]?=some x) (b:N[j]?=some x):i=j:=by
 obtain ⟨h1,e1⟩:=List.getElem?_eq_some_iff.mp a
 obtain ⟨h2,e2⟩:=List.getElem?_eq_some_iff.mp b
 exact (List.getElem_inj hN).mp (e1.trans e2.symm)
theorem lg {M:Model}{A:Around}{E:Value->Shared->Prop}{i:Nat}{x:Str}{v:V}{u:Value}{Q:Unit->Shared->Prop}(I:Inv X pins σ H s) (hN:X.N.Nodup) (hi:X.N[i]?=some x) (hx:Loc X.env.scope x) (r:RelV v u)
  (h:∀s',Inv X pins (σ.set i (some v)) H s'->(∃a,Heap.SameBut a s.heap s'.heap/\(a=X.env.locals∨X.env.cells.lookup x=some a))->Q () s') (hf:X.fn x=true∨X.env.scope.names.lookup x=some .local:=by first | exact .inl rfl | exact .inr rfl | assumption):wpAny M A (storeName X.env x u) Q E s:=by
 obtain ⟨m,hn,hl⟩:=id I.loc
 have hcls:(X.env.scope.kind == .class || (X.env.scope.kind == .module && X.env.locals != X.env.globals))=false:=by rw [I.ok.kind]; rfl
 have hiσ:i<σ.length:=by rw [I.len]; exact (List.getElem?_eq_some_iff.mp hi).1
 have cne:=I.cne
 have tracked:∀{a:Addr}{h':Heap},(∃o,s.heap.get? a=some o/\H a=none)->Heap.SameBut a s.heap h'->HOk X.prog X.w X.K H h':=fun {a h'} ha hs b ob e=>by
  obtain ⟨_,_,hfree⟩:=ha
  refine (I.hok b ob e).stay (fun c w' hc q=>(hs.2 c ?_).trans q) (fun _ q=>q) fun _ _ q=>q
  rintro rfl
  rcases hc with rfl | hc
  ·rw [hfree] at e; cases e
  ·rw [hfree] at hc; cases hc
 rcases hx with hk | hk
 ·refine wpAny_storeName_local hk hn (fun h' hn' hs=>?_) hcls
  obtain ⟨oL,_,_,hoL,_⟩:=id hn
  refine h _ ⟨I.ok,I.os,I.bare,⟨fun b o e n hb hx=>?_,fun b o e n hb hx=>?_,I.base.free,fun b o e hx=>?_,I.base.tups,I.base.frzs,I.base.tbls⟩,⟨_,hn',fun j y v' e1 e2 e3=>?_⟩,fun y c e=>?_,I.free,I.freeC,fun p hp=>?_,tracked ⟨oL,hoL,I.free⟩ hs,by simpa using I.len⟩ ⟨_,hs,.inl rfl⟩
  ·exact (hs.2 b (Nat.ne_of_lt (Nat.lt_of_lt_of_le (Heap.lt_size e) I.ok.above))).trans (I.base.keep b o e n hb hx)
  ·obtain ⟨sl,e1⟩:=I.base.slot b o e n hb hx
   exact ⟨sl,(hs.2 b (Nat.ne_of_lt (Nat.lt_of_lt_of_le (Heap.lt_size e) I.ok.above))).trans e1⟩
  ·obtain ⟨o',e1⟩:=I.base.there b o e hx
   exact ⟨o',(hs.2 b (Nat.ne_of_lt (Nat.lt_of_lt_of_le (Heap.lt_size e) I.ok.above))).trans e1⟩
  ·by_cases hj:j=i
   ·subst hj
    rw [hi] at e1; cases e1
    rw [List.getElem?_set_self hiσ] at e2
    cases e2
    exact ⟨u,r,.inl ⟨hk,by simp⟩⟩
   ·rw [List.getElem?_set_ne (Ne.symm hj)] at e2
    obtain ⟨u',r',q⟩:=hl j y v' e1 e2 e3
    refine ⟨u',r',?_⟩
    rcases q with ⟨k,e⟩ | ⟨k,c,e,z⟩
    ·refine .inl ⟨k,?_⟩
     have:y≠x:=fun e=>hj (n_ hN e1 (e ▸ hi))
     simp [this,e]
    ·exact .inr ⟨k,c,e,z.sameBut hs (cne y c e)⟩
  ·obtain ⟨w',z⟩:=I.cell y c e
   exact ⟨w',z.sameBut hs (cne y c e)⟩
  ·obtain ⟨e,n,ne,nf,d⟩:=I.pin p hp
   exact ⟨(hs.2 p.1 ne).trans e,n,ne,nf,d⟩
 ·have hfn:X.fn x=true:=by
   rcases hf with z | z
   ·exact z
   ·rw [z] at hk; cases hk
  obtain ⟨c,hc⟩:=I.ok.has x (.inl hk)
  obtain ⟨w',z⟩:=I.cell x c hc
  refine wpAny_storeName_cell I.ok.kind hk hc z (fun h' hc' hs=>?_)
  obtain ⟨oc,hoc,hocd⟩:=id z
  refine h { s with heap:=h' } ⟨I.ok,I.os,I.bare,⟨fun b o e n hb hx=>?_,fun b o e n hb hx=>?_,I.base.free,fun b o e hx=>?_,I.base.tups,I.base.frzs,I.base.tbls⟩,⟨m,hn.sameBut hs (Ne.symm (cne x c hc)),fun j y v' e1 e2 e3=>?_⟩,fun y c' e=>?_,I.free,I.freeC,fun p hp=>?_,tracked ⟨oc,hoc,I.freeC x c hc⟩ hs,by simpa using I.len⟩ ⟨c,hs,.inr hc⟩
  ·exact (hs.2 b (Nat.ne_of_lt (Nat.lt_of_lt_of_le (Heap.lt_size e) (I.ok.cab x c hfn hc)))).trans (I.base.keep b o e n hb hx)
  ·obtain ⟨sl,e1⟩:=I.base.slot b o e n hb hx
   exact ⟨sl,(hs.2 b (Nat.ne_of_lt (Nat.lt_of_lt_of_le (Heap.lt_size e) (I.ok.cab x c hfn hc)))).trans e1⟩
  ·obtain ⟨o',e1⟩:=I.base.there b o e hx
   exact ⟨o',(hs.2 b (Nat.ne_of_lt (Nat.lt_of_lt_of_le (Heap.lt_size e) (I.ok.cab x c hfn hc)))).trans e1⟩
  ·by_cases hj:j=i
   ·subst hj
    rw [hi] at e1; cases e1
    rw [List.getElem?_set_self hiσ] at e2
    cases e2
    exact ⟨u,r,.inr ⟨.inl hk,c,hc,hc'⟩⟩
   ·rw [List.getElem?_set_ne (Ne.symm hj)] at e2
    obtain ⟨u',r',q⟩:=hl j y v' e1 e2 e3
    refine ⟨u',r',?_⟩
    rcases q with q | ⟨k,c',e,z'⟩
    ·exact .inl q
    ·refine .inr ⟨k,c',e,z'.sameBut hs ?_⟩
     rintro rfl
     exact hj (n_ hN e1 (I.ok.inj _ _ _ e hc ▸ hi))
  ·by_cases hcc:c'=c
   ·subst hcc; exact ⟨_,hc'⟩
   ·obtain ⟨w2,z2⟩:=I.cell y c' e
    exact ⟨w2,z2.sameBut hs hcc⟩
  ·obtain ⟨e,n,ne,nf,d⟩:=I.pin p hp
   refine ⟨(hs.2 p.1 ?_).trans e,n,ne,nf,d⟩
   intro q
   rw [q,hoc] at e
   have q':oc=p.2:=Option.some.inj e
   exact d w' (by rw [<-q']; exact hocd)
theorem nS {M:Model}{A:Around}{E:Value->Shared->Prop}{i:Nat}{x:Str}{v:V}{u:Value}{Q:Unit->Shared->Prop}(I:Inv X pins σ H s) (hN:X.N.Nodup) (hi:X.N[i]?=some x) (hx:Loc X.env.scope x) (r:RelV v u)
  (h:∀s',Inv X pins (σ.set i (some v)) H s'->Q () s') (hf:X.fn x=true∨X.env.scope.names.lookup x=some .local:=by first | exact .inl rfl | exact .inr rfl | assumption):wpAny M A (storeName X.env x u) Q E s :=
 lg I hN hi hx r (fun s' I' _=>h s' I') hf
theorem Inv.call' {s':Shared}{ch:List Addr}(I:Inv X pins σ H s) (ho:s'.os=s.os) (u:Un (frs X.stack) ch H H' s.heap s'.heap) (hok:HOk X.prog X.w X.K H' s'.heap) (hg:AllBare s'.gens)
  (hch:∀b∈ch,(b∈X.ex∨X.s₀.heap.objs.size<=b)/\b≠X.env.locals/\(∀x c,X.env.cells.lookup x=some c->c≠b)/\∀p∈X.pn++pins,p.1≠b):Inv X pins σ H' s':=by
 obtain ⟨h',g',d',t',o'⟩:=s'
 have e:o'=s.os:=ho
 subst e
 exact I.call (g':=g') (t':=t') (d':=d') u hok hg hch
end
abbrev XK:=Value->Option Addr->Hp->Prop
abbrev St:=List (Option V)
abbrev VK:=V->Hp->Prop
abbrev TE:=St->Hp->VK->Prop
abbrev TT:=St->Hp->(Bool->Hp->Prop)->Prop
abbrev TA:=St->Hp->(List V->Hp->Prop)->Prop
structure kL where
 nx:St->Hp->Prop
 rt:VK
 bk:St->Hp->Prop:=fun _ _=>False
 ct:St->Hp->Prop:=fun _ _=>False
abbrev TS:=kL->St->Hp->Prop
def EP (X:Cx) (pins:List (Addr×Obj)) (σ:St) (Q:VK) (u:Value) (s':Shared):Prop:=∃v H',Inv X pins σ H' s'/\RelV v u/\Q v H'
def TP (X:Cx) (pins:List (Addr×Obj)) (σ:St) (Q:Bool->Hp->Prop) (b:Bool) (s':Shared):Prop:=∃H',Inv X pins σ H' s'/\Q b H'
def AP (X:Cx) (pins:List (Addr×Obj)) (σ:St) (Q:List V->Hp->Prop) (us:List Value) (s':Shared):Prop:=∃vs H',Inv X pins σ H' s'/\Vals vs us/\Q vs H'
def SP (X:Cx) (pins:List (Addr×Obj)) (D:kL) (f:Flow) (s':Shared):Prop :=
 match f with
 | .next=>∃σ' H',Inv X pins σ' H' s'/\D.nx σ' H'
 | .brk=>∃σ' H',Inv X pins σ' H' s'/\D.bk σ' H'
 | .cont=>∃σ' H',Inv X pins σ' H' s'/\D.ct σ' H'
 | .ret u=>∃v σ' H',Inv X pins σ' H' s'/\RelV v u/\D.rt v H'
def PE (X:Cx) (e:Expr) (t:TE):Prop :=
 ∀(pins:List (Addr×Obj)) (s:Shared) (σ:St) (H:Hp) (Q:VK),Inv X pins σ H s->t σ H Q->wpAny (model X.prog X.w) X.A (eval e X.env) (EP X pins σ Q) X.xe s
def PT (X:Cx) (e:Expr) (t:TT):Prop :=
 ∀(pins:List (Addr×Obj)) (s:Shared) (σ:St) (H:Hp) (Q:Bool->Hp->Prop),Inv X pins σ H s->t σ H Q->wpAny (model X.prog X.w) X.A (isTrue e X.env (eval e X.env)) (TP X pins σ Q) X.xe s
def PW (X:Cx) (e:Expr) (t:TT):Prop :=
 ∀(whole:Sem Value) (pins:List (Addr×Obj)) (s:Shared) (σ:St) (H:Hp) (Q:Bool->Hp->Prop),Inv X pins σ H s->t σ H Q->wpAny (model X.prog X.w) X.A (isTrue e X.env whole) (TP X pins σ Q) X.xe s
theorem PW.pt {X:Cx}{e:Expr}{t:TT}(h:PW X e t):PT X e t:=h _
def PA (X:Cx) (es:List Expr) (t:TA):Prop :=
 ∀(pos:Pos) (pins:List (Addr×Obj)) (s:Shared) (σ:St) (H:Hp) (Q:List V->Hp->Prop),Inv X pins σ H s->t σ H Q->wpAny (model X.prog X.w) X.A (spliced (backTo pos (starEach es X.env))) (AP X pins σ Q) X.xe s
def PS (X:Cx) (st:Stmt) (t:TS):Prop :=
 ∀(pins:List (Addr×Obj)) (s:Shared) (σ:St) (H:Hp) (D:kL),Inv X pins σ H s->t D σ H->wpAny (model X.prog X.w) X.A (exec st X.env) (SP X pins D) X.xe s
def PSs (X:Cx) (st:List Stmt) (t:TS):Prop :=
 ∀(pins:List (Addr×Obj)) (s:Shared) (σ:St) (H:Hp) (D:kL),Inv X pins σ H s->t D σ H->wpAny (model X.prog X.w) X.A (execs st X.env) (SP X pins D) X.xe s
theorem thn {α:Type}{t:Sem α}{Q Q':α->Shared->Prop}{M:Model}{A:Around}{E:Value->Shared->Prop}{s:Shared}(h:wpAny M A t Q E s) (hQ:∀a s,Q a s->Q' a s):wpAny M A t Q' E s:=wpAny_mono h hQ fun _ _ x=>x
end L2
namespace L2
open PySem PySem.Spec PyProof.Rows
section
variable {X:Cx}
theorem bin {a b:Expr}{ta tb:TE}(ha:PE X a ta) (hb:PE X b tb) {pins:List (Addr×Obj)}{s:Shared}{σ:St}{H:Hp}{R:V->V->Hp->Prop}(I:Inv X pins σ H s) (h:ta σ H fun x H1=>tb σ H1 fun y H2=>R x y H2)
  {α:Type}{Q:α->Shared->Prop}{f:Value->Value->Sem α}
  (hf:∀v u s2 x y H2,Inv X pins σ H2 s2->RelV x v->RelV y u->R x y H2->wpAny (model X.prog X.w) X.A (f v u) Q X.xe s2) :
  wpAny (model X.prog X.w) X.A (eval a X.env) (fun v s₁=>wpAny (model X.prog X.w) X.A (eval b X.env) (fun u s₂=>wpAny (model X.prog X.w) X.A (f v u) Q X.xe s₂) X.xe s₁) X.xe s:=by
 refine thn (ha pins s σ H _ I h) fun v s1 ⟨x,H1,I1,r1,q1⟩=>?_
 refine thn (hb pins s1 σ H1 _ I1 q1) fun u s2 ⟨y,H2,I2,r2,q2⟩=>?_
 exact hf v u s2 x y H2 I2 r1 r2 q2
def ag (i:Nat):TE:=fun σ H Q=>∃v,σ[i]?=some (some v)/\Q v H
def tC (v:V):TE:=fun _ H Q=>Q v H
theorem wa {i:Nat}{x:Str}{pos:Pos}(hN:X.N[i]?=some x) (hv:Vis X.env.scope x) (hd:(x == ("__debug__":Str))=false:=by decide) (hcd:(x == ("__classdict__":Str))=false:=by decide):PE X (.Name x pos) (ag i):=by
 intro pins s σ H Q I h
 obtain ⟨v,e,h⟩:=h
 obtain ⟨m,hn,hl⟩:=I.loc
 obtain ⟨u,r,l⟩:=hl i x v hN e hv
 have fin:EP X pins σ Q u s:=⟨v,H,I,r,h⟩
 rcases l with ⟨hk,hm⟩ | ⟨hk,c,hc,hcell⟩
 ·exact wpAny_Name (wpAny_loadName_local I.ok.kind hk hn hm fin) hd
 ·rcases hk with hk | hk
  ·exact wpAny_Name (wpAny_loadName_cell I.ok.kind hk hc hcell fin) hd
  ·exact wpAny_Name (wpAny_loadName_free I.ok.kind hk hc hcell fin hcd) hd
theorem ai {i j pos}:PE X (.Constant (.int i) j pos) (tC (.int i)):=fun _ _ _ H _ I h=>wpAny_Constant_int ⟨.int i,H,I.tok _,⟨_,rfl⟩,h⟩
theorem eO {b j pos}:PE X (.Constant (.bool b) j pos) (tC (.bl b)):=fun _ _ _ H _ I h=>Constant_bool ⟨.bl b,H,I,rfl,h⟩
theorem qU {j pos}:PE X (.Constant .none j pos) (tC .non):=fun _ _ _ H _ I h=>Constant_none ⟨.non,H,I,rfl,h⟩
theorem bh {x j pos}:PE X (.Constant (.str x) j pos) (tC (.str x)):=fun _ _ _ H _ I h=>Calls.Constant_str ⟨.str x,H,I.tok _,⟨_,rfl⟩,h⟩
def Gl (X:Cx) (x:Str):Prop:=X.env.kindOf x=some .globalImplicit
theorem ni {E:Value->Shared->Prop}{pins:List (Addr×Obj)}{s:Shared}{σ:St}{H:Hp}{x:Str}{u:Value}{pos:Pos}{Q:Value->Shared->Prop}(I:Inv X pins σ H s) (hg:Gl X x) (hm:X.mg x=some u) (h:Q u s)
  (hd:(x == ("__debug__":Str))=false:=by decide):wpAny (model X.prog X.w) X.A (eval (.Name x pos) X.env) Q E s :=
 Calls.Name_function_global I.ok.kind hg (Calls.loadGlobal_global (by rw [I.ok.glob]; exact I.mod.glob.keeps I.bk) hm h) hd
theorem g7 {E:Value->Shared->Prop}{pins:List (Addr×Obj)}{s:Shared}{σ:St}{H:Hp}{x:Str}{u:Value}{pos:Pos}{Q:Value->Shared->Prop}(I:Inv X pins σ H s) (hg:Gl X x) (hm:X.mg x=none) (hv:bootBuiltins x=some u) (h:Q u s)
  (hn:x≠"__name__":=by decide) (hd:(x == ("__debug__":Str))=false:=by decide):wpAny (model X.prog X.w) X.A (eval (.Name x pos) X.env) Q E s:=by
 obtain ⟨mb,h1,h2⟩:=I.mod.blt
 exact Calls.Name_function_global I.ok.kind hg (Calls.loadGlobal_builtin (by rw [I.ok.glob]; exact I.mod.glob.keeps I.bk) hm (by rw [I.ok.blt]; exact h1.keeps I.bk) ((h2 x hn).trans hv) h) hd
theorem ve {x:Str}{v:V}{u:Value}{pos:Pos}(hg:Gl X x) (hm:X.mg x=some u) (r:RelV v u) (hd:(x == ("__debug__":Str))=false:=by decide):PE X (.Name x pos) (tC v) :=
 fun _ _ _ H _ I h=>ni I hg hm ⟨v,H,I,r,h⟩ hd
theorem iQ {x:Str}{v:V}{u:Value}{pos:Pos}(hg:Gl X x) (hm:X.mg x=none) (hv:bootBuiltins x=some u) (r:RelV v u) (hn:x≠"__name__":=by decide) (hd:(x == ("__debug__":Str))=false:=by decide):PE X (.Name x pos) (tC v) :=
 fun _ _ _ H _ I h=>g7 I hg hm hv ⟨v,H,I,r,h⟩ hn hd
variable {a b:Expr}{ta tb:TE}{pos:Pos}
def PC (X:Cx) (op:CmpOp) (a b:Expr) (t:TE):Prop :=
 ∀(pins:List (Addr×Obj)) (s:Shared) (σ:St) (H:Hp) (Q:VK),Inv X pins σ H s->t σ H Q ->
  wpAny (model X.prog X.w) X.A (eval a X.env) (fun v s₁=>wpAny (model X.prog X.w) X.A (eval b X.env) (fun u s₂=>wpAny (model X.prog X.w) X.A (compareOp op v u) (EP X pins σ Q) X.xe s₂) X.xe s₁) X.xe s
theorem og (b:Expr) {op:CmpOp}(h:op≠.In) (h2:op≠.NotIn):behindInMarks op b=false:=by
 have e1:(op == CmpOp.In)=false:=by cases op <;> first | rfl | exact absurd rfl h
 have e2:(op == CmpOp.NotIn)=false:=by cases op <;> first | rfl | exact absurd rfl h2
 cases b <;> simp [behindInMarks,e1,e2]
def wJ (ta:TE):TE:=fun σ H Q=>ta σ H fun x H1=>Q (.bl (decide (x=.non))) H1
def vV (ta:TE):TE:=fun σ H Q=>ta σ H fun x H1=>Q (.bl (!decide (x=.non))) H1
theorem RelV.none_iff {x:V}{v:Value}(r:RelV x v):(v == Value.none)=decide (x=.non):=by
 cases x with
 | non=>cases r; rfl
 | bl _=>cases r; rfl
 | int _=>obtain ⟨t,rfl⟩:=r; rfl
 | str _=>obtain ⟨t,rfl⟩:=r; rfl
 | byt _=>obtain ⟨t,rfl⟩:=r; rfl
 | flt _=>obtain ⟨t,rfl⟩:=r; rfl
 | ref _=>cases r; rfl
 | ty _=>cases r; rfl
theorem uq {j pos'}(ha:PE X a ta):PC X .Is a (.Constant .none j pos') (wJ ta):=by
 intro pins s σ H Q I h
 refine thn (ha pins s σ H _ I h) fun v s1 ⟨x,H1,I1,r1,q1⟩=>?_
 exact Constant_none (is_none_gen ⟨.bl _,H1,I1,by rw [r1.none_iff]; rfl,q1⟩)
theorem vi {j pos'}(ha:PE X a ta):PC X .IsNot a (.Constant .none j pos') (vV ta):=by
 intro pins s σ H Q I h
 refine thn (ha pins s σ H _ I h) fun v s1 ⟨x,H1,I1,r1,q1⟩=>?_
 exact Constant_none (isnot_none_gen ⟨.bl _,H1,I1,by rw [r1.none_iff]; rfl,q1⟩)
def tB (t:TE):TT:=fun σ H Q=>t σ H fun x H1=>∃c,x=.bl c/\Q c H1
theorem uo {op:CmpOp}{t:TE}(h:PC X op a b t) (h1:behindInMarks op b=false:=by first | exact og _ (by decide) (by decide) | rfl):PE X (.Compare a [op] [b] pos) t:=fun pins s σ H Q I hw=>wpAny_Compare1 (h pins s σ H Q I hw) h1
theorem dF {op:CmpOp}{t:TE}(h:PC X op a b t) (h1:behindInMarks op b=false:=by first | exact og _ (by decide) (by decide) | rfl):PT X (.Compare a [op] [b] pos) (tB t):=by
 intro pins s σ H Q I hw
 refine wpAny_isTrue_Compare1 (thn (h pins s σ H _ I hw) fun v s1 h1=>thn h1 fun u s2 h2=>thn h2 fun c s3 ⟨x,H1,I1,r1,q1⟩=>?_) h1
 obtain ⟨d,rfl,q⟩:=q1
 cases r1
 exact wpAny_truthy_bool ⟨H1,I1,q⟩
theorem fP {e:Expr}{t:TE}(h:PE X e t) (he:∀whole,isTrue e X.env whole=(do let v <- whole; standAt e.pos; holding [v] (truthy v)):=by intro _; rfl):PT X e (tB t):=by
 intro pins s σ H Q I hw
 refine isTrue_plain (thn (h pins s σ H _ I hw) fun v s1 ⟨x,H1,I1,r1,q1⟩=>?_) (he _)
 obtain ⟨d,rfl,q⟩:=q1
 cases r1
 exact wpAny_truthy_bool ⟨H1,I1,q⟩
variable {tA tB':TT}{rest:List Expr}
def vK (t u:TT):TT:=fun σ H Q=>t σ H fun c H1=>if c=true then u σ H1 Q else Q false H1
def tOr (t u:TT):TT:=fun σ H Q=>t σ H fun c H1=>if c=true then Q true H1 else u σ H1 Q
def uk (t:TT):TT:=fun σ H Q=>t σ H fun c H1=>Q (!c) H1
theorem ko (ha:PT X a tA):PW X (.BoolOp .And [a] pos) tA:=by
 intro wh pins s σ H Q I h
 refine isTrue_and (thn (ha pins s σ H Q I h) fun c s1 e=>?_)
 cases c with
 | true=>exact isTrue_and_nil e
 | false=>exact e
theorem lA (ha:PT X a tA):PW X (.BoolOp .Or [a] pos) tA:=by
 intro wh pins s σ H Q I h
 refine isTrue_or (thn (ha pins s σ H Q I h) fun c s1 e=>?_)
 cases c with
 | false=>exact isTrue_or_nil e
 | true=>exact e
theorem lB (ha:PT X a tA) (hb:PW X (.BoolOp .And (b::rest) pos) tB'):PW X (.BoolOp .And (a::b::rest) pos) (vK tA tB'):=by
 intro wh pins s σ H Q I h
 refine isTrue_and (thn (ha pins s σ H _ I h) fun c s1 ⟨H1,I1,q1⟩=>?_)
 cases c with
 | true=>exact hb wh pins s1 σ H1 Q I1 q1
 | false=>exact ⟨H1,I1,q1⟩
theorem nc (ha:PT X a tA) (hb:PW X (.BoolOp .Or (b::rest) pos) tB'):PW X (.BoolOp .Or (a::b::rest) pos) (tOr tA tB'):=by
 intro wh pins s σ H Q I h
 refine isTrue_or (thn (ha pins s σ H _ I h) fun c s1 ⟨H1,I1,q1⟩=>?_)
 cases c with
 | true=>exact ⟨H1,I1,q1⟩
 | false=>exact hb wh pins s1 σ H1 Q I1 q1
theorem nY (ha:PT X a tA):PT X (.UnaryOp .Not a pos) (uk tA):=by
 intro pins s σ H Q I h
 exact isTrue_not (ha pins s σ H (fun c H1=>Q (!c) H1) I h)
def pc (ta tb:TE):TE:=fun σ H Q=>ta σ H fun x H1=>∃c,x=.bl c/\if c=true then tb σ H1 Q else Q (.bl false) H1
def vU (ta:TE):TE:=fun σ H Q=>ta σ H fun x H1=>∃c,x=.bl c/\Q (.bl (!c)) H1
theorem qT {op}{t:TE}(h:PE X a t):PE X (.BoolOp op [a] pos) t:=fun pins s σ H Q I hw=>BoolOp_one (h pins s σ H Q I hw)
theorem lJ (ha:PE X a ta) (hb:PE X (.BoolOp .And (b::rest) pos) tb):PE X (.BoolOp .And (a::b::rest) pos) (pc ta tb):=by
 intro pins s σ H Q I h
 refine BoolOp_and (thn (ha pins s σ H _ I h) fun v s1 ⟨x,H1,I1,r1,q1⟩=>?_)
 obtain ⟨c,rfl,q1⟩:=q1
 cases r1
 refine wpAny_truthy_bool ?_
 cases c with
 | true=>exact hb pins s1 σ H1 Q I1 q1
 | false=>exact ⟨.bl false,H1,I1,rfl,q1⟩
theorem wb (ha:PE X a ta):PE X (.UnaryOp .Not a pos) (vU ta):=by
 intro pins s σ H Q I h
 refine UnaryOp_ (thn (ha pins s σ H _ I h) fun v s1 ⟨x,H1,I1,r1,q1⟩=>?_)
 obtain ⟨c,rfl,q1⟩:=q1
 cases r1
 exact not_of (wpAny_truthy_bool ⟨.bl (!c),H1,I1,rfl,q1⟩)
end
end L2
namespace L2
open PySem PySem.Spec PyProof.Rows
def SqL (K:PySem.W.Frag) (H:Hp) (a:Addr) (xs:List V):Prop :=
 Rd H a (.lst xs) ∨
  ∃(o:Obj) (its:Array Value) (n:Nat),K.lookup a=some o/\o.cls=.type "list"/\o.dict=none/\o.data=.seq its n/\its.size<=sizeLine/\Vals xs its.toList
def SqT (K:PySem.W.Frag) (H:Hp) (a:Addr) (xs:List V):Prop :=
 Rd H a (.tup xs) ∨
  ∃(o:Obj) (its:Array Value) (n:Nat),K.lookup a=some o/\o.cls=.type "tuple"/\o.data=.seq its n/\its.size<=sizeLine/\Vals xs its.toList
def xw:Value->Option V
 | .none=>some .non
 | .bool b=>some (.bl b)
 | .int i _=>some (.int i)
 | .str x _=>some (.str x)
 | .bytes b _=>some (.byt b)
 | .float b _=>some (.flt b)
 | .ref a=>some (.ref a)
 | .type n=>some (.ty n)
 | _=>none
theorem RelV.abs {x:V}{u:Value}(r:RelV x u):xw u=some x:=by
 cases x with
 | non=>cases r; rfl
 | bl _=>cases r; rfl
 | int _=>obtain ⟨t,rfl⟩:=r; rfl
 | str _=>obtain ⟨t,rfl⟩:=r; rfl
 | byt _=>obtain ⟨t,rfl⟩:=r; rfl
 | flt _=>obtain ⟨t,rfl⟩:=r; rfl
 | ref _=>cases r; rfl
 | ty _=>cases r; rfl
theorem RelV.inj {x y:V}{u:Value}(r:RelV x u) (q:RelV y u):x=y:=Option.some.inj (r.abs.symm.trans q.abs)
theorem Vals.inj:∀{xs ys:List V}{us:List Value},Vals xs us->Vals ys us->xs=ys
 | _,_,_,.nil,.nil=>rfl
 | _,_,_,.cons r t,.cons r' t'=>by rw [r.inj r',Vals.inj t t']
section
variable {X:Cx}{pins:List (Addr×Obj)}{σ:St}{H:Hp}{s:Shared}{a:Addr}{xs ys:List V}
theorem SqL.of {K:PySem.W.Frag}(h:H a=some (.lst xs)):SqL K H a xs:=.inl (.inl h)
theorem SqT.of {K:PySem.W.Frag}(h:H a=some (.tup xs)):SqT K H a xs:=.inl (.inl h)
theorem Inv.list (I:Inv X pins σ H s) (h:SqL X.K H a xs):∃its:List Value,Vals xs its/\PlainL s.heap a its.toArray/\xs.length<=sizeLine:=by
 rcases h with h | ⟨o,its,n,hk,hc,hd,hs,hz,r⟩
 ·obtain ⟨z,its,n,r,e⟩:=h.ok I.hok
  exact ⟨its,r,⟨_,n,e,rfl,rfl,rfl⟩,z⟩
 ·refine ⟨its.toList,r,⟨o,n,I.kIn a o hk,hc,hd,by simpa using hs⟩,?_⟩
  have e:=r.length
  simp only [Array.length_toList] at e
  omega
theorem Inv.tuple (I:Inv X pins σ H s) (h:SqT X.K H a xs):∃its:List Value,Vals xs its/\IsTup s.heap a its.toArray/\xs.length<=sizeLine:=by
 rcases h with h | ⟨o,its,n,hk,hc,hs,hz,r⟩
 ·obtain ⟨z,its,r,p⟩:=h.ok I.hok
  exact ⟨its,r,p,z⟩
 ·refine ⟨its.toList,r,⟨o,I.kIn a o hk,hc,n,by simpa using hs⟩,?_⟩
  have e:=r.length
  simp only [Array.length_toList] at e
  omega
theorem Inv.list_inj (I:Inv X pins σ H s) (h:SqL X.K H a xs) (h':SqL X.K H a ys):xs=ys:=by
 obtain ⟨its,r,⟨o,n,e,_,_,d⟩,_⟩:=I.list h
 obtain ⟨its',r',⟨o',n',e',_,_,d'⟩,_⟩:=I.list h'
 rw [e] at e'; cases e'
 rw [d] at d'
 injection d' with d1 _
 have:its=its':=by simpa using congrArg Array.toList d1
 subst this
 exact r.inj r'
theorem Inv.tuple_inj (I:Inv X pins σ H s) (h:SqT X.K H a xs) (h':SqT X.K H a ys):xs=ys:=by
 obtain ⟨its,r,⟨o,e,_,n,d⟩,_⟩:=I.tuple h
 obtain ⟨its',r',⟨o',e',_,n',d'⟩,_⟩:=I.tuple h'
 rw [e] at e'; cases e'
 rw [d] at d'
 injection d' with d1 _
 have:its=its':=by simpa using congrArg Array.toList d1
 subst this
 exact r.inj r'
end
abbrev Cx.wish (X:Cx) (E:Value->Shared->Prop):Cx:={ X with xe:=E }
abbrev Cx.nox (X:Cx):Cx:=X.wish fun _ _=>False
theorem Cx.Ok.wish {X:Cx}(ok:X.Ok) (E:Value->Shared->Prop):(X.wish E).Ok :=
 ⟨ok.mod,ok.kind,ok.glob,ok.blt,ok.above,ok.inj,ok.has,ok.cab,ok.hd,ok.frames,ok.stk,ok.exf,ok.bs,ok.bsz,ok.noex,ok.exfs,ok.funs,ok.frf⟩
theorem Cx.Ok.unwish {X:Cx}{E:Value->Shared->Prop}(ok:(X.wish E).Ok):X.Ok :=
 ⟨ok.mod,ok.kind,ok.glob,ok.blt,ok.above,ok.inj,ok.has,ok.cab,ok.hd,ok.frames,ok.stk,ok.exf,ok.bs,ok.bsz,ok.noex,ok.exfs,ok.funs,ok.frf⟩
section
variable {X:Cx}{pins:List (Addr×Obj)}{σ:St}{H:Hp}{s:Shared}{E:Value->Shared->Prop}
theorem Inv.wish (I:Inv X pins σ H s) (E:Value->Shared->Prop):Inv (X.wish E) pins σ H s:=⟨I.ok.wish E,I.os,I.bare,I.base,I.loc,I.cell,I.free,I.freeC,I.pin,I.hok,I.len⟩
theorem Inv.unwish (I:Inv (X.wish E) pins σ H s):Inv X pins σ H s:=⟨I.ok.unwish,I.os,I.bare,I.base,I.loc,I.cell,I.free,I.freeC,I.pin,I.hok,I.len⟩
theorem SP.unwish {D:kL}{f:Flow}{s':Shared}(h:SP (X.wish E) pins D f s'):SP X pins D f s':=by
 cases f with
 | next=>obtain ⟨σ',H',I,q⟩:=h; exact ⟨σ',H',I.unwish,q⟩
 | brk=>obtain ⟨σ',H',I,q⟩:=h; exact ⟨σ',H',I.unwish,q⟩
 | cont=>obtain ⟨σ',H',I,q⟩:=h; exact ⟨σ',H',I.unwish,q⟩
 | ret u=>obtain ⟨v,σ',H',I,r,q⟩:=h; exact ⟨v,σ',H',I.unwish,r,q⟩
theorem PSs.nox {st:List Stmt}{t:TS}(h:PSs X.nox st t):PSs X st t:=fun pins s σ H D I hw =>
 wpAny_mono (h pins s σ H D (I.wish _) hw) (fun _ _ q=>q.unwish) fun _ _ z=>False.elim z
end
section
variable {X:Cx}{st:Stmt}{rest:List Stmt}{t u:TS}{e:Expr}{te:TE}{pos:Pos}
def aU:TS:=fun D σ H=>D.nx σ H
def aw (t u:TS):TS:=fun D σ H=>t { D with nx:=u D } σ H
theorem ay:PSs X [] aU:=fun _ _ σ H _ I h=>wpAny_execs_nil ⟨σ,H,I,h⟩
theorem ae (h1:PS X st t) (h2:PSs X rest u):PSs X (st::rest) (aw t u):=by
 intro pins s σ H D I h
 refine wpAny_execs_cons (thn (h1 pins s σ H { D with nx:=u D } I h) fun f s1 q=>?_)
 cases f with
 | next =>
  obtain ⟨σ',H',I',q⟩:=q
  exact h2 pins s1 σ' H' D I' q
 | ret v=>exact q
 | brk=>exact q
 | cont=>exact q
theorem ah (h1:PS X st t):PSs X [st] t:=by
 intro pins s σ H D I h
 refine wpAny_execs_cons (thn (h1 pins s σ H D I h) fun f s1 q=>?_)
 cases f with
 | next=>exact wpAny_execs_nil q
 | ret v=>exact q
 | brk=>exact q
 | cont=>exact q
theorem Inv.quiet {pins:List (Addr×Obj)}{σ:St}{H:Hp}{s:Shared}(I:Inv X pins σ H s):interactive X.env=false:=by simp [interactive,I.ok.kind]
def cG (te:TE):TS:=fun D σ H=>te σ H fun _ H1=>D.nx σ H1
theorem aM (he:PE X e te) (hs:swapsWith e none pos.line X.env=pure false:=by rfl):PS X (.Expr e pos) (cG te):=by
 intro pins s σ H D I h
 exact wpAny_Expr_any (thn (he pins s σ H _ I h) fun v s1 ⟨x,H1,I1,r1,q1⟩=>⟨σ,H1,I1,q1⟩) I.quiet hs
def aZ (te:TE):TS:=fun D σ H=>te σ H D.rt
theorem aq (he:PE X e te):PS X (.Return (some e) pos) (aZ te):=by
 intro pins s σ H D I h
 exact wpAny_Return_some (thn (he pins s σ H _ I h) fun v s1 ⟨x,H1,I1,r1,q1⟩=>⟨x,σ,H1,I1,r1,q1⟩)
def cZ (c:TT) (t u:TS):TS:=fun D σ H=>c σ H fun b H1=>if b=true then t D σ H1 else u D σ H1
theorem bu {c:Expr}{a b:List Stmt}{tc:TT}(hc:PT X c tc) (ha:PSs X a t) (hb:PSs X b u):PS X (.If c a b pos) (cZ tc t u):=by
 intro pins s σ H D I h
 refine wpAny_If (thn (hc pins s σ H _ I h) fun d s1 ⟨H1,I1,q1⟩=>?_)
 cases d with
 | true=>exact ha pins s1 σ H1 D I1 q1
 | false=>exact hb pins s1 σ H1 D I1 q1
def qw:TS:=fun _ _ _=>False
theorem nZ:PS X st qw:=fun _ _ _ _ _ _ h=>h.elim
end
abbrev TG:=V->St->Hp->(St->Hp->Prop)->Prop
abbrev TGs:=List V->St->Hp->(St->Hp->Prop)->Prop
def PG (X:Cx) (target:Expr) (t:TG):Prop :=
 ∀(pins:List (Addr×Obj)) (s:Shared) (σ:St) (H:Hp) (v:V) (u:Value) (Q:St->Hp->Prop),Inv X pins σ H s->RelV v u->t v σ H Q ->
  wpAny (model X.prog X.w) X.A (assign target X.env u) (fun _ s'=>∃σ' H',Inv X pins σ' H' s'/\Q σ' H') X.xe s
def PGs (X:Cx) (ts:List Expr) (t:TGs):Prop :=
 ∀(pins:List (Addr×Obj)) (s:Shared) (σ:St) (H:Hp) (vs:List V) (us:List Value) (Q:St->Hp->Prop),Inv X pins σ H s->Vals vs us->t vs σ H Q ->
  wpAny (model X.prog X.w) X.A (assignInOrder ((assignEach ts X.env).map (·.2)) us) (fun _ s'=>∃σ' H',Inv X pins σ' H' s'/\Q σ' H') X.xe s
abbrev wX:=V->V->V->Hp->(Hp->Prop)->Prop
def xi (X:Cx) (t:wX):Prop :=
 ∀(pins:List (Addr×Obj)) (s:Shared) (σ:St) (H:Hp) (o i v:V) (ov iv u:Value) (Q:Hp->Prop),Inv X pins σ H s->RelV o ov->RelV i iv->RelV v u->t o i v H Q ->
  wpAny (model X.prog X.w) X.A (setItem ov iv u) (fun _ s'=>∃H',Inv X pins σ H' s'/\Q H') X.xe s
section
variable {X:Cx}{pos:Pos}
def ak (i:Nat):TG:=fun v σ H Q=>Q (σ.set i (some v)) H
theorem qS {i:Nat}{x:Str}(hN:X.N.Nodup) (hi:X.N[i]?=some x) (hx:Loc X.env.scope x) (hf:X.fn x=true∨X.env.scope.names.lookup x=some .local:=by first | exact .inl rfl | exact .inr rfl | assumption):PG X (.Name x pos) (ak i):=by
 intro pins s σ H v u Q I r h
 exact wpAny_assign_Name (nS I hN hi hx r (fun s' I'=>⟨_,H,I',h⟩) hf)
def nv:TGs:=fun vs σ H Q=>vs=[]/\Q σ H
def bw (t:TG) (u:TGs):TGs:=fun vs σ H Q=>∃v r,vs=v::r/\t v σ H fun σ' H'=>u r σ' H' Q
theorem cy:PGs X [] nv:=by
 intro pins s σ H vs us Q I r h
 obtain ⟨e,h⟩:=h
 subst e
 cases r
 exact assignInOrder_nil ⟨σ,H,I,h⟩
theorem ax {e:Expr}{es:List Expr}{t:TG}{u:TGs}(h1:PG X e t) (h2:PGs X es u)
  (hs:(assignEach (e::es) X.env).map (·.2)=assign e X.env::(assignEach es X.env).map (·.2):=by rfl):PGs X (e::es) (bw t u):=by
 intro pins s σ H vs us Q I r h
 obtain ⟨v,vr,e1,h⟩:=h
 subst e1
 cases r with
 | cons r rr =>
  rw [hs]
  refine assignInOrder_cons (thn (h1 pins s σ H _ _ _ I r h) fun _ s1 ⟨σ1,H1,I1,q1⟩=>?_)
  exact h2 pins s1 σ1 H1 _ _ Q I1 rr q1
def nu (K:PySem.W.Frag) (n:Nat) (t:TGs):TG:=fun v σ H Q=>∃a xs,v=.ref a/\SqT K H a xs/\xs.length=n/\t xs σ H Q
theorem dW {es:List Expr}{k:Nat}{t:TGs}{n:Nat}(hc:X.calm=true) (h:PGs X es t)
  (hn:(assignEach es X.env).length=n:=by rfl) (hst:(assignEach es X.env).findIdx? (·.1)=none:=by rfl):PG X (.Tuple es k pos) (nu X.K n t):=by
 intro pins s σ H v u Q I r hw
 obtain ⟨a,xs,e1,hq,hl,hw⟩:=hw
 subst e1
 cases r
 obtain ⟨its,rv,ht,hz⟩:=I.tuple hq
 refine assign_Tuple_tuple (I.ok.hd hc) ht (by simp [hn,<-hl,rv.length]) hst fun h' hx=>?_
 have I1:Inv X pins σ H { s with heap:=h' }:=I.kept (t':=s.toks) fun b o e=>hx b o (Nat.ne_of_lt (Heap.lt_size e)) e
 exact h pins _ σ H xs _ Q I1 (by simpa using rv) hw
def vv (to ti:TE) (t:wX):TG:=fun v σ H Q=>to σ H fun o H1=>ti σ H1 fun i H2=>t o i v H2 fun H3=>Q σ H3
theorem lG {o i:Expr}{to ti:TE}{t:wX}(ho:PE X o to) (hi:PE X i ti) (hs:xi X t)
  (ha:∀v,assign (.Subscript o i pos) X.env v=(do
   let ov <- holding [v] (eval o X.env)
   let iv <- holding [v,ov] (eval i X.env)
   standAt pos
   holding [v,ov,iv] (setItem ov iv v)
   release [v,ov,iv] []):=by intro _; rfl):PG X (.Subscript o i pos) (vv to ti t):=by
 intro pins s σ H v u Q I r h
 rw [ha]
 refine wpAny_bind (wpAny_holding (thn (ho pins s σ H _ I h) fun ov s1 ⟨x,H1,I1,r1,q1⟩=>?_))
 refine wpAny_bind (wpAny_holding (thn (hi pins s1 σ H1 _ I1 q1) fun iv s2 ⟨y,H2,I2,r2,q2⟩=>?_))
 refine wpAny_bind (wpAny_standAt (wpAny_bind (wpAny_holding (thn (hs pins s2 σ H2 x y v ov iv u _ I2 r1 r2 r q2) fun _ s3 ⟨H3,I3,q3⟩=>?_))))
 exact wpAny_release ⟨σ,H3,I3,q3⟩
def bc (te:TE) (g:TG):TS:=fun D σ H=>te σ H fun x H1=>g x σ H1 D.nx
theorem lC {tg e:Expr}{te:TE}{g:TG}(he:PE X e te) (hg:PG X tg g) (hs:swapsWithSole [tg] e pos.line X.env=pure false:=by rfl) (hw:swappedStores [tg] e X.env=pure none:=by rfl)
  (h1:(assignEach [tg] X.env).map (·.2)=[assign tg X.env]:=by rfl):PS X (.Assign [tg] e pos) (bc te g):=by
 intro pins s σ H D I h
 refine wpAny_Assign_stores (thn (he pins s σ H _ I h) fun v s1 ⟨x,H1,I1,r1,q1⟩=>?_) hs hw
 rw [h1]
 exact thn (hg pins s1 σ H1 x v _ I1 r1 q1) fun _ s2 q=>q
theorem v8 {i:Nat}{x:Str}{e:Expr}{te:TE}{pos':Pos}(hN:X.N.Nodup) (hi:X.N[i]?=some x) (hx:Loc X.env.scope x) (he:PE X e te) (hs:swapsWith e (some (.Name x pos')) pos.line X.env=pure false:=by rfl) (hf:X.fn x=true∨X.env.scope.names.lookup x=some .local:=by first | exact .inl rfl | exact .inr rfl | assumption) :
  PS X (.Assign [.Name x pos'] e pos) (bc te (ak i)):=by
 intro pins s σ H D I h
 refine wpAny_Assign_Name (thn (he pins s σ H _ I h) fun v s1 ⟨y,H1,I1,r1,q1⟩=>?_) hs
 exact nS I1 hN hi hx r1 (fun s2 I2=>⟨_,H1,I2,q1⟩) hf
end
section
variable {X:Cx}{pos:Pos}
def nR (c:TT) (tb:TS):TS:=fun D σ H=>∃W:Nat->St->Hp->Prop,(∃m,W m σ H)/\∀m σ H,W m σ H ->
 c σ H fun b H1=>if b=true then ∃N:St->Hp->Prop,(∀σ' H',N σ' H'->∃m',m'<m/\W m' σ' H')/\tb { D with nx:=N,ct:=N,bk:=D.nx } σ H1 else D.nx σ H1
theorem kr {c:Expr}{body:List Stmt}{tc:TT}{tb:TS}(hp:PassesOwn (model X.prog X.w) X.A X.env X.xe) (hc:PT X c tc) (hb:PSs X body tb):PS X (.While c body [] pos) (nR tc tb):=by
 intro pins s σ H D I h
 obtain ⟨W,⟨m0,w0⟩,turn⟩:=h
 refine wpAny_While (codeAny_whileLoop (fun n s'=>∃σ' H',Inv X pins σ' H' s'/\W n σ' H') ?_ m0 ⟨σ,H,I,w0⟩)
 rintro n s1 ⟨σ1,H1,I1,w1⟩
 refine wpAny_passesOwn hp (thn (hc pins s1 σ1 H1 _ I1 (turn n σ1 H1 w1)) fun b s2 ⟨H2,I2,q2⟩=>?_)
 cases b with
 | true =>
  obtain ⟨N,hN,q2⟩:=q2
  rw [if_pos rfl]
  refine wpAny_passesOwn hp (thn (hb pins s2 σ1 H2 _ I2 q2) fun f s3 q3=>?_)
  cases f with
  | next =>
   obtain ⟨σ3,H3,I3,n3⟩:=q3
   obtain ⟨m',hm,w3⟩:=hN σ3 H3 n3
   exact ⟨m',hm,σ3,H3,I3,w3⟩
  | cont =>
   obtain ⟨σ3,H3,I3,n3⟩:=q3
   obtain ⟨m',hm,w3⟩:=hN σ3 H3 n3
   exact ⟨m',hm,σ3,H3,I3,w3⟩
  | brk=>exact q3
  | ret v=>exact q3
 | false =>
  rw [if_neg Bool.false_ne_true]
  exact wpAny_execs_nil ⟨σ1,H2,I2,q2⟩
end
structure It where
 go:Nat->Hp->Prop
 yld:Nat->Hp->V->Hp->Prop
 stop:Nat->Hp->Prop
def nM (X:Cx) (pins:List (Addr×Obj)) (H:Hp) (b:Addr):Prop :=
 H b=none/\b≠X.env.locals/\b∉X.fs/\(b∈X.ex∨X.s₀.heap.objs.size<=b)/\(∀x c,X.env.cells.lookup x=some c->c≠b)/\∀p∈X.pn++pins,p.1≠b
theorem Inv.fpOk {X:Cx}{pins:List (Addr×Obj)}{σ:St}{H H':Hp}{s:Shared}{b:Addr}(I:Inv X pins σ H s) (hb:s.heap.objs.size<=b) (hn:H' b=none):nM X pins H' b:=by
 refine ⟨hn,Nat.ne_of_gt (Nat.lt_of_lt_of_le I.lt hb),I.nofs hb,.inr (Nat.le_trans I.sz hb),fun x c e z=>?_,fun p hp z=>?_⟩
 ·obtain ⟨v,q⟩:=I.cell x c e
  exact absurd (Nat.lt_of_lt_of_le q.lt (by rw [z]; exact hb)) (Nat.lt_irrefl _)
 ·exact absurd (Nat.lt_of_lt_of_le (Heap.lt_size (I.pin p hp).1) (by rw [z]; exact hb)) (Nat.lt_irrefl _)
structure p8 (P:Program) (w:World) (K:PySem.W.Frag) (tg:Expr) (J:It) (fp:List Addr) (it:Addr) (tn:Nat->Heap->Prop):Prop where
 mem:it∈fp
 obj:∀i h,tn i h->∀b∈fp,∃o,h.get? b=some o/\∀v,o.data≠.cell v
 keep:∀i h h',tn i h->(∀b∈fp,∀o,h.get? b=some o->h'.get? b=some o)->tn i h'
 item:∀(X:Cx),X.prog=P->X.w=w->X.K=K->X.calm=true->∀(i:Nat) (pins:List (Addr×Obj)) (s:Shared) (σ:St) (H:Hp) (E:Value->Shared->Prop),Inv X pins σ H s->(∀b∈fp,nM X pins H b)->tn i s.heap->J.go i H ->
  wpAny (model P w) X.A (pyNext (.ref it)) (fun r s1=>∃u,r=some u /\
   wpAny (model P w) X.A (letOwnedTupleGo tg (.ref it) u) (fun _ s2=>∃x H',Inv X pins σ H' s2/\RelV x u/\J.yld i H x H'/\tn (i+1) s2.heap/\∀b∈fp,H' b=none) E s1) E s
 done:∀(X:Cx),X.prog=P->X.w=w->X.K=K->X.calm=true->∀(i:Nat) (pins:List (Addr×Obj)) (s:Shared) (σ:St) (H:Hp) (E:Value->Shared->Prop),Inv X pins σ H s->(∀b∈fp,nM X pins H b)->tn i s.heap->J.stop i H ->
  wpAny (model P w) X.A (pyNext (.ref it)) (fun r s1=>r=none/\Inv X pins σ H s1) E s
 self:∀(A:Around) (i:Nat) (s:Shared) (Q:Value->Shared->Prop) (E:Value->Shared->Prop),tn i s.heap->Q (.ref it) s->wpAny (model P w) A (pyIter (.ref it)) Q E s
abbrev TI:=St->Hp->(It->Hp->Prop)->Prop
def PIE (X:Cx) (pins:List (Addr×Obj)) (σ:St) (tg:Expr) (R:It->Hp->Prop) (itv:Value) (s2:Shared):Prop :=
 ∃(it:Addr) (fp:List Addr) (tn:Nat->Heap->Prop) (J:It) (H':Hp),itv=.ref it/\Inv X pins σ H' s2/\p8 X.prog X.w X.K tg J fp it tn/\tn 0 s2.heap/\(∀b∈fp,nM X pins H' b)/\R J H'
def PI (X:Cx) (tg iter:Expr) (wi:TI):Prop :=
 ∀(pins:List (Addr×Obj)) (s:Shared) (σ:St) (H:Hp) (R:It->Hp->Prop),Inv X pins σ H s->wi σ H R ->
  wpAny (model X.prog X.w) X.A (eval iter X.env) (fun v s1=>wpAny (model X.prog X.w) X.A (pyIter v) (PIE X pins σ tg R) X.xe s1) X.xe s
theorem pM {M:Model}{A:Around}{E:Value->Shared->Prop}{s:Shared}{tg:Expr}{it:Addr}{u:Value}{o:Obj}{n:String}{vs:Array Value}{Q:Unit->Shared->Prop}(ho:s.heap.get? it=some o) (hc:o.cls=.type n) (hd:o.data=.fields vs)
    (hn:["enumerate","zip","dict_itemiterator","dict_reverseitemiterator","odict_iterator","itertools.zip_longest","itertools.pairwise"].contains n=false) (hQ:Q () s):wpAny M A (letOwnedTupleGo tg (.ref it) u) Q E s:=by
  unfold letOwnedTupleGo
  cases tg <;> first
    | exact wpAny_pure hQ
    | (cases u <;> first
        | exact wpAny_pure hQ
        | (refine wpAny_bind (wpAny_load ho ?_)
           rw [hc,hd]
           show wpAny M A (if (["enumerate","zip","dict_itemiterator","dict_reverseitemiterator","odict_iterator","itertools.zip_longest","itertools.pairwise"].contains n && vs[0]? == some (rawInt _))=true then _ else _) Q E s
           rw [if_neg (by intro h; rw [hn,Bool.false_and] at h; cases h)]
           exact wpAny_pure hQ))
def Itl (K:PySem.W.Frag) (a:Addr):It :=
 ⟨fun i H=>∃xs x,SqL K H a xs/\xs[i]?=some x,fun i H x H'=>H'=H/\∀xs,SqL K H a xs->xs[i]?=some x,fun i H=>∃xs,SqL K H a xs/\xs.length<=i⟩
def Itt (K:PySem.W.Frag) (a:Addr):It :=
 ⟨fun i H=>∃xs x,SqT K H a xs/\xs[i]?=some x,fun i H x H'=>H'=H/\∀xs,SqT K H a xs->xs[i]?=some x,fun i H=>∃xs,SqT K H a xs/\xs.length<=i⟩
def Itr (lo:Int) (n:Nat):It:=⟨fun i _=>i<n,fun i H x H'=>H'=H/\x=.int (lo+i),fun i _=>n<=i⟩
theorem kQ {P:Program}{w:World}{K:PySem.W.Frag}{tg:Expr}(a it:Addr):p8 P w K tg (Itl K a) [it] it (fun i h=>h.IsListIter it a i) where
 mem:=by simp
 obj:=fun i h st b hb=>by
  have e:b=it:=by simpa using hb
  subst e
  obtain ⟨o,e,c,d⟩:=st
  exact ⟨o,e,fun v z=>by rw [d] at z; cases z⟩
 keep:=fun i h h' st k=>st.at fun o e=>k it (by simp) o e
 item:=by
  intro X hP hw hK hc i pins s σ H E I hf st hg
  subst hP hw hK
  obtain ⟨xs,x,hq,hx⟩:=hg
  obtain ⟨its,rv,p,hz⟩:=I.list hq
  obtain ⟨u,hu,ru⟩:=rv.get hx
  obtain ⟨f0,f1,f2,f3,f4,f5⟩:=hf it (by simp)
  refine wpAny_pyNext_list_item st p.isList (x:=u) (by simpa using hu) fun h' st' sb=>?_
  have I1:Inv X pins σ H { s with heap:=h' }:=I.turned (t':=s.toks) (fun b o hb e=>(sb.2 b hb).trans e) f0 f1 f3 f4 f5
  obtain ⟨o,e,c,d⟩:=id st'
  exact ⟨u,rfl,pM (s:={ s with heap:=h' }) e c d (by decide) ⟨x,H,I1,ru,⟨rfl,fun ys hy=>by rw [I.list_inj hy hq]; exact hx⟩,st',fun b hb=>(hf b hb).1⟩⟩
 done:=by
  intro X hP hw hK hc i pins s σ H E I hf st hg
  subst hP hw hK
  obtain ⟨xs,hq,hx⟩:=hg
  obtain ⟨its,rv,p,hz⟩:=I.list hq
  obtain ⟨f0,f1,f2,f3,f4,f5⟩:=hf it (by simp)
  have hl:=rv.length
  exact wpAny_pyNext_list_end (I.ok.hd hc) st p.isList (by simp; omega) fun h' eb=>⟨rfl,I.turned (t':=s.toks) (fun b o hb e=>eb b o hb e) f0 f1 f3 f4 f5⟩
 self:=fun _ _ _ _ _ st h=>wpAny_pyIter_listiter st h
theorem jB {P:Program}{w:World}{K:PySem.W.Frag}{tg:Expr}(a it:Addr):p8 P w K tg (Itt K a) [it] it (fun i h=>h.IsTupleIter it a i) where
 mem:=by simp
 obj:=fun i h st b hb=>by
  have e:b=it:=by simpa using hb
  subst e
  obtain ⟨o,e,c,d⟩:=st
  exact ⟨o,e,fun v z=>by rw [d] at z; cases z⟩
 keep:=fun i h h' st k=>st.at fun o e=>k it (by simp) o e
 item:=by
  intro X hP hw hK hc i pins s σ H E I hf st hg
  subst hP hw hK
  obtain ⟨xs,x,hq,hx⟩:=hg
  obtain ⟨its,rv,p,hz⟩:=I.tuple hq
  obtain ⟨u,hu,ru⟩:=rv.get hx
  obtain ⟨f0,f1,f2,f3,f4,f5⟩:=hf it (by simp)
  refine wpAny_pyNext_tuple_item st (show s.heap.IsTuple a its.toArray from p) (x:=u) (by simpa using hu) fun h' st' sb=>?_
  have I1:Inv X pins σ H { s with heap:=h' }:=I.turned (t':=s.toks) (fun b o hb e=>(sb.2 b hb).trans e) f0 f1 f3 f4 f5
  obtain ⟨o,e,c,d⟩:=id st'
  exact ⟨u,rfl,pM (s:={ s with heap:=h' }) e c d (by decide) ⟨x,H,I1,ru,⟨rfl,fun ys hy=>by rw [I.tuple_inj hy hq]; exact hx⟩,st',fun b hb=>(hf b hb).1⟩⟩
 done:=by
  intro X hP hw hK hc i pins s σ H E I hf st hg
  subst hP hw hK
  obtain ⟨xs,hq,hx⟩:=hg
  obtain ⟨its,rv,p,hz⟩:=I.tuple hq
  obtain ⟨f0,f1,f2,f3,f4,f5⟩:=hf it (by simp)
  have hl:=rv.length
  exact wpAny_pyNext_tuple_end (I.ok.hd hc) st (show s.heap.IsTuple a its.toArray from p) (by simp; omega) fun h' eb=>⟨rfl,I.turned (t':=s.toks) (fun b o hb e=>eb b o hb e) f0 f1 f3 f4 f5⟩
 self:=fun _ _ _ _ _ st h=>wpAny_pyIter_tupleiter st h
theorem oR {P:Program}{w:World}{K:PySem.W.Frag}{tg:Expr}(it:Addr) (lo:Int) (n:Nat):p8 P w K tg (Itr lo n) [it] it (fun i h=>IsRangeIter h it (lo+(i:Nat) * 1) ((n:Int)-(i:Nat)) 1) where
 mem:=by simp
 obj:=fun i h st b hb=>by
  have e:b=it:=by simpa using hb
  subst e
  exact ⟨_,st,fun v z=>by
   have z':Data.fields _=Data.cell v:=z
   cases z'⟩
 keep:=fun i h h' st k=>k it (by simp) _ st
 item:=by
  intro X hP hw hK hc i pins s σ H E I hf st hg
  subst hP hw hK
  obtain ⟨f0,f1,f2,f3,f4,f5⟩:=hf it (by simp)
  have W:=Walks.range (prog:=X.prog) (w:=X.w) (I.ok.hd hc) it lo 1 n
  refine W.item i s _ _ hg st fun v h' tk hv st' kk=>?_
  obtain ⟨t,rfl⟩:=hv
  have I1:Inv X pins σ H { s with heap:=h',toks:=tk }:=I.turned (fun b o hb e=>kk b o (by simpa using hb) e) f0 f1 f3 f4 f5
  refine ⟨_,rfl,pM (s:={ s with heap:=h',toks:=tk }) (n:="range_iterator") st' rfl rfl (by decide) ⟨.int (lo+i),H,I1,⟨t,?_⟩,⟨rfl,rfl⟩,st',fun b hb=>(hf b hb).1⟩⟩
  rw [Int.mul_one]
 done:=by
  intro X hP hw hK hc i pins s σ H E I hf st hg
  subst hP hw hK
  obtain ⟨f0,f1,f2,f3,f4,f5⟩:=hf it (by simp)
  exact wpAny_pyNext_range_end (I.ok.hd hc) st (by have:n<=i:=hg; omega) fun h' eb=>⟨rfl,I.turned (t':=s.toks) (fun b o hb e=>eb b o hb e) f0 f1 f3 f4 f5⟩
 self:=fun _ _ _ _ _ st h=>wpAny_pyIter_rangeiter st h
end L2
namespace L2
open PySem PySem.Spec PyProof.Rows
section
variable {X:Cx}{tg:Expr}
def bS (K:PySem.W.Frag) (tl:TE):TI:=fun σ H R=>tl σ H fun x H1=>∃a,x=.ref a/\(∃xs,SqL K H1 a xs)/\R (Itl K a) H1
def wF (K:PySem.W.Frag) (tl:TE):TI:=fun σ H R=>tl σ H fun x H1=>∃a,x=.ref a/\(∃xs,SqT K H1 a xs)/\R (Itt K a) H1
theorem aE {l:Expr}{tl:TE}(hl:PE X l tl):PI X tg l (bS X.K tl):=by
 intro pins s σ H R I h
 refine thn (hl pins s σ H _ I h) fun v s1 ⟨x,H1,I1,r1,q1⟩=>?_
 obtain ⟨a,e,⟨xs,hq⟩,q⟩:=q1
 subst e
 cases r1
 obtain ⟨its,rv,p,hz⟩:=I1.list hq
 refine wpAny_pyIter_list p.isList ?_
 refine ⟨s1.heap.objs.size,[s1.heap.objs.size],_,_,H1,rfl,I1.kept (t':=s1.toks) fun b o e=>Heap.get?_push_of_some _ e,kQ a _,⟨_,Heap.get?_push_size _ rfl,rfl,rfl⟩,fun b hb=>?_,q⟩
 have e:b=s1.heap.objs.size:=by simpa using hb
 subst e
 exact I1.fpOk (Nat.le_refl _) (I1.hok.fresh (Nat.le_refl _))
theorem qQ {l:Expr}{tl:TE}(hl:PE X l tl):PI X tg l (wF X.K tl):=by
 intro pins s σ H R I h
 refine thn (hl pins s σ H _ I h) fun v s1 ⟨x,H1,I1,r1,q1⟩=>?_
 obtain ⟨a,e,⟨xs,hq⟩,q⟩:=q1
 subst e
 cases r1
 obtain ⟨its,rv,p,hz⟩:=I1.tuple hq
 refine wpAny_pyIter_tuple (show s1.heap.IsTuple a its.toArray from p) ?_
 refine ⟨s1.heap.objs.size,[s1.heap.objs.size],_,_,H1,rfl,I1.kept (t':=s1.toks) fun b o e=>Heap.get?_push_of_some _ e,jB a _,⟨_,Heap.get?_push_size _ rfl,rfl,rfl⟩,fun b hb=>?_,q⟩
 have e:b=s1.heap.objs.size:=by simpa using hb
 subst e
 exact I1.fpOk (Nat.le_refl _) (I1.hok.fresh (Nat.le_refl _))
theorem tw {pins:List (Addr×Obj)}{σ:St}{H:Hp}{s:Shared}{R:It->Hp->Prop}{E:Value->Shared->Prop}{lo hi:Int}{t u v:Tok}{tk:Nat}(I:Inv X pins σ H s) (h1:-(2 ^ 62)<=lo) (h2:lo<2 ^ 62) (h3:-(2 ^ 62)<=hi) (h4:hi<2 ^ 62)
  (q:R (Itr lo (hi-lo).toNat) H):wpAny (model X.prog X.w) X.A (pyIter (.ref s.heap.objs.size)) (PIE X pins σ tg R) E { s with heap:=s.heap.push { cls:=.type "range",data:=.fields #[.int lo t,.int hi u,.int 1 v] },toks:=tk }:=by
 refine wpAny_pyIter_range (IsRange.new ..) (small_one h1 h2 h3 h4) ?_
 have I1:Inv X pins σ H { s with heap:=s.heap.push { cls:=.type "range",data:=.fields #[.int lo t,.int hi u,.int 1 v] },toks:=tk }:=I.kept fun b o e=>Heap.get?_push_of_some _ e
 refine ⟨(s.heap.push { cls:=.type "range",data:=.fields #[.int lo t,.int hi u,.int 1 v] }).objs.size,[(s.heap.push { cls:=.type "range",data:=.fields #[.int lo t,.int hi u,.int 1 v] }).objs.size],_,_,H,rfl,
  I1.kept (t':=tk) fun b o e=>Heap.get?_push_of_some _ e,oR _ lo (hi-lo).toNat,?_,fun b hb=>?_,q⟩
 ·have e1:lo+((0:Nat):Int) * 1=lo:=by simp
  have e2:(((hi-lo).toNat:Nat):Int)-((0:Nat):Int)=Builtin.Range.rangeSize lo hi 1:=by rw [rangeSize_one]; split <;> omega
  show IsRangeIter _ _ (lo+((0:Nat):Int) * 1) ((((hi-lo).toNat:Nat):Int)-((0:Nat):Int)) 1
  rw [e1,e2]
  exact Heap.get?_push_size _ rfl
 ·have e:b=(s.heap.push { cls:=.type "range",data:=.fields #[.int lo t,.int hi u,.int 1 v] }).objs.size:=by simpa using hb
  subst e
  exact I1.fpOk (Nat.le_refl _) (I1.hok.fresh (Nat.le_refl _))
def lW (ta:TA):TI:=fun σ H R=>ta σ H fun vs H1=>∃j:Int,vs=[.int j]/\-(2 ^ 62)<=j/\j<2 ^ 62/\R (Itr 0 j.toNat) H1
theorem cx {a:Expr}{ta:TA}{p pos:Pos}(hg:Gl X "range") (hm:X.mg "range"=none) (ha:PA X [a] ta) (hs:starEach [a] X.env=[(false,eval a X.env)]:=by rfl):PI X tg (.Call (.Name "range" p) [a] [] pos) (lW ta):=by
 intro pins s σ H R I h
 refine Call_ (g7 I hg hm boot_range (PyProof.Rows.callWith_type1 (thn (ha pos pins s σ H _ I h) fun us s1 ⟨vs,H1,I1,r1,q1⟩=>?_) hs rfl))
 obtain ⟨j,e,q1,q2,q⟩:=q1
 subst e
 cases r1 with
 | cons r rr =>
  cases rr
  obtain ⟨t,rfl⟩:=r
  exact call_range_1 (tw I1 (by omega) (by omega) q1 q2 (by simpa using q))
def eN (wi:TI) (g:TG) (tb:TS):TS:=fun D σ H=>wi σ H fun J H1=>∃W:Nat->Nat->St->Hp->Prop,(∃m,W 0 m σ H1)/\∀i m σ H,W i m σ H ->
 (J.stop i H/\D.nx σ H)∨(J.go i H/\∃N:St->Hp->Prop,(∀σ' H',N σ' H'->∃m',m'<m/\W (i+1) m' σ' H')/\∀x H',J.yld i H x H'->g x σ H' fun σ2 H2=>tb { D with nx:=N,ct:=N,bk:=D.nx } σ2 H2)
def lE (fp:List Addr) (h:Heap):List (Addr×Obj):=fp.filterMap fun b=>(h.get? b).map fun o=>(b,o)
theorem eE {fp:List Addr}{h:Heap}{b:Addr}{o:Obj}(hb:b∈fp) (e:h.get? b=some o):(b,o)∈lE fp h:=List.mem_filterMap.mpr ⟨b,hb,by rw [e]; rfl⟩
theorem rc {fp:List Addr}{h:Heap}{p:Addr×Obj}(hp:p∈lE fp h):p.1∈fp/\h.get? p.1=some p.2:=by
 obtain ⟨b,hb,e⟩:=List.mem_filterMap.mp hp
 cases q:h.get? b with
 | none=>rw [q] at e; cases e
 | some o =>
  rw [q] at e
  have e':(b,o)=p:=Option.some.inj e
  subst e'
  exact ⟨hb,q⟩
theorem Inv.pinned {pins:List (Addr×Obj)}{σ:St}{H:Hp}{s:Shared}{fp:List Addr}(I:Inv X pins σ H s) (hf:∀b∈fp,nM X pins H b) (ho:∀b∈fp,∃o,s.heap.get? b=some o/\∀v,o.data≠.cell v):Inv X (pins++lE fp s.heap) σ H s :=
 I.pins_of fun p hp=>(List.mem_append.mp hp).elim (fun z=>I.pin p (List.mem_append_right _ z)) fun z=>by
  obtain ⟨hb,e⟩:=rc z
  obtain ⟨f0,f1,f2,_⟩:=hf p.1 hb
  obtain ⟨o,e',d⟩:=ho p.1 hb
  rw [e] at e'; cases e'
  exact ⟨e,f0,f1,f2,d⟩
theorem Inv.unpinned {pins pl:List (Addr×Obj)}{σ:St}{H:Hp}{s:Shared}(I:Inv X (pins++pl) σ H s):Inv X pins σ H s:=I.pins_of fun p hp=>I.pin p (List.mem_append_right _ (List.mem_append_left _ hp))
theorem aQ {iter:Expr}{body:List Stmt}{wi:TI}{g:TG}{tb:TS}{pos:Pos}(hp:PassesOwn (model X.prog X.w) X.A X.env X.xe) (hc:X.calm=true) (hi:PI X tg iter wi) (hg:PG X tg g) (hb:PSs X body tb)
  (hs:∀x,foldedSetIterable iter X.env x=pure x:=by intro _; rfl):PS X (.For tg iter body [] pos) (eN wi g tb):=by
 intro pins s σ H D I h
 refine wpAny_For (thn (hi pins s σ H _ I h) fun v s1 h1=>thn h1 fun itv s2 h2=>?_) hs
 obtain ⟨it,fp,tn,J,H2,e,I2,T,st2,f2,W,⟨m0,w0⟩,turn⟩:=h2
 subst e
 have stat:∀{H':Hp},(∀b∈fp,H' b=none)->∀b∈fp,nM X pins H' b:=fun hn b hb=>⟨hn b hb,(f2 b hb).2⟩
 refine codeAny_forLoop_any (fun n s'=>∃i σ' H',Inv X pins σ' H' s'/\tn i s'.heap/\(∀b∈fp,H' b=none)/\W i n σ' H') ?_ m0 ⟨0,σ,H2,I2,st2,fun b hb=>(f2 b hb).1,w0⟩
 rintro n s3 ⟨i,σ3,H3,I3,st3,fr3,w3⟩
 rcases turn i n σ3 H3 w3 with ⟨stop,qn⟩ | ⟨go,N,hN,step⟩
 ·refine wpAny_passesOwn hp (thn (T.done X rfl rfl rfl hc i pins s3 σ3 H3 X.xe I3 (stat fr3) st3 stop) fun r s4 ⟨hr,I4⟩=>?_)
  subst hr
  exact wpAny_execs_nil ⟨σ3,H3,I4,qn⟩
 ·refine wpAny_passesOwn hp (thn (T.item X rfl rfl rfl hc i pins s3 σ3 H3 X.xe I3 (stat fr3) st3 go) fun r s4 ⟨u,hr,h4⟩=>?_)
  subst hr
  refine wpAny_passesOwn hp (thn h4 fun _ s5 ⟨x,H5,I5,r5,y5,st5,fr5⟩=>?_)
  have I5':=I5.pinned (stat fr5) (T.obj _ _ st5)
  refine wpAny_passesOwn hp (thn (hg _ s5 σ3 H5 x u _ I5' r5 (step x H5 y5)) fun _ s6 ⟨σ6,H6,I6,q6⟩=>?_)
  refine wpAny_passesOwn hp (thn (hb _ s6 σ6 H6 _ I6 q6) fun f s7 q7=>?_)
  have again:∀{σ7:St}{H7:Hp},Inv X (pins++lE fp s5.heap) σ7 H7 s7->N σ7 H7->∃m,m<n/\∃i σ' H',Inv X pins σ' H' s7/\tn i s7.heap/\(∀b∈fp,H' b=none)/\W i m σ' H':=fun {σ7 H7} I7 n7=>by
   obtain ⟨m',hm,w7⟩:=hN σ7 H7 n7
   refine ⟨m',hm,i+1,σ7,H7,I7.unpinned,T.keep _ _ _ st5 fun b hb o e=>(I7.pin (b,o) (List.mem_append_right _ (List.mem_append_right _ (eE hb e)))).1,fun b hb=>?_,w7⟩
   obtain ⟨o,e,d⟩:=T.obj _ _ st5 b hb
   exact (I7.pin (b,o) (List.mem_append_right _ (List.mem_append_right _ (eE hb e)))).2.1
  cases f with
  | next=>obtain ⟨σ7,H7,I7,n7⟩:=q7; exact again I7 n7
  | cont=>obtain ⟨σ7,H7,I7,n7⟩:=q7; exact again I7 n7
  | brk=>obtain ⟨σ7,H7,I7,q7⟩:=q7; exact ⟨σ7,H7,I7.unpinned,q7⟩
  | ret v=>obtain ⟨x7,σ7,H7,I7,r7,q7⟩:=q7; exact ⟨x7,σ7,H7,I7.unpinned,r7,q7⟩
end
theorem bG {K:PySem.W.Frag}{a:Addr}{xs:List V}{g:TG}{tb:TS}{D:kL}{σ:St}{H:Hp}(Pv:Nat->St->Hp->Prop) (h0:Pv 0 σ H) (hl:∀i σ H,i<=xs.length->Pv i σ H->SqL K H a xs)
  (hs:∀i x σ H,xs[i]?=some x->Pv i σ H->g x σ H fun σ2 H2=>tb { D with nx:=Pv (i+1),ct:=Pv (i+1),bk:=D.nx } σ2 H2) (hd:∀σ H,Pv xs.length σ H->D.nx σ H) :
  ∃W:Nat->Nat->St->Hp->Prop,(∃m,W 0 m σ H)/\∀i m σ H,W i m σ H ->
   ((Itl K a).stop i H/\D.nx σ H)∨((Itl K a).go i H/\∃N:St->Hp->Prop,(∀σ' H',N σ' H'->∃m',m'<m/\W (i+1) m' σ' H')/\∀x H',(Itl K a).yld i H x H'->g x σ H' fun σ2 H2=>tb { D with nx:=N,ct:=N,bk:=D.nx } σ2 H2):=by
 refine ⟨fun i m σ H=>m=xs.length-i/\i<=xs.length/\Pv i σ H,⟨xs.length,by simp,Nat.zero_le _,h0⟩,?_⟩
 rintro i m σ H ⟨rfl,hi,p⟩
 have q:=hl i σ H hi p
 by_cases hlt:i<xs.length
 ·refine .inr ⟨⟨xs,xs[i],q,by simp [hlt]⟩,Pv (i+1),fun σ' H' p'=>⟨xs.length-(i+1),by omega,rfl,hlt,p'⟩,fun x H' y=>?_⟩
  obtain ⟨e,y⟩:=y
  subst e
  exact hs i x σ _ (y xs q) p
 ·have e:i=xs.length:=by omega
  subst e
  exact .inl ⟨⟨xs,q,Nat.le_refl _⟩,hd σ H p⟩
theorem rN {K:PySem.W.Frag}{a:Addr}{xs:List V}{g:TG}{tb:TS}{D:kL}{σ:St}{H:Hp}(Pv:Nat->St->Hp->Prop) (h0:Pv 0 σ H) (hl:∀i σ H,i<=xs.length->Pv i σ H->SqT K H a xs)
  (hs:∀i x σ H,xs[i]?=some x->Pv i σ H->g x σ H fun σ2 H2=>tb { D with nx:=Pv (i+1),ct:=Pv (i+1),bk:=D.nx } σ2 H2) (hd:∀σ H,Pv xs.length σ H->D.nx σ H) :
  ∃W:Nat->Nat->St->Hp->Prop,(∃m,W 0 m σ H)/\∀i m σ H,W i m σ H ->
   ((Itt K a).stop i H/\D.nx σ H)∨((Itt K a).go i H/\∃N:St->Hp->Prop,(∀σ' H',N σ' H'->∃m',m'<m/\W (i+1) m' σ' H')/\∀x H',(Itt K a).yld i H x H'->g x σ H' fun σ2 H2=>tb { D with nx:=N,ct:=N,bk:=D.nx } σ2 H2):=by
 refine ⟨fun i m σ H=>m=xs.length-i/\i<=xs.length/\Pv i σ H,⟨xs.length,by simp,Nat.zero_le _,h0⟩,?_⟩
 rintro i m σ H ⟨rfl,hi,p⟩
 have q:=hl i σ H hi p
 by_cases hlt:i<xs.length
 ·refine .inr ⟨⟨xs,xs[i],q,by simp [hlt]⟩,Pv (i+1),fun σ' H' p'=>⟨xs.length-(i+1),by omega,rfl,hlt,p'⟩,fun x H' y=>?_⟩
  obtain ⟨e,y⟩:=y
  subst e
  exact hs i x σ _ (y xs q) p
 ·have e:i=xs.length:=by omega
  subst e
  exact .inl ⟨⟨xs,q,Nat.le_refl _⟩,hd σ H p⟩
theorem db {lo:Int}{n:Nat}{g:TG}{tb:TS}{D:kL}{σ:St}{H:Hp}(Pv:Nat->St->Hp->Prop) (h0:Pv 0 σ H)
  (hs:∀i σ H,i<n->Pv i σ H->g (.int (lo+i)) σ H fun σ2 H2=>tb { D with nx:=Pv (i+1),ct:=Pv (i+1),bk:=D.nx } σ2 H2) (hd:∀σ H,Pv n σ H->D.nx σ H) :
  ∃W:Nat->Nat->St->Hp->Prop,(∃m,W 0 m σ H)/\∀i m σ H,W i m σ H ->
   ((Itr lo n).stop i H/\D.nx σ H)∨((Itr lo n).go i H/\∃N:St->Hp->Prop,(∀σ' H',N σ' H'->∃m',m'<m/\W (i+1) m' σ' H')/\∀x H',(Itr lo n).yld i H x H'->g x σ H' fun σ2 H2=>tb { D with nx:=N,ct:=N,bk:=D.nx } σ2 H2):=by
 refine ⟨fun i m σ H=>m=n-i/\i<=n/\Pv i σ H,⟨n,by simp,Nat.zero_le _,h0⟩,?_⟩
 rintro i m σ H ⟨rfl,hi,p⟩
 by_cases hlt:i<n
 ·refine .inr ⟨hlt,Pv (i+1),fun σ' H' p'=>⟨n-(i+1),by omega,rfl,hlt,p'⟩,fun x H' y=>?_⟩
  obtain ⟨e,y⟩:=y
  subst e y
  exact hs i σ _ hlt p
 ·have e:i=n:=by omega
  subst e
  exact .inl ⟨Nat.le_refl _,hd σ H p⟩
end L2
namespace L2
open PySem PySem.Spec PyProof.Rows
abbrev R2:=V->V->Hp->VK->Prop
def OpR (X:Cx) (f:Value->Value->Sem Value) (r:R2):Prop :=
 ∀(pins:List (Addr×Obj)) (s:Shared) (σ:St) (H:Hp) (x y:V) (v u:Value) (Q:VK),Inv X pins σ H s->RelV x v->RelV y u->r x y H Q ->
  wpAny (model X.prog X.w) X.A (f v u) (EP X pins σ Q) X.xe s
def CallR (X:Cx) (f:Value) (r:List V->Hp->VK->Prop):Prop :=
 ∀(pins:List (Addr×Obj)) (s:Shared) (σ:St) (H:Hp) (xs:List V) (us:List Value) (Q:VK),Inv X pins σ H s->Vals xs us->r xs H Q ->
  wpAny (model X.prog X.w) X.A (call f us) (EP X pins σ Q) X.xe s
def tOp (r:R2) (ta tb:TE):TE:=fun σ H Q=>ta σ H fun x H1=>tb σ H1 fun y H2=>r x y H2 Q
def rI (C:Int->Int->Prop) (g:Int->Int->V):R2:=fun x y H Q=>∃i j,x=.int i/\y=.int j/\C i j/\Q (g i j) H
def rI0 (g:Int->Int->V):R2:=fun x y H Q=>∃i j,x=.int i/\y=.int j/\Q (g i j) H
section
variable {X:Cx}{a b c:Expr}{ta tb tc:TE}{pos:Pos}
theorem wU (ha:PE X a ta) (hb:PE X b tb) {pins:List (Addr×Obj)}{s:Shared}{σ:St}{H:Hp}{R:V->V->Hp->Prop}(I:Inv X pins σ H s)
  (h:ta σ H fun x H1=>tb σ H1 fun y H2=>R x y H2) {Q:Value->Shared->Prop}{f:Value->Value->Sem Value}
  (hf:∀v u s2 x y H2,Inv X pins σ H2 s2->RelV x v->RelV y u->R x y H2->wpAny (model X.prog X.w) X.A (f v u) Q X.xe s2) :
  wpAny (model X.prog X.w) X.A (eval a X.env) (fun v s₁=>wpAny (model X.prog X.w) X.A (eval b X.env) (fun u s₂=>wpAny (model X.prog X.w) X.A (f v u) Q X.xe s₂) X.xe s₁) X.xe s:=by
 refine thn (ha pins s σ H _ I h) fun v s1 ⟨x,H1,I1,r1,q1⟩=>?_
 refine thn (hb pins s1 σ H1 _ I1 q1) fun u s2 ⟨y,H2,I2,r2,q2⟩=>?_
 exact hf v u s2 x y H2 I2 r1 r2 q2
theorem az {op:Operator}{r:R2}(ho:OpR X (binaryOp op) r) (ha:PE X a ta) (hb:PE X b tb):PE X (.BinOp a op b pos) (tOp r ta tb):=by
 intro pins s σ H Q I h
 exact wpAny_BinOp (wU ha hb I h fun v u s2 x y H2 I2 rx ry q=>ho pins s2 σ H2 x y v u Q I2 rx ry q)
theorem opI {f:Value->Value->Sem Value}{C:Int->Int->Prop}{g:Int->Int->Int}
  (rule:∀(i j:Int) (t u:Tok) (s:Shared) (Q:Value->Shared->Prop) (E:Value->Shared->Prop),C i j->Q (.int (g i j) s.toks) { s with toks:=s.toks+1 }->wpAny (model X.prog X.w) X.A (f (.int i t) (.int j u)) Q E s) :
  OpR X f (rI C fun i j=>.int (g i j)):=by
 intro pins s σ H x y v u Q I rx ry h
 obtain ⟨i,j,rfl,rfl,hc,q⟩:=h
 obtain ⟨t,rfl⟩:=rx
 obtain ⟨t',rfl⟩:=ry
 exact rule i j t t' s _ _ hc ⟨.int (g i j),H,I.tok _,⟨_,rfl⟩,q⟩
theorem xu {f:Value->Value->Sem Value}{g:Int->Int->Int}
  (rule:∀(i j:Int) (t u:Tok) (s:Shared) (Q:Value->Shared->Prop) (E:Value->Shared->Prop),Q (.int (g i j) s.toks) { s with toks:=s.toks+1 }->wpAny (model X.prog X.w) X.A (f (.int i t) (.int j u)) Q E s) :
  OpR X f (rI0 fun i j=>.int (g i j)):=by
 intro pins s σ H x y v u Q I rx ry h
 obtain ⟨i,j,rfl,rfl,q⟩:=h
 obtain ⟨t,rfl⟩:=rx
 obtain ⟨t',rfl⟩:=ry
 exact rule i j t t' s _ _ ⟨.int (g i j),H,I.tok _,⟨_,rfl⟩,q⟩
theorem wE {f:Value->Value->Sem Value}{g:Int->Int->Bool}
  (rule:∀(i j:Int) (t u:Tok) (s:Shared) (Q:Value->Shared->Prop) (E:Value->Shared->Prop),Q (.bool (g i j)) s->wpAny (model X.prog X.w) X.A (f (.int i t) (.int j u)) Q E s) :
  OpR X f (rI0 fun i j=>.bl (g i j)):=by
 intro pins s σ H x y v u Q I rx ry h
 obtain ⟨i,j,rfl,rfl,q⟩:=h
 obtain ⟨t,rfl⟩:=rx
 obtain ⟨t',rfl⟩:=ry
 exact rule i j t t' s _ _ ⟨.bl (g i j),H,I,rfl,q⟩
def xo (i j:Int):Prop:=0<j/\j<1073741824
def xn (i j:Int):Prop:=0<=j/\j<=1000000/\i.natAbs<2 ^ 64
def CMul (i j:Int):Prop:=(-(2 ^ 64)<i/\i<2 ^ 64)∨(-(2 ^ 64)<j/\j<2 ^ 64)
theorem CMul.ok {i j:Int}(h:CMul i j):IntMulOk i j:=by
 rcases h with ⟨h1,h2⟩ | ⟨h1,h2⟩
 ·exact .of_left (intBits_le_64 h1 h2)
 ·exact .of_right (intBits_le_64 h1 h2)
theorem bq:OpR X (binaryOp .Add) (rI0 fun i j=>.int (i+j)):=xu fun _ _ _ _ _ _ _ q=>add_int q
theorem dX:OpR X (binaryOp .Mult) (rI CMul fun i j=>.int (i * j)):=opI fun _ _ _ _ _ _ _ hc q=>mul_int q hc.ok
theorem q0:OpR X (binaryOp .FloorDiv) (rI xo fun i j=>.int (i / j)):=opI fun i j _ _ _ _ _ hc q=>by
 have h1:(0:Int)<j:=hc.1
 have h2:j<1073741824:=hc.2
 exact floordiv_int (by omega) (by rw [Int.fdiv_eq_ediv_of_nonneg i (by omega)]; exact q) (.inl (PyProof.noPylong_small (by omega)))
theorem c9:OpR X (binaryOp .Mod) (rI (fun _ j=>0<j) fun i j=>.int (i % j)):=opI fun i j _ _ _ _ _ hc q=>by
 have h1:(0:Int)<j:=hc
 exact mod_int' (by omega) (by rw [Int.fmod_eq_emod_of_nonneg i (by omega)]; exact q)
theorem ur:OpR X (binaryOp .Pow) (rI xn fun i j=>.int (i ^ j.toNat)):=opI fun _ _ _ _ _ _ _ hc q=>pow_int_small hc.1 hc.2.1 hc.2.2 q
end
def w_:V->V->Bool
 | .non,.non=>true | .non,.int _=>true | .int _,.non=>true | .non,.bl _=>true | .bl _,.non=>true | .non,.str _=>true | .str _,.non=>true
 | .int _,.int _=>true | .bl _,.bl _=>true | .str _,.str _=>true | .byt _,.byt _=>true
 | .int _,.str _=>true | .str _,.int _=>true | .bl _,.str _=>true | .str _,.bl _=>true
 | _,_=>false
def rEq:R2:=fun x y H Q=>w_ x y=true/\Q (.bl (decide (x=y))) H
def rNe:R2:=fun x y H Q=>w_ x y=true/\Q (.bl (!decide (x=y))) H
theorem rY {i j:Int}:decide (V.int i=V.int j)=(i == j):=by
 rw [Bool.eq_iff_iff]
 simp
theorem uB {i j:Bool}:decide (V.bl i=V.bl j)=(i == j):=by
 rw [Bool.eq_iff_iff]
 simp
theorem rV {i j:Str}:decide (V.str i=V.str j)=(i == j):=by
 rw [Bool.eq_iff_iff]
 simp
theorem rZ {i j:Array UInt8}:decide (V.byt i=V.byt j)=(i.toList == j.toList):=by
 rw [Bool.eq_iff_iff]
 cases i
 cases j
 simp
section
variable {X:Cx}{a b c:Expr}{ta tb tc:TE}{pos:Pos}
theorem aI {pins:List (Addr×Obj)}{σ:St}{H:Hp}{s:Shared}{Q:VK}{k k':Bool}(I:Inv X pins σ H s) (q:Q (.bl k) H) (e:k=k'):EP X pins σ Q (.bool k') s:=by
 subst e
 exact ⟨.bl k,H,I,rfl,q⟩
theorem pC:OpR X (compareOp .Eq) rEq:=by
 intro pins s σ H x y v u Q I rx ry h
 obtain ⟨hs,q⟩:=h
 cases x with
 | non =>
  cases rx
  cases y with
  | non=>cases ry; exact PySem.EqNone.eq_none_none (aI I q (by simp))
  | bl j=>cases ry; exact PySem.EqNone.eq_none_bool (aI I q (by simp))
  | int j=>obtain ⟨t',rfl⟩:=ry; exact PySem.EqNone.eq_none_int (aI I q (by simp))
  | str j=>obtain ⟨t',rfl⟩:=ry; exact PySem.EqNone.eq_none_str (aI I q (by simp))
  | _=>exact absurd (show false=true from hs) Bool.false_ne_true
 | bl i =>
  cases rx
  cases y with
  | non=>cases ry; exact PySem.EqNone.eq_bool_none (aI I q (by simp))
  | bl j=>cases ry; exact eq_bool (aI I q uB)
  | str j=>obtain ⟨t',rfl⟩:=ry; exact PySem.EqMixed.eq_bool_str (aI I q (by simp))
  | _=>exact absurd (show false=true from hs) Bool.false_ne_true
 | int i =>
  obtain ⟨t,rfl⟩:=rx
  cases y with
  | non=>cases ry; exact PySem.EqNone.eq_int_none (aI I q (by simp))
  | int j=>obtain ⟨t',rfl⟩:=ry; exact eq_int (aI I q rY)
  | str j=>obtain ⟨t',rfl⟩:=ry; exact PySem.EqMixed.eq_int_str (aI I q (by simp))
  | _=>exact absurd (show false=true from hs) Bool.false_ne_true
 | str i =>
  obtain ⟨t,rfl⟩:=rx
  cases y with
  | non=>cases ry; exact PySem.EqNone.eq_str_none (aI I q (by simp))
  | bl j=>cases ry; exact PySem.EqMixed.eq_str_bool (aI I q (by simp))
  | int j=>obtain ⟨t',rfl⟩:=ry; exact PySem.EqMixed.eq_str_int (aI I q (by simp))
  | str j=>obtain ⟨t',rfl⟩:=ry; exact eq_str (aI I q rV)
  | _=>exact absurd (show false=true from hs) Bool.false_ne_true
 | byt i =>
  obtain ⟨t,rfl⟩:=rx
  cases y with
  | byt j=>obtain ⟨t',rfl⟩:=ry; exact PySem.W.eq_bytes (aI I q rZ)
  | _=>exact absurd (show false=true from hs) Bool.false_ne_true
 | _=>cases y <;> exact absurd (show false=true from hs) Bool.false_ne_true
theorem qX:OpR X (compareOp .NotEq) rNe:=by
 intro pins s σ H x y v u Q I rx ry h
 obtain ⟨hs,q⟩:=h
 cases x with
 | non =>
  cases rx
  cases y with
  | non=>cases ry; exact PySem.EqNone.ne_none_none (aI I q (by simp))
  | bl j=>cases ry; exact PySem.EqNone.ne_none_bool (aI I q (by simp))
  | int j=>obtain ⟨t',rfl⟩:=ry; exact PySem.EqNone.ne_none_int (aI I q (by simp))
  | str j=>obtain ⟨t',rfl⟩:=ry; exact PySem.EqNone.ne_none_str (aI I q (by simp))
  | _=>exact absurd (show false=true from hs) Bool.false_ne_true
 | bl i =>
  cases rx
  cases y with
  | non=>cases ry; exact PySem.EqNone.ne_bool_none (aI I q (by simp))
  | bl j=>cases ry; exact ne_bool (aI I q (congrArg not uB))
  | str j=>obtain ⟨t',rfl⟩:=ry; exact PySem.EqMixed.ne_bool_str (aI I q (by simp))
  | _=>exact absurd (show false=true from hs) Bool.false_ne_true
 | int i =>
  obtain ⟨t,rfl⟩:=rx
  cases y with
  | non=>cases ry; exact PySem.EqNone.ne_int_none (aI I q (by simp))
  | int j=>obtain ⟨t',rfl⟩:=ry; exact ne_int (aI I q (congrArg not rY))
  | str j=>obtain ⟨t',rfl⟩:=ry; exact PySem.EqMixed.ne_int_str (aI I q (by simp))
  | _=>exact absurd (show false=true from hs) Bool.false_ne_true
 | str i =>
  obtain ⟨t,rfl⟩:=rx
  cases y with
  | non=>cases ry; exact PySem.EqNone.ne_str_none (aI I q (by simp))
  | bl j=>cases ry; exact PySem.EqMixed.ne_str_bool (aI I q (by simp))
  | int j=>obtain ⟨t',rfl⟩:=ry; exact PySem.EqMixed.ne_str_int (aI I q (by simp))
  | str j=>obtain ⟨t',rfl⟩:=ry; exact ne_str (aI I q (congrArg not rV))
  | _=>exact absurd (show false=true from hs) Bool.false_ne_true
 | byt i =>
  obtain ⟨t,rfl⟩:=rx
  cases y with
  | byt j=>obtain ⟨t',rfl⟩:=ry; exact PySem.W.ne_bytes (aI I q (congrArg not rZ))
  | _=>exact absurd (show false=true from hs) Bool.false_ne_true
 | _=>cases y <;> exact absurd (show false=true from hs) Bool.false_ne_true
theorem qY:OpR X (compareOp .Lt) (rI0 fun i j=>.bl (decide (i<j))):=wE fun _ _ _ _ _ _ _ q=>lt_int q
theorem wN:OpR X (compareOp .LtE) (rI0 fun i j=>.bl (decide (i<=j))):=wE fun _ _ _ _ _ _ _ q=>le_int q
theorem vj:OpR X (compareOp .Gt) (rI0 fun i j=>.bl (decide (j<i))):=wE fun _ _ _ _ _ _ _ q=>gt_int q
theorem wO:OpR X (compareOp .GtE) (rI0 fun i j=>.bl (decide (j<=i))):=wE fun _ _ _ _ _ _ _ q=>ge_int q
theorem qZ:OpR X (compareOp .In) (fun x y H Q=>∃i j,x=.str i/\y=.str j/\Q (.bl (!(Builtin.Str.occurrences j i 0 j.length 1).isEmpty)) H):=by
 intro pins s σ H x y v u Q I rx ry h
 obtain ⟨i,j,rfl,rfl,q⟩:=h
 obtain ⟨t,rfl⟩:=rx
 obtain ⟨t',rfl⟩:=ry
 exact in_str (aI I q rfl)
theorem uv (b:Expr) {op:CmpOp}(h:op≠.In:=by decide) (h2:op≠.NotIn:=by decide):behindInMarks op b=false:=by
 have e1:(op == CmpOp.In)=false:=by cases op <;> first | rfl | exact absurd rfl h
 have e2:(op == CmpOp.NotIn)=false:=by cases op <;> first | rfl | exact absurd rfl h2
 cases b <;> simp [behindInMarks,e1,e2]
theorem qW {op:CmpOp}{r:R2}(ho:OpR X (compareOp op) r) (ha:PE X a ta) (hb:PE X b tb) (hm:behindInMarks op b=false):PE X (.Compare a [op] [b] pos) (tOp r ta tb):=by
 intro pins s σ H Q I h
 exact wpAny_Compare1 (wU ha hb I h fun v u s2 x y H2 I2 rx ry q=>ho pins s2 σ H2 x y v u Q I2 rx ry q) hm
def aJ (t:TE):TT:=fun σ H Q=>t σ H fun x H'=>∃k,x=.bl k/\Q k H'
theorem qP {op:CmpOp}{r:R2}(ho:OpR X (compareOp op) r) (ha:PE X a ta) (hb:PE X b tb) (hm:behindInMarks op b=false):PT X (.Compare a [op] [b] pos) (aJ (tOp r ta tb)):=by
 intro pins s σ H Q I h
 refine wpAny_isTrue_Compare1 (thn (ha pins s σ H _ I h) fun v s1 ⟨x,H1,I1,r1,q1⟩=>thn (hb pins s1 σ H1 _ I1 q1) fun u s2 ⟨y,H2,I2,r2,q2⟩ =>
  thn (ho pins s2 σ H2 x y v u _ I2 r1 r2 q2) fun c s3 ⟨z,H3,I3,r3,k,e,q3⟩=>?_) hm
 subst e
 cases r3
 exact wpAny_truthy_bool ⟨H3,I3,q3⟩
theorem jK:(sizeLine:Nat)<2 ^ 63:=by rw [sizeLine_eq]; decide
theorem jI:OpR X (binaryOp .Add) (fun x y H Q=>∃i j,x=.str i/\y=.str j/\i.length+j.length<=sizeLine/\Q (.str (i++j)) H):=by
 intro pins s σ H x y v u Q I rx ry h
 obtain ⟨i,j,rfl,rfl,hz,q⟩:=h
 obtain ⟨t,rfl⟩:=rx
 obtain ⟨t',rfl⟩:=ry
 exact add_str (fun t' tk=>⟨.str (i++j),H,I.tok _,⟨_,rfl⟩,q⟩) hz
theorem kO {x:V}{us:List Value}(r:Vals [x] us):∃u,us=[u]/\RelV x u:=by
 cases r with
 | cons r1 r2=>cases r2; exact ⟨_,rfl,r1⟩
theorem vO {x y:V}{us:List Value}(r:Vals [x,y] us):∃u w',us=[u,w']/\RelV x u/\RelV y w':=by
 cases r with
 | cons r1 r2 =>
  cases r2 with
  | cons r3 r4=>cases r4; exact ⟨_,_,rfl,r1,r3⟩
end
end L2
namespace L2
open PySem PySem.Spec PyProof.Rows
structure ObjM (h:Heap) (x dx C:Addr) (mA:Str->Option Value):Prop where
 obj:h.get? x=some (PySem.W.instObj C dx)
 ns:h.Ns1 dx mA
 ne:dx≠x
theorem rm {h:Heap}{dx:Addr}{mA:Str->Option Value}(n:h.Ns1 dx mA):∃od,h.get? dx=some od/\∀name,PySem.W.lookIn name od=some (mA name):=by
 obtain ⟨o,es,ep,ho,hd,hk,_,hm⟩:=n
 refine ⟨o,ho,fun name=>?_⟩
 have e:=hm name
 unfold nsFind findBy at e
 rw [<-Array.find?_toList] at e
 unfold PySem.W.lookIn
 rw [hd]
 dsimp only
 split
 ·rename_i y q
  rw [q] at e
  exact congrArg some e
 ·rename_i q
  rw [q] at e
  have a:es.toList.any (·.refKey)=false:=by
   rw [List.any_eq_false]
   intro y hy
   obtain ⟨z,t,hkey⟩:=hk y (Array.mem_toList_iff.mp hy)
   simp [DictEntry.refKey,hkey]
  have a':¬es.toList.any (·.refKey)=true:=by rw [a]; exact Bool.false_ne_true
  rw [if_neg a']
  exact congrArg some e
theorem ObjM.look {h:Heap}{x dx C:Addr}{mA:Str->Option Value}(I:ObjM h x dx C mA):∃od,PySem.W.InstAt h x (PySem.W.instObj C dx) C (some od)/\∀name,PySem.W.lookIn name od=some (mA name) :=
 let ⟨od,ho,hl⟩:=rm I.ns
 ⟨od,⟨I.obj,rfl,rfl,ho⟩,hl⟩
section
variable {prog:Program}{w:World}{A:Around}{E:Value->Shared->Prop}{s:Shared}{K:PySem.W.Frag}{x dx C f:Addr}{mA:Str->Option Value}{name:Str}{v:Value}
theorem vt {expr:Bool}{Q:Value->Shared->Prop}(X:K.In s.heap) (I:ObjM s.heap x dx C mA) (hg:PySem.W.plainGet K C name=true) (hh:PySem.W.hasDictIn K C=true)
  (ha:PySem.W.findIn K (.ref C) name=some none) (hv:mA name=some v) (hv':PySem.W.handedIn v=true) (h:Q v { s with toks:=s.toks+1 }) :
  wpAny (model prog w) A (getAttr (.ref x) name expr) Q E s:=by
 obtain ⟨od,J,hl⟩:=I.look
 exact PySem.W.get_value X J (PySem.W.plainGet_of hg).1 (PySem.W.findObj_own hh ha rfl (by rw [hl,hv])) hv' h
theorem tS {pl:Sem Bool}{Q:Value×List Value->Shared->Prop}(X:K.In s.heap) (I:ObjM s.heap x dx C mA) (hg:PySem.W.plainGet K C name=true)
  (hf:PySem.W.findIn K (.ref C) name=some (some (.ref f))) (ht:PySem.W.isFn K (.ref f)=true) (hv:mA name=none) (h:Q (.ref f,[.ref x]) s) :
  wpAny (model prog w) A (getMethod (.ref x) name pl) Q E s:=by
 obtain ⟨od,J,hl⟩:=I.look
 exact PySem.W.method_fn X J (PySem.W.plainGet_of hg).1 (PySem.W.plainGet_of hg).2 hf (beq_iff_eq.mp ht) (by show (PySem.W.lookIn name od).map (·.isSome)=some false; rw [hl,hv]; rfl) h
theorem uR {ns:List Str}{Q:Unit->Shared->Prop}(X:K.In s.heap) (I:ObjM s.heap x dx C mA)
  (hs:PySem.W.findIn K (.ref C) "__setattr__"=some (some (.builtin "object.__setattr__"))) (hp:PySem.W.plainOver K C=true) (ht:PySem.W.takerIn K C name=some none) (hh:PySem.W.hasDictIn K C=true)
  (hw:PySem.Within mA ns) (hsz:ns.length<=sizeLine)
  (h:∀h',ObjM h' x dx C (fun y=>if y=name then some v else mA y)->Heap.SameBut dx s.heap h'->Q () { s with heap:=h',toks:=s.toks+2 }) :
  wpAny (model prog w) A (setAttr (.ref x) name v) Q E s:=by
 obtain ⟨od,J,hl⟩:=I.look
 refine PySem.W.set_plain X J hs (PySem.W.osa_open (s:={ s with toks:=s.toks+1 }) (r:=none) X J hp ht fun b=>?_)
 obtain ⟨cd,hc,hd'⟩:=PySem.W.any_some hh
 have hx:s.heap.get? x=some ⟨.ref C,some dx,.plain,#[]⟩:=I.obj
 refine wpAny_bind (wpAny_pure (wpAny_bind (wpAny_bind (wpAny_loadPart hx (wpAny_bind (PySem.W.Looks.here (s:={ s with toks:=s.toks+1 }) (PySem.W.looks_clsIn X hc) ?_))))))
 rw [hd']
 refine wpAny_pure (a:=some dx) (wpAny_bind (wpAny_pure (wpAny_bind ?_)))
 refine wpAny_nsSet1 (s:={ s with toks:=s.toks+1 }) I.ns fun h' hn2 hs2=>?_
 obtain ⟨oD,esD,epD,hoD,hdD,hcD⟩:=hn2.count (PySem.Within.cons name v hw)
 refine wpAny_bind (wpAny_lookBehind hoD (by rw [hdD]; exact pastItsLine_dict (Nat.le_trans hcD (by rw [List.length_cons]; omega))) ?_)
 exact wpAny_pure (h _ ⟨(hs2.2 _ (Ne.symm I.ne)).trans I.obj,hn2,I.ne⟩ hs2)
theorem tM {R:Result->Shared->Prop}{vs:List Value}{kw:List (Str×Value)}(X:K.In s.heap) (hm:PySem.W.makesIn K C=true)
  (hi:PySem.W.findIn K (.ref C) "__init__"=some (some (.ref f))) (hf:PySem.W.typeIn K (.ref f)=some (.type "function"))
  (h:codeAny (model prog w) (A.under (.builtin "type.__call__" ⟨.ref C::vs,kw⟩)) (.call (.ref f) ⟨.ref (s.heap.objs.size+1)::vs,kw⟩) (PySem.W.InitBack (s.heap.objs.size+1) R)
   { s with heap:=(s.heap.push PySem.W.emptyDict).push (PySem.W.instObj C s.heap.objs.size) }) :
  codeAny (model prog w) A (.call (.ref C) ⟨vs,kw⟩) R s:=by
 obtain ⟨hh,g,d,t,os⟩:=s
 exact PySem.W.make_core (PySem.W.makes_of X hm) (PySem.W.looks_findIn X hi) (fun self=>PySem.W.bind_fn X self hf) (.inl rfl) h
end
def cf (f:Str) (v:V):List (Str×V)->List (Str×V)
 | []=>[(f,v)]
 | (g,x)::r=>if g=f then (g,v)::r else (g,x)::cf f v r
theorem bv (f g:Str) (v:V):∀fs:List (Str×V),(cf f v fs).lookup g=if g=f then some v else fs.lookup g
 | []=>by
  show List.lookup g [(f,v)]=_
  by_cases h:g=f
  ·have hb:(g == f)=true:=beq_iff_eq.mpr h
   simp only [List.lookup,hb,if_pos h]
  ·have hb:(g == f)=false:=beq_eq_false_iff_ne.mpr h
   simp only [List.lookup,hb,if_neg h]
 | (k,x)::r=>by
  have ih:=bv f g v r
  rw [show cf f v ((k,x)::r)=(if k=f then (k,v)::r else (k,x)::cf f v r) from rfl]
  by_cases hk:k=f
  ·rw [if_pos hk]
   by_cases h:g=k
   ·have hb:(g == k)=true:=beq_iff_eq.mpr h
    simp only [List.lookup,hb,if_pos (h.trans hk)]
   ·have hb:(g == k)=false:=beq_eq_false_iff_ne.mpr h
    simp only [List.lookup,hb,if_neg (fun e:g=f=>h (e.trans hk.symm))]
  ·rw [if_neg hk]
   by_cases h:g=k
   ·have hb:(g == k)=true:=beq_iff_eq.mpr h
    simp only [List.lookup,hb,if_neg (fun e:g=f=>hk (h.symm.trans e))]
   ·have hb:(g == k)=false:=beq_eq_false_iff_ne.mpr h
    simp only [List.lookup,hb]
    exact ih
theorem iY (f:Str) (v:V):∀fs:List (Str×V),f∈(cf f v fs).map (·.1)/\∀g,g∈fs.map (·.1)->g∈(cf f v fs).map (·.1)
 | []=>⟨by simp [cf],fun g h=>by simp at h⟩
 | (k,x)::r=>by
  obtain ⟨i1,i2⟩:=iY f v r
  rw [show cf f v ((k,x)::r)=(if k=f then (k,v)::r else (k,x)::cf f v r) from rfl]
  by_cases hk:k=f
  ·rw [if_pos hk]
   subst hk
   exact ⟨by simp,fun g h=>by simpa using h⟩
  ·rw [if_neg hk]
   refine ⟨?_,fun g h=>?_⟩
   ·rw [List.map_cons]
    exact List.mem_cons_of_mem _ i1
   ·rw [List.map_cons] at h ⊢
    rcases List.mem_cons.mp h with e | e
    ·exact List.mem_cons.mpr (.inl e)
    ·exact List.mem_cons_of_mem _ (i2 g e)
theorem iX (f:Str) (v:V):∀fs:List (Str×V),(cf f v fs).length<=fs.length+1
 | []=>by simp [cf]
 | (k,x)::r=>by
  have ih:=iX f v r
  rw [show cf f v ((k,x)::r)=(if k=f then (k,v)::r else (k,x)::cf f v r) from rfl]
  by_cases hk:k=f
  ·rw [if_pos hk,List.length_cons,List.length_cons]; omega
  ·rw [if_neg hk,List.length_cons,List.length_cons]; omega
theorem RelO.some_of {v:V}{o:Option Value}(r:RelO (some v) o):∃u,o=some u/\RelV v u:=by
 cases o with
 | none=>exact (show False from r).elim
 | some u=>exact ⟨u,rfl,r⟩
theorem RelO.none_of {o:Option Value}(r:RelO none o):o=none:=by
 cases o with
 | none=>rfl
 | some u=>exact (show False from r).elim
theorem rK {v:V}{u:Value}(r:RelV v u):PySem.W.handedIn u=true:=by
 cases v with
 | non=>cases (show u=Value.none from r); rfl
 | bl b=>cases (show u=Value.bool b from r); rfl
 | int i=>obtain ⟨t,e⟩:=(show ∃t,u=Value.int i t from r); cases e; rfl
 | str x=>obtain ⟨t,e⟩:=(show ∃t,u=Value.str x t from r); cases e; rfl
 | byt b=>obtain ⟨t,e⟩:=(show ∃t,u=Value.bytes b t from r); cases e; rfl
 | flt b=>obtain ⟨t,e⟩:=(show ∃t,u=Value.float b t from r); cases e; rfl
 | ref a=>cases (show u=Value.ref a from r); rfl
 | ty n=>cases (show u=Value.type n from r); rfl
section
variable {P:Program}{w:World}{H H':Hp}{h h':Heap}{a C dx:Addr}{fs fs':List (Str×V)}
theorem kC {K:PySem.W.Frag}(hok:HOk P w K H h) (e:H a=some (.ins C dx fs)):∃mA,ObjM h a dx C mA/\(∀f,RelO (fs.lookup f) (mA f))/\PySem.Within mA (fs.map (·.1))/\fs.length<=1000/\H dx=some (.own a):=by
 obtain ⟨d,z,ne,ob,mA,n,r,q⟩:=(show ObjOk P w K H h a (.ins C dx fs) from hok a _ e)
 exact ⟨mA,⟨ob,n,ne⟩,r,q,z,d⟩
end
structure Cls (K:PySem.W.Frag) (C:Addr):Prop where
 pg:PySem.W.plainGet K C Str.empty=true
 hd:PySem.W.hasDictIn K C=true
 po:PySem.W.plainOver K C=true
 sa:PySem.W.findIn K (.ref C) "__setattr__"=some (some (.builtin "object.__setattr__"))
theorem Cls.get {K:PySem.W.Frag}{C:Addr}(c:Cls K C) (f:Str):PySem.W.plainGet K C f=true:=c.pg
def NoAttr (K:PySem.W.Frag) (C:Addr) (f:Str):Prop:=PySem.W.findIn K (.ref C) f=some none
theorem NoAttr.taker {K:PySem.W.Frag}{C:Addr}{f:Str}(n:NoAttr K C f):PySem.W.takerIn K C f=some none:=by
 unfold PySem.W.takerIn
 rw [show PySem.W.findIn K (.ref C) f=some none from n]
 rfl
structure Con (K:PySem.W.Frag) (C:Addr) (f:Str) (v:V) (u:Value):Prop where
 at_:PySem.W.findIn K (.ref C) f=some (some u)
 rel:RelV v u
 get:PySem.W.specialIn K u "__get__"=some none
 cp:PySem.W.copiedNames.contains f=false
structure vN (K:PySem.W.Frag) (C:Addr) (m:Str) (f:Addr):Prop where
 at_:PySem.W.findIn K (.ref C) m=some (some (.ref f))
 fn:PySem.W.isFn K (.ref f)=true
 kp:PySem.W.keepIn K (.ref f)=true
section
variable {X:Cx}{pins:List (Addr×Obj)}{σ:St}{H:Hp}{s:Shared}{a C dx:Addr}{fs:List (Str×V)}{f:Str}{v:V}{A:Around}{E:Value->Shared->Prop}
theorem pN {b:Bool}{Q:Value->Shared->Prop}(I:Inv X pins σ H s) (e:H a=some (.ins C dx fs)) (c:Cls X.K C) (n:NoAttr X.K C f) (l:fs.lookup f=some v)
  (h:∀u s',Inv X pins σ H s'->RelV v u->Q u s'):wpAny (model X.prog X.w) A (getAttr (.ref a) f b) Q E s:=by
 obtain ⟨mA,O,r,_,_,_⟩:=kC I.hok e
 obtain ⟨u,hu,ru⟩:=RelO.some_of (v:=v) (o:=mA f) (by rw [<-l]; exact r f)
 exact vt I.kIn O (c.get f) c.hd n hu (rK ru) (h u _ (I.tok _) ru)
theorem gJ {m:Str}{g:Addr}{pl:Sem Bool}{Q:Value×List Value->Shared->Prop}(I:Inv X pins σ H s) (e:H a=some (.ins C dx fs)) (c:Cls X.K C) (k:vN X.K C m g) (l:fs.lookup m=none)
  (h:Q (.ref g,[.ref a]) s):wpAny (model X.prog X.w) A (getMethod (.ref a) m pl) Q E s:=by
 obtain ⟨mA,O,r,_,_,_⟩:=kC I.hok e
 have hn:mA m=none:=RelO.none_of (by rw [<-l]; exact r m)
 exact tS I.kIn O (c.get m) k.at_ k.fn hn h
theorem pe {y:V}{u:Value}{Q:Unit->Shared->Prop}(I:Inv X pins σ H s) (e:H a=some (.ins C dx fs)) (c:Cls X.K C) (n:NoAttr X.K C f) (hl:fs.length<1000) (ry:RelV y u)
  (h:∀s',Inv X pins σ (upd H a (.ins C dx (cf f y fs))) s'->Q () s'):wpAny (model X.prog X.w) A (setAttr (.ref a) f u) Q E s:=by
 obtain ⟨mA,O,r,wi,_,ho⟩:=kC I.hok e
 have hz:(fs.map (·.1)).length<=sizeLine:=by rw [List.length_map,sizeLine_eq]; omega
 refine uR I.kIn O c.sa c.po n.taker c.hd wi hz fun h' O' sb=>h _ ?_
 have hd:∃o,h'.get? dx=some o:=let ⟨o,_,_,e',_⟩:=O'.ns; ⟨o,e'⟩
 refine I.write (x:=a) (e:=dx) (by rw [e]; exact True.intro) (.inr ho) (fun b q hb z=>(sb.2 b hb).trans z) hd ?_
 refine ⟨by rw [af O.ne]; exact ho,?_,O.ne,O'.obj,_,O'.ns,fun g=>?_,fun g hg=>?_⟩
 ·have:=iX f y fs; omega
 ·show RelO ((cf f y fs).lookup g) (if g=f then some u else mA g)
  rw [bv]
  by_cases q:g=f
  ·rw [if_pos q,if_pos q]; exact ry
  ·rw [if_neg q,if_neg q]; exact r g
 ·by_cases q:g=f
  ·rw [q]; exact (iY f y fs).1
  ·refine (iY f y fs).2 g (wi g fun z=>hg ?_)
   show (if g=f then some u else mA g)=none
   rw [if_neg q]; exact z
theorem Inv.made (I:Inv X pins σ H s):Inv X pins σ (upd (upd H s.heap.objs.size (.own (s.heap.objs.size+1))) (s.heap.objs.size+1) (.ins C s.heap.objs.size []))
  { s with heap:=(s.heap.push PySem.W.emptyDict).push (PySem.W.instObj C s.heap.objs.size) }:=by
 have e1:(s.heap.push PySem.W.emptyDict).get? s.heap.objs.size=some PySem.W.emptyDict:=Heap.get?_push_size s.heap rfl
 have e2:((s.heap.push PySem.W.emptyDict).push (PySem.W.instObj C s.heap.objs.size)).get? (s.heap.objs.size+1)=some (PySem.W.instObj C s.heap.objs.size):=by
  have:=Heap.get?_push_size (s.heap.push PySem.W.emptyDict) (o:=PySem.W.instObj C s.heap.objs.size) rfl
  rwa [Heap.size_push] at this
 have e3:(s.heap.push PySem.W.emptyDict).Ns s.heap.objs.size (fun _=>none):=⟨PySem.W.emptyDict,#[],_,e1,rfl,(fun e he=>absurd he (by simp)),fun _=>rfl⟩
 have I1:=I.laid (a:=s.heap.objs.size) (o:=.own (s.heap.objs.size+1)) (h':=s.heap.push PySem.W.emptyDict) (t':=s.toks) (fun b u q=>Heap.get?_push_of_some _ q) (Nat.le_refl _) ⟨_,e1⟩
 refine I1.laid (a:=s.heap.objs.size+1) (o:=.ins C s.heap.objs.size []) (t':=s.toks) (fun b u q=>Heap.get?_push_of_some _ q) (Nat.le_of_eq (Heap.size_push _ _)) ?_
 have ne:s.heap.objs.size≠s.heap.objs.size+1:=Nat.ne_of_lt (Nat.lt_succ_self _)
 refine ⟨by rw [af ne,aa],Nat.zero_le _,ne,e2,fun _=>none,(Heap.Ns1.of_empty e3).at fun o q=>Heap.get?_push_of_some _ q,fun _=>True.intro,fun y hy=>absurd rfl hy⟩
theorem vB {prog:Program}{w:World}{env:Env}{e:Expr}{f:Str}{pos:Pos}{s:Shared}{Q:Value->Shared->Prop}(hb:attributeBase e f env (eval e env)=eval e env)
  (h:wpAny (model prog w) A (eval e env) (fun o s₁=>wpAny (model prog w) A (getAttr o f true) Q E s₁) E s):wpAny (model prog w) A (eval (.Attribute e f pos) env) Q E s :=
 Attribute_any_ h (by rw [arm_eval_Attribute,hb])
end
def h7 (K:PySem.W.Frag) (ta:TE) (f:Str):TE:=fun σ H Q=>ta σ H fun x H1=>∃a C dx fs v,x=.ref a/\H1 a=some (.ins C dx fs)/\Cls K C/\NoAttr K C f/\fs.lookup f=some v/\Q v H1
def nV (K:PySem.W.Frag) (ta tv:TE) (f:Str):TS:=fun D σ H=>tv σ H fun y H1=>ta σ H1 fun x H2=>∃a C dx fs,x=.ref a/\H2 a=some (.ins C dx fs)/\Cls K C/\NoAttr K C f/\fs.length<1000 /\
 D.nx σ (upd H2 a (.ins C dx (cf f y fs)))
section
variable {X:Cx}{o e value:Expr}{f:Str}{pos pos' tpos:Pos}{ta tv:TE}
theorem ba (he:PE X e ta) (hb:attributeBase e f X.env (eval e X.env)=eval e X.env):PE X (.Attribute e f pos) (h7 X.K ta f):=by
 intro pins s σ H Q I h
 refine vB hb (thn (he pins s σ H _ I h) fun u s1 ⟨x,H1,I1,rx,a,C,dx,fs,v,ex,ea,c,n,l,q⟩=>?_)
 subst ex
 obtain rfl:u=Value.ref a:=rx
 exact pN I1 ea c n l fun u' s2 I2 ru=>⟨v,H1,I2,ru,q⟩
theorem c6 (ha:PE X o ta) (hv:PE X value tv) (hs:swapsWith value (some (.Attribute o f pos')) pos.line X.env=pure false):PS X (.Assign [.Attribute o f pos'] value pos) (nV X.K ta tv f):=by
 intro pins s σ H D I h
 refine plainObj_wpAny_Assign_Attribute (thn (hv pins s σ H _ I h) fun u s1 ⟨y,H1,I1,ry,q⟩=>thn (ha pins s1 σ H1 _ I1 q) fun ov s2 ⟨x,H2,I2,rx,a,C,dx,fs,ex,ea,c,n,l,q2⟩=>?_) hs
 subst ex
 obtain rfl:ov=Value.ref a:=rx
 exact pe I2 ea c n l ry fun s3 I3=>⟨σ,_,I3,q2⟩
theorem vp {pl:Sem Bool}{m:Str}{apos:Pos}{args:List Expr}{pins:List (Addr×Obj)}{s:Shared}{σ:St}{H:Hp}{Q:Value->Shared->Prop}{te:TE}(he:PE X e te) (I:Inv X pins σ H s)
  (h:te σ H fun x H1=>∃a C dx fs g,x=.ref a/\H1 a=some (.ins C dx fs)/\Cls X.K C/\vN X.K C m g/\fs.lookup m=none /\
   ∀s1,Inv X pins σ H1 s1->wpAny (model X.prog X.w) X.A (callWith pos (.ref g) [.ref a] (backTo pos (starEach args X.env)) (backToKw pos (keywordEach [] X.env))) Q X.xe s1)
  (ht:eval (.Call (.Attribute e m apos) args [] pos) X.env=(do
   let ov <- eval e X.env
   standAt apos.atName
   let (f,first) <- holding [ov] (getMethod ov m pl)
   callWith pos f first (backTo pos (starEach args X.env)) (backToKw pos (keywordEach [] X.env)))) :
  wpAny (model X.prog X.w) X.A (eval (.Call (.Attribute e m apos) args [] pos) X.env) Q X.xe s:=by
 refine PySem.W.methodCall_KW (pl:=pl) (thn (he pins s σ H _ I h) fun u s1 ⟨x,H1,I1,rx,a,C,dx,fs,g,ex,ea,c,k,l,q⟩=>?_) ht
 subst ex
 obtain rfl:u=Value.ref a:=rx
 exact gJ I1 ea c k l (q s1 I1)
end
section
variable {X:Cx}{pins:List (Addr×Obj)}{σ:St}{H:Hp}{s:Shared}{A:Around}{E:Value->Shared->Prop}{Q:Value->Shared->Prop}{c:Value}{b:Bool}
inductive TyOf (K:PySem.W.Frag) (H:Hp):V->Value->Prop where
 | non:TyOf K H .non (.type "NoneType")
 | bl (x:Bool):TyOf K H (.bl x) (.type "bool")
 | int (i:Int):TyOf K H (.int i) (.type "int")
 | str (x:Str):TyOf K H (.str x) (.type "str")
 | flt (x:UInt64):TyOf K H (.flt x) (.type "float")
 | lst {a:Addr}{xs:List V}(e:H a=some (.lst xs)):TyOf K H (.ref a) (.type "list")
 | frz {a:Addr}{o:Obj}{xs:List V}(e:H a=some (.frz o (.lst xs))):TyOf K H (.ref a) (.type "list")
 | tup {a:Addr}{xs:List V}(e:H a=some (.tup xs)):TyOf K H (.ref a) (.type "tuple")
 | dK {a:Addr}{kvs:List (Key×V)}(e:H a=some (.dK kvs)):TyOf K H (.ref a) (.type "dict")
 | dT {a:Addr}{kvs:List (TK×V)}(e:H a=some (.dT kvs)):TyOf K H (.ref a) (.type "dict")
 | ins {a C dx:Addr}{fs:List (Str×V)}(e:H a=some (.ins C dx fs)) (cl:Cls K C) (ha:PySem.W.findIn K (.ref C) "__class__"=some (some (.builtin "object.__class__")))
   (hn:PySem.W.specialIn K (.builtin "object.__class__") "__get__"=some (some (.builtin "getset_descriptor.__get__"))) (htk:PySem.W.takesIn K (.builtin "object.__class__")=some true)
   (hm:PySem.W.mroIn K C (.type "object")=some true):TyOf K H (.ref a) (.ref C)
theorem rC {x:V}{u t:Value}(I:Inv X pins σ H s) (rx:RelV x u) (ty:TyOf X.K H x t) (e:PySem.W.kitOne X.K t c=some b) (h:∀tk,Q (.bool b) { s with toks:=tk }) :
  wpAny (model X.prog X.w) A (call (.builtin "isinstance") [u,c]) Q E s:=by
 cases ty with
 | non=>cases (show u=Value.none from rx); exact PySem.W.kia_one PySem.W.kitx_none I.kIn True.intro e (fun z=>nomatch z) h
 | bl y=>cases (show u=Value.bool y from rx); exact PySem.W.kia_one PySem.W.kitx_bool I.kIn True.intro e (fun z=>nomatch z) h
 | int i=>obtain ⟨t,q⟩:=(show ∃t,u=Value.int i t from rx); cases q; exact PySem.W.kia_one PySem.W.kitx_int I.kIn True.intro e (fun z=>nomatch z) h
 | str y=>obtain ⟨t,q⟩:=(show ∃t,u=Value.str y t from rx); cases q; exact PySem.W.kia_one PySem.W.kitx_str I.kIn True.intro e (fun z=>nomatch z) h
 | flt y=>obtain ⟨t,q⟩:=(show ∃t,u=Value.float y t from rx); cases q; exact PySem.W.kia_one PySem.W.kitx_float I.kIn True.intro e (fun z=>nomatch z) h
 | @lst a xs ea =>
  cases (show u=Value.ref a from rx)
  obtain ⟨_,_,n,_,h1⟩:=(show ObjOk X.prog X.w X.K H s.heap a (.lst xs) from I.hok a _ ea)
  exact PySem.W.kia_one PySem.W.kitx_list I.kIn ⟨_,h1,rfl⟩ e (fun z=>nomatch z) h
 | @frz a ob xs ea =>
  cases (show u=Value.ref a from rx)
  obtain ⟨_,_,_,n,_,h1⟩:=(show ObjOk X.prog X.w X.K H s.heap a (.frz ob (.lst xs)) from I.hok a _ ea)
  exact PySem.W.kia_one PySem.W.kitx_list I.kIn ⟨_,h1,rfl⟩ e (fun z=>nomatch z) h
 | @tup a xs ea =>
  cases (show u=Value.ref a from rx)
  obtain ⟨_,_,_,p⟩:=(show ObjOk X.prog X.w X.K H s.heap a (.tup xs) from I.hok a _ ea)
  obtain ⟨o,h1,h2,_⟩:=p
  exact PySem.W.kia_one PySem.W.kitx_tuple I.kIn ⟨o,h1,h2⟩ e (fun z=>nomatch z) h
 | @dK a kvs ea =>
  cases (show u=Value.ref a from rx)
  obtain ⟨_,_,vs,_,p⟩:=(show ObjOk X.prog X.w X.K H s.heap a (.dK kvs) from I.hok a _ ea)
  obtain ⟨o,es,ep,h1,h2,_⟩:=p
  exact PySem.W.kia_one PySem.W.kitx_dict I.kIn ⟨o,h1,h2.1⟩ e (fun z=>nomatch z) h
 | @dT a kvs ea =>
  cases (show u=Value.ref a from rx)
  obtain ⟨_,_,xs,_,o,es,ep,h1,h2,_⟩:=(show ObjOk X.prog X.w X.K H s.heap a (.dT kvs) from I.hok a _ ea)
  exact PySem.W.kia_one PySem.W.kitx_dict I.kIn ⟨o,h1,h2.1⟩ e (fun z=>nomatch z) h
 | @ins a C dx fs ea cl ha hn htk hm =>
  cases (show u=Value.ref a from rx)
  obtain ⟨mA,O,_⟩:=kC I.hok ea
  obtain ⟨od,J,_⟩:=O.look
  exact PySem.W.kia_one (PySem.W.kitx_own (cl.get _) cl.hd ha hn htk hm) I.kIn J e (fun z=>nomatch z) h
end
end L2
namespace L2
open PySem PySem.Spec PyProof.Rows
structure Room (k:Nat) (A:Around):Prop where
 hd:A.handled=none
 dp:A.depth+3 * k+5<recursionLimit
 un:A.units+16 * k+200<cLine
theorem Room.mono {j k:Nat}{A:Around}(r:Room k A) (h:j<=k):Room j A:=⟨r.hd,by have:=r.dp; omega,by have:=r.un; omega⟩
theorem Room.deeper {k:Nat}{A:Around}(r:Room (k+1) A) (env:Env):Room k (A.deeper env) :=
 ⟨r.hd,by have:=r.dp; show A.depth+1+3 * k+5<_; omega,by have:=r.un; show A.units+3+16 * k+200<_; omega⟩
theorem pG {A:Around}{C:Addr}{us:List Value}{kw:List (Str×Value)}:(A.under (.builtin "type.__call__" ⟨.ref C::us,kw⟩)).depth=A.depth+1:=by
 first | rfl | simp [Around.under,Code.weight,Code.isCreation,Code.isGuard,Code.isCaller,Code.frames,Code.isFrame,guardIds]
theorem pF {A:Around}{C:Addr}{us:List Value}{kw:List (Str×Value)}:(A.under (.builtin "type.__call__" ⟨.ref C::us,kw⟩)).units=A.units+1:=by
 first | rfl | simp [Around.under,Code.cUnits,Code.frames,Code.isFrame]
theorem Room.make {k:Nat}{A:Around}(r:Room (k+1) A) (C:Addr) (us:List Value) (kw:List (Str×Value)):Room k (A.under (.builtin "type.__call__" ⟨.ref C::us,kw⟩)) :=
 ⟨r.hd,by have:=r.dp; rw [pG]; omega,by have:=r.un; rw [pF]; omega⟩
theorem Room.depth {k:Nat}{A:Around}(r:Room k A):A.depth<recursionLimit:=by have:=r.dp; omega
theorem Room.units {k:Nat}{A:Around}(r:Room k A):A.units+64<cLine:=by have:=r.un; omega
def ap:TA:=fun _ H Q=>Q [] H
def ac (ta:TE) (tr:TA):TA:=fun σ H Q=>ta σ H fun x H1=>tr σ H1 fun xs H2=>Q (x::xs) H2
section
variable {X:Cx}{e:Expr}{es:List Expr}{te:TE}{t:TA}{pos:Pos}
theorem bE:PA X [] ap:=fun _ _ _ _ H Q I h=>Calls.spliced_nil ⟨[],H,I,.nil,h⟩
theorem bd (ha:PE X e te) (hr:PA X es t) (hs:starEach (e::es) X.env=(false,eval e X.env)::starEach es X.env:=by rfl):PA X (e::es) (ac te t):=by
 intro pos pins s σ H Q I h
 rw [hs]
 show wpAny _ _ (spliced ((false,eval e X.env)::backTo pos (starEach es X.env))) _ _ s
 refine Calls.spliced_cons (thn (ha pins s σ H _ I h) fun u s1 ⟨x,H1,I1,r1,q1⟩=>?_)
 exact thn (hr pos pins s1 σ H1 _ I1 q1) fun us s2 ⟨xs,H2,I2,r2,q2⟩=>⟨x::xs,H2,I2,.cons r1 r2,q2⟩
def gk (t:TA):TE:=fun σ H Q=>t σ H fun xs H1=>xs.length<=sizeLine/\∀p,H1 p=none->Q (.ref p) (upd H1 p (.tup xs))
def gW (t:TA):TE:=fun σ H Q=>t σ H fun xs H1=>xs.length<=sizeLine/\∀p,H1 p=none->Q (.ref p) (upd H1 p (.lst xs))
theorem a_ {x1}(h:PA X es t):PE X (.Tuple es x1 pos) (gk t):=by
 intro pins s σ H Q I hq
 refine wpAny_Tuple_spliced (thn (h pos pins s σ H _ I hq) fun us s1 ⟨xs,H1,I1,r,z,q⟩=>⟨by rw [<-r.length]; exact z,?_⟩)
 have hf:H1 s1.heap.objs.size=none:=I1.hok.fresh (Nat.le_refl _)
 refine ⟨.ref s1.heap.objs.size,upd H1 s1.heap.objs.size (.tup xs),I1.laid (t':=s1.toks) (fun b u e=>Heap.get?_push_of_some _ e) (Nat.le_refl _) ?_,rfl,q _ hf⟩
 exact ⟨z,us,r,⟨_,Heap.get?_push_size _ rfl,rfl,_,rfl⟩⟩
theorem aX (h:PA X es t):PE X (.List es pos) (gW t):=by
 intro pins s σ H Q I hq
 refine wpAny_List_spliced (thn (h pos pins s σ H _ I hq) fun us s1 ⟨xs,H1,I1,r,z,q⟩=>⟨by rw [<-r.length]; exact z,?_⟩)
 have hf:H1 s1.heap.objs.size=none:=I1.hok.fresh (Nat.le_refl _)
 refine ⟨.ref s1.heap.objs.size,upd H1 s1.heap.objs.size (.lst xs),I1.laid (t':=s1.toks) (fun b u e=>Heap.get?_push_of_some _ e) (Nat.le_refl _) ?_,rfl,q _ hf⟩
 exact ⟨z,us,0,r,Heap.get?_push_size _ rfl⟩
end
abbrev Sp:=List V->Hp->VK->XK->Prop
abbrev CXT:=List Env->Hp->Shared->XK->Value->Shared->Prop
structure Env0 (P:Program) (w:World) (K:PySem.W.Frag) (mg:Str->Option Value) (base:Heap) (A:Around) (outer:List Env) (s:Shared) (H:Hp):Prop where
 frames:A.frames=some outer
 mod:Mod K mg base
 bs:∀b o,base.get? b=some o->s.heap.get? b=some o/\H b=none
 bsz:base.objs.size<=s.heap.objs.size
 funs:s.heap.FunFrames base outer
 frf:∀b∈frs outer,H b=none
 hok:HOk P w K H s.heap
 bare:AllBare s.gens
def CE (outer:List Env) (P:Program) (w:World) (K:PySem.W.Frag) (H:Hp) (s:Shared) (Q:VK) (u:Value) (s':Shared):Prop :=
 ∃v H',s'.os=s.os/\AllBare s'.gens/\Un (frs outer) [] H H' s.heap s'.heap/\HOk P w K H' s'.heap/\RelV v u/\Q v H'
def CR (CX:CXT) (outer:List Env) (P:Program) (w:World) (K:PySem.W.Frag) (H:Hp) (s:Shared) (Q:VK) (E:XK) (r:Result) (s':Shared):Prop :=
 match r with
 | .ok (.ret u)=>CE outer P w K H s Q u s'
 | .ok _=>False
 | .error e=>CX outer H s E e s'
structure jA (P:Program) (w:World) (K:PySem.W.Frag) (mg:Str->Option Value) (base:Heap) (CX:CXT) (k:Nat) (f:Addr) (fd:FuncData) (ps:List Str) (sp:Sp):Prop where
 len:∀vs H Q E,sp vs H Q E->vs.length=ps.length
 run:∀(A:Around) (outer:List Env) (s:Shared) (H:Hp) (args:Args) (us:List Value) (vs:List V) (Q:VK) (E:XK),Room k A->Env0 P w K mg base A outer s H->BindsTo s fd args (ps.zip us)->Vals vs us->sp vs H Q E ->
  codeAny (model P w) A (.call (.ref f) args) (CR CX outer P w K H s Q E) s
theorem Env0.make {P:Program}{w:World}{K:PySem.W.Frag}{mg:Str->Option Value}{base:Heap}{A:Around}{outer:List Env}{s:Shared}{H:Hp}(e:Env0 P w K mg base A outer s H) (C:Addr) (us:List Value) (kw:List (Str×Value)) :
  Env0 P w K mg base (A.under (.builtin "type.__call__" ⟨.ref C::us,kw⟩)) outer s H:=⟨by first | exact e.frames | (simpa [Around.under,Code.envs,Code.isFrame,pushEnvs] using e.frames),e.mod,e.bs,e.bsz,e.funs,e.frf,e.hok,e.bare⟩
section
variable {X:Cx}{pins:List (Addr×Obj)}{σ:St}{H:Hp}{s s':Shared}
theorem Inv.env0 (I:Inv X pins σ H s):Env0 X.prog X.w X.K X.mg X.base X.A X.stack s H :=
 ⟨I.ok.frames,I.ok.mod,I.bs,Nat.le_trans I.ok.bsz I.sz,I.stack,I.stkFree,I.hok,I.bare⟩
theorem Inv.after {Q:VK}{u:Value}(I:Inv X pins σ H s) (h:CE X.stack X.prog X.w X.K H s Q u s'):EP X pins σ Q u s':=by
 obtain ⟨v,H',os,bare,un,hok,r,q⟩:=h
 obtain ⟨hh,g,d,t,os'⟩:=s'
 obtain rfl:os'=s.os:=os
 exact ⟨v,H',I.call (h':=hh) (g':=g) (d':=d) (t':=t) (ch:=[]) un hok bare (fun b z=>absurd z (by simp)),r,q⟩
end
def au (sp:Sp) (dvs:List V) (E:XK) (t:TA):TE:=fun σ H Q=>t σ H fun vs H1=>sp (vs++dvs) H1 Q E
def eL (C:Addr) (m:Str) (sp:Sp) (dvs:List V) (E:XK) (ta:TE) (t:TA):TE:=fun σ H Q=>ta σ H fun x H1=>∃a dx fs,x=.ref a/\H1 a=some (.ins C dx fs)/\fs.lookup m=none /\
 t σ H1 fun vs H2=>sp (x::(vs++dvs)) H2 Q E
def sR (C:Addr) (sp:Sp) (dvs:List V) (E:XK) (t:TA):TE:=fun σ H Q=>t σ H fun vs H1=>∀x dx,H1 x=none->H1 dx=none->dx≠x ->
 sp (.ref x::(vs++dvs)) (upd (upd H1 dx (.own x)) x (.ins C dx [])) (fun v H2=>v=.non/\Q (.ref x) H2) E
def Binds (K:PySem.W.Frag) (fd:FuncData) (ps:List Str) (ds:List Value):Prop :=
 ∀(s:Shared) (us:List Value),K.In s.heap->(us++ds).length=ps.length->BindsTo s fd ⟨us,[]⟩ (ps.zip (us++ds))
theorem Binds.all {K:PySem.W.Frag}{fd:FuncData}{ps:List Str}(h:∀us:List Value,us.length=ps.length->bindArgs fd ⟨us,[]⟩=pure (ps.zip us)):Binds K fd ps []:=fun s us _ hl=>by
 rw [List.append_nil] at hl ⊢
 exact .of_eq (h us hl)
def i_ (CX:CXT) (X:Cx) (E:XK):Prop:=∀(pins:List (Addr×Obj)) (σ:St) (H:Hp) (s:Shared) (e:Value) (s':Shared),Inv X pins σ H s->CX X.stack H s E e s'->X.xe e s'
section
variable {X:Cx}{CX:CXT}{k:Nat}{f C:Addr}{fd:FuncData}{ps:List Str}{sp:Sp}{dvs:List V}{ds:List Value}{E:XK}{x m:Str}{p pos apos:Pos}{e o:Expr}{es:List Expr}{ta:TE}{t:TA}
theorem qG {pins:List (Addr×Obj)}{σ:St}{H:Hp}{s:Shared}{Q:VK}{us:List Value}{vs:List V}(F:jA X.prog X.w X.K X.mg X.base CX k f fd ps sp) (hr:Room k X.A) (hb:Binds X.K fd ps ds) (hd:Vals dvs ds) (hx:i_ CX X E)
  (I:Inv X pins σ H s) (r:Vals vs us) (h:sp (vs++dvs) H Q E):wpAny (model X.prog X.w) X.A (call (.ref f) us) (EP X pins σ Q) X.xe s:=by
 have r2:Vals (vs++dvs) (us++ds):=r.append hd
 have hl:(us++ds).length=ps.length:=by rw [<-r2.length]; exact F.len _ _ _ _ h
 refine wpAny_call (codeAny_mono (F.run X.A X.stack s H ⟨us,[]⟩ (us++ds) (vs++dvs) Q E hr I.env0 (hb s us I.kIn hl) r2 h) fun r s' hq=>?_)
 cases r with
 | error e=>exact hx pins σ H s e s' I hq
 | ok fl =>
  cases fl with
  | ret u=>exact I.after hq
  | next=>exact False.elim hq
  | brk=>exact False.elim hq
  | cont=>exact False.elim hq
theorem vh (F:jA X.prog X.w X.K X.mg X.base CX k f fd ps sp) (hr:Room k X.A) (hg:Gl X x) (hm:X.mg x=some (.ref f)) (hk:PySem.W.keepIn X.K (.ref f)=true) (hb:Binds X.K fd ps ds) (hd:Vals dvs ds) (hx:i_ CX X E)
  (ha:PA X (e::es) t) (hdb:(x == ("__debug__":Str))=false:=by decide) (he:starEach (e::es) X.env=(false,eval e X.env)::starEach es X.env:=by rfl) (hpl:(backTo pos (starEach es X.env)).any (·.1)=false:=by rfl) :
  PE X (.Call (.Name x p) (e::es) [] pos) (au sp dvs E t):=by
 intro pins s σ H Q I h
 refine wpAny_Call_Name_kw (ni I hg hm ?_ hdb)
 refine PySem.W.callWith_K (h₀:=X.base) I.ok.mod.kin hk (thn (ha pos pins s σ H _ I h) fun us s1 ⟨vs,H1,I1,r,q⟩=>⟨I1.kIn,?_⟩) he hpl
 exact qG F hr hb hd hx I1 r q
theorem vb {pl:Sem Bool}(he:PE X o ta) (c:Cls X.K C) (hm:vN X.K C m f) (F:jA X.prog X.w X.K X.mg X.base CX k f fd ps sp) (hr:Room k X.A) (hb:Binds X.K fd ps ds) (hd:Vals dvs ds) (hx:i_ CX X E) (ha:PA X (e::es) t)
  (hst:starEach (e::es) X.env=(false,eval e X.env)::starEach es X.env:=by rfl) (hpl:(backTo pos (starEach es X.env)).any (·.1)=false:=by rfl)
  (ht:eval (.Call (.Attribute o m apos) (e::es) [] pos) X.env=(do
   let ov <- eval o X.env
   standAt apos.atName
   let (f,first) <- holding [ov] (getMethod ov m pl)
   callWith pos f first (backTo pos (starEach (e::es) X.env)) (backToKw pos (keywordEach [] X.env))):=by rfl) :
  PE X (.Call (.Attribute o m apos) (e::es) [] pos) (eL C m sp dvs E ta t):=by
 intro pins s σ H Q I h
 refine PySem.W.methodCall_KW (pl:=pl) (thn (he pins s σ H _ I h) fun u s1 ⟨x,H1,I1,rx,a,dx,fs,ex,ea,l,q⟩=>?_) ht
 subst ex
 obtain rfl:u=Value.ref a:=rx
 refine gJ I1 ea c hm l ?_
 refine PySem.W.callWith_K (first:=[.ref a]) (h₀:=X.base) I.ok.mod.kin hm.kp (thn (ha pos pins s1 σ H1 _ I1 q) fun us s2 ⟨vs,H2,I2,r,q2⟩=>⟨I2.kIn,?_⟩) hst hpl
 exact qG (us:=.ref a::us) (vs:=.ref a::vs) F hr hb hd hx I2 (.cons rfl r) q2
theorem tI {pl:Sem Bool}(he:PE X o ta) (c:Cls X.K C) (hm:vN X.K C m f) (F:jA X.prog X.w X.K X.mg X.base CX k f fd ps sp) (hr:Room k X.A) (hb:Binds X.K fd ps ds) (hd:Vals dvs ds) (hx:i_ CX X E)
  (ht:eval (.Call (.Attribute o m apos) [] [] pos) X.env=(do
   let ov <- eval o X.env
   standAt apos.atName
   let (f,first) <- holding [ov] (getMethod ov m pl)
   callWith pos f first (backTo pos (starEach [] X.env)) (backToKw pos (keywordEach [] X.env))):=by rfl) :
  PE X (.Call (.Attribute o m apos) [] [] pos) (eL C m sp dvs E ta ap):=by
 intro pins s σ H Q I h
 refine PySem.W.methodCall_KW (pl:=pl) (thn (he pins s σ H _ I h) fun u s1 ⟨x,H1,I1,rx,a,dx,fs,ex,ea,l,q⟩=>?_) ht
 subst ex
 obtain rfl:u=Value.ref a:=rx
 refine gJ I1 ea c hm l ?_
 exact PySem.W.callWith_K0 (first:=[.ref a]) I1.kIn hm.kp (qG (us:=[.ref a]) (vs:=[.ref a]) F hr hb hd hx I1 (.cons rfl .nil) q)
structure Mk (K:PySem.W.Frag) (C f:Addr):Prop where
 makes:PySem.W.makesIn K C=true
 init:PySem.W.findIn K (.ref C) "__init__"=some (some (.ref f))
 fn:PySem.W.isFn K (.ref f)=true
 kp:PySem.W.keepIn K (.ref C)=true
theorem sV {pins:List (Addr×Obj)}{σ:St}{H:Hp}{s:Shared}{Q:VK}{us:List Value}{vs:List V}(M:Mk X.K C f) (F:jA X.prog X.w X.K X.mg X.base CX k f fd ps sp) (hr:Room (k+1) X.A) (hb:Binds X.K fd ps ds) (hd:Vals dvs ds)
  (hx:i_ CX X E) (I:Inv X pins σ H s) (r:Vals vs us)
  (h:∀x dx,H x=none->H dx=none->dx≠x->sp (.ref x::(vs++dvs)) (upd (upd H dx (.own x)) x (.ins C dx [])) (fun v H2=>v=.non/\Q (.ref x) H2) E) :
  wpAny (model X.prog X.w) X.A (call (.ref C) us) (EP X pins σ Q) X.xe s:=by
 have hq:=h (s.heap.objs.size+1) s.heap.objs.size (I.hok.fresh (Nat.le_succ _)) (I.hok.fresh (Nat.le_refl _)) (Nat.ne_of_lt (Nat.lt_succ_self _))
 have I2:=Inv.made (C:=C) I
 have r2:Vals (V.ref (s.heap.objs.size+1)::(vs++dvs)) (Value.ref (s.heap.objs.size+1)::(us++ds)):=.cons rfl (r.append hd)
 have hl:(Value.ref (s.heap.objs.size+1)::us++ds).length=ps.length:=by
  have e:=r2.length
  rw [F.len _ _ _ _ hq] at e
  exact e.symm
 refine wpAny_call (tM (f:=f) I.kIn M.makes M.init (beq_iff_eq.mp M.fn) (codeAny_mono (F.run _ X.stack _ _ ⟨Value.ref (s.heap.objs.size+1)::us,[]⟩ (Value.ref (s.heap.objs.size+1)::(us++ds)) _ _ E (hr.make C us [])
  (I2.env0.make C us []) (hb _ (Value.ref (s.heap.objs.size+1)::us) I2.kIn hl) r2 hq) fun r s' hq'=>?_))
 cases r with
 | error e=>exact hx pins σ _ _ e s' I2 hq'
 | ok fl =>
  cases fl with
  | ret u =>
   obtain ⟨v,H',I3,rv,ev,q3⟩:=I2.after hq'
   subst ev
   exact ⟨rv,⟨V.ref (s.heap.objs.size+1),H',I3,rfl,q3⟩⟩
  | next=>exact False.elim hq'
  | brk=>exact False.elim hq'
  | cont=>exact False.elim hq'
theorem vc (M:Mk X.K C f) (F:jA X.prog X.w X.K X.mg X.base CX k f fd ps sp) (hr:Room (k+1) X.A) (hg:Gl X x) (hm:X.mg x=some (.ref C)) (hb:Binds X.K fd ps ds) (hd:Vals dvs ds) (hx:i_ CX X E)
  (ha:PA X (e::es) t) (hdb:(x == ("__debug__":Str))=false:=by decide) (he:starEach (e::es) X.env=(false,eval e X.env)::starEach es X.env:=by rfl) (hpl:(backTo pos (starEach es X.env)).any (·.1)=false:=by rfl) :
  PE X (.Call (.Name x p) (e::es) [] pos) (sR C sp dvs E t):=by
 intro pins s σ H Q I h
 refine wpAny_Call_Name_kw (ni I hg hm ?_ hdb)
 refine PySem.W.callWith_K (h₀:=X.base) I.ok.mod.kin M.kp (thn (ha pos pins s σ H _ I h) fun us s1 ⟨vs,H1,I1,r,q⟩=>⟨I1.kIn,?_⟩) he hpl
 exact sV M F hr hb hd hx I1 r q
end
section
variable {X:Cx}{CX:CXT}{k:Nat}{f C:Addr}{fd:FuncData}{ps ks:List Str}{sp:Sp}{E:XK}{x m:Str}{p pos apos kpos:Pos}{e o:Expr}{es:List Expr}{kws:List Keyword}{te ta:TE}{t tk:TA}{nm:Option Str}
structure xj (K:PySem.W.Frag) (fd:FuncData) (ps ks:List Str) (g:List Value->List Value->List Value) (gV:List V->List V->List V):Prop where
 to:∀(s:Shared) (us ws:List Value),K.In s.heap->(g us ws).length=ps.length->BindsTo s fd ⟨us,ks.zip ws⟩ (ps.zip (g us ws))
 rel:∀{vs:List V}{us:List Value}{zs:List V}{ws:List Value},Vals vs us->Vals zs ws->Vals (gV vs zs) (g us ws)
variable {g:List Value->List Value->List Value}{gV:List V->List V->List V}
end
structure fx (N P:List Str) (sc:Scope):Prop where
 kind:sc.kind=.function
 co:sc.isCoroutine=false
 gen:sc.isGenerator=false
 nd:N.Nodup
 pre:N.take P.length=P
 par:∀x∈P,sc.names.lookup x=some .local∨sc.names.lookup x=some .cell
 nofree:∀y∈sc.names,y.2≠.free
theorem md {kindOf:Str->Option NameKind}{x:Str}:∀{binds:List (Str×Value)}{m:Str->Option Value},(∀v,(x,v)∉binds)->bindL kindOf binds m x=m x
 | [],_,_=>rfl
 | (n,v)::r,m,h=>by
  unfold bindL
  rw [md fun w hw=>h w (List.mem_cons_of_mem _ hw)]
  split
  ·have:x≠n:=by rintro rfl; exact h v List.mem_cons_self
   simp [this]
  ·rfl
theorem mf {kindOf:Str->Option NameKind}{x:Str}:∀{binds:List (Str×Value)}{m:Str->Option Value},(∀v,(x,v)∉binds)->bindC kindOf binds m x=m x
 | [],_,_=>rfl
 | (n,v)::r,m,h=>by
  unfold bindC
  rw [mf fun w hw=>h w (List.mem_cons_of_mem _ hw)]
  split
  ·rfl
  ·have:x≠n:=by rintro rfl; exact h v List.mem_cons_self
   simp [this]
theorem me {kindOf:Str->Option NameKind}{x:Str}{v:Value}:∀{P:List Str}{vs:List Value}{i:Nat}{m:Str->Option Value},P.Nodup->P[i]?=some x->vs[i]?=some v->kindOf x=some .local ->
  bindL kindOf (P.zip vs) m x=some v
 | [],_,_,_,_,h,_,_=>by simp at h
 | _::_,[],_,_,_,_,h,_=>by simp at h
 | p::P,w::vs,0,m,nd,h1,h2,hk=>by
  simp at h1 h2; subst h1; subst h2
  show bindL kindOf ((p,w)::P.zip vs) m p=_
  unfold bindL
  rw [md fun v hv=>(List.nodup_cons.mp nd).1 (List.of_mem_zip hv).1,if_pos hk]
  simp
 | p::P,w::vs,i+1,m,nd,h1,h2,hk=>by
  show bindL kindOf ((p,w)::P.zip vs) m x=_
  unfold bindL
  exact me (i:=i) (List.nodup_cons.mp nd).2 (by simpa using h1) (by simpa using h2) hk
theorem mh {kindOf:Str->Option NameKind}{x:Str}{v:Value}:∀{P:List Str}{vs:List Value}{i:Nat}{m:Str->Option Value},P.Nodup->P[i]?=some x->vs[i]?=some v->kindOf x≠some .local ->
  bindC kindOf (P.zip vs) m x=some v
 | [],_,_,_,_,h,_,_=>by simp at h
 | _::_,[],_,_,_,_,h,_=>by simp at h
 | p::P,w::vs,0,m,nd,h1,h2,hk=>by
  simp at h1 h2; subst h1; subst h2
  show bindC kindOf ((p,w)::P.zip vs) m p=_
  unfold bindC
  rw [mf fun v hv=>(List.nodup_cons.mp nd).1 (List.of_mem_zip hv).1,if_neg hk]
  simp
 | p::P,w::vs,i+1,m,nd,h1,h2,hk=>by
  show bindC kindOf ((p,w)::P.zip vs) m x=_
  unfold bindC
  exact mh (i:=i) (List.nodup_cons.mp nd).2 (by simpa using h1) (by simpa using h2) hk
def aA (N:List Str) (vs:List V):St:=vs.map some++List.replicate (N.length-vs.length) none
def vz (CX:CXT) (P:Program) (w:World) (K:PySem.W.Frag) (mg:Str->Option Value) (base:Heap) (N:List Str) (qual:Str) (scope:Scope) (f:Addr) (cd:Value) (A:Around) (outer:List Env) (s:Shared) (H:Hp) (E:XK):Cx where
 prog:=P
 w:=w
 K:=K
 mg:=mg
 base:=base
 A:=A.deeper (envOfC qual scope s.heap.objs.size f cd)
 N:=N
 s₀:=s
 H₀:=H
 env:=envOfC qual scope s.heap.objs.size f cd
 outer:=outer
 stack:=envOfC qual scope s.heap.objs.size f cd::outer
 ex:=[]
 calm:=true
 fn:=fun _=>true
 pn:=[]
 xe:=fun e s'=>wpAny (model P w) (A.deeper (envOfC qual scope s.heap.objs.size f cd)) (leaving (envOfC qual scope s.heap.objs.size f cd) e) (fun _ s''=>CX outer H s E e s'') (fun e' s''=>CX outer H s E e' s'') s'
theorem oO {sc:Scope}{n:Nat}{x:Str}(h:sc.names.lookup x=some .cell):∃c,(cellsFrom n sc.names []).lookup x=some c:=by
 have q:=PySem.W.cellsFrom_some sc.names n [] (.inl h)
 exact Option.isSome_iff_exists.mp q
theorem rE {CX:CXT}{P:Program}{w:World}{K:PySem.W.Frag}{mg:Str->Option Value}{base:Heap}{N ps:List Str}{qual:Str}{scope:Scope}{f:Addr}{cd:Value}{A:Around}{outer:List Env}{s s1:Shared}{H:Hp}{E:XK}{us:List Value}{vs:List V}
  (S:fx N ps scope) (hd:A.handled=none) (e0:Env0 P w K mg base A outer s H) (hl:vs.length=ps.length) (r:Vals vs us)
  (x:InCallC s s.heap.objs.size (bindL (envOfC qual scope s.heap.objs.size f cd).kindOf (ps.zip us) fun _=>none) (cellsFrom (s.heap.objs.size+1) scope.names []) (bindC (envOfC qual scope s.heap.objs.size f cd).kindOf (ps.zip us) fun _=>none) s1) :
  Inv (vz CX P w K mg base N qual scope f cd A outer s H E) [] (aA N vs) H s1:=by
 have hpl:ps.length<=N.length:=by have:=congrArg List.length S.pre; rw [List.length_take] at this; omega
 obtain ⟨h1,tk,rfl,hk⟩:=x.done
 have noA:∀b:Addr,b∉(vz CX P w K mg base N qual scope f cd A outer s H E).ex:=fun b z=>absurd (show b∈([]:List Addr) from z) (by simp)
 refine ⟨⟨e0.mod,S.kind,rfl,rfl,Nat.le_refl _,fun y z c h1 h2=>?_,fun y hy=>?_,fun y c _ h=>?_,fun _=>hd,Around.frames_deeper e0.frames,.inr ⟨rfl,rfl⟩,fun b z=>absurd z (noA b),e0.bs,e0.bsz,fun b _ _=>noA b,fun b z=>absurd z (noA b),e0.funs,e0.frf⟩,
  rfl,e0.bare,Un.kept hk,⟨_,x.toInCall.ns,fun i y v h1 h2 h3=>?_⟩,fun y c h=>⟨_,x.cell y c h⟩,e0.hok.fresh (Nat.le_refl _),fun y c h=>?_,fun p hp=>absurd (show p∈([]:List (Addr×Obj)) from hp) (by simp),e0.hok.kept hk,?_⟩
 ·exact name_of_addr x.apart (PySem.mem_of_lookup h1) (PySem.mem_of_lookup h2)
 ·have hy:scope.names.lookup y=some .cell∨scope.names.lookup y=some .free:=hy
  rcases hy with hy | hy
  ·exact oO hy
  ·exact absurd rfl (S.nofree _ (PySem.mem_of_lookup hy))
 ·exact Nat.le_of_lt (x.above y c (PySem.mem_of_lookup h))
 ·have hi:i<vs.length:=by
   unfold aA at h2
   by_cases hi:i<vs.length
   ·exact hi
   ·rw [List.getElem?_append_right (by simpa using hi)] at h2
    rw [List.getElem?_replicate] at h2
    split at h2 <;> cases h2
  have ha:vs[i]?=some v:=by
   unfold aA at h2
   rw [List.getElem?_append_left (by simpa using hi),List.getElem?_map] at h2
   cases e:vs[i]? with
   | none=>rw [e] at h2; cases h2
   | some a=>rw [e] at h2; cases h2; rfl
  obtain ⟨u,hu,rv⟩:=r.get ha
  have hp:ps[i]?=some y:=by
   rw [<-S.pre,List.getElem?_take_of_lt (by omega)]; exact h1
  have ndP:ps.Nodup:=by rw [<-S.pre]; exact S.nd.sublist (List.take_sublist _ _)
  refine ⟨u,rv,?_⟩
  rcases S.par y (List.mem_of_getElem? hp) with k | k
  ·exact .inl ⟨k,me ndP hp hu k⟩
  ·obtain ⟨c,e⟩:=oO (n:=s.heap.objs.size+1) k
   refine .inr ⟨.inl k,c,e,?_⟩
   have q:=x.cell y c e
   rw [mh ndP hp hu (by show scope.names.lookup y≠_; rw [k]; decide)] at q
   exact q
 ·exact e0.hok.fresh (Nat.le_of_lt (x.above y c (PySem.mem_of_lookup h)))
 ·unfold aA
  show _=N.length
  rw [List.length_append,List.length_map,List.length_replicate]
  omega
theorem wQ {CX:CXT}{P:Program}{w:World}{K:PySem.W.Frag}{mg:Str->Option Value}{base:Heap}{k:Nat}{f:Addr}{name qual:Str}{params:Arguments}{body:List Stmt}{scope:Scope}{dV kV doc pm cdv ct oc:Value}{an od:Option Addr}
  {osl:Array (Option Value)}{N ps:List Str}{sp:Sp}(lk:K.lookup f=some ⟨oc,od,.func (PySem.W.fnOf name qual params body scope dV kV doc pm an cdv ct),osl⟩) (hcd:PySem.W.codeIn K cdv qual=true) (S:fx N ps scope)
  (len:∀vs H Q E,sp vs H Q E->vs.length=ps.length)
  (hbody:∀(A:Around) (outer:List Env) (s:Shared) (H:Hp) (vs:List V) (Q:VK) (E:XK),Room k (A.deeper (envOfC qual scope s.heap.objs.size f cdv))->sp vs H Q E ->
   ∃t,PSs (vz CX P w K mg base N qual scope f cdv A outer s H E) body t/\t { nx:=fun _ H'=>Q .non H',rt:=Q } (aA N vs) H) :
  jA P w K mg base CX (k+1) f (PySem.W.fnOf name qual params body scope dV kV doc pm an cdv ct) ps sp:=by
 refine ⟨len,fun A outer s H args us vs Q E hr e0 hb r hsp=>?_⟩
 have hl:=len _ _ _ _ hsp
 have KX:K.In s.heap:=e0.mod.kin.keeps fun b o e=>(e0.bs b o e).1
 have lim:s.heap.NoLimit:=e0.mod.nolimit.keeps fun b o e=>(e0.bs b o e).1
 have hkind:∀y∈ps.zip us,scope.names.lookup y.1=some .local∨(scope.names.lookup y.1=some .cell/\((cellsFrom (s.heap.objs.size+1) scope.names []).lookup y.1).isSome=true):=fun ⟨n,v⟩ hy=>by
  rcases S.par n (List.of_mem_zip hy).1 with q | q
  ·exact .inl q
  ·exact .inr ⟨q,PySem.W.cellsFrom_some _ _ _ (.inl q)⟩
 refine codeAny_call_function hr.depth (KX _ _ lk) rfl S.co S.gen rfl (PySem.W.codeRec_of KX hcd) (hb _ _ _ _ ?_)
 refine wpAny_newFunctionEnv_cells S.kind hkind fun env he s1 x=>?_
 subst he
 refine ⟨lim.keeps x.toInCall.keep,codeAny_func ?_⟩
 obtain ⟨t,ht,hq⟩:=hbody A outer s H vs Q E (hr.deeper _) hsp
 have I:Inv (vz CX P w K mg base N qual scope f cdv A outer s H E) [] (aA N vs) H s1:=rE S hr.hd e0 hl r x
 refine wpAny_mono (ht [] s1 (aA N vs) H _ I hq) (fun fl s' hs=>?_) fun e s' hs=>hs
 have fin:∀{σ':St}{H':Hp}{v:V}{u:Value},Inv (vz CX P w K mg base N qual scope f cdv A outer s H E) [] σ' H' s'->RelV v u->Q v H'->CE outer P w K H s Q u s' :=
  fun {σ' H' v u} J rv q=>⟨v,H',J.os,J.bare,J.base,J.hok,rv,q⟩
 cases fl with
 | ret u =>
  obtain ⟨v,σ',H',J,rv,q⟩:=hs
  exact fin J rv q
 | next =>
  obtain ⟨σ',H',J,q⟩:=hs
  exact fin (v:=V.non) (u:=Value.none) J rfl q
 | brk =>
  obtain ⟨_,_,_,q⟩:=hs
  exact False.elim q
 | cont =>
  obtain ⟨_,_,_,q⟩:=hs
  exact False.elim q
end L2
namespace L2
open PySem PySem.Spec PyProof.Rows
section
variable {X:Cx}{x:Str}{p pos:Pos}{e:Expr}{es:List Expr}{t:TA}{id T:String}{r:List V->Hp->VK->Prop}
def tCB (r:List V->Hp->VK->Prop) (t:TA):TE:=fun σ H Q=>t σ H fun vs H1=>r vs H1 Q
theorem n0 (hc:CallR X (.builtin id) r) (hg:Gl X x) (hm:X.mg x=none) (hv:bootBuiltins x=some (.builtin id)) (ha:PA X (e::es) t) (hn:x≠"__name__":=by decide) (hdb:(x == ("__debug__":Str))=false:=by decide)
  (he:starEach (e::es) X.env=(false,eval e X.env)::starEach es X.env:=by rfl) (hpl:(backTo pos (starEach es X.env)).any (·.1)=false:=by rfl):PE X (.Call (.Name x p) (e::es) [] pos) (tCB r t):=by
 intro pins s σ H Q I h
 refine wpAny_Call_Name_kw (g7 I hg hm hv ?_ hn hdb)
 exact PyProof.Rows.callWith_builtin1 (thn (ha pos pins s σ H _ I h) fun us s1 ⟨vs,H1,I1,r1,q1⟩=>hc pins s1 σ H1 vs us Q I1 r1 q1) he hpl
theorem c7 (hc:CallR X (.type T) r) (hg:Gl X x) (hm:X.mg x=none) (hv:bootBuiltins x=some (.type T)) (ha:PA X (e::es) t) (hn:x≠"__name__":=by decide) (hdb:(x == ("__debug__":Str))=false:=by decide)
  (he:starEach (e::es) X.env=(false,eval e X.env)::starEach es X.env:=by rfl) (hpl:(backTo pos (starEach es X.env)).any (·.1)=false:=by rfl):PE X (.Call (.Name x p) (e::es) [] pos) (tCB r t):=by
 intro pins s σ H Q I h
 refine wpAny_Call_Name_kw (g7 I hg hm hv ?_ hn hdb)
 exact PyProof.Rows.callWith_type1 (thn (ha pos pins s σ H _ I h) fun us s1 ⟨vs,H1,I1,r1,q1⟩=>hc pins s1 σ H1 vs us Q I1 r1 q1) he hpl
end
end L2
namespace HT
open PySem PyProof.Rows
section
open PySem.SeqAt
open PySem.AutoSeq1 (wpAny_loadPart')
open PySem.MeetsSeq PySem.MeetsSeq2 PySem.MeetsSeq3
end
section
variable {prog:Program}{w:World}{A:Around}{E:Value->Shared->Prop}{s:Shared}
def sIx (n d:Nat):Option Int->Nat
 | none=>d
 | some v=>if v<0 then (v+(n:Int)).toNat else min v.toNat n
theorem sIx_none (n d:Nat):sIx n d none=d:=rfl
theorem sIx_nat (n d k:Nat):sIx n d (some (k:Int))=min k n:=by
 show (if (k:Int)<0 then ((k:Int)+(n:Int)).toNat else min (k:Int).toNat n)=min k n
 rw [if_neg (by omega),Int.toNat_natCast]
theorem sIx_le (n d:Nat) (hd:d<=n) (o:Option Int):sIx n d o<=n:=by
 cases o with
 | none=>exact hd
 | some v =>
  show (if v<0 then (v+(n:Int)).toNat else min v.toNat n)<=n
  by_cases hv:v<0
  ·rw [if_pos hv]; omega
  ·rw [if_neg hv]; exact Nat.min_le_right _ _
theorem clip_eq (v:Int) (n d:Nat):(if v<0 then max (v+(n:Int)) 0 else min v (n:Int))=((sIx n d (some v):Nat):Int):=by
 show (if v<0 then max (v+(n:Int)) 0 else min v (n:Int))=(((if v<0 then (v+(n:Int)).toNat else min v.toNat n):Nat):Int)
 by_cases hv:v<0
 ·simp only [if_pos hv]; omega
 ·simp only [if_neg hv]; omega
end
end HT
namespace L2
open PySem PySem.Spec PyProof.Rows
abbrev TO:=St->Hp->(Option Int->Hp->Prop)->Prop
def PO (X:Cx) (e:Option Expr) (t:TO):Prop :=
 ∀(pins:List (Addr×Obj)) (s:Shared) (σ:St) (H:Hp) (Q:Option Int->Hp->Prop),Inv X pins σ H s->t σ H Q ->
  wpAny (model X.prog X.w) X.A (evalPart e X.env) (fun u s'=>∃o H',Inv X pins σ H' s'/\IsPart u o/\Q o H') X.xe s
def cN:TO:=fun _ H Q=>Q none H
def fI (t:TE):TO:=fun σ H Q=>t σ H fun x H1=>∃i,x=.int i/\Q (some i) H1
section
variable {X:Cx}{e:Expr}{te:TE}{lo hi:Option Expr}{tl th:TO}{pos p2:Pos}
theorem dk:PO X none cN:=by
 intro pins s σ H Q I h
 rw [evalPart_none]
 exact wpAny_pure ⟨none,H,I,.none,h⟩
theorem bQ (h:PE X e te):PO X (some e) (fI te):=by
 intro pins s σ H Q I hw
 rw [evalPart_some]
 refine thn (h pins s σ H _ I hw) fun u s1 ⟨x,H1,I1,r1,q1⟩=>?_
 obtain ⟨i,rfl,q⟩:=q1
 obtain ⟨t,rfl⟩:=r1
 exact ⟨some i,H1,I1,.int i t,q⟩
def SlR (X:Cx) (r:V->Option Int->Option Int->Hp->VK->Prop):Prop :=
 ∀(pins:List (Addr×Obj)) (s:Shared) (σ:St) (H:Hp) (x:V) (v vl vu:Value) (lo hi:Option Int) (sl:Addr) (Q:VK),Inv X pins σ H s->RelV x v->s.heap.IsSliceOf sl vl vu .none->IsPart vl lo->IsPart vu hi->r x lo hi H Q ->
  ∃T id,typeLookup (.type T) "__getitem__"=pure (some (.builtin id))/\s.TypeIs v T/\wpAny (model X.prog X.w) X.A (getItem v (.ref sl)) (EP X pins σ Q) X.xe s
def tSl (r:V->Option Int->Option Int->Hp->VK->Prop) (te:TE) (tl th:TO):TE:=fun σ H Q=>te σ H fun x H1=>tl σ H1 fun l H2=>th σ H2 fun u H3=>r x l u H3 Q
theorem bD {r:V->Option Int->Option Int->Hp->VK->Prop}(hr:SlR X r) (he:PE X e te) (hl:PO X lo tl) (hu:PO X hi th):PE X (.Subscript e (.Slice lo hi none p2) pos) (tSl r te tl th):=by
 intro pins s σ H Q I h
 refine Subscript_ (thn (he pins s σ H _ I h) fun v s1 ⟨x,H1,I1,r1,q1⟩=>?_)
 refine wpAny_Slice (thn (hl pins s1 σ H1 _ I1 q1) fun vl s2 ⟨l,H2,I2,pl,q2⟩=>thn (hu pins s2 σ H2 _ I2 q2) fun vu s3 ⟨u,H3,I3,pu,q3⟩=>?_)
 rw [evalPart_none]
 refine wpAny_pure ?_
 have I4:Inv X pins σ H3 { s3 with heap:=s3.heap.push { cls:=.type "slice",data:=.fields #[vl,vu,.none] } }:=I3.kept (t':=s3.toks) fun b ob q=>Heap.get?_push_of_some _ q
 obtain ⟨T,id,hT,ht,hg⟩:=hr pins { s3 with heap:=s3.heap.push { cls:=.type "slice",data:=.fields #[vl,vu,.none] } } σ H3 x v vl vu l u s3.heap.objs.size Q I4 r1 (Heap.IsSliceOf.new ..) pl pu q3
 show wpAny (model X.prog X.w) X.A (subscriptTail e (.Slice lo hi none p2) v (.ref s3.heap.objs.size)) (EP X pins σ Q) X.xe { s3 with heap:=s3.heap.push { cls:=.type "slice",data:=.fields #[vl,vu,.none] } }
 exact tail_any (ops:=[.ref s3.heap.objs.size,v]) ht hT hg (by with_unfolding_all rfl)
def ji (xs:List V) (lo hi:Option Int):List V:=(xs.drop (HT.sIx xs.length 0 lo)).take (HT.sIx xs.length xs.length hi-HT.sIx xs.length 0 lo)
theorem nC (xs:List V) (lo hi:Option Int):(ji xs lo hi).length<=xs.length:=by
 unfold ji
 rw [List.length_take,List.length_drop]
 omega
end
end L2
namespace L2
open PySem PySem.Spec PyProof.Rows
def ixN (n:Nat) (i:Int):Option Nat:=if 0<=i then (if i<n then some i.toNat else none) else if -(n:Int)<=i then some (i+n).toNat else none
def atI {α:Type}(xs:List α) (i:Int):Option α:=(ixN xs.length i).bind fun j=>xs[j]?
theorem rB {n:Nat}{i:Int}{j:Nat}(h:ixN n i=some j):seqIndex? i n=some j/\j<n/\-(n:Int)<=i/\i<n:=by
 unfold ixN at h
 by_cases h0:0<=i
 ·rw [if_pos h0] at h
  by_cases h1:i<n
  ·rw [if_pos h1] at h
   have e:i.toNat=j:=Option.some.inj h
   exact ⟨by rw [seqIndex_of h0 h1,e],by omega,by omega,h1⟩
  ·rw [if_neg h1] at h; cases h
 ·rw [if_neg h0] at h
  by_cases h1:-(n:Int)<=i
  ·rw [if_pos h1] at h
   have e:(i+n).toNat=j:=Option.some.inj h
   exact ⟨by rw [seqIndex_neg (by omega) h1,e],by omega,h1,by omega⟩
  ·rw [if_neg h1] at h; cases h
theorem nE {α:Type}{xs:List α}{i:Int}{v:α}(h:atI xs i=some v):∃j,seqIndex? i xs.length=some j/\xs[j]?=some v/\j<xs.length/\-(xs.length:Int)<=i/\i<xs.length:=by
 unfold atI at h
 cases e:ixN xs.length i with
 | none=>rw [e] at h; cases h
 | some j =>
  rw [e] at h
  obtain ⟨h1,h2,h3,h4⟩:=rB e
  exact ⟨j,h1,h,h2,h3,h4⟩
theorem cE {α:Type}{xs:List α}{j:Nat}{v:α}(h:xs[j]?=some v):atI xs (j:Int)=some v:=by
 have hj:j<xs.length:=(List.getElem?_eq_some_iff.mp h).1
 have e:ixN xs.length (j:Int)=some j:=by
  unfold ixN
  rw [if_pos (by omega),if_pos (by omega)]; simp
 unfold atI; rw [e]; exact h
def vE (b:Expr):Prop:=∀o i,subscripted b false o i=operate [o,i] (getItem o i)
def IxR (X:Cx) (r:R2):Prop :=
 ∀(value slice:Expr) (pins:List (Addr×Obj)) (s:Shared) (σ:St) (H:Hp) (x y:V) (v u:Value) (Q:VK),Inv X pins σ H s->RelV x v->RelV y u->r x y H Q ->
  subscripted slice false v u=operate [v,u] (getItem v u)->wpAny (model X.prog X.w) X.A (subscriptTail value slice v u) (EP X pins σ Q) X.xe s
def MtR (X:Cx) (id:String) (r:V->List V->Hp->VK->Prop):Prop :=
 ∀(pins:List (Addr×Obj)) (s:Shared) (σ:St) (H:Hp) (x:V) (xs:List V) (v:Value) (us:List Value) (Q:VK),Inv X pins σ H s->RelV x v->Vals xs us->r x xs H Q ->
  wpAny (model X.prog X.w) X.A (call (.builtin id) (v::us)) (EP X pins σ Q) X.xe s
section
variable {X:Cx}{a b:Expr}{ta tb:TE}{pos:Pos}
theorem IxR.or {r r':R2}(h:IxR X r) (h':IxR X r'):IxR X (fun x y H Q=>r x y H Q∨r' x y H Q):=by
 intro value slice pins s σ H x y v u Q I rx ry q hs
 rcases q with q | q
 ·exact h value slice pins s σ H x y v u Q I rx ry q hs
 ·exact h' value slice pins s σ H x y v u Q I rx ry q hs
theorem vd {r:R2}(hr:IxR X r) (ha:PE X a ta) (hb:PE X b tb) (hs:vE b):PE X (.Subscript a b pos) (tOp r ta tb):=by
 intro pins s σ H Q I h
 exact Subscript_ (wU ha hb I h fun v u s2 x y H2 I2 rx ry q=>hr a b pins s2 σ H2 x y v u Q I2 rx ry q (hs _ _))
def fk (K:PySem.W.Frag):R2:=fun x y H Q=>∃p xs i v,x=.ref p/\y=.int i/\SqL K H p xs/\atI xs i=some v/\Q v H
def xb (K:PySem.W.Frag):R2:=fun x y H Q=>∃p xs i v,x=.ref p/\y=.int i/\SqT K H p xs/\atI xs i=some v/\Q v H
def v5:R2:=fun x y H Q=>∃z i c,x=.str z/\y=.int i/\z.length<=sizeLine/\atI z.cps.toList i=some c/\Q (.str ⟨#[c]⟩) H
theorem ix_list:IxR X (fk X.K):=by
 intro value slice pins s σ H x y v u Q I rx ry h hs
 obtain ⟨p,xs,i,z,rfl,rfl,hq,he,q⟩:=h
 cases rx
 obtain ⟨t,rfl⟩:=ry
 obtain ⟨its,r,pl,hz⟩:=I.list hq
 obtain ⟨j,h1,h2,h3,h4,h5⟩:=nE he
 obtain ⟨w,ew,rw'⟩:=r.get h2
 have hl:=r.length
 have hn:=jK
 have fin:EP X pins σ Q w s:=⟨z,H,I,rw',q⟩
 by_cases h0:0<=i
 ·have hj:i.toNat=j:=by
   rw [seqIndex_of h0 h5] at h1
   exact Option.some.inj h1
  exact item_listR pl.isList h0 (by omega) (by rw [hj]; simpa using ew) fin hs
 ·have hj:(i+(its.toArray.size:Int)).toNat=j:=by
   rw [seqIndex_neg (by omega) h4] at h1
   rw [List.size_toArray,<-hl]
   exact Option.some.inj h1
  exact subscriptTail_builtinR (x:=w) pl.isList.typeIs slot_list_getitem.lookup
   (wpAny_getItem_list_neg (Q:=fun r s'=>r=w/\EP X pins σ Q r s') pl.isList (by omega) (by rw [List.size_toArray] <;> omega) (by omega) (by rw [hj]; simpa using ew) ⟨rfl,fin⟩) hs
theorem ix_tup:IxR X (xb X.K):=by
 intro value slice pins s σ H x y v u Q I rx ry h hs
 obtain ⟨p,xs,i,z,rfl,rfl,hq,he,q⟩:=h
 cases rx
 obtain ⟨t,rfl⟩:=ry
 obtain ⟨its,r,pl,hz⟩:=I.tuple hq
 obtain ⟨j,h1,h2,h3,h4,h5⟩:=nE he
 obtain ⟨w,ew,rw'⟩:=r.get h2
 have hl:=r.length
 have hn:=jK
 have fin:EP X pins σ Q w s:=⟨z,H,I,rw',q⟩
 exact subscriptTail_builtinR (x:=w) pl.typeIs slot_tuple_getitem.lookup
  (getItem_tuple (j:=j) (Q:=fun r s'=>r=w/\EP X pins σ Q r s') pl (by omega) (by omega) (by rw [List.size_toArray,<-hl]; exact h1) (by simpa using ew) ⟨rfl,fin⟩) hs
theorem uw:IxR X v5:=by
 intro value slice pins s σ H x y v u Q I rx ry h hs
 obtain ⟨z,i,c,rfl,rfl,hz,he,q⟩:=h
 obtain ⟨t,rfl⟩:=rx
 obtain ⟨t',rfl⟩:=ry
 obtain ⟨j,h1,h2,h3,h4,h5⟩:=nE he
 have hl:z.cps.toList.length=z.length:=by simp [Str.length]
 rw [hl] at h1 h4 h5
 have hn:=jK
 exact tail_any (typeIs_str s z t) slot_str_getitem.lookup (getItem_str (c:=c) (by
  have e1:decide (i < -(2 ^ 63:Int))=false:=decide_eq_false (by omega)
  have e2:decide (i ≥ 2 ^ 63)=false:=decide_eq_false (by omega)
  rw [e1,e2,Bool.or_false]) (by rw [h1]; simpa using h2) ⟨.str ⟨#[c]⟩,H,I.tok _,⟨_,rfl⟩,q⟩) hs
def rIx (K:PySem.W.Frag):R2:=fun x y H Q=>fk K x y H Q∨xb K x y H Q∨v5 x y H Q
theorem wm:IxR X (rIx X.K):=ix_list.or (ix_tup.or uw)
theorem pE (its:List Value) (n j:Nat) (u:Value):Obj.mapSeq (·.setIfInBounds j u) { cls:=.type "list",data:=.seq its.toArray n }={ cls:=.type "list",data:=.seq (its.set j u).toArray n }:=by
 simp [Obj.mapSeq]
theorem Inv.lst {pins:List (Addr×Obj)}{σ:St}{H:Hp}{s:Shared}{p:Addr}{xs:List V}(I:Inv X pins σ H s) (h:H p=some (.lst xs)) :
  ∃(its:List Value) (n:Nat),Vals xs its/\s.heap.get? p=some { cls:=.type "list",data:=.seq its.toArray n }/\xs.length<=sizeLine:=by
 obtain ⟨z,its,n,r,e⟩:=I.hok p _ h
 exact ⟨its,n,r,e,z⟩
theorem Inv.lstUpd {pins:List (Addr×Obj)}{σ:St}{H:Hp}{s:Shared}{p:Addr}{xs ys:List V}{its its':List Value}{n n':Nat}{f:Obj->Obj}(I:Inv X pins σ H s) (h:H p=some (.lst xs))
  (ho:s.heap.get? p=some { cls:=.type "list",data:=.seq its.toArray n }) (hf:f { cls:=.type "list",data:=.seq its.toArray n }={ cls:=.type "list",data:=.seq its'.toArray n' }) (r:Vals ys its') (hz:ys.length<=sizeLine) (t:Nat) :
  Inv X pins σ (upd H p (.lst ys)) { s with heap:=s.heap.update p f,toks:=t }:=by
 have e:(s.heap.update p f).get? p=some { cls:=.type "list",data:=.seq its'.toArray n' }:=by
  rw [Heap.get?_update_self f ho (by rw [hf] <;> rfl),hf]
 refine I.write (x:=p) (e:=p) (by rw [h]; trivial) (.inl rfl) (fun b u hb q=>(Heap.get?_update_other _ _ (Ne.symm hb)).trans q) ⟨_,e⟩ ?_
 exact ⟨hz,its',n',r,e⟩
def m_:V->V->V->Hp->(Hp->Prop)->Prop:=fun o i v H Q=>∃p xs k j,o=.ref p/\i=.int k/\H p=some (.lst xs)/\ixN xs.length k=some j/\Q (upd H p (.lst (xs.set j v)))
theorem fM:xi X m_:=by
 intro pins s σ H o i v ov iv u Q I ro ri rv h
 obtain ⟨p,xs,k,j,rfl,rfl,hp,hj,q⟩:=h
 cases ro
 obtain ⟨t,rfl⟩:=ri
 obtain ⟨its,n,r,ho,hz⟩:=I.lst hp
 obtain ⟨h1,h2,h3,h4⟩:=rB hj
 have hl:=r.length
 have hn:=jK
 have I':Inv X pins σ (upd H p (.lst (xs.set j v))) { s with heap:=s.heap.update p (Obj.mapSeq (·.setIfInBounds j u)) } :=
  I.lstUpd hp ho (pE its n j u) (r.set rv j) (by rw [List.length_set]; exact hz) s.toks
 by_cases h0:0<=k
 ·have hk:k.toNat=j:=by
   rw [seqIndex_of h0 h4] at h1
   exact Option.some.inj h1
  exact PySem.W.ki_setAt ho h0 (by omega) (by rw [List.size_toArray,<-hl]; exact h4) (by rw [hk]; exact ⟨_,I',q⟩)
 ·have hk:(k+(its.toArray.size:Int)).toNat=j:=by
   rw [seqIndex_neg (by omega) h3] at h1
   rw [List.size_toArray,<-hl]
   exact Option.some.inj h1
  exact PySem.W.ki_setBack ho (by omega) (by rw [List.size_toArray,<-hl]; exact h3) (by omega) (by rw [hk]; exact ⟨_,I',q⟩)
theorem ln (lo hi:Option Int) (n:Nat):(sliceBounds lo hi none n).1=((HT.sIx n 0 lo:Nat):Int)/\(sliceBounds lo hi none n).2.1=((HT.sIx n n hi:Nat):Int)/\(sliceBounds lo hi none n).2.2=1:=by
 refine ⟨?_,?_,rfl⟩
 ·cases lo with
  | none=>simp [sliceBounds,HT.sIx]
  | some i =>
   simp only [sliceBounds,HT.sIx,Option.getD_none,show (1:Int) > 0 by decide,if_true]
   by_cases h:i<0
   ·simp only [h,if_true] <;> omega
   ·simp only [h,if_false] <;> omega
 ·cases hi with
  | none=>simp [sliceBounds,HT.sIx]
  | some i =>
   simp only [sliceBounds,HT.sIx,Option.getD_none,show (1:Int) > 0 by decide,if_true]
   by_cases h:i<0
   ·simp only [h,if_true] <;> omega
   ·simp only [h,if_false] <;> omega
theorem ke (its:List Value) (lo hi:Option Int):slicePick its.toArray lo hi none=((its.drop (HT.sIx its.length 0 lo)).take (HT.sIx its.length its.length hi-HT.sIx its.length 0 lo)).toArray:=by
 obtain ⟨h1,h2,h3⟩:=ln lo hi its.toArray.size
 unfold slicePick
 rw [h1,h2,h3]
 simp only [sliceRange_one,pick_run,List.size_toArray] <;> rfl
def tD (K:PySem.W.Frag):V->Option Int->Option Int->Hp->VK->Prop:=fun x lo hi H Q=>∃a xs,x=.ref a/\SqL K H a xs/\∀p,H p=none->Q (.ref p) (upd H p (.lst (ji xs lo hi)))
theorem dR:SlR X (tD X.K):=by
 intro pins s σ H x v vl vu lo hi sl Q I rx hs pl pu h
 obtain ⟨a,xs,rfl,hx,q⟩:=h
 cases rx
 obtain ⟨its,r,ht,hz⟩:=I.list hx
 have hlen:=r.length
 refine ⟨"list",_,slot_list_getitem.lookup,ht.isList.typeIs,?_⟩
 refine wpAny_getItem_list_slice ht.isList hs pl pu .none (by simp) ?_ (by rw [List.size_toArray] <;> omega)
 rw [ke,<-hlen]
 refine ⟨.ref s.heap.objs.size,_,I.laid (t':=s.toks) (o:=.lst (ji xs lo hi)) (fun b ob q=>Heap.get?_push_of_some _ q) (Nat.le_refl _) ?_,rfl,q _ (I.hok.fresh (Nat.le_refl _))⟩
 exact ⟨Nat.le_trans (nC xs lo hi) hz,_,0,(r.drop (HT.sIx xs.length 0 lo)).take (HT.sIx xs.length xs.length hi-HT.sIx xs.length 0 lo),Heap.get?_push_size _ rfl⟩
theorem call_len_seq:CallR X (.builtin "len") (fun xs H Q=>∃p ys,xs=[.ref p]/\(SqL X.K H p ys∨SqT X.K H p ys)/\Q (.int ys.length) H):=by
 intro pins s σ H xs us Q I r h
 obtain ⟨p,ys,rfl,hq,q⟩:=h
 obtain ⟨u,rfl,rx⟩:=kO r
 cases rx
 have hn:=jK
 rcases hq with hq | hq
 ·obtain ⟨its,r',pl,hz⟩:=I.list hq
  have hlen:=r'.length
  exact Calls.call_len_list pl.isList (by simp only [List.size_toArray] <;> omega) ⟨.int ys.length,H,I.tok _,⟨s.toks+1,by rw [List.size_toArray,hlen]⟩,q⟩
 ·obtain ⟨its,r',pl,hz⟩:=I.tuple hq
  have hlen:=r'.length
  exact len_tuple pl (by simp only [List.size_toArray] <;> omega) ⟨.int ys.length,H,I.tok _,⟨s.toks+1,by rw [List.size_toArray,hlen]⟩,q⟩
theorem l_:CallR X (.builtin "len") (fun xs H Q=>∃z,xs=[.str z]/\z.length<=sizeLine/\Q (.int z.length) H):=by
 intro pins s σ H xs us Q I r h
 obtain ⟨z,rfl,hz,q⟩:=h
 obtain ⟨u,rfl,t,rfl⟩:=kO r
 have hn:=jK
 exact len_str (by omega) ⟨.int z.length,H,I.tok _,⟨_,rfl⟩,q⟩
theorem CallR.or {f:Value}{r r':List V->Hp->VK->Prop}(h:CallR X f r) (h':CallR X f r'):CallR X f (fun xs H Q=>r xs H Q∨r' xs H Q):=by
 intro pins s σ H xs us Q I rs q
 rcases q with q | q
 ·exact h pins s σ H xs us Q I rs q
 ·exact h' pins s σ H xs us Q I rs q
theorem call_list_of:CallR X (.type "list") (fun xs H Q=>∃p ys,xs=[.ref p]/\(SqL X.K H p ys∨SqT X.K H p ys)/\∀l,H l=none->Q (.ref l) (upd H l (.lst ys))):=by
 intro pins s σ H xs us Q I r h
 obtain ⟨p,ys,rfl,hq,q⟩:=h
 obtain ⟨u,rfl,rx⟩:=kO r
 cases rx
 have fin:∀(its:List Value),Vals ys its->ys.length<=sizeLine->∀(h':Heap) (c':Nat),(∀b o',s.heap.get? b=some o'->h'.get? b=some o') ->
   h'.get? s.heap.objs.size=some { cls:=.type "list",dict:=none,data:=.seq its.toArray c',slots:=#[] }->EP X pins σ Q (.ref s.heap.objs.size) { s with heap:=h' }:=fun its r' hz h' c' kp e =>
  ⟨.ref s.heap.objs.size,_,I.laid (t':=s.toks) kp (Nat.le_refl _) (show ObjOk X.prog X.w X.K _ h' _ (.lst ys) from ⟨hz,its,c',r',e⟩),rfl,q _ (I.hok.fresh (Nat.le_refl _))⟩
 rcases hq with hq | hq
 ·obtain ⟨its,r',pl,hz⟩:=I.list hq
  have hlen:=r'.length
  obtain ⟨o,ho,hc,n,hd⟩:=pl.isList
  exact call_list_seq p (.inl rfl) ho hc hd (fun h' c' kp e=>fin its r' hz h' c' kp e) (by simp only [List.size_toArray] <;> omega)
 ·obtain ⟨its,r',pl,hz⟩:=I.tuple hq
  have hlen:=r'.length
  obtain ⟨o,ho,hc,n,hd⟩:=pl
  exact call_list_seq p (.inr rfl) ho hc hd (fun h' c' kp e=>fin its r' hz h' c' kp e) (by simp only [List.size_toArray] <;> omega)
theorem cg:CallR X (.type "tuple") (fun xs H Q=>∃p ys,xs=[.ref p]/\((SqL X.K H p ys/\∀l,H l=none->Q (.ref l) (upd H l (.tup ys)))∨(SqT X.K H p ys/\Q (.ref p) H))):=by
 intro pins s σ H xs us Q I r h
 obtain ⟨p,ys,rfl,h⟩:=h
 obtain ⟨u,rfl,rx⟩:=kO r
 cases rx
 rcases h with ⟨hq,q⟩ | ⟨hq,q⟩
 ·obtain ⟨its,r',pl,hz⟩:=I.list hq
  have hlen:=r'.length
  refine call_tuple_list pl.isList (fun h' kp=>?_) (by simp only [List.size_toArray] <;> omega)
  have I1:Inv X pins σ H { s with heap:=h' }:=I.kept (t':=s.toks) kp
  have I2:Inv X pins σ (upd H h'.objs.size (.tup ys)) { s with heap:=h'.push { cls:=.type "tuple",data:=.seq its.toArray } } :=
   I1.laid (t':=s.toks) (fun b o e=>Heap.get?_push_of_some _ e) (Nat.le_refl _) (show ObjOk X.prog X.w X.K _ _ _ (.tup ys) from ⟨hz,its,r',IsTup.new _ _⟩)
  exact ⟨.ref h'.objs.size,_,I2,rfl,q _ (I1.hok.fresh (Nat.le_refl _))⟩
 ·obtain ⟨its,r',pl,hz⟩:=I.tuple hq
  exact call_tuple_same pl ⟨.ref p,H,I,rfl,q⟩
def tyV (K:PySem.W.Frag) (T:String) (x:V) (H:Hp):Prop:=match x with
 | .str _=>T="str"
 | .int _=>T="int"
 | .ref p=>(T="list"/\∃xs,SqL K H p xs)∨(T="tuple"/\∃o,K.lookup p=some o/\o.cls=.type "tuple"/\o.dict=none) ∨
   (T="dict"/\((∃kvs,H p=some (.dK kvs))∨∃kvs,H p=some (.dT kvs)))∨(T="set"/\∃S n,H p=some (.set S n))
 | _=>False
theorem uj {pins:List (Addr×Obj)}{σ:St}{H:Hp}{s:Shared}{T:String}{x:V}{v:Value}(I:Inv X pins σ H s) (r:RelV x v) (ty:tyV X.K T x H) :
  s.TypeIs v T/\∀a,v=.ref a->∃ob,s.heap.get? a=some ob/\ob.dict=none:=by
 cases x with
 | str z =>
  obtain ⟨t,rfl⟩:=r
  cases (show T="str" from ty)
  exact ⟨typeIs_str s z t,fun _ e=>nomatch e⟩
 | int i =>
  obtain ⟨t,rfl⟩:=r
  cases (show T="int" from ty)
  exact ⟨typeIs_int s i t,fun _ e=>nomatch e⟩
 | ref p =>
  cases r
  rcases ty with ⟨rfl,xs,hq⟩ | ⟨rfl,o,hk,hc,hd⟩ | ⟨rfl,hk⟩ | ⟨rfl,S,n,hk⟩
  ·obtain ⟨its,_,pl,_⟩:=I.list hq
   refine ⟨pl.isList.typeIs,fun a e=>?_⟩
   cases e
   obtain ⟨o,n,e,c,hd,_⟩:=pl
   exact ⟨o,e,hd⟩
  ·refine ⟨⟨o,I.kIn p o hk,hc⟩,fun a e=>?_⟩
   cases e
   exact ⟨o,I.kIn _ o hk,hd⟩
  ·have z:∃o,s.heap.get? p=some o/\o.ExactDict:=by
    rcases hk with ⟨kvs,hk⟩ | ⟨kvs,hk⟩
    ·obtain ⟨_,_,_,_,o,_,_,e,ex,_⟩:=I.hok p _ hk
     exact ⟨o,e,ex⟩
    ·obtain ⟨_,_,_,_,o,_,_,e,ex,_⟩:=I.hok p _ hk
     exact ⟨o,e,ex⟩
   obtain ⟨o,e,ex⟩:=z
   refine ⟨⟨o,e,ex.1⟩,fun a e2=>?_⟩
   cases e2
   exact ⟨o,e,ex.2.1⟩
  ·obtain ⟨o,_,_,_,e,ex,_⟩:=I.hok p _ hk
   refine ⟨⟨o,e,ex.1⟩,fun a e2=>?_⟩
   cases e2
   exact ⟨o,e,ex.2.1⟩
 | _=>exact False.elim ty
def w6 (K:PySem.W.Frag) (T:String) (r:V->List V->Hp->VK->Prop) (to:TE):TE:=fun σ H Q=>to σ H fun x H1=>tyV K T x H1/\r x [] H1 Q
def tBM (K:PySem.W.Frag) (T:String) (r:V->List V->Hp->VK->Prop) (to:TE) (t:TA):TE:=fun σ H Q=>to σ H fun x H1=>tyV K T x H1/\t σ H1 fun xs H2=>r x xs H2 Q
variable {o e:Expr}{es:List Expr}{to:TE}{t:TA}{name:Str}{apos cpos:Pos}{T id:String}{r:V->List V->Hp->VK->Prop}
theorem wf (pa:PlainAttrs T) (slot:Slot T name id) (hty:typeOf (.builtin id)=pure (.type "method_descriptor")) (hm:MtR X id r) (ho:PE X o to)
  (hbase:attributeBase o name X.env (eval o X.env)=eval o X.env:=by rfl) (hline:(apos.endLine == cpos.line)=true:=by rfl):PE X (.Call (.Attribute o name apos) [] [] cpos) (w6 X.K T r to):=by
 intro pins s σ H Q I h
 refine wpAny_Call_method0_late hbase hline (thn (ho pins s σ H _ I h) fun v s1 ⟨x,H1,I1,r1,ty,q1⟩=>?_)
 obtain ⟨h1,h2⟩:=uj I1 r1 ty
 exact ⟨T,id,pa,slot,hty,h1,h2,Calls.callWith_builtin rfl (PySem.evalArgs_none (hm pins s1 σ H1 x [] v [] Q I1 r1 .nil q1))⟩
theorem h9 (pa:PlainAttrs T) (slot:Slot T name id) (hty:typeOf (.builtin id)=pure (.type "method_descriptor")) (hm:MtR X id r) (ho:PE X o to) (ha:PA X (e::es) t)
  (hbase:attributeBase o name X.env (eval o X.env)=eval o X.env:=by rfl)
  (hfew:((backTo cpos (starEach (e::es) X.env)).all (fun x=>!x.1) && (backToKw cpos (keywordEach [] X.env)).all (fun x=>x.1.isSome)
   && decide ((e::es).length+([]:List Keyword).length+(if ([]:List Keyword).isEmpty then 0 else 1)<30))=true:=by rfl)
  (hline:(apos.endLine == cpos.line)=true:=by rfl) (hs:starEach (e::es) X.env=(false,eval e X.env)::starEach es X.env:=by rfl) (hplain:(backTo cpos (starEach es X.env)).any (·.1)=false:=by rfl) :
  PE X (.Call (.Attribute o name apos) (e::es) [] cpos) (tBM X.K T r to t):=by
 intro pins s σ H Q I h
 refine wpAny_Call_method_late hbase hfew hline rfl (thn (ho pins s σ H _ I h) fun v s1 ⟨x,H1,I1,r1,ty,q1⟩=>?_)
 obtain ⟨h1,h2⟩:=uj I1 r1 ty
 refine ⟨T,id,pa,slot,hty,h1,h2,?_⟩
 have hA:=ha cpos pins s1 σ H1 _ I1 q1
 rw [hs] at hA ⊢
 refine Calls.callWith_builtin (by show (false || (backTo cpos (starEach es X.env)).any (·.1))=false; rw [hplain] <;> rfl) (Calls.evalArgs_plain ?_)
 exact thn hA fun us s2 ⟨vs,H2,I2,r2,q2⟩=>hm pins s2 σ H2 x vs v us Q I2 r1 r2 q2
end
end L2
namespace L2
open PySem PySem.Spec PyProof.Rows
def MtM (X:Cx) (id:String) (r:V->List V->Hp->VK->Prop):Prop :=
 ∀(pins:List (Addr×Obj)) (s:Shared) (σ:St) (H:Hp) (x:V) (xs:List V) (v:Value) (us:List Value) (Q:VK),Inv X pins σ H s->RelV x v->Vals xs us->r x xs H Q ->
  wpAny (model X.prog X.w) X.A (call (.builtin id) (v::us)) (EP X pins σ Q) X.xe s
theorem Vals.one:∀{x:V}{us:List Value},Vals [x] us->∃u,us=[u]/\RelV x u
 | _,_,.cons r .nil=>⟨_,rfl,r⟩
theorem Vals.two:∀{x y:V}{us:List Value},Vals [x,y] us->∃u v,us=[u,v]/\RelV x u/\RelV y v
 | _,_,_,.cons r (.cons q .nil)=>⟨_,_,rfl,r,q⟩
theorem Vals.zero:∀{us:List Value},Vals [] us->us=[]
 | _,.nil=>rfl
theorem Vals.dropLast {xs:List V}{us:List Value}(h:Vals xs us):Vals xs.dropLast us.dropLast:=by
 induction h with
 | nil=>exact .nil
 | cons r t ih =>
  cases t with
  | nil=>exact .nil
  | cons q t'=>exact .cons r ih
theorem pP {α:Type}(l:List α):l.eraseIdx (l.length-1)=l.dropLast:=by
 induction l with
 | nil=>rfl
 | cons a r ih =>
  cases r with
  | nil=>rfl
  | cons b r =>
   have e:(a::b::r).length-1=((b::r).length-1)+1:=by
    have h1:(a::b::r).length=r.length+2:=rfl
    have h2:(b::r).length=r.length+1:=rfl
    omega
   rw [e,List.eraseIdx_cons_succ,ih]
   all_goals rfl
section
variable {X:Cx}{pins:List (Addr×Obj)}{σ:St}{H:Hp}{s:Shared}{l b:Addr}{xs ys zs:List V}
theorem Inv.lset {its its':List Value}{n:Nat}{f:Array Value->Array Value}{t':Nat}(I:Inv X pins σ H s) (hH:H l=some (.lst xs))
  (e:s.heap.get? l=some { cls:=.type "list",data:=.seq its.toArray n }) (hf:f its.toArray=its'.toArray) (hv:Vals ys its') (hz:ys.length<=sizeLine) :
  Inv X pins σ (upd H l (.lst ys)) { s with heap:=s.heap.update l (Obj.mapSeq f),toks:=t' }:=by
 have q:=PySem.IsL.update e f
 rw [hf] at q
 refine I.write (x:=l) (e:=l) (by rw [hH]; exact trivial) (.inl rfl) (fun b' u hb hu=>(Heap.get?_update_other s.heap (Obj.mapSeq f) (Ne.symm hb)).trans hu) ⟨_,q⟩ ?_
 exact ⟨hz,its',_,hv,q⟩
theorem Inv.lnew {its:List Value}{t':Nat}(I:Inv X pins σ H s) (hv:Vals ys its) (hz:ys.length<=sizeLine) :
  Inv X pins σ (upd H s.heap.objs.size (.lst ys)) { s with heap:=s.heap.push { cls:=.type "list",data:=.seq its.toArray },toks:=t' } :=
 I.laid (fun _ _ q=>Heap.get?_push_of_some _ q) (Nat.le_refl _) ⟨hz,its,0,hv,Heap.get?_push_size _ rfl⟩
theorem Inv.fresh (I:Inv X pins σ H s):H s.heap.objs.size=none:=I.hok.fresh (Nat.le_refl _)
theorem Inv.lstM (I:Inv X pins σ H s) (hH:H l=some (.lst xs)):xs.length<=sizeLine/\∃(its:List Value) (n:Nat),Vals xs its/\xs.length=its.length/\s.heap.get? l=some { cls:=.type "list",data:=.seq its.toArray n }:=by
 obtain ⟨z,its,n,r,e⟩:=I.hok l _ hH
 exact ⟨z,its,n,r,r.length,e⟩
theorem tK {n:Nat}(h:n<=sizeLine):Builtin.List.listTooLong n=false:=by
 unfold Builtin.List.listTooLong
 exact decide_eq_false (by omega)
end
section
variable {X:Cx}
def cP:V->List V->Hp->VK->Prop:=fun x vs H Q=>∃l xs y,x=.ref l/\vs=[y]/\H l=some (.lst xs)/\xs.length<sizeLine/\Q .non (upd H l (.lst (xs++[y])))
theorem br:MtM X "list.append" cP:=by
 intro pins s σ H x vs v us Q I rx rv h
 obtain ⟨l,xs,y,rfl,rfl,hH,hz,q⟩:=h
 cases rx
 obtain ⟨u,rfl,ru⟩:=rv.one
 obtain ⟨z,its,n,r,hl,e⟩:=I.lstM hH
 refine call_meets F.slot_list_append ⟨_,e,rfl⟩ F.entry_list_append (F.args_list_append_2 _ _) (PySem.list_append l its.toArray n u (by rw [List.size_toArray]; omega)) ⟨e,?_⟩
 refine ⟨.non,_,I.lset (its':=its++[u]) hH e (by simp) (r.append (.cons ru .nil)) ?_,rfl,q⟩
 rw [List.length_append,List.length_singleton]
 omega
def qO:V->List V->Hp->VK->Prop:=fun x vs H Q=>∃l b xs zs,x=.ref l/\vs=[.ref b]/\H l=some (.lst xs)/\H b=some (.lst zs)/\xs.length+zs.length<=sizeLine/\Q .non (upd H l (.lst (xs++zs)))
theorem rh:MtM X "list.extend" qO:=by
 intro pins s σ H x vs v us Q I rx rv h
 obtain ⟨l,b,xs,zs,rfl,rfl,hH,hB,hz,q⟩:=h
 cases rx
 obtain ⟨u,rfl,ru⟩:=rv.one
 cases ru
 obtain ⟨z,its,n,r,hl,e⟩:=I.lstM hH
 obtain ⟨z2,its2,n2,r2,hl2,e2⟩:=I.lstM hB
 have hsz:its.toArray.size+its2.toArray.size<=sizeLine:=by rw [List.size_toArray,List.size_toArray]; omega
 have hlong:¬(!its.toArray.isEmpty && Builtin.List.listTooLong (its.toArray.size+its2.toArray.size))=true:=by
  rw [tK hsz,Bool.and_false]
  exact Bool.false_ne_true
 refine call_meets F.slot_list_extend ⟨_,e,rfl⟩ F.entry_list_extend (F.args_list_extend_2 _ _)
  (AutoSeq1.list_extend_list_list_0 l its.toArray n b its2.toArray n2 hlong (by rw [List.size_toArray]; omega) (by omega)) ⟨e,e2,?_⟩
 refine ⟨.non,_,I.lset (its':=its++its2) hH e (by simp) (r.append r2) ?_,rfl,q⟩
 rw [List.length_append]
 omega
def xa:V->List V->Hp->VK->Prop:=fun x vs H Q=>∃l xs y,x=.ref l/\vs=[]/\H l=some (.lst xs)/\xs[xs.length-1]?=some y/\Q y (upd H l (.lst xs.dropLast))
theorem wj:MtM X "list.pop" xa:=by
 intro pins s σ H x vs v us Q I rx rv h
 obtain ⟨l,xs,y,rfl,rfl,hH,hy,q⟩:=h
 cases rx
 have hus:=rv.zero
 subst hus
 obtain ⟨z,its,n,r,hl,e⟩:=I.lstM hH
 obtain ⟨u,hu,ru⟩:=r.get hy
 have hy':its.toArray[its.toArray.size-1]?=some u:=by
  show its.toArray[its.length-1]?=some u
  rw [<-Array.getElem?_toList,<-hl]
  exact hu
 refine call_meets F.slot_list_pop ⟨_,e,rfl⟩ F.entry_list_pop (F.args_list_pop_1 _) (MeetsSeq.list_pop_last l its.toArray n u hy' (by rw [List.size_toArray]; omega)) ⟨e,?_⟩
 refine ⟨y,_,I.lset (its':=its.dropLast) hH e ?_ r.dropLast ?_,ru,q⟩
 ·show its.toArray.eraseIdxIfInBounds (its.toArray.size-1)=its.dropLast.toArray
  rw [List.size_toArray,List.eraseIdxIfInBounds_toArray,pP]
 ·rw [List.length_dropLast]
  omega
def ul:R2:=fun x y H Q=>∃l b xs zs,x=.ref l/\y=.ref b/\H l=some (.lst xs)/\H b=some (.lst zs)/\xs.length+zs.length<=sizeLine/\∀p,H p=none->Q (.ref p) (upd H p (.lst (xs++zs)))
theorem iT:OpR X (binaryOp .Add) ul:=by
 intro pins s σ H x y v u Q I rx ry h
 obtain ⟨l,b,xs,zs,rfl,rfl,hH,hB,hz,q⟩:=h
 cases rx
 cases ry
 obtain ⟨z,its,n,r,hl,e⟩:=I.lstM hH
 obtain ⟨z2,its2,n2,r2,hl2,e2⟩:=I.lstM hB
 refine PySem.P.add_list e e2 ?_ (by rw [List.size_toArray,List.size_toArray]; omega)
 have ea:its.toArray++its2.toArray=(its++its2).toArray:=by simp
 rw [ea]
 exact ⟨.ref _,_,I.lnew (t':=s.toks) (r.append r2) (by rw [List.length_append]; omega),rfl,q _ I.fresh⟩
end
section
variable {prog:Program}{w:World}{A:Around}{E:Value->Shared->Prop}{s:Shared}
end
section
variable {X:Cx}
end
end L2
namespace L2
open PySem PySem.Spec PyProof.Rows
section
variable {κ:Type} [DecidableEq κ]
def bO (kvs:List (κ×V)) (k:κ):Option V:=(kvs.find? fun kv=>decide (kv.1=k)).map (·.2)
def dS (kvs:List (κ×V)) (k:κ) (v:V):List (κ×V) :=
 if (kvs.any fun kv=>decide (kv.1=k))=true then kvs.map (fun kv=>if kv.1=k then (kv.1,v) else kv) else kvs++[(k,v)]
theorem aY {p:κ×V}{r:List (κ×V)}{k:κ}(e:p.1=k):bO (p::r) k=some p.2:=by simp [bO,List.find?_cons,e]
theorem aV {p:κ×V}{r:List (κ×V)}{k:κ}(e:¬p.1=k):bO (p::r) k=bO r k:=by simp [bO,List.find?_cons,e]
theorem eo (k:κ):∀kvs:List (κ×V),(kvs.any fun kv=>decide (kv.1=k))=(bO kvs k).isSome
 | []=>rfl
 | p::r=>by
  rw [List.any_cons]
  by_cases e:p.1=k
  ·simp only [aY e,decide_eq_true e,Bool.true_or,Option.isSome_some]
  ·rw [aV e,decide_eq_false e,Bool.false_or]; exact eo k r
theorem nO (k j:κ) (y:V):∀kvs:List (κ×V),bO (kvs.map fun kv=>if kv.1=k then (kv.1,y) else kv) j=(bO kvs j).map fun x=>if j=k then y else x
 | []=>rfl
 | p::r=>by
  have ih:=nO k j y r
  rw [List.map_cons]
  by_cases h:p.1=k
  ·rw [if_pos h]
   by_cases e:p.1=j
   ·rw [aY (p:=(p.1,y)) e,aY e,Option.map_some,if_pos (e.symm.trans h)]
   ·rw [aV (p:=(p.1,y)) e,aV e,ih]
  ·rw [if_neg h]
   by_cases e:p.1=j
   ·rw [aY (p:=p) e,aY e,Option.map_some,if_neg (fun z=>h (e.trans z))]
   ·rw [aV (p:=p) e,aV e,ih]
theorem kP (k j:κ) (y:V):∀kvs:List (κ×V),bO kvs k=none->bO (kvs++[(k,y)]) j=if j=k then some y else bO kvs j
 | [],_=>by
  by_cases e:k=j
  ·rw [if_pos e.symm]; exact aY (p:=(k,y)) e
  ·rw [if_neg (fun z=>e z.symm)]; exact aV (p:=(k,y)) e
 | p::r,hn=>by
  rw [List.cons_append]
  have hk:¬p.1=k:=fun z=>by rw [aY z] at hn; cases hn
  rw [aV hk] at hn
  have ih:=kP k j y r hn
  by_cases e:p.1=j
  ·rw [aY e,aY e,if_neg (fun z=>hk (e.trans z))]
  ·rw [aV e,aV e,ih]
theorem ig (kvs:List (κ×V)) (k j:κ) (y:V):bO (dS kvs k y) j=if j=k then some y else bO kvs j:=by
 unfold dS
 by_cases a:(kvs.any fun kv=>decide (kv.1=k))=true
 ·rw [if_pos a,nO]
  rw [eo] at a
  by_cases e:j=k
  ·obtain ⟨x,hx⟩:=Option.isSome_iff_exists.mp a
   rw [if_pos e,e,hx,Option.map_some,if_pos rfl]
  ·rw [if_neg e]
   cases bO kvs j with
   | none=>rfl
   | some x=>rw [Option.map_some,if_neg e]
 ·rw [if_neg a]
  refine kP k j y kvs ?_
  rw [eo] at a
  cases q:bO kvs k with
  | none=>rfl
  | some x=>rw [q] at a; exact (a rfl).elim
theorem dv (kvs:List (κ×V)) (k:κ) (v:V):(dS kvs k v).length<=kvs.length+1:=by
 unfold dS
 split
 ·rw [List.length_map]; omega
 ·rw [List.length_append,List.length_cons,List.length_nil]; omega
theorem eC {kvs:List (κ×V)}{k:κ}(v:V) (h:bO kvs k=none):dS kvs k v=kvs++[(k,v)]:=by
 unfold dS
 rw [eo,h]
 exact if_neg (by decide)
theorem RelO.isSome_eq {o:Option V}{u:Option Value}(r:RelO o u):o.isSome=u.isSome:=by
 cases o with
 | none=>cases u with
  | none=>rfl
  | some _=>exact (show False from r).elim
 | some _=>cases u with
  | none=>exact (show False from r).elim
  | some _=>rfl
theorem RelO.getD {o:Option V}{u:Option Value}{d:V}{d':Value}(r:RelO o u) (rd:RelV d d'):RelV (o.getD d) (u.getD d'):=by
 cases o with
 | none=>cases u with
  | none=>exact rd
  | some _=>exact (show False from r).elim
 | some _=>cases u with
  | none=>exact (show False from r).elim
  | some _=>exact r
theorem KV.val {kvs:List (κ×V)}{vs:List (κ×Value)}(r:KV kvs vs) (k:κ):RelO (bO kvs k) (valueAt vs k):=by
 unfold KV at r
 induction r with
 | nil=>exact True.intro
 | @cons p q ps qs h t ih =>
  obtain ⟨h1,h2⟩:=h
  by_cases e:p.1=k
  ·have e':q.1=k:=h1.symm.trans e
   have b:valueAt (q::qs) k=some q.2:=by simp [valueAt,List.find?_cons,e']
   rw [aY e,b]; exact h2
  ·have e':¬q.1=k:=fun z=>e (h1.trans z)
   have b:valueAt (q::qs) k=valueAt qs k:=by simp [valueAt,List.find?_cons,e']
   rw [aV e,b]; exact ih
theorem KV.any {kvs:List (κ×V)}{vs:List (κ×Value)}(r:KV kvs vs) (k:κ):(kvs.any fun kv=>decide (kv.1=k))=vs.any fun kv=>decide (kv.1=k):=by
 unfold KV at r
 induction r with
 | nil=>rfl
 | cons h t ih=>rw [List.any_cons,List.any_cons,ih,h.1]
theorem KV.repl {kvs:List (κ×V)}{vs:List (κ×Value)}(r:KV kvs vs) (k:κ) {y:V}{u:Value}(ry:RelV y u) :
  KV (kvs.map fun kv=>if kv.1=k then (kv.1,y) else kv) (vs.map fun kv=>if kv.1=k then (kv.1,u) else kv):=by
 unfold KV at r ⊢
 induction r with
 | nil=>exact .nil
 | @cons p q ps qs h t ih =>
  rw [List.map_cons,List.map_cons]
  refine .cons ?_ ih
  obtain ⟨h1,h2⟩:=h
  by_cases e:p.1=k
  ·rw [if_pos e,if_pos (h1.symm.trans e)]; exact ⟨h1,ry⟩
  ·rw [if_neg e,if_neg (fun z=>e (h1.trans z))]; exact ⟨h1,h2⟩
theorem KV.put {kvs:List (κ×V)}{vs:List (κ×Value)}(r:KV kvs vs) (k:κ) {y:V}{u:Value}(ry:RelV y u):KV (dS kvs k y) (stored vs k u):=by
 unfold dS stored
 rw [r.any k]
 by_cases e:(vs.any fun kv=>decide (kv.1=k))=true
 ·rw [if_pos e,if_pos e]; exact r.repl k ry
 ·rw [if_neg e,if_neg e]; exact Paired.snoc r ⟨rfl,ry⟩
theorem KV.length {kvs:List (κ×V)}{vs:List (κ×Value)}(r:KV kvs vs):kvs.length=vs.length:=Paired.length r
end
theorem gH {P:Program}{w:World}{k:Key}{u:Value}(r:RelV (kV k) u):(aD P w).is k u=true:=by
 cases k with
 | inl i=>obtain ⟨t,e⟩:=(show ∃t,u=Value.int i t from r); subst e; exact nh P w i t
 | inr x=>obtain ⟨t,e⟩:=(show ∃t,u=Value.str x t from r); subst e; exact ng P w x t
abbrev KT (K:PySem.W.Frag) (H:Hp):List (TK×V)->List (TK×Addr×Value)->Prop:=Paired fun p q=>p.1=q.1/\TKC K H p.1 (.ref q.2.1)/\p.1.depth<=8/\RelV p.2 q.2.2
theorem KT.val {K:PySem.W.Frag}{H:Hp}{kvs:List (TK×V)}{xs:List (TK×Addr×Value)}(r:KT K H kvs xs) (k:TK):RelO (bO kvs k) ((atKey xs k).map (·.2)):=by
 induction r with
 | nil=>exact True.intro
 | @cons p q ps qs h t ih =>
  obtain ⟨h1,_,_,h2⟩:=h
  by_cases e:p.1=k
  ·have e':q.1=k:=h1.symm.trans e
   have b:atKey (q::qs) k=some q.2:=by simp [atKey,List.find?_cons,e']
   rw [aY e,b]; exact h2
  ·have e':¬q.1=k:=fun z=>e (h1.trans z)
   have b:atKey (q::qs) k=atKey qs k:=by simp [atKey,List.find?_cons,e']
   rw [aV e,b]; exact ih
theorem KT.repl {K:PySem.W.Frag}{H:Hp}{kvs:List (TK×V)}{xs:List (TK×Addr×Value)}(r:KT K H kvs xs) (k:TK) {y:V}{u:Value}(ry:RelV y u) :
  KT K H (kvs.map fun kv=>if kv.1=k then (kv.1,y) else kv) (xs.map (putAt k u)):=by
 induction r with
 | nil=>exact .nil
 | @cons p q ps qs h t ih =>
  rw [List.map_cons,List.map_cons]
  refine .cons ?_ ih
  obtain ⟨h1,h2,h3⟩:=h
  unfold putAt
  by_cases e:p.1=k
  ·rw [if_pos e,if_pos (h1.symm.trans e)]; exact ⟨h1,h2,h3.1,ry⟩
  ·rw [if_neg e,if_neg (fun z=>e (h1.trans z))]; exact ⟨h1,h2,h3⟩
theorem KT.put {K:PySem.W.Frag}{H:Hp}{kvs:List (TK×V)}{xs:List (TK×Addr×Value)}(r:KT K H kvs xs) (k:TK) {b:Addr}{y:V}{u:Value}(hb:TKC K H k (.ref b)) (h8:k.depth<=8) (ry:RelV y u) :
  KT K H (dS kvs k y) (storedH xs k b u):=by
 have e:(kvs.any fun kv=>decide (kv.1=k))=(atKey xs k).isSome:=by
  rw [eo,(r.val k).isSome_eq,Option.isSome_map]
 unfold dS storedH
 rw [e]
 by_cases q:(atKey xs k).isSome=true
 ·rw [if_pos q,if_pos q]; exact r.repl k ry
 ·rw [if_neg q,if_neg q]; exact Paired.snoc r ⟨rfl,hb,h8,ry⟩
theorem KT.keeps {K:PySem.W.Frag}{H H':Hp}{kvs:List (TK×V)}{xs:List (TK×Addr×Value)}(r:KT K H kvs xs) (ht:∀b ys,H b=some (.tup ys)->H' b=some (.tup ys)):KT K H' kvs xs :=
 Paired.mapP r fun _ _ z=>⟨z.1,TKC.keeps ht 8 z.2.2.1 z.2.1,z.2.2⟩
section
variable {P:Program}{w:World}{K:PySem.W.Frag}{H:Hp}{h:Heap}{a:Addr}
theorem vZ {u:HO}(ok:HOk P w K H h) (e:Rd H a u):ObjOk P w K H h a u:=e.ok ok
theorem lY {kvs:List (Key×V)}(ok:HOk P w K H h) (e:Rd H a (.dK kvs)):kvs.length<=sizeLine/\(a == sysModules)=false/\∃vs,KV kvs vs/\h.DictOf (aD P w) a vs :=
 show ObjOk P w K H h a (.dK kvs) from vZ ok e
theorem wq {kvs:List (Key×V)}(ok:HOk P w K H h) (e:H a=some (.dK kvs)):kvs.length<=sizeLine/\(a == sysModules)=false/\∃vs,KV kvs vs/\h.DictOf (aD P w) a vs:=lY ok (.inl e)
theorem vR (ok:HOk P w K H h) (kin:K.In h):∀(d:Nat) {k:TK}{v:V}{u:Value},k.depth<=d->TKC K H k v->RelV v u->TAt h k u:=by
 have key:∀(d:Nat) (ih:∀{k:TK}{v:V}{u:Value},k.depth<=d->TKC K H k v->RelV v u->TAt h k u) (ks:List TK) (vs:List V) (us:List Value),TK.depths ks<=d->TKCs K H ks vs->Vals vs us->TAts h ks us:=by
  intro d ih ks
  induction ks with
  | nil =>
   intro vs us _ hx r
   have e:vs=[]:=hx
   subst e
   cases r
   rfl
  | cons k ks ihl =>
   intro vs us hd hx r
   obtain ⟨v,vs',rfl,h1,h2⟩:=hx
   cases r with
   | @cons _ u _ us' r1 r2 =>
    have hd':max k.depth (TK.depths ks)<=d:=hd
    exact ⟨u,us',rfl,ih (by omega) h1 r1,ihl vs' us' (by omega) h2 r2⟩
 intro d
 induction d with
 | zero =>
  intro k v u hd hx r
  cases k with
  | t l=>exact absurd hd (by show ¬(TK.depths l+1<=0); omega)
  | k b =>
   have e:v=kV b:=hx
   subst e
   exact gH (P:=P) (w:=w) r
 | succ d ih =>
  intro k v u hd hx r
  cases k with
  | k b =>
   have e:v=kV b:=hx
   subst e
   exact gH (P:=P) (w:=w) r
  | t l =>
   obtain ⟨b,xs,rfl,hb,hi⟩:=hx
   cases (show u=Value.ref b from r)
   obtain ⟨its,rv,ob,h1,h2,n,h3⟩:∃its:List Value,Vals xs its/\IsTup h b its.toArray:=by
    rcases hb with hb | ⟨o,its,n,hk,hc,hs,hz,r⟩
    ·obtain ⟨_,its,rv,p⟩:=(show ObjOk P w K H h b (.tup xs) from ok b _ hb)
     exact ⟨its,rv,p⟩
    ·exact ⟨its.toList,r,o,kin b o hk,hc,n,by simpa using hs⟩
   exact ⟨b,ob,its.toArray,n,rfl,h1,h2,h3,by simpa using key d (fun h1=>ih h1) l xs its (by have:TK.depths l+1<=d+1:=hd; omega) hi rv⟩
theorem lT {k:TK}(ok:HOk P w K H h) (kin:K.In h) (e:TKC K H k (.ref a)) (h8:k.depth<=8):(bz P w).is h k a:=⟨vR ok kin 8 h8 e rfl,h8⟩
theorem nz {kvs:List (TK×V)}(ok:HOk P w K H h) (kin:K.In h) (e:Rd H a (.dT kvs)):kvs.length<=sizeLine/\(a == sysModules)=false /\
  ∃xs,KT K H kvs xs/\h.DictOfH (bz P w) a xs:=by
 obtain ⟨z,y,xs,r,o,es,ep,h1,h2,h3,h4,h5⟩:=(show ObjOk P w K H h a (.dT kvs) from vZ ok e)
 refine ⟨z,y,xs,r,o,es,ep,h1,h2,h3,h4,fun x hx=>?_,h5⟩
 have all:∀{l:List (TK×V)}{m:List (TK×Addr×Value)},KT K H l m->∀x∈m,(bz P w).is h x.1 x.2.1:=by
  intro l m q
  induction q with
  | nil=>intro x hx; exact nomatch hx
  | @cons p q ps qs hq t ih =>
   intro x hx
   rcases List.mem_cons.mp hx with e | hx
   ·subst e
    exact lT ok kin (by rw [<-hq.1]; exact hq.2.1) (by rw [<-hq.1]; exact hq.2.2.1)
   ·exact ih x hx
 exact all r x hx
theorem tZ {kvs:List (TK×V)}(ok:HOk P w K H h) (kin:K.In h) (e:H a=some (.dT kvs)):kvs.length<=sizeLine/\(a == sysModules)=false /\
  ∃xs,KT K H kvs xs/\h.DictOfH (bz P w) a xs:=nz ok kin (.inl e)
end
mutual
def mj (K:PySem.W.Frag) (H:Hp):TK->V->Prop
 | .k a,v=>v=kV a
 | .t l,v=>∃b xs,v=.ref b/\SqT K H b xs/\TKIns K H l xs
def TKIns (K:PySem.W.Frag) (H:Hp):List TK->List V->Prop
 | [],vs=>vs=[]
 | k::r,vs=>∃v us,vs=v::us/\mj K H k v/\TKIns K H r us
end
theorem TKAt.isIn {K:PySem.W.Frag}{H:Hp}:∀(d:Nat) {k:TK}{v:V},k.depth<=d->TKAt H k v->mj K H k v:=by
 have key:∀(d:Nat) (ih:∀{k:TK}{v:V},k.depth<=d->TKAt H k v->mj K H k v) (xs:List TK) (vs:List V),TK.depths xs<=d->TKAts H xs vs->TKIns K H xs vs:=by
  intro d ih xs
  induction xs with
  | nil=>intro vs _ hx; exact hx
  | cons x xs ihl =>
   intro vs hd hx
   obtain ⟨v,us,rfl,hx1,hx2⟩:=hx
   have hd':max x.depth (TK.depths xs)<=d:=hd
   exact ⟨v,us,rfl,ih (by omega) hx1,ihl us (by omega) hx2⟩
 intro d
 induction d with
 | zero =>
  intro k v hd hx
  cases k with
  | t l=>exact absurd hd (by show ¬(TK.depths l+1<=0); omega)
  | k a=>exact hx
 | succ d ih =>
  intro k v hd hx
  cases k with
  | k a=>exact hx
  | t l =>
   obtain ⟨b,xs,rfl,hb,hi⟩:=hx
   exact ⟨b,xs,rfl,SqT.of hb,key d (fun h1=>ih h1) l xs (by have:TK.depths l+1<=d+1:=hd; omega) hi⟩
theorem uL {X:Cx}{pins:List (Addr×Obj)}{σ:St}{H:Hp}{s:Shared}(I:Inv X pins σ H s):∀(d:Nat) {k:TK}{v:V}{u:Value},k.depth<=d->mj X.K H k v->RelV v u->TAt s.heap k u:=by
 have key:∀(d:Nat) (ih:∀{k:TK}{v:V}{u:Value},k.depth<=d->mj X.K H k v->RelV v u->TAt s.heap k u) (ks:List TK) (vs:List V) (us:List Value),TK.depths ks<=d->TKIns X.K H ks vs->Vals vs us->TAts s.heap ks us:=by
  intro d ih ks
  induction ks with
  | nil =>
   intro vs us _ hx r
   have e:vs=[]:=hx
   subst e
   cases r
   rfl
  | cons k ks ihl =>
   intro vs us hd hx r
   obtain ⟨v,vs',rfl,h1,h2⟩:=hx
   cases r with
   | @cons _ u _ us' r1 r2 =>
    have hd':max k.depth (TK.depths ks)<=d:=hd
    exact ⟨u,us',rfl,ih (by omega) h1 r1,ihl vs' us' (by omega) h2 r2⟩
 intro d
 induction d with
 | zero =>
  intro k v u hd hx r
  cases k with
  | t l=>exact absurd hd (by show ¬(TK.depths l+1<=0); omega)
  | k b =>
   have e:v=kV b:=hx
   subst e
   exact gH (P:=X.prog) (w:=X.w) r
 | succ d ih =>
  intro k v u hd hx r
  cases k with
  | k b =>
   have e:v=kV b:=hx
   subst e
   exact gH (P:=X.prog) (w:=X.w) r
  | t l =>
   obtain ⟨b,xs,rfl,hb,hi⟩:=hx
   cases (show u=Value.ref b from r)
   obtain ⟨its,rv,⟨ob,h1,h2,n,h3⟩,_⟩:=I.tuple hb
   exact ⟨b,ob,its.toArray,n,rfl,h1,h2,h3,by simpa using key d (fun h1=>ih h1) l xs its (by have:TK.depths l+1<=d+1:=hd; omega) hi rv⟩
theorem oy {X:Cx}{pins:List (Addr×Obj)}{σ:St}{H:Hp}{s:Shared}{k:TK}{b:Addr}(I:Inv X pins σ H s) (e:mj X.K H k (.ref b)) (h8:k.depth<=8):(bz X.prog X.w).is s.heap k b:=⟨uL I 8 h8 e rfl,h8⟩
theorem cr {P:Program}{w:World}{A:Around}(hu:A.units+16<cLine):(bz P w).room A.in1:=by
 show A.units+1+8<cLine
 omega
def nN (K:PySem.W.Frag) (H:Hp) (a:Addr) (y:V) (r:Option V):Prop :=
 (∃kvs k,Rd H a (.dK kvs)/\y=kV k/\r=bO kvs k)∨∃kvs k b,Rd H a (.dT kvs)/\y=.ref b/\mj K H k (.ref b)/\k.depth<=8/\r=bO kvs k
def xm (H:Hp) (a:Addr) (y v:V) (H':Hp):Prop :=
 (∃kvs k,H a=some (.dK kvs)/\y=kV k/\kvs.length<sizeLine/\H'=upd H a (.dK (dS kvs k v))) ∨
 ∃kvs k b,H a=some (.dT kvs)/\y=.ref b/\TKAt H k (.ref b)/\k.depth<=8/\kvs.length<sizeLine/\H'=upd H a (.dT (dS kvs k v))
section
variable {X:Cx}{pins:List (Addr×Obj)}{σ:St}{H:Hp}{s:Shared}{a:Addr}{y v:V}{u r:Value}{o:Option V}{A:Around}{E:Value->Shared->Prop}
theorem Inv.big (I:Inv X pins σ H s):sysModules<s.heap.objs.size:=by
 have h:mainGlobals<s.heap.objs.size:=(I.mod.glob.keeps I.bk).lt
 exact Nat.lt_trans (by decide) h
theorem r_ {Q:Value->Shared->Prop}(hu:A.units+16<cLine) (I:Inv X pins σ H s) (g:nN X.K H a y (some v)) (ry:RelV y u) (h:∀w' s',Inv X pins σ H s'->RelV v w'->Q w' s') :
  wpAny (model X.prog X.w) A (getItem (.ref a) u) Q E s:=by
 rcases g with ⟨kvs,k,e,ey,l⟩ | ⟨kvs,k,b,e,ey,eb,e8,l⟩
 ·subst ey
  obtain ⟨z,hd,vs,rel,dd⟩:=lY I.hok e
  obtain ⟨w',hw,rw'⟩:=RelO.some_of (v:=v) (o:=valueAt vs k) (by rw [l]; exact rel.val k)
  exact wpAny_getItem_of (gH ry) dd.mapOf hw (h w' _ (I.tok _) rw')
 ·subst ey
  cases (show u=Value.ref b from ry)
  obtain ⟨z,hd,xs,rel,dd⟩:=nz I.hok I.kIn e
  obtain ⟨w',hw,rw'⟩:=RelO.some_of (v:=v) (o:=(atKey xs k).map (·.2)) (by rw [l]; exact rel.val k)
  obtain ⟨p,hp,hp2⟩:=Option.map_eq_some_iff.mp hw
  refine wpAny_getItem_heap (cr hu) (oy I eb e8) dd hp ?_
  rw [hp2]
  exact h w' _ (I.tok _) rw'
theorem xv {Q:Value->Shared->Prop}(hu:A.units+16<cLine) (I:Inv X pins σ H s) (g:nN X.K H a y o) (ry:RelV y u) (h:∀s',Inv X pins σ H s'->Q (.bool o.isSome) s') :
  wpAny (model X.prog X.w) A (compareOp .In u (.ref a)) Q E s:=by
 rcases g with ⟨kvs,k,e,ey,l⟩ | ⟨kvs,k,b,e,ey,eb,e8,l⟩
 ·subst ey
  obtain ⟨z,hd,vs,rel,dd⟩:=lY I.hok e
  refine wpAny_in_of (gH ry) hd dd.mapOf ?_
  rw [<-(rel.val k).isSome_eq,<-l]
  exact h _ (I.tok _)
 ·subst ey
  cases (show u=Value.ref b from ry)
  obtain ⟨z,hd,xs,rel,dd⟩:=nz I.hok I.kIn e
  refine wpAny_in_heap (cr hu) (oy I eb e8) hd dd ?_
  have q:=(rel.val k).isSome_eq
  rw [Option.isSome_map] at q
  rw [<-q,<-l]
  exact h _ (I.tok _)
theorem vw {Q:Value->Shared->Prop}(hu:A.units+16<cLine) (I:Inv X pins σ H s) (g:nN X.K H a y o) (ry:RelV y u) (h:∀s',Inv X pins σ H s'->Q (.bool (!o.isSome)) s') :
  wpAny (model X.prog X.w) A (compareOp .NotIn u (.ref a)) Q E s:=by
 rcases g with ⟨kvs,k,e,ey,l⟩ | ⟨kvs,k,b,e,ey,eb,e8,l⟩
 ·subst ey
  obtain ⟨z,hd,vs,rel,dd⟩:=lY I.hok e
  refine wpAny_notIn_of (gH ry) hd dd.mapOf ?_
  rw [<-(rel.val k).isSome_eq,<-l]
  exact h _ (I.tok _)
 ·subst ey
  cases (show u=Value.ref b from ry)
  obtain ⟨z,hd,xs,rel,dd⟩:=nz I.hok I.kIn e
  refine wpAny_notIn_heap (cr hu) (oy I eb e8) hd dd ?_
  have q:=(rel.val k).isSome_eq
  rw [Option.isSome_map] at q
  rw [<-q,<-l]
  exact h _ (I.tok _)
theorem gK {h':Heap}{t':Nat}{ob:HO}(I:Inv X pins σ H s) (mu:Mut (H a)) (hs:Heap.SameBut a s.heap h') (he:∃q,h'.get? a=some q) (new:ObjOk X.prog X.w X.K (upd H a ob) h' a ob) :
  Inv X pins σ (upd H a ob) { s with heap:=h',toks:=t' } :=
 I.write (x:=a) (e:=a) mu (.inl rfl) (fun b q hb z=>(hs.2 b hb).trans z) he new
theorem rQ {P:Program}{w:World}{K:PySem.W.Frag}{H':Hp}{h':Heap}{kvs:List (Key×V)}{vs:List (Key×Value)}(z:kvs.length<=sizeLine) (hd:(a == sysModules)=false) (rel:KV kvs vs) (dd:h'.DictOf (aD P w) a vs) :
  ObjOk P w K H' h' a (.dK kvs):=⟨z,hd,vs,rel,dd⟩
theorem r9 {H':Hp}{Q:Unit->Shared->Prop}(hu:A.units+16<cLine) (I:Inv X pins σ H s) (g:xm H a y v H') (ry:RelV y u) (rv:RelV v r) (h:∀s',Inv X pins σ H' s'->Q () s') :
  wpAny (model X.prog X.w) A (setItem (.ref a) u r) Q E s:=by
 rcases g with ⟨kvs,k,e,ey,l,eH⟩ | ⟨kvs,k,b,e,ey,eb,e8,l,eH⟩
 ·subst ey eH
  obtain ⟨z,hd,vs,rel,dd⟩:=wq I.hok e
  have hz:vs.length<=sizeLine:=by rw [<-rel.length]; exact z
  have hl:(dS kvs k v).length<=sizeLine:=by have:=dv kvs k v; omega
  refine wpAny_setItem_pairs (hsz:=hz) (gH ry) dd fun h' dd' hs=>h _ ?_
  have he:∃q,h'.get? a=some q:=let ⟨q,_,_,hq,_⟩:=dd'; ⟨q,hq⟩
  exact gK I (by rw [e]; exact True.intro) hs he (rQ hl hd (rel.put k rv) dd')
 ·subst ey eH
  cases (show u=Value.ref b from ry)
  obtain ⟨z,hd,xs,rel,dd⟩:=tZ I.hok I.kIn e
  have hz:xs.length<=sizeLine:=by rw [<-Paired.length rel]; exact z
  have hl:(dS kvs k v).length<=sizeLine:=by have:=dv kvs k v; omega
  refine wpAny_setItem_heap (hsz:=hz) (cr hu) (lT I.hok I.kIn (TKAt.c 8 e8 eb) e8) dd fun h' dd' hs=>h _ ?_
  obtain ⟨q,es,ep,hq,h2,h3,h4,_,h5⟩:=dd'
  refine gK I (by rw [e]; exact True.intro) hs ⟨q,hq⟩ ⟨hl,hd,_,(rel.put k (TKAt.c 8 e8 eb) e8 rv).keeps fun c ys ec=>?_,q,es,ep,hq,h2,h3,h4,h5⟩
  rw [af (tL ec e (fun z=>nomatch z))]
  exact ec
theorem pR {b:Addr}{kvs:List (TK×V)}{k:TK}{Q:Unit->Shared->Prop}(hu:A.units+16<cLine) (I:Inv X pins σ H s) (e:H a=some (.dT kvs)) (eb:TKC X.K H k (.ref b)) (e8:k.depth<=8) (l:kvs.length<sizeLine) (ry:RelV (.ref b) u) (rv:RelV v r) (h:∀s',Inv X pins σ (upd H a (.dT (dS kvs k v))) s'->Q () s') :
  wpAny (model X.prog X.w) A (setItem (.ref a) u r) Q E s:=by
 cases (show u=Value.ref b from ry)
 obtain ⟨z,hd,xs,rel,dd⟩:=tZ I.hok I.kIn e
 have hz:xs.length<=sizeLine:=by rw [<-Paired.length rel]; exact z
 have hl:(dS kvs k v).length<=sizeLine:=by have:=dv kvs k v; omega
 refine wpAny_setItem_heap (hsz:=hz) (cr hu) (lT I.hok I.kIn (eb) e8) dd fun h' dd' hs=>h _ ?_
 obtain ⟨q,es,ep,hq,h2,h3,h4,_,h5⟩:=dd'
 refine gK I (by rw [e]; exact True.intro) hs ⟨q,hq⟩ ⟨hl,hd,_,(rel.put k (eb) e8 rv).keeps fun c ys ec=>?_,q,es,ep,hq,h2,h3,h4,h5⟩
 rw [af (tL ec e (fun z=>nomatch z))]
 exact ec
end
section
variable {X:Cx}{pins:List (Addr×Obj)}{σ:St}{H:Hp}{s:Shared}{a:Addr}{kvs:List (Key×V)}{k:Key}{u:Value}{A:Around}{E:Value->Shared->Prop}
end
def wA (i:Expr):Prop:=∀ov iv,subscripted i false ov iv=operate [ov,iv] (getItem ov iv)
theorem uN {prog:Program}{w:World}{A:Around}{E:Value->Shared->Prop}{s:Shared}{env:Env}{value slice:Expr}{pos:Pos}{T id:String}{Q:Value->Shared->Prop}
  (hl:typeLookup (.type T) "__getitem__"=pure (some (.builtin id))) (hs:wA slice)
  (h:wpAny (model prog w) A (eval value env) (fun o s₁=>wpAny (model prog w) A (eval slice env) (fun i s₂=>s₂.TypeIs o T/\wpAny (model prog w) A (getItem o i) Q E s₂) E s₁) E s) :
  wpAny (model prog w) A (eval (.Subscript value slice pos) env) Q E s:=by
 refine Subscript_ (wpAny_mono h (fun o s₁ h₁=>wpAny_mono h₁ (fun i s₂ h₂=>?_) fun _ _ x=>x) fun _ _ x=>x)
 obtain ⟨hT,h₂⟩:=h₂
 unfold subscriptTail
 refine wpAny_bind ?_
 rw [getitemInPython_of_ne hT.not_modules]
 refine wpAny_bind (wpAny_specialOf hT hl ?_)
 have fin:wpAny (model prog w) A (subscripted slice false o i) (fun r s₃=>wpAny (model prog w) A (letTemporaryGo value o r >>= fun _=>pure r) Q E s₃) E s₂:=by
  rw [hs o i]
  exact wpAny_operating (wpAny_mono h₂ (fun r s₃ h₃=>wpAny_bind (wpAny_letTemporaryGo (wpAny_pure h₃))) fun _ _ x=>x)
 first
  | exact wpAny_pure (wpAny_bind fin)
  | exact wpAny_bind (wpAny_pure (wpAny_bind fin))
  | exact wpAny_bind fin
theorem nA {X:Cx}{pins:List (Addr×Obj)}{σ:St}{H:Hp}{s:Shared}{a:Addr}{y:V}{o:Option V}(I:Inv X pins σ H s) (g:nN X.K H a y o):s.TypeIs (.ref a) "dict":=by
 rcases g with ⟨kvs,k,e,_,_⟩ | ⟨kvs,k,b,e,_,_,_⟩
 ·obtain ⟨_,_,vs,_,dd⟩:=lY I.hok e
  exact dd.typeIs
 ·obtain ⟨_,_,xs,_,dd⟩:=nz I.hok I.kIn e
  exact dd.typeIs
def mN (K:PySem.W.Frag) (td ty:TE):TE:=fun σ H Q=>td σ H fun x H1=>ty σ H1 fun y H2=>∃a v,x=.ref a/\nN K H2 a y (some v)/\Q v H2
def vJ (K:PySem.W.Frag) (ty td:TE):TE:=fun σ H Q=>ty σ H fun y H1=>td σ H1 fun x H2=>∃a o,x=.ref a/\nN K H2 a y o/\Q (.bl o.isSome) H2
def eZ (K:PySem.W.Frag) (ty td:TE):TE:=fun σ H Q=>ty σ H fun y H1=>td σ H1 fun x H2=>∃a o,x=.ref a/\nN K H2 a y o/\Q (.bl (!o.isSome)) H2
def gB (td ty tv:TE):TS:=fun D σ H=>tv σ H fun v H1=>td σ H1 fun x H2=>ty σ H2 fun y H3=>∃a H4,x=.ref a/\xm H3 a y v H4/\D.nx σ H4
section
variable {X:Cx}{o i e value:Expr}{pos pos' tpos:Pos}{td ty tv:TE}
theorem iP (hu:X.A.units+16<cLine) (ho:PE X o td) (hi:PE X i ty) (hs:wA i):PE X (.Subscript o i pos) (mN X.K td ty):=by
 intro pins s σ H Q I h
 refine uN PySem.F.slot_dict_getitem.lookup hs (thn (ho pins s σ H _ I h) fun u s1 ⟨x,H1,I1,rx,q1⟩=>thn (hi pins s1 σ H1 _ I1 q1) fun iv s2 ⟨y,H2,I2,ry,a,v,ex,g,q2⟩=>?_)
 subst ex
 obtain rfl:u=Value.ref a:=rx
 exact ⟨nA I2 g,r_ hu I2 g ry fun w' s3 I3 rw'=>⟨v,H2,I3,rw',q2⟩⟩
theorem lK (hu:X.A.units+16<cLine) (hi:PE X i ty) (ho:PE X o td):PC X .In i o (vJ X.K ty td):=by
 intro pins s σ H Q I h
 refine thn (hi pins s σ H _ I h) fun iv s1 ⟨y,H1,I1,ry,q1⟩=>thn (ho pins s1 σ H1 _ I1 q1) fun u s2 ⟨x,H2,I2,rx,a,ov,ex,g,q2⟩=>?_
 subst ex
 obtain rfl:u=Value.ref a:=rx
 exact xv hu I2 g ry fun s3 I3=>⟨.bl ov.isSome,H2,I3,rfl,q2⟩
theorem c8 (hu:X.A.units+16<cLine) (hi:PE X i ty) (ho:PE X o td):PC X .NotIn i o (eZ X.K ty td):=by
 intro pins s σ H Q I h
 refine thn (hi pins s σ H _ I h) fun iv s1 ⟨y,H1,I1,ry,q1⟩=>thn (ho pins s1 σ H1 _ I1 q1) fun u s2 ⟨x,H2,I2,rx,a,ov,ex,g,q2⟩=>?_
 subst ex
 obtain rfl:u=Value.ref a:=rx
 exact vw hu I2 g ry fun s3 I3=>⟨.bl (!ov.isSome),H2,I3,rfl,q2⟩
theorem cQ (hu:X.A.units+16<cLine) (ho:PE X o td) (hi:PE X i ty) (hv:PE X value tv) (hs:swapsWith value (some (.Subscript o i pos')) pos.line X.env=pure false) :
  PS X (.Assign [.Subscript o i pos'] value pos) (gB td ty tv):=by
 intro pins s σ H D I h
 refine wpAny_Assign_Subscript (thn (hv pins s σ H _ I h) fun r s1 ⟨v,H1,I1,rv,q1⟩=>thn (ho pins s1 σ H1 _ I1 q1) fun u s2 ⟨x,H2,I2,rx,q2⟩=>thn (hi pins s2 σ H2 _ I2 q2) fun iv s3 ⟨y,H3,I3,ry,a,H4,ex,g,q3⟩=>?_) hs
 subst ex
 obtain rfl:u=Value.ref a:=rx
 exact r9 hu I3 g ry rv fun s4 I4=>⟨σ,H4,I4,q3⟩
end
theorem oJ {P:Program}{w:World}{K:PySem.W.Frag}{H:Hp}(h:Heap) (hb:sysModules<h.objs.size):ObjOk P w K H (h.push { cls:=.type "dict",data:=.dict #[] }) h.objs.size (.dK []) :=
 ⟨Nat.zero_le _,beq_eq_false_iff_ne.mpr (Ne.symm (Nat.ne_of_lt hb)),[],.nil,Heap.DictOf.new h⟩
theorem oI {P:Program}{w:World}{K:PySem.W.Frag}{H:Hp}(h:Heap) (hb:sysModules<h.objs.size):ObjOk P w K H (h.push { cls:=.type "dict",data:=.dict #[] }) h.objs.size (.dT []) :=
 ⟨Nat.zero_le _,beq_eq_false_iff_ne.mpr (Ne.symm (Nat.ne_of_lt hb)),[],.nil,_,#[],0,Heap.get?_push_size _ rfl,⟨rfl,rfl,rfl⟩,rfl,rfl,List.nodup_nil⟩
def jD:TE:=fun _ H Q=>∀p,H p=none->Q (.ref p) (upd H p (.dK []))
def gX:TE:=fun _ H Q=>∀p,H p=none->Q (.ref p) (upd H p (.dT []))
section
variable {X:Cx}{pos:Pos}
theorem fQ:PE X (.Dict [] [] pos) jD:=fun pins s σ H Q I h =>
 wpAny_Dict_empty ⟨.ref s.heap.objs.size,_,I.laid (a:=s.heap.objs.size) (o:=.dK []) (t':=s.toks) (fun _ _ q=>Heap.get?_push_of_some _ q) (Nat.le_refl _) (oJ s.heap I.big),rfl,h _ (I.hok.fresh (Nat.le_refl _))⟩
theorem dq:PE X (.Dict [] [] pos) gX:=fun pins s σ H Q I h =>
 wpAny_Dict_empty ⟨.ref s.heap.objs.size,_,I.laid (a:=s.heap.objs.size) (o:=.dT []) (t':=s.toks) (fun _ _ q=>Heap.get?_push_of_some _ q) (Nat.le_refl _) (oI s.heap I.big),rfl,h _ (I.hok.fresh (Nat.le_refl _))⟩
end
def qv:List (TE×TE)->St->Hp->(List (V×V)->Hp->Prop)->Prop
 | [],_,H,Q=>Q [] H
 | (tk,tv)::r,σ,H,Q=>tk σ H fun x H1=>tv σ H1 fun y H2=>qv r σ H2 fun ps H3=>Q ((x,y)::ps) H3
abbrev VV:List (V×V)->List (Value×Value)->Prop:=Paired fun p q=>RelV p.1 q.1/\RelV p.2 q.2
def PPs (X:Cx) (pos:Pos) (keys:List (Option Expr)) (values:List Expr) (trs:List (TE×TE)):Prop :=
 ∀(pins:List (Addr×Obj)) (s:Shared) (σ:St) (H:Hp) (Q:List (V×V)->Hp->Prop),Inv X pins σ H s->qv trs σ H Q ->
  wpAny (model X.prog X.w) X.A (evalPairs (pairTrees keys values X.env pos)) (fun vs s'=>∃ps H',Inv X pins σ H' s'/\VV ps vs/\Q ps H') X.xe s
theorem u7 {X:Cx}{pos:Pos}:PPs X pos [] [] []:=fun pins s σ H Q I h=>pairTrees_nil_walk ⟨[],H,I,.nil,h⟩
theorem tG {X:Cx}{pos:Pos}{k v:Expr}{ks:List (Option Expr)}{vs:List Expr}{tk tv:TE}{trs:List (TE×TE)}(hk:PE X k tk) (hv:PE X v tv) (hr:PPs X pos ks vs trs) :
  PPs X pos (some k::ks) (v::vs) ((tk,tv)::trs):=fun pins s σ H Q I h =>
 pairTrees_cons_walk (thn (hk pins s σ H _ I h) fun u s1 ⟨x,H1,I1,rx,q1⟩=>thn (hv pins s1 σ H1 _ I1 q1) fun w2 s2 ⟨y,H2,I2,ry,q2⟩ =>
  thn (hr pins s2 σ H2 _ I2 q2) fun ws s3 ⟨ps,H3,I3,rel,q3⟩=>⟨(x,y)::ps,H3,I3,.cons ⟨rx,ry⟩ rel,q3⟩)
def dH (kvs more:List (Key×V)):List (Key×V):=more.foldl (fun acc kv=>dS acc kv.1 kv.2) kvs
theorem KV.merge:∀{more:List (Key×V)}{rs:List (Key×Value)}{kvs:List (Key×V)}{vs:List (Key×Value)},KV more rs->KV kvs vs->KV (dH kvs more) (merged vs rs):=by
 intro more rs kvs vs r
 unfold KV at r
 induction r generalizing kvs vs with
 | nil=>intro q; exact q
 | @cons p q ps qs h t ih =>
  intro r0
  have e:KV (dS kvs p.1 p.2) (stored vs q.1 q.2):=by
   have:=r0.put p.1 h.2
   rw [<-h.1]; exact this
  exact ih e
theorem dw:∀(more kvs:List (Key×V)),(dH kvs more).length<=kvs.length+more.length
 | [],kvs=>by show kvs.length<=kvs.length+0; omega
 | p::r,kvs=>by
  have h1:=dw r (dS kvs p.1 p.2)
  have h2:=dv kvs p.1 p.2
  show (dH (dS kvs p.1 p.2) r).length<=_
  rw [List.length_cons]; omega
theorem jR {P:Program}{w:World}:∀{kvs:List (Key×V)}{ws:List (Value×Value)},VV (kvs.map fun kv=>(kV kv.1,kv.2)) ws->∃rs,Carries (aD P w) ws rs/\KV kvs rs
 | [],_,r=>by rw [List.map_nil] at r; cases r; exact ⟨[],True.intro,.nil⟩
 | p::kvs,_,r=>by
  rw [List.map_cons] at r
  cases r with
  | @cons a b as bs h t =>
   obtain ⟨rs,c,q⟩:=jR (P:=P) (w:=w) t
   obtain ⟨b1,b2⟩:=b
   exact ⟨(p.1,b2)::rs,⟨gH h.1,rfl,c⟩,.cons ⟨rfl,h.2⟩ q⟩
def vW (trs:List (TE×TE)):TE:=fun σ H Q=>∀p,H p=none->qv trs σ (upd H p (.dK [])) fun ps H2=>H2 p=some (.dK [])/\∃kvs:List (Key×V),ps=kvs.map (fun kv=>(kV kv.1,kv.2))/\kvs.length<=15/\Q (.ref p) (upd H2 p (.dK (dH [] kvs)))
theorem vf {X:Cx}{pos:Pos}{keys:List (Option Expr)}{values:List Expr}{trs:List (TE×TE)}(h:PPs X pos keys values trs) (hall:keys.all (·.isSome)=true) (hl:keys.length=values.length) (h0:keys≠[])
  (h15:keys.length<=15):PE X (.Dict keys values pos) (vW trs):=by
 intro pins s σ H Q I q
 have hn:=I.hok.fresh (Nat.le_refl s.heap.objs.size)
 have I1:=I.laid (a:=s.heap.objs.size) (o:=.dK []) (h':=s.heap.push { cls:=.type "dict",data:=.dict #[] }) (t':=s.toks) (fun _ _ q=>Heap.get?_push_of_some _ q) (Nat.le_refl _) (oJ s.heap I.big)
 refine wpAny_Dict_walk (knd:=aD X.prog X.w) hall hl h0 h15 (thn (h pins _ σ _ _ I1 (q _ hn)) fun ws s2 ⟨ps,H2,I2,rel,e,kvs,ep,lk,q2⟩=>?_)
 subst ep
 obtain ⟨rs,c,rk⟩:=jR (P:=X.prog) (w:=X.w) rel
 obtain ⟨z,hd,vs0,r0,dd⟩:=wq I2.hok e
 cases r0
 refine ⟨rs,c,dd,fun h' dd' hs=>⟨.ref s.heap.objs.size,_,?_,rfl,q2⟩⟩
 have hz:(dH [] kvs).length<=sizeLine:=by
  have h1:=dw kvs []
  rw [List.length_nil] at h1
  rw [sizeLine_eq]; omega
 have he:∃q,h'.get? s.heap.objs.size=some q:=let ⟨q,_,_,hq,_⟩:=dd'; ⟨q,hq⟩
 exact gK I2 (by rw [e]; exact True.intro) hs he (rQ hz hd (rk.merge .nil) dd')
structure M1 (X:Cx) (o:Expr) (m:Str) (apos:Pos) (e:Expr) (cpos:Pos):Prop where
 base:attributeBase o m X.env (eval o X.env)=eval o X.env
 few:((backTo cpos (starEach [e] X.env)).all (fun x=>!x.1) && (backToKw cpos (keywordEach [] X.env)).all (fun x=>x.1.isSome)
  && decide (([e]:List Expr).length+([]:List Keyword).length+(if ([]:List Keyword).isEmpty then 0 else 1)<30))=true
 line:(apos.endLine == cpos.line)=true
 trees:backTo cpos (starEach [e] X.env)=[(false,eval e X.env)]
structure M2 (X:Cx) (o:Expr) (m:Str) (apos:Pos) (e f:Expr) (cpos:Pos):Prop where
 base:attributeBase o m X.env (eval o X.env)=eval o X.env
 few:((backTo cpos (starEach [e,f] X.env)).all (fun x=>!x.1) && (backToKw cpos (keywordEach [] X.env)).all (fun x=>x.1.isSome)
  && decide (([e,f]:List Expr).length+([]:List Keyword).length+(if ([]:List Keyword).isEmpty then 0 else 1)<30))=true
 line:(apos.endLine == cpos.line)=true
 trees:backTo cpos (starEach [e,f] X.env)=[(false,eval e X.env),(false,eval f X.env)]
def IsD (H:Hp) (a:Addr):Prop:=(∃kvs,Rd H a (.dK kvs))∨∃kvs,Rd H a (.dT kvs)
theorem wn {X:Cx}{pins:List (Addr×Obj)}{σ:St}{H:Hp}{s:Shared}{a:Addr}(I:Inv X pins σ H s) (d:IsD H a) :
  s.TypeIs (.ref a) "dict"/\(∀b,Value.ref a=.ref b->∃ob,s.heap.get? b=some ob/\ob.dict=none)/\(a == sysModules)=false:=by
 rcases d with ⟨kvs,e⟩ | ⟨kvs,e⟩
 ·obtain ⟨_,hd,vs,_,dd⟩:=lY I.hok e
  refine ⟨dd.typeIs,fun b q=>?_,hd⟩
  cases q
  obtain ⟨ob,_,_,h1,h2,_⟩:=dd
  exact ⟨ob,h1,h2.2.1⟩
 ·obtain ⟨_,hd,xs,_,dd⟩:=nz I.hok I.kIn e
  refine ⟨dd.typeIs,fun b q=>?_,hd⟩
  cases q
  obtain ⟨ob,_,_,h1,h2,_⟩:=dd
  exact ⟨ob,h1,h2.2.1⟩
section
variable {X:Cx}{pins:List (Addr×Obj)}{σ:St}{H:Hp}{s:Shared}{a:Addr}{y d:V}{u r:Value}{o:Option V}{A:Around}{E:Value->Shared->Prop}
theorem wx {Q:Value->Shared->Prop}(hu:A.units+16<cLine) (I:Inv X pins σ H s) (g:nN X.K H a y o) (ry:RelV y u) (rd:RelV d r) (h:∀w' s',Inv X pins σ H s'->RelV (o.getD d) w'->Q w' s') :
  wpAny (model X.prog X.w) A (call (.builtin "dict.get") [.ref a,u,r]) Q E s:=by
 rcases g with ⟨kvs,k,e,ey,l⟩ | ⟨kvs,k,b,e,ey,eb,e8,l⟩
 ·subst ey
  obtain ⟨z,hd,vs,rel,dd⟩:=lY I.hok e
  refine call_meetsIn PySem.F.slot_dict_get dd.typeIs PySem.F.entry_dict_get (PySem.F.args_dict_get_3 _ _ _) (meets_dict_get_default (aD X.prog X.w) a (gH ry) hd r) ⟨_,dd.mapOf,h _ _ (I.tok _) ?_⟩
  rw [l]
  exact (rel.val k).getD rd
 ·subst ey
  cases (show u=Value.ref b from ry)
  obtain ⟨z,hd,xs,rel,dd⟩:=nz I.hok I.kIn e
  refine call_meetsIn PySem.F.slot_dict_get dd.typeIs PySem.F.entry_dict_get (PySem.F.args_dict_get_3 _ _ _) (meetsH_dict_get_default (bz X.prog X.w) a b hd r) ⟨cr hu,k,xs,oy I eb e8,dd,h _ _ (I.tok _) ?_⟩
  rw [l]
  exact (rel.val k).getD rd
end
def gZ (K:PySem.W.Frag) (td ty tx:TE):TE:=fun σ H Q=>td σ H fun x H1=>∃a,x=.ref a/\IsD H1 a/\ty σ H1 fun y H2=>tx σ H2 fun z H3=>∃o,nN K H3 a y o/\Q (o.getD z) H3
section
variable {X:Cx}{o e f:Expr}{apos cpos:Pos}{td ty tx:TE}
theorem fR (hu:X.A.units+16<cLine) (ho:PE X o td) (he:PE X e ty) (hf:PE X f tx) (m:M2 X o "get" apos e f cpos):PE X (.Call (.Attribute o "get" apos) [e,f] [] cpos) (gZ X.K td ty tx):=by
 intro pins s σ H Q I h
 refine wpAny_Call_method m.base m.few m.line PySem.F.plainAttrs_dict PySem.F.slot_dict_get PySem.F.type_dict_get (thn (ho pins s σ H _ I h) fun u s1 ⟨x,H1,I1,rx,a,ex,d,q1⟩=>?_)
 subst ex
 obtain rfl:u=Value.ref a:=rx
 obtain ⟨t1,t2,_⟩:=wn I1 d
 refine ⟨t1,t2,?_⟩
 rw [m.trees]
 refine Calls.callWith_builtin rfl (Calls.evalArgs_plain (Calls.spliced_cons (thn (he pins s1 σ H1 _ I1 q1) fun iv s2 ⟨y,H2,I2,ry,q2⟩ =>
  Calls.spliced_cons (thn (hf pins s2 σ H2 _ I2 q2) fun fv s3 ⟨z,H3,I3,rz,ov,g,q3⟩=>Calls.spliced_nil ?_))))
 exact wx hu I3 g ry rz fun w' s4 I4 rw'=>⟨_,H3,I4,rw',q3⟩
end
section
variable {X:Cx}{pins:List (Addr×Obj)}{σ:St}{H:Hp}{s:Shared}{a:Addr}{kvs:List (Key×V)}{A:Around}{E:Value->Shared->Prop}
end
section
variable {X:Cx}{pins:List (Addr×Obj)}{σ:St}{H:Hp}{s:Shared}{a:Addr}{y:V}{u:Value}{A:Around}{E:Value->Shared->Prop}
end
end L2
namespace Att
open PySem PySem.W PySem.Calls PyProof.Rows
theorem ints_of_wellAll {P:Params}{h:Heap}:∀(ns:List Int) (vs:List Value),WellAll P h vs (ns.map WData.int)->IntsAre vs ns:=by
 intro ns
 induction ns with
 | nil =>
  intro vs w
  rw [List.map_nil] at w
  cases w
  exact .nil
 | cons n ns ih =>
  intro vs w
  rw [List.map_cons] at w
  cases w with
  | cons a b =>
   cases a
   exact .cons _ _ (ih _ b)
theorem script_of {l:OpenLaw}{n:Nat}(hn:l.most=some n) {P:Params}{h:Heap}{args:List WData}{vals:List Value}
  (hpre:l.row.toRowW.claim.pre args=true) (hwl:WellAll P h vals args) :
  ∃a vs ns,vals=[Value.ref a]/\args=[WData.list (ns.map WData.int)]/\h.get? a=some { cls:=.type "list",data:=.seq vs.toArray }/\IntsAre vs ns/\ns.length<=n:=by
 have hsh:WShape.hasAll [] args [.list .int]=true:=(pre_splitW hpre).1
 have hc:l.pre.holds [] { args:=args }=true:=(pre_splitW hpre).2
 obtain ⟨d,r,rfl,h1,h2⟩:=hasAllW_cons hsh
 obtain rfl:=hasAllW_nil h2
 obtain ⟨xs,rfl,h3⟩:=hasW_list h1
 obtain ⟨ns,rfl⟩:=items_int h3
 have hlen:ns.length<=n:=by
  unfold OpenLaw.pre at hc
  have h4:(WTm.not (.lt (.lit (.int (n:Int))) (.len (.arg 0)))).holds [] { args:=[.list (ns.map .int)] }=true:=by
   have h4:=(holds_andW hc).1
   rw [hn] at h4
   exact h4
  have h5:=condW_of h4 (w_not (w_lt w_lit (w_len_list (w_arg rfl))))
  rw [List.length_map] at h5
  refine Nat.le_of_not_lt fun q=>?_
  have q':(n:Int)<((ns.length:Nat):Int):=by omega
  first
   | (rw [decide_eq_true q'] at h5; exact absurd h5 (by decide))
   | (simp at h5; omega)
 cases hwl with
 | cons w1 w2 =>
  cases w2
  cases w1 with
  | list ho hall=>exact ⟨_,_,ns,rfl,rfl,ho,ints_of_wellAll ns _ hall,hlen⟩
theorem post_true (l:OpenLaw) (args:List WData):l.row.toRowW.claim.post args (.bool true) args=true :=
 postW_of (r:=l.row.toRowW) (X:=(true == true))
  (show WShape.has [] (.bool true) .bool=true by first | rfl | decide | simp [WShape.has,WShape.arms,WShape.armsAll])
  (show (WTm.eq .res (.lit (.bool true))).value [] { args:=args,res:=some (.bool true),after:=args }=some (.bool (true == true)) from w_eq_bool (w_res rfl) w_lit) rfl
theorem attach_call {l:OpenLaw}{n:Nat}{q:Program}{loose:List Str}{XP:(Str->Option Value)->Heap->Prop}{YP:World->Heap->Prop}{d:DefRec}
  (hn:l.most=some n) (hdf:d.params.defaults=[])
  (call:∀(w:World) (s₀ s₁:Shared) (mg mb:Str->Option Value) (fa:Addr) (o:Obj) (pm cd doc:Value) (a:Addr) (vs:List Value) (ns:List Int),
   Ground q loose [] XP w s₀ mg mb s₁.heap->YP w s₁.heap ->
   s₁.heap.get? fa=some o->o.data=.func (docDef d.name d.params d.body d.scope pm cd doc)->s₁.heap.CodeRec cd d.name->mg d.name=some (.ref fa) ->
   s₁.heap.get? a=some { cls:=.type "list",data:=.seq vs.toArray }->IntsAre vs ns->ns.length<=n->s₁.gens=#[] ->
   codeAny (model l.prog w) callerA (.call (.ref fa) ⟨[.ref a],[]⟩) (fun r s'=>r=.ok (.ret (.bool true))/\OldK s₁.heap s'.heap/\s'.os=s₁.os/\AllBare s'.gens) s₁) :
  WalkO q loose XP YP l.row.toRowW d [] (fun f vs=>PySem.call f vs):=by
 intro w s₀ s₁ mg mb G Y fa o pm cd doc dV kV ho hd hcd hD hmg hg args vals as hpre hlay hrd hwl hlo
 obtain rfl:dV=.none:=Dflts.none hD hdf
 obtain rfl:kV=.none:=Dflts.noKw hD
 obtain ⟨a,vs,ns,rfl,rfl,hobj,hints,hlen⟩:=script_of hn hpre hwl
 refine enter_call (codeAny_mono (call w s₀ s₁ mg mb fa o pm cd doc a vs ns G Y ho (fd_plain hd) hcd hmg hobj hints hlen hg) fun r s' hq=>?_)
 obtain ⟨rfl,h2,h3,h4⟩:=hq
 exact ⟨.inl ⟨.bool true,.bool true,[],rfl,fun _=>rfl,.bool true,post_true l _,fun _=>⟨List.Pairwise.nil,fun _ hm=>(nomatch hm)⟩⟩,h2,h3,h4⟩
section
variable {prog:Program}{w:World}{A:Around}{E:Value->Shared->Prop}{s:Shared}{K:Frag}
end
end Att
namespace L2
open PySem PySem.Spec PyProof.Rows
theorem kM:∀{vs:List Value}{ns:List Int},IntsAre vs ns->Vals (ns.map V.int) vs
 | _,_,.nil=>.nil
 | _,_,.cons n t h=>.cons ⟨t,rfl⟩ (kM h)
def wG (H:Hp):Prop:=∀b,H b=none∨∃o xs,H b=some (.frz o (.lst xs))
theorem tN {P:Program}{w:World}{K:PySem.W.Frag}{mg mb:Str->Option Value}{CX:CXT}{k:Nat}{fa a:Addr}{fd:FuncData}{x:Str}{sp:Sp}{s₁:Shared}{vs:List Value}{ns:List Int}
  (KX:K.In s₁.heap) (hns:s₁.heap.Ns mainGlobals mg) (hb:s₁.heap.Ns builtinsNs mb) (hbb:∀x:Str,x≠"__name__"->mb x=bootBuiltins x) (hlim:s₁.heap.NoLimit) (hg:s₁.gens=#[])
  (ha:s₁.heap.get? a=some { cls:=.type "list",data:=.seq vs.toArray }) (hi:IntsAre vs ns) (hl:ns.length<=sizeLine) (hr:Room k callerA)
  (F:∀base:Heap,K.In base->base.Ns mainGlobals mg->jA P w K mg base CX k fa fd [x] sp) (hbind:∀(s:Shared) (u:Value),BindsTo s fd ⟨[u],[]⟩ [(x,u)])
  (hsp:∀H:Hp,wG H->SqL K H a (ns.map V.int)->sp [.ref a] H (fun v _=>v=.bl true) fun _ _ _=>False)
  (hCX:∀H e s',CX [] H s₁ (fun _ _ _=>False) e s'->False) :
  codeAny (model P w) callerA (.call (.ref fa) ⟨[.ref a],[]⟩) (fun r s'=>r=.ok (.ret (.bool true))/\OldK s₁.heap s'.heap/\s'.os=s₁.os/\AllBare s'.gens) s₁:=by
 have rv:=kM hi
 have lenV:=hi.length
 have core:∀H:Hp,wG H->SqL K H a (ns.map V.int)->HOk P w K H s₁.heap->(∀b,H b≠none->b=a)->(H a≠none->K.lookup a=none) ->
   codeAny (model P w) callerA (.call (.ref fa) ⟨[.ref a],[]⟩) (fun r s'=>r=.ok (.ret (.bool true))/\OldK s₁.heap s'.heap/\s'.os=s₁.os/\AllBare s'.gens) s₁:=by
  intro H hO hS hok hA hK
  have base_of:∀{b:Addr}{o:Obj},s₁.heap.get? b=some o->H b=none->(tR s₁.heap H).get? b=some o:=fun e n=>tQ e n
  have noA:∀{b:Addr}{o:Obj}{es:Array DictEntry}{ep:Nat},s₁.heap.get? b=some o->o.data=.dict es ep->H b=none:=fun {b o es ep} e d=>by
   cases q:H b with
   | none=>rfl
   | some u =>
    have e':b=a:=hA b (by rw [q]; simp)
    subst e'
    rw [ha] at e; cases e
    have d':Data.seq vs.toArray _=Data.dict es ep:=d
    cases d'
  have nsK:∀{b:Addr}{m:Str->Option Value},s₁.heap.Ns b m->(tR s₁.heap H).Ns b m:=fun {b m} ⟨o,es,ep,e,d,r⟩=>⟨o,es,ep,base_of e (noA e d),d,r⟩
  have hKb:K.In (tR s₁.heap H):=fun b o e=>base_of (KX b o e) (by
   cases q:H b with
   | none=>rfl
   | some u =>
    have e':b=a:=hA b (by rw [q]; simp)
    subst e'
    rw [hK (by rw [q]; simp)] at e; cases e)
  have hM:Mod K mg (tR s₁.heap H):=⟨hKb,nsK hns,⟨mb,nsK hb,hbb⟩,let ⟨mc,h1,h2⟩:=hlim; ⟨mc,nsK h1,h2⟩⟩
  have e0:Env0 P w K mg (tR s₁.heap H) callerA [] s₁ H:=⟨rfl,hM,fun b o e=>vk e,Nat.le_of_eq (rJ _ _),trivial,fun b hb=>absurd (show b∈([]:List Addr) from hb) (by simp),hok,.of_eq hg⟩
  refine codeAny_mono ((F _ hKb (nsK hns)).run callerA [] s₁ H ⟨[.ref a],[]⟩ [.ref a] [.ref a] _ _ hr e0 (hbind s₁ (.ref a)) (.cons rfl .nil) (hsp H hO hS)) fun r s' h=>?_
  cases r with
  | error e=>exact (hCX H e s' h).elim
  | ok fl =>
   cases fl with
   | next=>exact False.elim h
   | brk=>exact False.elim h
   | cont=>exact False.elim h
   | ret u =>
    obtain ⟨v,H',os,bare,un,hok',r',q⟩:=h
    have q':v=.bl true:=q
    subst q'
    obtain rfl:u=Value.bool true:=r'
    refine ⟨rfl,OldK.of_keep fun b o e=>?_,os,bare⟩
    cases q:H b with
    | none=>exact un.keep b o e q (by intro z; exact absurd (show b∈([]:List Addr) from z) (by simp)) (by simp)
    | some u =>
     rcases hO b with z | ⟨ob,xs,z⟩
     ·rw [q] at z; cases z
     ·have z2:=un.frzs b ob _ z
      obtain ⟨e1,_⟩:=hok b _ z
      obtain ⟨e2,_⟩:=hok' b _ z2
      rw [e] at e1; cases e1
      exact e2
 cases hk:K.lookup a with
 | some o =>
  have e:=KX a o hk
  rw [ha] at e
  cases e
  refine core (fun _=>none) (fun _=>.inl rfl) (.inr ⟨_,vs.toArray,_,hk,rfl,rfl,rfl,by rw [List.size_toArray,lenV]; exact hl,by simpa using rv⟩) (fun b u z=>by have z':(none:Option HO)=some u:=z; cases z') (fun b z=>absurd rfl z) fun z=>absurd rfl z
 | none =>
  refine core (fun b=>if b=a then some (.frz { cls:=.type "list",data:=.seq vs.toArray } (.lst (ns.map V.int))) else none) (fun b=>?_) (.inl (.inr ⟨{ cls:=.type "list",data:=.seq vs.toArray },if_pos rfl⟩)) (fun b u z=>?_) (fun b z=>?_) fun _=>hk
  ·by_cases hb:b=a
   ·exact .inr ⟨_,_,if_pos hb⟩
   ·exact .inl (if_neg hb)
  ·by_cases hb:b=a
   ·have z':=(if_pos hb).symm.trans z
    cases z'
    subst hb
    exact ⟨ha,by rw [List.length_map]; exact hl,vs,_,rv,ha⟩
   ·have z':=(if_neg hb).symm.trans z
    cases z'
  ·by_cases hb:b=a
   ·exact hb
   ·exact absurd (if_neg hb) z
end L2
namespace L2
open PySem PySem.Spec PyProof.Rows
theorem uI {l:PySem.W.OpenLaw}{n k:Nat}{q:Program}{loose:List Str}{XP:(Str->Option Value)->Heap->Prop}{YP:World->Heap->Prop}{d:DefRec}{K:Params->PySem.W.Frag}{CX:World->CXT}{sp:World->Sp}{x:Str}
  (hn:l.most=some n) (hn2:n<=sizeLine) (hdf:d.params.defaults=[]) (hr:Room k callerA)
  (hY:∀(w:World) (h:Heap),YP w h->(K w.params).In h)
  (F:∀(w:World) (mg:Str->Option Value) (fa:Addr) (h:Heap),(K w.params).In h->h.Ns mainGlobals mg->mg d.name=some (.ref fa) ->
   ∃fd:FuncData,(∀(s:Shared) (u:Value),BindsTo s fd ⟨[u],[]⟩ [(x,u)]) /\
    ∀base:Heap,(K w.params).In base->base.Ns mainGlobals mg->jA l.prog w (K w.params) mg base (CX w) k fa fd [x] (sp w))
  (hsp:∀(w:World) (H:Hp) (a:Addr) (ns:List Int),ns.length<=n->wG H->SqL (K w.params) H a (ns.map V.int)->sp w [.ref a] H (fun v _=>v=.bl true) fun _ _ _=>False)
  (hCX:∀(w:World) (H:Hp) (s:Shared) (e:Value) (s':Shared),CX w [] H s (fun _ _ _=>False) e s'->False) :
  PySem.W.WalkO q loose XP YP l.row.toRowW d [] (fun f vs=>PySem.call f vs):=by
 refine Att.attach_call hn hdf fun w s₀ s₁ mg mb fa o pm cd doc a vs ns G Y ho hd hcd hmg hobj hints hlen hg=>?_
 have KX:=hY w _ Y
 obtain ⟨fd,hb,hF⟩:=F w mg fa _ KX G.T.g hmg
 exact tN KX G.T.g G.T.b G.T.builtins G.T.nolimit hg hobj hints (Nat.le_trans hlen hn2) hr hF hb (fun H hO hS=>hsp w H a ns hlen hO hS) fun H e s'=>hCX w H s₁ e s'
theorem walk_ofK {l:PySem.W.OpenLaw}{n k:Nat}{q:Program}{loose:List Str}{XP:(Str->Option Value)->Heap->Prop}{YP:World->Heap->Prop}{d:DefRec}{K:Params->PySem.W.Frag}{CX:CXT}{sp:PySem.W.Frag->Sp}{x:Str}
  (hn:l.most=some n) (hn2:n<=sizeLine) (hdf:d.params.defaults=[]) (hr:Room k callerA)
  (hY:∀(w:World) (h:Heap),YP w h->(K w.params).In h)
  (F:∀(w:World) (mg:Str->Option Value) (fa:Addr) (h:Heap),(K w.params).In h->h.Ns mainGlobals mg->mg d.name=some (.ref fa) ->
   ∃fd:FuncData,(∀(s:Shared) (u:Value),BindsTo s fd ⟨[u],[]⟩ [(x,u)]) /\
    ∀base:Heap,(K w.params).In base->base.Ns mainGlobals mg->jA l.prog w (K w.params) mg base CX k fa fd [x] (sp (K w.params)))
  (hsp:∀(K:PySem.W.Frag) (H:Hp) (a:Addr) (ns:List Int),ns.length<=n->wG H->SqL K H a (ns.map V.int)->sp K [.ref a] H (fun v _=>v=.bl true) fun _ _ _=>False)
  (hCX:∀(H:Hp) (s:Shared) (e:Value) (s':Shared),CX [] H s (fun _ _ _=>False) e s'->False) :
  PySem.W.WalkO q loose XP YP l.row.toRowW d [] (fun f vs=>PySem.call f vs) :=
 uI (K:=K) (CX:=fun _=>CX) (sp:=fun w=>sp (K w.params)) hn hn2 hdf hr hY F (fun w H a ns h1 h2 h3=>hsp (K w.params) H a ns h1 h2 h3) fun _ H s e s'=>hCX H s e s'
end L2
namespace L2
open PySem PySem.Spec PyProof.Rows
def cR (s:Stmt) (j:Nat):Stmt:=match s with
 | .ClassDef _ _ _ body _ _ _ _ _ _ _=>body.getD j (.Pass ⟨0,0,0,0⟩)
 | _=>.Pass ⟨0,0,0,0⟩
def dA (s:Stmt):Arguments:=match s with
 | .FunctionDef _ a _ _ _ _ _ _ _ _=>a
 | _=>{ posonlyargs:=[],args:=[],vararg:=none,kwonlyargs:=[],kw_defaults:=[],kwarg:=none,defaults:=[] }
def cC (s:Stmt):List Stmt:=match s with
 | .FunctionDef _ _ b _ _ _ _ _ _ _=>b
 | _=>[]
def aH (s:Stmt):Scope:=match s with
 | .FunctionDef _ _ _ _ _ _ sc _ _ _=>sc
 | _=>{ kind:=.function,names:=[],isGenerator:=false,isCoroutine:=false }
abbrev CX0:CXT:=fun _ _ _ _ _ _=>False
abbrev E0:XK:=fun _ _ _=>False
theorem tJ {X:Cx}:i_ CX0 X E0:=fun _ _ _ _ _ _ _ h=>h.elim
structure Fun (K:PySem.W.Frag) (x qual:Str) (st:Stmt) (f:Addr) (fd:FuncData):Prop where
 ex:∃(oc:Value) (od:Option Addr) (kV doc pm:Value) (an:Option Addr) (cdv ct:Value) (osl:Array (Option Value)),
  fd=PySem.W.fnOf x qual (dA st) (cC st) (aH st) .none kV doc pm an cdv ct/\K.lookup f=some ⟨oc,od,.func fd,osl⟩/\PySem.W.codeIn K cdv qual=true
 kp:PySem.W.keepIn K (.ref f)=true
section
variable {P:Program}{w:World}{K:PySem.W.Frag}{mg:Str->Option Value}{base:Heap}
theorem Fun.ok {x qual:Str}{st:Stmt}{f:Addr}{fd:FuncData}{N ps:List Str}{k:Nat}{sp:Sp}(F:Fun K x qual st f fd) (S:fx N ps (aH st)) (len:∀vs H Q E,sp vs H Q E->vs.length=ps.length)
  (hbody:∀(cdv:Value) (A:Around) (outer:List Env) (s:Shared) (H:Hp) (vs:List V) (Q:VK) (E:XK),Room k (A.deeper (envOfC qual (aH st) s.heap.objs.size f cdv))->sp vs H Q E ->
   ∃t,PSs (vz CX0 P w K mg base N qual (aH st) f cdv A outer s H E).nox (cC st) t/\t { nx:=fun _ H'=>Q .non H',rt:=Q } (aA N vs) H):jA P w K mg base CX0 (k+1) f fd ps sp:=by
 obtain ⟨oc,od,kV,doc,pm,an,cdv,ct,osl,rfl,lk,hcd⟩:=F.ex
 refine wQ lk hcd S len fun A outer s H vs Q E hr hsp=>?_
 obtain ⟨t,h,q⟩:=hbody cdv A outer s H vs Q E hr hsp
 exact ⟨t,h.nox,q⟩
theorem Fun.binds {x qual:Str}{st:Stmt}{f:Addr}{fd:FuncData}{ps:List Str}(F:Fun K x qual st f fd)
  (h:∀(kV doc pm:Value) (an:Option Addr) (cdv ct:Value) (us:List Value),us.length=ps.length->bindArgs (PySem.W.fnOf x qual (dA st) (cC st) (aH st) .none kV doc pm an cdv ct) ⟨us,[]⟩=pure (ps.zip us)):Binds K fd ps []:=by
 obtain ⟨oc,od,kV,doc,pm,an,cdv,ct,osl,rfl,lk,hcd⟩:=F.ex
 exact .all (h kV doc pm an cdv ct)
theorem uz {x qual:Str}{st:Stmt}{f:Addr}{oc:Value}{od an:Option Addr}{osl:Array (Option Value)}{kV doc pm cdv ct:Value}(l:K.lookup f=some ⟨oc,od,.func (PySem.W.fnOf x qual (dA st) (cC st) (aH st) .none kV doc pm an cdv ct),osl⟩)
  (c:PySem.W.codeIn K cdv qual=true) (k:PySem.W.keepIn K (.ref f)=true):Fun K x qual st f (PySem.W.fnOf x qual (dA st) (cC st) (aH st) .none kV doc pm an cdv ct):=⟨⟨oc,od,kV,doc,pm,an,cdv,ct,osl,rfl,l,c⟩,k⟩
end
theorem tP {A:Around}{k:Nat}(hr:Room k A):A.units+16<cLine:=Nat.lt_of_le_of_lt (Nat.add_le_add_left (by decide:16<=64) _) hr.units
theorem ao {n:Nat}(h:n<=1000):n<sizeLine:=Nat.lt_of_le_of_lt h (by decide)
section
variable {X:Cx}
theorem pv (i:Nat) {x:Str}{pos:Pos}(hN:X.N[i]?=some x:=by rfl) (hv:Vis X.env.scope x:=by first | exact Or.inl rfl | exact Or.inr (Or.inl rfl) | exact Or.inr (Or.inr rfl)) (hd:(x == ("__debug__":Str))=false:=by decide)
  (hcd:(x == ("__classdict__":Str))=false:=by decide):PE X (.Name x pos) (ag i):=wa hN hv hd hcd
end
theorem bx {A B:Prop}(h:B):if false=true then A else B:=by
 rw [if_neg Bool.false_ne_true]
 exact h
theorem cK {A B:Prop}(h:A):if true=true then A else B:=by
 rw [if_pos rfl]
 exact h
theorem oz {c A B:Prop} [Decidable c] (h1:c->A) (h2:¬c->B):if c then A else B:=by
 by_cases h:c
 ·rw [if_pos h]
  exact h1 h
 ·rw [if_neg h]
  exact h2 h
def Same (H H':Hp):Prop:=∀b o,H b=some o->H' b=some o
theorem Same.refl (H:Hp):Same H H:=fun _ _ h=>h
theorem Same.trans {H H1 H2:Hp}(a:Same H H1) (b:Same H1 H2):Same H H2:=fun c o h=>b c o (a c o h)
theorem Same.free {H H':Hp}(e:Same H H') {l:Addr}(h:H' l=Option.none):H l=Option.none:=by
 cases q:H l with
 | none=>rfl
 | some o =>
  rw [e l o q] at h
  cases h
theorem Same.seq {K:PySem.W.Frag}{H H':Hp}{a:Addr}{xs:List V}(e:Same H H') (h:SqL K H a xs):SqL K H' a xs:=by
 rcases h with (h | ⟨o,h⟩) | h
 ·exact .inl (.inl (e _ _ h))
 ·exact .inl (.inr ⟨o,e _ _ h⟩)
 ·exact .inr h
section
variable {X:Cx}
end
section
variable {κ:Type} [DecidableEq κ]
end
end L2
end

section
set_option Elab.async false
set_option linter.all false
set_option maxRecDepth 100000
namespace L2
open PySem PySem.Spec PyProof.Rows
section
variable {prog:Program}{w:World}{A:Around}{R:Result->Shared->Prop}{s:Shared}
abbrev XF:Value->Shared->Prop:=fun _ _=>False
abbrev rF (ifs:List Expr) (env:Env):Sem Bool:=forIn ifs true fun c r=>if r=true then do let ok <- isTrue c env (eval c env); pure (ForInStep.yield ok) else pure (ForInStep.yield r)
theorem l9 {elt target iter:Expr}{ifs:List Expr}{scope:Scope}{pos:Pos}{it acc:Value}{env:Env}(I:Nat->Shared->Prop)
  (turn:∀n s,I n s->wpAny (model prog w) A (pyNext it) (fun r s₁=>match r with
   | none=>R (.ok .next) s₁
   | some v=>wpAny (model prog w) A (letOwnedTupleGo target it v) (fun _ s₁'=>wpAny (model prog w) A (assign target env v) (fun _ s₂ =>
     wpAny (model prog w) A (rF ifs env) (fun ok s₃ =>
      if ok=true then wpAny (model prog w) A (eval elt env) (fun x s₄ =>
       wpAny (model prog w) A (call (.builtin "list.append") [acc,x]) (fun _ s₅=>∃m,m<n/\I m s₅) XF s₄) XF s₃
      else ∃m,m<n/\I m s₃) XF s₂) XF s₁') XF s₁) XF s)
  (n:Nat) (h:I n s):codeAny (model prog w) A (.compLoop (.ListComp elt [⟨target,iter,ifs,0⟩] scope pos) 0 it acc env) R s:=by
 refine codeAny_loop rfl I (fun n s hI=>?_) n h
 show wpAny _ A ((compTurn (.ListComp elt [⟨target,iter,ifs,0⟩] scope pos) 0 it acc env).onRaise (fun x=>do noteFrame x env; theTreesLotGoes x)) _ _ s
 refine wpAny_noted ?_
 rw [compTurn_list]
 refine wpAny_bind (wpAny_standAt (wpAny_bind (wpAny_mono (turn n s hI) (fun r s₁ h₁=>?_) fun _ _ h'=>h'.elim)))
 cases r with
 | none=>exact wpAny_pure h₁
 | some v =>
  refine wpAny_bind (wpAny_mono h₁ (fun _ s₁' h₁'=>?_) fun _ _ h'=>h'.elim)
  refine wpAny_bind (wpAny_mono h₁' (fun _ s₂ h₂=>wpAny_bind (wpAny_mono h₂ (fun ok s₃ h₃=>?_) fun _ _ h'=>h'.elim)) fun _ _ h'=>h'.elim)
  cases ok with
  | false=>exact wpAny_pure ⟨rfl,h₃⟩
  | true =>
   exact wpAny_bind (wpAny_bind (wpAny_mono h₃ (fun x s₄ h₄=>wpAny_bind (wpAny_mono h₄ (fun _ s₅ h₅=>wpAny_pure (wpAny_pure ⟨rfl,h₅⟩)) fun _ _ h'=>h'.elim)) fun _ _ h'=>h'.elim))
end
theorem gM {env:Env}:∀(names:List (Str×NameKind)) (cs0:List (Str×Addr)),(∀y∈names,y.2=.free->∃c,env.cells.lookup y.1=some c)->(∀x c,cs0.lookup x=some c->env.cells.lookup x=some c) ->
  ∃cs:List (Str×Addr),(forIn names cs0 fun (x:Str×NameKind) (r:List (Str×Addr))=>if (x.2 == NameKind.free)=true then (cellOf env x.1 >>= fun c=>(pure (ForInStep.yield ((x.1,c)::r)):Sem (ForInStep (List (Str×Addr))))) else pure (ForInStep.yield r))=pure cs /\
   (∀x c,cs.lookup x=some c->env.cells.lookup x=some c)/\(∀x,(cs0.lookup x).isSome=true->(cs.lookup x).isSome=true)/\∀y∈names,y.2=.free->(cs.lookup y.1).isSome=true
 | [],cs0,_,h0=>⟨cs0,rfl,h0,fun _ h=>h,fun _ h=>nomatch h⟩
 | (n,k)::r,cs0,has,h0=>by
  have hr:∀y∈r,y.2=.free->∃c,env.cells.lookup y.1=some c:=fun y hy=>has y (List.mem_cons_of_mem _ hy)
  by_cases hk:k=.free
  ·subst hk
   obtain ⟨c,hc⟩:=has (n,.free) List.mem_cons_self rfl
   obtain ⟨cs,e,p1,p2,p3⟩:=gM r ((n,c)::cs0) hr (fun x d hd=>by
    rw [List.lookup_cons] at hd
    cases hx:x == n with
    | true =>
     rw [hx] at hd
     have:x=n:=by simpa using hx
     subst this
     cases hd
     exact hc
    | false=>rw [hx] at hd; exact h0 x d hd)
   have hself:(((n,c)::cs0).lookup n).isSome=true:=by rw [List.lookup_cons,beq_self_eq_true]; rfl
   have hmono:∀x,(cs0.lookup x).isSome=true->(((n,c)::cs0).lookup x).isSome=true:=fun x hx=>by
    rw [List.lookup_cons]
    cases x == n with
    | true=>rfl
    | false=>exact hx
   refine ⟨cs,?_,p1,fun x hx=>p2 x (hmono x hx),fun y hy hf=>?_⟩
   ·rw [List.forIn_cons]
    have hcell:cellOf env n=pure c:=by unfold cellOf; rw [hc]
    simp only [beq_self_eq_true,if_true,hcell]
    exact e
   ·rcases List.mem_cons.mp hy with rfl | hy
    ·exact p2 _ hself
    ·exact p3 y hy hf
  ·obtain ⟨cs,e,p1,p2,p3⟩:=gM r cs0 hr h0
   refine ⟨cs,?_,p1,p2,fun y hy hf=>?_⟩
   ·rw [List.forIn_cons]
    have hb:(k == NameKind.free)=false:=by simpa using hk
    simp only [hb,Bool.false_eq_true,if_false]
    exact e
   ·rcases List.mem_cons.mp hy with rfl | hy
    ·exact absurd hf hk
    ·exact p3 y hy hf
theorem jQ {env:Env}{scope:Scope}(has:∀y∈scope.names,y.2=.free->∃c,env.cells.lookup y.1=some c) :
  ∃cs:List (Str×Addr),closureFor scope env=pure cs/\(∀x c,cs.lookup x=some c->env.cells.lookup x=some c)/\∀y∈scope.names,y.2=.free->(cs.lookup y.1).isSome=true:=by
 obtain ⟨cs,e,p1,_,p3⟩:=gM (env:=env) scope.names [] has (fun _ _ h=>nomatch h)
 refine ⟨cs,?_,p1,p3⟩
 unfold closureFor
 first
  | exact e
  | (simp only [bind_pure]; exact e)
  | (rw [show (forIn scope.names [] _:Sem (List (Str×Addr)))=pure cs from e]; rfl)
end L2
end

section
set_option Elab.async false
set_option linter.all false
set_option maxRecDepth 100000
namespace L2
open PySem PySem.Spec PyProof.Rows
def bH (X:Cx) (N:List Str) (scope:Scope) (C:Addr) (cl:List (Str×Addr)) (s₀:Shared) (H₀:Hp) (ex:List Addr) (pn:List (Addr×Obj)):Cx where
 prog:=X.prog
 w:=X.w
 K:=X.K
 mg:=X.mg
 base:=X.base
 A:=X.A
 N:=N
 s₀:=s₀
 H₀:=H₀
 env:=compEnvC scope cl C X.env
 outer:=X.stack
 stack:=X.stack
 ex:=ex
 fn:=fun _=>false
 calm:=X.calm
 pn:=pn
 xe:=XF
def gL (sc scope:Scope) (k:Nat) (N XN:List Str) (fi:List Nat):Bool :=
 decide (scope.kind=.function) &&
 (scope.names.all fun y=>decide (y.2≠.cell) && (decide (y.2≠.local) || decide (scope.names.lookup y.1=some .local)) && (decide (y.2≠.free) || decide (sc.names.lookup y.1=some .cell) || decide (sc.names.lookup y.1=some .free))) &&
 decide (N.length=k+fi.length) &&
 ((List.range fi.length).all fun j=>match fi[j]? with
  | some i=>match N[k+j]?,XN[i]? with
   | some x,some y=>decide (x=y) && decide (scope.names.lookup x=some .free)
   | _,_=>false
  | none=>false)
structure CompSc (sc scope:Scope) (k:Nat) (N XN:List Str) (fi:List Nat):Prop where
 kind:scope.kind=.function
 cell:∀y∈scope.names,y.2≠.cell
 nm:∀y∈scope.names,y.2=.local->scope.names.lookup y.1=some .local
 fr:∀y∈scope.names,y.2=.free->sc.names.lookup y.1=some .cell∨sc.names.lookup y.1=some .free
 len:N.length=k+fi.length
 sl:∀j i,fi[j]?=some i->∃x,N[k+j]?=some x/\XN[i]?=some x/\scope.names.lookup x=some .free
theorem CompSc.of {sc scope:Scope}{k:Nat}{N XN:List Str}{fi:List Nat}(h:gL sc scope k N XN fi=true):CompSc sc scope k N XN fi:=by
 unfold gL at h
 simp only [Bool.and_eq_true,List.all_eq_true,Bool.or_eq_true,decide_eq_true_eq] at h
 obtain ⟨⟨⟨h1,h2⟩,h3⟩,h4⟩:=h
 refine ⟨h1,fun y hy=>(h2 y hy).1.1,fun y hy e=>((h2 y hy).1.2).resolve_left fun z=>z e,fun y hy e=>?_,h3,fun j i e=>?_⟩
 ·rcases (h2 y hy).2 with (z | z) | z
  ·exact absurd e z
  ·exact .inl z
  ·exact .inr z
 ·have hj:j<fi.length:=(List.getElem?_eq_some_iff.mp e).1
  have q:=h4 j (List.mem_range.mpr hj)
  rw [e] at q
  dsimp only at q
  cases a:N[k+j]? with
  | none=>rw [a] at q; cases q
  | some x =>
   cases b:XN[i]? with
   | none=>rw [a,b] at q; cases q
   | some y =>
    rw [a,b] at q
    simp only [Bool.and_eq_true,decide_eq_true_eq] at q
    exact ⟨x,rfl,by rw [q.1],q.2⟩
theorem cA {env:Env}:∀{names:List (Str×NameKind)}{x:Str},names.lookup x=some .free ->
  (names.map fun (n,k)=>if (k == NameKind.free && env.scope.kind == .function && env.kindOf n == some .cell) then (n,NameKind.cell) else (n,k)).lookup x=some .cell ∨
  (names.map fun (n,k)=>if (k == NameKind.free && env.scope.kind == .function && env.kindOf n == some .cell) then (n,NameKind.cell) else (n,k)).lookup x=some .free
 | [],_,h=>by simp at h
 | (n,k)::r,x,h=>by
  have ih:=@cA env r x
  simp only [List.map_cons]
  cases hx:x == n with
  | true =>
   simp only [List.lookup_cons,hx] at h
   cases h
   by_cases hc:(NameKind.free == NameKind.free && env.scope.kind == .function && env.kindOf n == some .cell)=true
   ·left; rw [if_pos hc]; simp [List.lookup_cons,hx]
   ·right; rw [if_neg hc]; simp [List.lookup_cons,hx]
  | false =>
   simp only [List.lookup_cons,hx] at h
   by_cases hc:(k == NameKind.free && env.scope.kind == .function && env.kindOf n == some .cell)=true
   ·rw [if_pos hc]; simp only [List.lookup_cons,hx]; exact ih h
   ·rw [if_neg hc]; simp only [List.lookup_cons,hx]; exact ih h
def cc (k:Nat) (fi:List Nat) (σ:St):St:=List.replicate k none++fi.map fun i=>(σ[i]?).join
theorem pT (k:Nat) (fi:List Nat) (σ:St):(cc k fi σ).length=k+fi.length:=by simp [cc]
theorem jP {k:Nat}{fi:List Nat}{σ:St}{i:Nat}{v:V}(h:(cc k fi σ)[i]?=some (some v)):∃j t,i=k+j/\fi[j]?=some t/\σ[t]?=some (some v):=by
 unfold cc at h
 by_cases hi:i<k
 ·rw [List.getElem?_append_left (by simpa using hi),List.getElem?_replicate_of_lt hi] at h
  cases h
 ·rw [List.getElem?_append_right (by simp; omega),List.length_replicate,List.getElem?_map] at h
  refine ⟨i-k,?_⟩
  cases e:fi[i-k]? with
  | none=>rw [e] at h; cases h
  | some t =>
   rw [e] at h
   simp only [Option.map_some] at h
   refine ⟨t,by omega,rfl,?_⟩
   have h':=Option.some.inj h
   cases e2:σ[t]? with
   | none=>rw [e2] at h'; cases h'
   | some o=>rw [e2] at h'; simp only [Option.join] at h'; first | (rw [h']) | (subst h'; rfl) | (simpa using h')
def vM (k:Nat) (g:TG):Prop:=∀x σ H Q,g x σ H Q->g x σ H fun σ2 H2=>Q σ2 H2/\σ2.length=σ.length/\∀i,k<=i->σ2[i]?=σ[i]?
theorem aG {k i:Nat}(h:i<k):vM k (ak i):=fun x σ H Q q=>⟨q,by simp,fun j hj=>by rw [List.getElem?_set_ne (by omega)]⟩
def PIf (X:Cx) (ifs:List Expr) (t:TT):Prop :=
 ∀(pins:List (Addr×Obj)) (s:Shared) (σ:St) (H:Hp) (Q:Bool->Hp->Prop),Inv X pins σ H s->t σ H Q->wpAny (model X.prog X.w) X.A (rF ifs X.env) (TP X pins σ Q) X.xe s
def mF:TT:=fun _ H Q=>Q true H
theorem bC {X:Cx}:PIf X [] mF:=fun pins s σ H Q I h=>wpAny_pure ⟨H,I,h⟩
theorem dU {X:Cx}{c:Expr}{t:TT}(h:PT X c t):PIf X [c] t:=by
 intro pins s σ H Q I hw
 unfold rF
 rw [List.forIn_cons]
 simp only [if_true]
 refine wpAny_bind (wpAny_bind (thn (h pins s σ H Q I hw) fun b s1 q=>wpAny_pure ?_))
 exact wpAny_pure q
def cu (k:Nat) (fi:List Nat) (wi:TI) (g:TG) (tc:TT) (te:TE):TE:=fun σ H Q=>wi σ H fun J H1=>∀l,H1 l=none->∃W:Nat->Nat->List V->Hp->Prop,(∃m,W 0 m [] (upd H1 l (.lst [])))/\∀i m vs H2,W i m vs H2->H2 l=some (.lst vs) /\
 ((J.stop i H2/\Q (.ref l) H2)∨(J.go i H2/\∀x H3,J.yld i H2 x H3->g x (cc k fi σ) H3 fun σ2 H4=>tc σ2 H4 fun b H5 =>
  if b=true then te σ2 H5 fun v H6=>H6 l=some (.lst vs)/\vs.length<sizeLine/\∃m',m'<m/\W (i+1) m' (vs++[v]) (upd H6 l (.lst (vs++[v]))) else ∃m',m'<m/\W (i+1) m' vs H5))
end L2
end

section
set_option Elab.async false
set_option linter.all false
set_option maxRecDepth 100000
namespace L2
open PySem PySem.Spec PyProof.Rows
section
variable {X:Cx}{pins:List (Addr×Obj)}{σ:St}
theorem vA {k:Nat}{N:List Str}{scope:Scope}{fi:List Nat}{H:Hp}{s:Shared}{cl:List (Str×Addr)}{fp:List Addr}(S:CompSc X.env.scope scope k N X.N fi) (I:Inv X pins σ H s)
  (hcl:∀x c,cl.lookup x=some c->X.env.cells.lookup x=some c) (hcf:∀y∈scope.names,y.2=.free->(cl.lookup y.1).isSome=true) (hf:∀b∈fp,nM X pins H b) (hlt:∀b∈fp,b<s.heap.objs.size) :
  (bH X N scope s.heap.objs.size cl s H fp (X.pn++pins)).Ok where
 mod:=I.ok.mod
 kind:=S.kind
 glob:=I.ok.glob
 blt:=I.ok.blt
 above:=Nat.le_refl _
 inj:=fun x y c e1 e2=>I.ok.inj x y c (hcl x c e1) (hcl y c e2)
 has:=fun x h=>by
  have key:∃y∈scope.names,y.1=x/\y.2=.free:=by
   have h':(relabel scope X.env).names.lookup x=some .cell∨(relabel scope X.env).names.lookup x=some .free:=h
   have mem:∀(l:List (Str×NameKind)) (kd:NameKind),l.lookup x=some kd->(x,kd)∈l:=by
    intro l
    induction l with
    | nil=>intro kd e; cases e
    | cons a r ih =>
     intro kd e
     obtain ⟨n,k'⟩:=a
     rw [List.lookup_cons] at e
     cases hx:x == n with
     | true =>
      rw [hx] at e
      have:x=n:=by simpa using hx
      subst this
      cases e
      exact List.mem_cons_self
     | false=>rw [hx] at e; exact List.mem_cons_of_mem _ (ih kd e)
   have back:∀kd,(x,kd)∈(relabel scope X.env).names->kd=.cell∨kd=.free->∃y∈scope.names,y.1=x/\y.2=.free:=by
    intro kd hm hk
    obtain ⟨⟨n,k'⟩,hy,e⟩:=List.mem_map.mp hm
    dsimp only at e
    by_cases hc:(k' == NameKind.free && X.env.scope.kind == .function && X.env.kindOf n == some .cell)=true
    ·have hk':k'=.free:=by
      simp only [Bool.and_eq_true] at hc
      simpa using hc.1.1
     rw [if_pos hc] at e
     cases e
     exact ⟨_,hy,rfl,hk'⟩
    ·rw [if_neg hc] at e
     cases e
     rcases hk with rfl | rfl
     ·exact absurd rfl (S.cell _ hy)
     ·exact ⟨_,hy,rfl,rfl⟩
   rcases h' with h' | h'
   ·exact back _ (mem _ _ h') (.inl rfl)
   ·exact back _ (mem _ _ h') (.inr rfl)
  obtain ⟨y,hy,rfl,hk⟩:=key
  exact Option.isSome_iff_exists.mp (hcf y hy hk)
 cab:=fun x c h=>by cases h
 hd:=I.ok.hd
 frames:=I.ok.frames
 stk:=.inl rfl
 exf:=fun b hb=>⟨Nat.ne_of_lt (hlt b hb),fun x c e=>(hf b hb).2.2.2.2.1 x c (hcl x c e)⟩
 bs:=I.bs
 bsz:=Nat.le_trans I.ok.bsz I.sz
 noex:=fun b o e hb=>by
  rcases (hf b hb).2.2.2.1 with z | z
  ·exact I.ok.noex b o e z
  ·exact absurd (Nat.lt_of_lt_of_le (Heap.lt_size (I.ok.bs b o e).1) z) (Nat.lt_irrefl _)
 exfs:=fun b hb z=>by
  obtain ⟨_,f1,f2,_⟩:=hf b hb
  rcases List.mem_cons.mp (I.stkSub b z) with q | q
  ·exact f1 q
  ·exact f2 q
 funs:=I.stack
 frf:=I.stkFree
theorem ue {k:Nat}{N:List Str}{scope:Scope}{fi:List Nat}{H:Hp}{s:Shared}{cl:List (Str×Addr)}{fp:List Addr}{h₁:Heap}{t':Nat}{m:Str->Option Value}(S:CompSc X.env.scope scope k N X.N fi) (I:Inv X pins σ H s)
  (hcl:∀x c,cl.lookup x=some c->X.env.cells.lookup x=some c) (hcf:∀y∈scope.names,y.2=.free->(cl.lookup y.1).isSome=true) (hf:∀b∈fp,nM X pins H b) (hlt:∀b∈fp,b<s.heap.objs.size)
  (hn:h₁.Ns s.heap.objs.size m) (old:∀b o,s.heap.get? b=some o->h₁.get? b=some o) :
  Inv (bH X N scope s.heap.objs.size cl s H fp (X.pn++pins)) [] (cc k fi σ) H { s with heap:=h₁,toks:=t' }:=by
 have memOf:∀(l:List (Str×NameKind)) (x:Str) (kd:NameKind),l.lookup x=some kd->(x,kd)∈l:=by
  intro l
  induction l with
  | nil=>intro x kd e; cases e
  | cons a r ih =>
   intro x kd e
   obtain ⟨n,k'⟩:=a
   rw [List.lookup_cons] at e
   cases hx:x == n with
   | true =>
    rw [hx] at e
    have:x=n:=by simpa using hx
    subst this
    cases e
    exact List.mem_cons_self
   | false=>rw [hx] at e; exact List.mem_cons_of_mem _ (ih x kd e)
 refine ⟨vA S I hcl hcf hf hlt,rfl,I.bare,Un.kept old,⟨m,hn,fun i x v e1 e2 e3=>?_⟩,fun x c e=>?_,I.hok.fresh (Nat.le_refl _),fun x c e=>I.freeC x c (hcl x c e),fun p hp=>?_,I.hok.kept old,?_⟩
 ·obtain ⟨j,t,rfl,ht,hv⟩:=jP e2
  obtain ⟨y,hy,hXN,hfr⟩:=S.sl j t ht
  have e1':N[k+j]?=some x:=e1
  rw [hy] at e1'
  cases e1'
  have hmem:=memOf _ _ _ hfr
  obtain ⟨c,hc⟩:=Option.isSome_iff_exists.mp (hcf _ hmem rfl)
  have hX:=hcl _ _ hc
  obtain ⟨mX,hnX,hlX⟩:=I.loc
  have kX:=S.fr _ hmem rfl
  obtain ⟨u,ru,lk⟩:=hlX t x v hXN hv (by rcases kX with z | z; exact .inr (.inl z); exact .inr (.inr z))
  refine ⟨u,ru,.inr ⟨?_,c,hc,?_⟩⟩
  ·exact cA hfr
  ·rcases lk with ⟨z,_⟩ | ⟨_,c',e',q⟩
   ·have z':X.env.scope.names.lookup x=some .local:=z
    rcases kX with kX | kX <;> rw [z'] at kX <;> cases kX
   ·rw [hX] at e'
    cases e'
    obtain ⟨o,ho,hd⟩:=q
    exact ⟨o,old _ o ho,hd⟩
 ·obtain ⟨v,o,ho,hd⟩:=I.cell x c (hcl x c e)
  exact ⟨v,o,old _ o ho,hd⟩
 ·rw [List.append_nil] at hp
  obtain ⟨e,n,ne,nf,d⟩:=I.pin p hp
  refine ⟨old _ _ e,n,Nat.ne_of_lt (Heap.lt_size e),fun z=>?_,d⟩
  rcases List.mem_cons.mp (I.stkSub _ z) with q | q
  ·exact ne q
  ·exact nf q
 ·rw [pT]
  exact S.len.symm
structure CompEnd (X:Cx) (pins:List (Addr×Obj)) (H:Hp) (C:Addr):Prop where
 free:H C=none
 loc:C≠X.env.locals
 young:X.s₀.heap.objs.size<=C
 cells:∀x c,X.env.cells.lookup x=some c->c≠C
 pin:∀p∈X.pn++pins,p.1≠C
theorem jO {elt iter tg:Expr}{ifs:List Expr}{scope:Scope}{pos:Pos}{k:Nat}{N:List Str}{fi:List Nat}{cl:List (Str×Addr)}{g:TG}{tc:TT}{te:TE}{it:Addr}{fp:List Addr}{tn:Nat->Heap->Prop}{J:It}{H2:Hp}{s2:Shared}{Q:VK}
  {E:Value->Shared->Prop}{RR:Value->Addr->Result->Shared->Prop}
  (S:CompSc X.env.scope scope k N X.N fi) (hc:X.calm=true) (hcl:∀x c,cl.lookup x=some c->X.env.cells.lookup x=some c) (hcf:∀y∈scope.names,y.2=.free->(cl.lookup y.1).isSome=true)
  (hg:∀C cl s₀ H₀ ex pn,PG (bH X N scope C cl s₀ H₀ ex pn) tg g) (ho:vM k g) (ht:∀C cl s₀ H₀ ex pn,PIf (bH X N scope C cl s₀ H₀ ex pn) ifs tc) (he:∀C cl s₀ H₀ ex pn,PE (bH X N scope C cl s₀ H₀ ex pn) elt te)
  (I2:Inv X pins σ H2 s2) (T:p8 X.prog X.w X.K tg J fp it tn) (st2:tn 0 s2.heap) (f2:∀b∈fp,nM X pins H2 b)
  (hw:∀l,H2 l=none->∃W:Nat->Nat->List V->Hp->Prop,(∃m,W 0 m [] (upd H2 l (.lst [])))/\∀i m vs H2,W i m vs H2->H2 l=some (.lst vs) /\
   ((J.stop i H2/\Q (.ref l) H2)∨(J.go i H2/\∀x H3,J.yld i H2 x H3->g x (cc k fi σ) H3 fun σ2 H4=>tc σ2 H4 fun b H5 =>
    if b=true then te σ2 H5 fun v H6=>H6 l=some (.lst vs)/\vs.length<sizeLine/\∃m',m'<m/\W (i+1) m' (vs++[v]) (upd H6 l (.lst (vs++[v]))) else ∃m',m'<m/\W (i+1) m' vs H5)))
  (hR:∀D C H' s' m',Inv X pins σ H' s'->s'.heap.Ns C m'->CompEnd X pins H' C->Q (.ref D) H'->RR (.ref D) C (.ok .next) s') :
  wpAny (model X.prog X.w) X.A (newList []) (fun acc s₃=>wpAny (model X.prog X.w) X.A (newFunctionEnv scope X.env.globals cl [] X.env.qual none .none (some X.env)) (fun cenv s₄ =>
   codeAny (model X.prog X.w) X.A (.compStart (.ListComp elt [⟨tg,iter,ifs,0⟩] scope pos) 0 (.ref it) acc { cenv with scope:=relabel scope X.env }) (RR acc cenv.locals) s₄) E s₃) E s2:=by
 have hfresh:H2 s2.heap.objs.size=none:=I2.fresh
 obtain ⟨W,⟨m0,w0⟩,turn⟩:=hw _ hfresh
 refine wpAny_newObj_type (wpAny_newFunctionEnv S.cell (by intro y hy; simp at hy) (fun h₁ hns₁ hsb₁=>?_) S.kind)
 dsimp only at hns₁ hsb₁ ⊢
 have I3:Inv X pins σ (upd H2 s2.heap.objs.size (.lst [])) { s2 with heap:=s2.heap.push { cls:=.type "list",data:=.seq ([]:List Value).toArray },toks:=s2.toks }:=I2.lnew (ys:=[]) .nil (Nat.zero_le _)
 generalize hs3:({ s2 with heap:=s2.heap.push { cls:=.type "list",data:=.seq ([]:List Value).toArray },toks:=s2.toks }:Shared)=s3 at I3
 have hh3:s3.heap=s2.heap.push { cls:=.type "list",data:=.seq ([]:List Value).toArray }:=by rw [<-hs3]
 have hsz:s3.heap.objs.size=s2.heap.objs.size+1:=by rw [hh3,Heap.size_push]
 have hlt:∀b∈fp,b<s2.heap.objs.size:=fun b hb=>by
  obtain ⟨o,e,_⟩:=T.obj 0 _ st2 b hb
  exact Heap.lt_size e
 have f3:∀b∈fp,nM X pins (upd H2 s2.heap.objs.size (.lst [])) b:=fun b hb=>⟨by rw [af (Nat.ne_of_lt (hlt b hb))]; exact (f2 b hb).1,(f2 b hb).2⟩
 have hlt3:∀b∈fp,b<s3.heap.objs.size:=fun b hb=>by rw [hsz]; exact Nat.lt_succ_of_lt (hlt b hb)
 have old:∀b o,s3.heap.get? b=some o->h₁.get? b=some o:=fun b o e=>by
  have hb:b≠s3.heap.objs.size:=Nat.ne_of_lt (Heap.lt_size e)
  rw [hh3] at e hb
  exact hsb₁.extBut b o hb (Heap.get?_push_of_some _ e)
 have hns:h₁.Ns s3.heap.objs.size (fun x=>([]:List (Str×Value)).reverse.lookup x):=by rw [hh3]; exact hns₁
 have I4:Inv (bH X N scope s3.heap.objs.size cl s3 (upd H2 s2.heap.objs.size (.lst [])) fp (X.pn++pins)) [] (cc k fi σ) (upd H2 s2.heap.objs.size (.lst [])) { s3 with heap:=h₁,toks:=s2.toks+([]:List (Str×Value)).length } :=
  ue S I3 hcl hcf f3 hlt3 hns old
 have st4:tn 0 h₁:=T.keep _ _ _ st2 fun b hb o e=>old b o (by rw [hh3]; exact Heap.get?_push_of_some _ e)
 generalize hY:bH X N scope s3.heap.objs.size cl s3 (upd H2 s2.heap.objs.size (.lst [])) fp (X.pn++pins)=Y at I4
 have yp:Y.prog=X.prog:=by rw [<-hY]; rfl
 have yw:Y.w=X.w:=by rw [<-hY]; rfl
 have yK:Y.K=X.K:=by rw [<-hY]; rfl
 have yA:Y.A=X.A:=by rw [<-hY]; rfl
 have yx:Y.xe=XF:=by rw [<-hY]; rfl
 have yc:Y.calm=true:=by rw [<-hY]; exact hc
 have gY:PG Y tg g:=by rw [<-hY]; exact hg _ _ _ _ _ _
 have tY:PIf Y ifs tc:=by rw [<-hY]; exact ht _ _ _ _ _ _
 have eY:PE Y elt te:=by rw [<-hY]; exact he _ _ _ _ _ _
 have yenv:Y.env=compEnvC scope cl s3.heap.objs.size X.env:=by rw [<-hY]; rfl
 have fY:∀{H':Hp},(∀b∈fp,H' b=none)->∀b∈fp,nM Y [] H' b:=fun hn b hb=>by
  obtain ⟨f0,f1,f2',f3',f4,f5⟩:=f3 b hb
  rw [<-hY]
  refine ⟨hn b hb,Nat.ne_of_lt (hlt3 b hb),fun z=>?_,.inl hb,fun x c e=>f4 x c (hcl x c e),fun p hp=>?_⟩
  ·rcases List.mem_cons.mp (I3.stkSub _ z) with q | q
   ·exact f1 q
   ·exact f2' q
  ·rw [List.append_nil] at hp
   exact f5 p hp
 have loop:∀s4:Shared,s4={ s3 with heap:=h₁,toks:=s2.toks+([]:List (Str×Value)).length } ->
   codeAny (model X.prog X.w) X.A (.compLoop (.ListComp elt [⟨tg,iter,ifs,0⟩] scope pos) 0 (.ref it) (.ref s2.heap.objs.size) Y.env) (RR (.ref s2.heap.objs.size) s3.heap.objs.size) s4:=by
  rintro s4 rfl
  refine l9 (fun n s'=>∃i vs H',Inv Y [] (cc k fi σ) H' s'/\tn i s'.heap/\(∀b∈fp,H' b=none)/\W i n vs H') ?_ m0 ⟨0,[],_,I4,st4,fun b hb=>(f3 b hb).1,w0⟩
  rintro n s5 ⟨i,vs,H5,I5,st5,fr5,w5⟩
  obtain ⟨hl5,hcase⟩:=turn i n vs H5 w5
  rcases hcase with ⟨stop,q⟩ | ⟨go,step⟩
  ·have d:=T.done Y yp yw yK yc i [] s5 _ H5 XF I5 (fY fr5) st5 stop
   rw [yA] at d
   refine thn d fun r s6 ⟨hr,I6⟩=>?_
   subst hr
   have hu:Un (frs X.stack) fp (upd H2 s2.heap.objs.size (.lst [])) H5 s3.heap s6.heap:=by have:=I6.base; rw [<-hY] at this; exact this
   have ho6:s6.os=s3.os:=by have:=I6.os; rw [<-hY] at this; exact this
   have hok6:HOk X.prog X.w X.K H5 s6.heap:=by have:=I6.hok; rw [<-hY] at this; exact this
   have hC6:H5 s3.heap.objs.size=none:=by have:=I6.free; rw [<-hY] at this; exact this
   obtain ⟨m6,hn6,_⟩:=I6.loc
   have hn6':s6.heap.Ns s3.heap.objs.size m6:=by rw [<-hY] at hn6; exact hn6
   have IX:Inv X pins σ H5 s6:=I3.call' ho6 hu hok6 I6.bare fun b hb=>by
    obtain ⟨f0,f1,f2',f3',f4,f5⟩:=f3 b hb
    exact ⟨f3',f1,f4,f5⟩
   refine hR _ _ H5 s6 m6 IX hn6' ⟨hC6,Nat.ne_of_gt I3.lt,I3.sz,fun x c e z=>?_,fun p hp z=>?_⟩ q
   ·obtain ⟨v,o,ho,_⟩:=I3.cell x c e
    exact absurd (Heap.lt_size ho) (by rw [z]; exact Nat.lt_irrefl _)
   ·exact absurd (Heap.lt_size (I3.pin p hp).1) (by rw [z]; exact Nat.lt_irrefl _)
  ·have d:=T.item Y yp yw yK yc i [] s5 _ H5 XF I5 (fY fr5) st5 go
   rw [yA] at d
   refine thn d fun r s6 ⟨u,hr,h6⟩=>?_
   subst hr
   refine thn h6 fun _ s7 ⟨x,H7,I7,r7,y7,st7,fr7⟩=>?_
   have I7':=I7.pinned (fY fr7) (T.obj _ _ st7)
   have a7:=gY _ s7 _ H7 x u _ I7' r7 (ho _ _ _ _ (step x H7 y7))
   rw [yp,yw,yA,yx] at a7
   refine thn a7 fun _ s8 ⟨σ8,H8,I8,q8,l8,k8⟩=>?_
   have a8:=tY _ s8 σ8 H8 _ I8 q8
   rw [yp,yw,yA,yx] at a8
   have again:∀{H9:Hp}{s9:Shared}{vs':List V}{m':Nat},Inv Y ([]++lE fp s7.heap) σ8 H9 s9->m'<n->W (i+1) m' vs' H9->∃m,m<n/\∃i vs H',Inv Y [] (cc k fi σ) H' s9/\tn i s9.heap/\(∀b∈fp,H' b=none)/\W i m vs H':=fun {H9 s9 vs' m'} I9 hm w9=>by
    refine ⟨m',hm,i+1,vs',H9,(I9.unpinned).weak l8.symm (fun j v e=>?_),T.keep _ _ _ st7 fun b hb o e=>(I9.pin (b,o) (List.mem_append_right _ (List.mem_append_right _ (eE hb e)))).1,fun b hb=>?_,w9⟩
    ·obtain ⟨j',t,rfl,_,_⟩:=jP e
     rw [k8 _ (Nat.le_add_right _ _)]
     exact e
    ·obtain ⟨o,e,_⟩:=T.obj _ _ st7 b hb
     exact (I9.pin (b,o) (List.mem_append_right _ (List.mem_append_right _ (eE hb e)))).2.1
   refine thn a8 fun b s9 ⟨H9,I9,q9⟩=>?_
   cases b with
   | false =>
    rw [if_neg Bool.false_ne_true] at q9 ⊢
    obtain ⟨m',hm,w9⟩:=q9
    exact again I9 hm w9
   | true =>
    rw [if_pos rfl] at q9 ⊢
    have a9:=eY _ s9 σ8 H9 _ I9 q9
    rw [yp,yw,yA,yx] at a9
    refine thn a9 fun y s10 ⟨v,H10,I10,r10,hl10,hsz10,m',hm,w10⟩=>?_
    have a10:=br (X:=Y) _ s10 σ8 H10 (.ref s2.heap.objs.size) [v] (.ref s2.heap.objs.size) [y] (fun z H'=>z=.non/\H'=upd H10 s2.heap.objs.size (.lst (vs++[v]))) I10 rfl (.cons r10 .nil) ⟨_,vs,v,rfl,rfl,hl10,hsz10,rfl,rfl⟩
    rw [yp,yw,yA,yx] at a10
    refine thn a10 fun _ s11 ⟨_,H11,I11,_,_,e11⟩=>?_
    subst e11
    exact again I11 hm w10
 have hstart:=codeAny_compStart_list (prog:=X.prog) (w:=X.w) (A:=X.A) (elt:=elt) (target:=tg) (iter:=iter) (ifs:=ifs) (rest:=[]) (scope:=scope) (pos:=pos) (it:=.ref it) (acc:=.ref s2.heap.objs.size) (env:=Y.env) (loop _ rfl) (T.self _ 0 _ _ _ st4 (loop _ rfl))
 rw [yenv] at hstart
 rw [<-hs3] at hstart
 exact hstart
end
end L2
end

section
set_option Elab.async false
set_option linter.all false
set_option maxRecDepth 100000
namespace L2
open PySem PySem.Spec PyProof.Rows
section
variable {X:Cx}
theorem CompEnd.turned {pins:List (Addr×Obj)}{σ:St}{H:Hp}{s:Shared}{C:Addr}{h':Heap}(c:CompEnd X pins H C) (I:Inv X pins σ H s) (hs:Heap.SameBut C s.heap h'):Inv X pins σ H { s with heap:=h' } :=
 I.turned (t':=s.toks) (fun b o hb e=>hs.extBut b o hb e) c.free c.loc (.inr c.young) c.cells c.pin
theorem vg {elt iter tg:Expr}{ifs:List Expr}{scope:Scope}{pos:Pos}{k:Nat}{N:List Str}{fi:List Nat}{wi:TI}{g:TG}{tc:TT}{te:TE}(hS:gL X.env.scope scope k N X.N fi=true) (hc:X.calm=true) (hi:PI X tg iter wi)
  (hg:∀C cl s₀ H₀ ex pn,PG (bH X N scope C cl s₀ H₀ ex pn) tg g) (ho:vM k g) (ht:∀C cl s₀ H₀ ex pn,PIf (bH X N scope C cl s₀ H₀ ex pn) ifs tc) (he:∀C cl s₀ H₀ ex pn,PE (bH X N scope C cl s₀ H₀ ex pn) elt te)
  (hs:∀x,foldedSetIterable iter X.env x=pure x:=by intro _; rfl):PE X (.ListComp elt [⟨tg,iter,ifs,0⟩] scope pos) (cu k fi wi g tc te):=by
 intro pins s σ H Q I h
 have S:=CompSc.of hS
 obtain ⟨cl,hclos,hcl,hcf⟩:=jQ (env:=X.env) (scope:=scope) fun y hy e=>I.ok.has y.1 (S.fr y hy e)
 rw [eval_ListComp]
 refine wpAny_comprehension_free (use:=none) rfl hs hclos S.kind S.nm (thn (hi pins s σ H _ I h) fun v s1 h1=>thn h1 fun itv s2 h2=>?_)
 obtain ⟨it,fp,tn,J,H2,e,I2,T,st2,f2,hw⟩:=h2
 subst e
 refine jO (RR:=fun acc C=>compPost (model X.prog X.w) X.A X.xe none (EP X pins σ Q) acc C) S hc hcl hcf hg ho ht he I2 T st2 f2 hw ?_
 intro D C H' s' m' I' hn ce q
 exact ⟨m',hn,fun h' hs'=>⟨.ref D,H',ce.turned I' hs',rfl,q⟩⟩
theorem pq {elt iter tg:Expr}{ifs:List Expr}{scope:Scope}{pos spos py:Pos}{k:Nat}{N:List Str}{fi:List Nat}{wi:TI}{g:TG}{tc:TT}{te:TE}{j:Nat}{y:Str}(hN:X.N.Nodup) (hj:X.N[j]?=some y) (hy:Loc X.env.scope y) (hS:gL X.env.scope scope k N X.N fi=true) (hc:X.calm=true) (hi:PI X tg iter wi)
  (hg:∀C cl s₀ H₀ ex pn,PG (bH X N scope C cl s₀ H₀ ex pn) tg g) (ho:vM k g) (ht:∀C cl s₀ H₀ ex pn,PIf (bH X N scope C cl s₀ H₀ ex pn) ifs tc) (he:∀C cl s₀ H₀ ex pn,PE (bH X N scope C cl s₀ H₀ ex pn) elt te)
  (hsw:swapsWith (.ListComp elt [⟨tg,iter,ifs,0⟩] scope pos) (some (.Name y py)) spos.line X.env=pure true:=by rfl)
  (hs:∀x,foldedSetIterable iter X.env x=pure x:=by intro _; rfl) (hf:X.fn y=true∨X.env.scope.names.lookup y=some .local:=by first | exact .inl rfl | exact .inr rfl | assumption) :
  PS X (.Assign [.Name y py] (.ListComp elt [⟨tg,iter,ifs,0⟩] scope pos) spos) (bc (cu k fi wi g tc te) (ak j)):=by
 intro pins s σ H D I h
 have S:=CompSc.of hS
 obtain ⟨cl,hclos,hcl,hcf⟩:=jQ (env:=X.env) (scope:=scope) fun y hy e=>I.ok.has y.1 (S.fr y hy e)
 rw [exec_Assign_Name_used _ _ _ _ hsw]
 refine wpAny_bind (wpAny_standAt (wpAny_bind ?_))
 show wpAny _ X.A (do let _ <- comprehension (.ListComp elt [⟨tg,iter,ifs,0⟩] scope pos) scope X.env _ (newList []) false (eval iter X.env) (some (assign (.Name y py) X.env))) _ _ s
 refine wpAny_bind (wpAny_mono (wpAny_comprehension_free (use:=some (assign (.Name y py) X.env)) (Q:=fun _ s'=>SP X pins D .next s') rfl hs hclos S.kind S.nm
  (thn (hi pins s σ H _ I h) fun v s1 h1=>thn h1 fun itv s2 h2=>?_)) (fun _ s' hq=>wpAny_pure (wpAny_pure hq)) fun _ _ e=>e)
 obtain ⟨it,fp,tn,J,H2,e,I2,T,st2,f2,hw⟩:=h2
 subst e
 refine jO (RR:=fun acc C=>compPost (model X.prog X.w) X.A X.xe (some (assign (.Name y py) X.env)) (fun _ s'=>SP X pins D .next s') acc C) (Q:=fun x H1=>ak j x σ H1 D.nx) S hc hcl hcf hg ho ht he I2 T st2 f2 hw ?_
 intro A C H' s' m' I' hn ce q
 show wpAny _ X.A (assign (.Name y py) X.env (.ref A)) _ _ _
 refine wpAny_assign_Name (lg I' hN hj hy (v:=.ref A) rfl (fun s'' I'' hsb=>?_) hf)
 obtain ⟨a,hsa,ha⟩:=hsb
 have hCa:C≠a:=by
  rcases ha with z | z
  ·rw [z]; exact ce.loc
  ·exact Ne.symm (ce.cells y a z)
 refine ⟨m',hn.sameBut hsa hCa,fun h' hs'=>?_⟩
 exact ⟨_,H',ce.turned I'' hs',q⟩
end
end L2
end

section
set_option Elab.async false
set_option linter.all false
set_option maxRecDepth 100000
namespace L2
open PySem PySem.Spec PyProof.Rows
theorem Inv.turnedNew {X:Cx}{pins:List (Addr×Obj)}{σ:St}{H:Hp}{s:Shared}{h2:Heap}{t':Nat}{ch:List Addr}{o:HO}(I:Inv X pins σ H s) (hf:∀b∈ch,nM X pins H b)
  (k:∀b q,b∉ch->s.heap.get? b=some q->h2.get? b=some q) (hq:∃q,h2.get? s.heap.objs.size=some q) (hno:∀y,o≠.own y) (new:ObjOk X.prog X.w X.K (upd H s.heap.objs.size o) h2 s.heap.objs.size o) :
  Inv X pins σ (upd H s.heap.objs.size o) { s with heap:=h2,toks:=t' }:=by
 have hn0:H s.heap.objs.size=none:=I.fresh
 have nsz:∀b q,s.heap.get? b=some q->b≠s.heap.objs.size:=fun b q e=>Nat.ne_of_lt (Heap.lt_size e)
 have tr:∀b u,H b=some u->b∉ch:=fun b u e z=>by rw [(hf b z).1] at e; cases e
 refine I.step (g':=s.gens) (d':=s.drawn) (ch:=ch) (fun b hb=>?_) (fun b q _ _ hc e _=>k b q hc e) (fun b q _ _ hc e _=>⟨q.slots,k b q hc e⟩) (fun b q _ e n=>by rw [af (nsz b q e)]; exact n) (fun b q hc e=>⟨q,k b q hc e⟩)
  (fun b xs e=>by rw [af (ad e hn0)]; exact e) (fun b q u e=>by rw [af (ad e hn0)]; exact e) (fun b ps e=>⟨#[],by rw [af (ad e hn0),e]; simp⟩) (fun m hm=>?_) (fun b u e=>?_) I.bare
 ·obtain ⟨f0,f1,f2,f3,f4,f5⟩:=hf b hb
  exact ⟨f3,f1,f4,f5⟩
 ·obtain ⟨q,es,ep,ho,r⟩:=hm
  exact ⟨q,es,ep,k _ q (fun z=>(hf _ z).2.1 rfl) ho,r⟩
 ·by_cases hb:b=s.heap.objs.size
  ·subst hb; rw [aa] at e; cases e; exact new
  ·rw [af hb] at e
   refine (I.hok b u e).stay (fun c v hc q=>k c v ?_ q) (fun c q=>by rw [af (ad q hn0)]; exact q) fun c xs q=>by rw [af (ad q hn0)]; exact q
   rcases hc with z | z
   ·subst z; exact tr _ _ e
   ·exact tr _ _ z
def Ite (K:PySem.W.Frag) (a:Addr):It :=
 ⟨fun i H=>∃xs x,SqL K H a xs/\xs[i]?=some x,fun i H x H'=>∃p v,x=.ref p/\H p=none/\(∀xs,SqL K H a xs->xs[i]?=some v)/\H'=upd H p (.tup [.int i,v]),fun i H=>∃xs,SqL K H a xs/\xs.length<=i⟩
theorem qh {P:Program}{w:World}{K:PySem.W.Frag}{es:List Expr}{kx:Nat}{tpos:Pos}(a e it:Addr) (hne:e≠it) :
  p8 P w K (.Tuple es kx tpos) (Ite K a) [e,it] e (fun i h=>(∃old,IsEnum h e it i old)/\h.IsListIter it a i) where
 mem:=by simp
 obj:=fun i h st b hb=>by
  obtain ⟨⟨old,he⟩,o,ho,hc,hd⟩:=st
  rcases List.mem_cons.mp hb with z | z
  ·subst z; exact ⟨_,he,fun v z=>by cases z⟩
  ·have z':b=it:=by simpa using z
   subst z'
   exact ⟨o,ho,fun v z=>by rw [hd] at z; cases z⟩
 keep:=fun i h h' st k=>⟨let ⟨old,he⟩:=st.1; ⟨old,k e (by simp) _ he⟩,st.2.at fun o e=>k it (by simp) o e⟩
 item:=by
  intro X hP hw hK hc i pins s σ H E I hf st hg
  subst hP hw hK
  obtain ⟨⟨old,he⟩,hit⟩:=st
  obtain ⟨xs,x,hq,hx⟩:=hg
  obtain ⟨its,rv,p,hz⟩:=I.list hq
  obtain ⟨u,hu,ru⟩:=rv.get hx
  obtain ⟨e0,e1,e2,e3,e4,e5⟩:=hf e (by simp)
  obtain ⟨f0,f1,f2,f3,f4,f5⟩:=hf it (by simp)
  refine wpAny_pyNext_enum_item he hit p.isList (x:=u) (by simpa using hu) hne fun h' ho' hit' ht' hsz' hk'=>?_
  refine ⟨_,rfl,wpAny_letOwnedTupleGo_enum (s:={ s with heap:=h',toks:=s.toks+1 }) ho' fun h2 he2 hs2=>?_⟩
  have hs2':Heap.SameBut e h' h2:=hs2
  have hpe:s.heap.objs.size≠e:=Nat.ne_of_gt (Heap.lt_size he)
  have ht2:h2.get? s.heap.objs.size=some { cls:=.type "tuple",data:=.seq #[.int i s.toks,u] }:=hs2'.extBut _ _ hpe ht'
  have hn0:H s.heap.objs.size=none:=I.fresh
  have hue:upd H s.heap.objs.size (.tup [.int i,x]) e=none:=by rw [af (Ne.symm hpe)]; exact e0
  have hpi:s.heap.objs.size≠it:=by
   obtain ⟨o,ho,_⟩:=hit
   exact Nat.ne_of_gt (Heap.lt_size ho)
  have hui:upd H s.heap.objs.size (.tup [.int i,x]) it=none:=by rw [af (Ne.symm hpi)]; exact f0
  have I2:Inv X pins σ (upd H s.heap.objs.size (.tup [.int i,x])) { s with heap:=h2,toks:=s.toks+1 }:=by
   refine I.turnedNew (ch:=[e,it]) hf (fun b o hb q=>?_) ⟨_,ht2⟩ (fun _ z=>nomatch z) ⟨by show 2<=sizeLine; decide,[.int i s.toks,u],.cons ⟨_,rfl⟩ (.cons ru .nil),⟨_,ht2,rfl,_,rfl⟩⟩
   have nb1:b≠e:=fun z=>hb (by simp [z])
   have nb2:b≠it:=fun z=>hb (by simp [z])
   exact hs2'.extBut _ _ nb1 (hk' b o nb1 nb2 q)
  refine ⟨.ref s.heap.objs.size,_,I2,rfl,⟨_,x,rfl,hn0,fun ys hy=>by rw [I.list_inj hy hq]; exact hx,rfl⟩,⟨⟨u,by simpa using he2⟩,hit'.at fun o y=>(hs2'.2 it (Ne.symm hne)).trans y⟩,fun b hb=>?_⟩
  rcases List.mem_cons.mp hb with z | z
  ·subst z; exact hue
  ·have z':b=it:=by simpa using z
   subst z'; exact hui
 done:=by
  intro X hP hw hK hc i pins s σ H E I hf st hg
  subst hP hw hK
  obtain ⟨⟨old,he⟩,hit⟩:=st
  obtain ⟨xs,hq,hx⟩:=hg
  obtain ⟨its,rv,p,hz⟩:=I.list hq
  obtain ⟨f0,f1,f2,f3,f4,f5⟩:=hf it (by simp)
  have hl:=rv.length
  exact wpAny_pyNext_enum_end (I.ok.hd hc) he hit p.isList (by simp; omega) fun h' eb=>⟨rfl,I.turned (t':=s.toks) (fun b o hb e=>eb b o hb e) f0 f1 f3 f4 f5⟩
 self:=fun _ _ _ _ _ st h=>let ⟨_,he⟩:=st.1; wpAny_pyIter_enum he h
section
variable {X:Cx}{p pos:Pos}{es:List Expr}{kx:Nat}{tpos:Pos}
def pL (K:PySem.W.Frag) (ta:TA):TI:=fun σ H R=>ta σ H fun vs H1=>∃a,vs=[.ref a]/\(∃xs,SqL K H1 a xs)/\R (Ite K a) H1
theorem iM {a:Expr}{ta:TA}(hg:Gl X "enumerate") (hm:X.mg "enumerate"=none) (ha:PA X [a] ta) (hs:starEach [a] X.env=[(false,eval a X.env)]:=by rfl):PI X (.Tuple es kx tpos) (.Call (.Name "enumerate" p) [a] [] pos) (pL X.K ta):=by
 intro pins s σ H R I h
 refine Call_ (g7 I hg hm boot_enumerate (PyProof.Rows.callWith_type1 (thn (ha pos pins s σ H _ I h) fun us s1 ⟨vs,H1,I1,r1,q1⟩=>?_) hs rfl))
 obtain ⟨l,e,⟨xs,hq⟩,q⟩:=q1
 subst e
 obtain ⟨u,rfl,ru⟩:=kO r1
 cases ru
 obtain ⟨its,rv,pl,hz⟩:=I1.list hq
 refine call_enumerate_list pl.isList fun h' he hit hsz hk=>?_
 refine wpAny_pyIter_enum (s:={ s1 with heap:=h' }) he ?_
 have hk':∀b o,s1.heap.get? b=some o->h'.get? b=some o:=hk
 have I2:Inv X pins σ H1 { s1 with heap:=h' }:=I1.kept (t':=s1.toks) hk'
 refine ⟨_,[s1.heap.objs.size+1,s1.heap.objs.size],_,_,H1,rfl,I2,qh l _ _ (Nat.succ_ne_self _),⟨⟨_,he⟩,hit⟩,fun b hb=>?_,q⟩
 have hb':s1.heap.objs.size<=b:=by
  rcases List.mem_cons.mp hb with z | z
  ·rw [z]; exact Nat.le_succ _
  ·have z':b=s1.heap.objs.size:=by simpa using z
   rw [z']; exact Nat.le_refl _
 exact I1.fpOk hb' (I1.hok.fresh hb')
end
end L2
end

section
set_option Elab.async false
set_option linter.all false
set_option maxRecDepth 100000
namespace L2
open PySem PySem.Spec PyProof.Rows
def Its (x:Str):It:=⟨fun i _=>i<x.cps.size,fun i H y H'=>H'=H/\∃c,x.cps[i]?=some c/\y=.str ⟨#[c]⟩,fun i _=>x.cps.size<=i⟩
theorem oU {P:Program}{w:World}{K:PySem.W.Frag}{tg:Expr}(x:Str) (t:Tok) (it:Addr):p8 P w K tg (Its x) [it] it (fun i h=>h.IsStrIter it "str_ascii_iterator" x t i) where
 mem:=by simp
 obj:=fun i h st b hb=>by
  have e:b=it:=by simpa using hb
  subst e
  obtain ⟨o,e,c,d⟩:=st
  exact ⟨o,e,fun v z=>by rw [d] at z; cases z⟩
 keep:=fun i h h' st k=>by
  obtain ⟨o,e,c,d⟩:=st
  exact ⟨o,k it (by simp) o e,c,d⟩
 item:=by
  intro X hP hw hK hc i pins s σ H E I hf st hg
  subst hP hw hK
  have hlt:i<x.cps.size:=hg
  obtain ⟨f0,f1,f2,f3,f4,f5⟩:=hf it (by simp)
  have hx:x.cps[i]?=some x.cps[i]:=by simp [hlt]
  refine wpAny_pyNext_ascii_item st hx fun h' st' sb=>?_
  have I1:Inv X pins σ H { s with heap:=h',toks:=s.toks+1 }:=I.turned (t':=s.toks+1) (fun b o hb e=>(sb.2 b hb).trans e) f0 f1 f3 f4 f5
  obtain ⟨o,e,c,d⟩:=id st'
  exact ⟨_,rfl,pM (s:={ s with heap:=h',toks:=s.toks+1 }) e c d (by decide) ⟨.str ⟨#[x.cps[i]]⟩,H,I1,⟨_,rfl⟩,⟨rfl,_,hx,rfl⟩,st',fun b hb=>(hf b hb).1⟩⟩
 done:=by
  intro X hP hw hK hc i pins s σ H E I hf st hg
  subst hP hw hK
  have hge:x.cps.size<=i:=hg
  obtain ⟨f0,f1,f2,f3,f4,f5⟩:=hf it (by simp)
  exact wpAny_pyNext_ascii_end (I.ok.hd hc) st (by simp; omega) fun h' eb=>⟨rfl,I.turned (t':=s.toks) (fun b o hb e=>eb b o hb e) f0 f1 f3 f4 f5⟩
 self:=fun _ _ _ _ _ st h=>wpAny_pyIter_striter_ascii st h
theorem qg {P:Program}{w:World}{K:PySem.W.Frag}{tg:Expr}(x:Str) (t:Tok) (it:Addr):p8 P w K tg (Its x) [it] it (fun i h=>h.IsStrIter it "str_iterator" x t i) where
 mem:=by simp
 obj:=fun i h st b hb=>by
  have e:b=it:=by simpa using hb
  subst e
  obtain ⟨o,e,c,d⟩:=st
  exact ⟨o,e,fun v z=>by rw [d] at z; cases z⟩
 keep:=fun i h h' st k=>by
  obtain ⟨o,e,c,d⟩:=st
  exact ⟨o,k it (by simp) o e,c,d⟩
 item:=by
  intro X hP hw hK hc i pins s σ H E I hf st hg
  subst hP hw hK
  have hlt:i<x.cps.size:=hg
  obtain ⟨f0,f1,f2,f3,f4,f5⟩:=hf it (by simp)
  have hx:x.cps[i]?=some x.cps[i]:=by simp [hlt]
  refine wpAny_pyNext_wide_item st hx fun h' st' sb=>?_
  have I1:Inv X pins σ H { s with heap:=h',toks:=s.toks+1 }:=I.turned (t':=s.toks+1) (fun b o hb e=>(sb.2 b hb).trans e) f0 f1 f3 f4 f5
  obtain ⟨o,e,c,d⟩:=id st'
  exact ⟨_,rfl,pM (s:={ s with heap:=h',toks:=s.toks+1 }) e c d (by decide) ⟨.str ⟨#[x.cps[i]]⟩,H,I1,⟨_,rfl⟩,⟨rfl,_,hx,rfl⟩,st',fun b hb=>(hf b hb).1⟩⟩
 done:=by
  intro X hP hw hK hc i pins s σ H E I hf st hg
  subst hP hw hK
  have hge:x.cps.size<=i:=hg
  obtain ⟨f0,f1,f2,f3,f4,f5⟩:=hf it (by simp)
  exact wpAny_pyNext_wide_end (I.ok.hd hc) st (by simp; omega) fun h' eb=>⟨rfl,I.turned (t':=s.toks) (fun b o hb e=>eb b o hb e) f0 f1 f3 f4 f5⟩
 self:=fun _ _ _ _ _ st h=>wpAny_pyIter_striter_wide st h
section
variable {X:Cx}{p pos:Pos}{tg:Expr}
def xg (tl:TE):TI:=fun σ H R=>tl σ H fun v H1=>∃x,v=.str x/\R (Its x) H1
theorem v9 {l:Expr}{tl:TE}(hl:PE X l tl):PI X tg l (xg tl):=by
 intro pins s σ H R I h
 refine thn (hl pins s σ H _ I h) fun v s1 ⟨y,H1,I1,r1,q1⟩=>?_
 obtain ⟨x,e,q⟩:=q1
 subst e
 obtain ⟨t,rfl⟩:=r1
 have fin:∀b∈[s1.heap.objs.size],nM X pins H1 b:=fun b hb=>by
  have e:b=s1.heap.objs.size:=by simpa using hb
  subst e
  exact I1.fpOk (Nat.le_refl _) (I1.hok.fresh (Nat.le_refl _))
 cases ha:x.cps.all (·<128)
 ·refine wpAny_pyIter_wide ha ?_
  exact ⟨s1.heap.objs.size,[s1.heap.objs.size],_,_,H1,rfl,I1.kept (t':=s1.toks) fun b o e=>Heap.get?_push_of_some _ e,qg x t _,⟨_,Heap.get?_push_size _ rfl,rfl,rfl⟩,fin,q⟩
 ·refine wpAny_pyIter_ascii ha ?_
  exact ⟨s1.heap.objs.size,[s1.heap.objs.size],_,_,H1,rfl,I1.kept (t':=s1.toks) fun b o e=>Heap.get?_push_of_some _ e,oU x t _,⟨_,Heap.get?_push_size _ rfl,rfl,rfl⟩,fin,q⟩
end
def Itz (K:PySem.W.Frag) (a b:Addr):It :=
  ⟨fun i H=>∃xs ys x y,SqL K H a xs/\SqL K H b ys/\xs[i]?=some x/\ys[i]?=some y,
   fun i H x H'=>∃p u v,x=.ref p/\H p=none/\(∀xs,SqL K H a xs->xs[i]?=some u)/\(∀ys,SqL K H b ys->ys[i]?=some v)/\H'=upd H p (.tup [u,v]),
   fun i H=>∃xs ys,SqL K H a xs/\SqL K H b ys/\(xs.length<=i∨ys.length<=i)⟩
theorem sO {P:Program}{w:World}{K:PySem.W.Frag}{es:List Expr}{kx:Nat}{tpos:Pos}(a b z TI TO i1 i2:Addr) (D:ZipApart z TI TO i1 i2 a b) :
  p8 P w K (.Tuple es kx tpos) (Itz K a b) [z,TI,TO,i1,i2] z (fun i h=>IsZip h z TI TO .none/\IsPair h TI (.ref i1) (.ref i2)/\(∃a b,IsPair h TO a b)/\h.IsListIter i1 a i/\h.IsListIter i2 b i) where
 mem:=by simp
 obj:=fun i h st c hc=>by
  obtain ⟨hz,hTI,⟨u,v,hTO⟩,h1,h2⟩:=st
  simp only [List.mem_cons,List.not_mem_nil,or_false] at hc
  rcases hc with rfl | rfl | rfl | rfl | rfl
  ·exact ⟨_,hz,fun v z=>by cases z⟩
  ·exact ⟨_,hTI,fun v z=>by cases z⟩
  ·exact ⟨_,hTO,fun v z=>by cases z⟩
  ·obtain ⟨o,e,c,d⟩:=h1
   exact ⟨o,e,fun v z=>by rw [d] at z; cases z⟩
  ·obtain ⟨o,e,c,d⟩:=h2
   exact ⟨o,e,fun v z=>by rw [d] at z; cases z⟩
 keep:=fun i h h' st k=>by
  obtain ⟨hz,hTI,⟨u,v,hTO⟩,h1,h2⟩:=st
  exact ⟨k z (by simp) _ hz,k TI (by simp) _ hTI,⟨u,v,k TO (by simp) _ hTO⟩,h1.at fun o e=>k i1 (by simp) o e,h2.at fun o e=>k i2 (by simp) o e⟩
 item:=by
  intro X hP hw hK hc i pins s σ H E I hf st hg
  subst hP hw hK
  obtain ⟨hz,hTI,⟨u0,v0,hTO⟩,h1,h2⟩:=st
  obtain ⟨xs,ys,x,y,hqx,hqy,hx,hy⟩:=hg
  obtain ⟨its,rx,px,zx⟩:=I.list hqx
  obtain ⟨jts,ry,py,zy⟩:=I.list hqy
  obtain ⟨u,hu,ru⟩:=rx.get hx
  obtain ⟨v,hv,rv⟩:=ry.get hy
  refine wpAny_pyNext_zip_item D hz hTI hTO h1 h2 px.isList py.isList (x:=u) (y:=v) (by simpa using hu) (by simpa using hv) fun h' a1 a2 a3 a4 a5 a6 hk=>?_
  refine ⟨_,rfl,wpAny_letOwnedTupleGo_zip (s:={ s with heap:=h' }) a1 fun h2' hz2 hs2=>?_⟩
  have hs2':Heap.SameBut z h' h2':=hs2
  have nsz:s.heap.objs.size≠z:=Nat.ne_of_gt (Heap.lt_size hz)
  have nsTO:s.heap.objs.size≠TO:=Nat.ne_of_gt (Heap.lt_size hTO)
  have nsTI:s.heap.objs.size≠TI:=Nat.ne_of_gt (Heap.lt_size hTI)
  have nsi1:s.heap.objs.size≠i1:=by obtain ⟨o,ho,_⟩:=h1; exact Nat.ne_of_gt (Heap.lt_size ho)
  have nsi2:s.heap.objs.size≠i2:=by obtain ⟨o,ho,_⟩:=h2; exact Nat.ne_of_gt (Heap.lt_size ho)
  have ht2:IsPair h2' s.heap.objs.size u v:=hs2'.extBut _ _ nsz a5
  have I2:Inv X pins σ (upd H s.heap.objs.size (.tup [x,y])) { s with heap:=h2',toks:=s.toks }:=by
   refine I.turnedNew (ch:=[z,TI,TO,i1,i2]) hf (fun c o hc q=>?_) ⟨_,ht2⟩ (fun _ z=>nomatch z) ⟨by show 2<=sizeLine; decide,[u,v],.cons ru (.cons rv .nil),⟨_,ht2,rfl,_,rfl⟩⟩
   have n1:c≠z:=fun q=>hc (by simp [q])
   exact hs2'.extBut _ _ n1 (hk c o n1 (fun q=>hc (by simp [q])) (fun q=>hc (by simp [q])) (fun q=>hc (by simp [q])) q)
  refine ⟨.ref s.heap.objs.size,_,I2,rfl,⟨_,x,y,rfl,I.fresh,fun zs hz=>by rw [I.list_inj hz hqx]; exact hx,fun zs hz=>by rw [I.list_inj hz hqy]; exact hy,rfl⟩,⟨hz2,hs2'.extBut _ _ D.TIz (hk _ _ D.TIz D.TITO D.TIi1 D.TIi2 hTI),⟨_,_,hs2'.extBut _ _ D.TOz a2⟩,a3.at fun o e=>hs2'.extBut _ _ D.i1z e,a4.at fun o e=>hs2'.extBut _ _ D.i2z e⟩,fun c hc=>?_⟩
  have hcn:=(hf c hc).1
  simp only [List.mem_cons,List.not_mem_nil,or_false] at hc
  have ne:c≠s.heap.objs.size:=by
   rcases hc with rfl | rfl | rfl | rfl | rfl
   ·exact nsz.symm
   ·exact nsTI.symm
   ·exact nsTO.symm
   ·exact nsi1.symm
   ·exact nsi2.symm
  rw [af ne]; exact hcn
 done:=by
  intro X hP hw hK hc i pins s σ H E I hf st hg
  subst hP hw hK
  obtain ⟨hz,hTI,⟨u0,v0,hTO⟩,h1,h2⟩:=st
  obtain ⟨xs,ys,hqx,hqy,hend⟩:=hg
  obtain ⟨its,rx,px,zx⟩:=I.list hqx
  obtain ⟨jts,ry,py,zy⟩:=I.list hqy
  have lx:=rx.length
  have ly:=ry.length
  refine wpAny_pyNext_zip_end (I.ok.hd hc) D hz hTI hTO h1 h2 px.isList py.isList (by rcases hend with q | q; exact .inl (by simp; omega); exact .inr (by simp; omega)) fun h' hk=>⟨rfl,?_⟩
  have tr:∀c q,H c=some q->c∉[z,TI,TO,i1,i2]:=fun c q e m=>by rw [(hf c m).1] at e; cases e
  have kk:∀c o,c∉[z,TI,TO,i1,i2]->s.heap.get? c=some o->h'.get? c=some o:=fun c o hc q=>hk c o (fun q=>hc (by simp [q])) (fun q=>hc (by simp [q])) (fun q=>hc (by simp [q])) (fun q=>hc (by simp [q])) q
  refine I.step (g':=s.gens) (d':=s.drawn) (t':=s.toks) (ch:=[z,TI,TO,i1,i2]) (fun c hc=>?_) (fun c o _ _ hc e _=>kk c o hc e) (fun c o _ _ hc e _=>⟨o.slots,kk c o hc e⟩) (fun _ _ _ _ n=>n) (fun c o hc e=>⟨o,kk c o hc e⟩) (fun _ _ e=>e) (fun _ _ _ e=>e) (fun c ps e=>⟨#[],by rw [e]; simp⟩) (fun m hm=>?_) (fun c q e=>?_) I.bare
  ·obtain ⟨f0,f1,f2,f3,f4,f5⟩:=hf c hc
   exact ⟨f3,f1,f4,f5⟩
  ·obtain ⟨q,es',ep,ho,r⟩:=hm
   exact ⟨q,es',ep,kk _ q (fun z=>(hf _ z).2.1 rfl) ho,r⟩
  ·refine (I.hok c q e).stay (fun d v hd q'=>kk d v ?_ q') (fun _ q=>q) fun _ _ q=>q
   rcases hd with z | z
   ·subst z; exact tr _ _ e
   ·exact tr _ _ z
 self:=fun _ _ _ _ _ st h=>wpAny_pyIter_zip st.1 h
section
variable {X:Cx}{p pos:Pos}{es:List Expr}{kx:Nat}{tpos:Pos}
end
end L2
end

section
set_option Elab.async false
set_option linter.all false
set_option maxRecDepth 100000
namespace L2
open PySem PySem.Spec PyProof.Rows
open Sem (wp)
section
variable {prog:Program}{w:World}{A:Around}{E:Value->Shared->Prop}{s:Shared}
theorem dY {it t:Addr}{i:Nat}{items:Array Value}{x:Value}{Q:Value->Shared->Prop}(st:s.heap.IsTupleIter it t i) (tt:s.heap.IsTuple t items) (hx:items[i]?=some x)
  (k:∀h',h'.IsTupleIter it t (i+1)->Heap.SameBut it s.heap h'->Q x { s with heap:=h' }):wpAny (model prog w) A (Builtin.SmallTypes.nextOf (.ref it)) Q E s:=by
 obtain ⟨oi,gi,ci,di⟩:=id st
 obtain ⟨ot,gt,_,nt,dt⟩:=tt
 unfold Builtin.SmallTypes.nextOf
 refine wpAny_bind (wpAny_callSpecial?_slot (name:=Str.ofString "__next__") st.typeIs F.slot_tuple_iterator_next
  (wpAny_call_entry F.slot_tuple_iterator_next st.typeIs F.entry_tuple_iterator_next ?_ (F.args_tuple_iterator_next_1 _)))
 show wpAny _ _ (field (.ref it) 0 >>= _) _ _ s
 refine wpAny_bind (wpAny_field gi di (x:=.ref t) rfl ?_)
 show wpAny _ _ (if (Value.ref t == Value.none)=true then _ else _) _ _ s
 rw [if_neg (show ¬((Value.ref t == Value.none)=true) from Bool.false_ne_true)]
 show wpAny _ _ (field (.ref it) 1 >>= _) _ _ s
 refine wpAny_bind (wpAny_field gi di (x:=.int i 0) rfl ?_)
 show wpAny _ _ (seqItems? (.ref t) >>= _) _ _ s
 refine wpAny_bind (wpAny_seqItems gt dt ?_)
 simp only [Int.toNat_natCast,hx]
 refine wpAny_bind (wpAny_setField gi di (by simp) (wpAny_pure ⟨x,rfl,wpAny_pure (k _ ?_ (Heap.SameBut.update ..))⟩))
 exact ⟨_,Heap.get?_update_self _ gi (Obj.isFreed_of_fields (Obj.data_mapFields di _)),(Obj.cls_mapFields ..).trans ci,by
  rw [Obj.data_mapFields di]; simp [rawInt]⟩
theorem iU {it t:Addr}{i:Nat}{items:Array Value}{Q:Value->Shared->Prop}(hh:A.handled=none) (st:s.heap.IsTupleIter it t i) (tt:s.heap.IsTuple t items) (hx:items[i]?=none)
  (k:∀h' e,Heap.ExtBut it s.heap h'->(∃o,h'.get? e=some o/\o.cls=.type "StopIteration")->E (.ref e) { s with heap:=h' }):wpAny (model prog w) A (Builtin.SmallTypes.nextOf (.ref it)) Q E s:=by
 obtain ⟨oi,gi,ci,di⟩:=id st
 obtain ⟨ot,gt,_,nt,dt⟩:=tt
 unfold Builtin.SmallTypes.nextOf
 refine wpAny_bind (wpAny_callSpecial?_slot (name:=Str.ofString "__next__") st.typeIs F.slot_tuple_iterator_next
  (wpAny_call_entry F.slot_tuple_iterator_next st.typeIs F.entry_tuple_iterator_next ?_ (F.args_tuple_iterator_next_1 _)))
 show wpAny _ _ (field (.ref it) 0 >>= _) _ _ s
 refine wpAny_bind (wpAny_field gi di (x:=.ref t) rfl ?_)
 show wpAny _ _ (if (Value.ref t == Value.none)=true then _ else _) _ _ s
 rw [if_neg (show ¬((Value.ref t == Value.none)=true) from Bool.false_ne_true)]
 show wpAny _ _ (field (.ref it) 1 >>= _) _ _ s
 refine wpAny_bind (wpAny_field gi di (x:=.int i 0) rfl ?_)
 show wpAny _ _ (seqItems? (.ref t) >>= _) _ _ s
 refine wpAny_bind (wpAny_seqItems gt dt ?_)
 simp only [Int.toNat_natCast,hx]
 refine wpAny_bind (wpAny_rule (wpAny_bind (wpAny_setField gi di (by simp) ?_)))
 show wpAny _ _ (newExc (.type "StopIteration") [] >>= _) _ _ _
 refine wpAny_bind ?_
 simp only [newExc,newTuple]
 refine wpAny_bind (wpAny_newObj_type ?_ (by size_fits))
 refine wpAny_bind (m:=firstArgMember _ _) (wpAny_of_eq (a:=Value.none) (by first | rfl | (simp only [firstArgMember]; rfl)) ?_)
 refine wpAny_newObj_type ?_ (by size_fits)
 simp only [raiseNew]
 refine wpAny_bind (wpAny_handled ?_)
 first | rw [show A.in1.handled=none from hh] | rw [hh]
 refine wpAny_bind (wpAny_pure (wpAny_throw ?_))
 exact k _ _ (((Heap.SameBut.update ..).extBut.push _).push _) ⟨_,Heap.get?_push_size _ rfl,rfl⟩
theorem p9 {z TI TO i1 i2 l1 l2:Addr}{k1 k2:Nat}{xs ys:Array Value}{x y a b:Value}{Q:Value->Shared->Prop}(D:ZipApart z TI TO i1 i2 l1 l2)
  (gz:IsZip s.heap z TI TO .none) (gI:IsPair s.heap TI (.ref i1) (.ref i2)) (gO:IsPair s.heap TO a b)
  (g1:s.heap.IsTupleIter i1 l1 k1) (g2:s.heap.IsTupleIter i2 l2 k2) (t1:s.heap.IsTuple l1 xs) (t2:s.heap.IsTuple l2 ys) (hx:xs[k1]?=some x) (hy:ys[k2]?=some y)
  (k:∀h',IsZip h' z TI TO (rawInt s.heap.objs.size)->IsPair h' TO x y->h'.IsTupleIter i1 l1 (k1+1)->h'.IsTupleIter i2 l2 (k2+1)->IsPair h' s.heap.objs.size x y->h'.objs.size=s.heap.objs.size+1 ->
   (∀c o,c≠z->c≠TO->c≠i1->c≠i2->s.heap.get? c=some o->h'.get? c=some o)->Q (.ref s.heap.objs.size) { s with heap:=h' }) :
  wpAny (model prog w) A (Builtin.«zip.__next__» ⟨[.ref z],[]⟩) (fun fin s'=>∃v,fin=.done (.ret v)/\Q v s') E s:=by
 show wpAny _ _ (field (.ref z) 2 >>= _) _ _ _
 refine wpAny_bind (wpAny_field gz rfl (x:=.bool false) rfl ?_)
 show wpAny _ _ (field (.ref z) 3 >>= _) _ _ _
 refine wpAny_bind (wpAny_field gz rfl (x:=.ref TI) rfl ?_)
 refine wpAny_bind (wpAny_seqItems gI rfl ?_)
 show wpAny _ _ (Builtin.SmallTypes.ownedTupleIsFree (.ref z) >>= _) _ _ _
 refine wpAny_bind ?_
 unfold Builtin.SmallTypes.ownedTupleIsFree
 refine wpAny_bind (wpAny_field gz rfl (x:=.none) rfl (wpAny_pure ?_))
 simp only [if_true]
 refine wpAny_bind (wpAny_rule ?_)
 refine wpAny_bind (wpAny_field gz rfl (x:=.ref TO) rfl ?_)
 refine wpAny_bind (wpAny_setField_rec gz (by simp) fun m₁ gz₁ u₁=>?_)
 replace gz₁:IsZip m₁ z TI TO .ellipsis:=gz₁
 refine wpAny_bind ?_
 simp only [List.zipIdx_cons,List.zipIdx_nil,List.forIn_cons,List.forIn_nil]
 refine wpAny_bind (wpAny_bind (wpAny_onRaise ?_))
 show wpAny _ _ (Builtin.SmallTypes.nextOf (.ref i1) >>= _) _ _ _
 refine wpAny_bind (dY (g1.extBut u₁.extBut D.i1z) (t1.extBut u₁.extBut D.l1z) hx fun m₂ g1₂ u₂=>wpAny_pure ?_)
 have gO₂:IsPair m₂ TO a b:=u₂.extBut _ _ D.TOi1 (u₁.extBut _ _ D.TOz gO)
 refine wpAny_bind (wpAny_seqItems gO₂ rfl ?_)
 refine wpAny_bind (wpAny_updateSeq_pair gO₂ fun m₃ gO₃ u₃=>?_)
 replace gO₃:IsPair m₃ TO x b:=gO₃
 refine wpAny_bind (wpAny_letGo (wpAny_pure ?_))
 refine wpAny_bind (wpAny_bind (wpAny_onRaise ?_))
 show wpAny _ _ (Builtin.SmallTypes.nextOf (.ref i2) >>= _) _ _ _
 refine wpAny_bind (dY (((g2.extBut u₁.extBut D.i2z).extBut u₂.extBut D.i12.symm).extBut u₃.extBut D.TOi2.symm)
  (((t2.extBut u₁.extBut D.l2z).extBut u₂.extBut D.l2i1).extBut u₃.extBut D.l2TO) hy fun m₄ g2₄ u₄=>wpAny_pure ?_)
 have gO₄:IsPair m₄ TO x b:=u₄.extBut _ _ D.TOi2 gO₃
 refine wpAny_bind (wpAny_seqItems gO₄ rfl ?_)
 refine wpAny_bind (wpAny_updateSeq_pair gO₄ fun m₅ gO₅ u₅=>?_)
 replace gO₅:IsPair m₅ TO x y:=gO₅
 refine wpAny_bind (wpAny_letGo (wpAny_pure (wpAny_pure ?_)))
 refine wpAny_bind (wpAny_seqItems gO₅ rfl ?_)
 refine wpAny_bind (wpAny_newTuple ?_)
 have esz:m₅.objs.size=s.heap.objs.size:=by rw [u₅.1,u₄.1,u₃.1,u₂.1,u₁.1]
 have gz₅:IsZip m₅ z TI TO .ellipsis:=u₅.extBut _ _ D.TOz.symm (u₄.extBut _ _ D.i2z.symm (u₃.extBut _ _ D.TOz.symm (u₂.extBut _ _ D.i1z.symm gz₁)))
 have kp₅:∀c o,c≠z->c≠TO->c≠i1->c≠i2->s.heap.get? c=some o->m₅.get? c=some o:=fun c o c1 c2 c3 c4 e =>
  u₅.extBut _ _ c2 (u₄.extBut _ _ c4 (u₃.extBut _ _ c2 (u₂.extBut _ _ c3 (u₁.extBut _ _ c1 e))))
 have g1₅:m₅.IsTupleIter i1 l1 (k1+1):=((g1₂.extBut u₃.extBut D.TOi1.symm).extBut u₄.extBut D.i12).extBut u₅.extBut D.TOi1.symm
 have g2₅:m₅.IsTupleIter i2 l2 (k2+1):=g2₄.extBut u₅.extBut D.TOi2.symm
 have zlt:z<m₅.objs.size:=Heap.lt_size gz₅
 show wpAny _ _ (Builtin.SmallTypes.ownedTupleHandOut (.ref z) (.ref m₅.objs.size) >>= _) _ _ _
 refine wpAny_bind ?_
 unfold Builtin.SmallTypes.ownedTupleHandOut
 have gz₆:IsZip (m₅.push { cls:=.type "tuple",data:=.seq #[x,y] }) z TI TO .ellipsis:=Heap.get?_push_of_some _ gz₅
 refine wpAny_bind (wpAny_setField_rec gz₆ (by simp) fun m₇ gz₇ u₇=>?_)
 replace gz₇:IsZip m₇ z TI TO (rawInt m₅.objs.size):=gz₇
 refine wpAny_setField_rec gz₇ (by simp) fun m₈ gz₈ u₈=>?_
 replace gz₈:IsZip m₈ z TI TO (rawInt m₅.objs.size):=gz₈
 have up:∀c o,c≠z->m₅.get? c=some o->m₈.get? c=some o:=fun c o c1 e=>u₈.extBut _ _ c1 (u₇.extBut _ _ c1 (Heap.get?_push_of_some _ e))
 have gT₈:IsPair m₈ m₅.objs.size x y:=u₈.extBut _ _ (Nat.ne_of_gt zlt) (u₇.extBut _ _ (Nat.ne_of_gt zlt) (Heap.get?_push_size _ rfl))
 have ez8:m₈.objs.size=m₅.objs.size+1:=by rw [u₈.1,u₇.1,Heap.size_push]
 rw [esz] at gz₈ gT₈ ez8
 refine wpAny_pure ⟨_,rfl,?_⟩
 show Q (.ref m₅.objs.size) _
 rw [esz]
 refine k m₈ gz₈ (up _ _ D.TOz gO₅) ?_ ?_ gT₈ ez8 fun c o c1 c2 c3 c4 e=>up c o c1 (kp₅ c o c1 c2 c3 c4 e)
 ·obtain ⟨o,e,r⟩:=g1₅
  exact ⟨o,up _ o D.i1z e,r⟩
 ·obtain ⟨o,e,r⟩:=g2₅
  exact ⟨o,up _ o D.i2z e,r⟩
theorem sJ {z TI TO i1 i2 l1 l2:Addr}{k1 k2:Nat}{xs ys:Array Value}{a b:Value}{Q:Fin->Shared->Prop}(hh:A.handled=none) (D:ZipApart z TI TO i1 i2 l1 l2)
  (gz:IsZip s.heap z TI TO .none) (gI:IsPair s.heap TI (.ref i1) (.ref i2)) (gO:IsPair s.heap TO a b)
  (g1:s.heap.IsTupleIter i1 l1 k1) (g2:s.heap.IsTupleIter i2 l2 k2) (t1:s.heap.IsTuple l1 xs) (t2:s.heap.IsTuple l2 ys) (fin:xs[k1]?=none∨ys[k2]?=none)
  (k:∀h' e,(∀c o,c≠z->c≠TO->c≠i1->c≠i2->s.heap.get? c=some o->h'.get? c=some o)->(∃o,h'.get? e=some o/\o.cls=.type "StopIteration")->E (.ref e) { s with heap:=h' }) :
  wpAny (model prog w) A (Builtin.«zip.__next__» ⟨[.ref z],[]⟩) Q E s:=by
 show wpAny _ _ (field (.ref z) 2 >>= _) _ _ _
 refine wpAny_bind (wpAny_field gz rfl (x:=.bool false) rfl ?_)
 show wpAny _ _ (field (.ref z) 3 >>= _) _ _ _
 refine wpAny_bind (wpAny_field gz rfl (x:=.ref TI) rfl ?_)
 refine wpAny_bind (wpAny_seqItems gI rfl ?_)
 show wpAny _ _ (Builtin.SmallTypes.ownedTupleIsFree (.ref z) >>= _) _ _ _
 refine wpAny_bind ?_
 unfold Builtin.SmallTypes.ownedTupleIsFree
 refine wpAny_bind (wpAny_field gz rfl (x:=.none) rfl (wpAny_pure ?_))
 simp only [if_true]
 refine wpAny_bind (wpAny_rule ?_)
 refine wpAny_bind (wpAny_field gz rfl (x:=.ref TO) rfl ?_)
 refine wpAny_bind (wpAny_setField_rec gz (by simp) fun m₁ gz₁ u₁=>?_)
 replace gz₁:IsZip m₁ z TI TO .ellipsis:=gz₁
 refine wpAny_bind ?_
 simp only [List.zipIdx_cons,List.zipIdx_nil,List.forIn_cons,List.forIn_nil]
 refine wpAny_bind (wpAny_bind (wpAny_onRaise ?_))
 show wpAny _ _ (Builtin.SmallTypes.nextOf (.ref i1) >>= _) _ _ _
 cases hx:xs[k1]? with
 | none =>
  refine wpAny_bind (iU hh (g1.extBut u₁.extBut D.i1z) (t1.extBut u₁.extBut D.l1z) hx fun m₂ e u₂ he=>?_)
  obtain ⟨oe,ge,ce⟩:=he
  have gz₂:IsZip m₂ z TI TO .ellipsis:=u₂ _ _ D.i1z.symm gz₁
  have nez:e≠z:=fun q=>by subst q; rw [gz₂] at ge; cases ge; simp at ce
  refine wpAny_setField_rec gz₂ (by simp) fun m₃ _ u₃=>k m₃ e (fun c o c1 _ c3 _ q=>u₃.extBut _ _ c1 (u₂ _ _ c3 (u₁.extBut _ _ c1 q))) ⟨oe,u₃.extBut _ _ nez ge,ce⟩
 | some x =>
  have hy:ys[k2]?=none:=by rcases fin with q | q; rw [hx] at q; cases q; exact q
  refine wpAny_bind (dY (g1.extBut u₁.extBut D.i1z) (t1.extBut u₁.extBut D.l1z) hx fun m₂ g1₂ u₂=>wpAny_pure ?_)
  have gO₂:IsPair m₂ TO a b:=u₂.extBut _ _ D.TOi1 (u₁.extBut _ _ D.TOz gO)
  refine wpAny_bind (wpAny_seqItems gO₂ rfl ?_)
  refine wpAny_bind (wpAny_updateSeq_pair gO₂ fun m₃ gO₃ u₃=>?_)
  refine wpAny_bind (wpAny_letGo (wpAny_pure ?_))
  refine wpAny_bind (wpAny_bind (wpAny_onRaise ?_))
  show wpAny _ _ (Builtin.SmallTypes.nextOf (.ref i2) >>= _) _ _ _
  refine wpAny_bind (iU hh (((g2.extBut u₁.extBut D.i2z).extBut u₂.extBut D.i12.symm).extBut u₃.extBut D.TOi2.symm)
   (((t2.extBut u₁.extBut D.l2z).extBut u₂.extBut D.l2i1).extBut u₃.extBut D.l2TO) hy fun m₄ e u₄ he=>?_)
  obtain ⟨oe,ge,ce⟩:=he
  have gz₄:IsZip m₄ z TI TO .ellipsis:=u₄ _ _ D.i2z.symm (u₃.extBut _ _ D.TOz.symm (u₂.extBut _ _ D.i1z.symm gz₁))
  have nez:e≠z:=fun q=>by subst q; rw [gz₄] at ge; cases ge; simp at ce
  refine wpAny_setField_rec gz₄ (by simp) fun m₅ _ u₅=>k m₅ e (fun c o c1 c2 c3 c4 q=>u₅.extBut _ _ c1 (u₄ _ _ c4 (u₃.extBut _ _ c2 (u₂.extBut _ _ c3 (u₁.extBut _ _ c1 q))))) ⟨oe,u₅.extBut _ _ nez ge,ce⟩
theorem kz {z TI TO i1 i2 l1 l2:Addr}{k1 k2:Nat}{xs ys:Array Value}{x y a b:Value}{Q:Option Value->Shared->Prop}(D:ZipApart z TI TO i1 i2 l1 l2)
  (gz:IsZip s.heap z TI TO .none) (gI:IsPair s.heap TI (.ref i1) (.ref i2)) (gO:IsPair s.heap TO a b)
  (g1:s.heap.IsTupleIter i1 l1 k1) (g2:s.heap.IsTupleIter i2 l2 k2) (t1:s.heap.IsTuple l1 xs) (t2:s.heap.IsTuple l2 ys) (hx:xs[k1]?=some x) (hy:ys[k2]?=some y)
  (k:∀h',IsZip h' z TI TO (rawInt s.heap.objs.size)->IsPair h' TO x y->h'.IsTupleIter i1 l1 (k1+1)->h'.IsTupleIter i2 l2 (k2+1)->IsPair h' s.heap.objs.size x y->h'.objs.size=s.heap.objs.size+1 ->
   (∀c o,c≠z->c≠TO->c≠i1->c≠i2->s.heap.get? c=some o->h'.get? c=some o)->Q (some (.ref s.heap.objs.size)) { s with heap:=h' }) :
  wpAny (model prog w) A (pyNext (.ref z)) Q E s:=by
 have hT:s.TypeIs (.ref z) "zip":=⟨_,gz,rfl⟩
 unfold pyNext
 exact wpAny_bind (wpAny_attempt (wpAny_callSpecial?_slot (name:=Str.ofString "__next__") hT F.slot_zip_next
  (wpAny_call_entry F.slot_zip_next hT F.entry_zip_next
   (p9 D gz gI gO g1 g2 t1 t2 hx hy fun h' a1 a2 a3 a4 a5 a6 a7=>wpAny_pure (k h' a1 a2 a3 a4 a5 a6 a7)) (F.args_zip_next_1 _))))
theorem lQ {z TI TO i1 i2 l1 l2:Addr}{k1 k2:Nat}{xs ys:Array Value}{a b:Value}{Q:Option Value->Shared->Prop}(hh:A.handled=none) (D:ZipApart z TI TO i1 i2 l1 l2)
  (gz:IsZip s.heap z TI TO .none) (gI:IsPair s.heap TI (.ref i1) (.ref i2)) (gO:IsPair s.heap TO a b)
  (g1:s.heap.IsTupleIter i1 l1 k1) (g2:s.heap.IsTupleIter i2 l2 k2) (t1:s.heap.IsTuple l1 xs) (t2:s.heap.IsTuple l2 ys) (fin:xs[k1]?=none∨ys[k2]?=none)
  (k:∀h',(∀c o,c≠z->c≠TO->c≠i1->c≠i2->s.heap.get? c=some o->h'.get? c=some o)->Q none { s with heap:=h' }):wpAny (model prog w) A (pyNext (.ref z)) Q E s:=by
 have hT:s.TypeIs (.ref z) "zip":=⟨_,gz,rfl⟩
 unfold pyNext
 refine wpAny_bind (wpAny_attempt (wpAny_callSpecial?_slot (name:=Str.ofString "__next__") hT F.slot_zip_next
  (wpAny_call_entry F.slot_zip_next hT F.entry_zip_next (sJ hh D gz gI gO g1 g2 t1 t2 fin fun h' e kp he=>?_) (F.args_zip_next_1 _))))
 obtain ⟨o,ho,hc⟩:=he
 refine wpAny_bind (wpAny_isInstance (T:="StopIteration") (b:=true) ⟨o,ho,hc⟩ isSubtype_stop ?_)
 exact wpAny_pure (k _ kp)
end
abbrev zT1 (h:Heap) (l1:Addr):Heap:=h.push { cls:=.type "tuple_iterator",data:=.fields #[.ref l1,.int 0 0] }
abbrev zT2 (h:Heap) (l1 l2:Addr):Heap:=(zT1 h l1).push { cls:=.type "tuple_iterator",data:=.fields #[.ref l2,.int 0 0] }
abbrev zT3 (h:Heap) (l1 l2:Addr):Heap:=(zT2 h l1 l2).push { cls:=.type "tuple",data:=.seq #[.ref h.objs.size,.ref (zT1 h l1).objs.size] }
abbrev zT4 (h:Heap) (l1 l2:Addr):Heap:=(zT3 h l1 l2).push { cls:=.type "tuple",data:=.seq #[.none,.none] }
abbrev zT5 (h:Heap) (l1 l2:Addr):Heap:=(zT4 h l1 l2).push { cls:=.type "zip",data:=.fields #[.none,.bool false,.bool false,.ref (zT2 h l1 l2).objs.size,.ref (zT3 h l1 l2).objs.size] }
theorem pD (l1 l2:Addr) (xs ys:Array Value) :
  Meets (Builtin.«zip.__new__» ⟨[.type "zip",.ref l1,.ref l2],[]⟩) (fun _ R s=>s.heap.IsTuple l1 xs/\s.heap.IsTuple l2 ys /\
   R (.ok (.ret (.ref (zT4 s.heap l1 l2).objs.size))) { s with heap:=zT5 s.heap l1 l2 }) :=
 .of_wp fun prog w A R s h=>by
  obtain ⟨hp,g,d,tk,os⟩:=s; obtain ⟨q1,q2,h⟩:=h
  have hsub:=sub_zip
  have T1:Heap.IsTuple (Shared.heap ⟨hp,g,d,tk,os⟩) l1 xs:=q1
  have T2:Heap.IsTuple (Shared.heap ⟨hp.push { cls:=.type "tuple_iterator",data:=.fields #[.ref l1,.int 0 0] },g,d,tk,os⟩) l2 ys:=Heap.IsTuple.push q2 _
  wp_walk using wpAny_pyIter_tuple T1,wpAny_pyIter_tuple T2
  exact ⟨_,rfl,h⟩
section
variable {prog:Program}{w:World}{A:Around}{E:Value->Shared->Prop}{s:Shared}
theorem sj {l1 l2:Addr}{xs ys:Array Value}{Q:Value->Shared->Prop}(t1:s.heap.IsTuple l1 xs) (t2:s.heap.IsTuple l2 ys)
  (k:∀h',IsZip h' (s.heap.objs.size+4) (s.heap.objs.size+2) (s.heap.objs.size+3) .none->IsPair h' (s.heap.objs.size+2) (.ref s.heap.objs.size) (.ref (s.heap.objs.size+1)) ->
   IsPair h' (s.heap.objs.size+3) .none .none->h'.IsTupleIter s.heap.objs.size l1 0->h'.IsTupleIter (s.heap.objs.size+1) l2 0->(∀c o,s.heap.get? c=some o->h'.get? c=some o)->Q (.ref (s.heap.objs.size+4)) { s with heap:=h' }) :
  wpAny (model prog w) A (call (.type "zip") [.ref l1,.ref l2]) Q E s:=by
 refine callType_new F.called_zip (by decide) (F.typeCall_zip_2 _ _) (F.newCall_zip_2 _ _) (fun obj=>F.args_object_init_3 obj _ _) F.entry_zip_new
  (pD l1 l2 xs ys) ⟨t1,t2,?_⟩
 have z1:(zT1 s.heap l1).objs.size=s.heap.objs.size+1:=Heap.size_push ..
 have z2:(zT2 s.heap l1 l2).objs.size=s.heap.objs.size+2:=by rw [Heap.size_push,z1]
 have z3:(zT3 s.heap l1 l2).objs.size=s.heap.objs.size+3:=by rw [Heap.size_push,z2]
 have z4:(zT4 s.heap l1 l2).objs.size=s.heap.objs.size+4:=by rw [Heap.size_push,z3]
 have g5:(zT5 s.heap l1 l2).get? (zT4 s.heap l1 l2).objs.size=some _:=Heap.get?_push_size _ rfl
 have g4:(zT5 s.heap l1 l2).get? (zT3 s.heap l1 l2).objs.size=some _:=Heap.get?_push_of_some _ (Heap.get?_push_size _ rfl)
 have g3:(zT5 s.heap l1 l2).get? (zT2 s.heap l1 l2).objs.size=some _:=Heap.get?_push_of_some _ (Heap.get?_push_of_some _ (Heap.get?_push_size _ rfl))
 have g2:(zT5 s.heap l1 l2).get? (zT1 s.heap l1).objs.size=some _:=Heap.get?_push_of_some _ (Heap.get?_push_of_some _ (Heap.get?_push_of_some _ (Heap.get?_push_size _ rfl)))
 have g1:(zT5 s.heap l1 l2).get? s.heap.objs.size=some _:=Heap.get?_push_of_some _ (Heap.get?_push_of_some _ (Heap.get?_push_of_some _ (Heap.get?_push_of_some _ (Heap.get?_push_size _ rfl))))
 show _/\_
 rw [z2,z3,z4] at g5
 rw [z1,z2] at g3
 rw [z3] at g4
 rw [z1] at g2
 rw [z4]
 exact ⟨⟨_,g5,rfl⟩,k _ g5 g3 g4 ⟨_,g1,rfl,rfl⟩ ⟨_,g2,rfl,rfl⟩ fun c o x =>
  Heap.get?_push_of_some _ (Heap.get?_push_of_some _ (Heap.get?_push_of_some _ (Heap.get?_push_of_some _ (Heap.get?_push_of_some _ x))))⟩
end
def wC (K:PySem.W.Frag) (a b:Addr):It :=
  ⟨fun i H=>∃xs ys x y,SqT K H a xs/\SqT K H b ys/\xs[i]?=some x/\ys[i]?=some y,
   fun i H x H'=>∃p u v,x=.ref p/\H p=none/\(∀xs,SqT K H a xs->xs[i]?=some u)/\(∀ys,SqT K H b ys->ys[i]?=some v)/\H'=upd H p (.tup [u,v]),
   fun i H=>∃xs ys,SqT K H a xs/\SqT K H b ys/\(xs.length<=i∨ys.length<=i)⟩
theorem qb {P:Program}{w:World}{K:PySem.W.Frag}{es:List Expr}{kx:Nat}{tpos:Pos}(a b z TI TO i1 i2:Addr) (D:ZipApart z TI TO i1 i2 a b) :
  p8 P w K (.Tuple es kx tpos) (wC K a b) [z,TI,TO,i1,i2] z (fun i h=>IsZip h z TI TO .none/\IsPair h TI (.ref i1) (.ref i2)/\(∃a b,IsPair h TO a b)/\h.IsTupleIter i1 a i/\h.IsTupleIter i2 b i) where
 mem:=by simp
 obj:=fun i h st c hc=>by
  obtain ⟨hz,hTI,⟨u,v,hTO⟩,h1,h2⟩:=st
  simp only [List.mem_cons,List.not_mem_nil,or_false] at hc
  rcases hc with rfl | rfl | rfl | rfl | rfl
  ·exact ⟨_,hz,fun v z=>by cases z⟩
  ·exact ⟨_,hTI,fun v z=>by cases z⟩
  ·exact ⟨_,hTO,fun v z=>by cases z⟩
  ·obtain ⟨o,e,c,d⟩:=h1
   exact ⟨o,e,fun v z=>by rw [d] at z; cases z⟩
  ·obtain ⟨o,e,c,d⟩:=h2
   exact ⟨o,e,fun v z=>by rw [d] at z; cases z⟩
 keep:=fun i h h' st k=>by
  obtain ⟨hz,hTI,⟨u,v,hTO⟩,⟨o1,e1,r1⟩,⟨o2,e2,r2⟩⟩:=st
  exact ⟨k z (by simp) _ hz,k TI (by simp) _ hTI,⟨u,v,k TO (by simp) _ hTO⟩,⟨o1,k i1 (by simp) o1 e1,r1⟩,⟨o2,k i2 (by simp) o2 e2,r2⟩⟩
 item:=by
  intro X hP hw hK hc i pins s σ H E I hf st hg
  subst hP hw hK
  obtain ⟨hz,hTI,⟨u0,v0,hTO⟩,h1,h2⟩:=st
  obtain ⟨xs,ys,x,y,hqx,hqy,hx,hy⟩:=hg
  obtain ⟨its,rx,px,zx⟩:=I.tuple hqx
  obtain ⟨jts,ry,py,zy⟩:=I.tuple hqy
  obtain ⟨u,hu,ru⟩:=rx.get hx
  obtain ⟨v,hv,rv⟩:=ry.get hy
  refine kz D hz hTI hTO h1 h2 (xs:=its.toArray) (ys:=jts.toArray) px py (x:=u) (y:=v) (by simpa using hu) (by simpa using hv) fun h' a1 a2 a3 a4 a5 a6 hk=>?_
  refine ⟨_,rfl,wpAny_letOwnedTupleGo_zip (s:={ s with heap:=h' }) a1 fun h2' hz2 hs2=>?_⟩
  have hs2':Heap.SameBut z h' h2':=hs2
  have nsz:s.heap.objs.size≠z:=Nat.ne_of_gt (Heap.lt_size hz)
  have nsTO:s.heap.objs.size≠TO:=Nat.ne_of_gt (Heap.lt_size hTO)
  have nsTI:s.heap.objs.size≠TI:=Nat.ne_of_gt (Heap.lt_size hTI)
  have nsi1:s.heap.objs.size≠i1:=by obtain ⟨o,ho,_⟩:=h1; exact Nat.ne_of_gt (Heap.lt_size ho)
  have nsi2:s.heap.objs.size≠i2:=by obtain ⟨o,ho,_⟩:=h2; exact Nat.ne_of_gt (Heap.lt_size ho)
  have ht2:IsPair h2' s.heap.objs.size u v:=hs2'.extBut _ _ nsz a5
  have I2:Inv X pins σ (upd H s.heap.objs.size (.tup [x,y])) { s with heap:=h2',toks:=s.toks }:=by
   refine I.turnedNew (ch:=[z,TI,TO,i1,i2]) hf (fun c o hc q=>?_) ⟨_,ht2⟩ (fun _ z=>nomatch z) ⟨by show 2<=sizeLine; decide,[u,v],.cons ru (.cons rv .nil),⟨_,ht2,rfl,_,rfl⟩⟩
   have n1:c≠z:=fun q=>hc (by simp [q])
   exact hs2'.extBut _ _ n1 (hk c o n1 (fun q=>hc (by simp [q])) (fun q=>hc (by simp [q])) (fun q=>hc (by simp [q])) q)
  have a3':h2'.IsTupleIter i1 a (i+1):=by obtain ⟨o,e,r⟩:=a3; exact ⟨o,hs2'.extBut _ _ D.i1z e,r⟩
  have a4':h2'.IsTupleIter i2 b (i+1):=by obtain ⟨o,e,r⟩:=a4; exact ⟨o,hs2'.extBut _ _ D.i2z e,r⟩
  refine ⟨.ref s.heap.objs.size,_,I2,rfl,⟨_,x,y,rfl,I.fresh,fun zs hz=>by rw [I.tuple_inj hz hqx]; exact hx,fun zs hz=>by rw [I.tuple_inj hz hqy]; exact hy,rfl⟩,⟨hz2,hs2'.extBut _ _ D.TIz (hk _ _ D.TIz D.TITO D.TIi1 D.TIi2 hTI),⟨_,_,hs2'.extBut _ _ D.TOz a2⟩,a3',a4'⟩,fun c hc=>?_⟩
  have hcn:=(hf c hc).1
  simp only [List.mem_cons,List.not_mem_nil,or_false] at hc
  have ne:c≠s.heap.objs.size:=by
   rcases hc with rfl | rfl | rfl | rfl | rfl
   ·exact nsz.symm
   ·exact nsTI.symm
   ·exact nsTO.symm
   ·exact nsi1.symm
   ·exact nsi2.symm
  rw [af ne]; exact hcn
 done:=by
  intro X hP hw hK hc i pins s σ H E I hf st hg
  subst hP hw hK
  obtain ⟨hz,hTI,⟨u0,v0,hTO⟩,h1,h2⟩:=st
  obtain ⟨xs,ys,hqx,hqy,hend⟩:=hg
  obtain ⟨its,rx,px,zx⟩:=I.tuple hqx
  obtain ⟨jts,ry,py,zy⟩:=I.tuple hqy
  have lx:=rx.length
  have ly:=ry.length
  refine lQ (I.ok.hd hc) D hz hTI hTO h1 h2 (xs:=its.toArray) (ys:=jts.toArray) px py (by rcases hend with q | q; exact .inl (by simp; omega); exact .inr (by simp; omega)) fun h' hk=>⟨rfl,?_⟩
  have tr:∀c q,H c=some q->c∉[z,TI,TO,i1,i2]:=fun c q e m=>by rw [(hf c m).1] at e; cases e
  have kk:∀c o,c∉[z,TI,TO,i1,i2]->s.heap.get? c=some o->h'.get? c=some o:=fun c o hc q=>hk c o (fun q=>hc (by simp [q])) (fun q=>hc (by simp [q])) (fun q=>hc (by simp [q])) (fun q=>hc (by simp [q])) q
  refine I.step (g':=s.gens) (d':=s.drawn) (t':=s.toks) (ch:=[z,TI,TO,i1,i2]) (fun c hc=>?_) (fun c o _ _ hc e _=>kk c o hc e) (fun c o _ _ hc e _=>⟨o.slots,kk c o hc e⟩) (fun _ _ _ _ n=>n) (fun c o hc e=>⟨o,kk c o hc e⟩) (fun _ _ e=>e) (fun _ _ _ e=>e) (fun c ps e=>⟨#[],by rw [e]; simp⟩) (fun m hm=>?_) (fun c q e=>?_) I.bare
  ·obtain ⟨f0,f1,f2,f3,f4,f5⟩:=hf c hc
   exact ⟨f3,f1,f4,f5⟩
  ·obtain ⟨q,es',ep,ho,r⟩:=hm
   exact ⟨q,es',ep,kk _ q (fun z=>(hf _ z).2.1 rfl) ho,r⟩
  ·refine (I.hok c q e).stay (fun d v hd q'=>kk d v ?_ q') (fun _ q=>q) fun _ _ q=>q
   rcases hd with z | z
   ·subst z; exact tr _ _ e
   ·exact tr _ _ z
 self:=fun _ _ _ _ _ st h=>wpAny_pyIter_zip st.1 h
section
variable {X:Cx}{p pos:Pos}{es:List Expr}{kx:Nat}{tpos:Pos}
def rG (K:PySem.W.Frag) (ta:TA):TI:=fun σ H R=>ta σ H fun vs H1=>∃a b,vs=[.ref a,.ref b]/\(((∃xs,SqL K H1 a xs)/\(∃ys,SqL K H1 b ys)/\R (Itz K a b) H1)∨((∃xs,SqT K H1 a xs)/\(∃ys,SqT K H1 b ys)/\R (wC K a b) H1))
theorem u8 {a b:Expr}{ta:TA}(hg:Gl X "zip") (hm:X.mg "zip"=none) (ha:PA X [a,b] ta) (hs:starEach [a,b] X.env=[(false,eval a X.env),(false,eval b X.env)]:=by rfl) (hs2:starEach [b] X.env=[(false,eval b X.env)]:=by rfl) :
  PI X (.Tuple es kx tpos) (.Call (.Name "zip" p) [a,b] [] pos) (rG X.K ta):=by
 intro pins s σ H R I h
 refine Call_ (g7 I hg hm boot_zip (PyProof.Rows.callWith_type1 (thn (ha pos pins s σ H _ I h) fun us s1 ⟨vs,H1,I1,r1,q1⟩=>?_) (by rw [hs,hs2]) (by rw [hs2]; rfl)))
 obtain ⟨l1,l2,e,q⟩:=q1
 subst e
 obtain ⟨u,v,rfl,ru,rv⟩:=vO r1
 cases ru
 cases rv
 have fin:∀b∈[s1.heap.objs.size+4,s1.heap.objs.size+2,s1.heap.objs.size+3,s1.heap.objs.size,s1.heap.objs.size+1],nM X pins H1 b:=fun b hb=>by
  have hb':s1.heap.objs.size<=b:=by
   simp only [List.mem_cons,List.not_mem_nil,or_false] at hb
   rcases hb with rfl | rfl | rfl | rfl | rfl <;> omega
  exact I1.fpOk hb' (I1.hok.fresh hb')
 rcases q with ⟨⟨xs,hx⟩,⟨ys,hy⟩,q⟩ | ⟨⟨xs,hx⟩,⟨ys,hy⟩,q⟩
 ·obtain ⟨its,rx,px,zx⟩:=I1.list hx
  obtain ⟨jts,ry,py,zy⟩:=I1.list hy
  obtain ⟨o1,n1,e1,_⟩:=id px
  obtain ⟨o2,n2,e2,_⟩:=id py
  refine call_zip_2 px.isList py.isList fun h' a1 a2 a3 a4 a5 a6 hk=>?_
  refine wpAny_pyIter_zip (s:={ s1 with heap:=h' }) a1 ?_
  have hk':∀b o,s1.heap.get? b=some o->h'.get? b=some o:=hk
  have I2:Inv X pins σ H1 { s1 with heap:=h' }:=I1.kept (t':=s1.toks) hk'
  exact ⟨_,_,_,_,H1,rfl,I2,sO l1 l2 _ _ _ _ _ (zipApart_new (Heap.lt_size e1) (Heap.lt_size e2)),⟨a1,a2,⟨_,_,a3⟩,a4,a5⟩,fin,q⟩
 ·obtain ⟨its,rx,px,zx⟩:=I1.tuple hx
  obtain ⟨jts,ry,py,zy⟩:=I1.tuple hy
  obtain ⟨o1,e1,_⟩:=id px
  obtain ⟨o2,e2,_⟩:=id py
  refine sj (xs:=its.toArray) (ys:=jts.toArray) px py fun h' a1 a2 a3 a4 a5 hk=>?_
  refine wpAny_pyIter_zip (s:={ s1 with heap:=h' }) a1 ?_
  have hk':∀b o,s1.heap.get? b=some o->h'.get? b=some o:=hk
  have I2:Inv X pins σ H1 { s1 with heap:=h' }:=I1.kept (t':=s1.toks) hk'
  exact ⟨_,_,_,_,H1,rfl,I2,qb l1 l2 _ _ _ _ _ (zipApart_new (Heap.lt_size e1) (Heap.lt_size e2)),⟨a1,a2,⟨_,_,a3⟩,a4,a5⟩,fin,q⟩
end
end L2
end

section
set_option Elab.async false
set_option linter.all false
set_option maxRecDepth 100000
namespace L2
open PySem PySem.Spec PyProof.Rows
open Sem (wp)
inductive DT where
 | k (a:Key)
 | t (l:List DT)
 | s (l:List DT)
mutual
def ww:(x y:DT)->Decidable (x=y)
 | .k a,.k b=>if h:a=b then Decidable.isTrue (by rw [h]) else Decidable.isFalse fun e=>h (by injection e)
 | .t l,.t m=>match decDTs l m with
  | Decidable.isTrue h=>Decidable.isTrue (by rw [h])
  | Decidable.isFalse h=>Decidable.isFalse fun e=>h (by injection e)
 | .s l,.s m=>match decDTs l m with
  | Decidable.isTrue h=>Decidable.isTrue (by rw [h])
  | Decidable.isFalse h=>Decidable.isFalse fun e=>h (by injection e)
 | .k _,.t _=>Decidable.isFalse nofun
 | .k _,.s _=>Decidable.isFalse nofun
 | .t _,.k _=>Decidable.isFalse nofun
 | .t _,.s _=>Decidable.isFalse nofun
 | .s _,.k _=>Decidable.isFalse nofun
 | .s _,.t _=>Decidable.isFalse nofun
def decDTs:(x y:List DT)->Decidable (x=y)
 | [],[]=>Decidable.isTrue rfl
 | [],_::_=>Decidable.isFalse nofun
 | _::_,[]=>Decidable.isFalse nofun
 | a::l,b::m=>match ww a b with
  | Decidable.isTrue h=>match decDTs l m with
   | Decidable.isTrue h'=>Decidable.isTrue (by rw [h,h'])
   | Decidable.isFalse h'=>Decidable.isFalse fun e=>h' (by injection e)
  | Decidable.isFalse h=>Decidable.isFalse fun e=>h (by injection e)
end
instance:DecidableEq DT:=ww
mutual
def DT.depth:DT->Nat
 | .k _=>0
 | .t l=>DT.depths l+1
 | .s l=>DT.depths l+1
def DT.depths:List DT->Nat
 | []=>0
 | a::r=>max (DT.depth a) (DT.depths r)
end
mutual
def DAt (h:Heap):DT->Value->Prop
 | .k a,v=>bj a v=true
 | .t l,v=>∃a items,v=.ref a/\h.IsTuple a items/\DAts h l items.toList
 | .s l,v=>∃a items,v=.ref a/\h.IsList a items/\DAts h l items.toList
def DAts (h:Heap):List DT->List Value->Prop
 | [],vs=>vs=[]
 | k::r,vs=>∃v us,vs=v::us/\DAt h k v/\DAts h r us
end
theorem DAts.length {h:Heap}:∀{xs:List DT}{vs:List Value},DAts h xs vs->xs.length=vs.length
 | [],vs,e=>by have e':vs=[]:=e; rw [e']; rfl
 | x::xs,vs,e=>by
  obtain ⟨v,us,rfl,_,h2⟩:=e
  simp [DAts.length h2]
theorem DAts.get {h:Heap}:∀{xs:List DT}{vs:List Value}{i:Nat}{v:Value},DAts h xs vs->vs[i]?=some v->∃x,xs[i]?=some x/\DAt h x v
 | [],vs,i,v,e,q=>by have e':vs=[]:=e; subst e'; simp at q
 | x::xs,vs,i,v,e,q=>by
  obtain ⟨u,us,rfl,h1,h2⟩:=e
  cases i with
  | zero =>
   simp at q; subst q
   exact ⟨x,rfl,h1⟩
  | succ i =>
   obtain ⟨y,e1,e2⟩:=DAts.get h2 (i:=i) (v:=v) (by simpa using q)
   exact ⟨y,by simpa using e1,e2⟩
theorem DT.depths_get {l:List DT}{x:DT}{i d:Nat}(h:DT.depths l<=d) (e:l[i]?=some x):x.depth<=d:=by
 induction l generalizing i with
 | nil=>simp at e
 | cons a r ih =>
  have h':max a.depth (DT.depths r)<=d:=h
  cases i with
  | zero=>simp at e; subst e; omega
  | succ i=>exact ih (by omega) (by simpa using e)
theorem pK {h:Heap}{a:Addr}{i j:Array Value}(x:h.IsList a i) (y:h.IsList a j):i=j:=by
 obtain ⟨o,ho,_,n,hd⟩:=x
 obtain ⟨o',ho',_,n',hd'⟩:=y
 rw [ho] at ho'; cases ho'
 rw [hd] at hd'; injection hd'
theorem nq {h:Heap}{a:Addr}{i j:Array Value}(x:h.IsTuple a i) (y:h.IsTuple a j):i=j:=by
 obtain ⟨o,ho,_,n,hd⟩:=x
 obtain ⟨o',ho',_,n',hd'⟩:=y
 rw [ho] at ho'; cases ho'
 rw [hd] at hd'; injection hd'
theorem dO {h:Heap}{a:Addr}{i j:Array Value}(x:h.IsList a i) (y:h.IsTuple a j):False:=by
 obtain ⟨o,ho,hc,_⟩:=x
 obtain ⟨o',ho',hc',_⟩:=y
 rw [ho] at ho'; cases ho'
 rw [hc] at hc'; simp at hc'
theorem lU {a b:Key}{v:Value}(h1:bj a v=true) (h2:bj b v=true):a=b:=by
 rcases aj h1 with ⟨i,t,rfl,rfl⟩ | ⟨i,t,rfl,rfl⟩
 ·rcases aj h2 with ⟨j,u,rfl,e⟩ | ⟨j,u,rfl,e⟩
  ·cases e; rfl
  ·cases e
 ·rcases aj h2 with ⟨j,u,rfl,e⟩ | ⟨j,u,rfl,e⟩
  ·cases e
  ·cases e; rfl
theorem c_ {a:Key}{b:Addr}(h:bj a (.ref b)=true):False:=by
 rcases aj h with ⟨_,_,_,e⟩ | ⟨_,_,_,e⟩ <;> cases e
theorem DAt.inj {h:Heap}:∀(d:Nat) {x y:DT}{v:Value},x.depth<=d->DAt h x v->DAt h y v->x=y:=by
 have key:∀(d:Nat) (ih:∀{x y:DT}{v:Value},x.depth<=d->DAt h x v->DAt h y v->x=y) (xs ys:List DT) (vs:List Value),DT.depths xs<=d->DAts h xs vs->DAts h ys vs->xs=ys:=by
  intro d ih xs
  induction xs with
  | nil =>
   intro ys vs _ hx hy
   have hx':vs=[]:=hx
   subst hx'
   cases ys with
   | nil=>rfl
   | cons y ys=>obtain ⟨_,_,e,_⟩:=hy; cases e
  | cons x xs ihl =>
   intro ys vs hd hx hy
   obtain ⟨v,us,rfl,hx1,hx2⟩:=hx
   cases ys with
   | nil=>have hy':v::us=[]:=hy; cases hy'
   | cons y ys =>
    obtain ⟨v',us',e,hy1,hy2⟩:=hy
    cases e
    have hd':max x.depth (DT.depths xs)<=d:=hd
    rw [ih (by omega) hx1 hy1,ihl ys us (by omega) hx2 hy2]
 intro d
 induction d with
 | zero =>
  intro x y v hd hx hy
  cases x with
  | t l=>exact absurd hd (by show ¬(DT.depths l+1<=0); omega)
  | s l=>exact absurd hd (by show ¬(DT.depths l+1<=0); omega)
  | k a =>
   cases y with
   | k b=>rw [lU hx hy]
   | t l=>obtain ⟨b,_,rfl,_⟩:=hy; exact (c_ hx).elim
   | s l=>obtain ⟨b,_,rfl,_⟩:=hy; exact (c_ hx).elim
 | succ d ih =>
  intro x y v hd hx hy
  cases x with
  | k a =>
   cases y with
   | k b=>rw [lU hx hy]
   | t l=>obtain ⟨b,_,rfl,_⟩:=hy; exact (c_ hx).elim
   | s l=>obtain ⟨b,_,rfl,_⟩:=hy; exact (c_ hx).elim
  | t l =>
   obtain ⟨a,i,rfl,hi,hx⟩:=hx
   cases y with
   | k b=>exact (c_ hy).elim
   | t m =>
    obtain ⟨a',j,e,hj,hy⟩:=hy
    cases e
    rw [nq hj hi] at hy
    rw [key d (fun h1=>ih h1) l m i.toList (by have:DT.depths l+1<=d+1:=hd; omega) hx hy]
   | s m =>
    obtain ⟨a',j,e,hj,hy⟩:=hy
    cases e
    exact (dO hj hi).elim
  | s l =>
   obtain ⟨a,i,rfl,hi,hx⟩:=hx
   cases y with
   | k b=>exact (c_ hy).elim
   | s m =>
    obtain ⟨a',j,e,hj,hy⟩:=hy
    cases e
    rw [pK hj hi] at hy
    rw [key d (fun h1=>ih h1) l m i.toList (by have:DT.depths l+1<=d+1:=hd; omega) hx hy]
   | t m =>
    obtain ⟨a',j,e,hj,hy⟩:=hy
    cases e
    exact (dO hi hj).elim
theorem bW {l m:List DT}(hl:l.length=m.length):((List.range l.length).all fun j=>decide (l[j]?=m[j]?))=decide (l=m):=by
 by_cases e:l=m
 ·subst e; simp
 ·rw [decide_eq_false e]
  rw [List.all_eq_false]
  apply Classical.byContradiction
  intro h
  apply e
  apply List.ext_getElem?
  intro i
  by_cases hi:i<l.length
  ·apply Classical.byContradiction
   intro hne
   exact h ⟨i,List.mem_range.mpr hi,by simpa using hne⟩
  ·rw [List.getElem?_eq_none (by omega),List.getElem?_eq_none (by omega)]
section
variable {s:Shared}
theorem wo:∀(d:Nat) {A:Around}{x y:DT}{u v:Value},x.depth<=d->y.depth<=d->A.units+d<cLine->DAt s.heap x u->DAt s.heap y v->SeqAt.EqAt A s u v (decide (x=y)):=by
 have leaves:∀{A:Around}{a b:Key}{u v:Value},bj a u=true->bj b v=true->SeqAt.EqAt A s u v (decide (DT.k a=DT.k b)):=by
  intro A a b u v h1 h2
  have hd:decide (DT.k a=DT.k b)=decide (a=b):=by
   by_cases e:a=b
   ·subst e; simp
   ·have:¬(DT.k a=DT.k b):=fun z=>e (by injection z)
    rw [decide_eq_false this,decide_eq_false e]
  rw [hd]
  rcases aj h1 with ⟨i,t,rfl,rfl⟩ | ⟨i,t,rfl,rfl⟩
  ·rcases aj h2 with ⟨j,u,rfl,rfl⟩ | ⟨j,u,rfl,rfl⟩
   ·rw [ow]; exact SeqAt.EqAt.int_int i t j u
   ·rw [oq]; exact SeqAt.EqAt.int_str i t j u
  ·rcases aj h2 with ⟨j,u,rfl,rfl⟩ | ⟨j,u,rfl,rfl⟩
   ·rw [oo]; exact SeqAt.EqAt.str_int i t j u
   ·rw [om]
    have:=SeqAt.EqAt.str_str (A:=A) (s:=s) i t j u
    rwa [show (i == j)=decide (i=j) from by by_cases e:i=j <;> simp [e]] at this
 have kt:∀{A:Around}{a:Key}{u:Value}{b:Addr}{items:Array Value},A.units<cLine->bj a u=true->s.heap.IsTuple b items->SeqAt.EqAt A s u (.ref b) false/\SeqAt.EqAt A s (.ref b) u false:=by
  intro A a u b items hu h1 ht
  rcases aj h1 with ⟨i,t,rfl,rfl⟩ | ⟨i,t,rfl,rfl⟩
  ·exact ⟨SeqAt.EqAt.int_tuple i t ht hu,SeqAt.EqAt.tuple_int i t ht hu⟩
  ·exact ⟨SeqAt.EqAt.str_tuple i t ht hu,SeqAt.EqAt.tuple_str i t ht hu⟩
 have kl:∀{A:Around}{a:Key}{u:Value}{b:Addr}{items:Array Value},A.units<cLine->bj a u=true->s.heap.IsList b items->SeqAt.EqAt A s u (.ref b) false/\SeqAt.EqAt A s (.ref b) u false:=by
  intro A a u b items hu h1 ht
  rcases aj h1 with ⟨i,t,rfl,rfl⟩ | ⟨i,t,rfl,rfl⟩
  ·exact ⟨SeqAt.EqAt.int_list i t ht hu,SeqAt.EqAt.list_int i t ht hu⟩
  ·exact ⟨SeqAt.EqAt.str_list i t ht hu,SeqAt.EqAt.list_str i t ht hu⟩
 intro d
 induction d with
 | zero =>
  intro A x y u v hdx hdy hu hx hy
  cases x with
  | t l=>exact absurd hdx (by show ¬(DT.depths l+1<=0); omega)
  | s l=>exact absurd hdx (by show ¬(DT.depths l+1<=0); omega)
  | k a =>
   cases y with
   | t l=>exact absurd hdy (by show ¬(DT.depths l+1<=0); omega)
   | s l=>exact absurd hdy (by show ¬(DT.depths l+1<=0); omega)
   | k b=>exact leaves hx hy
 | succ d ih =>
  intro A x y u v hdx hdy hu hx hy
  have items:∀{l m:List DT}{i j:Array Value},DT.depths l<=d->DT.depths m<=d->DAts s.heap l i.toList->DAts s.heap m j.toList->∀n (h1:n<i.size) (h2:n<j.size),SeqAt.EqAt A.in1 s i[n] j[n] (decide (l[n]?=m[n]?)):=by
   intro l m i j hl hm hi hj n h1 h2
   obtain ⟨x,ex,hx⟩:=hi.get (i:=n) (v:=i[n]) (by simp [h1])
   obtain ⟨y,ey,hy⟩:=hj.get (i:=n) (v:=j[n]) (by simp [h2])
   rw [ex,ey]
   have hd:decide ((some x:Option DT)=some y)=decide (x=y):=by
    by_cases e:x=y
    ·subst e; simp
    ·rw [decide_eq_false e,decide_eq_false fun z=>e (Option.some.inj z)]
   rw [hd]
   exact ih (DT.depths_get hl ex) (DT.depths_get hm ey) (by show A.units+1+d<cLine; omega) hx hy
  cases x with
  | k a =>
   cases y with
   | k b=>exact leaves hx hy
   | t l =>
    obtain ⟨b,i,rfl,hi,_⟩:=hy
    rw [decide_eq_false (by intro z; cases z)]
    exact (kt (by omega) hx hi).1
   | s l =>
    obtain ⟨b,i,rfl,hi,_⟩:=hy
    rw [decide_eq_false (by intro z; cases z)]
    exact (kl (by omega) hx hi).1
  | t l =>
   have hl:DT.depths l<=d:=by have:DT.depths l+1<=d+1:=hdx; omega
   have hx0:=hx
   obtain ⟨a,i,rfl,hi,hx⟩:=hx
   cases y with
   | k b =>
    rw [decide_eq_false (by intro z; cases z)]
    exact (kt (by omega) hy hi).2
   | s m =>
    obtain ⟨b,j,rfl,hj,_⟩:=hy
    rw [decide_eq_false (by intro z; cases z)]
    exact SeqAt.EqAt.tuple_list hi hj (by omega)
   | t m =>
    have hm:DT.depths m<=d:=by have:DT.depths m+1<=d+1:=hdy; omega
    have hy0:=hy
    obtain ⟨b,j,rfl,hj,hy⟩:=hy
    by_cases hab:a=b
    ·subst hab
     have e:DT.t l=DT.t m:=DAt.inj _ (Nat.le_refl _) hx0 hy0
     rw [decide_eq_true e]
     exact SeqAt.EqAt.same _
    ·have r:=SeqAt.RcAt.tuples (A:=A) hi hj (by omega) (items hl hm hx hy)
     have li:=hx.length
     have lj:=hy.length
     simp only [Array.length_toList] at li lj
     have q:((List.range (min i.size j.size)).all (fun n=>decide (l[n]?=m[n]?)) && i.size == j.size)=decide (DT.t l=DT.t m):=by
      by_cases e:l.length=m.length
      ·have e1:i.size=j.size:=by omega
       rw [<-e1,Nat.min_self,<-li,bW e]
       by_cases e2:l=m
       ·subst e2; simp
       ·have:¬(DT.t l=DT.t m):=fun z=>e2 (by injection z)
        rw [decide_eq_false this,decide_eq_false e2]; rfl
      ·have e1:(i.size == j.size)=false:=by simp; omega
       have:¬(DT.t l=DT.t m):=fun z=>e (by injection z with z; rw [z])
       rw [e1,decide_eq_false this,Bool.and_false]
     rw [q] at r
     exact .of_refs hab r
  | s l =>
   have hl:DT.depths l<=d:=by have:DT.depths l+1<=d+1:=hdx; omega
   have hx0:=hx
   obtain ⟨a,i,rfl,hi,hx⟩:=hx
   cases y with
   | k b =>
    rw [decide_eq_false (by intro z; cases z)]
    exact (kl (by omega) hy hi).2
   | t m =>
    obtain ⟨b,j,rfl,hj,_⟩:=hy
    rw [decide_eq_false (by intro z; cases z)]
    exact SeqAt.EqAt.list_tuple hi hj (by omega)
   | s m =>
    have hm:DT.depths m<=d:=by have:DT.depths m+1<=d+1:=hdy; omega
    have hy0:=hy
    obtain ⟨b,j,rfl,hj,hy⟩:=hy
    by_cases hab:a=b
    ·subst hab
     have e:DT.s l=DT.s m:=DAt.inj _ (Nat.le_refl _) hx0 hy0
     rw [decide_eq_true e]
     exact SeqAt.EqAt.same _
    ·have li:=hx.length
     have lj:=hy.length
     simp only [Array.length_toList] at li lj
     by_cases e:l.length=m.length
     ·have r:=SeqAt.RcAt.lists (A:=A) hi hj (by omega) (by omega) (items hl hm hx hy)
      rw [<-li,bW e] at r
      have q:decide (l=m)=decide (DT.s l=DT.s m):=by
       by_cases e2:l=m
       ·subst e2; simp
       ·have:¬(DT.s l=DT.s m):=fun z=>e2 (by injection z)
        rw [decide_eq_false this,decide_eq_false e2]
      rw [q] at r
      exact .of_refs hab r
     ·have:¬(DT.s l=DT.s m):=fun z=>e (by injection z with z; rw [z])
      rw [decide_eq_false this]
      exact .of_refs hab (SeqAt.RcAt.lists_lengths hi hj (by simp; omega) (by omega))
end
end L2
end

section
set_option Elab.async false
set_option linter.all false
set_option maxRecDepth 100000
namespace L2
open PySem PySem.Spec PyProof.Rows
open Sem (wp)
theorem t6 (a b:Key):decide (DT.k a=DT.k b)=decide (a=b):=by
 by_cases e:a=b
 ·subst e; simp
 ·rw [decide_eq_false e,decide_eq_false fun z=>e (by injection z)]
theorem wr (l m:List DT):decide (DT.t l=DT.t m)=decide (l=m):=by
 by_cases e:l=m
 ·subst e; simp
 ·rw [decide_eq_false e,decide_eq_false fun z=>e (by injection z)]
theorem wt (l m:List DT):decide (DT.s l=DT.s m)=decide (l=m):=by
 by_cases e:l=m
 ·subst e; simp
 ·rw [decide_eq_false e,decide_eq_false fun z=>e (by injection z)]
theorem t5 (x y:DT):decide ((some x:Option DT)=some y)=decide (x=y):=by
 by_cases e:x=y
 ·subst e; simp
 ·rw [decide_eq_false e,decide_eq_false fun z=>e (Option.some.inj z)]
section
variable {A:Around}{s:Shared}
theorem io {d:Nat}(hu:A.units+1+d<cLine) {l m:List DT}{i j:Array Value}(hl:DT.depths l<=d) (hm:DT.depths m<=d) (hi:DAts s.heap l i.toList) (hj:DAts s.heap m j.toList) :
  ∀n (h1:n<i.size) (h2:n<j.size),SeqAt.EqAt A.in1 s i[n] j[n] (decide (l[n]?=m[n]?)):=by
 intro n h1 h2
 obtain ⟨x,ex,hx⟩:=hi.get (i:=n) (v:=i[n]) (by simp [h1])
 obtain ⟨y,ey,hy⟩:=hj.get (i:=n) (v:=j[n]) (by simp [h2])
 rw [ex,ey,t5]
 exact wo d (DT.depths_get hl ex) (DT.depths_get hm ey) hu hx hy
theorem qi {l m:List DT}{i j:Array Value}(hi:DAts s.heap l i.toList) (hj:DAts s.heap m j.toList):((List.range (min i.size j.size)).all (fun n=>decide (l[n]?=m[n]?)) && i.size == j.size)=decide (l=m):=by
 have li:=hi.length
 have lj:=hj.length
 simp only [Array.length_toList] at li lj
 by_cases e:l.length=m.length
 ·have e1:i.size=j.size:=by omega
  rw [<-e1,Nat.min_self,<-li,bW e]
  simp
 ·have e1:(i.size == j.size)=false:=by simp; omega
  rw [e1,decide_eq_false fun z=>e (by rw [z]),Bool.and_false]
theorem wS {x y:DT}{u v:Value}(dx:x.depth<=8) (dy:y.depth<=8) (hu:A.units+16<cLine) (hx:DAt s.heap x u) (hy:DAt s.heap y v):SeqAt.RcAt A s u v (decide (x=y)):=by
 cases x with
 | k a =>
  rcases aj (show bj a u=true from hx) with ⟨i,t,rfl,rfl⟩ | ⟨i,t,rfl,rfl⟩
  ·cases y with
   | k b =>
    rw [t6]
    rcases aj (show bj b v=true from hy) with ⟨j,t',rfl,rfl⟩ | ⟨j,t',rfl,rfl⟩
    ·rw [ow]; exact SeqAt.RcAt.int_int i t j t'
    ·rw [oq]; exact SeqAt.RcAt.int_str i t j t'
   | t m=>obtain ⟨b,j,rfl,hj,_⟩:=hy; rw [decide_eq_false (by intro z; cases z)]; exact SeqAt.RcAt.int_tuple i t hj (by omega)
   | s m=>obtain ⟨b,j,rfl,hj,_⟩:=hy; rw [decide_eq_false (by intro z; cases z)]; exact SeqAt.RcAt.int_list i t hj (by omega)
  ·cases y with
   | k b =>
    rw [t6]
    rcases aj (show bj b v=true from hy) with ⟨j,t',rfl,rfl⟩ | ⟨j,t',rfl,rfl⟩
    ·rw [oo]; exact SeqAt.RcAt.str_int i t j t'
    ·rw [om]
     have:=SeqAt.RcAt.str_str (A:=A) (s:=s) i t j t'
     rwa [show (i == j)=decide (i=j) from by by_cases e:i=j <;> simp [e]] at this
   | t m=>obtain ⟨b,j,rfl,hj,_⟩:=hy; rw [decide_eq_false (by intro z; cases z)]; exact SeqAt.RcAt.str_tuple i t hj (by omega)
   | s m=>obtain ⟨b,j,rfl,hj,_⟩:=hy; rw [decide_eq_false (by intro z; cases z)]; exact SeqAt.RcAt.str_list i t hj (by omega)
 | t l =>
  obtain ⟨a,i,rfl,hi,hx⟩:=hx
  have dl:DT.depths l<=7:=by have:DT.depths l+1<=8:=dx; omega
  cases y with
  | k b =>
   rw [decide_eq_false (by intro z; cases z)]
   rcases aj (show bj b v=true from hy) with ⟨j,t',rfl,rfl⟩ | ⟨j,t',rfl,rfl⟩
   ·exact SeqAt.RcAt.tuple_int j t' hi (by omega)
   ·exact SeqAt.RcAt.tuple_str j t' hi (by omega)
  | t m =>
   obtain ⟨b,j,rfl,hj,hy⟩:=hy
   have dm:DT.depths m<=7:=by have:DT.depths m+1<=8:=dy; omega
   have r:=SeqAt.RcAt.tuples (A:=A) hi hj (by omega) (io (by omega) dl dm hx hy)
   rw [qi hx hy] at r
   rw [wr]; exact r
  | s m=>obtain ⟨b,j,rfl,hj,_⟩:=hy; rw [decide_eq_false (by intro z; cases z)]; exact SeqAt.RcAt.tuple_list hi hj (by omega)
 | s l =>
  obtain ⟨a,i,rfl,hi,hx⟩:=hx
  have dl:DT.depths l<=7:=by have:DT.depths l+1<=8:=dx; omega
  cases y with
  | k b =>
   rw [decide_eq_false (by intro z; cases z)]
   rcases aj (show bj b v=true from hy) with ⟨j,t',rfl,rfl⟩ | ⟨j,t',rfl,rfl⟩
   ·exact SeqAt.RcAt.list_int j t' hi (by omega)
   ·exact SeqAt.RcAt.list_str j t' hi (by omega)
  | t m=>obtain ⟨b,j,rfl,hj,_⟩:=hy; rw [decide_eq_false (by intro z; cases z)]; exact SeqAt.RcAt.list_tuple hi hj (by omega)
  | s m =>
   obtain ⟨b,j,rfl,hj,hy⟩:=hy
   have dm:DT.depths m<=7:=by have:DT.depths m+1<=8:=dy; omega
   have li:=hx.length
   have lj:=hy.length
   simp only [Array.length_toList] at li lj
   rw [wt]
   by_cases e:l.length=m.length
   ·have r:=SeqAt.RcAt.lists (A:=A) hi hj (by omega) (by omega) (io (by omega) dl dm hx hy)
    rw [<-li,bW e] at r
    exact r
   ·rw [decide_eq_false fun z=>e (by rw [z])]
    exact SeqAt.RcAt.lists_lengths hi hj (by simp; omega) (by omega)
theorem wT {x y:DT}{u v:Value}(dx:x.depth<=8) (dy:y.depth<=8) (hu:A.units+16<cLine) (hx:DAt s.heap x u) (hy:DAt s.heap y v):SeqAt.RcNeAt A s u v (!decide (x=y)):=by
 cases x with
 | k a =>
  rcases aj (show bj a u=true from hx) with ⟨i,t,rfl,rfl⟩ | ⟨i,t,rfl,rfl⟩
  ·cases y with
   | k b =>
    rw [t6]
    rcases aj (show bj b v=true from hy) with ⟨j,t',rfl,rfl⟩ | ⟨j,t',rfl,rfl⟩
    ·rw [ow]; exact SeqAt.RcNeAt.int_int i t j t'
    ·rw [oq]; exact SeqAt.RcNeAt.int_str i t j t'
   | t m=>obtain ⟨b,j,rfl,hj,_⟩:=hy; rw [decide_eq_false (by intro z; cases z)]; exact SeqAt.RcNeAt.int_tuple i t hj (by omega)
   | s m=>obtain ⟨b,j,rfl,hj,_⟩:=hy; rw [decide_eq_false (by intro z; cases z)]; exact SeqAt.RcNeAt.int_list i t hj (by omega)
  ·cases y with
   | k b =>
    rw [t6]
    rcases aj (show bj b v=true from hy) with ⟨j,t',rfl,rfl⟩ | ⟨j,t',rfl,rfl⟩
    ·rw [oo]; exact SeqAt.RcNeAt.str_int i t j t'
    ·rw [om]
     have:=SeqAt.RcNeAt.str_str (A:=A) (s:=s) i t j t'
     rwa [show (i == j)=decide (i=j) from by by_cases e:i=j <;> simp [e]] at this
   | t m=>obtain ⟨b,j,rfl,hj,_⟩:=hy; rw [decide_eq_false (by intro z; cases z)]; exact SeqAt.RcNeAt.str_tuple i t hj (by omega)
   | s m=>obtain ⟨b,j,rfl,hj,_⟩:=hy; rw [decide_eq_false (by intro z; cases z)]; exact SeqAt.RcNeAt.str_list i t hj (by omega)
 | t l =>
  obtain ⟨a,i,rfl,hi,hx⟩:=hx
  have dl:DT.depths l<=7:=by have:DT.depths l+1<=8:=dx; omega
  cases y with
  | k b =>
   rw [decide_eq_false (by intro z; cases z)]
   rcases aj (show bj b v=true from hy) with ⟨j,t',rfl,rfl⟩ | ⟨j,t',rfl,rfl⟩
   ·exact SeqAt.RcNeAt.tuple_int j t' hi (by omega)
   ·exact SeqAt.RcNeAt.tuple_str j t' hi (by omega)
  | t m =>
   obtain ⟨b,j,rfl,hj,hy⟩:=hy
   have dm:DT.depths m<=7:=by have:DT.depths m+1<=8:=dy; omega
   have r:=SeqAt.RcNeAt.tuples (A:=A) hi hj (by omega) (io (by omega) dl dm hx hy)
   rw [qi hx hy] at r
   rw [wr]; exact r
  | s m=>obtain ⟨b,j,rfl,hj,_⟩:=hy; rw [decide_eq_false (by intro z; cases z)]; exact SeqAt.RcNeAt.tuple_list hi hj (by omega)
 | s l =>
  obtain ⟨a,i,rfl,hi,hx⟩:=hx
  have dl:DT.depths l<=7:=by have:DT.depths l+1<=8:=dx; omega
  cases y with
  | k b =>
   rw [decide_eq_false (by intro z; cases z)]
   rcases aj (show bj b v=true from hy) with ⟨j,t',rfl,rfl⟩ | ⟨j,t',rfl,rfl⟩
   ·exact SeqAt.RcNeAt.list_int j t' hi (by omega)
   ·exact SeqAt.RcNeAt.list_str j t' hi (by omega)
  | t m=>obtain ⟨b,j,rfl,hj,_⟩:=hy; rw [decide_eq_false (by intro z; cases z)]; exact SeqAt.RcNeAt.list_tuple hi hj (by omega)
  | s m =>
   obtain ⟨b,j,rfl,hj,hy⟩:=hy
   have dm:DT.depths m<=7:=by have:DT.depths m+1<=8:=dy; omega
   have li:=hx.length
   have lj:=hy.length
   simp only [Array.length_toList] at li lj
   rw [wt]
   by_cases e:l.length=m.length
   ·have r:=SeqAt.RcNeAt.lists (A:=A) hi hj (by omega) (by omega) (io (by omega) dl dm hx hy)
    rw [<-li,bW e] at r
    exact r
   ·rw [decide_eq_false fun z=>e (by rw [z])]
    exact SeqAt.RcNeAt.lists_lengths hi hj (by simp; omega) (by omega)
end
mutual
def DIn (K:PySem.W.Frag) (H:Hp):DT->V->Prop
 | .k a,v=>v=kV a
 | .t l,v=>∃b xs,v=.ref b/\SqT K H b xs/\DIns K H l xs
 | .s l,v=>∃b xs,v=.ref b/\SqL K H b xs/\DIns K H l xs
def DIns (K:PySem.W.Frag) (H:Hp):List DT->List V->Prop
 | [],vs=>vs=[]
 | k::r,vs=>∃v us,vs=v::us/\DIn K H k v/\DIns K H r us
end
section
variable {X:Cx}{pins:List (Addr×Obj)}{σ:St}{H:Hp}{s:Shared}
theorem i4 (I:Inv X pins σ H s):∀(d:Nat) {k:DT}{v:V}{u:Value},k.depth<=d->DIn X.K H k v->RelV v u->DAt s.heap k u:=by
 have key:∀(d:Nat) (ih:∀{k:DT}{v:V}{u:Value},k.depth<=d->DIn X.K H k v->RelV v u->DAt s.heap k u) (ks:List DT) (vs:List V) (us:List Value),DT.depths ks<=d->DIns X.K H ks vs->Vals vs us->DAts s.heap ks us:=by
  intro d ih ks
  induction ks with
  | nil =>
   intro vs us _ hx r
   have e:vs=[]:=hx
   subst e
   cases r
   rfl
  | cons k ks ihl =>
   intro vs us hd hx r
   obtain ⟨v,vs',rfl,h1,h2⟩:=hx
   cases r with
   | @cons _ u _ us' r1 r2 =>
    have hd':max k.depth (DT.depths ks)<=d:=hd
    exact ⟨u,us',rfl,ih (by omega) h1 r1,ihl vs' us' (by omega) h2 r2⟩
 intro d
 induction d with
 | zero =>
  intro k v u hd hx r
  cases k with
  | t l=>exact absurd hd (by show ¬(DT.depths l+1<=0); omega)
  | s l=>exact absurd hd (by show ¬(DT.depths l+1<=0); omega)
  | k b =>
   have e:v=kV b:=hx
   subst e
   exact gH (P:=X.prog) (w:=X.w) r
 | succ d ih =>
  intro k v u hd hx r
  cases k with
  | k b =>
   have e:v=kV b:=hx
   subst e
   exact gH (P:=X.prog) (w:=X.w) r
  | t l =>
   obtain ⟨b,xs,rfl,hb,hi⟩:=hx
   cases (show u=Value.ref b from r)
   obtain ⟨its,rv,ht,_⟩:=I.tuple hb
   exact ⟨b,its.toArray,rfl,ht,by simpa using key d (fun h1=>ih h1) l xs its (by have:DT.depths l+1<=d+1:=hd; omega) hi rv⟩
  | s l =>
   obtain ⟨b,xs,rfl,hb,hi⟩:=hx
   cases (show u=Value.ref b from r)
   obtain ⟨its,rv,ht,_⟩:=I.list hb
   exact ⟨b,its.toArray,rfl,ht.isList,by simpa using key d (fun h1=>ih h1) l xs its (by have:DT.depths l+1<=d+1:=hd; omega) hi rv⟩
theorem i3 (I:Inv X pins σ H s):∀{ks:List DT}{vs:List V}{us:List Value},DT.depths ks<=8->DIns X.K H ks vs->Vals vs us->DAts s.heap ks us
 | [],vs,us,_,hx,r=>by
  have e:vs=[]:=hx
  subst e
  cases r
  rfl
 | k::ks,vs,us,hd,hx,r=>by
  obtain ⟨v,vs',rfl,h1,h2⟩:=hx
  cases r with
  | @cons _ u _ us' r1 r2 =>
   have hd':max k.depth (DT.depths ks)<=8:=hd
   exact ⟨u,us',rfl,i4 I 8 (by omega) h1 r1,i3 I (by omega) h2 r2⟩
end
def sI (K:PySem.W.Frag):R2:=fun x y H Q=>∃d e:DT,DIn K H d x/\DIn K H e y/\d.depth<=8/\e.depth<=8/\Q (.bl (decide (d=e))) H
def wL (K:PySem.W.Frag):R2:=fun x y H Q=>∃d e:DT,DIn K H d x/\DIn K H e y/\d.depth<=8/\e.depth<=8/\Q (.bl (!decide (d=e))) H
section
variable {X:Cx}
theorem fS (hu:X.A.units+16<cLine):OpR X (compareOp .Eq) (sI X.K):=by
 intro pins s σ H x y v u Q I rx ry h
 obtain ⟨d,e,hx,hy,dx,dy,q⟩:=h
 exact wS dx dy hu (i4 I 8 dx hx rx) (i4 I 8 dy hy ry) X.prog X.w X.xe _ ⟨.bl _,H,I,rfl,q⟩
theorem ut (hu:X.A.units+16<cLine):OpR X (compareOp .NotEq) (wL X.K):=by
 intro pins s σ H x y v u Q I rx ry h
 obtain ⟨d,e,hx,hy,dx,dy,q⟩:=h
 exact wT dx dy hu (i4 I 8 dx hx rx) (i4 I 8 dy hy ry) X.prog X.w X.xe _ ⟨.bl _,H,I,rfl,q⟩
def u3 (K:PySem.W.Frag) (neg:Bool):R2:=fun x y H Q=>∃(d:DT) (ds:List DT) (p:Addr) (xs:List V),DIn K H d x/\y=.ref p/\(SqL K H p xs∨SqT K H p xs)/\DIns K H ds xs/\d.depth<=8/\DT.depths ds<=8/\Q (.bl (if neg then !decide (d∈ds) else decide (d∈ds))) H
open Classical in
theorem i8 {h:Heap}{d:DT}(d8:d.depth<=8):∀{ds:List DT}{us:List Value},DAts h ds us->DT.depths ds<=8->us.any (fun u=>@decide (DAt h d u) (propDecidable _))=decide (d∈ds)
 | [],us,e,_=>by
  have e':us=[]:=e
  subst e'
  rfl
 | x::ds,us,e,hd=>by
  obtain ⟨u,us',rfl,h1,h2⟩:=e
  have hd':max x.depth (DT.depths ds)<=8:=hd
  rw [List.any_cons,i8 d8 h2 (by omega)]
  by_cases q:d=x
  ·subst q
   simp [h1]
  ·have n:¬DAt h d u:=fun z=>q (DAt.inj 8 d8 z h1)
   simp [n,q]
open Classical in
theorem lR {A:Around}{s:Shared}{d:DT}{v:Value}(d8:d.depth<=8) (hu:A.units+8<cLine) (hd:DAt s.heap d v):∀{ds:List DT}{us:List Value},DAts s.heap ds us->DT.depths ds<=8->∀u∈us,SeqAt.EqAt A s u v (@decide (DAt s.heap d u) (propDecidable _))
 | [],us,e,_,u,hm=>by
  have e':us=[]:=e
  subst e'
  cases hm
 | x::ds,us,e,h8,u,hm=>by
  obtain ⟨u',us',rfl,h1,h2⟩:=e
  have h8':max x.depth (DT.depths ds)<=8:=h8
  rcases List.mem_cons.mp hm with rfl | hm
  ·have q:=wo 8 (A:=A) (by omega) d8 hu h1 hd
   by_cases z:x=d
   ·subst z
    rw [decide_eq_true h1]
    rwa [decide_eq_true rfl] at q
   ·have n:¬DAt s.heap d u:=fun w=>z (DAt.inj 8 d8 w h1).symm
    rw [decide_eq_false n]
    rwa [decide_eq_false z] at q
  ·exact lR d8 hu hd h2 (by omega) u hm
theorem uu (hu:X.A.units+16<cLine):OpR X (compareOp .In) (u3 X.K false):=by
 intro pins s σ H x y v u Q I rx ry h
 obtain ⟨d,ds,p,xs,hx,rfl,hq,hds,d8,ds8,q⟩:=h
 cases ry
 have hd:=i4 I 8 d8 hx rx
 have hu':X.A.in1.units+8<cLine:=by show X.A.units+1+8<cLine; omega
 rcases hq with hq | hq
 ·obtain ⟨its,r,pl,hz⟩:=I.list hq
  have hi:=i3 I ds8 hds r
  refine SeqAt.in_listAt _ pl.isList (fun w hw=>lR d8 hu' hd hi ds8 w (by simpa using hw)) ⟨.bl _,H,I,rfl,?_⟩
  rw [List.any_toArray,i8 d8 hi ds8]
  exact q
 ·obtain ⟨its,r,pl,hz⟩:=I.tuple hq
  have hi:=i3 I ds8 hds r
  refine SeqAt.in_tupleAt _ pl (fun w hw=>lR d8 hu' hd hi ds8 w (by simpa using hw)) ⟨.bl _,H,I,rfl,?_⟩
  rw [List.any_toArray,i8 d8 hi ds8]
  exact q
theorem iS (hu:X.A.units+16<cLine):OpR X (compareOp .NotIn) (u3 X.K true):=by
 intro pins s σ H x y v u Q I rx ry h
 obtain ⟨d,ds,p,xs,hx,rfl,hq,hds,d8,ds8,q⟩:=h
 cases ry
 have hd:=i4 I 8 d8 hx rx
 have hu':X.A.in1.units+8<cLine:=by show X.A.units+1+8<cLine; omega
 rcases hq with hq | hq
 ·obtain ⟨its,r,pl,hz⟩:=I.list hq
  have hi:=i3 I ds8 hds r
  refine SeqAt.notIn_listAt _ pl.isList (fun w hw=>lR d8 hu' hd hi ds8 w (by simpa using hw)) ⟨.bl _,H,I,rfl,?_⟩
  rw [List.any_toArray,i8 d8 hi ds8]
  exact q
 ·obtain ⟨its,r,pl,hz⟩:=I.tuple hq
  have hi:=i3 I ds8 hds r
  refine SeqAt.notIn_tupleAt _ pl (fun w hw=>lR d8 hu' hd hi ds8 w (by simpa using hw)) ⟨.bl _,H,I,rfl,?_⟩
  rw [List.any_toArray,i8 d8 hi ds8]
  exact q
end
end L2
end

section
set_option Elab.async false
set_option linter.all false
set_option maxRecDepth 100000
namespace L2
open PySem PySem.Spec PyProof.Rows
open Sem (wp)
def sh (z:Str) (lo hi:Option Int):Str:=⟨((z.cps.toList.drop (HT.sIx z.length 0 lo)).take (HT.sIx z.length z.length hi-HT.sIx z.length 0 lo)).toArray⟩
theorem sliceRange_one (a b:Nat):sliceRange (a:Int) (b:Int) 1=(List.range (b-a)).map (fun k=>a+k):=by
 unfold sliceRange
 simp only [show (1:Int) > 0 from by decide,if_true]
 by_cases h:(a:Int)<(b:Int)
 ·have e:(if (a:Int)<(b:Int) then ((b:Int)-a+1-1) / 1 else 0).toNat=b-a:=by rw [if_pos h]; omega
  rw [e]
  exact List.map_congr_left fun k _=>by omega
 ·have e:(if (a:Int)<(b:Int) then ((b:Int)-a+1-1) / 1 else 0).toNat=b-a:=by rw [if_neg h]; omega
  rw [e]
  exact List.map_congr_left fun k _=>by omega
theorem oN (v:Option Int) (n d:Nat):(match v with | none=>(d:Int) | some i=>max 0 (min (if i<0 then i+(n:Int) else i) (n:Int)))=((HT.sIx n d v:Nat):Int):=by
 cases v with
 | none=>rfl
 | some i =>
  rw [<-HT.clip_eq i n d]
  dsimp only
  by_cases h:i<0
  ·rw [if_pos h,if_pos h]; omega
  ·rw [if_neg h,if_neg h]; omega
theorem g0 (lo hi:Option Int) (n:Nat):Builtin.Str.strSliceIndices lo hi 1 n=(List.range (HT.sIx n n hi-HT.sIx n 0 lo)).map (fun k=>HT.sIx n 0 lo+k):=by
 have e1:=oN lo n 0
 have e2:=oN hi n n
 rw [<-sliceRange_one,<-e1,<-e2]
 unfold Builtin.Str.strSliceIndices
 simp only [show (1:Int) > 0 from by decide,if_true]
 cases lo <;> cases hi <;> rfl
theorem qD (z:Str) (lo hi:Option Int):Txt.slice z lo hi=sh z lo hi:=by
 have ha:HT.sIx z.length 0 lo<=z.length:=HT.sIx_le _ _ (Nat.zero_le _) _
 have hb:HT.sIx z.length z.length hi<=z.length:=HT.sIx_le _ _ (Nat.le_refl _) _
 have hlen:z.cps.toList.length=z.length:=by simp [Str.length]
 have pick:(Builtin.Str.strSliceIndices lo hi 1 z.length).filterMap (z.cps[·]?)=(z.cps.toList.drop (HT.sIx z.length 0 lo)).take (HT.sIx z.length z.length hi-HT.sIx z.length 0 lo):=by
  rw [g0]
  generalize HT.sIx z.length 0 lo=a at *
  generalize HT.sIx z.length z.length hi=b at *
  have h:=StrLaws.picks z.cps.toList (b-a) a (by omega)
  simpa using h
 unfold Txt.slice
 by_cases h:((1:Int) == 1 && (Builtin.Str.strSliceIndices lo hi 1 z.length).length == z.length)=true
 ·rw [if_pos h]
  have hl:(Builtin.Str.strSliceIndices lo hi 1 z.length).length=z.length:=by simpa using h
  rw [g0,List.length_map,List.length_range] at hl
  unfold sh
  have a0:HT.sIx z.length 0 lo=0:=by omega
  have bn:HT.sIx z.length z.length hi-HT.sIx z.length 0 lo=z.cps.toList.length:=by omega
  rw [bn,a0,List.drop_zero,List.take_length]
 ·rw [if_neg h]
  unfold sh
  rw [pick]
section
variable {X:Cx}
def wD:V->Option Int->Option Int->Hp->VK->Prop:=fun x lo hi H Q=>∃z,x=.str z/\z.length<=sizeLine/\Q (.str (sh z lo hi)) H
theorem qE:SlR X wD:=by
 intro pins s σ H x v vl vu lo hi sl Q I rx hs pl pu h
 obtain ⟨z,rfl,hz,q⟩:=h
 obtain ⟨t,rfl⟩:=rx
 rw [<-qD] at q
 refine ⟨"str",_,F.slot_str_getitem.lookup,typeIs_str _ _ _,?_⟩
 obtain ⟨o,ho,hc,hd⟩:=hs
 have fin:∀(l u:Option (Int×Tok)),vl=partValue l->vu=partValue u->lo=l.map (·.1)->hi=u.map (·.1)->wpAny (model X.prog X.w) X.A (getItem (.str z t) (.ref sl)) (EP X pins σ Q) X.xe s:=by
  rintro l u rfl rfl rfl rfl
  refine wpAny_getItem_str_slice (l:=l) (u:=u) (st:=none) ⟨o,ho,hc,hd⟩ rfl (post_val_or_str ⟨Nat.le_trans (Txt.slice_le z _ _) hz,fun t' k=>⟨.str _,H,I.tok _,⟨_,rfl⟩,q⟩⟩)
 cases pl with
 | none =>
  cases pu with
  | none=>exact fin none none rfl rfl rfl rfl
  | int j u=>exact fin none (some (j,u)) rfl rfl rfl rfl
 | int i t' =>
  cases pu with
  | none=>exact fin (some (i,t')) none rfl rfl rfl rfl
  | int j u=>exact fin (some (i,t')) (some (j,u)) rfl rfl rfl rfl
def v4 (K:PySem.W.Frag):V->List V->Hp->VK->Prop:=fun x vs H Q=>∃z p ys,x=.str z/\vs=[.ref p]/\SqL K H p (ys.map V.str)/\(ys.map (·.length)).sum+ys.length * z.length<=16777216/\Q (.str (Txt.join z ys)) H
theorem uO {ys:List Str}:∀{us:List Value},Vals (ys.map V.str) us->StrsAre us ys:=by
 induction ys with
 | nil=>intro us r; cases r; exact .nil
 | cons y ys ih =>
  intro us r
  cases r with
  | cons r1 r2 =>
   obtain ⟨t,rfl⟩:=r1
   exact .cons _ _ (ih r2)
theorem vo:MtM X "str.join" (v4 X.K):=by
 intro pins s σ H x vs v us Q I rx rv h
 obtain ⟨z,p,ys,rfl,rfl,hq,hz,q⟩:=h
 obtain ⟨t,rfl⟩:=rx
 obtain ⟨u,rfl,ru⟩:=rv.one
 cases ru
 obtain ⟨its,r,pl,_⟩:=I.list hq
 exact join_list pl.isList (by simpa using uO r) hz fun t' k=>⟨.str _,H,I.tok _,⟨_,rfl⟩,q⟩
end
end L2
end

section
set_option Elab.async false
set_option linter.all false
set_option maxRecDepth 100000
namespace L2
open PySem PySem.Spec PyProof.Rows
open Sem (wp)
section
variable {X:Cx}
def TyX (K:PySem.W.Frag) (H:Hp) (x:V) (t:Value):Prop:=TyOf K H x t∨(∃a xs,x=.ref a/\t=.type "tuple"/\SqT K H a xs)∨(∃a xs,x=.ref a/\t=.type "list"/\SqL K H a xs)
theorem pJ {pins:List (Addr×Obj)}{σ:St}{H:Hp}{s:Shared}{A:Around}{E:Value->Shared->Prop}{Q:Value->Shared->Prop}{c:Value}{b:Bool}{x:V}{u t:Value}(I:Inv X pins σ H s) (rx:RelV x u) (ty:TyX X.K H x t) (e:PySem.W.kitOne X.K t c=some b) (h:∀tk,Q (.bool b) { s with toks:=tk }) :
  wpAny (model X.prog X.w) A (call (.builtin "isinstance") [u,c]) Q E s:=by
 rcases ty with ty | ⟨a,xs,rfl,rfl,q⟩ | ⟨a,xs,rfl,rfl,q⟩
 ·exact rC I rx ty e h
 ·cases (show u=Value.ref a from rx)
  obtain ⟨its,rv,p,hz⟩:=I.tuple q
  obtain ⟨o,h1,h2,_⟩:=p
  exact PySem.W.kia_one PySem.W.kitx_tuple I.kIn ⟨o,h1,h2⟩ e (fun z=>nomatch z) h
 ·cases (show u=Value.ref a from rx)
  obtain ⟨its,rv,p,hz⟩:=I.list q
  obtain ⟨o,n,h1,h2,_⟩:=p
  exact PySem.W.kia_one PySem.W.kitx_list I.kIn ⟨o,h1,h2⟩ e (fun z=>nomatch z) h
theorem cj:CallR X (.builtin "isinstance") (fun xs H Q=>∃x c t b,xs=[x,.ty c]/\TyX X.K H x t/\PySem.W.kitOne X.K t (.type c)=some b/\Q (.bl b) H):=by
 intro pins s σ H xs us Q I r h
 obtain ⟨x,c,t,b,rfl,ty,hk,q⟩:=h
 obtain ⟨u,v,rfl,ru,rv⟩:=vO r
 cases (show v=Value.type c from rv)
 exact pJ I ru ty hk fun tk=>⟨.bl b,H,I.tok _,rfl,q⟩
theorem wz {bs:List Bool}{us:List Value}(r:Vals (bs.map V.bl) us) {i:Nat}{v:Value}(h:us[i]?=some v):v=.bool ((bs[i]?).getD false)/\i<bs.length:=by
 have hi:i<us.length:=(List.getElem?_eq_some_iff.mp h).1
 have hl:=r.length
 rw [List.length_map] at hl
 have hb:i<bs.length:=by omega
 obtain ⟨u,hu,ru⟩:=r.get (i:=i) (x:=V.bl bs[i]) (by simp [hb])
 rw [h] at hu
 cases hu
 refine ⟨?_,hb⟩
 rw [List.getElem?_eq_getElem hb]
 exact ru
theorem mi (bs:List Bool):((List.range bs.length).all fun i=>(bs[i]?).getD false)=bs.all id:=by
 induction bs with
 | nil=>rfl
 | cons b bs ih =>
  rw [List.length_cons,List.range_succ_eq_map,List.all_cons,List.all_map,List.all_cons,<-ih]
  rfl
theorem i6 (hc:X.calm=true):CallR X (.builtin "all") (fun xs H Q=>∃(p:Addr) (bs:List Bool),xs=[.ref p]/\SqL X.K H p (bs.map V.bl)/\Q (.bl (bs.all id)) H):=by
 intro pins s σ H xs us Q I r h
 obtain ⟨p,bs,rfl,hq,q⟩:=h
 obtain ⟨u,rfl,ru⟩:=kO r
 cases ru
 obtain ⟨its,rv,pl,hz⟩:=I.list hq
 obtain ⟨o,n,ho,_⟩:=id pl
 have hl:=rv.length
 rw [List.length_map] at hl
 refine call_all_walk (wpAny_pyIter_list pl.isList ?_)
 refine ⟨s.heap.objs.size,_,_,_,_,_,fun i=>(bs[i]?).getD false,rfl,Walks.list (prog:=X.prog) (w:=X.w) (A:=X.A.in1) (I.ok.hd hc) s.heap.objs.size p (Nat.ne_of_lt (Heap.lt_size ho)) its.toArray,⟨⟨_,Heap.get?_push_size _ rfl,rfl,rfl⟩,pl.isList.push _⟩,?_,?_⟩
 ·intro i v s' Q' E' hv hq'
  obtain ⟨e,_⟩:=wz rv (i:=i) (v:=v) (by simpa using hv)
  rw [e]
  exact wpAny_truthy_bool hq'
 ·intro h' tk hk
  have I':Inv X pins σ H { s with heap:=h',toks:=tk }:=I.kept fun b o e=>hk b o (by simp; exact Nat.ne_of_lt (Heap.lt_size e)) (Heap.get?_push_of_some _ e)
  rw [List.size_toArray,<-hl,mi]
  exact ⟨.bl _,H,I',rfl,q⟩
theorem pB:OpR X (compareOp .In) (fun x y H Q=>∃c j,x=.str ⟨#[c]⟩/\y=.str j/\Q (.bl (decide (c∈j.cps.toList))) H):=by
 intro pins s σ H x y v u Q I rx ry h
 obtain ⟨c,j,rfl,rfl,q⟩:=h
 rw [<-StrLaws.found_one] at q
 exact qZ pins s σ H _ _ v u Q I rx ry ⟨_,_,rfl,rfl,q⟩
theorem ju (hc:X.calm=true):CallR X (.type "list") (fun xs H Q=>∃(d:Addr) (kvs:List (Key×V)),xs=[.ref d]/\Rd H d (.dK kvs)/\∀l,H l=none->Q (.ref l) (upd H l (.lst (kvs.map fun kv=>kV kv.1)))):=by
 intro pins s σ H xs us Q I r h
 obtain ⟨d,kvs,rfl,hd,q⟩:=h
 obtain ⟨u,rfl,ru⟩:=kO r
 cases ru
 obtain ⟨z,hsys,vs,rel,dd⟩:=lY I.hok hd
 obtain ⟨ep,hat⟩:=dd.dictAt
 have hl:=rel.length
 refine PySem.W.kdl_call (PySem.W.kdl_dict (knd:=aD X.prog X.w) (kvs:=vs) (ep:=ep) hsys) (I.ok.hd hc) hat (by rw [<-hl]; exact z) fun h' tk acc c hk hD hacc=>?_
 have hv:Vals (kvs.map fun kv=>kV kv.1) acc.toList:=by
  obtain ⟨hn,hP⟩:=hacc
  have key:∀(a:List Value) (ks:List (Key×V)) (ws:List (Key×Value)),KV ks ws->a.length=ws.length->(∀(j:Nat) (v:Value),a[j]?=some v->∃k x,ws[j]?=some (k,x)/\(aD X.prog X.w).is k v=true)->Vals (ks.map fun kv=>kV kv.1) a:=by
   intro a ks ws rl
   induction rl generalizing a with
   | nil=>intro ha _; cases a with
    | nil=>exact .nil
    | cons _ _=>cases ha
   | @cons p w' ps ws' hp _ ih =>
    intro ha hj
    cases a with
    | nil=>cases ha
    | cons v a =>
     obtain ⟨k,x,e,hk⟩:=hj 0 v rfl
     have e':w'=(k,x):=by simpa using e
     refine .cons ?_ (ih a (by simpa using ha) fun j v hv=>by simpa using hj (j+1) v (by simpa using hv))
     have ek:p.1=k:=by rw [hp.1,e']
     show RelV (kV p.1) v
     rw [ek]
     rcases aj (show bj k v=true from hk) with ⟨i,t,rfl,rfl⟩ | ⟨i,t,rfl,rfl⟩
     ·exact ⟨t,rfl⟩
     ·exact ⟨t,rfl⟩
  exact key acc.toList kvs vs rel (by rw [Array.length_toList]; exact hn) fun j v hv=>hP j v (by rw [<-Array.getElem?_toList]; exact hv)
 refine ⟨.ref s.heap.objs.size,_,I.laid (o:=.lst (kvs.map fun kv=>kV kv.1)) hk (Nat.le_refl _) ⟨by rw [List.length_map]; exact z,acc.toList,c,hv,by rw [Array.toArray_toList]; exact hD⟩,rfl,q _ I.fresh⟩
end
section
variable {prog:Program}{w:World}{K:Type} [DecidableEq K] {knd:HeapKind prog w K}{A:Around}{E:Value->Shared->Prop}{s:Shared}
theorem jj {d a:Addr}{xs:List (K×Addr×Value)}{k:K}{v:Value}{Q:Value->Shared->Prop}(hu:knd.room A) (hkey:knd.is s.heap k a) (hm:s.heap.DictOfH knd d xs)
  (there:∀p,atKey xs k=some p->Q p.2 { s with toks:=s.toks+knd.draws k })
  (new:atKey xs k=none->∀h',h'.DictOfH knd d (xs++[(k,a,v)])->Heap.SameBut d s.heap h'->Q v { s with heap:=h',toks:=s.toks+knd.draws k })
  (hsz:xs.length<=sizeLine):wpAny (model prog w) A (dictSetDefault d (.ref a) v) Q E s:=by
 obtain ⟨o,es,ep,ho,hc,hd,he,his,hn⟩:=hm
 unfold dictSetDefault
 try with_reducible refine wpAny_holding ?_
 refine wpAny_bind (knd.pyHash hu hkey ?_)
 refine wpAny_bind (wpAny_dictFind_heap (s:={ s with toks:=s.toks+knd.draws k }) hu hkey ho hd he his hn ?_ ?_)
 ·intro hno
  have hnot:k∉xs.map (·.1):=not_mem_keys_of_get hno
  refine wpAny_bind (wpAny_rule (wpAny_bind (wpAny_updateDictKeys (hz:=by have e:=size_of_entries he; omega) (s:={ s with toks:=s.toks+knd.draws k }) ho hd (wpAny_pure (new (atKey_none_of_get hno) _ ⟨_,_,ep+1,Heap.get?_update_self _ ho (Obj.isFreed_of_dict (Obj.data_mapDictKeys hd _)),
   hc.mapDictKeys _,Obj.data_mapDictKeys hd _,?_,?_,?_⟩ (Heap.SameBut.update ..))))))
  ·simp [he,entryOfKey]
  ·intro x hx
   rcases List.mem_append.mp hx with hx | hx
   ·exact knd.keeps (his x hx) ho hd (Heap.SameBut.update ..)
   ·simp only [List.mem_singleton] at hx
    subst hx
    exact knd.keeps hkey ho hd (Heap.SameBut.update ..)
  ·rw [List.map_append,List.nodup_append]
   refine ⟨hn,by simp,?_⟩
   intro x hx y hy
   simp only [List.map_cons,List.map_nil,List.mem_singleton] at hy
   subst hy
   exact fun e=>hnot (e ▸ hx)
 ·intro j p hj
  refine wpAny_bind (wpAny_dictEntries (s:={ s with toks:=s.toks+knd.draws k }) ho hd ?_)
  rw [entry_at he j,hj]
  exact wpAny_bind (wpAny_rule (wpAny_pure (there p (atKey_of_get hn hj))))
theorem gE (knd:HeapKind prog w K) (d a:Addr) (hd:(d == sysModules)=false) (dflt:Value) :
  MeetsIn prog w (Builtin.«dict.setdefault» ⟨[.ref d,.ref a,dflt],[]⟩) (fun A R s=>knd.room A.in1/\∃k xs,knd.is s.heap k a/\s.heap.DictOfH knd d xs/\xs.length<=sizeLine /\
   (∀p,atKey xs k=some p->R (.ok (.ret p.2)) { s with toks:=s.toks+knd.draws k }) /\
   (atKey xs k=none->∀h',h'.DictOfH knd d (xs++[(k,a,dflt)])->Heap.SameBut d s.heap h'->R (.ok (.ret dflt)) { s with heap:=h',toks:=s.toks+knd.draws k })) :=
 .of_wp fun A R s ⟨hu,k,xs,hkey,hm,hz,h1,h2⟩=>by
  unfold Builtin.«dict.setdefault»
  refine wpAny_bind ?_
  unfold Builtin.Dict.keyAndDefault
  refine wpAny_bind (wpAny_notOrdered_dict hm.typeIs ?_)
  show wpAny _ _ (pure (d,Value.ref a,some dflt)) _ _ s
  refine wpAny_pure ?_
  show wpAny _ _ (if (d == sysModules)=true then _ else (dictSetDefault d (.ref a) dflt >>= _)) _ _ s
  rw [if_neg (by rw [hd]; exact Bool.false_ne_true)]
  exact wpAny_bind (jj hu hkey hm (fun p hp=>wpAny_pure ⟨p.2,rfl,h1 p hp⟩) (fun hn h' hm' hs'=>wpAny_pure ⟨dflt,rfl,h2 hn h' hm' hs'⟩) hz)
end
section
variable {X:Cx}
def qN:V->List V->Hp->VK->Prop:=fun x vs H Q=>∃(d b:Addr) (kvs:List (TK×V)) (k:TK) (z:V),x=.ref d/\vs=[.ref b,z]/\H d=some (.dT kvs)/\TKAt H k (.ref b)/\k.depth<=8/\kvs.length<sizeLine /\
 (∀v,bO kvs k=some v->Q v H)/\(bO kvs k=none->Q z (upd H d (.dT (kvs++[(k,z)]))))
theorem rg (hu:X.A.units+16<cLine):MtM X "dict.setdefault" qN:=by
 intro pins s σ H x vs v us Q I rx rv h
 obtain ⟨d,b,kvs,k,z,rfl,rfl,hd,hb,h8,hz,q1,q2⟩:=h
 cases rx
 obtain ⟨u,v,rfl,ru,rz⟩:=rv.two
 cases ru
 obtain ⟨_,hsys,xs,rel,dd⟩:=tZ I.hok I.kIn hd
 have hl:kvs.length=xs.length:=Paired.length rel
 refine call_meetsIn PySem.F.slot_dict_setdefault dd.typeIs PySem.F.entry_dict_setdefault (PySem.F.args_dict_setdefault_3 _ _ _) (gE (bz X.prog X.w) d b hsys v)
  ⟨cr hu,k,xs,lT I.hok I.kIn (TKAt.c 8 h8 hb) h8,dd,by omega,fun p hp=>?_,fun hn h' dd' hs=>?_⟩
 ·have e:=rel.val k
  rw [hp] at e
  cases e2:bO kvs k with
  | none=>rw [e2] at e; exact e.elim
  | some y =>
   rw [e2] at e
   exact ⟨y,H,I.tok _,e,q1 y e2⟩
 ·have e:=rel.val k
  rw [hn] at e
  have e2:bO kvs k=none:=by
   cases e2:bO kvs k with
   | none=>rfl
   | some y=>rw [e2] at e; exact e.elim
  obtain ⟨o,es,ep,hq,h2,h3,h4,_,h5⟩:=dd'
  refine ⟨z,_,gK (ob:=.dT (kvs++[(k,z)])) I (by rw [hd]; exact True.intro) hs ⟨o,hq⟩ ⟨by rw [List.length_append,List.length_singleton]; omega,hsys,_,KT.keeps (kvs:=kvs++[(k,z)]) (xs:=xs++[(k,b,v)]) (Paired.snoc rel ⟨rfl,TKAt.c 8 h8 hb,h8,rz⟩) fun c ys ec=>?_,o,es,ep,hq,h2,h3,h4,h5⟩,rz,q2 e2⟩
  rw [af (tL ec hd (fun z=>nomatch z))]
  exact ec
end
end L2
end

section
set_option Elab.async false
set_option linter.all false
set_option maxRecDepth 100000
namespace L2
open PySem PySem.Spec PyProof.Rows
open Sem (wp)
theorem eR:entryFor table "dict.update.loop"=some Builtin.«dict.update.loop»:=entryFor_of_fast (by kernel_rfl)
theorem bU:plainId "dict.update.loop"=true:=by decide +kernel
theorem lP:typeLookup (.type "list") "keys"=pure none:=am_miss_of_fast (by decide +kernel)
section
variable {prog:Program}{w:World}{A:Around}{E:Value->Shared->Prop}{s:Shared}
theorem rj {a:Addr}{o:Obj}{xs:Array Value}{k:Nat}{Q:Option Value->Shared->Prop}(hx:s.heap.get? a=some o) (hc:o.cls=.type "list") (hdat:o.data=.seq xs k) (hd:o.dict=none) (hA:A.handled=none)
  (h:∀h' tk,(∀b ob,s.heap.get? b=some ob->h'.get? b=some ob)->Q none { s with heap:=h',toks:=tk }):wpAny (model prog w) A (getAttr? (.ref a) "keys") Q E s:=by
 obtain ⟨c,dct,dat,sl⟩:=o
 simp only at hc hdat hd
 subst hc hdat hd
 obtain ⟨hp,g,d,tk,os⟩:=s
 have hT:∀tk',(⟨hp,g,d,tk',os⟩:Shared).TypeIs (.ref a) "list":=fun _=>⟨_,hx,rfl⟩
 have f1:=sub_AttributeError
 have f3:=F.slot_list_getattribute.lookup
 have f4:=F.slot_list_getattribute.bind (.ref a)
 have f5:=am_list_getattr_none
 unfold getAttr? getAttrBy? getAttrBy
 repeat (any_goals (first | assumption | exact hT _ | ((with_reducible show wpAny _ _ (call (Value.builtin "list.__getattribute__") _ _) _ _ _); refine call_meets F.slot_list_getattribute (hT _) am_entry_list_getattribute (F.args_list_getattribute_2 _ _) (meets_getattribute_miss_list a xs k sl "keys" _ lP (by decide +kernel) (by decide +kernel)) ⟨hx,hA,fun h' tk' e hx'=>?_⟩) | wp_step))
 obtain ⟨t',u',he⟩:=hx'.there
 show wpAny _ _ (getattributeRaised _ _ _ _ _ _ _) _ _ _
 unfold getattributeRaised hookOrError attributeErrorLeaves
 repeat (any_goals (first | assumption | wp_step))
 all_goals first | exact h _ _ hx'.keeps | trace_state
def PairAt (h:Heap) (u:Value) (kv:Key×Value):Prop:=∃t ku,u=.ref t/\h.IsTuple t #[ku,kv.2]/\bj kv.1 ku=true
theorem pd {κ:Type} [DecidableEq κ] (kvs:List (κ×Value)) (k:κ) (v:Value):(stored kvs k v).length<=kvs.length+1:=by
 unfold stored
 split
 ·rw [List.length_map]; omega
 ·rw [List.length_append,List.length_singleton]; exact Nat.le_refl _
theorem sM {R:Result->Shared->Prop}(hh:A.handled=none) {D it l:Addr}{items:Array Value}{ps:List (Key×Value)}(hDi:D≠it) (hli:l≠it) (hlD:l≠D) (hps:ps.length=items.size) :
  ∀(n i:Nat) (s:Shared) (acc:List (Key×Value)),items.size-i=n->i<=items.size->acc.length+(items.size-i)<=sizeLine->s.heap.IsListIter it l i->s.heap.IsList l items->s.heap.DictOf (aD prog w) D acc ->
   (∀(j:Nat) (u:Value) (kv:Key×Value),items[j]?=some u->ps[j]?=some kv->PairAt s.heap u kv) ->
   (∀h' tk,h'.DictOf (aD prog w) D (merged acc (ps.drop i))->(∀b o,b≠D->b≠it->s.heap.get? b=some o->h'.get? b=some o)->R (.ok (.ret .none)) { s with heap:=h',toks:=tk }) ->
   codeAny (model prog w) A (.builtin "dict.update.loop" ⟨[.ref D,.ref it,rawInt i,.none],[]⟩) R s:=by
 intro n
 induction n with
 | zero =>
  intro i s acc hn hi hz hit hl hD hp hR
  have e:i=items.size:=by omega
  subst e
  refine codeAny_builtin eR ?_
  rw [Around.under_plainId bU _]
  show wpAny _ A.in1 (pyNext (.ref it) >>= _) _ _ s
  refine wpAny_bind (wpAny_pyNext_list_end hh hit hl (by simp) fun h' eb=>?_)
  show wpAny _ _ (Builtin.Dict.addKeywords D [] >>= _) _ _ _
  refine wpAny_bind (wpAny_pure (wpAny_pure ?_))
  have hD':h'.DictOf (aD prog w) D acc:=hD.extBut eb hDi
  have q:=hR h' s.toks (by rw [List.drop_of_length_le (by omega)]; exact hD') fun b o _ hb e=>eb b o hb e
  exact q
 | succ n ih =>
  intro i s acc hn hi hz hit hl hD hp hR
  have hlt:i<items.size:=by omega
  refine codeAny_builtin eR ?_
  rw [Around.under_plainId bU _]
  show wpAny _ A.in1 (pyNext (.ref it) >>= _) _ _ s
  have hu:items[i]?=some items[i]:=by simp [hlt]
  have hk:ps[i]?=some ps[i]:=List.getElem?_eq_getElem (by omega)
  obtain ⟨t,ku,eu,ht,hku⟩:=hp i _ _ hu hk
  refine wpAny_bind (wpAny_pyNext_list_item hit hl (x:=items[i]) hu fun h1 hit1 hs1=>?_)
  rw [eu]
  have hs1':Heap.SameBut it s.heap h1:=hs1
  have nt:t≠it:=by
   rintro rfl
   obtain ⟨o,ho,hc,_⟩:=ht
   obtain ⟨o',ho',hc',_⟩:=hit
   rw [ho] at ho'; cases ho'
   rw [hc] at hc'; simp at hc'
  have ht1:h1.IsTuple t #[ku,ps[i].2]:=ht.extBut hs1'.extBut nt
  have hT1:Shared.TypeIs { s with heap:=h1 } (.ref t) "tuple":=ht1.typeIs (s:={ s with heap:=h1 })
  obtain ⟨ot,got,hct,nt',hdt⟩:=id ht1
  refine wpAny_bind (wpAny_holding ?_)
  refine wpAny_bind (wpAny_tryCatch ?_)
  unfold Builtin.Dict.pairItems
  refine wpAny_bind (wpAny_typeOf hT1 ?_)
  rw [if_pos (by decide)]
  refine wpAny_bind (wpAny_seqItems got hdt (wpAny_pure ?_))
  show wpAny _ _ (holding [ku,ps[i].2] (dictSet D ku ps[i].2)) _ _ _
  have hD1:h1.DictOf (aD prog w) D acc:=hD.extBut hs1'.extBut hDi
  refine wpAny_holding (wpAny_dictSet_pairs (knd:=aD prog w) (k:=ps[i].1) hku hD1 (fun h2 hD2 hs2=>?_) (by omega))
  have hs2':Heap.SameBut D h1 h2:=hs2
  show wpAny _ _ (again _) _ _ _
  refine wpAny_pure ⟨plainId_quiet bU _,?_⟩
  have hl1:h1.IsList l items:=hl.extBut hs1'.extBut hli
  have kp:∀b o,b≠D->b≠it->s.heap.get? b=some o->h2.get? b=some o:=fun b o h1 h2 e=>hs2'.extBut b o h1 (hs1'.extBut b o h2 e)
  refine ih (i+1) _ (stored acc ps[i].1 ps[i].2) (by omega) hlt (by have:=pd acc ps[i].1 ps[i].2; omega) (hit1.extBut hs2'.extBut (Ne.symm hDi)) (hl1.extBut hs2'.extBut hlD) hD2 (fun j u kv h1 h2=>?_) fun h' tk hD' kp'=>?_
  ·obtain ⟨t2,ku2,e2,ht2,hk2⟩:=hp j u kv h1 h2
   have n1:t2≠it:=by
    rintro rfl
    obtain ⟨o,ho,hc,_⟩:=ht2
    obtain ⟨o',ho',hc',_⟩:=hit
    rw [ho] at ho'; cases ho'
    rw [hc] at hc'; simp at hc'
   have n2:t2≠D:=by
    rintro rfl
    obtain ⟨o,ho,hc,_⟩:=ht2
    obtain ⟨o',_,_,ho',hc',_⟩:=hD
    rw [ho] at ho'; cases ho'
    have:=hc'.1
    rw [hc] at this; simp at this
   obtain ⟨o,ho,r⟩:=ht2
   exact ⟨t2,ku2,e2,⟨o,kp _ o n2 n1 ho,r⟩,hk2⟩
  ·refine hR h' tk ?_ fun b o h1 h2 e=>kp' b o h1 h2 (kp b o h1 h2 e)
   have ed:ps.drop i=ps[i]::ps.drop (i+1):=List.drop_eq_getElem_cons (by omega)
   rw [ed]
   exact hD'
theorem i5 {l:Addr}{o:Obj}{items:Array Value}{n:Nat}{ps:List (Key×Value)}{Q:Value->Shared->Prop}(hh:A.handled=none) (ho:s.heap.get? l=some o) (hc:o.cls=.type "list") (hdt:o.data=.seq items n) (hod:o.dict=none)
  (hps:ps.length=items.size) (hp:∀(j:Nat) (u:Value) (kv:Key×Value),items[j]?=some u->ps[j]?=some kv->PairAt s.heap u kv) (hz:items.size<=sizeLine)
  (h:∀h' tk,h'.DictOf (aD prog w) s.heap.objs.size (merged [] ps)->(∀b o,s.heap.get? b=some o->h'.get? b=some o)->Q (.ref s.heap.objs.size) { s with heap:=h',toks:=tk }) :
  wpAny (model prog w) A (call (.type "dict") [.ref l]) Q E s:=by
 refine callType_codes (Q₁:=fun obj s₁=>obj=.ref s.heap.objs.size/\s₁={ s with heap:=s.heap.push { cls:=.type "dict",data:=.dict #[] } }) F.kt_called_dict (F.kt_typeCall_dict_1 _) F.entry_dict_init (kt_code_dict_new _ ⟨rfl,rfl⟩) ?_
 rintro obj s₁ ⟨rfl,rfl⟩
 have hnew:(s.heap.push { cls:=.type "dict",data:=.dict #[] }).DictOf (aD prog w) s.heap.objs.size []:=Heap.DictOf.new s.heap
 have ho1:(s.heap.push { cls:=.type "dict",data:=.dict #[] }).get? l=some o:=Heap.get?_push_of_some _ ho
 have hlt:l<s.heap.objs.size:=Heap.lt_size ho
 refine ⟨hnew.typeIs,F.args_dict_init_2 _ _,?_⟩
 unfold Builtin.«dict.__init__»
 refine wpAny_bind ?_
 unfold Builtin.Dict.selfAndRest
 refine wpAny_bind (wpAny_notOrdered_dict hnew.typeIs ?_)
 show wpAny _ _ (pure (s.heap.objs.size,[Value.ref l])) _ _ _
 refine wpAny_pure ?_
 show wpAny _ _ (Builtin.Dict.updateFrom "dict.__init__" s.heap.objs.size (.ref l) [] .none) _ _ _
 unfold Builtin.Dict.updateFrom
 have hTl:Shared.TypeIs { s with heap:=s.heap.push { cls:=.type "dict",data:=.dict #[] } } (.ref l) "list":=⟨o,ho1,hc⟩
 refine wpAny_bind (wpAny_typeOf hTl ?_)
 rw [if_pos (by decide)]
 refine wpAny_bind (rj ho1 hc hdt hod hh fun h1 tk1 k1=>?_)
 have k1':∀b ob,(s.heap.push { cls:=.type "dict",data:=.dict #[] }).get? b=some ob->h1.get? b=some ob:=k1
 rw [if_pos (by rfl:(none:Option Value).isNone=true)]
 refine wpAny_bind (wpAny_rule ?_)
 have hl1:h1.IsList l items:=⟨o,k1' _ _ ho1,hc,n,hdt⟩
 refine wpAny_bind (wpAny_pyIter_list (s:={ s with heap:=h1,toks:=tk1 }) hl1 ?_)
 have hD1:h1.DictOf (aD prog w) s.heap.objs.size []:=by
  obtain ⟨od,es,ep,g,r⟩:=hnew
  exact ⟨od,es,ep,k1' _ _ g,r⟩
 have hDlt:s.heap.objs.size<h1.objs.size:=by
  obtain ⟨od,es,ep,g,r⟩:=hD1
  exact Heap.lt_size g
 refine wpAny_pure ⟨plainId_quiet bU _,?_⟩
 refine sM (A:=A.in1) (prog:=prog) (w:=w) hh (D:=s.heap.objs.size) (it:=h1.objs.size) (l:=l) (items:=items) (ps:=ps) (Nat.ne_of_lt hDlt) (Nat.ne_of_lt (Nat.lt_trans hlt hDlt)) (Nat.ne_of_lt hlt) hps items.size 0 _ [] (Nat.sub_zero _) (Nat.zero_le _) (by rw [List.length_nil]; omega)
  ⟨_,Heap.get?_push_size _ rfl,rfl,rfl⟩ (hl1.push _) (hD1.push _) (fun j u kv a b=>?_) fun h' tk hD' kp=>?_
 ·obtain ⟨t,ku,e,ht,hk⟩:=hp j u kv a b
  obtain ⟨ot,g,r⟩:=ht
  exact ⟨t,ku,e,⟨ot,Heap.get?_push_of_some _ (k1' _ _ (Heap.get?_push_of_some _ g)),r⟩,hk⟩
 ·rw [List.drop_zero] at hD'
  refine ⟨rfl,h h' tk hD' fun b ob e=>kp b ob (Nat.ne_of_lt (Heap.lt_size e)) (Nat.ne_of_lt (Nat.lt_trans (Heap.lt_size e) hDlt)) (Heap.get?_push_of_some _ (k1' _ _ (Heap.get?_push_of_some _ e)))⟩
end
section
variable {X:Cx}
theorem ma (hc:X.calm=true):CallR X (.type "dict") (fun xs H Q=>∃(l:Addr) (ts:List Addr) (kvs:List (Key×V)),xs=[.ref l]/\SqL X.K H l (ts.map V.ref)/\ts.length=kvs.length /\
  (∀(j:Nat) (t:Addr) (kv:Key×V),ts[j]?=some t->kvs[j]?=some kv->H t=some (.tup [kV kv.1,kv.2]))/\∀p,H p=none->Q (.ref p) (upd H p (.dK (dH [] kvs)))):=by
 intro pins s σ H xs us Q I r h
 obtain ⟨l,ts,kvs,rfl,hl,hlen,ht,q⟩:=h
 obtain ⟨u,rfl,ru⟩:=kO r
 cases ru
 obtain ⟨its,rv,⟨o,n,ho,hcl,hod,hdt⟩,hz⟩:=I.list hl
 have key:∀(ts:List Addr) (kvs:List (Key×V)),ts.length=kvs.length->(∀(j:Nat) (t:Addr) (kv:Key×V),ts[j]?=some t->kvs[j]?=some kv->H t=some (.tup [kV kv.1,kv.2]))->∃ps:List (Key×Value),KV kvs ps/\∀(j:Nat) (t:Addr) (kv:Key×Value),ts[j]?=some t->ps[j]?=some kv->PairAt s.heap (.ref t) kv:=by
  intro ts
  induction ts with
  | nil =>
   intro kvs hl _
   cases kvs with
   | nil=>exact ⟨[],.nil,fun j t kv e=>by simp at e⟩
   | cons _ _=>cases hl
  | cons t ts ih =>
   intro kvs hl ht
   cases kvs with
   | nil=>cases hl
   | cons kv kvs =>
    obtain ⟨ps,r1,r2⟩:=ih kvs (by simpa using hl) fun j t' kv' a b=>ht (j+1) t' kv' (by simpa using a) (by simpa using b)
    obtain ⟨_,itt,rt,p⟩:=(show ObjOk X.prog X.w X.K H s.heap t (.tup [kV kv.1,kv.2]) from I.hok t _ (ht 0 t kv rfl rfl))
    obtain ⟨a,b,e,ra,rb⟩:=rt.two
    subst e
    refine ⟨(kv.1,b)::ps,.cons ⟨rfl,rb⟩ r1,fun j t' kv' h1 h2=>?_⟩
    cases j with
    | zero =>
     simp at h1 h2
     subst h1 h2
     exact ⟨t,a,rfl,p,gH (P:=X.prog) (w:=X.w) ra⟩
    | succ j=>exact r2 j t' kv' (by simpa using h1) (by simpa using h2)
 obtain ⟨ps,rel,pa⟩:=key ts kvs hlen ht
 have hl1:=rv.length
 rw [List.length_map] at hl1
 have hl2:=rel.length
 refine i5 (prog:=X.prog) (w:=X.w) (ps:=ps) (I.ok.hd hc) ho hcl hdt hod (by rw [List.size_toArray]; omega) (fun j u kv a b=>?_) (by rw [List.size_toArray,<-hl1]; rw [List.length_map] at hz; exact hz) fun h' tk hD kp=>?_
 ·have a':its[j]?=some u:=by simpa using a
  have hj:j<ts.length:=by
   have:=(List.getElem?_eq_some_iff.mp a').1
   omega
  obtain ⟨u',e1,r1⟩:=rv.get (i:=j) (x:=V.ref ts[j]) (by simp [hj])
  rw [a'] at e1
  cases e1
  cases (show u=Value.ref ts[j] from r1)
  exact pa j ts[j] kv (by simp [hj]) b
 ·have hm:(dH [] kvs).length<=sizeLine:=by
   have h1:=dw kvs []
   rw [List.length_nil] at h1
   rw [List.length_map] at hz
   omega
  exact ⟨.ref s.heap.objs.size,_,I.laid (o:=.dK (dH [] kvs)) kp (Nat.le_refl _) (rQ hm (beq_eq_false_iff_ne.mpr (Ne.symm (Nat.ne_of_lt I.big))) (rel.merge .nil) hD),rfl,q _ I.fresh⟩
end
end L2
end

section
set_option Elab.async false
set_option linter.all false
set_option maxRecDepth 100000
namespace L2
open PySem PySem.Spec PyProof.Rows
open Sem (wp)
abbrev cw:R2:=rI0 fun i j=>.int (i+j)
abbrev iL:R2:=rI CMul fun i j=>.int (i * j)
abbrev fO:R2:=rI (fun _ j=>0<j) fun i j=>.int (i % j)
abbrev u4:R2:=rI xo fun i j=>.int (i / j)
abbrev v2:R2:=rI xn fun i j=>.int (i ^ j.toNat)
abbrev v3:R2:=rI0 fun i j=>.bl (decide (i<j))
abbrev xp:R2:=rI0 fun i j=>.bl (decide (i<=j))
abbrev wM:R2:=rI0 fun i j=>.bl (decide (j<i))
abbrev xt:R2:=rI0 fun i j=>.bl (decide (j<=i))
abbrev v7:R2:=fun x y H Q=>∃i j,x=.str i/\y=.str j/\i.length+j.length<=sizeLine/\Q (.str (i++j)) H
abbrev xr:R2:=fun x y H Q=>∃c j,x=.str ⟨#[c]⟩/\y=.str j/\Q (.bl (decide (c∈j.cps.toList))) H
abbrev v6:R2:=fun x y H Q=>∃b,y=.bl b/\Q (.bl (decide (x=.bl b))) H
abbrev jt (K:PySem.W.Frag):List V->Hp->VK->Prop:=fun xs H Q=>∃x c t b,xs=[x,.ty c]/\TyX K H x t/\PySem.W.kitOne K t (.type c)=some b/\Q (.bl b) H
abbrev xc (K:PySem.W.Frag):List V->Hp->VK->Prop:=fun xs H Q=>∃(p:Addr) (bs:List Bool),xs=[.ref p]/\SqL K H p (bs.map V.bl)/\Q (.bl (bs.all id)) H
abbrev tz (K:PySem.W.Frag):List V->Hp->VK->Prop:=fun xs H Q=>∃p ys,xs=[.ref p]/\((SqL K H p ys/\∀l,H l=none->Q (.ref l) (upd H l (.tup ys)))∨(SqT K H p ys/\Q (.ref p) H))
abbrev u5 (K:PySem.W.Frag):List V->Hp->VK->Prop:=fun xs H Q=>∃(l:Addr) (ts:List Addr) (kvs:List (Key×V)),xs=[.ref l]/\SqL K H l (ts.map V.ref)/\ts.length=kvs.length /\
  (∀(j:Nat) (t:Addr) (kv:Key×V),ts[j]?=some t->kvs[j]?=some kv->H t=some (.tup [kV kv.1,kv.2]))/\∀p,H p=none->Q (.ref p) (upd H p (.dK (dH [] kvs)))
abbrev bV (K:PySem.W.Frag):List V->Hp->VK->Prop:=fun xs H Q =>
 (∃p ys,xs=[.ref p]/\(SqL K H p ys∨SqT K H p ys)/\∀l,H l=none->Q (.ref l) (upd H l (.lst ys))) ∨
 (∃(d:Addr) (kvs:List (Key×V)),xs=[.ref d]/\Rd H d (.dK kvs)/\∀l,H l=none->Q (.ref l) (upd H l (.lst (kvs.map fun kv=>kV kv.1))))
abbrev fA (K:PySem.W.Frag):List V->Hp->VK->Prop:=fun xs H Q =>
 (∃p ys,xs=[.ref p]/\(SqL K H p ys∨SqT K H p ys)/\Q (.int ys.length) H)∨(∃z,xs=[.str z]/\z.length<=sizeLine/\Q (.int z.length) H)
theorem cq:bootBuiltins "isinstance"=some (.builtin "isinstance"):=by decide +kernel
theorem jS:bootBuiltins "list"=some (.type "list"):=by decide +kernel
theorem cD:bootBuiltins "tuple"=some (.type "tuple"):=by decide +kernel
theorem pV:bootBuiltins "dict"=some (.type "dict"):=by decide +kernel
theorem pW:bootBuiltins "bool"=some (.type "bool"):=by decide +kernel
theorem so:bootBuiltins "int"=some (.type "int"):=by decide +kernel
theorem sm:bootBuiltins "str"=some (.type "str"):=by decide +kernel
section
variable {X:Cx}{p pos:Pos}
theorem sk:CallR X (.builtin "len") (fA X.K):=call_len_seq.or l_
theorem pU (hc:X.calm=true):CallR X (.type "list") (bV X.K):=call_list_of.or (ju hc)
theorem n5:OpR X (compareOp .Is) v6:=by
 intro pins s σ H x y v u Q I rx ry h
 obtain ⟨b,rfl,q⟩:=h
 cases (show u=Value.bool b from ry)
 have key:∀k:Bool,k=decide (x=.bl b)->EP X pins σ Q (.bool k) s:=fun k e=>⟨.bl k,H,I,rfl,by rw [e]; exact q⟩
 cases x with
 | non=>cases (show v=Value.none from rx); exact wpAny_pure (key _ rfl)
 | bl a =>
  cases (show v=Value.bool a from rx)
  refine wpAny_pure (key _ ?_)
  cases a <;> cases b <;> rfl
 | int i=>obtain ⟨t,rfl⟩:=rx; exact wpAny_pure (key _ rfl)
 | str i=>obtain ⟨t,rfl⟩:=rx; exact wpAny_pure (key _ rfl)
 | byt i=>obtain ⟨t,rfl⟩:=rx; exact wpAny_pure (key _ rfl)
 | flt i=>obtain ⟨t,rfl⟩:=rx; exact wpAny_pure (key _ rfl)
 | ref a=>cases (show v=Value.ref a from rx); exact wpAny_pure (key _ rfl)
 | ty n=>cases (show v=Value.type n from rx); exact wpAny_pure (key _ rfl)
theorem pA (hg:Gl X "bool") (hm:X.mg "bool"=none):PE X (.Name "bool" pos) (tC (.ty "bool")):=iQ hg hm pW rfl
theorem lI (hg:Gl X "int") (hm:X.mg "int"=none):PE X (.Name "int" pos) (tC (.ty "int")):=iQ hg hm so rfl
theorem lH (hg:Gl X "str") (hm:X.mg "str"=none):PE X (.Name "str" pos) (tC (.ty "str")):=iQ hg hm sm rfl
theorem jG (hg:Gl X "list") (hm:X.mg "list"=none):PE X (.Name "list" pos) (tC (.ty "list")):=iQ hg hm jS rfl
theorem iN (hg:Gl X "tuple") (hm:X.mg "tuple"=none):PE X (.Name "tuple" pos) (tC (.ty "tuple")):=iQ hg hm cD rfl
end
def Gc (mg:Str->Option Value) (x:Str) (v:V):Prop:=∃u,mg x=some u/\RelV v u
theorem iO {X:Cx}{x:Str}{v:V}{pos:Pos}(hg:Gl X x) (h:Gc X.mg x v) (hd:(x == ("__debug__":Str))=false:=by decide):PE X (.Name x pos) (tC v):=by
 obtain ⟨u,hm,r⟩:=h
 exact ve hg hm r hd
structure Def (P:Program) (w:World) (K:PySem.W.Frag) (mg:Str->Option Value) (base:Heap) (x:Str) (ps:List Str) (k:Nat) (sp:Sp):Prop where
 ex:∃f fd,jA P w K mg base CX0 k f fd ps sp/\mg x=some (.ref f)/\PySem.W.keepIn K (.ref f)=true/\Binds K fd ps []
structure New (P:Program) (w:World) (K:PySem.W.Frag) (mg:Str->Option Value) (base:Heap) (x:Str) (C:Addr) (ps:List Str) (k:Nat) (sp:Sp):Prop where
 ex:∃f fd,jA P w K mg base CX0 k f fd ps sp/\mg x=some (.ref C)/\Mk K C f/\Binds K fd ps []
structure Mth (P:Program) (w:World) (K:PySem.W.Frag) (mg:Str->Option Value) (base:Heap) (C:Addr) (m:Str) (ps:List Str) (k:Nat) (sp:Sp):Prop where
 ex:∃f fd,jA P w K mg base CX0 k f fd ps sp/\Cls K C/\vN K C m f/\Binds K fd ps []
section
variable {X:Cx}{k:Nat}{ps:List Str}{sp:Sp}{x m:Str}{C:Addr}{p pos apos:Pos}{o e:Expr}{es:List Expr}{t:TA}{ta:TE}
theorem we (D:Def X.prog X.w X.K X.mg X.base x ps k sp) (hr:Room k X.A) (hg:Gl X x) (ha:PA X (e::es) t) (hdb:(x == ("__debug__":Str))=false:=by decide)
  (he:starEach (e::es) X.env=(false,eval e X.env)::starEach es X.env:=by rfl) (hpl:(backTo pos (starEach es X.env)).any (·.1)=false:=by rfl) :
  PE X (.Call (.Name x p) (e::es) [] pos) (au sp [] E0 t):=by
 obtain ⟨f,fd,F,hm,hk,hb⟩:=D.ex
 exact vh F hr hg hm hk hb .nil tJ ha hdb he hpl
theorem um (D:New X.prog X.w X.K X.mg X.base x C ps k sp) (hr:Room (k+1) X.A) (hg:Gl X x) (ha:PA X (e::es) t) (hdb:(x == ("__debug__":Str))=false:=by decide)
  (he:starEach (e::es) X.env=(false,eval e X.env)::starEach es X.env:=by rfl) (hpl:(backTo pos (starEach es X.env)).any (·.1)=false:=by rfl) :
  PE X (.Call (.Name x p) (e::es) [] pos) (sR C sp [] E0 t):=by
 obtain ⟨f,fd,F,hm,M,hb⟩:=D.ex
 exact vc M F hr hg hm hb .nil tJ ha hdb he hpl
theorem wc {pl:Sem Bool}(M:Mth X.prog X.w X.K X.mg X.base C m ps k sp) (hr:Room k X.A) (he:PE X o ta) (ha:PA X (e::es) t)
  (hst:starEach (e::es) X.env=(false,eval e X.env)::starEach es X.env:=by rfl) (hpl:(backTo pos (starEach es X.env)).any (·.1)=false:=by rfl)
  (ht:eval (.Call (.Attribute o m apos) (e::es) [] pos) X.env=(do
   let ov <- eval o X.env
   standAt apos.atName
   let (f,first) <- holding [ov] (getMethod ov m pl)
   callWith pos f first (backTo pos (starEach (e::es) X.env)) (backToKw pos (keywordEach [] X.env))):=by rfl) :
  PE X (.Call (.Attribute o m apos) (e::es) [] pos) (eL C m sp [] E0 ta t):=by
 obtain ⟨f,fd,F,c,hm,hb⟩:=M.ex
 exact vb he c hm F hr hb .nil tJ ha hst hpl ht
theorem va {pl:Sem Bool}(M:Mth X.prog X.w X.K X.mg X.base C m ps k sp) (hr:Room k X.A) (he:PE X o ta)
  (ht:eval (.Call (.Attribute o m apos) [] [] pos) X.env=(do
   let ov <- eval o X.env
   standAt apos.atName
   let (f,first) <- holding [ov] (getMethod ov m pl)
   callWith pos f first (backTo pos (starEach [] X.env)) (backToKw pos (keywordEach [] X.env))):=by rfl) :
  PE X (.Call (.Attribute o m apos) [] [] pos) (eL C m sp [] E0 ta ap):=by
 obtain ⟨f,fd,F,c,hm,hb⟩:=M.ex
 exact tI he c hm F hr hb .nil tJ ht
end
def xh (K:PySem.W.Frag) (tl:TE):TI:=fun σ H R=>tl σ H fun x H1=>∃a,x=.ref a/\(((∃xs,SqL K H1 a xs)/\R (Itl K a) H1)∨((∃xs,SqT K H1 a xs)/\R (Itt K a) H1))
theorem v_ {X:Cx}{tg l:Expr}{tl:TE}(hl:PE X l tl):PI X tg l (xh X.K tl):=by
 intro pins s σ H R I h
 refine thn (hl pins s σ H _ I h) fun v s1 ⟨x,H1,I1,r1,q1⟩=>?_
 obtain ⟨a,e,q⟩:=q1
 subst e
 cases r1
 have fin:∀b∈[s1.heap.objs.size],nM X pins H1 b:=fun b hb=>by
  have e:b=s1.heap.objs.size:=by simpa using hb
  subst e
  exact I1.fpOk (Nat.le_refl _) (I1.hok.fresh (Nat.le_refl _))
 rcases q with ⟨⟨xs,hq⟩,q⟩ | ⟨⟨xs,hq⟩,q⟩
 ·obtain ⟨its,rv,p,hz⟩:=I1.list hq
  refine wpAny_pyIter_list p.isList ?_
  exact ⟨s1.heap.objs.size,[s1.heap.objs.size],_,_,H1,rfl,I1.kept (t':=s1.toks) fun b o e=>Heap.get?_push_of_some _ e,kQ a _,⟨_,Heap.get?_push_size _ rfl,rfl,rfl⟩,fin,q⟩
 ·obtain ⟨its,rv,p,hz⟩:=I1.tuple hq
  refine wpAny_pyIter_tuple p ?_
  exact ⟨s1.heap.objs.size,[s1.heap.objs.size],_,_,H1,rfl,I1.kept (t':=s1.toks) fun b o e=>Heap.get?_push_of_some _ e,jB a _,⟨_,Heap.get?_push_size _ rfl,rfl,rfl⟩,fin,q⟩
end L2
end

section
set_option Elab.async false
set_option linter.all false
set_option maxRecDepth 100000
namespace L2
open PySem PySem.Spec PyProof.Rows
theorem fX {K:PySem.W.Frag}{a:Addr}{xs:List V}{g:TG}{tb:TS}{D:kL}{σ:St}{H:Hp}(Pv:Nat->St->Hp->Prop) (h0:Pv 0 σ H) (hl:∀i σ H,i<=xs.length->Pv i σ H->SqL K H a xs)
  (hs:∀i x σ H p,xs[i]?=some x->Pv i σ H->H p=none->g (.ref p) σ (upd H p (.tup [.int i,x])) fun σ2 H2=>tb { D with nx:=Pv (i+1),ct:=Pv (i+1),bk:=D.nx } σ2 H2) (hd:∀σ H,Pv xs.length σ H->D.nx σ H) :
  ∃W:Nat->Nat->St->Hp->Prop,(∃m,W 0 m σ H)/\∀i m σ H,W i m σ H ->
   ((Ite K a).stop i H/\D.nx σ H)∨((Ite K a).go i H/\∃N:St->Hp->Prop,(∀σ' H',N σ' H'->∃m',m'<m/\W (i+1) m' σ' H')/\∀x H',(Ite K a).yld i H x H'->g x σ H' fun σ2 H2=>tb { D with nx:=N,ct:=N,bk:=D.nx } σ2 H2):=by
 refine ⟨fun i m σ H=>m=xs.length-i/\i<=xs.length/\Pv i σ H,⟨xs.length,by simp,Nat.zero_le _,h0⟩,?_⟩
 rintro i m σ H ⟨rfl,hi,p⟩
 have q:=hl i σ H hi p
 by_cases hlt:i<xs.length
 ·refine .inr ⟨⟨xs,xs[i],q,by simp [hlt]⟩,Pv (i+1),fun σ' H' p'=>⟨xs.length-(i+1),by omega,rfl,hlt,p'⟩,fun x H' y=>?_⟩
  obtain ⟨t,v,rfl,hn,hv,rfl⟩:=y
  exact hs i v σ H t (hv xs q) p hn
 ·have e:i=xs.length:=by omega
  subst e
  exact .inl ⟨⟨xs,q,Nat.le_refl _⟩,hd σ H p⟩
def Wc (n:Nat) (Pv:Nat->List V->Hp->Prop):Nat->Nat->List V->Hp->Prop:=fun i m vs H=>m=n-i/\i<=n/\Pv i vs H
theorem nxt {n i:Nat}{Pv:Nat->List V->Hp->Prop}{vs:List V}{H:Hp}(hi:i<n) (p:Pv (i+1) vs H):∃m',m'<n-i/\Wc n Pv (i+1) m' vs H:=⟨n-(i+1),by omega,rfl,hi,p⟩
abbrev dB (k:Nat) (fi:List Nat) (σ:St) (J:It) (g:TG) (tc:TT) (te:TE) (H1:Hp) (l:Addr) (Q:Hp->Prop):Prop :=
 ∃W:Nat->Nat->List V->Hp->Prop,(∃m,W 0 m [] (upd H1 l (.lst [])))/\∀i m vs H2,W i m vs H2->H2 l=some (.lst vs) /\
  ((J.stop i H2/\Q H2)∨(J.go i H2/\∀x H3,J.yld i H2 x H3->g x (cc k fi σ) H3 fun σ2 H4=>tc σ2 H4 fun b H5 =>
   if b=true then te σ2 H5 fun v H6=>H6 l=some (.lst vs)/\vs.length<sizeLine/\∃m',m'<m/\W (i+1) m' (vs++[v]) (upd H6 l (.lst (vs++[v]))) else ∃m',m'<m/\W (i+1) m' vs H5))
theorem ip {k:Nat}{fi:List Nat}{J:It}{g:TG}{tc:TT}{te:TE}{σ:St}{H1:Hp}{Q:Hp->Prop}{l:Addr}(n:Nat) (Pv:Nat->List V->Hp->Prop) (h0:Pv 0 [] (upd H1 l (.lst [])))
  (hl:∀i vs H,i<=n->Pv i vs H->H l=some (.lst vs)) (hgo:∀i vs H,i<n->Pv i vs H->J.go i H) (hst:∀vs H,Pv n vs H->J.stop n H/\Q H)
  (hs:∀i vs H x H3,i<n->Pv i vs H->J.yld i H x H3->g x (cc k fi σ) H3 fun σ2 H4=>tc σ2 H4 fun b H5 =>
   if b=true then te σ2 H5 fun v H6=>H6 l=some (.lst vs)/\vs.length<sizeLine/\∃m',m'<n-i/\Wc n Pv (i+1) m' (vs++[v]) (upd H6 l (.lst (vs++[v]))) else ∃m',m'<n-i/\Wc n Pv (i+1) m' vs H5) :
  dB k fi σ J g tc te H1 l Q:=by
 refine ⟨Wc n Pv,⟨n,by simp [Wc],Nat.zero_le _,h0⟩,?_⟩
 rintro i m vs H ⟨rfl,hi,p⟩
 refine ⟨hl i vs H hi p,?_⟩
 by_cases hlt:i<n
 ·exact .inr ⟨hgo i vs H hlt p,fun x H3 y=>hs i vs H x H3 hlt p y⟩
 ·have e:i=n:=by omega
  subst e
  exact .inl (hst vs H p)
section
variable {K:PySem.W.Frag}{k:Nat}{fi:List Nat}{g:TG}{tc:TT}{te:TE}{σ:St}{H1:Hp}{Q:Hp->Prop}{l:Addr}
theorem bf {a:Addr}{xs:List V}(Pv:Nat->List V->Hp->Prop) (h0:Pv 0 [] (upd H1 l (.lst [])))
  (hl:∀i vs H,i<=xs.length->Pv i vs H->H l=some (.lst vs)/\SqL K H a xs) (hd:∀vs H,Pv xs.length vs H->Q H)
  (hs:∀i vs H x,xs[i]?=some x->i<xs.length->Pv i vs H->g x (cc k fi σ) H fun σ2 H4=>tc σ2 H4 fun b H5 =>
   if b=true then te σ2 H5 fun v H6=>H6 l=some (.lst vs)/\vs.length<sizeLine/\∃m',m'<xs.length-i/\Wc xs.length Pv (i+1) m' (vs++[v]) (upd H6 l (.lst (vs++[v]))) else ∃m',m'<xs.length-i/\Wc xs.length Pv (i+1) m' vs H5) :
  dB k fi σ (Itl K a) g tc te H1 l Q:=by
 refine ip xs.length Pv h0 (fun i vs H hi p=>(hl i vs H hi p).1) (fun i vs H hi p=>⟨xs,xs[i],(hl i vs H (Nat.le_of_lt hi) p).2,by simp [hi]⟩) (fun vs H p=>⟨⟨xs,(hl _ vs H (Nat.le_refl _) p).2,Nat.le_refl _⟩,hd vs H p⟩) fun i vs H x H3 hi p y=>?_
 obtain ⟨rfl,y⟩:=y
 exact hs i vs _ x (y xs (hl i vs _ (Nat.le_of_lt hi) p).2) hi p
theorem oK {a:Addr}{xs:List V}(Pv:Nat->List V->Hp->Prop) (h0:Pv 0 [] (upd H1 l (.lst [])))
  (hl:∀i vs H,i<=xs.length->Pv i vs H->H l=some (.lst vs)/\SqT K H a xs) (hd:∀vs H,Pv xs.length vs H->Q H)
  (hs:∀i vs H x,xs[i]?=some x->i<xs.length->Pv i vs H->g x (cc k fi σ) H fun σ2 H4=>tc σ2 H4 fun b H5 =>
   if b=true then te σ2 H5 fun v H6=>H6 l=some (.lst vs)/\vs.length<sizeLine/\∃m',m'<xs.length-i/\Wc xs.length Pv (i+1) m' (vs++[v]) (upd H6 l (.lst (vs++[v]))) else ∃m',m'<xs.length-i/\Wc xs.length Pv (i+1) m' vs H5) :
  dB k fi σ (Itt K a) g tc te H1 l Q:=by
 refine ip xs.length Pv h0 (fun i vs H hi p=>(hl i vs H hi p).1) (fun i vs H hi p=>⟨xs,xs[i],(hl i vs H (Nat.le_of_lt hi) p).2,by simp [hi]⟩) (fun vs H p=>⟨⟨xs,(hl _ vs H (Nat.le_refl _) p).2,Nat.le_refl _⟩,hd vs H p⟩) fun i vs H x H3 hi p y=>?_
 obtain ⟨rfl,y⟩:=y
 exact hs i vs _ x (y xs (hl i vs _ (Nat.le_of_lt hi) p).2) hi p
theorem pS {lo:Int}{n:Nat}(Pv:Nat->List V->Hp->Prop) (h0:Pv 0 [] (upd H1 l (.lst [])))
  (hl:∀i vs H,i<=n->Pv i vs H->H l=some (.lst vs)) (hd:∀vs H,Pv n vs H->Q H)
  (hs:∀i vs H,i<n->Pv i vs H->g (.int (lo+i)) (cc k fi σ) H fun σ2 H4=>tc σ2 H4 fun b H5 =>
   if b=true then te σ2 H5 fun v H6=>H6 l=some (.lst vs)/\vs.length<sizeLine/\∃m',m'<n-i/\Wc n Pv (i+1) m' (vs++[v]) (upd H6 l (.lst (vs++[v]))) else ∃m',m'<n-i/\Wc n Pv (i+1) m' vs H5) :
  dB k fi σ (Itr lo n) g tc te H1 l Q:=by
 refine ip n Pv h0 hl (fun i vs H hi p=>hi) (fun vs H p=>⟨Nat.le_refl _,hd vs H p⟩) fun i vs H x H3 hi p y=>?_
 obtain ⟨rfl,rfl⟩:=y
 exact hs i vs _ hi p
theorem ud {x:Str}(Pv:Nat->List V->Hp->Prop) (h0:Pv 0 [] (upd H1 l (.lst [])))
  (hl:∀i vs H,i<=x.cps.size->Pv i vs H->H l=some (.lst vs)) (hd:∀vs H,Pv x.cps.size vs H->Q H)
  (hs:∀i vs H c,x.cps[i]?=some c->i<x.cps.size->Pv i vs H->g (.str ⟨#[c]⟩) (cc k fi σ) H fun σ2 H4=>tc σ2 H4 fun b H5 =>
   if b=true then te σ2 H5 fun v H6=>H6 l=some (.lst vs)/\vs.length<sizeLine/\∃m',m'<x.cps.size-i/\Wc x.cps.size Pv (i+1) m' (vs++[v]) (upd H6 l (.lst (vs++[v]))) else ∃m',m'<x.cps.size-i/\Wc x.cps.size Pv (i+1) m' vs H5) :
  dB k fi σ (Its x) g tc te H1 l Q:=by
 refine ip x.cps.size Pv h0 hl (fun i vs H hi p=>hi) (fun vs H p=>⟨Nat.le_refl _,hd vs H p⟩) fun i vs H y H3 hi p yl=>?_
 obtain ⟨rfl,c,hc,rfl⟩:=yl
 exact hs i vs _ c hc hi p
end
theorem gN {j:Nat}{x:V}{σ:St}{H:Hp}{Q:St->Hp->Prop}(h:Q (σ.set j (some x)) H):ak j x σ H Q:=h
theorem uG {σ:St}{H:Hp}{A B:Hp->Prop}(h:A H):mF σ H (fun b H5=>if b=true then A H5 else B H5):=by
 show (if (true:Bool)=true then A H else B H)
 exact h
end L2
end

section
set_option Elab.async false
set_option linter.all false
set_option maxRecDepth 100000
namespace L2
open PySem PySem.Spec PyProof.Rows
theorem wl {k:Key}{v:Value}(h:bj k v=true):RelV (kV k) v:=by
 rcases aj h with ⟨i,t,rfl,rfl⟩ | ⟨i,t,rfl,rfl⟩
 ·exact ⟨t,rfl⟩
 ·exact ⟨t,rfl⟩
theorem iR {α β:Type}{F:α->β->Prop}:∀{l₁:List α}{l₂:List β},Paired F l₁ l₂->∀{i:Nat}{a:α}{b:β},l₁[i]?=some a->l₂[i]?=some b->F a b
 | _,_,.nil,_,_,_,h,_=>by simp at h
 | _,_,.cons r t,0,_,_,h,h'=>by simp at h h'; subst h h'; exact r
 | _,_,.cons r t,i+1,_,_,h,h'=>by simp at h h'; exact iR t h h'
theorem oE {P:Program}{w:World}{K:PySem.W.Frag}{H:Hp}{h:Heap}{d:Addr}{o:Obj}{kvs:List (Key×V)}{es0:Array DictEntry}{ep:Nat}(hok:HOk P w K H h) (e:H d=some (.frz o (.dK kvs))) (ho:o.data=.dict es0 ep) :
  (d == sysModules)=false/\∃vs,KV kvs vs/\h.DictAt (aD P w) d vs ep:=by
 obtain ⟨g,_,hsys,vs,rel,dd⟩:=(show ObjOk P w K H h d (.frz o (.dK kvs)) from hok d _ e)
 obtain ⟨ep',o',es,ho',hc,hd,r⟩:=dd.dictAt
 rw [g] at ho'
 cases ho'
 rw [ho] at hd
 cases hd
 exact ⟨hsys,vs,rel,o,_,g,hc,ho,r⟩
theorem tT {P:Program}{w:World}{K:PySem.W.Frag}{H:Hp}{h:Heap}{d:Addr}{o:Obj}{kvs:List (Key×V)}(x:ObjOk P w K H h d (.frz o (.dK kvs))):∃es0 ep,o.data=.dict es0 ep:=by
 obtain ⟨g,_,_,vs,_,dd⟩:=x
 obtain ⟨ep',o',es,ho',hc,hd,r⟩:=dd.dictAt
 rw [g] at ho'
 cases ho'
 exact ⟨_,_,hd⟩
end L2
end

section
set_option Elab.async false
set_option linter.all false
set_option maxRecDepth 100000
namespace L2
open PySem PySem.Spec PyProof.Rows
structure xE (fs:List Addr) (e:Addr) (T:Option Addr) (h h':Heap):Prop where
 keep:∀b o,h.get? b=some o->b≠e->some b≠T->b∉fs->h'.get? b=some o
 slot:∀b o,h.get? b=some o->b≠e->some b≠T->b∈fs->∃sl,h'.get? b=some { o with slots:=sl }
 there:∀b o,h.get? b=some o->∃o',h'.get? b=some o'
def Trc (n:Nat) (h:Heap) (e:Addr) (vs:Array Value) (T:Option Addr):Prop :=
 (vs[1]?=some .none/\T=none)∨∃t oT ts,T=some t/\vs[1]?=some (.ref t)/\n<=t/\t≠e/\h.get? t=some oT/\oT.data=.fields ts/\ts[3]?=some .none
section
variable {M:Model}{A:Around}{E:Value->Shared->Prop}{s:Shared}{base:Heap}{env:Env}{outer:List Env}{L e:Addr}{oe:Obj}{vs:Array Value}{Q:Unit->Shared->Prop}
end
end L2
end

section
set_option Elab.async false
set_option linter.all false
set_option maxRecDepth 100000
namespace L2
open PySem PySem.Spec PyProof.Rows
def uF (a C:Addr) (od:Option Addr):Heap->Prop:=fun h=>∃vs,h.get? a=some { cls:=.ref C,dict:=od,data:=.fields vs }/\1<vs.size
structure wZ (n:Nat) (h:Heap) (H:Hp) (a C:Addr) (od:Option Addr):Prop where
 trk:H a=some (.ext (uF a C od))
 new:n<=a
 tr:∃vs T,h.get? a=some { cls:=.ref C,dict:=od,data:=.fields vs }/\1<vs.size/\Trc n h a vs T/\∀t,T=some t->H t=none
structure xx (X:Cx) (pins:List (Addr×Obj)) (n:Nat):Prop where
 s0:X.s₀.heap.objs.size<=n
 loc:X.env.locals<n
 cell:∀x c,X.env.cells.lookup x=some c->c<n
 pin:∀p∈X.pn++pins,p.1<n
section
variable {X:Cx}{pins:List (Addr×Obj)}{σ:St}{H:Hp}{s:Shared}{n:Nat}{a C:Addr}{od:Option Addr}
def CX1 (P:Program) (w:World) (K:PySem.W.Frag):CXT:=fun outer H s E e s'=>∃a C od H',e=.ref a/\s'.os=s.os/\AllBare s'.gens/\Un (frs outer) [] H H' s.heap s'.heap/\HOk P w K H' s'.heap/\wZ s.heap.objs.size s'.heap H' a C od/\E (.ref C) (some a) H'
end
end L2
end

section
set_option Elab.async false
set_option linter.all false
set_option maxRecDepth 100000
namespace L2
open PySem PySem.Spec PyProof.Rows
abbrev ui:List Value:=[.type "ValueError",.type "Exception",.type "BaseException",.type "object"]
inductive oP:List Value->Prop
 | base:oP ui
 | own {a:Addr}{r:List Value}:oP r->oP (.ref a::r)
section
variable {prog:Program}{w:World}{A:Around}{E:Value->Shared->Prop}{h:Heap}{g:Array GenState}{d:Drawn}{t:Nat}{os:OsState}
variable {nm q:Str}{C N:Addr}{bs bm:List Value}{hdct:Bool}{sn:List Str}{sub:List Value}{ab:Bool}{col:Option Bool}{dd:Option Addr}{k0 k1 k2 k3 k5:Option Value}
end
end L2
end

section
set_option Elab.async false
set_option linter.all false
set_option maxRecDepth 100000
namespace L2
open PySem PySem.Spec PyProof.Rows
structure wV (K:PySem.W.Frag) (C:Addr):Prop where
 obj:∃nm q N bs bm sn sub ab col dd k0 k1 k2 k3 k5,K.lookup C=some (excClassObj nm q C N bs bm true sn sub ab col dd k0 k1 k2 k3 k5 "ValueError.__new__")/\oP bm
 sa:PySem.W.findIn K (.ref C) "__setattr__"=some (some (.builtin "object.__setattr__"))
 ga:PySem.W.findIn K (.ref C) "__getattribute__"=some (some (.builtin "BaseException.__getattribute__"))
 gx:PySem.W.findIn K (.ref C) "__getattr__"=some none
section
variable {prog:Program}{w:World}{A:Around}{E:Value->Shared->Prop}{s:Shared}{K:PySem.W.Frag}{x C:Addr}{od:Option Addr}{vs:Array Value}{name:Str}{v:Value}
open PySem.W
end
end L2
end

section
set_option Elab.async false
set_option linter.all false
set_option maxRecDepth 100000
namespace L2
open PySem PySem.Spec PyProof.Rows
theorem upd_id {H:Hp}{a:Addr}{o:HO}(e:H a=some o):upd H a o=H:=by
 funext b; unfold upd; split
 ·rename_i q; rw [q,e]
 ·rfl
structure xy (K:PySem.W.Frag) (T:Addr):Prop where
 rd:PySem.W.readsIn K T (.type "type")=true
 fi:PySem.W.findCls K (.ref T) (.type "type") "__init__"=some (.val (.builtin "ValueError.__init__"))
 ga:PySem.W.specialIn K (.ref T) "__getattribute__"=some (some (.builtin "type.__getattribute__"))
section
variable {X:Cx}{pins:List (Addr×Obj)}{σ:St}{H:Hp}{s:Shared}{a C:Addr}{od:Option Addr}
end
end L2
end

section
set_option Elab.async false
set_option linter.all false
set_option maxRecDepth 100000
namespace L2
open PySem PySem.Spec PyProof.Rows
section
variable {M:Model}{A:Around}{E:Value->Shared->Prop}{s:Shared}{env:Env}{nm q:Str}{C N a:Addr}{bs bm:List Value}{hdct:Bool}{sn:List Str}{sub:List Value}{ab:Bool}{col:Option Bool}{dd od:Option Addr}{k0 k1 k2 k3 k5:Option Value}{newId:String}{vs:Array Value}
end
section
variable {X:Cx}{pins:List (Addr×Obj)}{σ:St}{H:Hp}{s:Shared}{C f:Addr}{k:Nat}{fd:FuncData}{ps:List Str}{sp:Sp}
end
end L2
end

section
set_option Elab.async false
set_option linter.all false
set_option maxRecDepth 100000
namespace L2
open PySem PySem.Spec PyProof.Rows
section
variable {X:Cx}{pins:List (Addr×Obj)}{σ:St}{H:Hp}{s:Shared}{n:Nat}{a C:Addr}{od:Option Addr}{v:Value}
section
variable {f:Addr}{k:Nat}{fd:FuncData}{ps:List Str}{sp:Sp}{x:Str}{p pos:Pos}{e:Expr}{es:List Expr}{t:TA}
end
section
variable {cn nme:Str}{Dc:Addr}{np hpos:Pos}{b0:Stmt}{suite:List Stmt}{rest:List ExceptHandler}{th:TS}{tr:kL->St->XK}{i:Nat}
end
end
end L2
end

section
set_option Elab.async false
set_option linter.all false
set_option maxRecDepth 100000
namespace L2
open PySem PySem.Spec PyProof.Rows
structure xF (P:Program) (w:World) (K:PySem.W.Frag) (mg:Str->Option Value) (base:Heap) (x:Str) (ps:List Str) (k:Nat) (sp:Sp):Prop where
 ex:∃f fd,jA P w K mg base (CX1 P w K) k f fd ps sp/\mg x=some (.ref f)/\PySem.W.keepIn K (.ref f)=true/\Binds K fd ps []
structure xC (P:Program) (w:World) (K:PySem.W.Frag) (mg:Str->Option Value) (base:Heap) (x:Str) (C:Addr) (ps:List Str) (k:Nat) (sp:Sp):Prop where
 ex:∃f fd,jA P w K mg base (CX1 P w K) k f fd ps sp/\mg x=some (.ref C)/\Mk K C f/\Binds K fd ps []
structure xB (P:Program) (w:World) (K:PySem.W.Frag) (mg:Str->Option Value) (base:Heap) (x:Str) (C:Addr) (ps:List Str) (k:Nat) (sp:Sp):Prop where
 ex:∃f fd,jA P w K mg base CX0 k f fd ps sp/\mg x=some (.ref C)/\wV K C/\PySem.W.findIn K (.ref C) "__init__"=some (some (.ref f))/\PySem.W.isFn K (.ref f)=true/\PySem.W.keepIn K (.ref C)=true/\Binds K fd ps []
section
variable {X:Cx}{k:Nat}{ps:List Str}{sp:Sp}{E:XK}{x:Str}{C:Addr}{p pos np cpos:Pos}{e:Expr}{es:List Expr}{t:TA}{st:Stmt}{ts:TS}
end
section
variable {P:Program}{w:World}{K:PySem.W.Frag}{mg:Str->Option Value}{base:Heap}
end
end L2
namespace L2
open PySem PySem.W
end L2
end

section
set_option Elab.async false
set_option linter.all false
set_option maxRecDepth 100000
namespace L2
open PySem PySem.Spec PyProof.Rows
section
variable {X:Cx}
end
end L2
end

section
set_option Elab.async false
set_option linter.all false
set_option maxRecDepth 100000
namespace L2
open PySem PySem.Spec PyProof.Rows
section
variable {X:Cx}{k:Nat}{ps:List Str}{sp:Sp}{x:Str}{C:Addr}{p pos:Pos}{e:Expr}{es:List Expr}{t:TA}
end
end L2
end

section
set_option Elab.async false
set_option linter.all false
set_option maxRecDepth 100000
namespace L2
open PySem PySem.Spec PyProof.Rows
section
variable {X:Cx}
end
end L2
end

section
set_option Elab.async false
set_option linter.all false
set_option maxRecDepth 100000
namespace L2
open PySem PySem.Spec PyProof.Rows
def nW (K:PySem.W.Frag) (td ty tv:TE):TS:=fun D σ H=>tv σ H fun v H1=>td σ H1 fun x H2=>ty σ H2 fun y H3 =>
 ∃(a b:Addr) (kvs:List (TK×V)) (k:TK),x=.ref a/\y=.ref b/\H3 a=some (.dT kvs)/\TKC K H3 k (.ref b)/\k.depth<=8/\kvs.length<sizeLine/\D.nx σ (upd H3 a (.dT (dS kvs k v)))
section
variable {X:Cx}{o i value:Expr}{pos pos':Pos}{td ty tv:TE}
theorem ky (hu:X.A.units+16<cLine) (ho:PE X o td) (hi:PE X i ty) (hv:PE X value tv) (hs:swapsWith value (some (.Subscript o i pos')) pos.line X.env=pure false) :
  PS X (.Assign [.Subscript o i pos'] value pos) (nW X.K td ty tv):=by
 intro pins s σ H D I h
 refine wpAny_Assign_Subscript (thn (hv pins s σ H _ I h) fun r s1 ⟨v,H1,I1,rv,q1⟩=>thn (ho pins s1 σ H1 _ I1 q1) fun u s2 ⟨x,H2,I2,rx,q2⟩=>thn (hi pins s2 σ H2 _ I2 q2) fun iv s3 ⟨y,H3,I3,ry,a,b,kvs,k,ex,ey,e,eb,e8,l,q3⟩=>?_) hs
 subst ex
 subst ey
 obtain rfl:u=Value.ref a:=rx
 exact pR hu I3 e eb e8 l ry rv fun s4 I4=>⟨σ,_,I4,q3⟩
end
theorem kU {K:PySem.W.Frag}{H:Hp}:∀xs:List Str,TKCs K H (xs.map fun x=>TK.k (.inr x)) (xs.map V.str)
 | []=>by show TKCs K H [] []; unfold TKCs; rfl
 | x::xs=>by
  rw [List.map_cons,List.map_cons]
  unfold TKCs
  refine ⟨_,_,rfl,?_,kU xs⟩
  unfold TKC
  rfl
theorem ii {K:PySem.W.Frag}{H:Hp}{a:Addr}{xs:List Str}(h:TupC K H a (xs.map V.str)):TKC K H (.t (xs.map fun x=>TK.k (.inr x))) (.ref a):=by
 unfold TKC
 exact ⟨a,_,rfl,h,kU xs⟩
end L2
end

section
set_option Elab.async false
set_option linter.all false
set_option maxRecDepth 100000
namespace L2
open PySem PySem.Spec PyProof.Rows
section
variable {X:Cx}
end
end L2
end

section
set_option Elab.async false
set_option linter.all false
set_option maxRecDepth 100000
namespace L2
open PySem PySem.Spec PyProof.Rows
section
variable {X:Cx}{pins:List (Addr×Obj)}{σ:St}{H:Hp}{s:Shared}{k:Nat}{f C:Addr}{fd:FuncData}{ps:List Str}{sp:Sp}
end
end L2
end

section
set_option Elab.async false
set_option linter.all false
set_option maxRecDepth 100000
namespace L2
open PySem PySem.Spec PyProof.Rows
section
variable {prog:Program}{w:World}{A:Around}{E:Value->Shared->Prop}{s:Shared}{K:PySem.W.Frag}{x C:Addr}{ox:Obj}{odo:Option Obj}
open PySem.W
structure ExK (K:Frag) (C:Addr):Prop where
 cls:wV K C
 ha:findIn K (.ref C) "__class__"=some (some (.builtin "object.__class__"))
 hn:specialIn K (.builtin "object.__class__") "__get__"=some (some (.builtin "getset_descriptor.__get__"))
 htk:takesIn K (.builtin "object.__class__")=some true
 hm:mroIn K C (.type "object")=some true
end
end L2
end

section
set_option Elab.async false
set_option linter.all false
set_option maxRecDepth 100000
namespace L2
open PySem PySem.Spec PyProof.Rows
section
variable {prog:Program}{w:World}{A:Around}{E:Value->Shared->Prop}{h:Heap}{g:Array GenState}{d:Drawn}{t:Nat}{os:OsState}
variable {nm q:Str}{C N:Addr}{bs bm:List Value}{hdct:Bool}{sn:List Str}{sub:List Value}{ab:Bool}{col:Option Bool}{dd:Option Addr}{k0 k1 k2 k3 k5:Option Value}
end
section
variable {X:Cx}{pins:List (Addr×Obj)}{σ:St}{H:Hp}{s:Shared}{C:Addr}
end
end L2
end

section
set_option Elab.async false
set_option linter.all false
set_option maxRecDepth 100000
namespace L2
open PySem PySem.Spec PyProof.Rows
section
variable {X:Cx}
end
end L2
end

section
set_option Elab.async false
set_option linter.all false
set_option maxRecDepth 100000
namespace L2
open PySem PySem.Spec PyProof.Rows PySem.W
structure XO (K:Frag) (C:Addr) (bm:List Value):Prop where
 ex:∃nm q N bs sn sub ab col dd k0 k1 k2 k3 k5,K.lookup C=some (excClassObj nm q C N bs bm true sn sub ab col dd k0 k1 k2 k3 k5 "ValueError.__new__")
structure XG (K:Frag):Prop where
 hn:specialIn K (.builtin "object.__class__") "__get__"=some (some (.builtin "getset_descriptor.__get__"))
 htk:takesIn K (.builtin "object.__class__")=some true
structure XX (K:Frag) (mg:Str->Option Value) (x:Str) (C Ct:Addr):Prop where
 g:mg x=some (.ref C)
 o:XO K C (.ref Ct::ui)
 sa:findIn K (.ref C) "__setattr__"=some (some (.builtin "object.__setattr__"))
 ga:findIn K (.ref C) "__getattribute__"=some (some (.builtin "BaseException.__getattribute__"))
 gx:findIn K (.ref C) "__getattr__"=some none
 kp:keepIn K (.ref C)=true
 cl:findIn K (.ref C) "__class__"=some (some (.builtin "object.__class__"))
section
variable {K:Frag}{mg:Str->Option Value}{x y:Str}{C D Ct:Addr}{bm:List Value}
end
structure XNo (K:Frag) (mg:Str->Option Value) (x:Str) (C:Addr):Prop where
 g:mg x=some (.ref C)
 cls:wV K C
 hi:findIn K (.ref C) "__init__"=some (some (.builtin "ValueError.__init__"))
 kp:keepIn K (.ref C)=true
end L2
end

section
set_option Elab.async false
set_option linter.all false
set_option maxRecDepth 100000
namespace L2
open PySem PySem.Spec PyProof.Rows
structure xk (n:Nat) (h:Heap) (H:Hp) (a C:Addr) (od:Option Addr) (L:Addr):Prop where
 trk:H a=some (.ext (uF a C od))
 new:n<=a
 tr:∃vs t oT ts,h.get? a=some { cls:=.ref C,dict:=od,data:=.fields vs }/\vs[1]?=some (.ref t)/\n<=t/\t≠a/\h.get? t=some oT/\oT.data=.fields ts/\ts[3]?=some (rawInt L)/\H t=none
section
variable {M:Model}{A:Around}{E:Value->Shared->Prop}{s:Shared}{base:Heap}{env:Env}{outer:List Env}{L e:Addr}{oe:Obj}{vs:Array Value}{Q:Unit->Shared->Prop}
end
section
variable {X:Cx}{pins:List (Addr×Obj)}{σ:St}{H:Hp}{s:Shared}{n:Nat}{a C:Addr}{od:Option Addr}
end
end L2
end

section
set_option Elab.async false
set_option linter.all false
set_option maxRecDepth 100000
namespace L2
open PySem PySem.Spec PyProof.Rows
section
variable {X:Cx}{pins:List (Addr×Obj)}{σ:St}{H:Hp}{s:Shared}{t u:(St->XK)->TS}{b:Stmt}{bs:List Stmt}{pos:Pos}
end
end L2
end

section
set_option Elab.async false
set_option linter.all false
set_option maxRecDepth 100000
namespace L2
open PySem PySem.Spec PyProof.Rows
structure xD (P:Program) (w:World) (K:PySem.W.Frag) (mg:Str->Option Value) (base:Heap) (C:Addr) (m:Str) (ps:List Str) (k:Nat) (sp:Sp):Prop where
 ex:∃f fd,jA P w K mg base (CX1 P w K) k f fd ps sp/\Cls K C/\vN K C m f/\Binds K fd ps []
section
variable {X:Cx}{k:Nat}{ps:List Str}{sp:Sp}{x m:Str}{C:Addr}{p pos apos:Pos}{o e:Expr}{es:List Expr}{t:TA}{ta:TE}
end
end L2
end

section
set_option Elab.async false
set_option linter.all false
set_option maxRecDepth 100000
namespace L2
open PySem PySem.Spec PyProof.Rows
def tgN:Expr->List Str
 | .Name x _=>[x]
 | .Tuple es _ _=>es.filterMap fun e=>match e with | .Name x _=>some x | _=>none
 | _=>[]
theorem bK {X:Cx}{b:List Stmt}{t:TS}{D:kL}{σ:St}{H:Hp}(r:t D σ H) (p:PSs X b t):∃t,PSs X b t/\t D σ H:=⟨t,p,r⟩
section
variable {X:Cx}{k k0:Nat}{ps:List Str}{sp:Sp}{x m:Str}{C:Addr}{p pos apos:Pos}{o e a b:Expr}{es:List Expr}{t:TA}{ta tb te:TE}
theorem qf (hr:Room k0 X.A) (D:Def X.prog X.w X.K X.mg X.base x ps k sp) (ha:PA X (e::es) t) (hk:k<=k0:=by decide) (hg:Gl X x:=by rfl) (hdb:(x == ("__debug__":Str))=false:=by decide)
  (he:starEach (e::es) X.env=(false,eval e X.env)::starEach es X.env:=by rfl) (hpl:(backTo pos (starEach es X.env)).any (·.1)=false:=by rfl) :
  PE X (.Call (.Name x p) (e::es) [] pos) (au sp [] E0 t):=we D (hr.mono hk) hg ha hdb he hpl
theorem qm {pl:Sem Bool}(hr:Room k0 X.A) (M:Mth X.prog X.w X.K X.mg X.base C m ps k sp) (he:PE X o ta) (ha:PA X (e::es) t) (hk:k<=k0:=by decide)
  (hst:starEach (e::es) X.env=(false,eval e X.env)::starEach es X.env:=by rfl) (hpl:(backTo pos (starEach es X.env)).any (·.1)=false:=by rfl)
  (ht:eval (.Call (.Attribute o m apos) (e::es) [] pos) X.env=(do
   let ov <- eval o X.env
   standAt apos.atName
   let (f,first) <- holding [ov] (getMethod ov m pl)
   callWith pos f first (backTo pos (starEach (e::es) X.env)) (backToKw pos (keywordEach [] X.env))):=by rfl) :
  PE X (.Call (.Attribute o m apos) (e::es) [] pos) (eL C m sp [] E0 ta t):=wc (pl:=pl) M (hr.mono hk) he ha hst hpl ht
theorem qm0 {pl:Sem Bool}(hr:Room k0 X.A) (M:Mth X.prog X.w X.K X.mg X.base C m ps k sp) (he:PE X o ta) (hk:k<=k0:=by decide)
  (ht:eval (.Call (.Attribute o m apos) [] [] pos) X.env=(do
   let ov <- eval o X.env
   standAt apos.atName
   let (f,first) <- holding [ov] (getMethod ov m pl)
   callWith pos f first (backTo pos (starEach [] X.env)) (backToKw pos (keywordEach [] X.env))):=by rfl) :
  PE X (.Call (.Attribute o m apos) [] [] pos) (eL C m sp [] E0 ta ap):=va (pl:=pl) M (hr.mono hk) he ht
theorem xl (ha:PE X a ta) (hb:PE X b tb) (hs:wA b:=by exact fun _ _=>rfl):PE X (.Subscript a b pos) (tOp (fk X.K) ta tb):=vd ix_list ha hb hs
theorem xq (ha:PE X a ta) (hb:PE X b tb) (hs:wA b:=by exact fun _ _=>rfl):PE X (.Subscript a b pos) (tOp (rIx X.K) ta tb):=vd wm ha hb hs
theorem xs' (ha:PE X a ta) (hb:PE X b tb) (hs:wA b:=by exact fun _ _=>rfl):PE X (.Subscript a b pos) (tOp v5 ta tb):=vd uw ha hb hs
theorem tcm {op:CmpOp}{r:R2}(ho:OpR X (compareOp op) r) (ha:PE X a ta) (hb:PE X b tb) (hm:behindInMarks op b=false:=by exact uv _):PT X (.Compare a [op] [b] pos) (aJ (tOp r ta tb)):=qP ho ha hb hm
theorem ecm {op:CmpOp}{r:R2}(ho:OpR X (compareOp op) r) (ha:PE X a ta) (hb:PE X b tb) (hm:behindInMarks op b=false:=by exact uv _):PE X (.Compare a [op] [b] pos) (tOp r ta tb):=qW ho ha hb hm
theorem tci {op:CmpOp}{r:R2}(ho:OpR X (compareOp op) r) (ha:PE X a ta) (hb:PE X b tb) (hm:behindInMarks op b=false:=by with_unfolding_all rfl):PT X (.Compare a [op] [b] pos) (aJ (tOp r ta tb)):=qP ho ha hb hm
theorem eci {op:CmpOp}{r:R2}(ho:OpR X (compareOp op) r) (ha:PE X a ta) (hb:PE X b tb) (hm:behindInMarks op b=false:=by with_unfolding_all rfl):PE X (.Compare a [op] [b] pos) (tOp r ta tb):=qW ho ha hb hm
theorem qB {id:String}{r:List V->Hp->VK->Prop}(hc:CallR X (.builtin id) r) (hm:X.mg x=none) (hv:bootBuiltins x=some (.builtin id)) (ha:PA X (e::es) t) (hg:Gl X x:=by rfl) (hn:x≠"__name__":=by decide) (hdb:(x == ("__debug__":Str))=false:=by decide)
  (he:starEach (e::es) X.env=(false,eval e X.env)::starEach es X.env:=by rfl) (hpl:(backTo pos (starEach es X.env)).any (·.1)=false:=by rfl):PE X (.Call (.Name x p) (e::es) [] pos) (tCB r t):=n0 hc hg hm hv ha hn hdb he hpl
theorem qL (hc:X.calm=true) (hm:X.mg "list"=none) (ha:PA X (e::es) t) (hg:Gl X "list":=by rfl)
  (he:starEach (e::es) X.env=(false,eval e X.env)::starEach es X.env:=by rfl) (hpl:(backTo pos (starEach es X.env)).any (·.1)=false:=by rfl):PE X (.Call (.Name "list" p) (e::es) [] pos) (tCB (bV X.K) t):=c7 (pU hc) hg hm jS ha (by decide) (by decide) he hpl
theorem ql (hm:X.mg "len"=none) (ha:PA X (e::es) t) (hg:Gl X "len":=by rfl)
  (he:starEach (e::es) X.env=(false,eval e X.env)::starEach es X.env:=by rfl) (hpl:(backTo pos (starEach es X.env)).any (·.1)=false:=by rfl):PE X (.Call (.Name "len" p) (e::es) [] pos) (tCB (fA X.K) t):=n0 sk hg hm PySem.boot_len ha (by decide) (by decide) he hpl
theorem qs (i:Nat) {pos':Pos}(hN:X.N.Nodup) (he:PE X e te) (hi:X.N[i]?=some x:=by rfl) (hx:Loc X.env.scope x:=by first | exact Or.inl rfl | exact Or.inr rfl) (hs:swapsWith e (some (.Name x pos')) pos.line X.env=pure false:=by rfl) (hf:X.fn x=true∨X.env.scope.names.lookup x=some .local:=by first | exact .inl rfl | exact .inr rfl | assumption) :
  PS X (.Assign [.Name x pos'] e pos) (bc te (ak i)):=v8 hN hi hx he hs hf
theorem gn (i:Nat) (hN:X.N.Nodup) (hi:X.N[i]?=some x:=by rfl) (hx:Loc X.env.scope x:=by first | exact Or.inl rfl | exact Or.inr rfl) (hf:X.fn x=true∨X.env.scope.names.lookup x=some .local:=by first | exact .inl rfl | exact .inr rfl | assumption):PG X (.Name x pos) (ak i):=qS hN hi hx hf
theorem gc (i:Nat) (hN:X.N.Nodup:=by exact of_decide_eq_true (by with_unfolding_all rfl)) (hi:X.N[i]?=some x:=by rfl) (hx:Loc X.env.scope x:=by exact Or.inl rfl) (hf:X.fn x=true∨X.env.scope.names.lookup x=some .local:=by first | exact .inl rfl | exact .inr rfl | assumption):PG X (.Name x pos) (ak i):=qS hN hi hx hf
theorem a1 (ha:PE X a ta) (hs:starEach [a] X.env=(false,eval a X.env)::starEach [] X.env:=by rfl):PA X [a] (ac ta ap):=bd ha bE hs
theorem a2 (ha:PE X a ta) (hb:PE X b tb) (hs:starEach [a,b] X.env=(false,eval a X.env)::starEach [b] X.env:=by rfl) (hs2:starEach [b] X.env=(false,eval b X.env)::starEach [] X.env:=by rfl):PA X [a,b] (ac ta (ac tb ap)):=bd ha (bd hb bE hs2) hs
theorem a3 {c:Expr}{tc:TE}(ha:PE X a ta) (hb:PE X b tb) (hc:PE X c tc) (hs:starEach [a,b,c] X.env=(false,eval a X.env)::starEach [b,c] X.env:=by rfl) (hs1:starEach [b,c] X.env=(false,eval b X.env)::starEach [c] X.env:=by rfl) (hs2:starEach [c] X.env=(false,eval c X.env)::starEach [] X.env:=by rfl):PA X [a,b,c] (ac ta (ac tb (ac tc ap))):=bd ha (a2 hb hc hs1 hs2) hs
variable {elt iter tg:Expr}{ifs:List Expr}{scope:Scope}{fi:List Nat}{wi:TI}{g:TG}{tc:TT}
theorem qc (hi:PI X tg iter wi) (ho:vM k g)
  (h:∀C cl s₀ H₀ ex pn,PG (bH X (tgN tg++fi.map fun i=>X.N.getD i "") scope C cl s₀ H₀ ex pn) tg g/\PIf (bH X (tgN tg++fi.map fun i=>X.N.getD i "") scope C cl s₀ H₀ ex pn) ifs tc/\PE (bH X (tgN tg++fi.map fun i=>X.N.getD i "") scope C cl s₀ H₀ ex pn) elt te)
  (hS:gL X.env.scope scope k (tgN tg++fi.map fun i=>X.N.getD i "") X.N fi=true:=by with_unfolding_all rfl) (hc:X.calm=true:=by rfl)
  (hs:∀x,foldedSetIterable iter X.env x=pure x:=by intro _; rfl):PE X (.ListComp elt [⟨tg,iter,ifs,0⟩] scope pos) (cu k fi wi g tc te) :=
 vg hS hc hi (fun _ _ _ _ _ _=>(h _ _ _ _ _ _).1) ho (fun _ _ _ _ _ _=>(h _ _ _ _ _ _).2.1) (fun _ _ _ _ _ _=>(h _ _ _ _ _ _).2.2) hs
theorem qsc (j:Nat) {y:Str}{spos py:Pos}(hN:X.N.Nodup) (hi:PI X tg iter wi) (ho:vM k g)
  (h:∀C cl s₀ H₀ ex pn,PG (bH X (tgN tg++fi.map fun i=>X.N.getD i "") scope C cl s₀ H₀ ex pn) tg g/\PIf (bH X (tgN tg++fi.map fun i=>X.N.getD i "") scope C cl s₀ H₀ ex pn) ifs tc/\PE (bH X (tgN tg++fi.map fun i=>X.N.getD i "") scope C cl s₀ H₀ ex pn) elt te)
  (hj:X.N[j]?=some y:=by rfl) (hy:Loc X.env.scope y:=by first | exact Or.inl rfl | exact Or.inr rfl)
  (hS:gL X.env.scope scope k (tgN tg++fi.map fun i=>X.N.getD i "") X.N fi=true:=by with_unfolding_all rfl) (hc:X.calm=true:=by rfl)
  (hsw:swapsWith (.ListComp elt [⟨tg,iter,ifs,0⟩] scope pos) (some (.Name y py)) spos.line X.env=pure true:=by rfl)
  (hs:∀x,foldedSetIterable iter X.env x=pure x:=by intro _; rfl) (hf:X.fn y=true∨X.env.scope.names.lookup y=some .local:=by first | exact .inl rfl | exact .inr rfl | assumption) :
  PS X (.Assign [.Name y py] (.ListComp elt [⟨tg,iter,ifs,0⟩] scope pos) spos) (bc (cu k fi wi g tc te) (ak j)) :=
 pq hN hj hy hS hc hi (fun _ _ _ _ _ _=>(h _ _ _ _ _ _).1) ho (fun _ _ _ _ _ _=>(h _ _ _ _ _ _).2.1) (fun _ _ _ _ _ _=>(h _ _ _ _ _ _).2.2) hsw hs hf
end
end L2
end

section
set_option Elab.async false
set_option linter.all false
set_option maxRecDepth 100000
namespace L2
open PySem PySem.Spec PyProof.Rows
end L2
end

section
set_option Elab.async false
set_option linter.all false
set_option maxRecDepth 100000
namespace L2
open PySem PySem.Spec PyProof.Rows
structure RawD (h:Heap) (d:Addr) (es:Array DictEntry) (ep:Nat):Prop where
 ex:∃o,h.get? d=some o/\o.ExactDict/\o.data=.dict es ep
section
variable {prog:Program}{w:World}{A:Around}{E:Value->Shared->Prop}{s:Shared}{d v it:Addr}{es:Array DictEntry}{ep i:Nat}
theorem RawD.ty (h:RawD s.heap d es ep):s.TypeIs (.ref d) "dict":=let ⟨o,ho,e,_⟩:=h.ex; ⟨o,ho,e.1⟩
theorem qM {Q:Value->Shared->Prop}(h:RawD s.heap d es ep) (hd:(d == sysModules)=false) (q:Q (.ref s.heap.objs.size) { s with heap:=s.heap.push { cls:=.type "dict_items",data:=.fields #[.ref d] } }) :
  wpAny (model prog w) A (call (.builtin "dict.items") [.ref d]) Q E s:=by
 refine wpAny_call_entry F.slot_dict_items h.ty F.entry_dict_items ?_ (F.args_dict_items_1 _)
 unfold Builtin.«dict.items» Builtin.Dict.noArgs
 refine wpAny_bind <| wpAny_bind <| wpAny_notOrdered_dict h.ty <| ?_
 refine wpAny_pure (show wpAny _ _ (Builtin.Dict.showsAll d >>= _) _ _ s from ?_)
 unfold Builtin.Dict.showsAll
 rw [if_neg (fun z=>by rw [hd] at z; cases z)]
 exact wpAny_bind <| wpAny_pure <| wpAny_bind <| wpAny_newObj_type <| wpAny_pure ⟨_,rfl,q⟩
theorem tu {Q:Value->Shared->Prop}(hv:s.heap.IsItemsView v d) (h:RawD s.heap d es ep)
  (q:∀h',IsItemIter h' s.heap.objs.size d 0 es.size ep .none .none->(∀b o,s.heap.get? b=some o->h'.get? b=some o)->Q (.ref s.heap.objs.size) { s with heap:=h' }):wpAny (model prog w) A (pyIter (.ref v)) Q E s:=by
 obtain ⟨ov,hov,hcv,hdv⟩:=id hv
 obtain ⟨o,ho,hx,hdat⟩:=h.ex
 refine wpAny_pyIter_slot hv.typeIs F.slot_dict_items_iter <| wpAny_call_entry F.slot_dict_items_iter hv.typeIs F.entry_dict_items_iter ?_ (F.args_dict_items_iter_1 _)
 unfold Builtin.«dict_items.__iter__» Builtin.Dict_items.dictOf Builtin.Dict_items.newIterator
 refine wpAny_bind <| wpAny_pure <| wpAny_bind <| wpAny_bind <| wpAny_field hov hdv (x:=.ref d) rfl <| wpAny_pure <| wpAny_bind <| wpAny_bind <| wpAny_dictEntries ho hdat <| wpAny_bind <| wpAny_dictEpoch ho hdat ?_
 simp only [show Builtin.Dict_items.ownsTuple "dict_itemiterator"=true by decide,if_true]
 refine wpAny_newObj_type (wpAny_pure ⟨_,rfl,"dict_itemiterator",_,⟨_,Heap.get?_push_size _ rfl,rfl⟩,F.slot_dict_itemiterator_next.lookup,?_⟩) ?_
 ·refine q _ ?_ fun b o e=>Heap.get?_push_of_some _ e
  simpa [rawInt,IsItemIter,Builtin.Dict_items.ownedTupleFields] using Heap.get?_push_size s.heap (o:={ cls:=.type "dict_itemiterator",data:=.fields #[.none,.bool false,.ref d,.int 0 0,.int es.size 0,.int ep 0,.none,.none] }) rfl
 ·simp only [sizeOk,Builtin.Dict_items.ownedTupleFields,List.size_toArray,List.length_append,List.length_cons,List.length_nil,sizeLine_eq]; omega
theorem tq {ok ov:Value}{Q:Option Value->Shared->Prop}(hit:IsItemIter s.heap it d i es.size ep ok ov) (h:RawD s.heap d es ep) (hi:i<es.size)
  (q:∀h',IsItemIterOut h' it d (i+1) es.size ep es[i].key es[i].val s.heap.objs.size->h'.get? s.heap.objs.size=some { cls:=.type "tuple",data:=.seq #[es[i].key,es[i].val] } ->
   (∀b o,b≠it->s.heap.get? b=some o->h'.get? b=some o)->Q (some (.ref s.heap.objs.size)) { s with heap:=h' }):wpAny (model prog w) A (pyNext (.ref it)) Q E s:=by
 obtain ⟨o,ho,hx,hdat⟩:=h.ex
 obtain ⟨hp,g,dr,tk,os⟩:=s
 have ty:∀{h':Heap}{ok ov:Value}{j:Nat},IsItemIter h' it d j es.size ep ok ov->Shared.TypeIs ⟨h',g,dr,tk,os⟩ (.ref it) "dict_itemiterator":=fun x=>⟨_,x,rfl⟩
 have hT:=ty hit
 have own:Builtin.Dict_items.ownsTuple "dict_itemiterator"=true:=by decide
 unfold pyNext
 refine wpAny_bind <| wpAny_attempt <| wpAny_callSpecial?_slot (name:=Str.ofString "__next__") hT F.slot_dict_itemiterator_next <| wpAny_call_entry F.slot_dict_itemiterator_next hT F.entry_dict_itemiterator_next ?_ (F.args_dict_itemiterator_next_1 _)
 refine wpAny_bind <| wpAny_pure <| wpAny_bind <| wpAny_bind ?_
 first | refine wpAny_bind <| wpAny_typeNameOfWhole_itemiter hT <| wpAny_pure ?_ | refine wpAny_bind <| wpAny_typeNameOf_itemiter hT <| wpAny_pure ?_
 refine wpAny_bind <| wpAny_fieldsOf hit rfl ?_
 simp only [own,if_true]
 show wpAny _ _ (if (Value.ref d == Value.none)=true then _ else _) _ _ _
 rw [if_neg (show ¬((Value.ref d == Value.none)=true) from Bool.false_ne_true)]
 refine wpAny_bind <| wpAny_pure <| wpAny_bind <| wpAny_dictEntries ho hdat ?_
 rw [if_neg (by simp)]
 refine wpAny_bind <| wpAny_pure <| wpAny_bind <| wpAny_dictEpoch ho hdat ?_
 rw [if_neg (by simp)]
 refine wpAny_pure ?_
 simp only [show ¬((i:Int)<0) from by omega,if_false,Int.toNat_natCast,Array.getElem?_eq_getElem hi]
 refine wpAny_bind ?_
 first | refine wpAny_bind <| wpAny_typeNameOfWhole_itemiter hT <| wpAny_pure ?_ | refine wpAny_bind <| wpAny_typeNameOf_itemiter hT <| wpAny_pure ?_
 refine wpAny_bind <| wpAny_isOneOf_itemiter hT ?_
 show wpAny _ _ (setField (.ref it) 3 (rawInt ((i:Int)+1)) >>= _) _ _ ⟨hp,g,dr,tk,os⟩
 refine wpAny_bind <| wpAny_setField_rec hit (by simp) fun h1 e1 s1=>?_
 have s1:Heap.SameBut it hp h1:=s1
 have e1:IsItemIter h1 it d (i+1) es.size ep ok ov:=by
  have z:((i+1:Nat):Int)=(i:Int)+1:=by omega
  unfold IsItemIter; rw [z]; simpa [rawInt] using e1
 have T1:=ty e1
 refine wpAny_bind <| wpAny_holding <| wpAny_bind <| wpAny_isOneOf_itemiter T1 <| wpAny_bind <| wpAny_isOneOf_itemiter T1 ?_
 show wpAny _ _ (Builtin.Dict_items.pairFromOwner (.ref it) 6 es[i].key es[i].val) _ _ ⟨h1,g,dr,tk,os⟩
 unfold Builtin.Dict_items.pairFromOwner
 refine wpAny_bind <| wpAny_newTuple ?_
 have e2:IsItemIter (h1.push { cls:=.type "tuple",data:=.seq #[es[i].key,es[i].val] }) it d (i+1) es.size ep ok ov:=Heap.get?_push_of_some _ e1
 have z1:h1.objs.size=hp.objs.size:=s1.1
 have t2:(h1.push { cls:=.type "tuple",data:=.seq #[es[i].key,es[i].val] }).get? hp.objs.size=some { cls:=.type "tuple",data:=.seq #[es[i].key,es[i].val] }:=by rw [<-z1]; exact Heap.get?_push_size _ rfl
 have k2:∀b o,b≠it->hp.get? b=some o->(h1.push { cls:=.type "tuple",data:=.seq #[es[i].key,es[i].val] }).get? b=some o:=fun b o hb e=>Heap.get?_push_of_some _ (s1.extBut b o hb e)
 rw [z1]
 generalize h1.push { cls:=.type "tuple",data:=.seq #[es[i].key,es[i].val] }=h2 at e2 t2 k2
 show wpAny _ _ (Builtin.Dict_items.ownedTupleIsFree (.ref it) >>= _) _ _ ⟨h2,g,dr,tk,os⟩
 have lt:it<hp.objs.size:=Heap.lt_size hit
 have ne:hp.objs.size≠it:=Nat.ne_of_gt lt
 refine wpAny_bind ?_
 unfold Builtin.Dict_items.ownedTupleIsFree
 refine wpAny_bind <| wpAny_field e2 rfl (x:=.none) rfl <| wpAny_pure ?_
 simp only [if_true]
 refine wpAny_bind <| wpAny_field e2 rfl (x:=ok) rfl <| wpAny_bind <| wpAny_field e2 rfl (x:=ov) rfl <| wpAny_bind <| wpAny_setField_rec e2 (by simp) fun h3 e3 s3=>?_
 have s3:Heap.SameBut it h2 h3:=s3
 have e3:IsItemIter h3 it d (i+1) es.size ep es[i].key ov:=e3
 refine wpAny_bind <| wpAny_setField_rec e3 (by simp) fun h4 e4 s4=>?_
 have s4:Heap.SameBut it h3 h4:=s4
 have e4:IsItemIter h4 it d (i+1) es.size ep es[i].key es[i].val:=e4
 refine wpAny_bind <| wpAny_setField_rec e4 (by simp) fun h5 e5 s5=>?_
 have s5:Heap.SameBut it h4 h5:=s5
 have e5:IsItemIterOut h5 it d (i+1) es.size ep es[i].key es[i].val hp.objs.size:=e5
 refine wpAny_bind <| wpAny_setField_rec e5 (by simp) fun h6 e6 s6=>?_
 have s6:Heap.SameBut it h5 h6:=s6
 have e6:IsItemIterOut h6 it d (i+1) es.size ep es[i].key es[i].val hp.objs.size:=e6
 have up:∀b o,b≠it->h2.get? b=some o->h6.get? b=some o:=fun b o hb e=>s6.extBut b o hb <| s5.extBut b o hb <| s4.extBut b o hb <| s3.extBut b o hb e
 exact wpAny_bind <| wpAny_letGo <| wpAny_pure <| wpAny_pure ⟨_,rfl,wpAny_pure <| q h6 e6 (up _ _ ne t2) fun b o hb e=>up b o hb (k2 b o hb e)⟩
theorem u2 {ok ov:Value}{Q:Option Value->Shared->Prop}(hh:A.handled=none) (hit:IsItemIter s.heap it d i es.size ep ok ov) (h:RawD s.heap d es ep) (hi:es.size<=i)
  (q:∀h',Heap.ExtBut it s.heap h'->Q none { s with heap:=h' }):wpAny (model prog w) A (pyNext (.ref it)) Q E s:=by
 obtain ⟨o,ho,hx,hdat⟩:=h.ex
 have hT:s.TypeIs (.ref it) "dict_itemiterator":=⟨_,hit,rfl⟩
 have own:Builtin.Dict_items.ownsTuple "dict_itemiterator"=true:=by decide
 unfold pyNext
 refine wpAny_bind <| wpAny_attempt <| wpAny_callSpecial?_slot (name:=Str.ofString "__next__") hT F.slot_dict_itemiterator_next <| wpAny_call_entry F.slot_dict_itemiterator_next hT F.entry_dict_itemiterator_next ?_ (F.args_dict_itemiterator_next_1 _)
 refine wpAny_bind <| wpAny_pure <| wpAny_bind <| wpAny_bind ?_
 first | refine wpAny_bind <| wpAny_typeNameOfWhole_itemiter hT <| wpAny_pure ?_ | refine wpAny_bind <| wpAny_typeNameOf_itemiter hT <| wpAny_pure ?_
 refine wpAny_bind <| wpAny_fieldsOf hit rfl ?_
 simp only [own,if_true]
 show wpAny _ _ (if (Value.ref d == Value.none)=true then _ else _) _ _ _
 rw [if_neg (show ¬((Value.ref d == Value.none)=true) from Bool.false_ne_true)]
 refine wpAny_bind <| wpAny_pure <| wpAny_bind <| wpAny_dictEntries ho hdat ?_
 rw [if_neg (by simp)]
 refine wpAny_bind <| wpAny_pure <| wpAny_bind <| wpAny_dictEpoch ho hdat ?_
 rw [if_neg (by simp)]
 refine wpAny_pure ?_
 simp only [show ¬((i:Int)<0) from by omega,if_false,Int.toNat_natCast,Array.getElem?_eq_none hi]
 refine wpAny_bind ?_
 first | refine wpAny_bind <| wpAny_typeNameOfWhole_itemiter hT <| wpAny_pure ?_ | refine wpAny_bind <| wpAny_typeNameOf_itemiter hT <| wpAny_pure ?_
 show wpAny _ _ (setField (.ref it) 2 .none >>= _) _ _ s
 refine wpAny_bind <| wpAny_setField hit rfl (by simp) ?_
 show wpAny _ _ (newExc (.type "StopIteration") [] >>= _) _ _ _
 refine wpAny_bind ?_
 simp only [newExc,newTuple]
 refine wpAny_bind <| wpAny_newObj_type ?_ (by size_fits)
 refine wpAny_bind (m:=firstArgMember _ _) <| wpAny_of_eq (a:=Value.none) (by first | rfl | (simp only [firstArgMember]; rfl)) <| wpAny_newObj_type ?_ (by size_fits)
 simp only [raiseNew]
 refine wpAny_bind <| wpAny_handled ?_
 rw [show A.in1.handled=none from hh]
 refine wpAny_bind <| wpAny_pure <| wpAny_throw ?_
 refine wpAny_bind (wpAny_isInstance (b:=true) (T:="StopIteration") ⟨_,Heap.get?_push_size _ rfl,rfl⟩ isSubtype_stop (wpAny_pure (q _ (((Heap.SameBut.update ..).extBut.push _).push _))))
end
def Iti (d:Addr) (o:Obj) (u:HO) (n:Nat) (ent:Nat->Hp->V->V->Prop):It :=
 ⟨fun i H=>H d=some (.frz o u)/\i<n,fun i H x H'=>∃p a b,H p=none/\x=.ref p/\ent i H a b/\H'=upd H p (.tup [a,b]),fun i H=>H d=some (.frz o u)/\n<=i⟩
structure vI (P:Program) (w:World) (K:PySem.W.Frag) (d:Addr) (o:Obj) (u:HO) (n:Nat) (ent:Nat->Hp->V->V->Prop) (es:Array DictEntry) (ep:Nat):Prop where
 ex:o.ExactDict
 dat:o.data=.dict es ep
 sz:es.size=n
 get:∀{H:Hp}{h:Heap}{i:Nat}(hi:i<es.size),HOk P w K H h->H d=some (.frz o u)->∃a b,ent i H a b/\RelV a es[i].key/\RelV b es[i].val
theorem oS {P:Program}{w:World}{K:PySem.W.Frag}{xs:List Expr}{kx:Nat}{tpos:Pos}{d it:Addr}{o:Obj}{u:HO}{n:Nat}{ent:Nat->Hp->V->V->Prop}{es:Array DictEntry}{ep:Nat}(X0:vI P w K d o u n ent es ep) :
  p8 P w K (.Tuple xs kx tpos) (Iti d o u n ent) [it] it (fun i h=>∃ok ov,IsItemIter h it d i n ep ok ov) where
 mem:=by simp
 obj:=fun i h ⟨ok,ov,st⟩ b hb=>by
  have e:b=it:=by simpa using hb
  subst e
  exact ⟨_,st,fun v z=>by cases z⟩
 keep:=fun i h h' ⟨ok,ov,st⟩ k=>⟨ok,ov,k it (by simp) _ st⟩
 item:=by
  intro X hP hw hK hc i pins s σ H E I hf ⟨ok,ov,st⟩ hg
  subst hP hw hK
  obtain ⟨hd,hi⟩:=hg
  have hi':i<es.size:=by rw [X0.sz]; exact hi
  obtain ⟨g,ou⟩:=(show ObjOk X.prog X.w X.K H s.heap d (.frz o u) from I.hok d _ hd)
  obtain ⟨a,b,en,ra,rb⟩:=X0.get hi' I.hok hd
  obtain ⟨f0,f1,f2,f3,f4,f5⟩:=hf it (by simp)
  rw [<-X0.sz] at st
  refine tq st ⟨o,g,X0.ex,X0.dat⟩ hi' fun h' ho' ht' hk'=>?_
  refine ⟨_,rfl,wpAny_letOwnedTupleGo_items (s:={ s with heap:=h' }) ho' fun h2 he2 hs2=>?_⟩
  have hs2':Heap.SameBut it h' h2:=hs2
  have hpe:s.heap.objs.size≠it:=Nat.ne_of_gt (Heap.lt_size st)
  have ht2:h2.get? s.heap.objs.size=some { cls:=.type "tuple",data:=.seq #[es[i].key,es[i].val] }:=hs2'.extBut _ _ hpe ht'
  have hn0:H s.heap.objs.size=none:=I.fresh
  have I2:Inv X pins σ (upd H s.heap.objs.size (.tup [a,b])) { s with heap:=h2,toks:=s.toks }:=by
   refine I.turnedNew (ch:=[it]) hf (fun c o hb q=>?_) ⟨_,ht2⟩ (fun _ z=>nomatch z) ⟨by show 2<=sizeLine; decide,[es[i].key,es[i].val],.cons ra (.cons rb .nil),⟨_,ht2,rfl,_,rfl⟩⟩
   have nb1:c≠it:=fun z=>hb (by simp [z])
   exact hs2'.extBut _ _ nb1 (hk' c o nb1 q)
  refine ⟨.ref s.heap.objs.size,_,I2,rfl,⟨_,a,b,hn0,rfl,en,rfl⟩,⟨_,_,by rw [<-X0.sz]; exact he2⟩,fun c hb=>?_⟩
  have e:c=it:=by simpa using hb
  subst e
  rw [af (Ne.symm hpe)]
  exact f0
 done:=by
  intro X hP hw hK hc i pins s σ H E I hf ⟨ok,ov,st⟩ hg
  subst hP hw hK
  obtain ⟨hd,hi⟩:=hg
  obtain ⟨g,ou⟩:=(show ObjOk X.prog X.w X.K H s.heap d (.frz o u) from I.hok d _ hd)
  obtain ⟨f0,f1,f2,f3,f4,f5⟩:=hf it (by simp)
  rw [<-X0.sz] at st
  exact u2 (I.ok.hd hc) st ⟨o,g,X0.ex,X0.dat⟩ (by rw [X0.sz]; exact hi) fun h' eb=>⟨rfl,I.turned (t':=s.toks) (fun b o hb e=>eb b o hb e) f0 f1 f3 f4 f5⟩
 self:=fun _ _ _ _ _ ⟨_,_,st⟩ h=>PySem.W.kcp_self st h
end L2
end

section
set_option Elab.async false
set_option linter.all false
set_option maxRecDepth 100000
namespace L2
open PySem PySem.Spec PyProof.Rows
def vL (K:PySem.W.Frag) (kvs:List (TK×V)):Nat->Hp->V->V->Prop:=fun i H a b=>∃k,kvs[i]?=some (k,b)/\TKC K H k a
def wR (kvs:List (Key×V)):Nat->Hp->V->V->Prop:=fun i _ a b=>∃k,kvs[i]?=some (k,b)/\a=kV k
theorem da {P:Program}{w:World}{K:PySem.W.Frag}{H:Hp}{h:Heap}{d:Addr}{o:Obj}{kvs:List (TK×V)}(hok:HOk P w K H h) (e:H d=some (.frz o (.dT kvs))) :
  (d == sysModules)=false/\∃es ep,vI P w K d o (.dT kvs) kvs.length (vL K kvs) es ep:=by
 obtain ⟨g,z,hsys,xs,rel,o',es,ep,ho',ex,hd,hes,nd⟩:=(show ObjOk P w K H h d (.frz o (.dT kvs)) from hok d _ e)
 rw [g] at ho'
 cases ho'
 have hl:es.size=xs.length:=by rw [<-Array.length_toList,hes,List.length_map]
 refine ⟨hsys,es,ep,ex,hd,by rw [hl,Paired.length rel],fun {H' h' i} hi hok' e'=>?_⟩
 obtain ⟨g',z',hsys',xs',rel',o'',es',ep',ho'',ex',hd',hes',nd'⟩:=(show ObjOk P w K H' h' d (.frz o (.dT kvs)) from hok' d _ e')
 rw [g'] at ho''
 cases ho''
 rw [hd] at hd'
 cases hd'
 have hl':es.size=xs'.length:=by rw [<-Array.length_toList,hes',List.length_map]
 have hi':i<xs'.length:=by omega
 have hk:i<kvs.length:=by rw [Paired.length rel']; exact hi'
 have hp:=iR rel' (i:=i) (a:=kvs[i]) (b:=xs'[i]) (by simp [hk]) (by simp [hi'])
 have he:es[i]=entryOfKey (bz P w) xs'[i]:=by
  have:es.toList[i]?=some es[i]:=by simp [hi]
  rw [hes',List.getElem?_map,List.getElem?_eq_getElem hi'] at this
  injection this with this
  exact this.symm
 refine ⟨.ref xs'[i].2.1,kvs[i].2,⟨kvs[i].1,by simp [hk],hp.2.1⟩,?_,?_⟩
 ·rw [he]; exact rfl
 ·rw [he]; exact hp.2.2.2
theorem fW {P:Program}{w:World}{K:PySem.W.Frag}{H:Hp}{h:Heap}{d:Addr}{o:Obj}{kvs:List (Key×V)}(hok:HOk P w K H h) (e:H d=some (.frz o (.dK kvs))) :
  (d == sysModules)=false/\∃es ep,vI P w K d o (.dK kvs) kvs.length (wR kvs) es ep:=by
 obtain ⟨es,ep,hd⟩:=tT (hok d _ e)
 obtain ⟨hsys,vs,rel,o',es',ho',ex,hd',hko,hp,nd⟩:=oE hok e hd
 have g:=(show ObjOk P w K H h d (.frz o (.dK kvs)) from hok d _ e).1
 rw [g] at ho'
 cases ho'
 rw [hd] at hd'
 cases hd'
 have hl:es.size=kvs.length:=by rw [rel.length,<-hp.length]; simp
 refine ⟨hsys,es,ep,ex,hd,hl,fun {H' h' i} hi hok' e'=>?_⟩
 obtain ⟨hsys',vs',rel',o'',es',ho'',ex',hd',hko',hp',nd'⟩:=oE hok' e' hd
 have g':=(show ObjOk P w K H' h' d (.frz o (.dK kvs)) from hok' d _ e').1
 rw [g'] at ho''
 cases ho''
 rw [hd] at hd'
 cases hd'
 have hk:i<kvs.length:=by omega
 have hv:i<vs'.length:=by rw [<-rel'.length]; exact hk
 obtain ⟨h1,h2⟩:=hp'.get? (e:=es[i]) (by simp [hi]) (show vs'[i]?=some (vs'[i].1,vs'[i].2) by simp [hv])
 obtain ⟨h3,h4⟩:=iR rel' (i:=i) (a:=kvs[i]) (b:=vs'[i]) (by simp [hk]) (by simp [hv])
 refine ⟨kV kvs[i].1,kvs[i].2,⟨kvs[i].1,by simp [hk],rfl⟩,wl (by rw [h3]; exact h1),?_⟩
 rw [h2]; exact h4
def nr (K:PySem.W.Frag) (tl:TE):TI:=fun σ H R=>tl σ H fun x H1=>∃d kvs,x=.ref d /\
 ((H1 d=some (.dT kvs)/\∀o,R (Iti d o (.dT kvs) kvs.length (vL K kvs)) (upd H1 d (.frz o (.dT kvs))))∨∃o,H1 d=some (.frz o (.dT kvs))/\R (Iti d o (.dT kvs) kvs.length (vL K kvs)) H1)
def rH (tl:TE):TI:=fun σ H R=>tl σ H fun x H1=>∃d kvs,x=.ref d /\
 ((H1 d=some (.dK kvs)/\∀o,R (Iti d o (.dK kvs) kvs.length (wR kvs)) (upd H1 d (.frz o (.dK kvs))))∨∃o,H1 d=some (.frz o (.dK kvs))/\R (Iti d o (.dK kvs) kvs.length (wR kvs)) H1)
section
variable {X:Cx}{pins:List (Addr×Obj)}{σ:St}{l:Expr}{tl:TE}{apos cpos tpos:Pos}{xs:List Expr}{kx:Nat}
theorem eG {R:It->Hp->Prop}{H2:Hp}{s1:Shared}{d:Addr}{o:Obj}{u:HO}{n:Nat}{ent:Nat->Hp->V->V->Prop}{es:Array DictEntry}{ep:Nat}(X0:vI X.prog X.w X.K d o u n ent es ep) (hsys:(d == sysModules)=false) (I2:Inv X pins σ H2 s1) (e:H2 d=some (.frz o u)) (q:R (Iti d o u n ent) H2) :
  MethodOn X.prog X.w X.A "items" cpos (.ref d) [] (fun v s2=>wpAny (model X.prog X.w) X.A (pyIter v) (PIE X pins σ (.Tuple xs kx tpos) R) X.xe s2) X.xe s1:=by
 obtain ⟨g,_⟩:=(show ObjOk X.prog X.w X.K H2 s1.heap d (.frz o u) from I2.hok d _ e)
 have raw:RawD s1.heap d es ep:=⟨o,g,X0.ex,X0.dat⟩
 refine ⟨"dict","dict.items",F.plainAttrs_dict,F.slot_dict_items,F.type_dict_items,raw.ty,fun a z=>?_,Calls.callWith_builtin rfl (PySem.evalArgs_none (qM raw hsys ?_))⟩
 ·cases z; exact ⟨o,g,X0.ex.2.1⟩
 refine tu (s:={ s1 with heap:=s1.heap.push { cls:=.type "dict_items",data:=.fields #[.ref d] } }) ⟨_,Heap.get?_push_size _ rfl,rfl,rfl⟩ ⟨o,Heap.get?_push_of_some _ g,X0.ex,X0.dat⟩ fun h' hit hk=>?_
 have I3:Inv X pins σ H2 { s1 with heap:=h',toks:=s1.toks }:=I2.kept (t':=s1.toks) fun b o e=>hk b o (Heap.get?_push_of_some _ e)
 refine ⟨_,[_],_,_,H2,rfl,I3,oS X0,⟨_,_,by rw [<-X0.sz]; exact hit⟩,fun b hb=>?_,q⟩
 have e:b=(s1.heap.push { cls:=.type "dict_items",data:=.fields #[.ref d] }).objs.size:=by simpa using hb
 subst e
 have z:s1.heap.objs.size<=(s1.heap.push { cls:=.type "dict_items",data:=.fields #[.ref d] }).objs.size:=by rw [Heap.size_push]; exact Nat.le_succ _
 exact I2.fpOk z (I2.hok.fresh z)
theorem lF (hl:PE X l tl) (hbase:attributeBase l "items" X.env (eval l X.env)=eval l X.env:=by rfl) (hline:(apos.endLine == cpos.line)=true:=by rfl):PI X (.Tuple xs kx tpos) (.Call (.Attribute l "items" apos) [] [] cpos) (nr X.K tl):=by
 intro pins s σ H R I h
 refine wpAny_Call_method0_late hbase hline (thn (hl pins s σ H _ I h) fun v s1 ⟨x,H1,I1,r1,d,kvs,ex,q⟩=>?_)
 subst ex
 cases r1
 rcases q with ⟨e,q⟩ | ⟨o,e,q⟩
 ·obtain ⟨z,hsys,xs',rel,o,es,ep,ho,r⟩:=id (show ObjOk X.prog X.w X.K H1 s1.heap d (.dT kvs) from I1.hok d _ e)
  have I2:Inv X pins σ (upd H1 d (.frz o (.dT kvs))) { s1 with heap:=s1.heap,toks:=s1.toks } :=
   I1.write (x:=d) (e:=d) (t':=s1.toks) (by rw [e]; trivial) (.inl rfl) (fun _ _ _ q=>q) ⟨o,ho⟩ ⟨ho,z,hsys,xs',Paired.mapP rel (fun p q r=>⟨r.1,TKC.keeps (fun b ys eb=>by rw [af (fun z=>by rw [z,e] at eb; cases eb)]; exact eb) 8 r.2.2.1 r.2.1,r.2.2⟩),o,es,ep,ho,r⟩
  obtain ⟨hsys',es',ep',X0⟩:=da I2.hok (aa (H:=H1) (a:=d))
  exact eG X0 hsys' I2 aa (q o)
 ·obtain ⟨hsys',es',ep',X0⟩:=da I1.hok e
  exact eG X0 hsys' I1 e q
theorem qR (hl:PE X l tl) (hbase:attributeBase l "items" X.env (eval l X.env)=eval l X.env:=by rfl) (hline:(apos.endLine == cpos.line)=true:=by rfl):PI X (.Tuple xs kx tpos) (.Call (.Attribute l "items" apos) [] [] cpos) (rH tl):=by
 intro pins s σ H R I h
 refine wpAny_Call_method0_late hbase hline (thn (hl pins s σ H _ I h) fun v s1 ⟨x,H1,I1,r1,d,kvs,ex,q⟩=>?_)
 subst ex
 cases r1
 rcases q with ⟨e,q⟩ | ⟨o,e,q⟩
 ·obtain ⟨z,hsys,vs,rel,dd⟩:=(show ObjOk X.prog X.w X.K H1 s1.heap d (.dK kvs) from I1.hok d _ e)
  obtain ⟨ep,o,es,ho,r⟩:=id dd.dictAt
  have I2:Inv X pins σ (upd H1 d (.frz o (.dK kvs))) { s1 with heap:=s1.heap,toks:=s1.toks } :=
   I1.write (x:=d) (e:=d) (t':=s1.toks) (by rw [e]; trivial) (.inl rfl) (fun _ _ _ q=>q) ⟨o,ho⟩ ⟨ho,z,hsys,vs,rel,dd⟩
  obtain ⟨hsys',es',ep',X0⟩:=fW I2.hok (aa (H:=H1) (a:=d))
  exact eG X0 hsys' I2 aa (q o)
 ·obtain ⟨hsys',es',ep',X0⟩:=fW I1.hok e
  exact eG X0 hsys' I1 e q
end
end L2
end

section
set_option Elab.async false
set_option linter.all false
set_option maxRecDepth 100000
namespace L2
open PySem PySem.Spec PyProof.Rows
section
variable {prog:Program}{w:World}{A:Around}{E:Value->Shared->Prop}{s:Shared}{d v it:Addr}{es:Array DictEntry}{ep i:Nat}
theorem jF {Q:Value->Shared->Prop}(h:RawD s.heap d es ep) (hd:(d == sysModules)=false) (q:Q (.ref s.heap.objs.size) { s with heap:=s.heap.push { cls:=.type "dict_values",data:=.fields #[.ref d] } }) :
  wpAny (model prog w) A (call (.builtin "dict.values") [.ref d]) Q E s:=by
 refine wpAny_call_entry F.slot_dict_values h.ty F.entry_dict_values ?_ (F.args_dict_values_1 _)
 refine wpAny_bind ?_
 unfold Builtin.Dict.noArgs
 refine wpAny_bind <| wpAny_notOrdered_dict h.ty <| ?_
 refine wpAny_pure (show wpAny _ _ (Builtin.Dict.showsAll d >>= _) _ _ s from ?_)
 unfold Builtin.Dict.showsAll
 rw [if_neg (fun z=>by rw [hd] at z; cases z)]
 exact wpAny_bind <| wpAny_pure <| wpAny_bind <| wpAny_newObj_type <| wpAny_pure ⟨_,rfl,q⟩
theorem lu {Q:Value->Shared->Prop}(hv:s.heap.IsValuesView v d) (h:RawD s.heap d es ep)
  (q:∀h',h'.IsValIter s.heap.objs.size d 0 es.size ep->(∀b o,s.heap.get? b=some o->h'.get? b=some o)->Q (.ref s.heap.objs.size) { s with heap:=h' }):wpAny (model prog w) A (pyIter (.ref v)) Q E s:=by
 obtain ⟨ov,hov,hcv,hdv⟩:=id hv
 obtain ⟨o,ho,hx,hdat⟩:=h.ex
 refine wpAny_pyIter_slot hv.typeIs F.slot_dict_values_iter <| wpAny_call_entry F.slot_dict_values_iter hv.typeIs F.entry_dict_values_iter ?_ (F.args_dict_values_iter_1 _)
 unfold Builtin.«dict_values.__iter__» Builtin.Dict_items.dictOf Builtin.Dict_items.newIterator
 refine wpAny_bind <| wpAny_pure <| wpAny_bind <| wpAny_bind <| wpAny_field hov hdv (x:=.ref d) rfl <| wpAny_pure <| wpAny_bind <| wpAny_bind <| wpAny_dictEntries ho hdat <| wpAny_bind <| wpAny_dictEpoch ho hdat ?_
 simp only [show Builtin.Dict_items.ownsTuple "dict_valueiterator"=false by decide,Bool.false_eq_true,if_false]
 refine wpAny_newObj_type (wpAny_pure ⟨_,rfl,"dict_valueiterator",_,⟨_,Heap.get?_push_size _ rfl,rfl⟩,F.slot_dict_valueiterator_next.lookup,?_⟩)
 exact q _ ⟨_,Heap.get?_push_size _ rfl,rfl,by simp [rawInt]⟩ fun b o e=>Heap.get?_push_of_some _ e
theorem lr {Q:Option Value->Shared->Prop}(hit:s.heap.IsValIter it d i es.size ep) (h:RawD s.heap d es ep) (hi:i<es.size)
  (q:∀h',h'.IsValIter it d (i+1) es.size ep->Heap.SameBut it s.heap h'->Q (some es[i].val) { s with heap:=h' }):wpAny (model prog w) A (pyNext (.ref it)) Q E s:=by
 obtain ⟨ov,hov,hcv,hdv⟩:=id hit
 obtain ⟨o,ho,hx,hdat⟩:=h.ex
 have hT:=hit.typeIs
 unfold pyNext
 refine wpAny_bind <| wpAny_attempt <| wpAny_callSpecial?_slot (name:=Str.ofString "__next__") hT F.slot_dict_valueiterator_next <| wpAny_call_entry F.slot_dict_valueiterator_next hT F.entry_dict_valueiterator_next ?_ (F.args_dict_valueiterator_next_1 _)
 refine wpAny_bind <| wpAny_pure <| wpAny_bind <| wpAny_bind ?_
 first | refine wpAny_bind <| wpAny_typeNameOfWhole_valiter hT <| wpAny_pure ?_ | refine wpAny_bind <| wpAny_typeNameOf_valiter hT <| wpAny_pure ?_
 refine wpAny_bind <| wpAny_fieldsOf hov hdv ?_
 simp only [show Builtin.Dict_items.ownsTuple "dict_valueiterator"=false by decide,Bool.false_eq_true,if_false]
 show wpAny _ _ (if (Value.ref d == Value.none)=true then _ else _) _ _ _
 rw [if_neg (show ¬((Value.ref d == Value.none)=true) from Bool.false_ne_true)]
 refine wpAny_bind <| wpAny_pure <| wpAny_bind <| wpAny_dictEntries ho hdat ?_
 rw [if_neg (by simp)]
 refine wpAny_bind <| wpAny_pure <| wpAny_bind <| wpAny_dictEpoch ho hdat ?_
 rw [if_neg (by simp)]
 refine wpAny_pure ?_
 simp only [show ¬((i:Int)<0) from by omega,if_false,Int.toNat_natCast,Array.getElem?_eq_getElem hi]
 refine wpAny_bind ?_
 first | refine wpAny_bind <| wpAny_typeNameOfWhole_valiter hT <| wpAny_pure ?_ | refine wpAny_bind <| wpAny_typeNameOf_valiter hT <| wpAny_pure ?_
 refine wpAny_bind <| wpAny_isOneOf_valiter hT ?_
 show wpAny _ _ (setField (.ref it) 1 (rawInt ((i:Int)+1)) >>= _) _ _ s
 refine wpAny_bind <| wpAny_setField hov hdv (by simp) ?_
 have n1:(s.heap.update it (Obj.mapFields (·.setIfInBounds 1 (rawInt ((i:Int)+1))))).IsValIter it d (i+1) es.size ep:=⟨_,Heap.get?_update_self _ hov (Obj.isFreed_of_fields (Obj.data_mapFields hdv _)),(Obj.cls_mapFields ..).trans hcv,by rw [Obj.data_mapFields hdv]; simp [rawInt]⟩
 have T1:=Heap.IsValIter.typeIs (s:={ s with heap:=s.heap.update it (Obj.mapFields (·.setIfInBounds 1 (rawInt ((i:Int)+1)))) }) n1
 refine wpAny_bind <| wpAny_holding <| wpAny_bind <| wpAny_isOneOf_valiter T1 <| wpAny_bind <| wpAny_isOneOf_valiter T1 ?_
 show wpAny _ _ (pure es[i].val) _ _ _
 exact wpAny_pure <| wpAny_pure ⟨_,rfl,wpAny_pure <| q _ n1 (Heap.SameBut.update ..)⟩
theorem nX {Q:Option Value->Shared->Prop}(hh:A.handled=none) (hit:s.heap.IsValIter it d i es.size ep) (h:RawD s.heap d es ep) (hi:es.size<=i)
  (q:∀h',Heap.ExtBut it s.heap h'->Q none { s with heap:=h' }):wpAny (model prog w) A (pyNext (.ref it)) Q E s:=by
 obtain ⟨ov,hov,hcv,hdv⟩:=id hit
 obtain ⟨o,ho,hx,hdat⟩:=h.ex
 have hT:=hit.typeIs
 unfold pyNext
 refine wpAny_bind <| wpAny_attempt <| wpAny_callSpecial?_slot (name:=Str.ofString "__next__") hT F.slot_dict_valueiterator_next <| wpAny_call_entry F.slot_dict_valueiterator_next hT F.entry_dict_valueiterator_next ?_ (F.args_dict_valueiterator_next_1 _)
 refine wpAny_bind <| wpAny_pure <| wpAny_bind <| wpAny_bind ?_
 first | refine wpAny_bind <| wpAny_typeNameOfWhole_valiter hT <| wpAny_pure ?_ | refine wpAny_bind <| wpAny_typeNameOf_valiter hT <| wpAny_pure ?_
 refine wpAny_bind <| wpAny_fieldsOf hov hdv ?_
 simp only [show Builtin.Dict_items.ownsTuple "dict_valueiterator"=false by decide,Bool.false_eq_true,if_false]
 show wpAny _ _ (if (Value.ref d == Value.none)=true then _ else _) _ _ _
 rw [if_neg (show ¬((Value.ref d == Value.none)=true) from Bool.false_ne_true)]
 refine wpAny_bind <| wpAny_pure <| wpAny_bind <| wpAny_dictEntries ho hdat ?_
 rw [if_neg (by simp)]
 refine wpAny_bind <| wpAny_pure <| wpAny_bind <| wpAny_dictEpoch ho hdat ?_
 rw [if_neg (by simp)]
 refine wpAny_pure ?_
 simp only [show ¬((i:Int)<0) from by omega,if_false,Int.toNat_natCast,Array.getElem?_eq_none hi]
 refine wpAny_bind ?_
 first | refine wpAny_bind <| wpAny_typeNameOfWhole_valiter hT <| wpAny_pure ?_ | refine wpAny_bind <| wpAny_typeNameOf_valiter hT <| wpAny_pure ?_
 show wpAny _ _ (setField (.ref it) 0 .none >>= _) _ _ s
 refine wpAny_bind <| wpAny_setField hov hdv (by simp) ?_
 show wpAny _ _ (newExc (.type "StopIteration") [] >>= _) _ _ _
 refine wpAny_bind ?_
 simp only [newExc,newTuple]
 refine wpAny_bind <| wpAny_newObj_type ?_ (by size_fits)
 refine wpAny_bind (m:=firstArgMember _ _) <| wpAny_of_eq (a:=Value.none) (by first | rfl | (simp only [firstArgMember]; rfl)) <| wpAny_newObj_type ?_ (by size_fits)
 simp only [raiseNew]
 refine wpAny_bind <| wpAny_handled ?_
 rw [show A.in1.handled=none from hh]
 refine wpAny_bind <| wpAny_pure <| wpAny_throw ?_
 refine wpAny_bind (wpAny_isInstance (b:=true) (T:="StopIteration") ⟨_,Heap.get?_push_size _ rfl,rfl⟩ isSubtype_stop (wpAny_pure (q _ (((Heap.SameBut.update ..).extBut.push _).push _))))
end
def Itv (d:Addr) (o:Obj) (u:HO) (n:Nat) (ent:Nat->Hp->V->V->Prop):It :=
 ⟨fun i H=>H d=some (.frz o u)/\i<n,fun i H x H'=>H'=H/\∃a,ent i H a x,fun i H=>H d=some (.frz o u)/\n<=i⟩
theorem mx {P:Program}{w:World}{K:PySem.W.Frag}{tg:Expr}{d it:Addr}{o:Obj}{u:HO}{n:Nat}{ent:Nat->Hp->V->V->Prop}{es:Array DictEntry}{ep:Nat}(X0:vI P w K d o u n ent es ep) :
  p8 P w K tg (Itv d o u n ent) [it] it (fun i h=>h.IsValIter it d i n ep) where
 mem:=by simp
 obj:=fun i h st b hb=>by
  have e:b=it:=by simpa using hb
  subst e
  obtain ⟨o,e,c,d⟩:=st
  exact ⟨o,e,fun v z=>by rw [d] at z; cases z⟩
 keep:=fun i h h' st k=>st.at fun o e=>k it (by simp) o e
 item:=by
  intro X hP hw hK hc i pins s σ H E I hf st hg
  subst hP hw hK
  obtain ⟨hd,hi⟩:=hg
  have hi':i<es.size:=by rw [X0.sz]; exact hi
  obtain ⟨g,ou⟩:=(show ObjOk X.prog X.w X.K H s.heap d (.frz o u) from I.hok d _ hd)
  obtain ⟨a,b,en,ra,rb⟩:=X0.get hi' I.hok hd
  obtain ⟨f0,f1,f2,f3,f4,f5⟩:=hf it (by simp)
  rw [<-X0.sz] at st
  refine lr st ⟨o,g,X0.ex,X0.dat⟩ hi' fun h' st' sb=>?_
  have I1:Inv X pins σ H { s with heap:=h' }:=I.turned (t':=s.toks) (fun b o hb e=>(sb.2 b hb).trans e) f0 f1 f3 f4 f5
  obtain ⟨oi,e,c,dd⟩:=id st'
  exact ⟨_,rfl,pM (s:={ s with heap:=h' }) e c dd (by decide) ⟨b,H,I1,rb,⟨rfl,a,en⟩,by rw [<-X0.sz]; exact st',fun b hb=>(hf b hb).1⟩⟩
 done:=by
  intro X hP hw hK hc i pins s σ H E I hf st hg
  subst hP hw hK
  obtain ⟨hd,hi⟩:=hg
  obtain ⟨g,ou⟩:=(show ObjOk X.prog X.w X.K H s.heap d (.frz o u) from I.hok d _ hd)
  obtain ⟨f0,f1,f2,f3,f4,f5⟩:=hf it (by simp)
  rw [<-X0.sz] at st
  exact nX (I.ok.hd hc) st ⟨o,g,X0.ex,X0.dat⟩ (by rw [X0.sz]; exact hi) fun h' eb=>⟨rfl,I.turned (t':=s.toks) (fun b o hb e=>eb b o hb e) f0 f1 f3 f4 f5⟩
 self:=fun _ _ _ _ _ st h=>wpAny_pyIter_valiter st h
def uy (K:PySem.W.Frag) (tl:TE):TI:=fun σ H R=>tl σ H fun x H1=>∃d kvs,x=.ref d /\
 ((H1 d=some (.dT kvs)/\∀o,R (Itv d o (.dT kvs) kvs.length (vL K kvs)) (upd H1 d (.frz o (.dT kvs))))∨∃o,H1 d=some (.frz o (.dT kvs))/\R (Itv d o (.dT kvs) kvs.length (vL K kvs)) H1)
section
variable {X:Cx}{pins:List (Addr×Obj)}{σ:St}{l tg:Expr}{tl:TE}{apos cpos:Pos}
theorem kN {R:It->Hp->Prop}{H2:Hp}{s1:Shared}{d:Addr}{o:Obj}{u:HO}{n:Nat}{ent:Nat->Hp->V->V->Prop}{es:Array DictEntry}{ep:Nat}(X0:vI X.prog X.w X.K d o u n ent es ep) (hsys:(d == sysModules)=false) (I2:Inv X pins σ H2 s1) (e:H2 d=some (.frz o u)) (q:R (Itv d o u n ent) H2) :
  MethodOn X.prog X.w X.A "values" cpos (.ref d) [] (fun v s2=>wpAny (model X.prog X.w) X.A (pyIter v) (PIE X pins σ tg R) X.xe s2) X.xe s1:=by
 obtain ⟨g,_⟩:=(show ObjOk X.prog X.w X.K H2 s1.heap d (.frz o u) from I2.hok d _ e)
 have raw:RawD s1.heap d es ep:=⟨o,g,X0.ex,X0.dat⟩
 refine ⟨"dict","dict.values",F.plainAttrs_dict,F.slot_dict_values,F.type_dict_values,raw.ty,fun a z=>?_,Calls.callWith_builtin rfl (PySem.evalArgs_none (jF raw hsys ?_))⟩
 ·cases z; exact ⟨o,g,X0.ex.2.1⟩
 refine lu (s:={ s1 with heap:=s1.heap.push { cls:=.type "dict_values",data:=.fields #[.ref d] } }) ⟨_,Heap.get?_push_size _ rfl,rfl,rfl⟩ ⟨o,Heap.get?_push_of_some _ g,X0.ex,X0.dat⟩ fun h' hit hk=>?_
 have I3:Inv X pins σ H2 { s1 with heap:=h',toks:=s1.toks }:=I2.kept (t':=s1.toks) fun b o e=>hk b o (Heap.get?_push_of_some _ e)
 refine ⟨_,[_],_,_,H2,rfl,I3,mx X0,by rw [<-X0.sz]; exact hit,fun b hb=>?_,q⟩
 have e:b=(s1.heap.push { cls:=.type "dict_values",data:=.fields #[.ref d] }).objs.size:=by simpa using hb
 subst e
 have z:s1.heap.objs.size<=(s1.heap.push { cls:=.type "dict_values",data:=.fields #[.ref d] }).objs.size:=by rw [Heap.size_push]; exact Nat.le_succ _
 exact I2.fpOk z (I2.hok.fresh z)
theorem tH (hl:PE X l tl) (hbase:attributeBase l "values" X.env (eval l X.env)=eval l X.env:=by rfl) (hline:(apos.endLine == cpos.line)=true:=by rfl):PI X tg (.Call (.Attribute l "values" apos) [] [] cpos) (uy X.K tl):=by
 intro pins s σ H R I h
 refine wpAny_Call_method0_late hbase hline (thn (hl pins s σ H _ I h) fun v s1 ⟨x,H1,I1,r1,d,kvs,ex,q⟩=>?_)
 subst ex
 cases r1
 rcases q with ⟨e,q⟩ | ⟨o,e,q⟩
 ·obtain ⟨z,hsys,xs',rel,o,es,ep,ho,r⟩:=id (show ObjOk X.prog X.w X.K H1 s1.heap d (.dT kvs) from I1.hok d _ e)
  have I2:Inv X pins σ (upd H1 d (.frz o (.dT kvs))) { s1 with heap:=s1.heap,toks:=s1.toks } :=
   I1.write (x:=d) (e:=d) (t':=s1.toks) (by rw [e]; trivial) (.inl rfl) (fun _ _ _ q=>q) ⟨o,ho⟩ ⟨ho,z,hsys,xs',Paired.mapP rel (fun p q r=>⟨r.1,TKC.keeps (fun b ys eb=>by rw [af (fun z=>by rw [z,e] at eb; cases eb)]; exact eb) 8 r.2.2.1 r.2.1,r.2.2⟩),o,es,ep,ho,r⟩
  obtain ⟨hsys',es',ep',X0⟩:=da I2.hok (aa (H:=H1) (a:=d))
  exact kN X0 hsys' I2 aa (q o)
 ·obtain ⟨hsys',es',ep',X0⟩:=da I1.hok e
  exact kN X0 hsys' I1 e q
end
end L2
end

section
set_option Elab.async false
set_option linter.all false
set_option maxRecDepth 100000
namespace L2
open PySem PySem.Spec PyProof.Rows
theorem wH {prog:Program}{w:World}{A:Around}{d it:Addr}{es:Array DictEntry}{ep:Nat}(hne:d≠it) (hh:A.handled=none) :
  Walks prog w A it [it,d] [it] es.size (fun i v=>∃hi:i<es.size,v=es[i].val) (fun i h=>h.IsValIter it d i es.size ep/\RawD h d es ep) where
 sub:=fun b hb=>by simp at hb; simp [hb]
 frame:=fun i h h' st k=>⟨st.1.at fun o e=>k it (by simp) o e,let ⟨o,ho,r⟩:=st.2.ex; ⟨o,k d (by simp) o ho,r⟩⟩
 item:=fun i s Q E hi st q=>lr st.1 st.2 hi fun h' st' sb=>q _ h' s.toks ⟨hi,rfl⟩ ⟨st',let ⟨o,ho,r⟩:=st.2.ex; ⟨o,(sb.2 d hne).trans ho,r⟩⟩ fun b o hb e=>(sb.2 b (fun z=>hb (by simp [z]))).trans e
 done:=fun s Q E st q=>nX hh st.1 st.2 (Nat.le_refl _) fun h' eb=>q h' s.toks fun b o hb e=>eb b o (fun z=>hb (by simp [z])) e
 self:=fun i s Q E st q=>wpAny_pyIter_valiter st.1 q
def vS (tl:TE):TE:=fun σ H Q=>tl σ H fun x H1=>∃d kvs val,x=.ref d/\(∀(i:Nat) (k:TK) (v:V),kvs[i]?=some (k,v)->v=.int (val i)) /\
 ((H1 d=some (.dT kvs)/\∀o,Q (.int (preSum val kvs.length)) (upd H1 d (.frz o (.dT kvs))))∨∃o,H1 d=some (.frz o (.dT kvs))/\Q (.int (preSum val kvs.length)) H1)
def vT (tl:TE):TE:=fun σ H Q=>tl σ H fun x H1=>∃d kvs val,x=.ref d/\(∀(i:Nat) (k:Key) (v:V),kvs[i]?=some (k,v)->v=.int (val i)) /\
 ((H1 d=some (.dK kvs)/\∀o,Q (.int (preSum val kvs.length)) (upd H1 d (.frz o (.dK kvs))))∨∃o,H1 d=some (.frz o (.dK kvs))/\Q (.int (preSum val kvs.length)) H1)
section
variable {X:Cx}{pins:List (Addr×Obj)}{σ:St}{l:Expr}{tl:TE}{p pos apos cpos:Pos}
theorem ij {Q:VK}{H2:Hp}{s1:Shared}{d:Addr}{o:Obj}{u:HO}{n:Nat}{ent:Nat->Hp->V->V->Prop}{es:Array DictEntry}{ep:Nat}{val:Nat->Int}(hc:X.calm=true) (X0:vI X.prog X.w X.K d o u n ent es ep) (hsys:(d == sysModules)=false) (I2:Inv X pins σ H2 s1) (e:H2 d=some (.frz o u)) (hv:∀i a v,ent i H2 a v->v=.int (val i)) (q:Q (.int (preSum val n)) H2) :
  MethodOn X.prog X.w X.A "values" cpos (.ref d) [] (fun v s2=>wpAny (model X.prog X.w) X.A (spliced (backTo pos [])) (fun vs s3=>wpAny (model X.prog X.w) X.A (call (.builtin "sum") (v::vs)) (EP X pins σ Q) X.xe s3) X.xe s2) X.xe s1:=by
 obtain ⟨g,_⟩:=(show ObjOk X.prog X.w X.K H2 s1.heap d (.frz o u) from I2.hok d _ e)
 have raw:RawD s1.heap d es ep:=⟨o,g,X0.ex,X0.dat⟩
 refine ⟨"dict","dict.values",F.plainAttrs_dict,F.slot_dict_values,F.type_dict_values,raw.ty,fun a z=>?_,Calls.callWith_builtin rfl (PySem.evalArgs_none (jF raw hsys ?_))⟩
 ·cases z; exact ⟨o,g,X0.ex.2.1⟩
 refine Calls.spliced_nil (call_sum_walkAnyS ?_)
 refine lu (s:={ s1 with heap:=s1.heap.push { cls:=.type "dict_values",data:=.fields #[.ref d] } }) ⟨_,Heap.get?_push_size _ rfl,rfl,rfl⟩ ⟨o,Heap.get?_push_of_some _ g,X0.ex,X0.dat⟩ fun h' hit hk=>?_
 have k2:∀b o,s1.heap.get? b=some o->h'.get? b=some o:=fun b o e=>hk b o (Heap.get?_push_of_some _ e)
 have I3:Inv X pins σ H2 { s1 with heap:=h',toks:=s1.toks }:=I2.kept (t':=s1.toks) k2
 have z:s1.heap.objs.size<=(s1.heap.push { cls:=.type "dict_values",data:=.fields #[.ref d] }).objs.size:=by rw [Heap.size_push]; exact Nat.le_succ _
 have raw':RawD h' d es ep:=⟨o,k2 _ _ g,X0.ex,X0.dat⟩
 have hne:d≠(s1.heap.push { cls:=.type "dict_values",data:=.fields #[.ref d] }).objs.size:=Nat.ne_of_lt (Nat.lt_of_lt_of_le (Heap.lt_size g) z)
 have hval:∀i v,(∃hi:i<es.size,v=es[i].val)->∃t,v=.int (val i) t:=by
  rintro i v ⟨hi,rfl⟩
  obtain ⟨a,b,en,ra,rb⟩:=X0.get hi I2.hok e
  rw [hv i a b en] at rb
  exact rb
 have lt:∀{b o},h'.get? b=some o->b<h'.objs.size:=fun e=>Heap.lt_size e
 refine ⟨_,_,_,_,_,_,_,val,rfl,(wH (A:=X.A.in1) (es:=es) (ep:=ep) hne (show X.A.in1.handled=none from I2.ok.hd hc)).toS,(⟨hit,raw'⟩:_/\_),fun b hb=>?_,hval,fun s' t' mv=>?_⟩
 ·obtain ⟨oi,ei,_⟩:=id hit
  rcases List.mem_cons.1 hb with hb | hb
  ·rw [hb]; exact lt ei
  ·rw [List.mem_singleton.1 hb]; exact lt (k2 _ _ g)
 ·obtain ⟨f0,f1,f2,f3,f4,f5⟩:=I2.fpOk z (I2.hok.fresh z)
  obtain ⟨hp',g',dr',tk',os'⟩:=s'
  have e1:g'=s1.gens:=mv.gens
  have e2:dr'=s1.drawn:=mv.drawn
  have e3:os'=s1.os:=mv.os
  subst e1 e2 e3
  have I4:Inv X pins σ H2 { s1 with heap:=hp',toks:=tk' }:=I3.turned (h':=hp') (t':=tk') (fun b o hb e=>mv.heap b o (fun z=>hb (by simpa using z)) e) f0 f1 f3 f4 f5
  exact ⟨.int (preSum val n),H2,I4,⟨_,by rw [<-X0.sz]⟩,q⟩
theorem u9 (hl:PE X l tl) (hc:X.calm=true) (hg:Gl X "sum") (hm:X.mg "sum"=none) (hs:starEach [.Call (.Attribute l "values" apos) [] [] cpos] X.env=[(false,eval (.Call (.Attribute l "values" apos) [] [] cpos) X.env)]:=by rfl)
  (hbase:attributeBase l "values" X.env (eval l X.env)=eval l X.env:=by rfl) (hline:(apos.endLine == cpos.line)=true:=by rfl):PE X (.Call (.Name "sum" p) [.Call (.Attribute l "values" apos) [] [] cpos] [] pos) (vS tl):=by
 intro pins s σ H Q I h
 refine wpAny_Call_Name_kw (g7 I hg hm boot_sum ?_ (by decide) (by decide))
 refine PyProof.Rows.callWith_builtin1 ?_ hs rfl
 rw [hs]
 show wpAny _ _ (spliced ((false,eval (.Call (.Attribute l "values" apos) [] [] cpos) X.env)::backTo pos [])) _ _ s
 refine Calls.spliced_cons (wpAny_Call_method0_late hbase hline (thn (hl pins s σ H _ I h) fun v s1 ⟨x,H1,I1,r1,d,kvs,val,ex,hv,q⟩=>?_))
 subst ex
 cases r1
 rcases q with ⟨e,q⟩ | ⟨o,e,q⟩
 ·obtain ⟨z,hsys,xs',rel,o,es,ep,ho,r⟩:=id (show ObjOk X.prog X.w X.K H1 s1.heap d (.dT kvs) from I1.hok d _ e)
  have I2:Inv X pins σ (upd H1 d (.frz o (.dT kvs))) { s1 with heap:=s1.heap,toks:=s1.toks } :=
   I1.write (x:=d) (e:=d) (t':=s1.toks) (by rw [e]; trivial) (.inl rfl) (fun _ _ _ q=>q) ⟨o,ho⟩ ⟨ho,z,hsys,xs',Paired.mapP rel (fun p q r=>⟨r.1,TKC.keeps (fun b ys eb=>by rw [af (fun z=>by rw [z,e] at eb; cases eb)]; exact eb) 8 r.2.2.1 r.2.1,r.2.2⟩),o,es,ep,ho,r⟩
  obtain ⟨hsys',es',ep',X0⟩:=da I2.hok (aa (H:=H1) (a:=d))
  exact ij hc X0 hsys' I2 aa (fun i a v ⟨k,ek,_⟩=>hv i k v ek) (q o)
 ·obtain ⟨hsys',es',ep',X0⟩:=da I1.hok e
  exact ij hc X0 hsys' I1 e (fun i a v ⟨k,ek,_⟩=>hv i k v ek) q
theorem u_ (hl:PE X l tl) (hc:X.calm=true) (hg:Gl X "sum") (hm:X.mg "sum"=none) (hs:starEach [.Call (.Attribute l "values" apos) [] [] cpos] X.env=[(false,eval (.Call (.Attribute l "values" apos) [] [] cpos) X.env)]:=by rfl)
  (hbase:attributeBase l "values" X.env (eval l X.env)=eval l X.env:=by rfl) (hline:(apos.endLine == cpos.line)=true:=by rfl):PE X (.Call (.Name "sum" p) [.Call (.Attribute l "values" apos) [] [] cpos] [] pos) (vT tl):=by
 intro pins s σ H Q I h
 refine wpAny_Call_Name_kw (g7 I hg hm boot_sum ?_ (by decide) (by decide))
 refine PyProof.Rows.callWith_builtin1 ?_ hs rfl
 rw [hs]
 show wpAny _ _ (spliced ((false,eval (.Call (.Attribute l "values" apos) [] [] cpos) X.env)::backTo pos [])) _ _ s
 refine Calls.spliced_cons (wpAny_Call_method0_late hbase hline (thn (hl pins s σ H _ I h) fun v s1 ⟨x,H1,I1,r1,d,kvs,val,ex,hv,q⟩=>?_))
 subst ex
 cases r1
 rcases q with ⟨e,q⟩ | ⟨o,e,q⟩
 ·obtain ⟨z,hsys,vs,rel,dd⟩:=(show ObjOk X.prog X.w X.K H1 s1.heap d (.dK kvs) from I1.hok d _ e)
  obtain ⟨ep,o,es,ho,r⟩:=id dd.dictAt
  have I2:Inv X pins σ (upd H1 d (.frz o (.dK kvs))) { s1 with heap:=s1.heap,toks:=s1.toks } :=
   I1.write (x:=d) (e:=d) (t':=s1.toks) (by rw [e]; trivial) (.inl rfl) (fun _ _ _ q=>q) ⟨o,ho⟩ ⟨ho,z,hsys,vs,rel,dd⟩
  obtain ⟨hsys',es',ep',X0⟩:=fW I2.hok (aa (H:=H1) (a:=d))
  exact ij hc X0 hsys' I2 aa (fun i a v ⟨k,ek,_⟩=>hv i k v ek) (q o)
 ·obtain ⟨hsys',es',ep',X0⟩:=fW I1.hok e
  exact ij hc X0 hsys' I1 e (fun i a v ⟨k,ek,_⟩=>hv i k v ek) q
end
end L2
end

section
set_option Elab.async false
set_option linter.all false
set_option maxRecDepth 100000
namespace L2
open PySem PySem.Spec PyProof.Rows
def qx (K:PySem.W.Frag) (tk tv:TE):TE:=fun σ H Q=>∀p,H p=none->tk σ (upd H p (.dT [])) fun x H1=>tv σ H1 fun y H2=>H2 p=some (.dT [])/\∃b k,x=.ref b/\TKC K H2 k (.ref b)/\k.depth<=8/\Q (.ref p) (upd H2 p (.dT [(k,y)]))
theorem qV {X:Cx}{pos:Pos}{k v:Expr}{tk tv:TE}(hu:X.A.units+16<cLine) (hk:PE X k tk) (hv:PE X v tv):PE X (.Dict [some k] [v] pos) (qx X.K tk tv):=by
 intro pins s σ H Q I q
 have hn:=I.hok.fresh (Nat.le_refl s.heap.objs.size)
 have I1:=I.laid (a:=s.heap.objs.size) (o:=.dT []) (h':=s.heap.push { cls:=.type "dict",data:=.dict #[] }) (t':=s.toks) (fun _ _ q=>Heap.get?_push_of_some _ q) (Nat.le_refl _) (oI s.heap I.big)
 rw [arm_eval_Dict,zip_pairTrees [some k] [v] X.env pos rfl rfl,dictDisplay_pairs (pairTrees [some k] [v] X.env pos) (by unfold pairTrees; simp) (by show 1<17; decide)]
 refine wpAny_bind (wpAny_standAt (wpAny_bind ?_))
 unfold subDict
 refine wpAny_bind (wpAny_alloc ?_)
 refine wpAny_bind (wpAny_holding ?_)
 rw [if_pos (show (pairTrees [some k] [v] X.env pos).length<=15 from by show 1<=15; decide)]
 refine wpAny_bind (pairTrees_cons_walk (thn (hk pins _ σ _ _ I1 (q _ hn)) fun u s1 ⟨x,H1,I1,rx,q1⟩=>thn (hv pins s1 σ H1 _ I1 q1) fun r s2 ⟨y,H2,I2,ry,e,b,kk,ex,eb,e8,q2⟩=>pairTrees_nil_walk ?_))
 subst ex
 cases rx
 refine wpAny_holding ?_
 obtain ⟨z,hd,xs,rel,dd⟩:=tZ I2.hok I2.kIn e
 cases rel
 rw [List.forIn_cons]
 refine wpAny_bind (wpAny_bind (wpAny_bind (wpAny_dictSet_heap (hsz:=Nat.zero_le _) (show (bz X.prog X.w).room X.A from by show X.A.units+8<cLine; omega) (lT I2.hok I2.kIn eb e8) dd fun h' dd' hs=>wpAny_pure ?_)))
 show wpAny _ _ (forIn [] PUnit.unit _) _ _ _
 rw [List.forIn_nil]
 refine wpAny_pure (wpAny_pure (wpAny_pure (wpAny_pure ⟨.ref s.heap.objs.size,_,?_,rfl,q2⟩)))
 obtain ⟨q,es,ep,hq,h2,h3,h4,_,h5⟩:=dd'
 refine gK I2 (by rw [e]; exact True.intro) hs ⟨q,hq⟩ ⟨by show 1<=sizeLine; decide,hd,_,((KT.put (kvs:=[]) .nil kk eb e8 ry)).keeps fun c ys ec=>?_,q,es,ep,hq,h2,h3,h4,h5⟩
 rw [af (tL ec e (fun z=>nomatch z))]
 exact ec
end L2
end
set_option Elab.async false
set_option linter.all false
set_option maxRecDepth 100000
set_option maxHeartbeats 4000000
namespace Mum
open PySem PySem.Spec PyProof.Rows L2
def kZ (K:PySem.W.Frag) :TS :=
 aw (cZ (aJ (tOp xt (ag 0) (tOp v2 (tC (.int 10)) (tC (.int 18))))) (aZ (ag 0)) (aU))
 (aw (bc (tOp fO (tOp cw (tOp cw (tOp iL (tOp fO (ag 0) (tC (.int 1000000007))) (tC (.int 69069))) (tOp iL (ag 1) (tC (.int 40503)))) (tC (.int 977))) (tC (.int 2147483629))) (ak 2))
 (aw (bc (tOp fO (tOp cw (tOp cw (tOp iL (ag 2) (ag 2)) (tOp iL (ag 1) (tC (.int 7919)))) (tOp fO (ag 0) (tC (.int 65537)))) (tC (.int 2147483587))) (ak 3))
 (aw (bc (tOp fO (tOp cw (tOp cw (tOp iL (ag 3) (ag 3)) (tOp iL (ag 2) (tC (.int 31)))) (tC (.int 5))) (tC (.int 2147483563))) (ak 4))
 (aZ (tOp cw (tOp iL (tOp cw (tOp iL (ag 2) (tC (.int 2147483659))) (ag 3)) (tC (.int 2147483693))) (ag 4))))))
def mn:List Str:=["cell","at","one","two","three"]
def o0 (K:PySem.W.Frag) :TS :=
 aw (bc (tCB (bV K) (ac (tSl (tD K) (ag 0) (cN) (fI (tC (.int 12)))) ap)) (ak 1))
 (aw (eN (pL K (ac (tSl (tD K) (ag 0) (fI (tC (.int 12))) (fI (tC (.int 63)))) ap)) (nu K 2 (bw (ak 2) (bw (ak 3) (nv)))) (bc (tOp cw (tOp (fk K) (ag 1) (tOp fO (ag 2) (tC (.int 12)))) (ag 3)) (vv (ag 1) (tOp fO (ag 2) (tC (.int 12))) m_)))
 (aZ (gW (ac (ag 1) (ac (tC (.int 0)) (ac (tC (.int 0)) ap))))))
def p4:List Str:=["script","cells","k","cell"]
def o5 (K:PySem.W.Frag) :TS :=
 aw (bc (tC (.int 0)) (vv (ag 0) (tC (.int 2)) m_))
 (aZ (ag 0))
def p5:List Str:=["pen"]
def oZ (K:PySem.W.Frag) (sp_law_spread:Sp):TS :=
 aw (cZ (aJ (tOp v3 (tOp (fk K) (ag 0) (tC (.int 2))) (ag 1))) (aw (bc (tOp (fk K) (ag 0) (tC (.int 1))) (ak 2))
 (aw (bc (tC (.int 0)) (ak 3))
 (aw (cZ (aJ (tOp v3 (ag 2) (tCB (fA K) (ac (tOp (fk K) (ag 0) (tC (.int 0))) ap)))) (bc (tOp (fk K) (tOp (fk K) (ag 0) (tC (.int 0))) (ag 2)) (ak 3)) (cZ (aJ (tOp wM (tCB (fA K) (ac (tOp (fk K) (ag 0) (tC (.int 0))) ap)) (tC (.int 0)))) (bc (tOp fO (tOp (fk K) (tOp (fk K) (ag 0) (tC (.int 0))) (tOp fO (tOp cw (tOp iL (ag 2) (tC (.int 5))) (tC (.int 3))) (tCB (fA K) (ac (tOp (fk K) (ag 0) (tC (.int 0))) ap)))) (tOp cw (tOp v2 (tC (.int 10)) (tC (.int 17))) (ag 2))) (ak 3)) (aU)))
 (aw (bc (tOp cw (ag 2) (tC (.int 1))) (vv (ag 0) (tC (.int 1)) m_))
 (bc (au sp_law_spread [] E0 (ac (ag 3) (ac (ag 2) ap))) (vv (ag 0) (tC (.int 2)) m_)))))) (aU))
 (aw (bc (tOp fO (tOp (fk K) (ag 0) (tC (.int 2))) (ag 1)) (ak 4))
 (aw (bc (tOp u4 (tOp (fk K) (ag 0) (tC (.int 2))) (ag 1)) (vv (ag 0) (tC (.int 2)) m_))
 (aZ (ag 4))))
def pZ:List Str:=["pen","many","at","cell","found"]
def mC (K:PySem.W.Frag) (sp_law_take:Sp):TS :=
 aw (bc (tC (.str "abcdefghijklmnopqrstuvwxyz")) (ak 2))
 (aw (bc (tBM K "str" (v4 K) (tC (.str "")) (ac (cu 1 [2,0] (lW (ac (tC (.int 7)) ap)) (ak 0) (mF) (tOp v5 (ag 1) (au sp_law_take [] E0 (ac (ag 2) (ac (tC (.int 26)) ap))))) ap)) (ak 3))
 (aw (bc (au sp_law_take [] E0 (ac (ag 0) (ac (tC (.int 3)) ap))) (ak 4))
 (aw (bc (au sp_law_take [] E0 (ac (ag 0) (ac (tC (.int 26)) ap))) (ak 5))
 (aw (bc (au sp_law_take [] E0 (ac (ag 0) (ac (tC (.int 8)) ap))) (ak 6))
 (aw (bc (gW (ap)) (ak 7))
 (aw (eN (lW (ac (ag 1) ap)) (ak 8) (aw (bc (tOp v5 (ag 2) (tOp fO (tOp cw (ag 5) (tOp iL (tC (.int 3)) (ag 8))) (tC (.int 26)))) (ak 9))
 (aw (bc (tSl wD (ag 3) (cN) (fI (tOp fO (tOp cw (ag 6) (tOp iL (ag 8) (tOp fO (ag 4) (tC (.int 2))))) (tC (.int 8))))) (ak 10))
 (aw (bc (tOp (fk K) (gW (ac (tC (.int 0)) (ac (tCB (fA K) (ac (ag 10) ap)) (ac (tOp u4 (tCB (fA K) (ac (ag 10) ap)) (tC (.int 2))) ap)))) (ag 4)) (ak 11))
 (cG (tBM K "list" cP (ag 7) (ac (tOp v7 (tOp v7 (tSl wD (ag 10) (cN) (fI (ag 11))) (ag 9)) (tSl wD (ag 10) (fI (ag 11)) (cN))) ap)))))))
 (aZ (ag 7))))))))
def nJ:List Str:=["pen","many","letters","base","way","turn","size","found","k","sign","part","at"]
def qq (K:PySem.W.Frag) :TS :=
 cZ (aJ (tOp (u3 K true) (ag 1) (ag 0))) (cG (tBM K "list" cP (ag 0) (ac (ag 1) ap))) (aU)
def sy:List Str:=["doors","door"]
def hE (K:PySem.W.Frag) (sp_law_take:Sp) (sp_law_put:Sp):TS :=
 aw (bc (gW (ap)) (ak 5))
 (aw (bc (au sp_law_take [] E0 (ac (ag 0) (ac (tC (.int 2)) ap))) (ak 6))
 (aw (eN (pL K (ac (ag 3) ap)) (nu K 2 (bw (ak 7) (bw (ak 8) (nv)))) (aw (eN (lW (ac (tOp (fk K) (gW (ac (tC (.int 0)) (ac (tC (.int 1)) (ac (tC (.int 1)) (ac (tC (.int 2)) ap))))) (au sp_law_take [] E0 (ac (ag 0) (ac (tC (.int 4)) ap)))) ap)) (ak 9) (aw (bc (gk (ac (tC (.str "say")) (ac (tOp (fk K) (ag 2) (au sp_law_take [] E0 (ac (ag 0) (ac (tCB (fA K) (ac (ag 2) ap)) ap)))) ap))) (ak 10))
 (cG (au sp_law_put [] E0 (ac (ag 5) (ac (gk (ac (ag 8) (ac (ag 10) (ac (tOp (fk K) (ag 3) (au sp_law_take [] E0 (ac (ag 0) (ac (tCB (fA K) (ac (ag 3) ap)) ap)))) ap)))) ap))))))
 (aw (eN (bS K (ag 1)) (ak 11) (eN (lW (ac (tOp (fk K) (gW (ac (ag 4) (ac (tC (.int 1)) (ac (tC (.int 1)) (ac (tC (.int 2)) ap))))) (au sp_law_take [] E0 (ac (ag 0) (ac (tC (.int 4)) ap)))) ap)) (ak 9) (cG (au sp_law_put [] E0 (ac (ag 5) (ac (gk (ac (ag 8) (ac (gk (ac (tC (.str "ask")) (ac (ag 11) ap))) (ac (tOp (fk K) (ag 3) (au sp_law_take [] E0 (ac (ag 0) (ac (tCB (fA K) (ac (ag 3) ap)) ap)))) ap)))) ap))))))
 (aw (bc (tOp (fk K) (gW (ac (tSl (tD K) (ag 3) (fI (tOp cw (ag 7) (tC (.int 1)))) (cN)) (ac (tSl (tD K) (ag 3) (cN) (fI (ag 7))) ap))) (ag 6)) (ak 12))
 (cZ (vK (aJ (tOp (wL K) (ag 12) (gW (ap)))) (aJ (tOp rEq (au sp_law_take [] E0 (ac (ag 0) (ac (tC (.int 3)) ap))) (tC (.int 0))))) (cG (au sp_law_put [] E0 (ac (ag 5) (ac (gk (ac (ag 8) (ac (gk (ac (tC (.str "still")) ap)) (ac (tOp (rIx K) (ag 12) (au sp_law_take [] E0 (ac (ag 0) (ac (tCB (fA K) (ac (ag 12) ap)) ap)))) ap)))) ap)))) (aU))))))
 (aZ (ag 5))))
def ib:List Str:=["pen","asks","says","rooms","full","doors","down","k","room","turn","sign","ask","later"]
def mD (K:PySem.W.Frag) (sp_law_draw_doors:Sp) (sp_law_names:Sp) (sp_law_take:Sp) (sp_law_anew:Sp):TS :=
 aw (cG (au sp_law_anew [] E0 (ac (ag 0) ap)))
 (aw (bc (au sp_law_names [] E0 (ac (ag 0) (ac (tC (.int 8)) ap))) (ak 3))
 (aw (bc (tSl (tD K) (ag 3) (cN) (fI (tOp cw (tC (.int 1)) (tOp (fk K) (gW (ac (tC (.int 0)) (ac (tC (.int 1)) (ac (tC (.int 1)) (ac (tC (.int 2)) (ac (tC (.int 2)) (ac (tC (.int 3)) ap))))))) (au sp_law_take [] E0 (ac (ag 0) (ac (tC (.int 6)) ap))))))) (ak 4))
 (aw (bc (tSl (tD K) (ag 3) (fI (tC (.int 4))) (fI (tOp cw (tC (.int 5)) (tOp (fk K) (gW (ac (tC (.int 0)) (ac (tC (.int 1)) (ac (tC (.int 1)) (ac (tC (.int 2)) (ac (tC (.int 2)) (ac (tC (.int 3)) ap))))))) (au sp_law_take [] E0 (ac (ag 0) (ac (tC (.int 6)) ap))))))) (ak 5))
 (aw (bc (au sp_law_names [] E0 (ac (ag 0) (ac (tOp cw (tC (.int 1)) (au sp_law_take [] E0 (ac (ag 0) (ac (ag 1) ap)))) ap))) (ak 6))
 (aw (bc (au sp_law_draw_doors [] E0 (ac (ag 0) (ac (ag 4) (ac (ag 5) (ac (ag 6) (ac (ag 2) ap)))))) (ak 7))
 (aZ (gk (ac (ag 4) (ac (ag 5) (ac (ag 6) (ac (ag 7) ap)))))))))))
def nK:List Str:=["pen","most","full","words","asks","says","rooms","doors"]
def jY (K:PySem.W.Frag) (C_Machine:Addr) (sp_Machine_init:Sp):TS :=
 aZ (sR C_Machine sp_Machine_init [] E0 (ac (tCB (bV K) (ac (tOp (rIx K) (ag 0) (tC (.int 0))) ap)) (ac (tCB (bV K) (ac (tOp (rIx K) (ag 0) (tC (.int 1))) ap)) (ac (tCB (bV K) (ac (tOp (rIx K) (ag 0) (tC (.int 2))) ap)) (ac (tCB (bV K) (ac (tOp (rIx K) (ag 0) (tC (.int 3))) ap)) ap)))))
def kK:List Str:=["told"]
def jC (K:PySem.W.Frag) (sp_law_same:Sp):TS :=
 aw (cZ (tB (wJ (ag 1))) (aZ (wJ (ag 0))) (aU))
 (aw (cZ (aJ (tOp v6 (ag 1) (tC (.bl true)))) (aZ (tOp v6 (ag 0) (tC (.bl true)))) (aU))
 (aw (cZ (aJ (tOp v6 (ag 1) (tC (.bl false)))) (aZ (tOp v6 (ag 0) (tC (.bl false)))) (aU))
 (aw (cZ (tB (tCB (jt K) (ac (ag 1) (ac (tC (.ty "int")) ap)))) (aZ (pc (tCB (jt K) (ac (ag 0) (ac (tC (.ty "int")) ap))) (pc (vU (tCB (jt K) (ac (ag 0) (ac (tC (.ty "bool")) ap)))) (tOp (sI K) (ag 0) (ag 1))))) (aU))
 (aw (cZ (tB (tCB (jt K) (ac (ag 1) (ac (tC (.ty "str")) ap)))) (aZ (pc (tCB (jt K) (ac (ag 0) (ac (tC (.ty "str")) ap))) (tOp (sI K) (ag 0) (ag 1)))) (aU))
 (aw (cZ (tOr (aJ (tOp rNe (tCB (jt K) (ac (ag 1) (ac (tC (.ty "tuple")) ap))) (tCB (jt K) (ac (ag 0) (ac (tC (.ty "tuple")) ap))))) (aJ (tOp rNe (tCB (jt K) (ac (ag 1) (ac (tC (.ty "list")) ap))) (tCB (jt K) (ac (ag 0) (ac (tC (.ty "list")) ap)))))) (aZ (tC (.bl false))) (aU))
 (aw (cZ (aJ (tOp rNe (tCB (fA K) (ac (ag 0) ap)) (tCB (fA K) (ac (ag 1) ap)))) (aZ (tC (.bl false))) (aU))
 (aw (eN (rG K (ac (ag 0) (ac (ag 1) ap))) (nu K 2 (bw (ak 2) (bw (ak 3) (nv)))) (cZ (uk (tB (au sp_law_same [] E0 (ac (ag 2) (ac (ag 3) ap))))) (aZ (tC (.bl false))) (aU)))
 (aZ (tC (.bl true))))))))))
def p0:List Str:=["found","due","one","other"]
def qr (K:PySem.W.Frag) :TS :=
 aZ (pc (tOp rNe (ag 0) (tC (.str ""))) (pc (tOp xp (tCB (fA K) (ac (ag 0) ap)) (tC (.int 8))) (tCB (xc K) (ac (cu 1 [] (xg (ag 0)) (ak 0) (mF) (tOp xr (ag 0) (tC (.str "abcdefghijklmnopqrstuvwxyz")))) ap))))
def sD:List Str:=["text"]
def qt (K:PySem.W.Frag) :TS :=
 aw (bc (jD) (ak 1))
 (aw (eN (bS K (ag 0)) (ak 2) (gB (ag 1) (ag 2) (tC (.bl true))))
 (aZ (ag 1)))
def sE:List Str:=["things","keys","thing"]
def fB (K:PySem.W.Frag) (sp_is_name:Sp) (sp_as_keys:Sp):TS :=
 aw (cZ (aJ (tOp rEq (tCB (fA K) (ac (ag 0) ap)) (tC (.int 0)))) (aZ (tC (.int 0))) (aU))
 (aw (bc (au sp_as_keys [] E0 (ac (ag 2) ap)) (ak 3))
 (aw (eN (pL K (ac (ag 0) ap)) (nu K 2 (bw (ak 4) (bw (ak 5) (nv)))) (aw (cZ (tOr (aJ (tOp rEq (ag 4) (ag 1))) (tOr (tB (vJ K (ag 5) (ag 3))) (uk (tB (au sp_is_name [] E0 (ac (ag 5) ap)))))) (aZ (ag 4)) (aU))
 (gB (ag 3) (ag 5) (tC (.bl true)))))
 (aZ (tC .non))))
def fZ:List Str:=["names","most","taken","ahead","number","name"]
def k7 (K:PySem.W.Frag) (a_STILL:Addr):TS :=
 aZ (tOp ul (tOp ul (cu 1 [] (bS K (ag 0)) (ak 0) (mF) (gk (ac (tC (.str "ask")) (ac (ag 0) ap)))) (cu 1 [] (bS K (ag 1)) (ak 0) (mF) (gk (ac (tC (.str "say")) (ac (ag 0) ap))))) (gW (ac (tC (.ref a_STILL)) ap)))
def mr:List Str:=["asks","says"]
def fC (K:PySem.W.Frag) (sp_as_keys:Sp):TS :=
 aw (bc (au sp_as_keys [] E0 (ac (ag 1) ap)) (ak 3))
 (aw (bc (gX) (ak 4))
 (aw (eN (pL K (ac (ag 0) ap)) (nu K 2 (bw (ak 5) (bw (ak 6) (nv)))) (aw (cZ (tOr (aJ (tOp rEq (ag 5) (tC (.int 2000)))) (tB (vJ K (ag 6) (ag 4)))) (aZ (ag 5)) (aU))
 (aw (cZ (tOr (tB (eZ K (tOp (rIx K) (ag 6) (tC (.int 0))) (ag 3))) (tOr (aJ (tOp (u3 K true) (tOp (rIx K) (ag 6) (tC (.int 1))) (ag 2))) (tB (eZ K (tOp (rIx K) (ag 6) (tC (.int 2))) (ag 3))))) (aZ (ag 5)) (aU))
 (gB (ag 4) (ag 6) (tC (.bl true))))))
 (aZ (tC .non))))
def f6:List Str:=["doors","rooms","signs","own_rooms","ahead","number","door"]
def cM (K:PySem.W.Frag) :TS :=
 aw (bc (gX) (ak 1))
 (aw (eN (bS K (ag 0)) (nu K 3 (bw (ak 2) (bw (ak 3) (bw (ak 4) (nv))))) (cG (tBM K "list" cP (tBM K "dict" qN (ag 1) (ac (gk (ac (ag 2) (ac (ag 3) ap))) (ac (gW (ap)) ap))) (ac (ag 4) ap))))
 (aZ (ag 1)))
def cS:List Str:=["doors","goals","start","sign","goal"]
def jl (K:PySem.W.Frag) (a_STILL:Addr):TS :=
 aw (bc (jD) (ak 2))
 (aw (bc (gW (ac (ag 1) ap)) (ak 3))
 (aw (nR (aJ (tOp wM (tCB (fA K) (ac (ag 3) ap)) (tC (.int 0)))) (aw (bc (w6 K "list" xa (ag 3)) (ak 4))
 (eN (xh K (gZ K (ag 0) (gk (ac (ag 4) (ac (tC (.ref a_STILL)) ap))) (gk (ap)))) (ak 5) (cZ (tB (eZ K (ag 5) (ag 2))) (aw (gB (ag 2) (ag 5) (tC (.bl true)))
 (cG (tBM K "list" cP (ag 3) (ac (ag 5) ap)))) (aU)))))
 (aZ (ag 2))))
def jv:List Str:=["goals","room","led","waiting","here","goal"]
def gj (K:PySem.W.Frag) :TS :=
 aw (eN (pL K (ac (ag 0) ap)) (nu K 2 (bw (ak 2) (bw (ak 3) (nv)))) (cZ (tB (vJ K (ag 3) (mN K (ag 1) (ag 3)))) (aZ (ag 2)) (aU)))
 (aZ (tC .non))
def gQ:List Str:=["rooms","led","number","room"]
def mz (K:PySem.W.Frag) :TS :=
 cZ (tB (vV (ag 1))) (qw) (aU)
def nH:List Str:=["part","number"]
def kY (K:PySem.W.Frag) (sp_need_none:Sp) (sp_first_wrong_door:Sp) (sp_door_signs:Sp) (sp_first_wrong_name:Sp):TS :=
 aw (cG (au sp_need_none [] E0 (ac (tC (.str "asks")) (ac (au sp_first_wrong_name [] E0 (ac (ag 0) (ac (tC (.int 4)) (ac (gW (ap)) ap)))) ap))))
 (aw (cG (au sp_need_none [] E0 (ac (tC (.str "says")) (ac (au sp_first_wrong_name [] E0 (ac (ag 1) (ac (tC (.int 4)) (ac (ag 0) ap)))) ap))))
 (aw (cG (au sp_need_none [] E0 (ac (tC (.str "rooms")) (ac (au sp_first_wrong_name [] E0 (ac (ag 2) (ac (tC (.int 150)) (ac (gW (ap)) ap)))) ap))))
 (cG (au sp_need_none [] E0 (ac (tC (.str "doors")) (ac (au sp_first_wrong_door [] E0 (ac (ag 3) (ac (ag 2) (ac (au sp_door_signs [] E0 (ac (ag 0) (ac (ag 1) ap))) ap)))) ap))))))
def mm:List Str:=["asks","says","rooms","doors"]
def hU (K:PySem.W.Frag) :TS :=
 aw (bc (jD) (ak 2))
 (aw (eN (bS K (ag 0)) (ak 3) (gB (ag 2) (ag 3) (gW (ap))))
 (aw (eN (bS K (ag 1)) (ak 4) (cG (tBM K "list" cP (mN K (ag 2) (tOp (rIx K) (ag 4) (tC (.int 0)))) (ac (ag 4) ap))))
 (aZ (ag 2))))
def ie:List Str:=["rooms","doors","leaving","room","door"]
def hJ (K:PySem.W.Frag) :TS :=
 aZ (tCB (xc K) (ac (cu 1 [] (bS K (ag 0)) (ak 0) (mF) (tOp rEq (tOp (rIx K) (tOp (rIx K) (ag 0) (tC (.int 1))) (tC (.int 0))) (tC (.str "ask")))) ap))
def ic:List Str:=["doors"]
def fG (K:PySem.W.Frag) (sp_need_none:Sp) (sp_first_led_round:Sp) (sp_led_by_still:Sp) (sp_goals_by_start_and_sign:Sp) (sp_as_keys:Sp) (sp_has_asks_alone:Sp) (sp_doors_by_start:Sp) (sp_need_parts:Sp):TS :=
 aw (cG (au sp_need_parts [] E0 (ac (ag 1) (ac (ag 2) (ac (ag 3) (ac (ag 4) ap))))))
 (aw (nV K (ag 0) (tCB (bV K) (ac (ag 1) ap)) "own_asks")
 (aw (nV K (ag 0) (tCB (bV K) (ac (ag 2) ap)) "own_says")
 (aw (nV K (ag 0) (tCB (bV K) (ac (ag 3) ap)) "own_rooms")
 (aw (nV K (ag 0) (tCB (bV K) (ac (ag 4) ap)) "own_doors")
 (aw (nV K (ag 0) (au sp_doors_by_start [] E0 (ac (ag 3) (ac (ag 4) ap))) "leaving")
 (aw (nV K (ag 0) (au sp_as_keys [] E0 (ac (cu 1 [0] (bS K (ag 3)) (ak 0) (tB (au sp_has_asks_alone [] E0 (ac (mN K (h7 K (ag 1) "leaving") (ag 0)) ap))) (ag 0)) ap)) "quiet")
 (aw (nV K (ag 0) (au sp_goals_by_start_and_sign [] E0 (ac (ag 4) ap)) "sign_goals")
 (aw (nV K (ag 0) (tCB (u5 K) (ac (cu 1 [0] (bS K (ag 3)) (ak 0) (mF) (gk (ac (ag 0) (ac (au sp_led_by_still [] E0 (ac (h7 K (ag 1) "sign_goals") (ac (ag 0) ap))) ap)))) ap)) "still_led")
 (cG (au sp_need_none [] E0 (ac (tC (.str "still")) (ac (au sp_first_led_round [] E0 (ac (ag 3) (ac (h7 K (ag 0) "still_led") ap))) ap))))))))))))
def gf:List Str:=["self","asks","says","rooms","doors"]
def fF (K:PySem.W.Frag) :TS :=
 aZ (vJ K (ag 1) (h7 K (ag 0) "quiet"))
def gb:List Str:=["self","room"]
def fD (K:PySem.W.Frag) (sp_with_still:Sp) (C_Machine:Addr) (sp_Machine_goals:Sp) (a_HUSH:Addr) (sp_Machine_is_quiet:Sp):TS :=
 aw (cZ (aJ (tOp (sI K) (ag 2) (tC (.ref a_HUSH)))) (aZ (tCB (tz K) (ac (cu 1 [0] (wF K (ag 1)) (ak 0) (tB (eL C_Machine "is_quiet" sp_Machine_is_quiet [] E0 (ag 1) (ac (ag 0) ap))) (ag 0)) ap))) (aU))
 (aw (bc (gW (ap)) (ak 3))
 (aw (eN (wF K (ag 1)) (ak 4) (cG (tBM K "list" qO (ag 3) (ac (eL C_Machine "goals" sp_Machine_goals [] E0 (ag 0) (ac (ag 4) (ac (ag 2) ap))) ap))))
 (aZ (au sp_with_still [] E0 (ac (ag 0) (ac (ag 3) ap))))))
def f8:List Str:=["M","face","sign","goals","room"]
section
variable {P:Program}{w:World}{K:PySem.W.Frag}{mg:Str->Option Value}{base:Heap}
end
def ExB (p:Addr) (H H':Hp):Prop:=∀b o,H b=some o->b≠p->H' b=some o
theorem ExB.refl (p:Addr) (H:Hp):ExB p H H:=fun _ _ h _=>h
theorem ExB.trans {p:Addr}{H H1 H2:Hp}(a:ExB p H H1) (b:ExB p H1 H2):ExB p H H2:=fun c o h n=>b c o (a c o h n) n
theorem Same.exB {p:Addr}{H H':Hp}(a:Same H H'):ExB p H H':=fun b o h _=>a b o h
theorem ExB.upd (p:Addr) (H:Hp) (o:HO):ExB p H (upd H p o):=fun b u h n=>by rw [af n]; exact h
theorem Same.new {H:Hp}{a:Addr}{o:HO}(h:H a=none):Same H (upd H a o):=fun b u e=>by rw [af (ad e h)]; exact e
theorem ExB.free {p:Addr}{H H':Hp}(e:ExB p H H') {u:HO}(hp:H' p=some u) {l:Addr}(h:H' l=none):H l=none:=by
 cases q:H l with
 | none=>rfl
 | some o =>
  by_cases z:l=p
  ·subst z; rw [hp] at h; cases h
  ·rw [e l o q z] at h; cases h
theorem kp {H:Hp}{a b:Addr}{o x:HO}(h:H b=some o) (n:H a=none):upd H a x b=some o:=by rw [af (ad h n)]; exact h
structure PenAt (H:Hp) (p c:Addr) (at_ rest:Int) (ns:List Int):Prop where
 pen:H p=some (.lst [.ref c,.int at_,.int rest])
 cells:H c=some (.lst (ns.map V.int))
 at0:0<=at_
 rest0:0<=rest
theorem PenAt.ne {H:Hp}{p c:Addr}{a r:Int}{ns:List Int}(h:PenAt H p c a r ns):c≠p:=by
 intro e
 have h1:=h.pen
 have h2:=h.cells
 rw [e,h1] at h2
 injection h2 with h2
 injection h2 with h2
 cases ns with
 | nil=>cases h2
 | cons n ns=>injection h2 with h2; cases h2
def Pen (H:Hp) (p c:Addr):Prop:=∃a r ns,PenAt H p c a r ns
theorem Pen.ex {H H':Hp}{p c:Addr}(h:Pen H p c) (e:Same H H'):Pen H' p c:=by
 obtain ⟨a,r,ns,h1,h2,h3,h4⟩:=h
 exact ⟨a,r,ns,e _ _ h1,e _ _ h2,h3,h4⟩
theorem Pen.pen {H:Hp}{p c:Addr}(h:Pen H p c):∃o,H p=some o:=by
 obtain ⟨a,r,ns,h1,_⟩:=h
 exact ⟨_,h1⟩
theorem Pen.cell {H:Hp}{p c:Addr}(h:Pen H p c):∃o,H c=some o:=by
 obtain ⟨a,r,ns,_,h1,_⟩:=h
 exact ⟨_,h1⟩
theorem Pen.upd {H:Hp}{p c l:Addr}{o:HO}(h:Pen H p c) (h1:p≠l) (h2:c≠l):Pen (upd H l o) p c:=by
 obtain ⟨a,r,ns,g1,g2,g3,g4⟩:=h
 exact ⟨a,r,ns,by rw [af h1]; exact g1,by rw [af h2]; exact g2,g3,g4⟩
theorem Pen.nep {H:Hp}{p c l:Addr}(h:Pen H p c) (hl:H l=none):p≠l:=let ⟨_,e⟩:=h.pen; ad e hl
theorem Pen.nec {H:Hp}{p c l:Addr}(h:Pen H p c) (hl:H l=none):c≠l:=let ⟨_,e⟩:=h.cell; ad e hl
theorem ExB.new {p:Addr}{H:Hp}{a:Addr}{o:HO}(h:H a=none):ExB p H (L2.upd H a o):=fun b u e _=>by rw [af (ad e h)]; exact e
def iE:Sp:=fun vs H Q _=>∃c a:Int,vs=[.int c,.int a]/\0<=a/\∀r:Int,0<=r->Q (.int r) H
theorem kH {i j:Int}(h1:-(2 ^ 64)<j) (h2:j<2 ^ 64):CMul i j:=.inr ⟨h1,h2⟩
theorem qH {K:PySem.W.Frag}{vs:List V}{H:Hp}{Q:VK}{E:XK}(h:iE vs H Q E):kZ K { nx:=fun _ H'=>Q .non H',rt:=Q } (aA mn vs) H:=by
 obtain ⟨c,a,rfl,ha,k⟩:=h
 refine ⟨_,rfl,_,_,rfl,rfl,⟨by decide,by decide,by decide⟩,_,_,rfl,rfl,_,rfl,?_⟩
 refine oz (fun h=>?_) (fun _=>?_)
 ·refine ⟨_,rfl,k _ ?_⟩
  have:=of_decide_eq_true h
  have e:((10:Int) ^ (18:Int).toNat)=1000000000000000000:=by decide
  omega
 ·have one:∀z:Int,0<=z % 2147483629/\z % 2147483629<2147483629:=fun z=>⟨Int.emod_nonneg _ (by decide),Int.emod_lt_of_pos _ (by decide)⟩
  have two:∀z:Int,0<=z % 2147483587/\z % 2147483587<2147483587:=fun z=>⟨Int.emod_nonneg _ (by decide),Int.emod_lt_of_pos _ (by decide)⟩
  have three:∀z:Int,0<=z % 2147483563/\z % 2147483563<2147483563:=fun z=>⟨Int.emod_nonneg _ (by decide),Int.emod_lt_of_pos _ (by decide)⟩
  refine ⟨_,rfl,_,_,rfl,rfl,(by show (0:Int)<1000000007; decide),_,_,rfl,rfl,kH (by decide) (by decide),_,rfl,_,_,rfl,rfl,kH (by decide) (by decide),_,_,rfl,rfl,_,_,rfl,rfl,_,_,rfl,rfl,(by show (0:Int)<2147483629; decide),?_⟩
  generalize hz1:(c % 1000000007 * 69069+a * 40503+977)=z1
  obtain ⟨o1,o2⟩:=one z1
  generalize z1 % 2147483629=o at o1 o2 ⊢
  refine ⟨_,rfl,_,rfl,_,_,rfl,rfl,kH (by omega) (by omega),_,rfl,_,_,rfl,rfl,kH (by decide) (by decide),_,_,rfl,rfl,_,rfl,_,_,rfl,rfl,(by show (0:Int)<65537; decide),_,_,rfl,rfl,_,_,rfl,rfl,(by show (0:Int)<2147483587; decide),?_⟩
  generalize hz2:(o * o+a * 7919+c % 65537)=z2
  obtain ⟨p1,p2⟩:=two z2
  generalize z2 % 2147483587=q at p1 p2 ⊢
  refine ⟨_,rfl,_,rfl,_,_,rfl,rfl,kH (by omega) (by omega),_,rfl,_,_,rfl,rfl,kH (by decide) (by decide),_,_,rfl,rfl,_,_,rfl,rfl,_,_,rfl,rfl,(by show (0:Int)<2147483563; decide),?_⟩
  generalize hz3:(q * q+o * 31+5)=z3
  obtain ⟨r1,r2⟩:=three z3
  generalize z3 % 2147483563=r at r1 r2 ⊢
  refine ⟨_,rfl,_,_,rfl,rfl,kH (by decide) (by decide),_,rfl,_,_,rfl,rfl,_,_,rfl,rfl,kH (by decide) (by decide),_,rfl,_,_,rfl,rfl,k _ ?_⟩
  omega
def mV:Sp:=fun vs H Q _=>∃p c,vs=[.ref p]/\Pen H p c/\∀H',Pen H' p c->ExB p H H'->Q (.ref p) H'
theorem u1 {K:PySem.W.Frag}{vs:List V}{H:Hp}{Q:VK}{E:XK}(h:mV vs H Q E):o5 K { nx:=fun _ H'=>Q .non H',rt:=Q } (aA p5 vs) H:=by
 obtain ⟨p,c,rfl,⟨a,r,ns,h⟩,k⟩:=h
 refine ⟨_,rfl,p,_,_,_,rfl,rfl,h.pen,rfl,_,rfl,k _ ⟨a,0,ns,aa,?_,h.at0,Int.le_refl 0⟩ (ExB.upd _ _ _)⟩
 rw [af h.ne]; exact h.cells
theorem sr {ns:List Int}{a:Int}(h0:0<=a) (h1:a<ns.length):∃z,atI (ns.map V.int) a=some (.int z):=by
 obtain ⟨n,rfl⟩:=Int.eq_ofNat_of_zero_le h0
 have hn:n<ns.length:=by omega
 exact ⟨ns[n],cE (by simp [hn])⟩
@[irreducible] def bY:Sp:=fun vs H Q _=>∃(p c:Addr) (m:Int),vs=[.ref p,.int m]/\Pen H p c/\0<m/\m<1073741824/\∀(r:Int) (H':Hp),0<=r->r<m->Pen H' p c->ExB p H H'->Q (.int r) H'
theorem dE {H:Hp}{Q:VK}{E:XK}{p c:Addr}{m:Int}(hp:Pen H p c) (m0:0<m) (m1:m<1073741824) (k:∀(r:Int) (H':Hp),0<=r->r<m->Pen H' p c->ExB p H H'->Q (.int r) H'):bY [.ref p,.int m] H Q E:=by
 unfold bY
 exact ⟨p,c,m,rfl,hp,m0,m1,k⟩
theorem uT {K:PySem.W.Frag}{vs:List V}{H:Hp}{Q:VK}{E:XK}(h:bY vs H Q E):oZ K iE { nx:=fun _ H'=>Q .non H',rt:=Q } (aA pZ vs) H:=by
 unfold bY at h
 obtain ⟨p,c,m,rfl,⟨a,r,ns,h⟩,hm,hm2,k⟩:=h
 have fin:∀(H':Hp) (a' r':Int) (x y:Option V),PenAt H' p c a' r' ns->ExB p H H' ->
   (aw (bc (tOp fO (tOp (fk K) (ag 0) (tC (.int 2))) (ag 1)) (ak 4)) (aw (bc (tOp u4 (tOp (fk K) (ag 0) (tC (.int 2))) (ag 1)) (vv (ag 0) (tC (.int 2)) m_)) (aZ (ag 4))))
    { nx:=fun _ H'=>Q .non H',rt:=Q } [some (.ref p),some (.int m),x,y,none] H':=by
  intro H' a' r' x y h' ex
  refine ⟨_,rfl,p,_,2,_,rfl,rfl,SqL.of h'.pen,rfl,_,rfl,_,_,rfl,rfl,hm,?_⟩
  refine ⟨_,rfl,p,_,2,_,rfl,rfl,SqL.of h'.pen,rfl,_,rfl,_,_,rfl,rfl,⟨hm,hm2⟩,_,rfl,p,_,_,_,rfl,rfl,h'.pen,rfl,?_⟩
  refine ⟨_,rfl,k _ _ (Int.emod_nonneg _ (by omega)) (Int.emod_lt_of_pos _ hm) ⟨a',_,ns,aa,?_,h'.at0,Int.ediv_nonneg h'.rest0 (by omega)⟩ (ex.trans (ExB.upd _ _ _))⟩
  rw [af h'.ne]; exact h'.cells
 refine ⟨_,rfl,p,_,2,_,rfl,rfl,SqL.of h.pen,rfl,_,rfl,_,_,rfl,rfl,_,rfl,?_⟩
 refine oz (fun h1=>?_) (fun h1=>?_)
 ·-- at=pen[1]; cell=0; if at<len(pen[0])
  refine ⟨_,rfl,p,_,1,_,rfl,rfl,SqL.of h.pen,rfl,?_⟩
  have la:(V.int ((ns.map V.int).length:Nat))=V.int (ns.length:Nat):=by rw [List.length_map]
  refine ⟨_,rfl,_,rfl,p,_,0,_,rfl,rfl,SqL.of h.pen,rfl,.inl ⟨c,_,rfl,.inl (SqL.of h.cells),_,_,rfl,la,_,rfl,?_⟩⟩
  refine oz (fun h2=>?_) (fun h2=>?_)
  ·obtain ⟨z,hz⟩:=sr (ns:=ns) h.at0 (of_decide_eq_true h2)
   refine ⟨_,rfl,p,_,0,_,rfl,rfl,SqL.of h.pen,rfl,_,rfl,c,_,_,_,rfl,rfl,SqL.of h.cells,hz,?_⟩
   refine ⟨_,rfl,_,_,rfl,rfl,_,rfl,p,_,_,_,rfl,rfl,h.pen,rfl,?_⟩
   refine ⟨_,rfl,_,rfl,_,_,rfl,h.at0,fun q hq=>⟨_,rfl,p,_,_,_,rfl,rfl,aa,rfl,?_⟩⟩
   rw [jX]
   refine fin _ (a+1) q _ _ ⟨aa,by rw [af h.ne]; exact h.cells,by have:=h.at0; omega,hq⟩ (ExB.upd _ _ _)
  ·refine ⟨_,rfl,p,_,0,_,rfl,rfl,SqL.of h.pen,rfl,.inl ⟨c,_,rfl,.inl (SqL.of h.cells),_,_,la,rfl,_,rfl,?_⟩⟩
   refine oz (fun h3=>?_) (fun h3=>?_)
   ·have hl:(0:Int)<ns.length:=of_decide_eq_true h3
    obtain ⟨z,hz⟩:=sr (ns:=ns) (a:=(a * 5+3) % (ns.length:Int)) (Int.emod_nonneg _ (by omega)) (Int.emod_lt_of_pos _ hl)
    refine ⟨_,rfl,p,_,0,_,rfl,rfl,SqL.of h.pen,rfl,_,rfl,_,_,rfl,rfl,kH (by decide) (by decide),_,_,rfl,rfl,_,rfl,p,_,0,_,rfl,rfl,SqL.of h.pen,rfl,.inl ⟨c,_,rfl,.inl (SqL.of h.cells),_,_,rfl,la,hl,c,_,_,_,rfl,rfl,SqL.of h.cells,hz,?_⟩⟩
    refine ⟨_,_,rfl,rfl,⟨by decide,by decide,by decide⟩,_,rfl,_,_,rfl,rfl,_,_,rfl,rfl,?_,?_⟩
    ·have e:((10:Int) ^ (17:Int).toNat)=100000000000000000:=by decide
     have:=h.at0
     show (0:Int)<10 ^ (17:Int).toNat+a
     omega
    refine ⟨_,rfl,_,_,rfl,rfl,_,rfl,p,_,_,_,rfl,rfl,h.pen,rfl,?_⟩
    refine ⟨_,rfl,_,rfl,_,_,rfl,h.at0,fun q hq=>⟨_,rfl,p,_,_,_,rfl,rfl,aa,rfl,?_⟩⟩
    rw [jX]
    refine fin _ (a+1) q _ _ ⟨aa,by rw [af h.ne]; exact h.cells,by have:=h.at0; omega,hq⟩ (ExB.upd _ _ _)
   ·refine ⟨_,rfl,_,_,rfl,rfl,_,rfl,p,_,_,_,rfl,rfl,h.pen,rfl,?_⟩
    refine ⟨_,rfl,_,rfl,_,_,rfl,h.at0,fun q hq=>⟨_,rfl,p,_,_,_,rfl,rfl,aa,rfl,?_⟩⟩
    rw [jX]
    refine fin _ (a+1) q _ _ ⟨aa,by rw [af h.ne]; exact h.cells,by have:=h.at0; omega,hq⟩ (ExB.upd _ _ _)
 ·exact fin H a r _ _ h (ExB.refl _ _)
def mQ (K:PySem.W.Frag):Sp:=fun vs H Q _=>∃(a:Addr) (ns:List Int),vs=[.ref a]/\SqL K H a (ns.map V.int)/\ns.length<=63/\∀(p c:Addr) (H':Hp),H p=none->Pen H' p c->Same H H'->Q (.ref p) H'
theorem lZ (ns:List Int) (lo hi:Option Int):∃ms:List Int,ji (ns.map V.int) lo hi=ms.map V.int/\ms.length=(ji (ns.map V.int) lo hi).length:=by
 refine ⟨(ns.drop (HT.sIx (ns.map V.int).length 0 lo)).take (HT.sIx (ns.map V.int).length (ns.map V.int).length hi-HT.sIx (ns.map V.int).length 0 lo),?_,?_⟩
 ·unfold ji; rw [List.map_take,List.map_drop]
 ·unfold ji; rw [List.length_take,List.length_take,List.length_drop,List.length_drop,List.length_map]
theorem uV {K:PySem.W.Frag}{vs:List V}{H:Hp}{Q:VK}{E:XK}(h:mQ K vs H Q E):o0 K { nx:=fun _ H'=>Q .non H',rt:=Q } (aA p4 vs) H:=by
 obtain ⟨a,ns,rfl,hs,hn,k⟩:=h
 obtain ⟨c0,e0,l0⟩:=lZ ns none (some 12)
 obtain ⟨c1,e1,l1⟩:=lZ ns (some 12) (some 63)
 have hlen:c1≠[]->c0.length=12:=by
  intro hne
  have hc1:0<c1.length:=by cases c1 with | nil=>exact absurd rfl hne | cons _ _=>simp
  rw [l1] at hc1
  rw [l0]
  unfold ji at hc1 ⊢
  rw [List.length_take,List.length_drop,List.length_map] at hc1
  rw [List.length_take,List.length_drop,List.length_map]
  have s1:HT.sIx ns.length 0 (some 12)=min 12 ns.length:=HT.sIx_nat _ _ 12
  have s2:HT.sIx ns.length ns.length (some 12)=min 12 ns.length:=HT.sIx_nat _ _ 12
  rw [HT.sIx_none,s2]
  rw [s1] at hc1
  omega
 refine ⟨_,rfl,_,rfl,a,_,rfl,hs,fun q hq=>.inl ⟨q,_,rfl,.inl (SqL.of aa),fun c hc=>?_⟩⟩
 rw [e0] at hc ⊢
 have hcH:H c=none:=by
  have:c≠q:=fun z=>by subst z; rw [aa] at hc; cases hc
  rw [af this] at hc; exact hc
 have hS:Same H (upd (upd H q (.lst (c0.map V.int))) c (.lst (c0.map V.int))):=(Same.new hq).trans (Same.new hc)
 refine ⟨_,rfl,_,rfl,_,rfl,a,_,rfl,hS.seq hs,fun r hr=>⟨r,rfl,⟨_,SqL.of aa⟩,?_⟩⟩
 rw [e1]
 have hcr:c≠r:=ad aa hr
 refine fX (xs:=c1.map V.int) (fun i σ H'=>∃(ms:List Int) (x y:Option V),σ=[some (.ref a),some (.ref c),x,y]/\H' c=some (.lst (ms.map V.int))/\ms.length=c0.length/\H' r=some (.lst (c1.map V.int))/\Same H H')
  ⟨c0,none,none,rfl,kp aa hr,rfl,aa,hS.trans (Same.new hr)⟩ (fun i σ H' _ ⟨ms,x,y,_,_,_,h,_⟩=>SqL.of h) ?_ ?_
 ·rintro i x σ H' t hi ⟨ms,u,v,rfl,hcell,hml,hr',hS'⟩ ht
  have hi':i<c1.length:=by
   have:=(List.getElem?_eq_some_iff.mp hi).1
   rwa [List.length_map] at this
  have h12:=hlen (fun z=>by rw [z] at hi'; simp at hi')
  obtain ⟨z,rfl⟩:∃z,x=V.int z:=by
   rw [List.getElem?_map,List.getElem?_eq_getElem hi'] at hi
   exact ⟨_,(Option.some.inj hi).symm⟩
  have hcell1:upd H' t (.tup [.int i,.int z]) c=some (.lst (ms.map V.int)):=kp hcell ht
  have hidx:(i:Int) % 12=((i % 12:Nat):Int):=by omega
  have hlt:i % 12<ms.length:=by omega
  refine ⟨t,_,rfl,SqT.of aa,rfl,_,_,rfl,_,_,rfl,rfl,?_⟩
  have hat:atI (ms.map V.int) ((i:Int) % 12)=some (.int ms[i % 12]):=by rw [hidx]; exact cE (by simp [hlt])
  refine ⟨_,rfl,_,rfl,_,_,rfl,rfl,(by show (0:Int)<12; decide),c,_,_,_,rfl,rfl,SqL.of hcell1,hat,_,rfl,_,_,rfl,rfl,_,rfl,_,rfl,_,_,rfl,rfl,(by show (0:Int)<12; decide),c,_,_,i % 12,rfl,rfl,hcell1,?_,?_⟩
  ·rw [hidx]
   unfold ixN
   rw [if_pos (by omega),if_pos (by rw [List.length_map]; omega)]
   rw [Int.toNat_natCast]
  ·refine ⟨ms.set (i % 12) (ms[i % 12]+z),_,_,rfl,?_,by rw [List.length_set]; exact hml,?_,?_⟩
   ·rw [aa,List.map_set]
   ·rw [af hcr.symm]; exact kp hr' ht
   ·intro b o e
    rw [af (ad e hcH)]
    exact kp (hS' b o e) ht
 ·rintro σ H' ⟨ms,x,y,rfl,hcell,hml,hr',hS'⟩
  refine ⟨_,rfl,(by show 3<=sizeLine; decide),fun p hp=>k p c _ (hS'.free hp) ⟨0,0,ms,aa,kp hcell hp,Int.le_refl _,Int.le_refl _⟩ (hS'.trans (Same.new hp))⟩
def ol (c:Nat):Prop:=97<=c/\c<=122
structure IsName (w:Str):Prop where
 lo:1<=w.length
 hi:w.length<=8
 al:∀c∈w.cps.toList,ol c
theorem sw:∀n:Nat,n<26->(("abcdefghijklmnopqrstuvwxyz":Str).cps.toList)[n]?=some (97+n):=by decide +kernel
theorem sv:("abcdefghijklmnopqrstuvwxyz":Str).length<=sizeLine:=by decide +kernel
theorem uD {r:Int}(h0:0<=r) (h1:r<26):atI (("abcdefghijklmnopqrstuvwxyz":Str).cps.toList) r=some (97+r.toNat):=by
 obtain ⟨n,rfl⟩:=Int.eq_ofNat_of_zero_le h0
 rw [Int.toNat_natCast]
 exact cE (sw n (by omega))
theorem kB (cs:List Nat):∀acc:Array Nat,((cs.map fun c=>(⟨#[c]⟩:Str)).foldl (fun acc p=>acc++("":Str).cps++p.cps) acc).toList=acc.toList++cs:=by
 have e:("":Str).cps=#[]:=by decide +kernel
 induction cs with
 | nil=>intro acc; simp
 | cons c cs ih =>
  intro acc
  rw [List.map_cons,List.foldl_cons,ih,e]
  simp
theorem pI (cs:List Nat):(Txt.join "" (cs.map fun c=>(⟨#[c]⟩:Str))).cps.toList=cs:=by
 unfold Txt.join Builtin.Str.glued
 cases cs with
 | nil=>rfl
 | cons c cs =>
  rw [List.map_cons]
  show ((cs.map fun c=>(⟨#[c]⟩:Str)).foldl (fun acc p=>acc++("":Str).cps++p.cps) #[c]).toList=_
  rw [kB]
  rfl
theorem uP {a b:Str}(h:a.cps.toList=b.cps.toList):a=b:=by
 cases a with | mk x=>cases b with | mk y=>exact congrArg Str.mk (Array.toList_inj.mp h)
theorem bX (a:Str):a.length=a.cps.toList.length:=by simp [Str.length]
theorem nG (a b:Str):(a++b).cps.toList=a.cps.toList++b.cps.toList:=by
 show (a.cps++b.cps).toList=_
 simp
theorem uC (z:Str) (m:Nat):(sh z none (some (m:Int))).cps.toList=z.cps.toList.take m:=by
 unfold sh
 rw [HT.sIx_none,HT.sIx_nat,List.drop_zero,Nat.sub_zero,bX]
 show List.take _ _=_
 rw [List.take_eq_take_iff]
 omega
theorem ub (z:Str) (m:Nat):(sh z (some (m:Int)) none).cps.toList=z.cps.toList.drop m:=by
 unfold sh
 rw [HT.sIx_none,HT.sIx_nat,bX]
 show List.take _ _=_
 rw [List.take_of_length_le (by rw [List.length_drop]; omega)]
 by_cases h:m<=z.cps.toList.length
 ·rw [Nat.min_eq_left h]
 ·rw [Nat.min_eq_right (by omega),List.drop_length,List.drop_of_length_le (by omega)]
def eJ (way size k:Nat):Nat:=(size+k * (way % 2)) % 8
def wAt (way m:Nat):Nat:=if way=0 then 0 else if way=1 then m else m / 2
def jk (b:List Nat) (way turn size k:Nat):List Nat :=
 (b.take (eJ way size k)).take (wAt way (eJ way size k))++[97+(turn+3 * k) % 26]++(b.take (eJ way size k)).drop (wAt way (eJ way size k))
def uh (b:List Nat) (way turn size k:Nat):Str:=⟨(jk b way turn size k).toArray⟩
theorem ir {b:List Nat}(hb:b.length=7) (way turn size k:Nat):(jk b way turn size k).length=eJ way size k+1:=by
 have h8:eJ way size k<8:=Nat.mod_lt _ (by decide)
 unfold jk
 rw [List.length_append,List.length_append,List.length_take,List.length_drop,List.length_take,hb]
 have:wAt way (eJ way size k)<=eJ way size k:=by unfold wAt; split; omega; split; omega; omega
 simp
 omega
theorem uH {b:List Nat}(hb:b.length=7) (hl:∀c∈b,ol c) (way turn size k:Nat):IsName (uh b way turn size k):=by
 have h8:eJ way size k<8:=Nat.mod_lt _ (by decide)
 have hlen:=ir hb way turn size k
 have e:(uh b way turn size k).cps.toList=jk b way turn size k:=by simp [uh]
 refine ⟨?_,?_,?_⟩
 ·rw [bX,e]; omega
 ·rw [bX,e]; omega
 ·rw [e]
  intro c hc
  unfold jk at hc
  rcases List.mem_append.mp hc with hc | hc
  ·rcases List.mem_append.mp hc with hc | hc
   ·exact hl c (List.mem_of_mem_take (List.mem_of_mem_take hc))
   ·have:c=97+(turn+3 * k) % 26:=by simpa using hc
    subst this
    have:(turn+3 * k) % 26<26:=Nat.mod_lt _ (by decide)
    exact ⟨by omega,by omega⟩
  ·exact hl c (List.mem_of_mem_take (List.mem_of_mem_drop hc))
theorem sK {b:List Nat}(hb:b.length=7) {way turn size:Nat}(hw:way<3) {j k:Nat}(hj:j<26) (hk:k<26) (h:uh b way turn size j=uh b way turn size k):j=k:=by
 have h8:∀i,eJ way size i<8:=fun i=>Nat.mod_lt _ (by decide)
 have e:jk b way turn size j=jk b way turn size k:=by
  have:=congrArg (fun s=>Str.cps s |>.toList) h
  simpa [uh] using this
 have el:eJ way size j=eJ way size k:=by
  have:=congrArg List.length e
  rw [ir hb,ir hb] at this
  omega
 have key:97+(turn+3 * j) % 26=97+(turn+3 * k) % 26:=by
  have hat:∀i,wAt way (eJ way size i)<=eJ way size i:=fun i=>by unfold wAt; split; omega; split; omega; omega
  have get:∀i,(jk b way turn size i)[wAt way (eJ way size i)]?=some (97+(turn+3 * i) % 26):=by
   intro i
   unfold jk
   have hl:((b.take (eJ way size i)).take (wAt way (eJ way size i))).length=wAt way (eJ way size i):=by
    rw [List.length_take,List.length_take,hb]
    have:=h8 i
    have:=hat i
    omega
   rw [List.append_assoc,List.getElem?_append_right (by omega),hl,Nat.sub_self]
   rfl
  have g1:=get j
  have g2:=get k
  rw [e,el] at g1
  rw [g1] at g2
  exact Option.some.inj g2
 omega
def gP (ws:List Str):Prop:=ws.Nodup/\∀w∈ws,IsName w
def eS (b:List Nat) (way turn size n:Nat):List Str:=(List.range n).map (uh b way turn size)
theorem oQ {b:List Nat}(hb:b.length=7) (hl:∀c∈b,ol c) {way turn size n:Nat}(hw:way<3) (hn:n<=26):gP (eS b way turn size n):=by
 refine ⟨?_,fun w hm=>?_⟩
 ·unfold eS
  rw [List.nodup_iff_pairwise_ne,List.pairwise_map]
  refine (List.nodup_range (n:=n)).imp_of_mem ?_
  intro j k hj hk hne h
  exact hne (sK hb hw (by have:=List.mem_range.mp hj; omega) (by have:=List.mem_range.mp hk; omega) h)
 ·obtain ⟨k,_,rfl⟩:=List.mem_map.mp hm
  exact uH hb hl _ _ _ _
def j9:Sp:=fun vs H Q _=>∃(p c:Addr) (n:Nat),vs=[.ref p,.int n]/\Pen H p c/\n<=26 /\
 ∀(l:Addr) (ws:List Str) (H':Hp),gP ws->ws.length=n->H l=none->H' l=some (.lst (ws.map V.str))->Pen H' p c->ExB p H H'->Q (.ref l) H'
theorem tf {K:PySem.W.Frag}{vs:List V}{H:Hp}{Q:VK}{E:XK}(h:j9 vs H Q E):mC K bY { nx:=fun _ H'=>Q .non H',rt:=Q } (aA nJ vs) H:=by
 obtain ⟨p,c,n,rfl,hp,hn,k⟩:=h
 refine ⟨rfl,7,rfl,by decide,by decide,fun l hl=>?_⟩
 refine pS (lo:=0) (n:=Int.toNat 7) (fun i vs H'=>∃cs:List Nat,vs=cs.map (fun c=>V.str ⟨#[c]⟩)/\cs.length=i/\(∀c∈cs,ol c)/\Pen H' p c/\ExB p H H'/\H' l=some (.lst vs))
  ⟨[],rfl,rfl,(fun _ h=>nomatch h),hp.ex (Same.new hl),ExB.new hl,aa⟩ (fun i vs H' _ ⟨_,_,_,_,_,_,h⟩=>h) ?_ ?_
 rotate_left
 ·rintro i vs H' hi ⟨cs,rfl,hlen,hlet,hp',hex,hl'⟩
  have hlp:=hp.nep hl
  have hlc:=hp.nec hl
  refine gN (uG ?_)
  refine ⟨_,rfl,_,rfl,dE hp' (by decide) (by decide) fun r H2 h0 h1 hp2 hex2=>⟨_,r,_,rfl,rfl,sv,uD h0 h1,?_⟩⟩
  have hl2:=hex2 l _ hl' hlp.symm
  refine ⟨hl2,by rw [List.length_map,hlen]; exact ao (by omega),nxt hi ⟨cs++[97+r.toNat],by rw [List.map_append]; rfl,by rw [List.length_append,hlen]; rfl,?_,hp2.upd hlp hlc,?_,aa⟩⟩
  ·intro x hc
   rcases List.mem_append.mp hc with hc | hc
   ·exact hlet x hc
   ·have:x=97+r.toNat:=by simpa using hc
    subst this
    exact ⟨by omega,by omega⟩
  ·intro b o' e nb
   rw [af (ad e hl)]
   exact hex2 b o' (hex b o' e nb) nb
 ·rintro vs H1 ⟨cs,rfl,hlen,hlet,hp1,hex1,hl1⟩
  refine ⟨"",l,cs.map fun c=>(⟨#[c]⟩:Str),rfl,rfl,SqL.of (by rw [hl1,List.map_map]; rfl),?_,?_⟩
  ·have e0:("":Str).length=0:=by decide +kernel
   rw [e0,Nat.mul_zero,List.map_map]
   have:∀cs:List Nat,(cs.map ((fun x=>Str.length x) ∘ fun c=>(⟨#[c]⟩:Str))).sum=cs.length:=by
    intro cs
    induction cs with
    | nil=>rfl
    | cons c cs ih=>rw [List.map_cons,List.sum_cons,ih,List.length_cons]; show 1+_=_; omega
   rw [this,hlen]; decide
  refine ⟨_,rfl,dE hp1 (by decide) (by decide) fun way H2 w0 w1 hp2 hex2=>?_⟩
  refine ⟨_,rfl,dE hp2 (by decide) (by decide) fun turn H3 t0 t1 hp3 hex3=>?_⟩
  refine ⟨_,rfl,dE hp3 (by decide) (by decide) fun size H4 s0 s1 hp4 hex4=>?_⟩
  have ex4:ExB p H H4:=((hex1.trans hex2).trans hex3).trans hex4
  obtain ⟨wy,rfl⟩:=Int.eq_ofNat_of_zero_le w0
  obtain ⟨tn,rfl⟩:=Int.eq_ofNat_of_zero_le t0
  obtain ⟨sz,rfl⟩:=Int.eq_ofNat_of_zero_le s0
  have hb:=pI cs
  generalize Txt.join "" (cs.map fun c=>(⟨#[c]⟩:Str))=base at hb ⊢
  refine ⟨(by show 0<=sizeLine; decide),fun f hf=>?_⟩
  obtain ⟨op,hop⟩:=hp4.pen
  have hfH:H f=none:=ex4.free hop hf
  have hfp:=hp.nep hfH
  have hfc:=hp.nec hfH
  refine ⟨_,rfl,n,rfl,by omega,by omega,db (lo:=0) (n:=((n:Int)).toNat) (fun i σ H'=>∃(a b c' d:Option V),σ=[some (.ref p),some (.int n),some (.str "abcdefghijklmnopqrstuvwxyz"),some (.str base),some (.int wy),some (.int tn),some (.int sz),some (.ref f),a,b,c',d] /\
   Pen H' p c/\ExB p H H'/\H' f=some (.lst ((eS cs wy tn sz i).map V.str)))
   ⟨_,_,_,_,rfl,hp4.upd hfp hfc,ex4.trans (ExB.new hf),aa⟩ ?_ ?_⟩
  ·rintro i σ H' hi ⟨a,b,c',d,rfl,hp',hex',hf'⟩
   have hi':i<n:=by omega
   have hwy:wy<3:=by omega
   have e26:((tn:Int)+3 * (0+(i:Int))) % 26=(((tn+3 * i) % 26:Nat):Int):=by omega
   refine ⟨_,rfl,_,rfl,_,rfl,_,_,rfl,rfl,.inl ⟨by decide,by decide⟩,_,_,rfl,rfl,_,_,rfl,rfl,(by show (0:Int)<26; decide),_,_,_,rfl,rfl,sv,uD (Int.emod_nonneg _ (by decide)) (Int.emod_lt_of_pos _ (by decide)),?_⟩
   have blen:base.length<=sizeLine:=by rw [bX,hb,hlen]; decide
   have e8:((sz:Int)+(0+(i:Int)) * ((wy:Int) % 2)) % 8=((eJ wy sz i:Nat):Int):=by
    unfold eJ
    have:wy=0∨wy=1∨wy=2:=by omega
    rcases this with rfl | rfl | rfl <;> simp <;> omega
   refine ⟨_,rfl,_,rfl,_,rfl,_,rfl,_,_,rfl,rfl,(by show (0:Int)<2; decide),_,_,rfl,rfl,.inr ⟨by omega,by omega⟩,_,_,rfl,rfl,_,_,rfl,rfl,(by show (0:Int)<8; decide),_,rfl,base,rfl,blen,?_⟩
   rw [e8]
   have hpart:=uC base (eJ wy sz i)
   rw [hb] at hpart
   generalize sh base none (some ((eJ wy sz i:Nat):Int))=part at hpart ⊢
   have h8:eJ wy sz i<8:=Nat.mod_lt _ (by decide)
   have plen:part.length=eJ wy sz i:=by rw [bX,hpart,List.length_take,hlen]; omega
   have pz:part.length<=sizeLine:=by rw [plen]; exact Nat.le_of_lt (ao (by omega))
   refine ⟨_,rfl,.inr ⟨part,rfl,pz,_,rfl,.inr ⟨part,rfl,pz,_,_,rfl,rfl,⟨by decide,by decide⟩,(by show 3<=sizeLine; decide),fun q hq=>?_⟩⟩⟩
   have hqH:H q=none:=by
    obtain ⟨op',hop'⟩:=hp'.pen
    exact hex'.free hop' hq
   have hat:atI [V.int 0,V.int (part.length:Nat),V.int ((part.length:Int) / 2)] (wy:Int)=some (.int (wAt wy (eJ wy sz i):Nat)):=by
    rw [plen]
    have:wy=0∨wy=1∨wy=2:=by omega
    rcases this with rfl | rfl | rfl
    ·rfl
    ·rfl
    ·show some (V.int (((eJ 2 sz i:Nat):Int) / 2))=some (V.int ((wAt 2 (eJ 2 sz i):Nat):Int))
     have:wAt 2 (eJ 2 sz i)=eJ 2 sz i / 2:=rfl
     rw [this]
     congr 2
   refine ⟨_,rfl,q,_,_,_,rfl,rfl,SqL.of aa,hat,?_⟩
   have hf2:upd H' q (.lst [V.int 0,V.int (part.length:Nat),V.int ((part.length:Int) / 2)]) f=some (.lst ((eS cs wy tn sz i).map V.str)):=kp hf' hq
   have c1:=uC part (wAt wy (eJ wy sz i))
   have c2:=ub part (wAt wy (eJ wy sz i))
   have l1:(sh part none (some ((wAt wy (eJ wy sz i):Nat):Int))).length<=8:=by rw [bX,c1,List.length_take,hpart,List.length_take,hlen]; omega
   have l2:(sh part (some ((wAt wy (eJ wy sz i):Nat):Int)) none).length<=8:=by rw [bX,c2,List.length_drop,hpart,List.length_take,hlen]; omega
   refine ⟨_,rfl,.inl ⟨rfl,_,SqL.of hf2⟩,_,rfl,_,rfl,_,rfl,part,rfl,pz,_,rfl,_,_,rfl,rfl,?_,_,rfl,_,rfl,_,rfl,part,rfl,pz,_,_,rfl,rfl,?_,f,_,_,rfl,rfl,hf2,?_,?_⟩
   ·have:Str.length ⟨#[97+(((tn:Int)+3 * (0+(i:Int))) % 26).toNat]⟩=1:=rfl
    rw [this]
    exact Nat.le_of_lt (ao (by omega))
   ·rw [bX,nG,List.length_append,<-bX,<-bX]
    have:Str.length ⟨#[97+(((tn:Int)+3 * (0+(i:Int))) % 26).toNat]⟩=1:=rfl
    rw [this]
    exact Nat.le_of_lt (ao (by omega))
   ·rw [List.length_map]
    unfold eS
    rw [List.length_map,List.length_range]
    exact ao (by omega)
   ·refine ⟨_,_,_,_,rfl,(hp'.upd (hp.nep hqH) (hp.nec hqH)).upd hfp hfc,?_,?_⟩
    ·intro b' o' e nb
     rw [af (ad e hfH)]
     exact kp (hex' b' o' e nb) hq
    ·rw [aa]
     unfold eS
     rw [List.range_succ,List.map_append,List.map_append]
     congr 3
     show [V.str _]=[V.str _]
     congr 2
     refine uP ?_
     rw [nG,nG,c1,c2,hpart,e26,Int.toNat_natCast]
     simp [uh,jk]
  ·rintro σ H' ⟨a,b,c',d,rfl,hp',hex',hf'⟩
   have en:((n:Int)).toNat=n:=by omega
   rw [en] at hf'
   exact ⟨_,rfl,k f _ H' (oQ hlen hlet (by omega) hn) (by unfold eS; rw [List.length_map,List.length_range]) hfH hf' hp' hex'⟩
structure ar where
 a:Str
 sg:List Str
 b:Str
deriving DecidableEq
def SignAt (H:Hp) (s:Addr) (sg:List Str):Prop:=H s=some (.tup (sg.map V.str))
def DoorAt (H:Hp) (t:Addr) (d:ar):Prop:=∃s,H t=some (.tup [.str d.a,.ref s,.str d.b])/\SignAt H s d.sg
def KT0 (H H':Hp):Prop:=∀b xs,H b=some (.tup xs)->H' b=some (.tup xs)
theorem DoorAt.kt {H H':Hp}{t:Addr}{d:ar}(k:KT0 H H') (h:DoorAt H t d):DoorAt H' t d:=by
 obtain ⟨s,h1,h2⟩:=h
 exact ⟨s,k _ _ h1,k _ _ h2⟩
theorem ExB.kt {p:Addr}{H H':Hp}{xs:List V}(e:ExB p H H') (hp:H p=some (.lst xs)):KT0 H H':=fun b ys h=>e b _ h (fun z=>by rw [z,hp] at h; cases h)
theorem Same.kt {H H':Hp}(e:Same H H'):KT0 H H':=fun b ys h=>e b _ h
theorem KT0.trans {H H1 H2:Hp}(a:KT0 H H1) (b:KT0 H1 H2):KT0 H H2:=fun x xs h=>b x xs (a x xs h)
theorem dL {H:Hp}{l:Addr}{xs:List V}{o:HO}(h:H l=some (.lst xs)):KT0 H (upd H l o):=fun b ys e=>by
 rw [af (fun z=>by rw [z,h] at e; cases e)]; exact e
abbrev Doors (H:Hp) (ts:List Addr) (ds:List ar):Prop:=Paired (DoorAt H) ts ds
theorem Paired.get {α β:Type}{R:α->β->Prop}:∀{xs:List α}{ys:List β}{i:Nat}{y:β},Paired R xs ys->ys[i]?=some y->∃x,xs[i]?=some x/\R x y
 | _,_,i,y,.nil,h=>by simp at h
 | _,_,0,y,.cons r t,h=>by simp at h; subst h; exact ⟨_,rfl,r⟩
 | _,_,i+1,y,.cons r t,h=>by
  simp at h
  obtain ⟨x,h1,h2⟩:=Paired.get t h
  exact ⟨x,by simpa using h1,h2⟩
theorem Paired.getL {α β:Type}{R:α->β->Prop}:∀{xs:List α}{ys:List β}{i:Nat}{x:α},Paired R xs ys->xs[i]?=some x->∃y,ys[i]?=some y/\R x y
 | _,_,i,y,.nil,h=>by simp at h
 | _,_,0,y,.cons r t,h=>by simp at h; subst h; exact ⟨_,rfl,r⟩
 | _,_,i+1,y,.cons r t,h=>by
  simp at h
  obtain ⟨x,h1,h2⟩:=Paired.getL t h
  exact ⟨x,by simpa using h1,h2⟩
theorem Doors.kt {H H':Hp}{ts:List Addr}{ds:List ar}(k:KT0 H H') (h:Doors H ts ds):Doors H' ts ds:=Paired.mapP h fun _ _ r=>r.kt k
theorem upd_id {H:Hp}{a:Addr}{o:HO}(h:H a=some o):upd H a o=H:=by
 funext b
 by_cases e:b=a
 ·subst e; rw [aa,h]
 ·rw [af e]
def sDT (x:Str):DT:=.k (.inr x)
def dDT (d:ar):DT:=.t [sDT d.a,.t (d.sg.map sDT),sDT d.b]
theorem iI {x y:Str}(h:sDT x=sDT y):x=y:=by
 unfold sDT at h
 injection h with h
 injection h
theorem cz:∀{x y:List Str},x.map sDT=y.map sDT->x=y
 | [],[],_=>rfl
 | [],_::_,h=>by cases h
 | _::_,[],h=>by cases h
 | a::x,b::y,h=>by
  rw [List.map_cons,List.map_cons] at h
  injection h with h1 h2
  rw [iI h1,cz h2]
theorem vy {x y:ar}(h:dDT x=dDT y):x=y:=by
 unfold dDT at h
 injection h with h
 injection h with h1 h
 injection h with h2 h
 injection h with h3 h
 injection h2 with h2
 cases x; cases y
 simp only at *
 rw [iI h1,cz h2,iI h3]
theorem dz (xs:List Str):DT.depths (xs.map sDT)=0:=by
 induction xs with
 | nil=>rfl
 | cons x xs ih=>rw [List.map_cons]; show max (DT.depth (sDT x)) (DT.depths _)=0; rw [ih]; rfl
theorem nB (d:ar):(dDT d).depth=2:=by
 show DT.depths [sDT d.a,.t (d.sg.map sDT),sDT d.b]+1=2
 show max (DT.depth (sDT d.a)) (max (DT.depths (d.sg.map sDT)+1) (max (DT.depth (sDT d.b)) 0))+1=2
 rw [dz]
 rfl
theorem rS (ds:List ar):DT.depths (ds.map dDT)<=8:=by
 induction ds with
 | nil=>exact Nat.zero_le _
 | cons x xs ih=>rw [List.map_cons]; show max (DT.depth (dDT x)) (DT.depths _)<=8; rw [nB]; omega
theorem jN {K:PySem.W.Frag}{H:Hp}:∀xs:List Str,DIns K H (xs.map sDT) (xs.map V.str)
 | []=>by show DIns K H [] []; unfold DIns; rfl
 | x::xs=>by
  rw [List.map_cons,List.map_cons]
  unfold DIns
  refine ⟨_,_,rfl,?_,jN xs⟩
  unfold sDT DIn
  rfl
theorem kF {K:PySem.W.Frag}{H:Hp}(x:Str):DIn K H (sDT x) (.str x):=by unfold sDT DIn; rfl
theorem bb {K:PySem.W.Frag}{H:Hp}{s:Addr}{sg:List Str}(h:SqT K H s (sg.map V.str)):DIn K H (.t (sg.map sDT)) (.ref s):=by
 unfold DIn
 exact ⟨s,_,rfl,h,jN _⟩
theorem DoorAt.dIn {K:PySem.W.Frag}{H:Hp}{t:Addr}{d:ar}(h:DoorAt H t d):DIn K H (dDT d) (.ref t):=by
 obtain ⟨s,h1,h2⟩:=h
 unfold dDT
 unfold DIn
 refine ⟨t,_,rfl,SqT.of h1,?_⟩
 unfold DIns
 refine ⟨_,_,rfl,kF _,?_⟩
 unfold DIns
 refine ⟨_,_,rfl,bb (SqT.of h2),?_⟩
 unfold DIns
 refine ⟨_,_,rfl,kF _,?_⟩
 unfold DIns
 rfl
theorem Doors.dIns {K:PySem.W.Frag}{H:Hp}:∀{ts:List Addr}{ds:List ar},Doors H ts ds->DIns K H (ds.map dDT) (ts.map V.ref)
 | _,_,.nil=>by show DIns K H [] []; unfold DIns; rfl
 | _,_,.cons r t=>by
  rw [List.map_cons,List.map_cons]
  unfold DIns
  exact ⟨_,_,rfl,r.dIn,Doors.dIns t⟩
theorem mem_dDT {d:ar}{ds:List ar}:dDT d∈ds.map dDT↔d∈ds:=by
 constructor
 ·intro h
  obtain ⟨x,hx,e⟩:=List.mem_map.mp h
  rw [<-vy e]; exact hx
 ·exact List.mem_map_of_mem
def u6 (ds:List ar) (d:ar):List ar:=if d∈ds then ds else ds++[d]
@[irreducible] def iF:Sp:=fun vs H Q _=>∃(l t:Addr) (ts:List Addr) (ds:List ar) (d:ar),vs=[.ref l,.ref t]/\H l=some (.lst (ts.map V.ref))/\Doors H ts ds/\DoorAt H t d/\ds.length<=1000 /\
 ∀ts':List Addr,Doors H ts' (u6 ds d)->Q .non (upd H l (.lst (ts'.map V.ref)))
theorem vY {K:PySem.W.Frag}{vs:List V}{H:Hp}{Q:VK}{E:XK}(h:iF vs H Q E):qq K { nx:=fun _ H'=>Q .non H',rt:=Q } (aA sy vs) H:=by
 unfold iF at h
 obtain ⟨l,t,ts,ds,d,rfl,hl,hd,ht,hz,k⟩:=h
 refine ⟨_,rfl,_,rfl,dDT d,ds.map dDT,l,_,ht.dIn,rfl,.inl (SqL.of hl),hd.dIns,by rw [nB]; decide,rS ds,_,rfl,?_⟩
 by_cases hm:d∈ds
 ·rw [if_pos rfl,decide_eq_true (mem_dDT.mpr hm)]
  refine bx ?_
  have:=k ts (by unfold u6; rw [if_pos hm]; exact hd)
  rw [upd_id hl] at this
  exact this
 ·rw [if_pos rfl,decide_eq_false (fun z=>hm (mem_dDT.mp z))]
  refine cK ?_
  refine ⟨_,rfl,.inl ⟨rfl,_,SqL.of hl⟩,_,rfl,l,_,_,rfl,rfl,hl,?_,?_⟩
  ·rw [List.length_map,Paired.length hd]
   exact ao hz
  ·have:=k (ts++[t]) (by unfold u6; rw [if_neg hm]; exact Paired.snoc hd ht)
   rw [List.map_append] at this
   exact this
structure DI (R:ar->Prop) (H0:Hp) (p c l:Addr) (m:Nat) (H:Hp):Prop where
 pen:Pen H p c
 ds:∃ts ds,H l=some (.lst (ts.map V.ref))/\Doors H ts ds/\ds.Nodup/\(∀d∈ds,R d)/\ds.length<=m
 ex:ExB p H0 H
 fr:H0 l=none
 pl:p≠l
 cl:c≠l
section
variable {R:ar->Prop}{H0 H H':Hp}{p c l:Addr}{m:Nat}
theorem Pen.lst {H:Hp}{p c:Addr}(h:Pen H p c):∃xs,H p=some (.lst xs):=by
 obtain ⟨a,r,ns,h1,_⟩:=h
 exact ⟨_,h1⟩
theorem DI.took (h:DI R H0 p c l m H) (hp:Pen H' p c) (e:ExB p H H'):DI R H0 p c l m H':=by
 obtain ⟨ts,ds,h1,h2,h3⟩:=h.ds
 obtain ⟨xs,hx⟩:=h.pen.lst
 exact ⟨hp,⟨ts,ds,e _ _ h1 h.pl.symm,h2.kt (e.kt hx),h3⟩,h.ex.trans e,h.fr,h.pl,h.cl⟩
theorem DI.new (h:DI R H0 p c l m H) {q:Addr}{o:HO}(hq:H q=none):DI R H0 p c l m (upd H q o) :=
 h.took (h.pen.ex (Same.new hq)) (ExB.new hq)
theorem DI.up (h:DI R H0 p c l m H) {n:Nat}(hn:m<=n):DI R H0 p c l n H:=by
 obtain ⟨ts,ds,h1,h2,h3,h4,h5⟩:=h.ds
 exact ⟨h.pen,⟨ts,ds,h1,h2,h3,h4,Nat.le_trans h5 hn⟩,h.ex,h.fr,h.pl,h.cl⟩
theorem DI.put (h:DI R H0 p c l m H) {t:Addr}{d:ar}{Q:VK}{E:XK}(ht:DoorAt H t d) (hR:R d) (hm:m<=1000) (k:∀H',DI R H0 p c l (m+1) H'->Q .non H'):iF [.ref l,.ref t] H Q E:=by
 obtain ⟨ts,ds,h1,h2,h3,h4,h5⟩:=h.ds
 unfold iF
 refine ⟨l,t,ts,ds,d,rfl,h1,h2,ht,Nat.le_trans h5 hm,fun ts' h'=>k _ ⟨h.pen.upd h.pl h.cl,⟨ts',u6 ds d,aa,h'.kt (dL h1),?_,?_,?_⟩,?_,h.fr,h.pl,h.cl⟩⟩
 ·unfold u6
  split
  ·exact h3
  ·next hn =>
   rw [List.nodup_append]
   refine ⟨h3,by simp,?_⟩
   intro a ha b hb e
   have:b=d:=by simpa using hb
   subst this
   exact hn (e ▸ ha)
 ·intro x hx
  unfold u6 at hx
  split at hx
  ·exact h4 x hx
  ·rcases List.mem_append.mp hx with hx | hx
   ·exact h4 x hx
   ·have:x=d:=by simpa using hx
    rw [this]; exact hR
 ·unfold u6
  split
  ·omega
  ·rw [List.length_append]; show ds.length+1<=m+1; omega
 ·intro b o e n
  rw [af (ad e h.fr)]
  exact h.ex b o e n
end
theorem Pen.ne_strs {H:Hp}{p c a:Addr}{ws:List Str}(hp:Pen H p c) (ha:H a=some (.lst (ws.map V.str))):a≠p:=by
 intro e
 obtain ⟨x,y,ns,h1,_⟩:=hp
 rw [e,h1] at ha
 injection ha with ha
 injection ha with ha
 cases ws with
 | nil=>cases ha
 | cons w ws=>injection ha with ha; cases ha
theorem kh {K:PySem.W.Frag}{r:R2}(hr:∀x y H Q,fk K x y H Q->r x y H Q) {σ:L2.St}{H:Hp}{Q:VK}{p c a:Addr}{j:Nat}{ws:List Str}(h0:σ[0]?=some (some (.ref p))) (hj:σ[j]?=some (some (.ref a))) (hp:Pen H p c)
  (ha:H a=some (.lst (ws.map V.str))) (hne:ws≠[]) (hlen:ws.length<=1000) (k:∀w∈ws,∀H',Pen H' p c->ExB p H H'->Q (.str w) H') :
  ∃v,σ[j]?=some (some v)/\∃v0,σ[0]?=some (some v0)/\∃v1,σ[j]?=some (some v1)/\fA K [v1] H fun y H1=>bY [v0,y] H1 (fun y H2=>r v y H2 Q) E0:=by
 have hl:0<ws.length:=by cases ws with | nil=>exact absurd rfl hne | cons _ _=>simp
 have la:(V.int ((ws.map V.str).length:Nat))=V.int (ws.length:Nat):=by rw [List.length_map]
 have hpa:=hp.ne_strs ha
 have fin:∀(x:Int) (H':Hp),0<=x->x<(ws.length:Int)->Pen H' p c->ExB p H H'->fk K (.ref a) (.int x) H' Q:=by
  intro x H' x0 x1 hp' ex
  obtain ⟨n,rfl⟩:=Int.eq_ofNat_of_zero_le x0
  have hn:n<ws.length:=by omega
  exact ⟨a,_,(n:Int),.str ws[n],rfl,rfl,SqL.of (ex _ _ ha hpa),cE (by simp [hn]),k _ (List.getElem_mem hn) H' hp' ex⟩
 exact ⟨_,hj,_,h0,_,hj,.inl ⟨a,_,rfl,.inl (SqL.of ha),by rw [la]; exact dE hp (by omega) (by omega) fun x H' x0 x1 hp' ex=>hr _ _ _ _ (fin x H' x0 x1 hp' ex)⟩⟩
def Up (up:Bool) (rooms:List Str) (a b:Str):Prop:=∃i j:Nat,rooms[i]?=some a/\rooms[j]?=some b/\(if up=true then i<j else j<i)
structure GoodDoor (asks says rooms:List Str) (up:Bool) (d:ar):Prop where
 a:d.a∈rooms
 b:d.b∈rooms
 sg:(∃w∈asks,d.sg=[("ask":Str),w])∨(∃w∈says,d.sg=[("say":Str),w])∨(d.sg=[("still":Str)]/\Up up rooms d.a d.b)
def stillSg:List Str:=[("still":Str)]
structure vG (asks says rooms:List Str) (d:ar):Prop where
 a:d.a∈rooms
 b:d.b∈rooms
 sg:(∃w∈asks,d.sg=[("ask":Str),w])∨(∃w∈says,d.sg=[("say":Str),w])∨d.sg=stillSg
theorem GoodDoor.d {asks says rooms:List Str}{up:Bool}{d:ar}(h:GoodDoor asks says rooms up d):vG asks says rooms d:=⟨h.a,h.b,h.sg.imp id (Or.imp id And.left)⟩
inductive Reach (ds:List ar) (a:Str):Str->Prop
 | one {b:Str}(h:(⟨a,stillSg,b⟩:ar)∈ds):Reach ds a b
 | step {b c:Str}(r:Reach ds a b) (h:(⟨b,stillSg,c⟩:ar)∈ds):Reach ds a c
theorem rL {rooms:List Str}(nd:rooms.Nodup) {i j:Nat}{a:Str}(hi:rooms[i]?=some a) (hj:rooms[j]?=some a):i=j:=by
 obtain ⟨h1,e1⟩:=List.getElem?_eq_some_iff.mp hi
 obtain ⟨h2,e2⟩:=List.getElem?_eq_some_iff.mp hj
 have pw:=List.pairwise_iff_getElem.mp nd
 rcases Nat.lt_trichotomy i j with h | h | h
 ·exact absurd (e1.trans e2.symm) (pw i j h1 h2 h)
 ·exact h
 ·exact absurd (e2.trans e1.symm) (pw j i h2 h1 h)
theorem Up.trans {up:Bool}{rooms:List Str}(nd:rooms.Nodup) {a b c:Str}(h1:Up up rooms a b) (h2:Up up rooms b c):Up up rooms a c:=by
 obtain ⟨i,j,e1,e2,h⟩:=h1
 obtain ⟨j',k,e3,e4,h'⟩:=h2
 have:=rL nd e2 e3
 subst this
 refine ⟨i,k,e1,e4,?_⟩
 cases up
 ·simp at h h' ⊢; omega
 ·simp at h h' ⊢; omega
theorem Up.irr {up:Bool}{rooms:List Str}(nd:rooms.Nodup) {a:Str}(h:Up up rooms a a):False:=by
 obtain ⟨i,j,e1,e2,h⟩:=h
 have:=rL nd e1 e2
 subst this
 cases up
 ·simp at h
 ·simp at h
theorem sN {asks says rooms:List Str}{ds:List ar}{up:Bool}(nd:rooms.Nodup) (m:∀d∈ds,GoodDoor asks says rooms up d) {a b:Str}(h:Reach ds a b):Up up rooms a b:=by
 have edge:∀{a b:Str},(⟨a,stillSg,b⟩:ar)∈ds->Up up rooms a b:=by
  intro a b h
  rcases (m _ h).sg with ⟨w,_,e⟩ | ⟨w,_,e⟩ | ⟨_,e⟩
  ·cases e
  ·cases e
  ·exact e
 induction h with
 | one h=>exact edge h
 | step r h ih=>exact ih.trans nd (edge h)
def dh:Sp:=fun vs H Q _=>∃(p c l1 l2 l3:Addr) (asks says rooms:List Str) (full:Int),vs=[.ref p,.ref l1,.ref l2,.ref l3,.int full]/\Pen H p c /\
 H l1=some (.lst (asks.map V.str))/\H l2=some (.lst (says.map V.str))/\H l3=some (.lst (rooms.map V.str))/\asks.length<=4/\says≠[]/\says.length<=4/\rooms≠[]/\rooms.length<=26/\0<=full/\full<=2 /\
 ∀(l:Addr) (ts:List Addr) (ds:List ar) (up:Bool) (H':Hp),H l=none->H' l=some (.lst (ts.map V.ref))->Doors H' ts ds->ds.Nodup->(∀d∈ds,GoodDoor asks says rooms up d)->ds.length<=600->Pen H' p c->ExB p H H'->Q (.ref l) H'
theorem at4 {x r:Int}(x0:0<=x) (x2:x<=2) (r0:0<=r) (r4:r<4):∃j:Int,atI [V.int x,.int 1,.int 1,.int 2] r=some (.int j)/\0<=j/\j<=2:=by
 have:r=0∨r=1∨r=2∨r=3:=by omega
 rcases this with rfl | rfl | rfl | rfl
 ·exact ⟨x,rfl,x0,x2⟩
 ·exact ⟨1,rfl,by decide,by decide⟩
 ·exact ⟨1,rfl,by decide,by decide⟩
 ·exact ⟨2,rfl,by decide,by decide⟩
theorem sf (ws:List Str) (k:Nat):ji (ws.map V.str) (some (k:Int)) none=(ws.drop k).map V.str:=by
 unfold ji
 rw [HT.sIx_none,HT.sIx_nat,List.length_map,List.take_of_length_le (by rw [List.length_drop,List.length_map]; omega),List.map_drop]
 by_cases h:k<=ws.length
 ·rw [Nat.min_eq_left h]
 ·rw [Nat.min_eq_right (by omega),List.drop_of_length_le (by simp),List.drop_of_length_le (by rw [List.length_map]; omega)]
theorem kG (ws:List Str) (k:Nat):ji (ws.map V.str) none (some (k:Int))=(ws.take k).map V.str:=by
 unfold ji
 rw [HT.sIx_none,HT.sIx_nat,List.length_map,List.drop_zero,Nat.sub_zero,List.map_take,List.take_eq_take_iff,List.length_map]
 omega
theorem t9 {K:PySem.W.Frag}{H:Hp}{a:Addr}{ws:List Str}(h:SqL K H a (ws.map V.str)):DIn K H (.s (ws.map sDT)) (.ref a):=by
 unfold DIn
 exact ⟨a,_,rfl,h,jN _⟩
theorem se {K:PySem.W.Frag}{H:Hp}{a:Addr}(h:SqL K H a []):DIn K H (.s []) (.ref a):=by
 unfold DIn
 refine ⟨a,_,rfl,h,?_⟩
 unfold DIns
 rfl
theorem km {K:PySem.W.Frag}{vs:List V}{H:Hp}{Q:VK}{E:XK}(h:dh vs H Q E):hE K bY iF { nx:=fun _ H'=>Q .non H',rt:=Q } (aA ib vs) H:=by
 obtain ⟨p,c,l1,l2,l3,asks,says,rooms,full,rfl,hp,h1,h2,h3,ha,hs0,hs,hr0,hr,f0,f2,k⟩:=h
 have n1:=hp.ne_strs h1
 have n2:=hp.ne_strs h2
 have n3:=hp.ne_strs h3
 refine ⟨(by show 0<=sizeLine; decide),fun l hl=>?_⟩
 have hpl:=hp.nep hl
 have hcl:=hp.nec hl
 refine ⟨_,rfl,dE (hp.ex (Same.new hl)) (by decide) (by decide) fun dn H1 d0 d1 hp1 ex1=>?_⟩
 generalize hG:GoodDoor asks says rooms (decide (dn=0))=G
 have base:DI G H p c l 0 H1:=⟨hp1,⟨[],[],ex1 _ _ aa hpl.symm,.nil,List.nodup_nil,by simp,Nat.zero_le _⟩,(ExB.new hl).trans ex1,hl,hpl,hcl⟩
 refine ⟨_,rfl,l3,rfl,⟨_,SqL.of (base.ex _ _ h3 n3)⟩,?_⟩
 refine fX (xs:=rooms.map V.str) (fun i σ H'=>∃a7 a8 a9 a10 a11 a12:Option V,σ=[some (.ref p),some (.ref l1),some (.ref l2),some (.ref l3),some (.int full),some (.ref l),some (.int dn),a7,a8,a9,a10,a11,a12]/\DI G H p c l (11 * i) H')
  ⟨_,_,_,_,_,_,rfl,base⟩ (fun i σ H' _ ⟨_,_,_,_,_,_,_,D⟩=>SqL.of (D.ex _ _ h3 n3)) ?_ ?_
 ·rintro i x σ H' t hi ⟨a7,a8,a9,a10,a11,a12,rfl,D⟩ ht
  obtain ⟨room,hroom,rfl⟩:∃room,rooms[i]?=some room/\x=V.str room:=by
   rw [List.getElem?_map] at hi
   cases q:rooms[i]? with
   | none=>rw [q] at hi; cases hi
   | some r=>rw [q] at hi; exact ⟨r,rfl,(Option.some.inj hi).symm⟩
  have hiL:i<rooms.length:=(List.getElem?_eq_some_iff.mp hroom).1
  have hmem:room∈rooms:=List.mem_of_getElem? hroom
  refine ⟨t,_,rfl,SqT.of aa,rfl,_,_,rfl,_,_,rfl,rfl,?_⟩
  have D1:=D.new ht (o:=.tup [.int i,.str room])
  refine ⟨(by show 4<=sizeLine; decide),fun q hq=>⟨_,rfl,dE (D1.new hq).pen (by decide) (by decide) fun r H2 r0 r1 hp2 ex2=>?_⟩⟩
  obtain ⟨j,hj,j0,j2⟩:=at4 (x:=0) (by decide) (by decide) r0 r1
  have D2:=(D1.new hq).took hp2 ex2
  refine ⟨q,_,_,_,rfl,rfl,SqL.of (ex2 q _ aa (D1.pen.nep hq).symm),hj,j,rfl,by omega,by omega,?_⟩
  refine db (lo:=0) (n:=j.toNat) (fun i' σ H''=>∃a9 a10:Option V,σ=[some (.ref p),some (.ref l1),some (.ref l2),some (.ref l3),some (.int full),some (.ref l),some (.int dn),some (.int i),some (.str room),a9,a10,a11,a12]/\DI G H p c l (11 * i+i') H'')
   ⟨_,_,rfl,D2⟩ ?_ ?_
  ·rintro i' σ H3 hi' ⟨a9,a10,rfl,D3⟩
   refine kh (fun _ _ _ _ h=>h) rfl rfl D3.pen (D3.ex _ _ h2 n2) hs0 (by omega) fun w hw H4 hp4 ex4=>?_
   have D4:=D3.took hp4 ex4
   refine ⟨(by show 2<=sizeLine; decide),fun sg hsg=>?_⟩
   have D5:=D4.new hsg (o:=.tup [.str "say",.str w])
   refine ⟨_,rfl,_,rfl,_,rfl,kh (fun _ _ _ _ h=>h) rfl rfl D5.pen (D5.ex _ _ h3 n3) hr0 (by omega) fun w2 hw2 H6 hp6 ex6=>?_⟩
   have D6:=D5.took hp6 ex6
   refine ⟨(by show 3<=sizeLine; decide),fun dr hdr=>?_⟩
   have D7:=D6.new hdr (o:=.tup [.str room,.ref sg,.str w2])
   have hsg6:H6 sg=some (.tup [.str "say",.str w]):=ex6 _ _ aa (D4.pen.nep hsg).symm
   refine D7.put (d:=⟨room,["say",w],w2⟩) ⟨sg,aa,kp hsg6 hdr⟩ ?_ (by omega) fun H8 D8=>⟨_,_,rfl,D8⟩
   rw [<-hG]
   exact ⟨hmem,hw2,.inr (.inl ⟨w,hw,rfl⟩)⟩
  rintro σ H3 ⟨a9,a10,rfl,D3'⟩
  have D3:DI G H p c l (11 * i+2) H3:=D3'.up (by omega)
  clear D3'
  refine ⟨_,rfl,l1,rfl,⟨_,SqL.of (D3.ex _ _ h1 n1)⟩,?_⟩
  refine bG (xs:=asks.map V.str) (fun i' σ H''=>∃a9 a11:Option V,σ=[some (.ref p),some (.ref l1),some (.ref l2),some (.ref l3),some (.int full),some (.ref l),some (.int dn),some (.int i),some (.str room),a9,a10,a11,a12]/\DI G H p c l (11 * i+2+2 * i') H'')
   ⟨_,_,rfl,D3⟩ (fun i σ H' _ ⟨_,_,_,D⟩=>SqL.of (D.ex _ _ h1 n1)) ?_ ?_
  ·rintro i' x σ H4 hi' ⟨a9,a11,rfl,D4⟩
   obtain ⟨ask,hask,rfl⟩:∃ask,asks[i']?=some ask/\x=V.str ask:=by
    rw [List.getElem?_map] at hi'
    cases q:asks[i']? with
    | none=>rw [q] at hi'; cases hi'
    | some r=>rw [q] at hi'; exact ⟨r,rfl,(Option.some.inj hi').symm⟩
   have hi2:i'<asks.length:=(List.getElem?_eq_some_iff.mp hask).1
   have hm2:ask∈asks:=List.mem_of_getElem? hask
   refine ⟨_,rfl,(by show 4<=sizeLine; decide),fun q hq=>⟨_,rfl,dE (D4.new hq).pen (by decide) (by decide) fun r H5 r0 r1 hp5 ex5=>?_⟩⟩
   obtain ⟨j,hj,j0,j2⟩:=at4 f0 f2 r0 r1
   have D5:=(D4.new hq).took hp5 ex5
   refine ⟨q,_,_,_,rfl,rfl,SqL.of (ex5 q _ aa (D4.pen.nep hq).symm),hj,j,rfl,by omega,by omega,?_⟩
   refine db (lo:=0) (n:=j.toNat) (fun i'' σ H''=>∃a9:Option V,σ=[some (.ref p),some (.ref l1),some (.ref l2),some (.ref l3),some (.int full),some (.ref l),some (.int dn),some (.int i),some (.str room),a9,a10,some (.str ask),a12]/\DI G H p c l (11 * i+2+2 * i'+i'') H'')
    ⟨_,rfl,D5⟩ ?_ ?_
   ·rintro i'' σ H6 hi'' ⟨a9,rfl,D6⟩
    refine ⟨_,rfl,_,rfl,_,rfl,(by show 2<=sizeLine; decide),fun sg hsg=>?_⟩
    have D7:=D6.new hsg (o:=.tup [.str "ask",.str ask])
    refine kh (fun _ _ _ _ h=>h) rfl rfl D7.pen (D7.ex _ _ h3 n3) hr0 (by omega) fun w2 hw2 H8 hp8 ex8=>?_
    have D8:=D7.took hp8 ex8
    refine ⟨(by show 3<=sizeLine; decide),fun dr hdr=>?_⟩
    have D9:=D8.new hdr (o:=.tup [.str room,.ref sg,.str w2])
    have hsg8:H8 sg=some (.tup [.str "ask",.str ask]):=ex8 _ _ aa (D6.pen.nep hsg).symm
    refine D9.put (d:=⟨room,["ask",ask],w2⟩) ⟨sg,aa,kp hsg8 hdr⟩ ?_ (by omega) fun H8 D8=>⟨_,rfl,D8⟩
    rw [<-hG]
    exact ⟨hmem,hw2,.inl ⟨ask,hm2,rfl⟩⟩
   ·rintro σ H6 ⟨a9,rfl,D6⟩
    exact ⟨_,_,rfl,D6.up (by omega)⟩
  rintro σ H4 ⟨a9,a11,rfl,D4'⟩
  have D4:DI G H p c l (11 * i+10) H4:=D4'.up (by rw [List.length_map]; omega)
  clear D4'
  have hnext:∀(H9:Hp) (a12:Option V),DI G H p c l (11 * i+11) H9->∃a7 a8 a9' a10' a11' a12':Option V,[some (.ref p),some (.ref l1),some (.ref l2),some (.ref l3),some (.int full),some (.ref l),some (.int dn),some (.int i),some (.str room),a9,a10,a11,a12] =
    [some (.ref p),some (.ref l1),some (.ref l2),some (.ref l3),some (.int full),some (.ref l),some (.int dn),a7,a8,a9',a10',a11',a12']/\DI G H p c l (11 * (i+1)) H9:=fun H9 a12 D9=>⟨_,_,_,_,_,_,rfl,D9.up (by omega)⟩
  refine ⟨_,rfl,_,rfl,_,_,rfl,rfl,_,rfl,l3,_,rfl,SqL.of (D4.ex _ _ h3 n3),fun q1 hq1=>?_⟩
  have D5:=D4.new hq1 (o:=.lst (ji (rooms.map V.str) (some ((i:Int)+1)) none))
  refine ⟨_,rfl,_,rfl,_,rfl,l3,_,rfl,SqL.of (D5.ex _ _ h3 n3),fun q2 hq2=>?_⟩
  have e1:ji (rooms.map V.str) (some ((i:Int)+1)) none=(rooms.drop (i+1)).map V.str:=sf rooms (i+1)
  rw [kG]
  have D6:=D5.new hq2 (o:=.lst ((rooms.take i).map V.str))
  refine ⟨(by show 2<=sizeLine; decide),fun q3 hq3=>?_⟩
  have D7:=D6.new hq3 (o:=.lst [.ref q1,.ref q2])
  obtain ⟨lt,q,hq,hlt,hgood⟩:∃(lt:List Str) (q:Addr),atI [V.ref q1,.ref q2] dn=some (.ref q) /\
    upd (upd (upd H4 q1 (.lst (ji (rooms.map V.str) (some ((i:Int)+1)) none))) q2 (.lst ((rooms.take i).map V.str))) q3 (.lst [.ref q1,.ref q2]) q=some (.lst (lt.map V.str))/\lt.length<=26 /\
    ∀w∈lt,w∈rooms/\Up (decide (dn=0)) rooms room w:=by
   have:dn=0∨dn=1:=by omega
   rcases this with rfl | rfl
   ·refine ⟨rooms.drop (i+1),q1,rfl,?_,by rw [List.length_drop]; omega,fun w hw=>⟨List.mem_of_mem_drop hw,?_⟩⟩
    ·refine (kp (kp aa hq2) hq3).trans ?_
     rw [e1]
    ·obtain ⟨n,hn⟩:=List.getElem?_of_mem hw
     rw [List.getElem?_drop] at hn
     exact ⟨i,i+1+n,hroom,hn,by rw [if_pos (by decide)]; omega⟩
   ·refine ⟨rooms.take i,q2,rfl,?_,by rw [List.length_take]; omega,fun w hw=>⟨List.mem_of_mem_take hw,?_⟩⟩
    ·exact kp aa hq3
    ·obtain ⟨n,hn⟩:=List.getElem?_of_mem hw
     have hnl:n<i:=by
      have:=(List.getElem?_eq_some_iff.mp hn).1
      rw [List.length_take] at this
      omega
     rw [List.getElem?_take_of_lt hnl] at hn
     exact ⟨i,n,hroom,hn,by rw [if_neg (by decide)]; omega⟩
  refine ⟨_,rfl,q3,_,_,_,rfl,rfl,SqL.of aa,hq,?_⟩
  generalize upd (upd (upd H4 q1 (.lst (ji (rooms.map V.str) (some ((i:Int)+1)) none))) q2 (.lst ((rooms.take i).map V.str))) q3 (.lst [.ref q1,.ref q2])=H7 at D7 hlt ⊢
  refine ⟨_,rfl,(by show 0<=sizeLine; decide),fun e he=>⟨.s (lt.map sDT),.s [],t9 (SqL.of (kp hlt he)),se (SqL.of aa),?_,by decide,_,rfl,?_⟩⟩
  ·show DT.depths (lt.map sDT)+1<=8
   rw [dz]; decide
  have D8:=D7.new he (o:=.lst [])
  by_cases hz:lt=[]
  ·have ez:(!decide (DT.s (lt.map sDT)=DT.s []))=false:=by rw [hz,decide_eq_true (by rfl)]; rfl
   rw [ez]
   exact bx (bx (hnext _ _ (D8.up (by omega))))
  ·have ez:(!decide (DT.s (lt.map sDT)=DT.s []))=true:=by
    rw [decide_eq_false (fun z=>hz (cz (y:=[]) (by injection z)))]; rfl
   rw [ez]
   refine cK ?_
   refine ⟨_,rfl,dE D8.pen (by decide) (by decide) fun r H9 r0 r1 hp9 ex9=>⟨rfl,_,rfl,?_⟩⟩
   have D9:=D8.took hp9 ex9
   refine oz (fun _=>?_) (fun _=>hnext _ _ (D9.up (by omega)))
   refine ⟨_,rfl,_,rfl,(by show 1<=sizeLine; decide),fun sg hsg=>?_⟩
   have D10:=D9.new hsg (o:=.tup [.str "still"])
   have hlt10:upd H9 sg (.tup [.str "still"]) q=some (.lst (lt.map V.str)):=kp (ex9 _ _ (kp hlt he) (D8.pen.ne_strs (kp hlt he))) hsg
   refine kh (fun _ _ _ _ h=>.inl h) rfl rfl D10.pen hlt10 hz (by omega) fun w2 hw2 H11 hp11 ex11=>?_
   have D11:=D10.took hp11 ex11
   refine ⟨(by show 3<=sizeLine; decide),fun dr hdr=>?_⟩
   have D12:=D11.new hdr (o:=.tup [.str room,.ref sg,.str w2])
   have hsg11:H11 sg=some (.tup [.str "still"]):=ex11 _ _ aa (D9.pen.nep hsg).symm
   refine D12.put (d:=⟨room,[("still":Str)],w2⟩) ⟨sg,aa,kp hsg11 hdr⟩ ?_ (by omega) fun H13 D13=>hnext _ _ D13
   rw [<-hG]
   exact ⟨hmem,(hgood.2 w2 hw2).1,.inr (.inr ⟨rfl,(hgood.2 w2 hw2).2⟩)⟩
 ·rintro σ H' ⟨a7,a8,a9,a10,a11,a12,rfl,D⟩
  obtain ⟨ts,ds,g1,g2,g3,g4,g5⟩:=D.ds
  rw [List.length_map] at g5
  rw [<-hG] at g4
  exact ⟨_,rfl,k l ts ds _ H' hl g1 g2 g3 g4 (by omega) D.pen D.ex⟩
structure ModelOk (asks says rooms:List Str) (ds:List ar):Prop where
 okA:gP asks
 okS:gP says
 apart:∀w∈says,w∉asks
 okR:gP rooms
 asks0:asks≠[]
 says0:says≠[]
 rooms0:rooms≠[]
 asks4:asks.length<=4
 says4:says.length<=4
 rooms26:rooms.length<=150
 nodup:ds.Nodup
 good:∀d∈ds,vG asks says rooms d
 few:ds.length<=1000
 noround:∀r,¬Reach ds r r
structure Told (H:Hp) (t l1 l2 l3 l4:Addr) (ts:List Addr) (asks says rooms:List Str) (ds:List ar):Prop where
 t:H t=some (.tup [.ref l1,.ref l2,.ref l3,.ref l4])
 a1:H l1=some (.lst (asks.map V.str))
 a2:H l2=some (.lst (says.map V.str))
 a3:H l3=some (.lst (rooms.map V.str))
 a4:H l4=some (.lst (ts.map V.ref))
 ds:Doors H ts ds
theorem Pen.ne_refs {H:Hp}{p c a:Addr}{ts:List Addr}(hp:Pen H p c) (ha:H a=some (.lst (ts.map V.ref))):a≠p:=by
 intro e
 obtain ⟨x,y,ns,h1,_⟩:=hp
 rw [e,h1] at ha
 injection ha with ha
 injection ha with ha
 cases ts with
 | nil=>cases ha
 | cons w ws =>
  injection ha with _ ha
  cases ws with
  | nil=>cases ha
  | cons w ws=>injection ha with ha; cases ha
theorem Told.ex {H H':Hp}{p c t l1 l2 l3 l4:Addr}{ts:List Addr}{asks says rooms:List Str}{ds:List ar}(h:Told H t l1 l2 l3 l4 ts asks says rooms ds) (hp:Pen H p c) (e:ExB p H H'):Told H' t l1 l2 l3 l4 ts asks says rooms ds:=by
 obtain ⟨xs,hx⟩:=hp.lst
 exact ⟨e.kt hx _ _ h.t,e _ _ h.a1 (hp.ne_strs h.a1),e _ _ h.a2 (hp.ne_strs h.a2),e _ _ h.a3 (hp.ne_strs h.a3),e _ _ h.a4 (hp.ne_refs h.a4),h.ds.kt (e.kt hx)⟩
theorem Told.same {H H':Hp}{t l1 l2 l3 l4:Addr}{ts:List Addr}{asks says rooms:List Str}{ds:List ar}(h:Told H t l1 l2 l3 l4 ts asks says rooms ds) (e:Same H H'):Told H' t l1 l2 l3 l4 ts asks says rooms ds :=
 ⟨e _ _ h.t,e _ _ h.a1,e _ _ h.a2,e _ _ h.a3,e _ _ h.a4,h.ds.kt (Same.kt e)⟩
def j_:Sp:=fun vs H Q _=>∃(p c:Addr) (most full:Int),vs=[.ref p,.int most,.int full]/\Pen H p c/\0<most/\most<=25/\0<=full/\full<=2 /\
 ∀(t l1 l2 l3 l4:Addr) (ts:List Addr) (asks says rooms:List Str) (ds:List ar) (H':Hp),Told H' t l1 l2 l3 l4 ts asks says rooms ds->ModelOk asks says rooms ds->rooms.length<=most.toNat->ds.length<=600->Pen H' p c->ExB p H H'->Q (.ref t) H'
theorem at6 {r:Int}(r0:0<=r) (r6:r<6):∃n:Nat,atI [V.int 0,.int 1,.int 1,.int 2,.int 2,.int 3] r=some (.int n)/\n<=3:=by
 have:r=0∨r=1∨r=2∨r=3∨r=4∨r=5:=by omega
 rcases this with rfl | rfl | rfl | rfl | rfl | rfl
 ·exact ⟨0,rfl,by decide⟩
 ·exact ⟨1,rfl,by decide⟩
 ·exact ⟨1,rfl,by decide⟩
 ·exact ⟨2,rfl,by decide⟩
 ·exact ⟨2,rfl,by decide⟩
 ·exact ⟨3,rfl,by decide⟩
theorem uc {ws:List Str}(hw:ws.length=8) {n:Nat}(hn:n<=3):ji (ws.map V.str) (some 4) (some (5+(n:Int)))=((ws.drop 4).take (1+n)).map V.str:=by
 unfold ji
 have s1:HT.sIx (ws.map V.str).length 0 (some 4)=min 4 (ws.map V.str).length:=HT.sIx_nat _ _ 4
 have s2:HT.sIx (ws.map V.str).length (ws.map V.str).length (some (5+(n:Int)))=min (5+n) (ws.map V.str).length:=HT.sIx_nat _ _ (5+n)
 rw [s1,s2,List.length_map,hw,List.map_take,List.map_drop]
 have e1:min 4 8=4:=by decide
 have e2:min (5+n) 8-4=1+n:=by omega
 rw [e1,e2]
theorem tj {K:PySem.W.Frag}{vs:List V}{H:Hp}{Q:VK}{E:XK}(h:j_ vs H Q E):mD K dh j9 bY mV { nx:=fun _ H'=>Q .non H',rt:=Q } (aA nK vs) H:=by
 obtain ⟨p,c,most,full,rfl,hp,m0,m1,f0,f2,k⟩:=h
 refine ⟨_,rfl,p,c,rfl,hp,fun H1 hp1 ex1=>?_⟩
 refine ⟨_,rfl,p,c,8,rfl,hp1,by decide,fun lw ws H2 ok len fr hl hp2 ex2=>?_⟩
 have e2:=ex1.trans ex2
 have nw:=hp2.ne_strs hl
 refine ⟨_,rfl,(by show 6<=sizeLine; decide),fun q hq=>⟨_,rfl,dE (hp2.ex (Same.new hq)) (by decide) (by decide) fun r H3 r0 r1 hp3 ex3=>?_⟩⟩
 obtain ⟨n,hn,n3⟩:=at6 r0 r1
 have hl3:H3 lw=some (.lst (ws.map V.str)):=ex3 _ _ (kp hl hq) nw
 refine ⟨q,_,_,_,rfl,rfl,SqL.of (ex3 _ _ aa (hp2.nep hq).symm),hn,_,_,rfl,rfl,_,rfl,lw,_,rfl,SqL.of hl3,fun l1 hl1=>?_⟩
 have ea:ji (ws.map V.str) none (some (1+(n:Int)))=(ws.take (1+n)).map V.str:=kG ws (1+n)
 rw [ea]
 have e3:ExB p H H3:=e2.trans ((ExB.new hq).trans ex3)
 have hp4:Pen (upd H3 l1 (.lst ((ws.take (1+n)).map V.str))) p c:=hp3.ex (Same.new hl1)
 have e4:ExB p H (upd H3 l1 (.lst ((ws.take (1+n)).map V.str))):=e3.trans (ExB.new hl1)
 have hl4:upd H3 l1 (.lst ((ws.take (1+n)).map V.str)) lw=some (.lst (ws.map V.str)):=kp hl3 hl1
 have ha4:upd H3 l1 (.lst ((ws.take (1+n)).map V.str)) l1=some (.lst ((ws.take (1+n)).map V.str)):=aa
 generalize upd H3 l1 (.lst ((ws.take (1+n)).map V.str))=H4 at hp4 e4 hl4 ha4 ⊢
 refine ⟨_,rfl,_,rfl,(by show 6<=sizeLine; decide),fun q hq=>⟨_,rfl,dE (hp4.ex (Same.new hq)) (by decide) (by decide) fun r H5 r0 r1 hp5 ex5=>?_⟩⟩
 obtain ⟨m,hm,m3⟩:=at6 r0 r1
 have hl5:H5 lw=some (.lst (ws.map V.str)):=ex5 _ _ (kp hl4 hq) nw
 have ha5:H5 l1=some (.lst ((ws.take (1+n)).map V.str)):=ex5 _ _ (kp ha4 hq) (hp4.ne_strs ha4)
 refine ⟨q,_,_,_,rfl,rfl,SqL.of (ex5 _ _ aa (hp4.nep hq).symm),hm,_,_,rfl,rfl,_,rfl,lw,_,rfl,SqL.of hl5,fun l2 hl2=>?_⟩
 rw [uc len m3]
 have e5:ExB p H H5:=e4.trans ((ExB.new hq).trans ex5)
 have hp6:Pen (upd H5 l2 (.lst (((ws.drop 4).take (1+m)).map V.str))) p c:=hp5.ex (Same.new hl2)
 have e6:ExB p H (upd H5 l2 (.lst (((ws.drop 4).take (1+m)).map V.str))):=e5.trans (ExB.new hl2)
 have ha6:upd H5 l2 (.lst (((ws.drop 4).take (1+m)).map V.str)) l1=some (.lst ((ws.take (1+n)).map V.str)):=kp ha5 hl2
 have hb6:upd H5 l2 (.lst (((ws.drop 4).take (1+m)).map V.str)) l2=some (.lst (((ws.drop 4).take (1+m)).map V.str)):=aa
 generalize upd H5 l2 (.lst (((ws.drop 4).take (1+m)).map V.str))=H6 at hp6 e6 ha6 hb6 ⊢
 refine ⟨_,rfl,_,rfl,_,rfl,dE hp6 m0 (by omega) fun r H7 r0 r1 hp7 ex7=>?_⟩
 obtain ⟨rn,rfl⟩:=Int.eq_ofNat_of_zero_le r0
 have ha7:=ex7 _ _ ha6 (hp6.ne_strs ha6)
 have hb7:=ex7 _ _ hb6 (hp6.ne_strs hb6)
 refine ⟨_,_,rfl,rfl,p,c,1+rn,rfl,hp7,by omega,fun l3 rooms H8 okr lenr fr3 hl3' hp8 ex8=>?_⟩
 have ha8:=ex8 _ _ ha7 (hp7.ne_strs ha7)
 have hb8:=ex8 _ _ hb7 (hp7.ne_strs hb7)
 have hs0:(ws.drop 4).take (1+m)≠[]:=by
  intro z
  have:=congrArg List.length z
  rw [List.length_take,List.length_drop,len] at this
  simp at this
 have ha0:ws.take (1+n)≠[]:=by
  intro z
  have:=congrArg List.length z
  rw [List.length_take,len] at this
  simp at this
 have hr0:rooms≠[]:=by
  intro z
  rw [z] at lenr
  simp at lenr
  omega
 refine ⟨_,rfl,_,rfl,_,rfl,_,rfl,_,rfl,p,c,l1,l2,l3,_,_,rooms,full,rfl,hp8,ha8,hb8,hl3',by rw [List.length_take]; omega,hs0,by rw [List.length_take]; omega,hr0,by omega,f0,f2,fun l4 ts ds up H9 fr4 hl4' hds nod good few hp9 ex9=>?_⟩
 have ha9:=ex9 _ _ ha8 (hp8.ne_strs ha8)
 have hb9:=ex9 _ _ hb8 (hp8.ne_strs hb8)
 have hc9:=ex9 _ _ hl3' (hp8.ne_strs hl3')
 refine ⟨_,rfl,_,rfl,_,rfl,_,rfl,(by show 4<=sizeLine; decide),fun t ht=>k t l1 l2 l3 l4 ts _ _ rooms ds _ ⟨aa,kp ha9 ht,kp hb9 ht,kp hc9 ht,kp hl4' ht,hds.kt (Same.kt (Same.new ht))⟩ ?_ ?_ few (hp9.ex (Same.new ht)) ?_⟩
 ·refine ⟨⟨?_,fun w h=>ok.2 w (List.mem_of_mem_take h)⟩,⟨?_,fun w h=>ok.2 w (List.mem_of_mem_drop (List.mem_of_mem_take h))⟩,?_,okr,ha0,hs0,hr0,by rw [List.length_take]; omega,by rw [List.length_take]; omega,by omega,nod,fun d hd=>(good d hd).d,by omega,fun r z=>(sN okr.1 good z).irr okr.1⟩
  ·exact ok.1.sublist (List.take_sublist _ _)
  ·exact ok.1.sublist ((List.take_sublist _ _).trans (List.drop_sublist _ _))
  ·intro w h1 h2
   have h3:w∈ws.drop 4:=List.mem_of_mem_take h1
   have h4:w∈ws.take 4:=by
    have:ws.take (1+n)=(ws.take 4).take (1+n):=by rw [List.take_take]; congr 1; omega
    rw [this] at h2
    exact List.mem_of_mem_take h2
   have:=ok.1
   rw [<-List.take_append_drop 4 ws,List.nodup_append] at this
   exact this.2.2 w h4 w h3 rfl
 ·omega
 ·exact (((e6.trans ex7).trans ex8).trans ex9).trans (ExB.new ht)
theorem aR {ws:List Str}{i:Nat}{x:V}(h:(ws.map V.str)[i]?=some x):∃w,ws[i]?=some w/\x=.str w:=by
 rw [List.getElem?_map] at h
 cases q:ws[i]? with
 | none=>rw [q] at h; cases h
 | some r=>rw [q] at h; exact ⟨r,rfl,(Option.some.inj h).symm⟩
theorem am {α:Type}{ws:List α}{i:Nat}{w:α}(h:ws[i]?=some w):ws.take (i+1)=ws.take i++[w]:=by
 obtain ⟨hi,rfl⟩:=List.getElem?_eq_some_iff.mp h
 rw [List.take_succ_eq_append_getElem hi]
def kA (w:Str):Bool:=!decide (w=("":Str)) && (decide (w.length<=8) && w.cps.toList.all fun c=>decide (c∈("abcdefghijklmnopqrstuvwxyz":Str).cps.toList))
theorem IsName.b {w:Str}(h:IsName w):kA w=true:=by
 unfold kA
 have h1:¬(w=("":Str)):=fun e=>by
  have:=h.lo
  rw [e] at this
  exact absurd this (by decide +kernel)
 rw [decide_eq_false h1,decide_eq_true h.hi,Bool.not_false,Bool.true_and,Bool.true_and,List.all_eq_true]
 intro c hc
 obtain ⟨c1,c2⟩:=h.al c hc
 refine decide_eq_true ?_
 have:=sw (c-97) (by omega)
 have e:97+(c-97)=c:=by omega
 rw [e] at this
 exact List.mem_of_getElem? this
@[irreducible] def sp_is_name:Sp:=fun vs H Q _=>∃w:Str,vs=[.str w]/\w.length<=1000/\∀H',Same H H'->Q (.bl (kA w)) H'
theorem pi {K:PySem.W.Frag}{vs:List V}{H:Hp}{Q:VK}{E:XK}(h:sp_is_name vs H Q E):qr K { nx:=fun _ H'=>Q .non H',rt:=Q } (aA sD vs) H:=by
 unfold sp_is_name at h
 obtain ⟨w,rfl,hz,k⟩:=h
 refine ⟨_,rfl,rfl,_,rfl,?_⟩
 have ed:(!decide (V.str w=V.str ("":Str)))=!decide (w=("":Str)):=by
  congr 1
  by_cases e:w=("":Str)
  ·rw [decide_eq_true e,decide_eq_true (by rw [e])]
  ·rw [decide_eq_false e,decide_eq_false (fun z=>e (by injection z))]
 rw [ed]
 refine oz (fun h1=>?_) (fun h1=>?_)
 ·refine ⟨_,rfl,.inr ⟨w,rfl,Nat.le_of_lt (ao hz),_,_,rfl,rfl,_,rfl,?_⟩⟩
  refine oz (fun h2=>?_) (fun h2=>?_)
  ·refine ⟨_,rfl,w,rfl,fun l hl=>?_⟩
   refine ud (fun i vs H'=>vs=((w.cps.toList.take i).map fun c=>V.bl (decide (c∈("abcdefghijklmnopqrstuvwxyz":Str).cps.toList)))/\Same H H'/\H' l=some (.lst vs))
    ⟨rfl,Same.new hl,aa⟩ (fun i vs H' _ h=>h.2.2) ?_ ?_
   ·rintro vs H' ⟨rfl,hS,hl'⟩
    refine ⟨l,w.cps.toList.map fun c=>decide (c∈("abcdefghijklmnopqrstuvwxyz":Str).cps.toList),rfl,SqL.of ?_,?_⟩
    ·rw [hl',List.map_map]
     have:w.cps.toList.take w.cps.size=w.cps.toList:=by
      rw [List.take_of_length_le]; simp
     rw [this]
     rfl
    ·have:=k H' hS
     have h2':decide (w.length<=8)=true:=decide_eq_true (by have:=of_decide_eq_true h2; omega)
     unfold kA at this
     rw [h1,h2',Bool.true_and,Bool.true_and] at this
     rw [List.all_map]
     exact this
   ·rintro i vs H' c hc hi ⟨rfl,hS,hl'⟩
    refine gN (uG ?_)
    refine ⟨_,rfl,c,_,rfl,rfl,hl',?_,nxt hi ⟨?_,?_,aa⟩⟩
    ·rw [List.length_map,List.length_take]
     have:w.length=w.cps.toList.length:=bX w
     exact ao (by omega)
    ·rw [am (by rw [<-hc]; simp),List.map_append]
     rfl
    ·intro b o e
     rw [af (ad e hl)]
     exact hS b o e
  ·have:=k H (Same.refl H)
   have h2':decide (w.length<=8)=false:=decide_eq_false (fun z=>h2 (decide_eq_true (by omega)))
   unfold kA at this
   rw [h1,h2',Bool.true_and,Bool.false_and] at this
   exact this
 ·have:=k H (Same.refl H)
  unfold kA at this
  rw [Bool.eq_false_iff.mpr h1,Bool.false_and] at this
  exact this
def av (ws:List Str):List (Key×V):=ws.foldl (fun acc w=>dS acc (.inr w) (.bl true)) []
theorem be (ws:List Str) (w:Str):av (ws++[w])=dS (av ws) (.inr w) (.bl true):=by
 unfold av
 rw [List.foldl_append]
 rfl
theorem kq {κ:Type} [DecidableEq κ] (kvs:List (κ×V)) (k:κ) (v:V):(dS kvs k v).length<=kvs.length+1:=by
 unfold dS
 split
 ·rw [List.length_map]; omega
 ·rw [List.length_append]; exact Nat.le_refl _
theorem eA {α:Type}(P:List α->Prop) (h0:P []) (hs:∀ws w,P ws->P (ws++[w])) (ws:List α):P ws:=by
 have:∀n (ws:List α),ws.length=n->P ws:=by
  intro n
  induction n with
  | zero=>intro ws h; rw [List.length_eq_zero_iff.mp h]; exact h0
  | succ n ih =>
   intro ws h
   have hne:ws≠[]:=fun z=>by rw [z] at h; cases h
   rw [<-List.dropLast_concat_getLast hne]
   exact hs _ _ (ih _ (by rw [List.length_dropLast,h]; rfl))
 exact this _ ws rfl
theorem eF (ws:List Str):(av ws).length<=ws.length:=by
 refine eA (fun ws=>(av ws).length<=ws.length) (Nat.le_refl _) (fun ws w h=>?_) ws
 show (av (ws++[w])).length<=(ws++[w]).length
 rw [be,List.length_append]
 have:=kq (av ws) (.inr w) (.bl true)
 show _<=ws.length+1
 omega
theorem jL (ws:List Str) (x:Str):bO (av ws) (.inr x)=if x∈ws then some (.bl true) else none:=by
 refine eA (fun ws=>bO (av ws) (.inr x)=if x∈ws then some (.bl true) else none) rfl (fun ws w h=>?_) ws
 show bO (av (ws++[w])) (.inr x)=_
 rw [be,ig,h]
 by_cases e:x=w
 ·subst e
  rw [if_pos rfl,if_pos (by simp)]
 ·have e1:¬((Sum.inr x:Key)=.inr w):=fun z=>e (by injection z)
  rw [if_neg e1]
  by_cases m:x∈ws
  ·rw [if_pos m,if_pos (List.mem_append_left _ m)]
  ·rw [if_neg m,if_neg (fun z=>by rcases List.mem_append.mp z with z | z; exact m z; exact e (by simpa using z))]
theorem bF (ws:List Str) (x:Str):(bO (av ws) (.inr x)).isSome=decide (x∈ws):=by
 rw [jL]
 by_cases m:x∈ws
 ·rw [if_pos m,decide_eq_true m]; rfl
 ·rw [if_neg m,decide_eq_false m]; rfl
@[irreducible] def sp_as_keys (K:PySem.W.Frag):Sp:=fun vs H Q _=>∃(l:Addr) (ws:List Str),vs=[.ref l]/\SqL K H l (ws.map V.str)/\ws.length<=1000/\∀d,H d=none->Q (.ref d) (upd H d (.dK (av ws)))
theorem pk {K:PySem.W.Frag}{vs:List V}{H:Hp}{Q:VK}{E:XK}(h:sp_as_keys K vs H Q E):qt K { nx:=fun _ H'=>Q .non H',rt:=Q } (aA sE vs) H:=by
 unfold sp_as_keys at h
 obtain ⟨l,ws,rfl,hl,hz,k⟩:=h
 refine fun d hd=>?_
 have key:∀kvs,SqL K (upd H d (.dK kvs)) l (ws.map V.str):=fun kvs=>(Same.new hd).seq hl
 refine ⟨_,rfl,l,rfl,⟨_,key _⟩,?_⟩
 refine bG (xs:=ws.map V.str) (fun i σ H'=>∃x,σ=[some (.ref l),some (.ref d),x]/\H'=upd H d (.dK (av (ws.take i)))) ⟨_,rfl,rfl⟩ (fun i σ H' _ ⟨_,_,e⟩=>by rw [e]; exact key _) ?_ ?_
 ·rintro i x σ H' hi ⟨y,rfl,rfl⟩
  obtain ⟨w,hw,rfl⟩:=aR hi
  have hlen:(av (ws.take i)).length<sizeLine:=ao (Nat.le_trans (eF _) (by rw [List.length_take]; omega))
  refine ⟨_,rfl,_,rfl,d,_,rfl,.inl ⟨_,.inr w,aa,rfl,hlen,rfl⟩,_,rfl,?_⟩
  rw [jX,am hw,be]
 ·rintro σ H' ⟨x,rfl,rfl⟩
  rw [List.length_map,List.take_length]
  exact ⟨_,rfl,k d hd⟩
def fwn (most:Nat):Nat->List Str->List Str->Option Nat
 | _,_,[]=>none
 | i,ahead,n::ns=>if i=most∨n∈ahead∨kA n=false then some i else fwn most (i+1) (ahead++[n]) ns
def aN (names:List Str) (most:Nat) (taken:List Str):Option Nat:=if names=[] then some 0 else fwn most 0 taken names
def oV:Option Nat->V
 | none=>.non
 | some i=>.int i
def sp_first_wrong_name (K:PySem.W.Frag):Sp:=fun vs H Q _=>∃(l t:Addr) (names taken:List Str) (most:Nat),vs=[.ref l,.int most,.ref t]/\SqL K H l (names.map V.str)/\SqL K H t (taken.map V.str)/\names.length+taken.length<=1000 /\
 (∀w∈names,w.length<=1000)/\∀H',Same H H'->Q (oV (aN names most taken)) H'
theorem i7 {K:PySem.W.Frag}{H:Hp}{Q:VK}{E:XK}{l:Addr}{ws:List Str}(hl:SqL K H l (ws.map V.str)) (hz:ws.length<=1000) (k:∀d,H d=none->Q (.ref d) (upd H d (.dK (av ws)))):sp_as_keys K [.ref l] H Q E:=by
 unfold sp_as_keys
 exact ⟨l,ws,rfl,hl,hz,k⟩
theorem rD {H:Hp}{Q:VK}{E:XK}{w:Str}(hz:w.length<=1000) (k:∀H',Same H H'->Q (.bl (kA w)) H'):sp_is_name [.str w] H Q E:=by
 unfold sp_is_name
 exact ⟨w,rfl,hz,k⟩
theorem fh {K:PySem.W.Frag}{vs:List V}{H:Hp}{Q:VK}{E:XK}(h:sp_first_wrong_name K vs H Q E):fB K sp_is_name (sp_as_keys K) { nx:=fun _ H'=>Q .non H',rt:=Q } (aA fZ vs) H:=by
 obtain ⟨l,t,names,taken,most,rfl,hl,ht,hz,hw,k⟩:=h
 refine ⟨_,rfl,.inl ⟨l,_,rfl,.inl hl,rfl,_,rfl,?_⟩⟩
 by_cases h0:names=[]
 ·subst h0
  refine cK ?_
  have:=k H (Same.refl H)
  exact this
 have e0:decide (V.int ((names.map V.str).length:Nat)=V.int 0)=false:=decide_eq_false (fun z=>h0 (by
  injection z with z
  rw [List.length_map] at z
  exact List.length_eq_zero_iff.mp (by omega)))
 rw [e0]
 refine bx ?_
 have hk:∀H',Same H H'->Q (oV (fwn most 0 taken names)) H':=by
  unfold aN at k
  rw [if_neg h0] at k
  exact k
 refine ⟨_,rfl,i7 ht (by omega) fun d hd=>?_⟩
 refine ⟨_,rfl,l,rfl,⟨_,(Same.new hd).seq hl⟩,?_⟩
 refine fX (xs:=names.map V.str) (fun i σ H'=>∃x y,σ=[some (.ref l),some (.int most),some (.ref t),some (.ref d),x,y]/\Same H H'/\H' d=some (.dK (av (taken++names.take i)))/\fwn most i (taken++names.take i) (names.drop i)=fwn most 0 taken names)
  ⟨_,_,rfl,Same.new hd,by rw [List.take_zero,List.append_nil]; exact aa,by rw [List.take_zero,List.append_nil,List.drop_zero]⟩ (fun i σ H' _ ⟨_,_,_,hS,_⟩=>hS.seq hl) ?_ ?_
 ·rintro i x σ H' q hi ⟨x4,x5,rfl,hS,hd',hf⟩ hq
  obtain ⟨w,hw',rfl⟩:=aR hi
  have hil:i<names.length:=(List.getElem?_eq_some_iff.mp hw').1
  have ed:names.drop i=w::names.drop (i+1):=by
   rw [List.drop_eq_getElem_cons hil]
   congr 1
   exact (List.getElem?_eq_some_iff.mp hw').2
  rw [ed] at hf
  have hd2:upd H' q (.tup [.int i,.str w]) d=some (.dK (av (taken++names.take i))):=kp hd' hq
  have hS2:Same H (upd H' q (.tup [.int i,.str w])):=hS.trans (Same.new hq)
  have hww:w.length<=1000:=hw w (List.mem_of_getElem? hw')
  refine ⟨q,_,rfl,SqT.of aa,rfl,_,_,rfl,_,_,rfl,rfl,?_⟩
  generalize upd H' q (.tup [.int i,.str w])=H2 at hd2 hS2 ⊢
  refine ⟨_,rfl,_,rfl,rfl,_,rfl,?_⟩
  by_cases c1:i=most
  ·have e1:decide (V.int (i:Nat)=V.int (most:Nat))=true:=decide_eq_true (by rw [c1])
   rw [e1]
   refine cK (cK ?_)
   refine ⟨_,rfl,?_⟩
   have:=hk H2 hS2
   rw [<-hf] at this
   unfold fwn at this
   rw [if_pos (.inl c1)] at this
   exact this
  have e1:decide (V.int (i:Nat)=V.int (most:Nat))=false:=decide_eq_false (fun z=>c1 (by injection z with z; omega))
  rw [e1]
  refine bx ?_
  refine ⟨_,rfl,_,rfl,d,_,rfl,.inl ⟨_,.inr w,.inl hd2,rfl,rfl⟩,_,rfl,?_⟩
  rw [bF]
  by_cases c2:w∈taken++names.take i
  ·rw [decide_eq_true c2]
   refine cK (cK ?_)
   refine ⟨_,rfl,?_⟩
   have:=hk H2 hS2
   rw [<-hf] at this
   unfold fwn at this
   rw [if_pos (.inr (.inl c2))] at this
   exact this
  rw [decide_eq_false c2]
  refine bx ?_
  refine ⟨_,rfl,rD hww fun H3 hS3=>⟨_,rfl,?_⟩⟩
  have hd3:=hS3 _ _ hd2
  cases c3:kA w with
  | false =>
   refine cK ?_
   refine ⟨_,rfl,?_⟩
   have:=hk H3 (hS2.trans hS3)
   rw [<-hf] at this
   unfold fwn at this
   rw [if_pos (.inr (.inr c3))] at this
   exact this
  | true =>
   refine bx ?_
   have hlen:(av (taken++names.take i)).length<sizeLine:=ao (Nat.le_trans (eF _) (by rw [List.length_append,List.length_take]; omega))
   refine ⟨_,rfl,_,rfl,d,_,rfl,.inl ⟨_,.inr w,hd3,rfl,hlen,rfl⟩,_,_,rfl,?_,?_,?_⟩
   ·intro b o e
    rw [af (ad e hd)]
    exact hS3 _ _ (hS2 _ _ e)
   ·rw [aa,am hw',<-List.append_assoc,be]
   ·rw [<-hf,am hw',<-List.append_assoc]
    conv=>rhs; unfold fwn
    rw [if_neg]
    rintro (z | z | z)
    ·exact c1 z
    ·exact c2 z
    ·rw [c3] at z; cases z
 ·rintro σ H' ⟨x,y,rfl,hS,_,hf⟩
  rw [List.length_map,List.drop_length] at hf
  have:=hk H' hS
  rw [<-hf] at this
  exact this
theorem oB {most:Nat}:∀(ns ahead:List Str) (i:Nat),i+ns.length<=most->(ahead++ns).Nodup->(∀w∈ns,IsName w)->fwn most i ahead ns=none
 | [],_,_,_,_,_=>rfl
 | n::ns,ahead,i,h1,h2,h3=>by
  rw [List.length_cons] at h1
  unfold fwn
  rw [if_neg]
  ·refine oB ns (ahead++[n]) (i+1) (by omega) (by rw [List.append_assoc]; exact h2) fun w hw=>h3 w (List.mem_cons_of_mem _ hw)
  ·rintro (z | z | z)
   ·omega
   ·rw [List.nodup_append] at h2
    exact h2.2.2 n z n (List.mem_cons_self) rfl
   ·rw [(h3 n List.mem_cons_self).b] at z; cases z
theorem cB {most:Nat}{ns taken:List Str}(h0:ns≠[]) (h1:ns.length<=most) (h2:(taken++ns).Nodup) (h3:∀w∈ns,IsName w):aN ns most taken=none:=by
 unfold aN
 rw [if_neg h0]
 exact oB ns taken 0 (by omega) h2 h3
theorem cv {n:Nat}(h:n<=9000):n<sizeLine:=Nat.lt_of_le_of_lt h (by decide)
def sTK (x:Str):TK:=.k (.inr x)
def gTK (sg:List Str):TK:=.t (sg.map sTK)
def dTK (d:ar):TK:=.t [sTK d.a,gTK d.sg,sTK d.b]
theorem kf {x y:Str}(h:sTK x=sTK y):x=y:=by
 unfold sTK at h
 injection h with h
 injection h
theorem iW:∀{x y:List Str},x.map sTK=y.map sTK->x=y
 | [],[],_=>rfl
 | [],_::_,h=>by cases h
 | _::_,[],h=>by cases h
 | a::x,b::y,h=>by
  rw [List.map_cons,List.map_cons] at h
  injection h with h1 h2
  rw [kf h1,iW h2]
theorem fq {x y:List Str}(h:gTK x=gTK y):x=y:=by
 unfold gTK at h
 injection h with h
 exact iW h
theorem vx {x y:ar}(h:dTK x=dTK y):x=y:=by
 unfold dTK at h
 injection h with h
 injection h with h1 h
 injection h with h2 h
 injection h with h3 h
 cases x; cases y
 simp only at *
 rw [kf h1,fq h2,kf h3]
theorem oW (xs:List Str):TK.depths (xs.map sTK)=0:=by
 induction xs with
 | nil=>rfl
 | cons x xs ih=>rw [List.map_cons]; show max (TK.depth (sTK x)) (TK.depths _)=0; rw [ih]; rfl
theorem kR (sg:List Str):(gTK sg).depth=1:=by
 show TK.depths (sg.map sTK)+1=1
 rw [oW]
theorem kS (d:ar):(dTK d).depth=2:=by
 show max (TK.depth (sTK d.a)) (max (TK.depth (gTK d.sg)) (max (TK.depth (sTK d.b)) 0))+1=2
 rw [kR]
 rfl
theorem qp {H:Hp}:∀xs:List Str,TKAts H (xs.map sTK) (xs.map V.str)
 | []=>by show TKAts H [] []; unfold TKAts; rfl
 | x::xs=>by
  rw [List.map_cons,List.map_cons]
  unfold TKAts
  refine ⟨_,_,rfl,?_,qp xs⟩
  unfold sTK TKAt
  rfl
theorem nQ {H:Hp}(x:Str):TKAt H (sTK x) (.str x):=by unfold sTK TKAt; rfl
theorem SignAt.tk {H:Hp}{s:Addr}{sg:List Str}(h:SignAt H s sg):TKAt H (gTK sg) (.ref s):=by
 unfold gTK TKAt
 exact ⟨s,_,rfl,h,qp _⟩
theorem DoorAt.tk {H:Hp}{t:Addr}{d:ar}(h:DoorAt H t d):TKAt H (dTK d) (.ref t):=by
 obtain ⟨s,h1,h2⟩:=h
 unfold dTK TKAt
 refine ⟨t,_,rfl,h1,?_⟩
 unfold TKAts
 refine ⟨_,_,rfl,nQ _,?_⟩
 unfold TKAts
 refine ⟨_,_,rfl,SignAt.tk h2,?_⟩
 unfold TKAts
 refine ⟨_,_,rfl,nQ _,?_⟩
 unfold TKAts
 rfl
section
variable {κ:Type} [DecidableEq κ]
def h_ (ks:List κ):List (κ×V):=ks.foldl (fun acc k=>dS acc k (.bl true)) []
theorem gG (ws:List κ) (w:κ):h_ (ws++[w])=dS (h_ ws) w (.bl true):=by
 unfold h_
 rw [List.foldl_append]
 rfl
theorem rp (ws:List κ):(h_ ws).length<=ws.length:=by
 refine eA (fun ws=>(h_ ws).length<=ws.length) (Nat.le_refl _) (fun ws w h=>?_) ws
 show (h_ (ws++[w])).length<=(ws++[w]).length
 rw [gG,List.length_append]
 have:=kq (h_ ws) w (.bl true)
 show _<=ws.length+1
 omega
theorem tO (ws:List κ) (x:κ):(bO (h_ ws) x).isSome=decide (x∈ws):=by
 refine eA (fun ws=>(bO (h_ ws) x).isSome=decide (x∈ws)) rfl (fun ws w h=>?_) ws
 show (bO (h_ (ws++[w])) x).isSome=_
 rw [gG,ig]
 by_cases e:x=w
 ·subst e
  rw [if_pos rfl,decide_eq_true (by simp)]
  rfl
 ·rw [if_neg e,h]
  by_cases m:x∈ws
  ·rw [decide_eq_true m,decide_eq_true (List.mem_append_left _ m)]
  ·rw [decide_eq_false m,decide_eq_false (fun z=>by rcases List.mem_append.mp z with z | z; exact m z; exact e (by simpa using z))]
end
theorem mem_dTK {d:ar}{ds:List ar}:dTK d∈ds.map dTK↔d∈ds:=by
 constructor
 ·intro h
  obtain ⟨x,hx,e⟩:=List.mem_map.mp h
  rw [<-vx e]; exact hx
 ·exact List.mem_map_of_mem
def i9 (K:PySem.W.Frag) (H:Hp) (v:V) (sg:List Str):Prop:=∃s,v=.ref s/\SqT K H s (sg.map V.str)
theorem Same.sqT {K:PySem.W.Frag}{H H':Hp}{a:Addr}{xs:List V}(e:Same H H') (h:SqT K H a xs):SqT K H' a xs:=by
 rcases h with (h | ⟨o,h⟩) | h
 ·exact .inl (.inl (e _ _ h))
 ·exact .inl (.inr ⟨o,e _ _ h⟩)
 ·exact .inr h
theorem Signs.same {K:PySem.W.Frag}{H H':Hp}(e:Same H H') {xs:List V}{sgs:List (List Str)}(h:Paired (i9 K H) xs sgs):Paired (i9 K H') xs sgs :=
 Paired.mapP h fun _ _ ⟨s,h1,h2⟩=>⟨s,h1,Same.sqT e h2⟩
def gDT (sg:List Str):DT:=.t (sg.map sDT)
theorem rM {x y:List Str}(h:gDT x=gDT y):x=y:=by
 unfold gDT at h
 injection h with h
 exact cz h
theorem bZ (sg:List Str):(gDT sg).depth=1:=by
 show DT.depths (sg.map sDT)+1=1
 rw [dz]
theorem rR (sgs:List (List Str)):DT.depths (sgs.map gDT)<=8:=by
 induction sgs with
 | nil=>exact Nat.zero_le _
 | cons x xs ih=>rw [List.map_cons]; show max (DT.depth (gDT x)) (DT.depths _)<=8; rw [bZ]; omega
theorem Signs.dIns {K:PySem.W.Frag}{H:Hp}:∀{xs:List V}{sgs:List (List Str)},Paired (i9 K H) xs sgs->DIns K H (sgs.map gDT) xs
 | _,_,.nil=>by show DIns K H [] []; unfold DIns; rfl
 | _,_,.cons ⟨s,e,r⟩ t=>by
  rw [List.map_cons]
  unfold DIns
  refine ⟨_,_,rfl,?_,Signs.dIns t⟩
  rw [e]
  exact bb r
theorem mem_gDT {d:List Str}{ds:List (List Str)}:gDT d∈ds.map gDT↔d∈ds:=by
 constructor
 ·intro h
  obtain ⟨x,hx,e⟩:=List.mem_map.mp h
  rw [<-rM e]; exact hx
 ·exact List.mem_map_of_mem
theorem Paired.app {α β:Type}{R:α->β->Prop}:∀{a:List α}{b:List β}{c:List α}{d:List β},Paired R a b->Paired R c d->Paired R (a++c) (b++d)
 | _,_,_,_,.nil,h=>h
 | _,_,_,_,.cons r t,h=>.cons r (Paired.app t h)
def nF (w:Str):List Str:=[("ask":Str),w]
def mW (w:Str):List Str:=[("say":Str),w]
def d4 (asks says:List Str):List (List Str):=asks.map nF++says.map mW++[stillSg]
theorem jE {K:PySem.W.Frag}{kw:Str}{σ:L2.St}{H:Hp}{a l:Addr}{ws:List Str}{Q:Hp->Prop}(ha:H a=some (.lst (ws.map V.str))) (hl:H l=none) (hz:ws.length<=1000)
  (k:∀(xs:List V) (H':Hp),Paired (i9 K H') xs (ws.map fun w=>[kw,w])->Same H H'->H' l=some (.lst xs)->Q H') :
  dB 1 [] σ (Itl K a) (ak 0) mF (gk (ac (tC (.str kw)) (ac (ag 0) ap))) H l Q:=by
 refine bf (xs:=ws.map V.str) (fun i vs H'=>Paired (i9 K H') vs ((ws.take i).map fun w=>[kw,w])/\Same H H'/\H' l=some (.lst vs))
  ⟨.nil,Same.new hl,aa⟩ (fun i vs H' _ ⟨_,hS,h'⟩=>⟨h',SqL.of (hS _ _ ha)⟩) ?_ ?_
 ·rintro vs H' ⟨h1,h2,h3⟩
  rw [List.length_map,List.take_length] at h1
  exact k vs H' h1 h2 h3
 ·rintro i vs H' x hx hi ⟨h1,h2,h3⟩
  obtain ⟨w,hw,rfl⟩:=aR hx
  refine gN (uG ?_)
  refine ⟨_,rfl,(by show 2<=sizeLine; decide),fun t ht=>⟨kp h3 ht,?_,nxt hi ⟨?_,?_,aa⟩⟩⟩
  ·rw [Paired.length h1,List.length_map,List.length_take]; exact ao (by omega)
  ·rw [am hw,List.map_append]
   have hS2:KT0 (upd H' t (.tup [.str kw,.str w])) (upd (upd H' t (.tup [.str kw,.str w])) l (.lst (vs++[.ref t]))):=dL (kp h3 ht)
   have hS3:KT0 H' (upd (upd H' t (.tup [.str kw,.str w])) l (.lst (vs++[.ref t]))):=(Same.kt (Same.new ht)).trans hS2
   refine Paired.app (Paired.mapP h1 fun v sg ⟨s,e1,e2⟩=>⟨s,e1,?_⟩) (.cons ⟨t,rfl,SqT.of (hS2 _ _ aa)⟩ .nil)
   rcases e2 with (e2 | ⟨o,e2⟩) | e2
   ·exact .inl (.inl (hS3 _ _ e2))
   ·refine .inl (.inr ⟨o,?_⟩)
    rw [af (fun z=>by rw [z,h3] at e2; cases e2)]
    exact kp e2 ht
   ·exact .inr e2
  ·intro b o e
   rw [af (ad e hl)]
   exact kp (h2 _ _ e) ht
def sp_door_signs (K:PySem.W.Frag):Sp:=fun vs H Q _=>∃(l1 l2:Addr) (asks says:List Str),vs=[.ref l1,.ref l2]/\H l1=some (.lst (asks.map V.str))/\H l2=some (.lst (says.map V.str))/\asks.length<=100/\says.length<=100 /\
 ∀(l:Addr) (xs:List V) (H':Hp),Paired (i9 K H') xs (d4 asks says)->Same H H'->H' l=some (.lst xs)->Q (.ref l) H'
theorem kn {K:PySem.W.Frag}{st:Addr}(hst:∀H,SqT K H st (stillSg.map V.str)) {vs:List V}{H:Hp}{Q:VK}{E:XK}(h:sp_door_signs K vs H Q E):k7 K st { nx:=fun _ H'=>Q .non H',rt:=Q } (aA mr vs) H:=by
 obtain ⟨l1,l2,asks,says,rfl,h1,h2,z1,z2,k⟩:=h
 refine ⟨_,rfl,l1,rfl,⟨_,SqL.of h1⟩,fun a ha=>?_⟩
 refine jE h1 ha (by omega) fun xs1 H1 p1 s1 g1=>?_
 refine ⟨_,rfl,l2,rfl,⟨_,SqL.of (s1 _ _ h2)⟩,fun b hb=>?_⟩
 refine jE (s1 _ _ h2) hb (by omega) fun xs2 H2 p2 s2 g2=>?_
 have len1:xs1.length<=100:=by rw [Paired.length p1,List.length_map]; exact z1
 have len2:xs2.length<=100:=by rw [Paired.length p2,List.length_map]; exact z2
 refine ⟨a,b,xs1,xs2,rfl,rfl,s2 _ _ g1,g2,Nat.le_of_lt (ao (by omega)),fun c hc=>?_⟩
 refine ⟨(by show 1<=sizeLine; decide),fun d hd=>?_⟩
 refine ⟨c,d,_,_,rfl,rfl,kp aa hd,aa,?_,fun e he=>k e _ _ ?_ ?_ aa⟩
 ·rw [List.length_append]
  show _+1<=sizeLine
  exact Nat.le_of_lt (ao (by omega))
 ·have sx:Same H2 (upd (upd (upd H2 c (.lst (xs1++xs2))) d (.lst [.ref st])) e (.lst (xs1++xs2++[.ref st]))):=((Same.new hc).trans (Same.new hd)).trans (Same.new he)
  exact Paired.app (Paired.app (Signs.same (s2.trans sx) p1) (Signs.same sx p2)) (.cons ⟨st,rfl,hst _⟩ .nil)
 ·exact (((s1.trans s2).trans (Same.new hc)).trans (Same.new hd)).trans (Same.new he)
def fwd (rooms:List Str) (sgs:List (List Str)):Nat->List ar->List ar->Option Nat
 | _,_,[]=>none
 | i,ahead,d::ds=>if i=2000∨d∈ahead∨d.a∉rooms∨d.sg∉sgs∨d.b∉rooms then some i else fwd rooms sgs (i+1) (ahead++[d]) ds
def sp_first_wrong_door (K:PySem.W.Frag):Sp:=fun vs H Q _=>∃(l l3 sl:Addr) (ts:List Addr) (ds:List ar) (rooms:List Str) (xs:List V) (sgs:List (List Str)),vs=[.ref l,.ref l3,.ref sl]/\H l=some (.lst (ts.map V.ref))/\Doors H ts ds /\
 H l3=some (.lst (rooms.map V.str))/\rooms.length<=1000/\H sl=some (.lst xs)/\Paired (i9 K H) xs sgs/\ds.length<=9000/\∀H',Same H H'->Q (oV (fwd rooms sgs 0 [] ds)) H'
theorem bB {ws:List Addr}{i:Nat}{x:V}(h:(ws.map V.ref)[i]?=some x):∃w,ws[i]?=some w/\x=.ref w:=by
 rw [List.getElem?_map] at h
 cases q:ws[i]? with
 | none=>rw [q] at h; cases h
 | some r=>rw [q] at h; exact ⟨r,rfl,(Option.some.inj h).symm⟩
theorem fj {K:PySem.W.Frag}{vs:List V}{H:Hp}{Q:VK}{E:XK}(h:sp_first_wrong_door K vs H Q E):fC K (sp_as_keys K) { nx:=fun _ H'=>Q .non H',rt:=Q } (aA f6 vs) H:=by
 obtain ⟨l,l3,sl,ts,ds,rooms,xs,sgs,rfl,hl,hds,h3,hr,hsl,hsg,hz,k⟩:=h
 refine ⟨_,rfl,i7 (SqL.of h3) hr fun d hd=>?_⟩
 refine fun e he=>?_
 have hS0:Same H (upd (upd H d (.dK (av rooms))) e (.dT [])):=(Same.new hd).trans (Same.new he)
 have heH:H e=none:=(Same.new hd).free he
 refine ⟨_,rfl,l,rfl,⟨_,SqL.of (hS0 _ _ hl)⟩,?_⟩
 refine fX (xs:=ts.map V.ref) (fun i σ H'=>∃x y,σ=[some (.ref l),some (.ref l3),some (.ref sl),some (.ref d),some (.ref e),x,y]/\Same H H'/\H' d=some (.dK (av rooms))/\H' e=some (.dT (h_ ((ds.take i).map dTK)))/\fwd rooms sgs i (ds.take i) (ds.drop i)=fwd rooms sgs 0 [] ds)
  ⟨_,_,rfl,hS0,kp aa he,aa,rfl⟩ (fun i σ H' _ ⟨_,_,_,hS,_⟩=>SqL.of (hS _ _ hl)) ?_ ?_
 ·rintro i x σ H' q hi ⟨x5,x6,rfl,hS,hd',he',hf⟩ hq
  obtain ⟨t,ht,rfl⟩:=bB hi
  obtain ⟨dr,hdr,hat⟩:=Paired.getL hds ht
  have hil:i<ds.length:=(List.getElem?_eq_some_iff.mp hdr).1
  have ed:ds.drop i=dr::ds.drop (i+1):=by
   rw [List.drop_eq_getElem_cons hil]
   congr 1
   exact (List.getElem?_eq_some_iff.mp hdr).2
  rw [ed] at hf
  have hS2:Same H (upd H' q (.tup [.int i,.ref t])):=hS.trans (Same.new hq)
  have hd2:upd H' q (.tup [.int i,.ref t]) d=_:=kp hd' hq
  have he2:upd H' q (.tup [.int i,.ref t]) e=_:=kp he' hq
  refine ⟨q,_,rfl,SqT.of aa,rfl,_,_,rfl,_,_,rfl,rfl,?_⟩
  generalize upd H' q (.tup [.int i,.ref t])=H2 at hd2 he2 hS2 ⊢
  have hat2:=hat.kt (Same.kt hS2)
  have hin:mj K H2 (dTK dr) (.ref t):=TKAt.isIn 8 (by rw [kS]; decide) hat2.tk
  have hd8:(dTK dr).depth<=8:=by rw [kS]; decide
  obtain ⟨s,ht2,hs2⟩:=hat2
  have bad:(i=2000∨dr∈ds.take i∨dr.a∉rooms∨dr.sg∉sgs∨dr.b∉rooms)->Q (.int i) H2:=by
   intro c
   have:=k H2 hS2
   rw [<-hf] at this
   unfold fwd at this
   rw [if_pos c] at this
   exact this
  refine ⟨_,rfl,rfl,_,rfl,?_⟩
  by_cases c1:i=2000
  ·have e1:decide (V.int (i:Nat)=V.int 2000)=true:=decide_eq_true (by rw [c1]; rfl)
   rw [e1]
   exact cK (cK ⟨_,rfl,bad (.inl c1)⟩)
  have e1:decide (V.int (i:Nat)=V.int 2000)=false:=decide_eq_false (fun z=>c1 (by injection z with z; omega))
  rw [e1]
  refine bx ?_
  refine ⟨_,rfl,_,rfl,e,_,rfl,.inr ⟨_,dTK dr,t,.inl he2,rfl,hin,hd8,rfl⟩,_,rfl,?_⟩
  rw [tO]
  by_cases c2:dr∈ds.take i
  ·rw [decide_eq_true (mem_dTK.mpr c2)]
   exact cK ⟨_,rfl,bad (.inr (.inl c2))⟩
  rw [decide_eq_false (fun z=>c2 (mem_dTK.mp z))]
  refine bx ?_
  refine ⟨_,rfl,.inr (.inl ⟨t,_,0,_,rfl,rfl,SqT.of ht2,rfl,_,rfl,d,_,rfl,.inl ⟨_,.inr dr.a,.inl hd2,rfl,rfl⟩,_,rfl,?_⟩)⟩
  rw [bF]
  by_cases c3:dr.a∈rooms
  rotate_left
  ·rw [decide_eq_false c3]
   exact cK (cK ⟨_,rfl,bad (.inr (.inr (.inl c3)))⟩)
  rw [decide_eq_true c3]
  refine bx ?_
  refine ⟨_,rfl,.inr (.inl ⟨t,_,1,_,rfl,rfl,SqT.of ht2,rfl,_,rfl,gDT dr.sg,sgs.map gDT,sl,xs,bb (SqT.of hs2),rfl,.inl (SqL.of (hS2 _ _ hsl)),Signs.dIns (Signs.same hS2 hsg),by rw [bZ]; decide,rR _,_,rfl,?_⟩)⟩
  rw [if_pos rfl]
  by_cases c4:dr.sg∈sgs
  rotate_left
  ·rw [decide_eq_false (fun z=>c4 (mem_gDT.mp z))]
   exact cK (cK ⟨_,rfl,bad (.inr (.inr (.inr (.inl c4))))⟩)
  rw [decide_eq_true (mem_gDT.mpr c4)]
  refine bx ?_
  refine ⟨_,rfl,.inr (.inl ⟨t,_,2,_,rfl,rfl,SqT.of ht2,rfl,_,rfl,d,_,rfl,.inl ⟨_,.inr dr.b,.inl hd2,rfl,rfl⟩,_,rfl,?_⟩)⟩
  rw [bF]
  by_cases c5:dr.b∈rooms
  rotate_left
  ·rw [decide_eq_false c5]
   exact cK ⟨_,rfl,bad (.inr (.inr (.inr (.inr c5))))⟩
  rw [decide_eq_true c5]
  refine bx ?_
  have hlen:(h_ ((ds.take i).map dTK)).length<sizeLine:=cv (Nat.le_trans (rp _) (by rw [List.length_map,List.length_take]; omega))
  refine ⟨_,rfl,_,rfl,e,_,rfl,.inr ⟨_,dTK dr,t,he2,rfl,DoorAt.tk ⟨s,ht2,hs2⟩,hd8,hlen,rfl⟩,_,_,rfl,?_,?_,?_,?_⟩
  ·intro b o q
   rw [af (ad q heH)]
   exact hS2 _ _ q
  ·rw [af (fun z=>by rw [z,he2] at hd2; cases hd2)]; exact hd2
  ·rw [aa,am hdr,List.map_append]
   exact congrArg (fun z=>some (HO.dT z)) (gG _ _).symm
  ·rw [<-hf,am hdr]
   conv=>rhs; unfold fwd
   rw [if_neg]
   rintro (z | z | z | z | z)
   ·exact c1 z
   ·exact c2 z
   ·exact z c3
   ·exact z c4
   ·exact z c5
 ·rintro σ H' ⟨x,y,rfl,hS,_,_,hf⟩
  have:=k H' hS
  rw [<-hf,List.length_map,Paired.length hds,List.drop_length] at this
  exact this
theorem oC {rooms:List Str}{sgs:List (List Str)}:∀(ds ahead:List ar) (i:Nat),i+ds.length<=2000->(ahead++ds).Nodup->(∀d∈ds,d.a∈rooms/\d.sg∈sgs/\d.b∈rooms)->fwd rooms sgs i ahead ds=none
 | [],_,_,_,_,_=>rfl
 | n::ns,ahead,i,h1,h2,h3=>by
  rw [List.length_cons] at h1
  unfold fwd
  rw [if_neg]
  ·refine oC ns (ahead++[n]) (i+1) (by omega) (by rw [List.append_assoc]; exact h2) fun w hw=>h3 w (List.mem_cons_of_mem _ hw)
  ·have:=h3 n List.mem_cons_self
   rintro (z | z | z | z | z)
   ·omega
   ·rw [List.nodup_append] at h2
    exact h2.2.2 n z n (List.mem_cons_self) rfl
   ·exact z this.1
   ·exact z this.2.1
   ·exact z this.2.2
def sp_need_none:Sp:=fun vs H Q _=>∃x:V,vs=[x,.non]/\Q .non H
theorem lp {K:PySem.W.Frag}{vs:List V}{H:Hp}{Q:VK}{E:XK}(h:sp_need_none vs H Q E):mz K { nx:=fun _ H'=>Q .non H',rt:=Q } (aA nH vs) H:=by
 obtain ⟨x,rfl,k⟩:=h
 refine ⟨_,rfl,_,rfl,?_⟩
 have e:(!decide (V.non=V.non))=false:=by rw [decide_eq_true rfl]; rfl
 rw [e]
 exact bx k
structure Lists (H:Hp) (l1 l2 l3 l4:Addr) (ts:List Addr) (asks says rooms:List Str) (ds:List ar):Prop where
 a1:H l1=some (.lst (asks.map V.str))
 a2:H l2=some (.lst (says.map V.str))
 a3:H l3=some (.lst (rooms.map V.str))
 a4:H l4=some (.lst (ts.map V.ref))
 ds:Doors H ts ds
theorem Lists.same {H H':Hp}{l1 l2 l3 l4:Addr}{ts:List Addr}{asks says rooms:List Str}{ds:List ar}(h:Lists H l1 l2 l3 l4 ts asks says rooms ds) (e:Same H H'):Lists H' l1 l2 l3 l4 ts asks says rooms ds :=
 ⟨e _ _ h.a1,e _ _ h.a2,e _ _ h.a3,e _ _ h.a4,h.ds.kt (Same.kt e)⟩
def sp_need_parts:Sp:=fun vs H Q _=>∃(l1 l2 l3 l4:Addr) (ts:List Addr) (asks says rooms:List Str) (ds:List ar),vs=[.ref l1,.ref l2,.ref l3,.ref l4]/\Lists H l1 l2 l3 l4 ts asks says rooms ds/\ModelOk asks says rooms ds /\
 ∀H',Same H H'->Q .non H'
theorem ModelOk.signs {asks says rooms:List Str}{ds:List ar}(m:ModelOk asks says rooms ds):∀d∈ds,d.a∈rooms/\d.sg∈d4 asks says/\d.b∈rooms:=by
 intro d hd
 have g:=m.good d hd
 refine ⟨g.a,?_,g.b⟩
 unfold d4
 rcases g.sg with ⟨w,hw,e⟩ | ⟨w,hw,e⟩ | e
 ·rw [e]; exact List.mem_append_left _ (List.mem_append_left _ (List.mem_map.mpr ⟨w,hw,rfl⟩))
 ·rw [e]; exact List.mem_append_left _ (List.mem_append_right _ (List.mem_map.mpr ⟨w,hw,rfl⟩))
 ·rw [e]; exact List.mem_append_right _ (by simp [stillSg])
theorem iV {ws:List Str}(h:gP ws):∀w∈ws,w.length<=1000:=fun w hw=>Nat.le_trans (h.2 w hw).hi (by decide)
theorem ki {K:PySem.W.Frag}{vs:List V}{H:Hp}{Q:VK}{E:XK}(h:sp_need_parts vs H Q E):kY K sp_need_none (sp_first_wrong_door K) (sp_door_signs K) (sp_first_wrong_name K) { nx:=fun _ H'=>Q .non H',rt:=Q } (aA mm vs) H:=by
 obtain ⟨l1,l2,l3,l4,ts,asks,says,rooms,ds,rfl,L,m,k⟩:=h
 have w1:aN asks 4 []=none:=cB m.asks0 m.asks4 m.okA.1 m.okA.2
 have w2:aN says 4 asks=none:=cB m.says0 m.says4 (by
  rw [List.nodup_append]
  exact ⟨m.okA.1,m.okS.1,fun a ha b hb e=>m.apart b hb (e ▸ ha)⟩) m.okS.2
 have w3:aN rooms 150 []=none:=cB m.rooms0 (by have:=m.rooms26; omega) m.okR.1 m.okR.2
 have w4:fwd rooms (d4 asks says) 0 [] ds=none:=oC ds [] 0 (by have:=m.few; omega) m.nodup m.signs
 have z1:=m.asks4
 have z2:=m.says4
 have z3:=m.rooms26
 have z4:=m.few
 refine ⟨_,rfl,(by show 0<=sizeLine; decide),fun e he=>⟨l1,e,asks,[],4,rfl,SqL.of (kp L.a1 he),SqL.of aa,by simp; omega,iV m.okA,fun H1 s1=>?_⟩⟩
 rw [w1]
 refine ⟨_,rfl,?_⟩
 have S1:=(Same.new he).trans s1
 refine ⟨_,rfl,_,rfl,l2,l1,says,asks,4,rfl,SqL.of (S1 _ _ L.a2),SqL.of (S1 _ _ L.a1),by omega,iV m.okS,fun H2 s2=>?_⟩
 rw [w2]
 refine ⟨_,rfl,?_⟩
 have S2:=S1.trans s2
 refine ⟨_,rfl,(by show 0<=sizeLine; decide),fun e he=>⟨l3,e,rooms,[],150,rfl,SqL.of (kp (S2 _ _ L.a3) he),SqL.of aa,by simp; omega,iV m.okR,fun H3 s3=>?_⟩⟩
 rw [w3]
 refine ⟨_,rfl,?_⟩
 have S3:=(S2.trans (Same.new he)).trans s3
 refine ⟨_,rfl,_,rfl,_,rfl,_,rfl,l1,l2,asks,says,rfl,S3 _ _ L.a1,S3 _ _ L.a2,by omega,by omega,fun sl xs H4 hx s4 hsl=>?_⟩
 have S4:=S3.trans s4
 have L4:=L.same S4
 refine ⟨l4,l3,sl,ts,ds,rooms,xs,d4 asks says,rfl,L4.a4,L4.ds,L4.a3,by omega,hsl,hx,by omega,fun H5 s5=>?_⟩
 rw [w4]
 exact ⟨_,rfl,k H5 (S4.trans s5)⟩
section
variable {κ ι:Type} [DecidableEq κ] {e:ι->κ}
def dJ (e:ι->κ) (ps:List (ι×Addr)):List (κ×V):=ps.map fun x=>(e x.1,V.ref x.2)
theorem gF (inj:∀x y,e x=e y->x=y) {i:ι}:∀{ps:List (ι×Addr)},i∉ps.map (·.1)->bO (dJ e ps) (e i)=none
 | [],_=>rfl
 | x::ps,h=>by
  rw [List.map_cons,List.mem_cons] at h
  show bO ((e x.1,V.ref x.2)::dJ e ps) (e i)=none
  rw [aV (fun z=>h (.inl (inj _ _ z).symm))]
  exact gF inj (fun z=>h (.inr z))
theorem bR (inj:∀x y,e x=e y->x=y) {i:ι}{a:Addr}:∀{ps:List (ι×Addr)},(ps.map (·.1)).Nodup->(i,a)∈ps->bO (dJ e ps) (e i)=some (.ref a)
 | [],_,h=>by cases h
 | x::ps,nd,h=>by
  rw [List.map_cons,List.nodup_cons] at nd
  show bO ((e x.1,V.ref x.2)::dJ e ps) (e i)=_
  rcases List.mem_cons.mp h with h | h
  ·rw [<-h]; exact aY rfl
  ·rw [aV (fun z=>nd.1 (by rw [inj _ _ z]; exact List.mem_map.mpr ⟨_,h,rfl⟩))]
   exact bR inj nd.2 h
theorem lS (ps:List (ι×Addr)) (i:ι) (a:Addr):dJ e (ps++[(i,a)])=dJ e ps++[(e i,.ref a)]:=by
 unfold dJ
 rw [List.map_append]
 rfl
end
structure DL {ι:Type}(H0 H:Hp) (d:Addr) (ps:List (ι×Addr)):Prop where
 nd:(ps.map (·.1)).Nodup
 na:(ps.map (·.2)).Nodup
 fr:∀x∈ps,H0 x.2=none
 frd:H0 d=none
 ned:∀x∈ps,x.2≠d
 same:Same H0 H
theorem DL.snoc {ι:Type}{H0 H H':Hp}{d:Addr}{ps:List (ι×Addr)}{i:ι}{a:Addr}(h:DL H0 H d ps) (hi:i∉ps.map (·.1)) (ha:∀x∈ps,x.2≠a) (fr:H0 a=none) (nd:a≠d) (s:Same H0 H'):DL H0 H' d (ps++[(i,a)]):=by
 refine ⟨?_,?_,?_,h.frd,?_,s⟩
 ·rw [List.map_append,List.nodup_append]
  refine ⟨h.nd,by simp,fun x hx y hy e=>?_⟩
  have:y=i:=by simpa using hy
  exact hi (by rw [<-this,<-e]; exact hx)
 ·rw [List.map_append,List.nodup_append]
  refine ⟨h.na,by simp,fun x hx y hy e=>?_⟩
  have:y=a:=by simpa using hy
  obtain ⟨z,hz,rfl⟩:=List.mem_map.mp hx
  exact ha z hz (e.trans this)
 ·intro x hx
  rcases List.mem_append.mp hx with hx | hx
  ·exact h.fr x hx
  ·have:x=(i,a):=by simpa using hx
   rw [this]; exact fr
 ·intro x hx
  rcases List.mem_append.mp hx with hx | hx
  ·exact h.ned x hx
  ·have:x=(i,a):=by simpa using hx
   rw [this]; exact nd
theorem vn {ι:Type}:∀{ps:List (ι×Addr)},(ps.map (·.2)).Nodup->∀{x y:ι×Addr},x∈ps->y∈ps->x.2=y.2->x=y
 | [],_,x,_,h,_,_=>by cases h
 | p::ps,nd,x,y,hx,hy,e=>by
  rw [List.map_cons,List.nodup_cons] at nd
  rcases List.mem_cons.mp hx with hx' | hx' <;> rcases List.mem_cons.mp hy with hy' | hy'
  ·rw [hx',hy']
  ·exact absurd (List.mem_map.mpr ⟨y,hy',by rw [<-e,hx']⟩) nd.1
  ·exact absurd (List.mem_map.mpr ⟨x,hx',by rw [e,hy']⟩) nd.1
  ·exact vn nd.2 hx' hy' e
theorem dZ:∀x y:Str,(Sum.inr x:Key)=Sum.inr y->x=y:=fun x y h=>by injection h
def aK (ds:List ar) (r:Str):List ar:=ds.filter fun d=>decide (d.a=r)
def sp_doors_by_start:Sp:=fun vs H Q _=>∃(l3 l4:Addr) (ts:List Addr) (rooms:List Str) (ds:List ar),vs=[.ref l3,.ref l4]/\H l3=some (.lst (rooms.map V.str))/\H l4=some (.lst (ts.map V.ref))/\Doors H ts ds /\
 rooms.Nodup/\rooms.length<=1000/\ds.length<=9000/\(∀d∈ds,d.a∈rooms) /\
 ∀(d:Addr) (ps:List (Str×Addr)) (H':Hp),ps.map (·.1)=rooms->H' d=some (.dK (dJ Sum.inr ps))->(∀x∈ps,∃us,H' x.2=some (.lst (us.map V.ref))/\Doors H' us (aK ds x.1))->Same H H'->Q (.ref d) H'
theorem gD {K:PySem.W.Frag}{vs:List V}{H:Hp}{Q:VK}{E:XK}(h:sp_doors_by_start vs H Q E):hU K { nx:=fun _ H'=>Q .non H',rt:=Q } (aA ie vs) H:=by
 obtain ⟨l3,l4,ts,rooms,ds,rfl,h3,h4,hds,nod,hz,hz2,hin,k⟩:=h
 refine fun d hd=>?_
 refine ⟨_,rfl,l3,rfl,⟨_,SqL.of (kp h3 hd)⟩,?_⟩
 refine bG (xs:=rooms.map V.str) (fun i σ H'=>∃x y,σ=[some (.ref l3),some (.ref l4),some (.ref d),x,y]/\∃ps:List (Str×Addr),ps.map (·.1)=rooms.take i/\H' d=some (.dK (dJ Sum.inr ps))/\DL H H' d ps/\∀x∈ps,H' x.2=some (.lst []))
  ⟨_,_,rfl,[],rfl,aa,⟨by simp,by simp,by simp,hd,by simp,Same.new hd⟩,by simp⟩ (fun i σ H' _ ⟨_,_,_,_,_,_,D,_⟩=>SqL.of (D.same _ _ h3)) ?_ ?_
 ·rintro i x σ H' hi ⟨x3,x4,rfl,ps,hps,hd',D,hls⟩
  obtain ⟨w,hw,rfl⟩:=aR hi
  have hnew:w∉ps.map (·.1):=by
   rw [hps]
   intro z
   have:=nod
   rw [<-List.take_append_drop (i+1) rooms,am hw,List.nodup_append] at this
   have:=this.1
   rw [List.nodup_append] at this
   exact this.2.2 w z w (by simp) rfl
  refine ⟨(by show 0<=sizeLine; decide),fun a ha=>?_⟩
  have hlen:(dJ (Sum.inr:Str->Key) ps).length<sizeLine:=ao (by
   unfold dJ
   rw [List.length_map,<-List.length_map (f:=(·.1)) (as:=ps),hps,List.length_take]; omega)
  have haH:H a=none:=D.same.free ha
  have nda:a≠d:=(ad hd' ha).symm
  have hneA:∀x∈ps,x.2≠a:=fun x hx=>ad (hls x hx) ha
  refine ⟨_,rfl,_,rfl,d,_,rfl,.inl ⟨_,.inr w,kp hd' ha,rfl,hlen,rfl⟩,_,_,rfl,ps++[(w,a)],?_,?_,?_,?_⟩
  ·rw [List.map_append,hps,am hw]; rfl
  ·rw [aa,eC _ (gF dZ hnew),lS]
  ·refine D.snoc hnew hneA haH nda ?_
   intro b o q
   rw [af (ad q hd)]
   exact kp (D.same _ _ q) ha
  ·intro x hx
   rcases List.mem_append.mp hx with hx | hx
   ·rw [af (D.ned x hx)]
    exact kp (hls x hx) ha
   ·have:x=(w,a):=by simpa using hx
    rw [this,af nda]
    exact aa
 ·rintro σ H1 ⟨x3,x4,rfl,ps,hps,hd1,D1,hls⟩
  rw [List.length_map,List.take_length] at hps
  refine ⟨_,rfl,l4,rfl,⟨_,SqL.of (D1.same _ _ h4)⟩,?_⟩
  refine bG (xs:=ts.map V.ref) (fun i σ H'=>∃x4,σ=[some (.ref l3),some (.ref l4),some (.ref d),x3,x4]/\H' d=some (.dK (dJ Sum.inr ps))/\DL H H' d ps/\∀x∈ps,∃us,H' x.2=some (.lst (us.map V.ref))/\Doors H' us (aK (ds.take i) x.1))
   ⟨_,rfl,hd1,D1,fun x hx=>⟨[],hls x hx,.nil⟩⟩ (fun i σ H' _ ⟨_,_,_,D,_⟩=>SqL.of (D.same _ _ h4)) ?_ ?_
  ·rintro i x σ H' hi ⟨x4,rfl,hd',D,hls⟩
   obtain ⟨t,ht,rfl⟩:=bB hi
   obtain ⟨dr,hdr,hat⟩:=Paired.getL hds ht
   have hat':=hat.kt (Same.kt D.same)
   have hat2:=hat'
   obtain ⟨s,ht2,hs2⟩:=hat'
   have hmem:dr.a∈ps.map (·.1):=by rw [hps]; exact hin dr (List.mem_of_getElem? hdr)
   obtain ⟨⟨r,a⟩,hra,er⟩:=List.mem_map.mp hmem
   obtain rfl:r=dr.a:=er
   obtain ⟨us,hus,hdo⟩:=hls _ hra
   have hil:i<ds.length:=(List.getElem?_eq_some_iff.mp hdr).1
   have hlu:us.length<=9000:=by
    rw [Paired.length hdo]
    refine Nat.le_trans (List.length_filter_le _ _) ?_
    rw [List.length_take]; omega
   have KT:KT0 H' (upd H' a (.lst (us.map V.ref++[.ref t]))):=dL hus
   refine ⟨_,rfl,_,rfl,.inr (.inl ⟨t,_,0,_,rfl,rfl,SqT.of ht2,rfl,d,.ref a,rfl,.inl ⟨_,.inr dr.a,.inl hd',rfl,(bR dZ D.nd hra).symm⟩,.inl ⟨rfl,_,SqL.of hus⟩,_,rfl,a,_,_,rfl,rfl,hus,?_,_,rfl,?_,?_,?_⟩)⟩
   ·rw [List.length_map]; exact cv hlu
   ·rw [af (D.ned _ hra).symm]; exact hd'
   ·refine ⟨D.nd,D.na,D.fr,D.frd,D.ned,fun b o q=>?_⟩
    rw [af (ad q (D.fr _ hra))]
    exact D.same _ _ q
   ·intro x hx
    have hfl:∀r',aK (ds.take (i+1)) r'=aK (ds.take i) r'++(if dr.a=r' then [dr] else []):=by
     intro r'
     unfold aK
     rw [am hdr,List.filter_append]
     congr 1
     by_cases c:dr.a=r'
     ·rw [if_pos c]; simp [c]
     ·rw [if_neg c]; simp [c]
    by_cases c:x.2=a
    ·have ex:=vn D.na hx hra c
     subst ex
     refine ⟨us++[t],?_,?_⟩
     ·show upd H' a _ a=_
      rw [aa,List.map_append]; rfl
     ·rw [hfl]
      show Doors _ _ (aK (ds.take i) dr.a++(if dr.a=dr.a then [dr] else []))
      rw [if_pos rfl]
      exact Paired.app (hdo.kt KT) (.cons (hat2.kt KT) .nil)
    ·obtain ⟨us',h1,h2⟩:=hls x hx
     have hne:¬(dr.a=x.1):=fun z=>by
      have e1:=bR (e:=(Sum.inr:Str->Key)) dZ D.nd hra
      have e2:=bR (e:=(Sum.inr:Str->Key)) (i:=x.1) (a:=x.2) dZ D.nd hx
      rw [<-z,e1] at e2
      injection e2 with e2
      injection e2 with e2
      exact c e2.symm
     refine ⟨us',by rw [af c]; exact h1,?_⟩
     rw [hfl,if_neg hne,List.append_nil]
     exact h2.kt KT
  ·rintro σ H' ⟨x4,rfl,hd',D,hls⟩
   rw [List.length_map,Paired.length hds,List.take_length] at hls
   exact ⟨_,rfl,k d ps H' hps hd' hls D.same⟩
def dP (d:ar):Bool:=match d.sg with
 | s::_=>decide (s=("ask":Str))
 | []=>false
def sp_has_asks_alone:Sp:=fun vs H Q _=>∃(a:Addr) (us:List Addr) (ds:List ar),vs=[.ref a]/\H a=some (.lst (us.map V.ref))/\Doors H us ds/\ds.length<=9000/\(∀d∈ds,d.sg≠[])/\∀H',Same H H'->Q (.bl (ds.all dP)) H'
theorem gC {K:PySem.W.Frag}{vs:List V}{H:Hp}{Q:VK}{E:XK}(h:sp_has_asks_alone vs H Q E):hJ K { nx:=fun _ H'=>Q .non H',rt:=Q } (aA ic vs) H:=by
 obtain ⟨a,us,ds,rfl,ha,hds,hz,hne,k⟩:=h
 refine ⟨_,rfl,a,rfl,⟨_,SqL.of ha⟩,fun l hl=>?_⟩
 refine bf (xs:=us.map V.ref) (fun i vs H'=>vs=(ds.take i).map (fun d=>V.bl (dP d))/\Same H H'/\H' l=some (.lst vs))
  ⟨rfl,Same.new hl,aa⟩ (fun i vs H' _ ⟨_,hS,h'⟩=>⟨h',SqL.of (hS _ _ ha)⟩) ?_ ?_
 ·rintro vs H' ⟨rfl,hS,h'⟩
  rw [List.length_map,Paired.length hds,List.take_length] at h'
  refine ⟨l,ds.map dP,rfl,SqL.of (by rw [h',List.map_map]; rfl),?_⟩
  rw [List.all_map]
  exact k H' hS
 ·rintro i vs H' x hx hi ⟨rfl,hS,h'⟩
  obtain ⟨t,ht,rfl⟩:=bB hx
  obtain ⟨dr,hdr,hat⟩:=Paired.getL hds ht
  obtain ⟨s,ht2,hs2⟩:=hat.kt (Same.kt hS)
  have hmem:=List.mem_of_getElem? hdr
  obtain ⟨s0,rest,hsg⟩:∃s0 rest,dr.sg=s0::rest:=by
   cases q:dr.sg with
   | nil=>exact absurd q (hne dr hmem)
   | cons x y=>exact ⟨x,y,rfl⟩
  unfold SignAt at hs2
  rw [hsg] at hs2
  refine gN (uG ?_)
  refine ⟨_,rfl,.inr (.inl ⟨t,_,1,_,rfl,rfl,SqT.of ht2,rfl,.inr (.inl ⟨s,_,0,.str s0,rfl,rfl,SqT.of hs2,cE (j:=0) rfl,rfl,h',?_,nxt hi ⟨?_,?_,aa⟩⟩)⟩)⟩
  ·rw [List.length_map,List.length_take]; exact cv (by omega)
  ·rw [am hdr,List.map_append]
   congr 1
   show [V.bl _]=[V.bl _]
   congr 2
   unfold dP
   rw [hsg]
   show decide (V.str s0=V.str _)=decide (s0=_)
   by_cases c:s0=("ask":Str)
   ·rw [decide_eq_true c,decide_eq_true (by rw [c])]
   ·rw [decide_eq_false c,decide_eq_false (fun z=>c (by injection z))]
  ·intro b o e
   rw [af (ad e hl)]
   exact hS _ _ e
def sgk (x:Str×List Str):TK:=.t [sTK x.1,gTK x.2]
theorem dj:∀x y:Str×List Str,sgk x=sgk y->x=y:=by
 intro x y h
 unfold sgk at h
 injection h with h
 injection h with h1 h
 injection h with h2 h
 cases x; cases y
 simp only at *
 rw [kf h1,fq h2]
theorem fL (x:Str×List Str):(sgk x).depth<=8:=by
 show max (TK.depth (sTK x.1)) (max (TK.depth (gTK x.2)) 0)+1<=8
 rw [kR]
 show max 0 (max 1 0)+1<=8
 decide
def aB (ds:List ar) (x:Str×List Str):List Str:=(ds.filter fun d=>decide (d.a=x.1/\d.sg=x.2)).map (·.b)
theorem lX (ds:List ar) (d:ar) (x:Str×List Str):aB (ds++[d]) x=aB ds x++(if (d.a,d.sg)=x then [d.b] else []):=by
 unfold aB
 rw [List.filter_append,List.map_append]
 congr 1
 by_cases c:(d.a,d.sg)=x
 ·subst c
  simp
 ·rw [if_neg c]
  have:¬(d.a=x.1/\d.sg=x.2):=fun z=>c (by cases x; simp only at z; rw [z.1,z.2])
  simp [List.filter_cons]
  intro h1 h2
  exact this ⟨h1,h2⟩
theorem fo {ds:List ar}{x:Str×List Str}(h:∀d∈ds,(d.a,d.sg)≠x):aB ds x=[]:=by
 unfold aB
 rw [List.map_eq_nil_iff,List.filter_eq_nil_iff]
 intro d hd
 have:¬(d.a=x.1/\d.sg=x.2):=fun z=>h d hd (by cases x; simp only at z; rw [z.1,z.2])
 simp
 intro h1 h2
 exact this ⟨h1,h2⟩
theorem mem_goalsOf {ds:List ar}{x:Str×List Str}{b:Str}:b∈aB ds x↔(⟨x.1,x.2,b⟩:ar)∈ds:=by
 unfold aB
 rw [List.mem_map]
 constructor
 ·rintro ⟨d,hd,rfl⟩
  rw [List.mem_filter] at hd
  obtain ⟨h1,h2⟩:=hd
  obtain ⟨h3,h4⟩:=of_decide_eq_true h2
  cases d
  simp only at h3 h4
  rw [<-h3,<-h4]; exact h1
 ·intro h
  exact ⟨_,List.mem_filter.mpr ⟨h,decide_eq_true ⟨rfl,rfl⟩⟩,rfl⟩
structure GoalsAt (H:Hp) (g:Addr) (ps:List ((Str×List Str)×Addr)) (ds:List ar):Prop where
 nd:(ps.map (·.1)).Nodup
 g:H g=some (.dT (dJ sgk ps))
 ls:∀x∈ps,H x.2=some (.lst ((aB ds x.1).map V.str))
 all:∀d∈ds,(d.a,d.sg)∈ps.map (·.1)
theorem GoalsAt.same {H H':Hp}{g:Addr}{ps:List ((Str×List Str)×Addr)}{ds:List ar}(h:GoalsAt H g ps ds) (s:Same H H'):GoalsAt H' g ps ds:=⟨h.nd,s _ _ h.g,fun x hx=>s _ _ (h.ls x hx),h.all⟩
def ka:Sp:=fun vs H Q _=>∃(l4:Addr) (ts:List Addr) (ds:List ar),vs=[.ref l4]/\H l4=some (.lst (ts.map V.ref))/\Doors H ts ds/\ds.length<=9000 /\
 ∀(g:Addr) (ps:List ((Str×List Str)×Addr)) (H':Hp),GoalsAt H' g ps ds->Same H H'->Q (.ref g) H'
theorem cI {K:PySem.W.Frag}{vs:List V}{H:Hp}{Q:VK}{E:XK}(h:ka vs H Q E):cM K { nx:=fun _ H'=>Q .non H',rt:=Q } (aA cS vs) H:=by
 obtain ⟨l4,ts,ds,rfl,h4,hds,hz,k⟩:=h
 refine fun g hg=>?_
 refine ⟨_,rfl,l4,rfl,⟨_,SqL.of (kp h4 hg)⟩,?_⟩
 refine bG (xs:=ts.map V.ref) (fun i σ H'=>∃x y z,σ=[some (.ref l4),some (.ref g),x,y,z]/\∃ps:List ((Str×List Str)×Addr),DL H H' g ps/\H' g=some (.dT (dJ sgk ps))/\ps.length<=i/\(∀x∈ps,H' x.2=some (.lst ((aB (ds.take i) x.1).map V.str)))/\∀d∈ds.take i,(d.a,d.sg)∈ps.map (·.1))
  ⟨_,_,_,rfl,[],⟨by simp,by simp,by simp,hg,by simp,Same.new hg⟩,aa,by simp,by simp,by simp⟩ (fun i σ H' _ ⟨_,_,_,_,_,D,_⟩=>SqL.of (D.same _ _ h4)) ?_ ?_
 ·rintro i x σ H' hi ⟨x2,x3,x4,rfl,ps,D,hg',hlen,hls,hall⟩
  obtain ⟨t,ht,rfl⟩:=bB hi
  obtain ⟨dr,hdr,hat⟩:=Paired.getL hds ht
  have hil:i<ds.length:=(List.getElem?_eq_some_iff.mp hdr).1
  obtain ⟨s,ht2,hs2⟩:=hat.kt (Same.kt D.same)
  refine ⟨t,_,rfl,SqT.of ht2,rfl,_,_,rfl,_,_,rfl,_,_,rfl,rfl,?_⟩
  refine ⟨_,rfl,.inr (.inr (.inl ⟨rfl,.inr ⟨_,hg'⟩⟩)),_,rfl,_,rfl,(by show 2<=sizeLine; decide),fun kt hkt=>⟨(by show 0<=sizeLine; decide),fun nl hnl=>?_⟩⟩
  have S2:Same H' (upd (upd H' kt (.tup [.str dr.a,.ref s])) nl (.lst [])):=(Same.new hkt).trans (Same.new hnl)
  have hkt2:upd (upd H' kt (.tup [.str dr.a,.ref s])) nl (.lst []) kt=some (.tup [.str dr.a,.ref s]):=kp aa hnl
  have hnl2:upd (upd H' kt (.tup [.str dr.a,.ref s])) nl (.lst []) nl=some (.lst []):=aa
  have hnlH':H' nl=none:=(Same.new hkt).free hnl
  generalize upd (upd H' kt (.tup [.str dr.a,.ref s])) nl (.lst [])=H2 at S2 hkt2 hnl2 ⊢
  have htk:TKAt H2 (sgk (dr.a,dr.sg)) (.ref kt):=by
   unfold sgk TKAt
   refine ⟨kt,_,rfl,hkt2,?_⟩
   unfold TKAts
   refine ⟨_,_,rfl,nQ _,?_⟩
   unfold TKAts
   refine ⟨_,_,rfl,SignAt.tk (S2 _ _ hs2),?_⟩
   unfold TKAts
   rfl
  have hlk:(dJ sgk ps).length<sizeLine:=cv (by unfold dJ; rw [List.length_map]; omega)
  have hgo:∀x,aB (ds.take (i+1)) x=aB (ds.take i) x++(if (dr.a,dr.sg)=x then [dr.b] else []):=fun x=>by rw [am hdr,lX]
  have hgl:∀x,(aB (ds.take i) x).length<=9000:=fun x=>by
   unfold aB
   rw [List.length_map]
   refine Nat.le_trans (List.length_filter_le _ _) ?_
   rw [List.length_take]; omega
  refine ⟨g,kt,_,sgk (dr.a,dr.sg),.ref nl,rfl,rfl,S2 _ _ hg',htk,fL _,hlk,fun v hv=>?_,fun hv=>?_⟩
  ·-- there already
   have hmem:(dr.a,dr.sg)∈ps.map (·.1):=by
    refine Classical.byContradiction fun z=>?_
    rw [gF dj z] at hv
    cases hv
   obtain ⟨⟨r,a⟩,hra,er⟩:=List.mem_map.mp hmem
   obtain rfl:r=(dr.a,dr.sg):=er
   rw [bR dj D.nd hra] at hv
   injection hv with hv
   subst hv
   have hla:=S2 _ _ (hls _ hra)
   refine ⟨.inl ⟨rfl,_,SqL.of hla⟩,_,rfl,a,_,_,rfl,rfl,hla,by rw [List.length_map]; exact cv (hgl _),_,_,_,rfl,ps,⟨D.nd,D.na,D.fr,D.frd,D.ned,fun b o q=>?_⟩,?_,by omega,?_,?_⟩
   ·rw [af (ad q (D.fr _ hra))]
    exact S2 _ _ (D.same _ _ q)
   ·rw [af (D.ned _ hra).symm]; exact S2 _ _ hg'
   ·intro x hx
    by_cases c:x.2=a
    ·have ex:=vn D.na hx hra c
     subst ex
     show upd H2 a _ a=_
     rw [aa,hgo,if_pos rfl,List.map_append]; rfl
    ·have hne:¬((dr.a,dr.sg)=x.1):=fun z=>by
      have e1:=bR (e:=sgk) dj D.nd hra
      have e2:=bR (e:=sgk) (i:=x.1) (a:=x.2) dj D.nd hx
      rw [<-z,e1] at e2
      injection e2 with e2
      injection e2 with e2
      exact c e2.symm
     rw [af c,hgo,if_neg hne,List.append_nil]
     exact S2 _ _ (hls x hx)
   ·intro d hd
    rw [am hdr] at hd
    rcases List.mem_append.mp hd with hd | hd
    ·exact hall d hd
    ·have:d=dr:=by simpa using hd
     rw [this]; exact hmem
  ·-- a new list
   have hnew:(dr.a,dr.sg)∉ps.map (·.1):=by
    intro z
    obtain ⟨⟨r,a⟩,hra,er⟩:=List.mem_map.mp z
    obtain rfl:r=(dr.a,dr.sg):=er
    rw [bR dj D.nd hra] at hv
    cases hv
   have hgne:nl≠g:=(ad hg' hnlH').symm
   have hnl3:upd H2 g (.dT (dJ sgk ps++[(sgk (dr.a,dr.sg),.ref nl)])) nl=some (.lst []):=by rw [af hgne]; exact hnl2
   refine ⟨.inl ⟨rfl,_,SqL.of hnl3⟩,_,rfl,nl,_,_,rfl,rfl,hnl3,(by show 0<sizeLine; decide),_,_,_,rfl,ps++[((dr.a,dr.sg),nl)],?_,?_,?_,?_,?_⟩
   ·refine D.snoc hnew (fun x hx=>ad (hls x hx) hnlH') (D.same.free hnlH') hgne ?_
    intro b o q
    rw [af (ad q (D.same.free hnlH')),af (ad q hg)]
    exact S2 _ _ (D.same _ _ q)
   ·rw [af hgne.symm,aa,lS]
   ·rw [List.length_append]; show _+1<=_; omega
   ·intro x hx
    rcases List.mem_append.mp hx with hx | hx
    ·have hne:¬((dr.a,dr.sg)=x.1):=fun z=>hnew (by rw [z]; exact List.mem_map.mpr ⟨x,hx,rfl⟩)
     rw [af (ad (hls x hx) hnlH'),af (D.ned x hx),hgo,if_neg hne,List.append_nil]
     exact S2 _ _ (hls x hx)
    ·have:x=((dr.a,dr.sg),nl):=by simpa using hx
     subst this
     have hnil:aB (ds.take i) (dr.a,dr.sg)=[]:=fo fun d hd z=>hnew (by rw [<-z]; exact hall d hd)
     show upd _ nl _ nl=_
     rw [aa,hgo,if_pos rfl,hnil]
     rfl
   ·intro d hd
    rw [List.map_append]
    rw [am hdr] at hd
    rcases List.mem_append.mp hd with hd | hd
    ·exact List.mem_append_left _ (hall d hd)
    ·have:d=dr:=by simpa using hd
     rw [this]; exact List.mem_append_right _ (by simp)
 ·rintro σ H' ⟨x2,x3,x4,rfl,ps,D,hg',hlen,hls,hall⟩
  rw [List.length_map,Paired.length hds,List.take_length] at hls hall
  exact ⟨_,rfl,k g ps H' ⟨D.nd,hg',hls,hall⟩ D.same⟩
theorem im:∀{L R:List Str},L.Nodup->(∀y∈L,y∈R)->L.length<=R.length
 | [],_,_,_=>Nat.zero_le _
 | x::L,R,nd,h=>by
  rw [List.nodup_cons] at nd
  have hx:=h x List.mem_cons_self
  have:=im (L:=L) (R:=R.erase x) nd.2 fun y hy=>(List.mem_erase_of_ne (fun e:y=x=>nd.1 (by rw [<-e]; exact hy))).mpr (h y (List.mem_cons_of_mem _ hy))
  rw [List.length_erase_of_mem hx] at this
  have:0<R.length:=List.length_pos_of_mem hx
  rw [List.length_cons]
  omega
theorem Reach.in_ {ds:List ar}{a b:Str}{rooms:List Str}(hr:∀d∈ds,d.b∈rooms) (h:Reach ds a b):b∈rooms:=by
 cases h with
 | one h=>exact hr _ h
 | step r h=>exact hr _ h
def qC:Sp:=fun vs H Q _=>∃(g:Addr) (room:Str) (ps:List ((Str×List Str)×Addr)) (ds:List ar) (rooms:List Str),vs=[.ref g,.str room]/\GoalsAt H g ps ds/\(∀d∈ds,d.b∈rooms)/\rooms.length<=1000 /\
 ∀(d:Addr) (L:List Str) (H':Hp),H' d=some (.dK (av L))->L.Nodup->(∀w,w∈L↔Reach ds room w)->H d=none->Same H H'->Q (.ref d) H'
structure Led (H0 H:Hp) (ds:List ar) (room:Str) (d w:Addr) (L W:List Str) (open_:Str->Prop):Prop where
 d:H d=some (.dK (av L))
 w:H w=some (.lst (W.map V.str))
 same:Same H0 H
 nd:L.Nodup
 sound:∀y∈L,Reach ds room y
 wait:∀y∈W,y=room∨y∈L
 closed:∀y,(y=room∨y∈L)->y∉W->¬open_ y->∀c∈aB ds (y,stillSg),c∈L
theorem iK {K:PySem.W.Frag}{st:Addr}(hst:∀H,SqT K H st (stillSg.map V.str)) {vs:List V}{H:Hp}{Q:VK}{E:XK}(h:qC vs H Q E):jl K st { nx:=fun _ H'=>Q .non H',rt:=Q } (aA jv vs) H:=by
 obtain ⟨g,room,ps,ds,rooms,rfl,G,hin,hz,k⟩:=h
 refine fun d hd=>?_
 refine ⟨_,rfl,(by show 1<=sizeLine; decide),fun w hw=>?_⟩
 have hwH:H w=none:=(Same.new hd).free hw
 have hdw:d≠w:=ad aa hw
 refine ⟨fun m σ H'=>∃(L W:List Str) (x y:Option V),σ=[some (.ref g),some (.str room),some (.ref d),some (.ref w),x,y]/\Led H H' ds room d w L W (fun _=>False)/\m=2 * (rooms.length-L.length)+W.length/\m<=2 * rooms.length+1,
  ⟨_,[],[room],_,_,rfl,⟨kp aa hw,aa,(Same.new hd).trans (Same.new hw),List.nodup_nil,by simp,by simp,?_⟩,rfl,Nat.le_refl _⟩,?_⟩
 ·intro y hy hn
  rcases hy with rfl | hy
  ·simp at hn
  ·cases hy
 rintro m σ H1 ⟨L,W,x4,x5,rfl,D,rfl,hbound⟩
 have lenL:∀{L':List Str},L'.Nodup->(∀y∈L',Reach ds room y)->L'.length<=rooms.length:=fun nd sd=>im nd fun y hy=>(sd y hy).in_ hin
 refine ⟨_,rfl,.inl ⟨w,_,rfl,.inl (SqL.of D.w),_,_,rfl,rfl,_,rfl,?_⟩⟩
 refine oz (fun hpos=>?_) (fun hpos=>?_)
 ·have hne:W≠[]:=by
   intro z
   rw [z] at hpos
   exact absurd (of_decide_eq_true hpos) (by decide)
  obtain ⟨W',here,rfl⟩:∃W' here,W=W'++[here]:=⟨W.dropLast,W.getLast hne,(List.dropLast_concat_getLast hne).symm⟩
  have hhere:here=room∨here∈L:=D.wait here (by simp)
  refine ⟨fun σ' H'=>∃(L' W2:List Str) (x y:Option V),σ'=[some (.ref g),some (.str room),some (.ref d),some (.ref w),x,y]/\Led H H' ds room d w L' W2 (fun _=>False)/\2 * (rooms.length-L'.length)+W2.length<2 * (rooms.length-L.length)+(W'++[here]).length,
   fun σ' H' ⟨L',W2,x,y,e,D',hm⟩=>⟨_,hm,L',W2,x,y,e,D',rfl,by omega⟩,?_⟩
  have hlast:((W'++[here]).map V.str)[((W'++[here]).map V.str).length-1]?=some (.str here):=by simp
  have hdrop:((W'++[here]).map V.str).dropLast=W'.map V.str:=by rw [List.map_append]; simp
  refine ⟨_,rfl,.inl ⟨rfl,_,SqL.of D.w⟩,w,_,_,rfl,rfl,D.w,hlast,?_⟩
  rw [hdrop]
  have hd1:upd H1 w (.lst (W'.map V.str)) d=some (.dK (av L)):=by rw [af hdw]; exact D.d
  have hw1:upd H1 w (.lst (W'.map V.str)) w=some (.lst (W'.map V.str)):=aa
  have S1:Same H (upd H1 w (.lst (W'.map V.str))):=fun b o q=>by rw [af (ad q hwH)]; exact D.same _ _ q
  generalize upd H1 w (.lst (W'.map V.str))=H2 at hd1 hw1 S1 ⊢
  have G2:=G.same S1
  refine ⟨_,rfl,g,rfl,.inr ⟨_,.inl G2.g⟩,_,rfl,(by show 2<=sizeLine; decide),fun kt hkt=>⟨(by show 0<=sizeLine; decide),fun et het=>⟨bO (dJ sgk ps) (sgk (here,stillSg)),.inr ⟨_,sgk (here,stillSg),kt,.inl ?_,rfl,?_,fL _,rfl⟩,?_⟩⟩⟩
  ·exact kp (kp G2.g hkt) het
  ·unfold sgk mj
   refine ⟨kt,_,rfl,SqT.of (kp aa het),?_⟩
   unfold TKIns
   refine ⟨_,_,rfl,?_,?_⟩
   ·unfold sTK mj; rfl
   unfold TKIns
   refine ⟨_,_,rfl,?_,?_⟩
   ·unfold gTK mj
    refine ⟨st,_,rfl,hst _,?_⟩
    unfold stillSg
    show TKIns K _ [sTK _] [V.str _]
    unfold TKIns
    refine ⟨_,_,rfl,?_,?_⟩
    ·unfold sTK mj; rfl
    unfold TKIns; rfl
   unfold TKIns; rfl
  have S3:Same H2 (upd (upd H2 kt (.tup [.str here,.ref st])) et (.tup [])):=(Same.new hkt).trans (Same.new het)
  have het3:upd (upd H2 kt (.tup [.str here,.ref st])) et (.tup []) et=some (.tup []):=aa
  generalize upd (upd H2 kt (.tup [.str here,.ref st])) et (.tup [])=H3 at S3 het3 ⊢
  have D3:Led H H3 ds room d w L W' (fun y=>y=here):=⟨S3 _ _ hd1,S3 _ _ hw1,S1.trans S3,D.nd,D.sound,fun y hy=>D.wait y (List.mem_append_left _ hy),fun y hy hn ho=>D.closed y hy (fun z=>by rcases List.mem_append.mp z with z | z; exact hn z; exact ho (by simpa using z)) (fun z=>z)⟩
  have hm3:2 * (rooms.length-L.length)+W'.length<2 * (rooms.length-L.length)+(W'++[here]).length:=by rw [List.length_append]; show _<_+(_+1); omega
  have fin:∀(H4:Hp) (L' W2:List Str) (x y:Option V),Led H H4 ds room d w L' W2 (fun y=>y=here)->(∀c∈aB ds (here,stillSg),c∈L')->2 * (rooms.length-L'.length)+W2.length<2 * (rooms.length-L.length)+(W'++[here]).length ->
    ∃(L' W2:List Str) (x' y':Option V),[some (V.ref g),some (.str room),some (.ref d),some (.ref w),x,y]=[some (.ref g),some (.str room),some (.ref d),some (.ref w),x',y']/\Led H H4 ds room d w L' W2 (fun _=>False)/\2 * (rooms.length-L'.length)+W2.length<2 * (rooms.length-L.length)+(W'++[here]).length:=by
   intro H4 L' W2 x y D4 hc hm
   refine ⟨L',W2,x,y,rfl,⟨D4.d,D4.w,D4.same,D4.nd,D4.sound,D4.wait,fun y hy hn _=>?_⟩,hm⟩
   by_cases e:y=here
   ·rw [e]; exact hc
   ·exact D4.closed y hy hn e
  by_cases hmem:(here,stillSg)∈ps.map (·.1)
  ·obtain ⟨⟨r,a⟩,hra,er⟩:=List.mem_map.mp hmem
   obtain rfl:r=(here,stillSg):=er
   rw [bR dj G.nd hra]
   have hla:=G.ls _ hra
   refine ⟨a,rfl,.inl ⟨⟨_,SqL.of ((S1.trans S3) _ _ hla)⟩,?_⟩⟩
   refine bG (xs:=(aB ds (here,stillSg)).map V.str) (fun j σ H'=>∃(L' W2:List Str) (y:Option V),σ=[some (.ref g),some (.str room),some (.ref d),some (.ref w),some (.str here),y]/\Led H H' ds room d w L' W2 (fun y=>y=here)/\(here=room∨here∈L')/\(∀c∈(aB ds (here,stillSg)).take j,c∈L') /\
     2 * (rooms.length-L'.length)+W2.length<2 * (rooms.length-L.length)+(W'++[here]).length)
    ⟨L,W',_,rfl,D3,hhere,by simp,hm3⟩ (fun j σ H' _ ⟨_,_,_,_,D',_⟩=>SqL.of (D'.same _ _ hla)) ?_ ?_
   ·rintro j x σ H4 hj ⟨L',W2,y,rfl,D4,hh,hc,hm⟩
    obtain ⟨goal,hgoal,rfl⟩:=aR hj
    have hedge:(⟨here,stillSg,goal⟩:ar)∈ds:=mem_goalsOf.mp (List.mem_of_getElem? hgoal)
    have hreach:Reach ds room goal:=by
     rcases hh with hh | hh
     ·rw [hh] at hedge; exact .one hedge
     ·exact .step (D4.sound _ hh) hedge
    have hlen':=lenL D4.nd D4.sound
    refine ⟨_,rfl,_,rfl,d,_,rfl,.inl ⟨_,.inr goal,.inl D4.d,rfl,rfl⟩,_,rfl,?_⟩
    rw [bF]
    by_cases c:goal∈L'
    ·rw [decide_eq_true c]
     refine bx ⟨L',W2,_,rfl,D4,hh,?_,hm⟩
     intro c' hc'
     rw [am hgoal] at hc'
     rcases List.mem_append.mp hc' with h | h
     ·exact hc c' h
     ·have:c'=goal:=by simpa using h
      rw [this]; exact c
    ·rw [decide_eq_false c]
     refine cK ?_
     have nd':(L'++[goal]).Nodup:=by
      rw [List.nodup_append]
      refine ⟨D4.nd,by simp,fun a ha b hb e=>?_⟩
      have:b=goal:=by simpa using hb
      exact c (by rw [<-this,<-e]; exact ha)
     have sd':∀y∈L'++[goal],Reach ds room y:=by
      intro y hy
      rcases List.mem_append.mp hy with hy | hy
      ·exact D4.sound y hy
      ·have:y=goal:=by simpa using hy
       rw [this]; exact hreach
     have hlen2:=lenL nd' sd'
     rw [List.length_append] at hlen2
     have hlen3:L'.length+1<=rooms.length:=hlen2
     have hWl:W2.length<=9000:=by omega
     refine ⟨_,rfl,_,rfl,d,_,rfl,.inl ⟨_,.inr goal,D4.d,rfl,ao (Nat.le_trans (eF _) (by omega)),rfl⟩,?_⟩
     have hw5:upd H4 d (.dK (dS (av L') (.inr goal) (.bl true))) w=some (.lst (W2.map V.str)):=by rw [af hdw.symm]; exact D4.w
     refine ⟨_,rfl,.inl ⟨rfl,_,SqL.of hw5⟩,_,rfl,w,_,_,rfl,rfl,hw5,by rw [List.length_map]; exact cv hWl,L'++[goal],W2++[goal],_,rfl,⟨?_,?_,?_,nd',sd',?_,?_⟩,?_,?_,?_⟩
     ·rw [af hdw,aa,be]
     ·rw [aa,List.map_append]; rfl
     ·intro b o q
      rw [af (ad q hwH),af (ad q hd)]
      exact D4.same _ _ q
     ·intro y hy
      rcases List.mem_append.mp hy with hy | hy
      ·rcases D4.wait y hy with h | h
       ·exact .inl h
       ·exact .inr (List.mem_append_left _ h)
      ·exact .inr (List.mem_append_right _ hy)
     ·intro y hy hn ho c' hc'
      have hn1:y∉W2:=fun z=>hn (List.mem_append_left _ z)
      have hyg:y≠goal:=fun z=>hn (List.mem_append_right _ (by simp [z]))
      refine List.mem_append_left _ (D4.closed y ?_ hn1 ho c' hc')
      rcases hy with hy | hy
      ·exact .inl hy
      ·rcases List.mem_append.mp hy with hy | hy
       ·exact .inr hy
       ·exact absurd (by simpa using hy) hyg
     ·rcases hh with h | h
      ·exact .inl h
      ·exact .inr (List.mem_append_left _ h)
     ·intro c' hc'
      rw [am hgoal] at hc'
      rcases List.mem_append.mp hc' with h | h
      ·exact List.mem_append_left _ (hc c' h)
      ·exact List.mem_append_right _ h
     ·rw [List.length_append,List.length_append]
      show 2 * (rooms.length-(L'.length+1))+(W2.length+1)<_
      omega
   ·rintro σ H4 ⟨L',W2,y,rfl,D4,hh,hc,hm⟩
    rw [List.length_map,List.take_length] at hc
    exact fin H4 L' W2 _ _ D4 hc hm
  ·rw [gF dj hmem]
   refine ⟨et,rfl,.inr ⟨⟨_,SqT.of het3⟩,?_⟩⟩
   have hnil:aB ds (here,stillSg)=[]:=fo fun x hx z=>hmem (by rw [<-z]; exact G.all x hx)
   refine rN (xs:=[]) (fun j σ H'=>σ=[some (.ref g),some (.str room),some (.ref d),some (.ref w),some (.str here),x5]/\H'=H3) ⟨rfl,rfl⟩ (fun j σ H' _ ⟨_,e⟩=>by rw [e]; exact SqT.of het3) (fun j x σ H' hj=>by cases hj) ?_
   rintro σ H' ⟨rfl,rfl⟩
   exact fin _ L W' _ _ D3 (by rw [hnil]; simp) hm3
 ·have hnil:W=[]:=by
   cases W with
   | nil=>rfl
   | cons a W=>exact absurd (decide_eq_true (by rw [List.length_map,List.length_cons]; omega)) hpos
  subst hnil
  refine ⟨_,rfl,k d L H1 D.d D.nd (fun w=>⟨D.sound w,fun hr=>?_⟩) hd D.same⟩
  induction hr with
  | one h=>exact D.closed room (.inl rfl) (by simp) (fun z=>z) _ (mem_goalsOf.mpr h)
  | step r h ih=>exact D.closed _ (.inr ih) (by simp) (fun z=>z) _ (mem_goalsOf.mpr h)
def sp_first_led_round:Sp:=fun vs H Q _=>∃(l3 d:Addr) (rooms:List Str) (ps:List (Str×Addr)),vs=[.ref l3,.ref d]/\H l3=some (.lst (rooms.map V.str))/\H d=some (.dK (dJ Sum.inr ps))/\ps.map (·.1)=rooms/\rooms.Nodup /\
 (∀x∈ps,∃L,H x.2=some (.dK (av L))/\x.1∉L)/\∀H',Same H H'->Q .non H'
theorem fN {K:PySem.W.Frag}{vs:List V}{H:Hp}{Q:VK}{E:XK}(h:sp_first_led_round vs H Q E):gj K { nx:=fun _ H'=>Q .non H',rt:=Q } (aA gQ vs) H:=by
 obtain ⟨l3,d,rooms,ps,rfl,h3,hd,hps,nod,hL,k⟩:=h
 refine ⟨_,rfl,l3,rfl,⟨_,SqL.of h3⟩,?_⟩
 refine fX (xs:=rooms.map V.str) (fun i σ H'=>∃x y,σ=[some (.ref l3),some (.ref d),x,y]/\Same H H') ⟨_,_,rfl,Same.refl H⟩ (fun i σ H' _ ⟨_,_,_,S⟩=>SqL.of (S _ _ h3)) ?_ ?_
 ·rintro i x σ H' t hi ⟨x2,x3,rfl,S⟩ ht
  obtain ⟨w,hw,rfl⟩:=aR hi
  refine ⟨t,_,rfl,SqT.of aa,rfl,_,_,rfl,_,_,rfl,rfl,?_⟩
  have S2:Same H (upd H' t (.tup [.int i,.str w])):=S.trans (Same.new ht)
  generalize upd H' t (.tup [.int i,.str w])=H2 at S2 ⊢
  have hmem:w∈ps.map (·.1):=by rw [hps]; exact List.mem_of_getElem? hw
  obtain ⟨⟨r,a⟩,hra,er⟩:=List.mem_map.mp hmem
  obtain rfl:r=w:=er
  obtain ⟨L,hLa,hn⟩:=hL _ hra
  refine ⟨_,rfl,_,rfl,_,rfl,d,.ref a,rfl,.inl ⟨_,.inr r,.inl (S2 _ _ hd),rfl,(bR dZ (by rw [hps]; exact nod) hra).symm⟩,a,_,rfl,.inl ⟨_,.inr r,.inl (S2 _ _ hLa),rfl,rfl⟩,_,rfl,?_⟩
  rw [bF,decide_eq_false hn]
  exact bx ⟨_,_,rfl,S2⟩
 ·rintro σ H' ⟨x,y,rfl,S⟩
  exact k H' S
abbrev lk (f:Str) (fs:List (Str×V)):Option V:=fs.lookup f
def cJ (ds:List ar) (r:Str):Bool:=(aK ds r).all dP
structure MachAt (C:Addr) (H:Hp) (x:Addr) (asks says rooms:List Str) (ds:List ar):Prop where
 at_:∃(dx:Addr) (fs:List (Str×V)) (o1 o2 o3 o4 lv qu sg sl:Addr) (ts:List Addr) (lps:List (Str×Addr)) (gps:List ((Str×List Str)×Addr)) (sps:List (Str×Addr)),
  H x=some (.ins C dx fs)/\lk "is_quiet" fs=none/\lk "goals" fs=none/\lk "led_from" fs=none/\lk "rooms" fs=none /\
  lk "own_asks" fs=some (.ref o1)/\lk "own_says" fs=some (.ref o2)/\lk "own_rooms" fs=some (.ref o3)/\lk "own_doors" fs=some (.ref o4) /\
  lk "leaving" fs=some (.ref lv)/\lk "quiet" fs=some (.ref qu)/\lk "sign_goals" fs=some (.ref sg)/\lk "still_led" fs=some (.ref sl) /\
  Lists H o1 o2 o3 o4 ts asks says rooms ds /\
  lps.map (·.1)=rooms/\H lv=some (.dK (dJ Sum.inr lps))/\(∀x∈lps,∃us,H x.2=some (.lst (us.map V.ref))/\Doors H us (aK ds x.1)) /\
  H qu=some (.dK (av (rooms.filter (cJ ds))))/\GoalsAt H sg gps ds /\
  sps.map (·.1)=rooms/\H sl=some (.dK (dJ Sum.inr sps))/\(∀x∈sps,∃L,H x.2=some (.dK (av L))/\L.Nodup/\∀w,w∈L↔Reach ds x.1 w)
 ok:ModelOk asks says rooms ds
 more:∃(dx:Addr) (fs:List (Str×V)),H x=some (.ins C dx fs)/\lk "asks" fs=none/\lk "says" fs=none/\lk "doors" fs=none/\lk "doors_from" fs=none
theorem bt (f:Str) (v:V):∀fs:List (Str×V),(cf f v fs).length<=fs.length+1
 | []=>Nat.le_refl _
 | (g,x)::r=>by
  unfold cf
  split
  ·exact Nat.le_succ _
  ·rw [List.length_cons,List.length_cons]
   have:=bt f v r
   omega
theorem jJ:∀(ps qs:List (Str×Addr)),((qs++ps).map (·.1)).Nodup->dH (dJ Sum.inr qs) (dJ Sum.inr ps)=dJ Sum.inr (qs++ps)
 | [],qs,_=>by rw [List.append_nil]; rfl
 | p::ps,qs,nd=>by
  show dH (dS (dJ Sum.inr qs) (Sum.inr p.1) (.ref p.2)) (dJ Sum.inr ps)=_
  have e:qs++p::ps=(qs++[p])++ps:=by simp
  rw [e] at nd ⊢
  have hnew:p.1∉qs.map (·.1):=by
   rw [List.map_append,List.map_append,List.nodup_append] at nd
   have:=nd.1
   rw [List.nodup_append] at this
   intro z
   exact this.2.2 _ z _ (by simp) rfl
  rw [eC _ (gF dZ hnew)]
  have:=jJ ps (qs++[p]) nd
  rw [<-this]
  have e2:dJ (Sum.inr:Str->Key) (qs++[p])=dJ Sum.inr qs++[(Sum.inr p.1,V.ref p.2)]:=by
   unfold dJ; rw [List.map_append]; rfl
  rw [e2]
def mR (C:Addr):Sp:=fun vs H Q _=>∃(x dx l1 l2 l3 l4:Addr) (ts:List Addr) (asks says rooms:List Str) (ds:List ar),vs=[.ref x,.ref l1,.ref l2,.ref l3,.ref l4]/\H x=some (.ins C dx [])/\Lists H l1 l2 l3 l4 ts asks says rooms ds/\ModelOk asks says rooms ds /\
 ∀H',MachAt C H' x asks says rooms ds->ExB x H H'->Q .non H'
theorem Lists.exI {H H':Hp}{x C dx:Addr}{fs:List (Str×V)}{l1 l2 l3 l4:Addr}{ts:List Addr}{asks says rooms:List Str}{ds:List ar}(h:Lists H l1 l2 l3 l4 ts asks says rooms ds) (hx:H x=some (.ins C dx fs)) (e:ExB x H H'):Lists H' l1 l2 l3 l4 ts asks says rooms ds:=by
 have ne:∀{b:Addr}{xs:List V},H b=some (.lst xs)->b≠x:=fun hb z=>by rw [z,hx] at hb; cases hb
 exact ⟨e _ _ h.a1 (ne h.a1),e _ _ h.a2 (ne h.a2),e _ _ h.a3 (ne h.a3),e _ _ h.a4 (ne h.a4),h.ds.kt fun b xs hb=>e _ _ hb fun z=>by rw [z,hx] at hb; cases hb⟩
theorem ExB.ktI {H H':Hp}{x C dx:Addr}{fs:List (Str×V)}(e:ExB x H H') (hx:H x=some (.ins C dx fs)):KT0 H H':=fun b xs hb=>e _ _ hb fun z=>by rw [z,hx] at hb; cases hb
theorem ExB.neI {H:Hp}{x C dx:Addr}{fs:List (Str×V)}(hx:H x=some (.ins C dx fs)) {b:Addr}{xs:List V}(hb:H b=some (.lst xs)):b≠x:=fun z=>by rw [z,hx] at hb; cases hb
theorem vm {H:Hp}{x C dx:Addr}{fs:List (Str×V)}(hx:H x=some (.ins C dx fs)) {b:Addr}{kvs:List (Key×V)}(hb:H b=some (.dK kvs)):b≠x:=fun z=>by rw [z,hx] at hb; cases hb
theorem wg {H:Hp}{x C dx:Addr}{fs:List (Str×V)}(hx:H x=some (.ins C dx fs)) {b:Addr}{kvs:List (TK×V)}(hb:H b=some (.dT kvs)):b≠x:=fun z=>by rw [z,hx] at hb; cases hb
structure MC (K:PySem.W.Frag) (C:Addr):Prop where
 cls:Cls K C
 a1:NoAttr K C "own_asks"
 a2:NoAttr K C "own_says"
 a3:NoAttr K C "own_rooms"
 a4:NoAttr K C "own_doors"
 a5:NoAttr K C "leaving"
 a6:NoAttr K C "quiet"
 a7:NoAttr K C "sign_goals"
 a8:NoAttr K C "still_led"
theorem pO {H:Hp}{x C dx:Addr}{fs:List (Str×V)}(f:Str) (y:V) (hx:H x=some (.ins C dx fs)):∃H',H'=upd H x (.ins C dx (cf f y fs))/\H' x=some (.ins C dx (cf f y fs))/\ExB x H H' :=
 ⟨_,rfl,aa,ExB.upd _ _ _⟩
theorem aO {p:Str->Bool}{ws:List Str}{i:Nat}{w:Str}(h:ws[i]?=some w):(ws.take (i+1)).filter p=(ws.take i).filter p++(if p w=true then [w] else []):=by
 rw [am h,List.filter_append]
 congr 1
 by_cases c:p w=true
 ·rw [if_pos c]; simp [c]
 ·rw [if_neg c]; simp [c]
theorem pH (ds:List ar) (r:Str):(aK ds r).length<=ds.length:=List.length_filter_le _ _
theorem ModelOk.sg0 {asks says rooms:List Str}{ds:List ar}(m:ModelOk asks says rooms ds) {r:Str}:∀d∈aK ds r,d.sg≠[]:=by
 intro d hd
 have:=m.good d (List.mem_filter.mp hd).1
 rcases this.sg with ⟨w,_,e⟩ | ⟨w,_,e⟩ | e <;> rw [e] <;> exact List.cons_ne_nil _ _
theorem uW {K:PySem.W.Frag}{C:Addr}(M:MC K C) {vs:List V}{H:Hp}{Q:VK}{E:XK}(h:mR C vs H Q E) :
  fG K sp_need_none sp_first_led_round qC ka (sp_as_keys K) sp_has_asks_alone sp_doors_by_start sp_need_parts { nx:=fun _ H'=>Q .non H',rt:=Q } (aA gf vs) H:=by
 obtain ⟨x,dx,l1,l2,l3,l4,ts,asks,says,rooms,ds,rfl,hx,L,m,k⟩:=h
 have z3:=m.rooms26
 have z4:=m.few
 refine ⟨_,rfl,_,rfl,_,rfl,_,rfl,l1,l2,l3,l4,ts,asks,says,rooms,ds,rfl,L,m,fun H1 S1=>?_⟩
 have hx1:=S1 _ _ hx
 have L1:=L.same S1
 have E1:ExB x H H1:=Same.exB S1
 refine ⟨_,rfl,.inl ⟨l1,_,rfl,.inl (SqL.of L1.a1),fun o1 ho1=>⟨_,rfl,x,C,dx,_,rfl,kp hx1 ho1,M.cls,M.a1,(by show 0<1000; decide),?_⟩⟩⟩
 obtain ⟨H2,e2,hx2,F2⟩:=pO "own_asks" (.ref o1) (kp (x:=.lst (asks.map V.str)) hx1 ho1)
 rw [<-e2]
 have n1:o1≠x:=(ad hx1 ho1).symm
 have f1:=F2 _ _ aa n1
 have E2:ExB x H1 H2:=(ExB.new ho1).trans F2
 have L2':=L1.exI hx1 E2
 have len2:(cf ("own_asks":Str) (.ref o1) []).length<=1:=bt _ _ _
 clear e2 F2
 refine ⟨_,rfl,.inl ⟨l2,_,rfl,.inl (SqL.of L2'.a2),fun o2 ho2=>⟨_,rfl,x,C,dx,_,rfl,kp hx2 ho2,M.cls,M.a2,by omega,?_⟩⟩⟩
 obtain ⟨H3,e3,hx3,F3⟩:=pO "own_says" (.ref o2) (kp (x:=.lst (says.map V.str)) hx2 ho2)
 rw [<-e3]
 have n2:o2≠x:=(ad hx2 ho2).symm
 have f2:=F3 _ _ aa n2
 have E3:ExB x H2 H3:=(ExB.new ho2).trans F3
 have L3:=L2'.exI hx2 E3
 have len3:=bt ("own_says":Str) (.ref o2) (cf ("own_asks":Str) (.ref o1) [])
 clear e3 F3
 refine ⟨_,rfl,.inl ⟨l3,_,rfl,.inl (SqL.of L3.a3),fun o3 ho3=>⟨_,rfl,x,C,dx,_,rfl,kp hx3 ho3,M.cls,M.a3,by omega,?_⟩⟩⟩
 obtain ⟨H4,e4,hx4,F4⟩:=pO "own_rooms" (.ref o3) (kp (x:=.lst (rooms.map V.str)) hx3 ho3)
 rw [<-e4]
 have n3:o3≠x:=(ad hx3 ho3).symm
 have f3:=F4 _ _ aa n3
 have E4:ExB x H3 H4:=(ExB.new ho3).trans F4
 have L4:=L3.exI hx3 E4
 have len4:=bt ("own_rooms":Str) (.ref o3) (cf ("own_says":Str) (.ref o2) (cf ("own_asks":Str) (.ref o1) []))
 clear e4 F4
 refine ⟨_,rfl,.inl ⟨l4,_,rfl,.inl (SqL.of L4.a4),fun o4 ho4=>⟨_,rfl,x,C,dx,_,rfl,kp hx4 ho4,M.cls,M.a4,by omega,?_⟩⟩⟩
 obtain ⟨H5,e5,hx5,F5⟩:=pO "own_doors" (.ref o4) (kp (x:=.lst (ts.map V.ref)) hx4 ho4)
 rw [<-e5]
 have n4:o4≠x:=(ad hx4 ho4).symm
 have f4:=F5 _ _ aa n4
 have E5:ExB x H4 H5:=(ExB.new ho4).trans F5
 have L5:=L4.exI hx4 E5
 generalize hfs4:cf ("own_doors":Str) (.ref o4) (cf ("own_rooms":Str) (.ref o3) (cf ("own_says":Str) (.ref o2) (cf ("own_asks":Str) (.ref o1) [])))=fs4 at hx5
 have len5:fs4.length<=4:=by
  rw [<-hfs4]
  have:=bt ("own_doors":Str) (.ref o4) (cf ("own_rooms":Str) (.ref o3) (cf ("own_says":Str) (.ref o2) (cf ("own_asks":Str) (.ref o1) [])))
  omega
 clear e5 F5
 refine ⟨_,rfl,_,rfl,l3,l4,ts,rooms,ds,rfl,L5.a3,L5.a4,L5.ds,m.okR.1,by omega,by omega,fun d hd=>(m.good d hd).a,fun lv lps H6' hlps flv' hlv' S6=>⟨_,rfl,x,C,dx,fs4,rfl,S6 _ _ hx5,M.cls,M.a5,by omega,?_⟩⟩
 obtain ⟨H6,e6,hx6,F6⟩:=pO "leaving" (.ref lv) (S6 _ _ hx5)
 rw [<-e6]
 have E6:ExB x H5 H6:=(Same.exB S6).trans F6
 have L6:=L5.exI hx5 E6
 have flv:=F6 _ _ flv' (vm (S6 _ _ hx5) flv')
 have hlv:∀y∈lps,∃us,H6 y.2=some (.lst (us.map V.ref))/\Doors H6 us (aK ds y.1):=fun y hy=>by
  obtain ⟨us,g1,g2⟩:=hlv' y hy
  exact ⟨us,F6 _ _ g1 (ExB.neI (S6 _ _ hx5) g1),g2.kt (F6.ktI (S6 _ _ hx5))⟩
 have ndl:(lps.map (·.1)).Nodup:=by rw [hlps]; exact m.okR.1
 have len6:=bt ("leaving":Str) (.ref lv) fs4
 have lk5:lk "leaving" (cf ("leaving":Str) (.ref lv) fs4)=some (.ref lv):=by
  show List.lookup _ _=_
  rw [bv,if_pos rfl]
 clear e6 F6 flv' hlv'
 refine ⟨_,rfl,l3,rfl,⟨_,SqL.of L6.a3⟩,fun f hf=>?_⟩
 refine bf (xs:=rooms.map V.str) (fun i vs H'=>vs=((rooms.take i).filter (cJ ds)).map V.str/\Same H6 H'/\H' f=some (.lst vs)) ⟨rfl,Same.new hf,aa⟩ (fun i vs H' _ ⟨_,S,h'⟩=>⟨h',SqL.of (S _ _ L6.a3)⟩) ?_ ?_
 rotate_left
 ·rintro i vs H' x' hx' hi ⟨rfl,S,f'⟩
  obtain ⟨r,hr,rfl⟩:=aR hx'
  obtain ⟨⟨r',a⟩,hra,er⟩:=List.mem_map.mp (show r∈lps.map (·.1) by rw [hlps]; exact List.mem_of_getElem? hr)
  obtain rfl:r'=r:=er
  obtain ⟨us,hus,hdo⟩:=hlv _ hra
  refine gN ?_
  refine ⟨_,rfl,x,C,dx,_,.ref lv,rfl,S _ _ hx6,M.cls,M.a5,lk5,_,rfl,lv,.ref a,rfl,.inl ⟨_,.inr r',.inl (S _ _ flv),rfl,(bR dZ ndl hra).symm⟩,a,us,aK ds r',rfl,S _ _ hus,hdo.kt (Same.kt S),Nat.le_trans (pH _ _) (by omega),m.sg0,fun H'' S''=>⟨_,rfl,?_⟩⟩
  have hlen:(((rooms.take i).filter (cJ ds)).map V.str).length<sizeLine:=by
   rw [List.length_map]
   refine ao (Nat.le_trans (List.length_filter_le _ _) ?_)
   rw [List.length_take]; omega
  refine oz (fun hq=>?_) (fun hq=>?_)
  ·refine ⟨_,rfl,S'' _ _ f',hlen,nxt hi ⟨?_,?_,aa⟩⟩
   ·rw [aO hr,if_pos (show cJ ds r'=true from hq),List.map_append]; rfl
   ·intro b o q
    rw [af (ad q hf)]
    exact S'' _ _ (S _ _ q)
  ·refine nxt hi ⟨?_,S.trans S'',?_⟩
   ·rw [aO hr,if_neg (show ¬cJ ds r'=true from hq),List.append_nil]
   ·exact S'' _ _ f'
 rintro vs H7' ⟨rfl,S7,f7⟩
 rw [List.length_map,List.take_length] at f7
 refine i7 (ws:=rooms.filter (cJ ds)) (SqL.of f7) (Nat.le_trans (List.length_filter_le _ _) (by omega)) fun qu hqu=>⟨_,rfl,x,C,dx,_,rfl,kp (S7 _ _ hx6) hqu,M.cls,M.a6,by omega,?_⟩
 obtain ⟨H7,e7,hx7,F7⟩:=pO "quiet" (.ref qu) (kp (x:=.dK (av (rooms.filter (cJ ds)))) (S7 _ _ hx6) hqu)
 rw [<-e7]
 have n7:qu≠x:=(ad (S7 _ _ hx6) hqu).symm
 have fqu:=F7 _ _ aa n7
 have E7:ExB x H6 H7:=((Same.exB S7).trans (ExB.new hqu)).trans F7
 have L7:=L6.exI hx6 E7
 have len7:=bt ("quiet":Str) (.ref qu) (cf ("leaving":Str) (.ref lv) fs4)
 clear e7 F7
 refine ⟨_,rfl,l4,ts,ds,rfl,L7.a4,L7.ds,by omega,fun sg gps H8' G' S8=>⟨_,rfl,x,C,dx,_,rfl,S8 _ _ hx7,M.cls,M.a7,by omega,?_⟩⟩
 obtain ⟨H8,e8,hx8,F8⟩:=pO "sign_goals" (.ref sg) (S8 _ _ hx7)
 rw [<-e8]
 have E8:ExB x H7 H8:=(Same.exB S8).trans F8
 have L8:=L7.exI hx7 E8
 have G8:GoalsAt H8 sg gps ds:=⟨G'.nd,F8 _ _ G'.g (wg (S8 _ _ hx7) G'.g),fun y hy=>F8 _ _ (G'.ls y hy) (ExB.neI (S8 _ _ hx7) (G'.ls y hy)),G'.all⟩
 have len8:=bt ("sign_goals":Str) (.ref sg) (cf ("quiet":Str) (.ref qu) (cf ("leaving":Str) (.ref lv) fs4))
 have lk7:lk "sign_goals" (cf ("sign_goals":Str) (.ref sg) (cf ("quiet":Str) (.ref qu) (cf ("leaving":Str) (.ref lv) fs4)))=some (.ref sg):=by
  show List.lookup _ _=_
  rw [bv,if_pos rfl]
 clear e8 F8 G'
 refine ⟨_,rfl,l3,rfl,⟨_,SqL.of L8.a3⟩,fun f2' hf2=>?_⟩
 refine bf (xs:=rooms.map V.str) (fun i vs H'=>∃(us:List Addr) (pl:List (Str×Addr)),vs=us.map V.ref/\Paired (fun t (p:Str×Addr)=>H' t=some (.tup [.str p.1,.ref p.2])) us pl/\pl.map (·.1)=rooms.take i/\(∀p∈pl,∃L,H' p.2=some (.dK (av L))/\L.Nodup/\∀w,w∈L↔Reach ds p.1 w)/\Same H8 H'/\H' f2'=some (.lst vs))
  ⟨[],[],rfl,.nil,rfl,by simp,Same.new hf2,aa⟩ (fun i vs H' _ ⟨_,_,_,_,_,_,S,h'⟩=>⟨h',SqL.of (S _ _ L8.a3)⟩) ?_ ?_
 rotate_left
 ·rintro i vs H' x' hx' hi ⟨us,pl,rfl,hpa,hpl,hle,S,f'⟩
  obtain ⟨r,hr,rfl⟩:=aR hx'
  have hilen:us.length<=150:=by
   rw [Paired.length hpa,<-List.length_map (f:=(·.1)) (as:=pl),hpl,List.length_take]; omega
  refine gN (uG ?_)
  refine ⟨_,rfl,_,rfl,x,C,dx,_,.ref sg,rfl,S _ _ hx8,M.cls,M.a7,lk7,_,rfl,sg,r,gps,ds,rooms,rfl,G8.same S,fun d hd=>(m.good d hd).b,by omega,fun ld Lr H'' hld nd hLr hfr S''=>⟨(by show 2<=sizeLine; decide),fun t ht=>⟨?_,?_,nxt hi ⟨us++[t],pl++[(r,ld)],?_,?_,?_,?_,?_,aa⟩⟩⟩⟩
  ·exact kp (S'' _ _ f') ht
  ·rw [List.length_map]; exact ao (by omega)
  ·rw [List.map_append]; rfl
  ·have KT:KT0 (upd H'' t (.tup [.str r,.ref ld])) (upd (upd H'' t (.tup [.str r,.ref ld])) f2' (.lst (us.map V.ref++[.ref t]))):=dL (kp (S'' _ _ f') ht)
   exact Paired.app (Paired.mapP hpa fun t' p' e=>KT _ _ (kp (S'' _ _ e) ht)) (.cons (KT _ _ aa) .nil)
  ·rw [List.map_append,hpl,am hr]; rfl
  ·have ned:∀{b:Addr}{kvs:List (Key×V)},upd H'' t (.tup [.str r,.ref ld]) b=some (.dK kvs)->b≠f2':=fun hb z=>by rw [z,kp (S'' _ _ f') ht] at hb; cases hb
   intro p hp
   rcases List.mem_append.mp hp with hp | hp
   ·obtain ⟨L0,g1,g2⟩:=hle p hp
    refine ⟨L0,?_,g2⟩
    have:=kp (x:=.tup [.str r,.ref ld]) (S'' _ _ g1) ht
    rw [af (ned this)]; exact this
   ·have:p=(r,ld):=by simpa using hp
    subst this
    refine ⟨Lr,?_,nd,hLr⟩
    have:=kp (x:=.tup [.str r,.ref ld]) hld ht
    rw [af (ned this)]; exact this
  ·intro b o q
   rw [af (ad q hf2)]
   exact kp (S'' _ _ (S _ _ q)) ht
 rintro vs H9' ⟨us,sps,rfl,hpa,hsps,hled,S9,f9⟩
 rw [List.length_map,List.take_length] at hsps
 have nds:(sps.map (·.1)).Nodup:=by rw [hsps]; exact m.okR.1
 refine ⟨f2',us,dJ Sum.inr sps,rfl,SqL.of f9,?_,?_,fun sl hsl=>⟨_,rfl,x,C,dx,_,rfl,kp (S9 _ _ hx8) hsl,M.cls,M.a8,by omega,?_⟩⟩
 ·rw [Paired.length hpa]; unfold dJ; rw [List.length_map]
 ·intro j t kv hj hkv
  obtain ⟨p,hp,e⟩:=Paired.getL hpa hj
  unfold dJ at hkv
  rw [List.getElem?_map,hp] at hkv
  have:=Option.some.inj hkv
  rw [<-this]
  exact e
 have emerge:dH [] (dJ Sum.inr sps)=dJ Sum.inr sps:=jJ sps [] nds
 rw [emerge]
 obtain ⟨H9,e9,hx9,F9⟩:=pO "still_led" (.ref sl) (kp (x:=.dK (dJ Sum.inr sps)) (S9 _ _ hx8) hsl)
 rw [<-e9]
 have n9:sl≠x:=(ad (S9 _ _ hx8) hsl).symm
 have fsl:=F9 _ _ aa n9
 have E9:ExB x H8 H9:=((Same.exB S9).trans (ExB.new hsl)).trans F9
 have L9:=L8.exI hx8 E9
 have hled9:∀p∈sps,∃L,H9 p.2=some (.dK (av L))/\L.Nodup/\∀w,w∈L↔Reach ds p.1 w:=fun p hp=>by
  obtain ⟨L0,g1,g2⟩:=hled p hp
  have g3:=kp (x:=.dK (dJ Sum.inr sps)) g1 hsl
  exact ⟨L0,F9 _ _ g3 (vm (kp (S9 _ _ hx8) hsl) g3),g2⟩
 clear e9 F9
 have lk8:lk "still_led" (cf ("still_led":Str) (.ref sl) (cf ("sign_goals":Str) (.ref sg) (cf ("quiet":Str) (.ref qu) (cf ("leaving":Str) (.ref lv) fs4))))=some (.ref sl):=by
  show List.lookup _ _=_
  rw [bv,if_pos rfl]
 refine ⟨_,rfl,_,rfl,x,C,dx,_,.ref sl,rfl,hx9,M.cls,M.a8,lk8,l3,sl,rooms,sps,rfl,L9.a3,fsl,hsps,m.okR.1,fun p hp=>?_,fun H10 S10=>⟨_,rfl,k H10 ?_ ?_⟩⟩
 ·obtain ⟨L0,g1,g2,g3⟩:=hled9 p hp
  exact ⟨L0,g1,fun z=>m.noround _ ((g3 _).mp z)⟩
 ·have X69:ExB x H6 H9:=(E7.trans E8).trans E9
  have X59:=((E6.trans E7).trans E8).trans E9
  have Y:∀{b:Addr}{o:HO},H9 b=some o->H10 b=some o:=fun h=>S10 _ _ h
  have LL:Lists H5 o1 o2 o3 o4 ts asks says rooms ds:=⟨(E3.trans (E4.trans E5)) _ _ f1 n1,(E4.trans E5) _ _ f2 n2,E5 _ _ f3 n3,f4,L5.ds⟩
  refine ⟨⟨dx,_,o1,o2,o3,o4,lv,qu,sg,sl,ts,lps,gps,sps,Y hx9,?_,?_,?_,?_,?_,?_,?_,?_,?_,?_,?_,lk8,(LL.exI hx5 X59).same S10,hlps,?_,?_,?_,?_,hsps,Y fsl,fun p hp=>?_⟩,m,⟨dx,_,Y hx9,?_,?_,?_,?_⟩⟩
  rotate_right 9
  ·exact Y (X69 _ _ flv (vm hx6 flv))
  ·intro y hy
   obtain ⟨us',g1,g2⟩:=hlv y hy
   exact ⟨us',Y (X69 _ _ g1 (ExB.neI hx6 g1)),(g2.kt (X69.ktI hx6)).kt (Same.kt S10)⟩
  ·exact Y ((E8.trans E9) _ _ fqu n7)
  ·exact GoalsAt.same ⟨G8.nd,E9 _ _ G8.g (wg hx8 G8.g),fun y hy=>E9 _ _ (G8.ls y hy) (ExB.neI hx8 (G8.ls y hy)),G8.all⟩ S10
  ·obtain ⟨L0,g1,g2⟩:=hled9 p hp
   exact ⟨L0,Y g1,g2⟩
  all_goals (show List.lookup _ _=_; subst hfs4; repeat (rw [bv]; first | rw [if_pos rfl] | rw [if_neg (by decide +kernel)]))
  all_goals rfl
 ·exact ((((((((E1.trans E2).trans E3).trans E4).trans E5).trans E6).trans E7).trans E8).trans E9).trans (Same.exB S10)
theorem tU {K:PySem.W.Frag}{a b:Addr}{xs ys:List V}{g:TG}{tb:TS}{D:kL}{σ:L2.St}{H:Hp}(hxy:xs.length=ys.length) (Pv:Nat->L2.St->Hp->Prop) (h0:Pv 0 σ H) (hl:∀i σ H,i<=xs.length->Pv i σ H->SqT K H a xs/\SqT K H b ys)
  (hs:∀i x y σ H p,xs[i]?=some x->ys[i]?=some y->Pv i σ H->H p=none->g (.ref p) σ (upd H p (.tup [x,y])) fun σ2 H2=>tb { D with nx:=Pv (i+1),ct:=Pv (i+1),bk:=D.nx } σ2 H2) (hd:∀σ H,Pv xs.length σ H->D.nx σ H) :
  ∃W:Nat->Nat->L2.St->Hp->Prop,(∃m,W 0 m σ H)/\∀i m σ H,W i m σ H ->
   ((wC K a b).stop i H/\D.nx σ H)∨((wC K a b).go i H/\∃N:L2.St->Hp->Prop,(∀σ' H',N σ' H'->∃m',m'<m/\W (i+1) m' σ' H')/\∀x H',(wC K a b).yld i H x H'->g x σ H' fun σ2 H2=>tb { D with nx:=N,ct:=N,bk:=D.nx } σ2 H2):=by
 refine ⟨fun i m σ H=>m=xs.length-i/\i<=xs.length/\Pv i σ H,⟨xs.length,by simp,Nat.zero_le _,h0⟩,?_⟩
 rintro i m σ H ⟨rfl,hi,p⟩
 obtain ⟨q1,q2⟩:=hl i σ H hi p
 by_cases hlt:i<xs.length
 ·have hlt2:i<ys.length:=by omega
  refine .inr ⟨⟨xs,ys,xs[i],ys[i],q1,q2,by simp [hlt],by simp [hlt2]⟩,Pv (i+1),fun σ' H' p'=>⟨xs.length-(i+1),by omega,rfl,hlt,p'⟩,fun x H' y=>?_⟩
  obtain ⟨t,u,v,rfl,hn,hu,hv,rfl⟩:=y
  exact hs i u v σ H t (hu xs q1) (hv ys q2) p hn
 ·have e:i=xs.length:=by omega
  subst e
  exact .inl ⟨⟨xs,ys,q1,q2,.inl (Nat.le_refl _)⟩,hd σ H p⟩
theorem rW (a b:Str):decide (sDT a=sDT b)=decide (a=b):=by
 by_cases e:a=b
 ·rw [decide_eq_true e,decide_eq_true (by rw [e])]
 ·rw [decide_eq_false e,decide_eq_false (fun z=>e (iI z))]
theorem MachAt.by {C:Addr}{H H':Hp}{x:Addr}{asks says rooms:List Str}{ds:List ar}(h:MachAt C H x asks says rooms ds)
  (hs:∀b ws,H b=some (.lst (List.map V.str ws))->H' b=some (.lst (List.map V.str ws))) (hr:∀b ts,H b=some (.lst (List.map V.ref ts))->H' b=some (.lst (List.map V.ref ts))) (ht:KT0 H H')
  (hd:∀b kvs,H b=some (.dK kvs)->H' b=some (.dK kvs)) (hT:∀b kvs,H b=some (.dT kvs)->H' b=some (.dT kvs)) (hi:∀b C dx fs,H b=some (.ins C dx fs)->H' b=some (.ins C dx fs)):MachAt C H' x asks says rooms ds:=by
 obtain ⟨dx,fs,o1,o2,o3,o4,lv,qu,sg,sl,ts,lps,gps,sps,g1,a1,a2,a3,a4,b1,b2,b3,b4,b5,b6,b7,b8,L,c1,c2,c3,c4,G,d1,d2,d3⟩:=h.at_
 refine ⟨⟨dx,fs,o1,o2,o3,o4,lv,qu,sg,sl,ts,lps,gps,sps,hi _ _ _ _ g1,a1,a2,a3,a4,b1,b2,b3,b4,b5,b6,b7,b8,⟨hs _ _ L.a1,hs _ _ L.a2,hs _ _ L.a3,hr _ _ L.a4,L.ds.kt ht⟩,c1,hd _ _ c2,fun y hy=>?_,hd _ _ c4,⟨G.nd,hT _ _ G.g,fun y hy=>hs _ _ (G.ls y hy),G.all⟩,d1,hd _ _ d2,fun y hy=>?_⟩,h.ok,by obtain ⟨dx,fs,g,r⟩:=h.more; exact ⟨dx,fs,hi _ _ _ _ g,r⟩⟩
 ·obtain ⟨us,e1,e2⟩:=c3 y hy
  exact ⟨us,hr _ _ e1,e2.kt ht⟩
 ·obtain ⟨L0,e1,e2⟩:=d3 y hy
  exact ⟨L0,hd _ _ e1,e2⟩
theorem MachAt.same {C:Addr}{H H':Hp}{x:Addr}{asks says rooms:List Str}{ds:List ar}(h:MachAt C H x asks says rooms ds) (S:Same H H'):MachAt C H' x asks says rooms ds :=
 h.by (fun _ _ e=>S _ _ e) (fun _ _ e=>S _ _ e) (Same.kt S) (fun _ _ e=>S _ _ e) (fun _ _ e=>S _ _ e) (fun _ _ _ _ e=>S _ _ e)
theorem MachAt.ex {C:Addr}{H H':Hp}{x p c:Addr}{asks says rooms:List Str}{ds:List ar}(h:MachAt C H x asks says rooms ds) (hp:Pen H p c) (S:ExB p H H'):MachAt C H' x asks says rooms ds:=by
 obtain ⟨xs,hx⟩:=hp.lst
 exact h.by (fun _ _ e=>S _ _ e (hp.ne_strs e)) (fun _ _ e=>S _ _ e (hp.ne_refs e)) (S.kt hx) (fun _ _ e=>S _ _ e (fun z=>by rw [z,hx] at e; cases e)) (fun _ _ e=>S _ _ e (fun z=>by rw [z,hx] at e; cases e)) (fun _ _ _ _ e=>S _ _ e (fun z=>by rw [z,hx] at e; cases e))
def fg (C:Addr):Sp:=fun vs H Q _=>∃(x:Addr) (w:Str) (asks says rooms:List Str) (ds:List ar),vs=[.ref x,.str w]/\MachAt C H x asks says rooms ds/\Q (.bl (decide (w∈rooms.filter (cJ ds)))) H
theorem m9 {K:PySem.W.Frag}{C:Addr}(M:MC K C) {vs:List V}{H:Hp}{Q:VK}{E:XK}(h:fg C vs H Q E):fF K { nx:=fun _ H'=>Q .non H',rt:=Q } (aA gb vs) H:=by
 obtain ⟨x,w,asks,says,rooms,ds,rfl,h,k⟩:=h
 obtain ⟨dx,fs,o1,o2,o3,o4,lv,qu,sg,sl,ts,lps,gps,sps,g1,a1,a2,a3,a4,b1,b2,b3,b4,b5,b6,b7,b8,L,c1,c2,c3,c4,_⟩:=h.at_
 refine ⟨_,rfl,_,rfl,x,C,dx,fs,.ref qu,rfl,g1,M.cls,M.a6,b6,qu,_,rfl,.inl ⟨_,.inr w,.inl c4,rfl,rfl⟩,?_⟩
 rw [bF]
 exact k
def hushSg:List Str:=[("hush":Str)]
def gy (C:Addr):Sp:=fun vs H Q _=>∃(t l1 l2 l3 l4:Addr) (ts:List Addr) (asks says rooms:List Str) (ds:List ar),vs=[.ref t]/\Told H t l1 l2 l3 l4 ts asks says rooms ds/\ModelOk asks says rooms ds /\
 ∀(x:Addr) (H':Hp),MachAt C H' x asks says rooms ds->Same H H'->Q (.ref x) H'
theorem ph {K:PySem.W.Frag}{C:Addr}{vs:List V}{H:Hp}{Q:VK}{E:XK}(h:gy C vs H Q E):jY K C (mR C) { nx:=fun _ H'=>Q .non H',rt:=Q } (aA kK vs) H:=by
 obtain ⟨t,l1,l2,l3,l4,ts,asks,says,rooms,ds,rfl,T,m,k⟩:=h
 refine ⟨_,rfl,.inr (.inl ⟨t,_,0,_,rfl,rfl,SqT.of T.t,rfl,.inl ⟨l1,_,rfl,.inl (SqL.of T.a1),fun m1 h1=>?_⟩⟩)⟩
 have T1:=T.same (Same.new (o:=.lst (asks.map V.str)) h1)
 refine ⟨_,rfl,.inr (.inl ⟨t,_,1,_,rfl,rfl,SqT.of T1.t,rfl,.inl ⟨l2,_,rfl,.inl (SqL.of T1.a2),fun m2 h2=>?_⟩⟩)⟩
 have T2:=T1.same (Same.new (o:=.lst (says.map V.str)) h2)
 refine ⟨_,rfl,.inr (.inl ⟨t,_,2,_,rfl,rfl,SqT.of T2.t,rfl,.inl ⟨l3,_,rfl,.inl (SqL.of T2.a3),fun m3 h3=>?_⟩⟩)⟩
 have T3:=T2.same (Same.new (o:=.lst (rooms.map V.str)) h3)
 refine ⟨_,rfl,.inr (.inl ⟨t,_,3,_,rfl,rfl,SqT.of T3.t,rfl,.inl ⟨l4,_,rfl,.inl (SqL.of T3.a4),fun m4 h4=>?_⟩⟩)⟩
 have T4:=T3.same (Same.new (o:=.lst (ts.map V.ref)) h4)
 have S4:=(((Same.new (o:=.lst (asks.map V.str)) h1).trans (Same.new (o:=.lst (says.map V.str)) h2)).trans (Same.new (o:=.lst (rooms.map V.str)) h3)).trans (Same.new (o:=.lst (ts.map V.ref)) h4)
 refine fun x dx hx hdx hne=>?_
 have S5:Same H (upd (upd (upd (upd (upd (upd H m1 (.lst (asks.map V.str))) m2 (.lst (says.map V.str))) m3 (.lst (rooms.map V.str))) m4 (.lst (ts.map V.ref))) dx (.own x)) x (.ins C dx [])) :=
  (S4.trans (Same.new hdx)).trans (Same.new (by rw [af hne.symm]; exact hx))
 have hxx:upd (upd (upd (upd (upd H m1 (.lst (asks.map V.str))) m2 (.lst (says.map V.str))) m3 (.lst (rooms.map V.str))) m4 (.lst (ts.map V.ref))) dx (.own x) x=none:=by rw [af hne.symm]; exact hx
 refine ⟨x,dx,m1,m2,m3,m4,ts,asks,says,rooms,ds,rfl,aa,⟨?_,?_,?_,?_,T.ds.kt (Same.kt S5)⟩,m,fun H' M ex=>⟨rfl,k x H' M fun b o q=>?_⟩⟩
 ·exact kp (kp (kp (kp (kp aa h2) h3) h4) hdx) hxx
 ·exact kp (kp (kp (kp aa h3) h4) hdx) hxx
 ·exact kp (kp (kp aa h4) hdx) hxx
 ·exact kp (kp aa hdx) hxx
 ·have hq:=S5 _ _ q
  exact ex _ _ hq (ad (S4.trans (Same.new hdx) _ _ q) hxx)
def dI (ds:List ar):List Str:=(ds.filter fun d=>!dP d).map (·.a)
theorem pp (ds:List ar) (r:Str):cJ ds r=decide (r∉dI ds):=by
 unfold cJ dI aK
 rw [Bool.eq_iff_iff,List.all_eq_true,decide_eq_true_iff]
 constructor
 ·intro h z
  obtain ⟨d,hd,rfl⟩:=List.mem_map.mp z
  rw [List.mem_filter] at hd
  have:=h d (List.mem_filter.mpr ⟨hd.1,decide_eq_true rfl⟩)
  rw [this] at hd
  exact absurd hd.2 (by decide)
 ·intro h d hd
  rw [List.mem_filter] at hd
  cases q:dP d with
  | true=>rfl
  | false =>
   refine absurd (List.mem_map.mpr ⟨d,List.mem_filter.mpr ⟨hd.1,by rw [q]; rfl⟩,?_⟩) h
   exact of_decide_eq_true hd.2
theorem mem_sDT {w:Str}{ws:List Str}:sDT w∈ws.map sDT↔w∈ws:=by
 constructor
 ·intro h
  obtain ⟨x,hx,e⟩:=List.mem_map.mp h
  rw [<-iI e]; exact hx
 ·exact List.mem_map_of_mem
def kW (K:PySem.W.Frag) (C_Machine:Addr) (sp_Machine_rooms:Sp) (sp_Machine_led_from:Sp):TS :=
 aw (bc (jD) (ak 2))
 (aw (eN (bS K (ag 1)) (ak 3) (cZ (tB (eZ K (ag 3) (ag 2))) (aw (gB (ag 2) (ag 3) (tC (.bl true)))
 (eN (bS K (eL C_Machine "led_from" sp_Machine_led_from [] E0 (ag 0) (ac (ag 3) ap))) (ak 4) (gB (ag 2) (ag 4) (tC (.bl true))))) (aU)))
 (aZ (tCB (tz K) (ac (cu 1 [2] (bS K (eL C_Machine "rooms" sp_Machine_rooms [] E0 (ag 0) ap)) (ak 0) (tB (vJ K (ag 0) (ag 1))) (ag 0)) ap))))
def ml:List Str:=["M","rooms","found","room","led"]
def iu (K:PySem.W.Frag) :TS :=
 aZ (tCB (bV K) (ac (h7 K (ag 0) "own_rooms") ap))
def ja:List Str:=["self"]
def fE (K:PySem.W.Frag) :TS :=
 aZ (tCB (bV K) (ac (gZ K (h7 K (ag 0) "still_led") (ag 1) (gk (ap))) ap))
def f_:List Str:=["self","room"]
def iw (K:PySem.W.Frag) :TS :=
 aZ (tCB (bV K) (ac (gZ K (h7 K (ag 0) "sign_goals") (gk (ac (ag 1) (ac (ag 2) ap))) (gk (ap))) ap))
def jb:List Str:=["self","room","sign"]
def jm (K:PySem.W.Frag) :TS :=
 aw (bc (tCB (bV K) (ac (ag 1) ap)) (ak 2))
 (aw (bc (tC (.int 0)) (ak 3))
 (aw (nR (aJ (tOp v3 (ag 3) (tCB (fA K) (ac (ag 2) ap)))) (aw (eN (bS K (ag 0)) (nu K 3 (bw (ak 4) (bw (ak 5) (bw (ak 6) (nv))))) (cZ (vK (aJ (tOp (sI K) (ag 4) (tOp (rIx K) (ag 2) (ag 3)))) (vK (aJ (tOp (sI K) (ag 5) (gk (ac (tC (.str "still")) ap)))) (aJ (tOp (u3 K true) (ag 6) (ag 2))))) (cG (tBM K "list" cP (ag 2) (ac (ag 6) ap))) (aU)))
 (bc (tOp cw (ag 3) (tC (.int 1))) (ak 3))))
 (aZ (ag 2))))
def jw:List Str:=["doors","rooms","found","at","room","sign","other"]
def ik (C:Addr):Sp:=fun vs H Q _=>∃(x:Addr) (asks says rooms:List Str) (ds:List ar),vs=[.ref x]/\MachAt C H x asks says rooms ds/\∀l,H l=none->Q (.ref l) (upd H l (.lst (rooms.map V.str)))
theorem sY {K:PySem.W.Frag}{C:Addr}(M:MC K C) {vs:List V}{H:Hp}{Q:VK}{E:XK}(h:ik C vs H Q E):iu K { nx:=fun _ H'=>Q .non H',rt:=Q } (aA ja vs) H:=by
 obtain ⟨x,asks,says,rooms,ds,rfl,h,k⟩:=h
 obtain ⟨dx,fs,o1,o2,o3,o4,lv,qu,sg,sl,ts,lps,gps,sps,g1,a1,a2,a3,a4,b1,b2,b3,b4,b5,b6,b7,b8,L,_⟩:=h.at_
 exact ⟨_,rfl,x,C,dx,fs,.ref o3,rfl,g1,M.cls,M.a3,b3,.inl ⟨o3,_,rfl,.inl (SqL.of L.a3),k⟩⟩
theorem nk:∀{L:List Str},L.Nodup->(av L).map (fun kv=>kV kv.1)=L.map V.str:=by
 intro L
 refine eA (fun L=>L.Nodup->(av L).map (fun kv=>kV kv.1)=L.map V.str) (fun _=>rfl) (fun ws w ih nd=>?_) L
 rw [List.nodup_append] at nd
 have hn:bO (av ws) (.inr w)=none:=by
  rw [jL,if_neg (fun z=>nd.2.2 w z w (by simp) rfl)]
 show (av (ws++[w])).map _=_
 rw [be,eC _ hn,List.map_append,ih nd.1,List.map_append]
 rfl
def ff (C:Addr):Sp:=fun vs H Q _=>∃(x:Addr) (r:Str) (asks says rooms:List Str) (ds:List ar),vs=[.ref x,.str r]/\MachAt C H x asks says rooms ds/\r∈rooms /\
 ∀(l:Addr) (L:List Str) (H':Hp),H' l=some (.lst (L.map V.str))->L.Nodup->(∀w,w∈L↔Reach ds r w)->H l=none->Same H H'->Q (.ref l) H'
theorem m8 {K:PySem.W.Frag}{C:Addr}(M:MC K C) {vs:List V}{H:Hp}{Q:VK}{E:XK}(h:ff C vs H Q E):fE K { nx:=fun _ H'=>Q .non H',rt:=Q } (aA f_ vs) H:=by
 obtain ⟨x,r,asks,says,rooms,ds,rfl,h,hr,k⟩:=h
 obtain ⟨dx,fs,o1,o2,o3,o4,lv,qu,sg,sl,ts,lps,gps,sps,g1,a1,a2,a3,a4,b1,b2,b3,b4,b5,b6,b7,b8,L,c1,c2,c3,c4,G,d1,d2,d3⟩:=h.at_
 have nod:=h.ok.okR.1
 obtain ⟨⟨r',a⟩,hra,er⟩:=List.mem_map.mp (show r∈sps.map (·.1) by rw [d1]; exact hr)
 obtain rfl:r'=r:=er
 obtain ⟨L0,e1,e2,e3⟩:=d3 _ hra
 refine ⟨_,rfl,x,C,dx,fs,.ref sl,rfl,g1,M.cls,M.a8,b8,sl,rfl,.inl ⟨_,.inl d2⟩,_,rfl,(by show 0<=sizeLine; decide),fun et het=>⟨_,.inl ⟨_,.inr r',.inl (kp d2 het),rfl,rfl⟩,?_⟩⟩
 rw [bR dZ (by rw [d1]; exact nod) hra]
 refine .inr ⟨a,_,rfl,.inl (kp e1 het),fun l hl=>k l L0 _ ?_ e2 e3 ((Same.new het).free hl) ((Same.new het).trans (Same.new hl))⟩
 rw [aa,nk e2]
def fK (C:Addr):Sp:=fun vs H Q _=>∃(x s:Addr) (r:Str) (sg asks says rooms:List Str) (ds:List ar),vs=[.ref x,.str r,.ref s]/\MachAt C H x asks says rooms ds/\H s=some (.tup (sg.map V.str)) /\
 ∀(l:Addr) (H':Hp),H' l=some (.lst ((aB ds (r,sg)).map V.str))->H l=none->Same H H'->Q (.ref l) H'
theorem qI {K:PySem.W.Frag}{C:Addr}(M:MC K C) {vs:List V}{H:Hp}{Q:VK}{E:XK}(h:fK C vs H Q E):iw K { nx:=fun _ H'=>Q .non H',rt:=Q } (aA jb vs) H:=by
 obtain ⟨x,s,r,sgn,asks,says,rooms,ds,rfl,h,hs,k⟩:=h
 obtain ⟨dx,fs,o1,o2,o3,o4,lv,qu,sg,sl,ts,lps,gps,sps,g1,a1,a2,a3,a4,b1,b2,b3,b4,b5,b6,b7,b8,L,c1,c2,c3,c4,G,d1,d2,d3⟩:=h.at_
 have nod:=h.ok.okR.1
 refine ⟨_,rfl,x,C,dx,fs,.ref sg,rfl,g1,M.cls,M.a7,b7,sg,rfl,.inr ⟨_,.inl G.g⟩,_,rfl,_,rfl,(by show 2<=sizeLine; decide),fun kt hkt=>⟨(by show 0<=sizeLine; decide),fun et het=>⟨bO (dJ sgk gps) (sgk (r,sgn)),.inr ⟨_,sgk (r,sgn),kt,.inl (kp (kp G.g hkt) het),rfl,?_,fL _,rfl⟩,?_⟩⟩⟩
 ·refine TKAt.isIn 8 (fL _) ?_
  unfold sgk TKAt
  refine ⟨kt,_,rfl,kp aa het,?_⟩
  unfold TKAts
  refine ⟨_,_,rfl,nQ _,?_⟩
  unfold TKAts
  refine ⟨_,_,rfl,SignAt.tk (kp (kp hs hkt) het),?_⟩
  unfold TKAts
  rfl
 have S2:Same H (upd (upd H kt (.tup [.str r,.ref s])) et (.tup [])):=(Same.new hkt).trans (Same.new het)
 by_cases hmem:(r,sgn)∈gps.map (·.1)
 ·obtain ⟨⟨y,a⟩,hra,er⟩:=List.mem_map.mp hmem
  obtain rfl:y=(r,sgn):=er
  rw [bR dj G.nd hra]
  exact .inl ⟨a,_,rfl,.inl (SqL.of (S2 _ _ (G.ls _ hra))),fun l hl=>k l _ aa (S2.free hl) (S2.trans (Same.new hl))⟩
 ·rw [gF dj hmem]
  have hnil:aB ds (r,sgn)=[]:=fo fun y hy z=>hmem (by rw [<-z]; exact G.all y hy)
  refine .inl ⟨et,[],rfl,.inr (SqT.of aa),fun l hl=>k l _ ?_ (S2.free hl) (S2.trans (Same.new hl))⟩
  rw [hnil]
  exact aa
theorem Reach.trans {ds:List ar}{a b c:Str}(h1:Reach ds a b) (h2:Reach ds b c):Reach ds a c:=by
 induction h2 with
 | one h=>exact .step h1 h
 | step r h ih=>exact .step ih h
def From (ds:List ar) (gs:List Str) (w:Str):Prop:=∃g∈gs,w=g∨Reach ds g w
theorem From.in_ {ds:List ar}{gs rooms:List Str}{w:Str}(hg:∀g∈gs,g∈rooms) (hd:∀d∈ds,d.b∈rooms) (h:From ds gs w):w∈rooms:=by
 obtain ⟨g,h1,rfl | h2⟩:=h
 ·exact hg _ h1
 ·exact h2.in_ hd
def p7 (F:List Str) (w:Str):List Str:=if w∈F then F else F++[w]
theorem nj (F:List Str):∀kv∈av F,kv.2=.bl true:=by
 refine eA (fun F=>∀kv∈av F,kv.2=.bl true) (by intro kv h; cases h) (fun ws w ih=>?_) F
 intro kv hkv
 rw [be] at hkv
 unfold dS at hkv
 split at hkv
 ·obtain ⟨x,hx,rfl⟩:=List.mem_map.mp hkv
  split
  ·rfl
  ·exact ih x hx
 ·rcases List.mem_append.mp hkv with h | h
  ·exact ih kv h
  ·have:kv=(.inr w,.bl true):=by simpa using h
   rw [this]
theorem jM (F:List Str) (w:Str):dS (av F) (.inr w) (.bl true)=av (p7 F w):=by
 unfold p7
 by_cases c:w∈F
 ·rw [if_pos c]
  have h1:((av F).any fun kv=>decide (kv.1=(.inr w:Key)))=true:=by
   rw [eo,bF,decide_eq_true c]
  unfold dS
  rw [if_pos h1]
  have:∀l:List (Key×V),(∀kv∈l,kv.2=.bl true)->l.map (fun kv=>if kv.1=(.inr w:Key) then (kv.1,V.bl true) else kv)=l:=by
   intro l
   induction l with
   | nil=>intro _; rfl
   | cons x l ih =>
    intro h
    rw [List.map_cons,ih fun kv hkv=>h kv (List.mem_cons_of_mem _ hkv)]
    congr 1
    split
    ·rw [<-h x List.mem_cons_self]
    ·rfl
  exact this _ (nj F)
 ·rw [if_neg c,be]
theorem jT {F:List Str}(h:F.Nodup) (w:Str):(p7 F w).Nodup:=by
 unfold p7
 split
 ·exact h
 ·next c =>
  rw [List.nodup_append]
  refine ⟨h,by simp,fun a ha b hb e=>?_⟩
  have:b=w:=by simpa using hb
  exact c (by rw [<-this,<-e]; exact ha)
theorem oj {F:List Str}{w y:Str}:y∈p7 F w↔y∈F∨y=w:=by
 unfold p7
 split
 ·next c=>exact ⟨.inl,fun h=>h.elim id fun e=>by rw [e]; exact c⟩
 ·rw [List.mem_append]; simp
def sp_with_still (C:Addr):Sp:=fun vs H Q _=>∃(x l:Addr) (gs asks says rooms:List Str) (ds:List ar),vs=[.ref x,.ref l]/\MachAt C H x asks says rooms ds/\H l=some (.lst (gs.map V.str))/\(∀g∈gs,g∈rooms) /\
 ∀(t:Addr) (F:List Str) (H':Hp),H' t=some (.tup ((rooms.filter fun r=>decide (r∈F)).map V.str))->(∀w,w∈F↔From ds gs w)->Same H H'->Q (.ref t) H'
theorem kg {K:PySem.W.Frag}{C:Addr}{vs:List V}{H:Hp}{Q:VK}{E:XK}(h:sp_with_still C vs H Q E):kW K C (ik C) (ff C) { nx:=fun _ H'=>Q .non H',rt:=Q } (aA ml vs) H:=by
 obtain ⟨x,l,gs,asks,says,rooms,ds,rfl,M,hl,hg,k⟩:=h
 have hdb:∀d∈ds,d.b∈rooms:=fun d hd=>(M.ok.good d hd).b
 have z3:=M.ok.rooms26
 refine fun d hd=>?_
 refine ⟨_,rfl,l,rfl,⟨_,SqL.of (kp hl hd)⟩,?_⟩
 refine bG (xs:=gs.map V.str) (fun i σ H'=>∃(F:List Str) (x3 x4:Option V),σ=[some (.ref x),some (.ref l),some (.ref d),x3,x4]/\H' d=some (.dK (av F))/\Same H H'/\F.Nodup/\∀w,w∈F↔From ds (gs.take i) w)
  ⟨[],_,_,rfl,aa,Same.new hd,List.nodup_nil,fun w=>⟨fun h=>(by cases h),fun ⟨g,h,_⟩=>(by cases h)⟩⟩ (fun i σ H' _ ⟨_,_,_,_,_,S,_⟩=>SqL.of (S _ _ hl)) ?_ ?_
 ·rintro i y σ H1 hi ⟨F,x3,x4,rfl,hd1,S1,nd,hF⟩
  obtain ⟨r,hr,rfl⟩:=aR hi
  have hrm:r∈rooms:=hg r (List.mem_of_getElem? hr)
  have hsub:∀w∈F,w∈rooms:=fun w hw=>((hF w).mp hw).in_ (fun g hg'=>hg g (List.mem_of_mem_take hg')) hdb
  refine ⟨_,rfl,_,rfl,d,_,rfl,.inl ⟨_,.inr r,.inl hd1,rfl,rfl⟩,_,rfl,?_⟩
  rw [bF]
  have hstep:∀w,From ds (gs.take (i+1)) w↔(From ds (gs.take i) w∨w=r∨Reach ds r w):=by
   intro w
   rw [am hr]
   constructor
   ·rintro ⟨g,hg',h⟩
    rcases List.mem_append.mp hg' with hg' | hg'
    ·exact .inl ⟨g,hg',h⟩
    ·have:g=r:=by simpa using hg'
     subst this
     exact .inr h
   ·rintro (⟨g,hg',h⟩ | h)
    ·exact ⟨g,List.mem_append_left _ hg',h⟩
    ·exact ⟨r,List.mem_append_right _ (by simp),h⟩
  by_cases c:r∈F
  ·rw [decide_eq_true c]
   refine bx ⟨F,_,_,rfl,hd1,S1,nd,fun w=>?_⟩
   rw [hstep,hF]
   refine ⟨.inl,fun h=>h.elim id fun h=>?_⟩
   obtain ⟨g,hg',hgr⟩:=(hF r).mp c
   rcases h with h | h
   ·rw [h]; exact ⟨g,hg',hgr⟩
   ·refine ⟨g,hg',.inr ?_⟩
    rcases hgr with e | hgr
    ·rw [<-e]; exact h
    ·exact hgr.trans h
  ·rw [decide_eq_false c]
   refine cK ?_
   have hlen:∀{F:List Str},F.Nodup->(∀w∈F,w∈rooms)->(av F).length<sizeLine:=fun nd hs=>ao (Nat.le_trans (eF _) (Nat.le_trans (im nd hs) (by omega)))
   refine ⟨_,rfl,_,rfl,d,_,rfl,.inl ⟨_,.inr r,hd1,rfl,hlen nd hsub,rfl⟩,?_⟩
   rw [jM]
   have S2:Same H (upd H1 d (.dK (av (p7 F r)))):=fun b o q=>by rw [af (ad q hd)]; exact S1 _ _ q
   have hd2:upd H1 d (.dK (av (p7 F r))) d=some (.dK (av (p7 F r))):=aa
   generalize upd H1 d (.dK (av (p7 F r)))=H2 at S2 hd2 ⊢
   have M2:=M.same S2
   obtain ⟨dx,fs,o1,o2,o3,o4,lv,qu,sg,sl,ts,lps,gps,sps,g1,a1,a2,a3,a4,_⟩:=M2.at_
   refine ⟨_,rfl,x,dx,fs,rfl,g1,a3,_,rfl,x,r,asks,says,rooms,ds,rfl,M2,hrm,fun ll L H3 hll ndL hL frl S3=>⟨ll,rfl,⟨_,SqL.of hll⟩,?_⟩⟩
   have hd3:=S3 _ _ hd2
   have llH:H ll=none:=S2.free frl
   have lld:ll≠d:=fun z=>by rw [z,hd2] at frl; cases frl
   refine bG (xs:=L.map V.str) (fun j σ H'=>∃(F':List Str) (x4:Option V),σ=[some (.ref x),some (.ref l),some (.ref d),some (.str r),x4]/\H' d=some (.dK (av F'))/\H' ll=some (.lst (L.map V.str))/\Same H H'/\F'.Nodup/\∀w,w∈F'↔(From ds (gs.take i) w∨w=r∨w∈L.take j))
    ⟨p7 F r,_,rfl,hd3,hll,S2.trans S3,jT nd r,fun w=>?_⟩ (fun j σ H' _ ⟨_,_,_,_,h,_⟩=>SqL.of h) ?_ ?_
   ·rw [oj,hF]; simp
   ·rintro j y σ H4 hj ⟨F',x4',rfl,hd4,hll4,S4,nd4,hF4⟩
    obtain ⟨v,hv,rfl⟩:=aR hj
    have hsub4:∀w∈F',w∈rooms:=by
     intro w hw
     rcases (hF4 w).mp hw with h | h | h
     ·exact h.in_ (fun g hg'=>hg g (List.mem_of_mem_take hg')) hdb
     ·rw [h]; exact hrm
     ·exact ((hL w).mp (List.mem_of_mem_take h)).in_ hdb
    refine ⟨_,rfl,_,rfl,d,_,rfl,.inl ⟨_,.inr v,hd4,rfl,hlen nd4 hsub4,rfl⟩,p7 F' v,_,rfl,?_,?_,?_,jT nd4 v,fun w=>?_⟩
    ·rw [aa,jM]
    ·rw [af lld]; exact hll4
    ·intro b o q
     rw [af (ad q hd)]; exact S4 _ _ q
    ·rw [oj,hF4,am hv,List.mem_append]
     simp only [List.mem_singleton]
     constructor
     ·rintro ((h | h | h) | h)
      ·exact .inl h
      ·exact .inr (.inl h)
      ·exact .inr (.inr (.inl h))
      ·exact .inr (.inr (.inr h))
     ·rintro (h | h | h | h)
      ·exact .inl (.inl h)
      ·exact .inl (.inr (.inl h))
      ·exact .inl (.inr (.inr h))
      ·exact .inr h
   ·rintro σ H4 ⟨F',x4',rfl,hd4,hll4,S4,nd4,hF4⟩
    rw [List.length_map,List.take_length] at hF4
    refine ⟨F',_,_,rfl,hd4,S4,nd4,fun w=>?_⟩
    rw [hstep,hF4,hL]
 ·rintro σ H1 ⟨F,x3,x4,rfl,hd1,S1,nd,hF⟩
  rw [List.length_map,List.take_length] at hF
  have M1:=M.same S1
  obtain ⟨dx,fs,o1,o2,o3,o4,lv,qu,sg,sl,ts,lps,gps,sps,g1,a1,a2,a3,a4,_⟩:=M1.at_
  refine ⟨_,rfl,x,dx,fs,rfl,g1,a4,x,asks,says,rooms,ds,rfl,M1,fun rl hrl=>⟨rl,rfl,⟨_,SqL.of aa⟩,fun f hf=>?_⟩⟩
  have S2:Same H (upd H1 rl (.lst (rooms.map V.str))):=S1.trans (Same.new hrl)
  have hd2:upd H1 rl (.lst (rooms.map V.str)) d=some (.dK (av F)):=kp hd1 hrl
  have hrl2:upd H1 rl (.lst (rooms.map V.str)) rl=some (.lst (rooms.map V.str)):=aa
  generalize upd H1 rl (.lst (rooms.map V.str))=H2 at S2 hd2 hrl2 hf ⊢
  refine bf (xs:=rooms.map V.str) (fun i vs H'=>vs=((rooms.take i).filter fun r=>decide (r∈F)).map V.str/\Same H2 H'/\H' f=some (.lst vs)) ⟨rfl,Same.new hf,aa⟩ (fun i vs H' _ ⟨_,S,h'⟩=>⟨h',SqL.of (S _ _ hrl2)⟩) ?_ ?_
  ·rintro vs H' ⟨rfl,S,f'⟩
   rw [List.length_map,List.take_length] at f'
   exact ⟨f,_,rfl,.inl ⟨SqL.of f',fun t ht=>k t F _ aa hF (S2.trans (S.trans (Same.new ht)))⟩⟩
  ·rintro i vs H' x' hx' hi ⟨rfl,S,f'⟩
   obtain ⟨r,hr,rfl⟩:=aR hx'
   refine gN ?_
   refine ⟨_,rfl,_,rfl,d,_,rfl,.inl ⟨_,.inr r,.inl (S _ _ hd2),rfl,rfl⟩,_,rfl,?_⟩
   rw [bF]
   have hlen:(((rooms.take i).filter fun r=>decide (r∈F)).map V.str).length<sizeLine:=by
    rw [List.length_map]
    refine ao (Nat.le_trans (List.length_filter_le _ _) ?_)
    rw [List.length_take]; omega
   refine oz (fun hq=>?_) (fun hq=>?_)
   ·refine ⟨_,rfl,f',hlen,nxt hi ⟨?_,?_,aa⟩⟩
    ·rw [aO hr,if_pos hq,List.map_append]; rfl
    ·intro b o q
     rw [af (ad q hf)]
     exact S _ _ q
   ·refine nxt hi ⟨?_,S,f'⟩
    rw [aO hr,if_neg hq,List.append_nil]
def e_ (K:PySem.W.Frag):Sp:=fun vs H Q _=>∃(l4 l:Addr) (ts:List Addr) (ds:List ar) (gs rooms:List Str),vs=[.ref l4,.ref l]/\H l4=some (.lst (ts.map V.ref))/\Doors H ts ds/\H l=some (.lst (gs.map V.str))/\(∀d∈ds,d.b∈rooms)/\rooms.length<=1000/\gs.length<=1000 /\
 ∀(f:Addr) (F:List Str) (H':Hp),H' f=some (.lst (F.map V.str))->(∀w,w∈F↔From ds gs w)->F.length<=2000->H f=none->Same H H'->Q (.ref f) H'
structure SO (H0 H:Hp) (ds:List ar) (gs:List Str) (f:Addr) (X:List Str):Prop where
 f:H f=some (.lst ((gs++X).map V.str))
 same:Same H0 H
 nd:X.Nodup
 new:∀y∈X,y∉gs
 sound:∀y∈X,From ds gs y
theorem From.step {ds:List ar}{gs:List Str}{a b:Str}(h:From ds gs a) (e:(⟨a,stillSg,b⟩:ar)∈ds):From ds gs b:=by
 obtain ⟨g,hg,rfl | h⟩:=h
 ·exact ⟨_,hg,.inr (.one e)⟩
 ·exact ⟨g,hg,.inr (.step h e)⟩
theorem kE (a b:List Str):decide (gDT a=gDT b)=decide (a=b):=by
 by_cases e:a=b
 ·rw [decide_eq_true e,decide_eq_true (by rw [e])]
 ·rw [decide_eq_false e,decide_eq_false (fun z=>e (rM z))]
theorem mY {K:PySem.W.Frag}{vs:List V}{H:Hp}{Q:VK}{E:XK}(h:e_ K vs H Q E):jm K { nx:=fun _ H'=>Q .non H',rt:=Q } (aA jw vs) H:=by
 obtain ⟨l4,l,ts,ds,gs,rooms,rfl,h4,hds,hl,hin,hz,hz2,k⟩:=h
 refine ⟨_,rfl,.inl ⟨l,_,rfl,.inl (SqL.of hl),fun f hf=>?_⟩⟩
 have lenX:∀{X:List Str},X.Nodup->(∀y∈X,y∉gs)->(∀y∈X,From ds gs y)->X.length<=rooms.length:=fun nd nw sd=>im nd fun y hy=>by
  obtain ⟨g,hg,e | h⟩:=sd y hy
  ·exact absurd (by rw [e]; exact hg) (nw y hy)
  ·exact h.in_ hin
 refine ⟨fun m σ H'=>∃(X:List Str) (at_:Nat) (x y z:Option V),σ=[some (.ref l4),some (.ref l),some (.ref f),some (.int at_),x,y,z]/\SO H H' ds gs f X/\at_<=(gs++X).length/\(∀i y,i<at_->(gs++X)[i]?=some y->∀c,(⟨y,stillSg,c⟩:ar)∈ds->c∈gs++X)/\m=gs.length+rooms.length-at_,
  ⟨_,[],0,_,_,_,rfl,⟨by rw [List.append_nil]; exact aa,Same.new hf,List.nodup_nil,by simp,by simp⟩,Nat.zero_le _,fun i y h=>by omega,rfl⟩,?_⟩
 rintro m σ H1 ⟨X,at_,x4,x5,x6,rfl,D,hat,hcl,rfl⟩
 have hXl:=lenX D.nd D.new D.sound
 refine ⟨_,rfl,_,rfl,.inl ⟨f,_,rfl,.inl (SqL.of D.f),_,_,rfl,rfl,_,rfl,?_⟩⟩
 refine oz (fun hlt=>?_) (fun hlt=>?_)
 ·have hlt':at_<(gs++X).length:=by
   have:=of_decide_eq_true hlt
   rw [List.length_map] at this
   omega
  have hat0:at_<gs.length+rooms.length:=by rw [List.length_append] at hlt'; omega
  generalize hhere:(gs++X)[at_]=here
  have hget:(gs++X)[at_]?=some here:=by rw [<-hhere]; exact List.getElem?_eq_getElem hlt'
  have hfrom:∀{Y:List Str}{y:Str},(∀y∈Y,From ds gs y)->y∈gs++Y->From ds gs y:=fun sd hy=>by
   rcases List.mem_append.mp hy with hy | hy
   ·exact ⟨_,hy,.inl rfl⟩
   ·exact sd _ hy
  refine ⟨fun σ' H'=>∃(X':List Str) (x y z:Option V),σ'=[some (.ref l4),some (.ref l),some (.ref f),some (.int ((at_+1:Nat):Int)),x,y,z]/\SO H H' ds gs f X'/\at_+1<=(gs++X').length/\(∀i y,i<at_+1->(gs++X')[i]?=some y->∀c,(⟨y,stillSg,c⟩:ar)∈ds->c∈gs++X'),
   fun σ' H' ⟨X',x,y,z,e,D',h1,h2⟩=>⟨_,(by omega:gs.length+rooms.length-(at_+1)<gs.length+rooms.length-at_),X',at_+1,x,y,z,e,D',h1,h2,rfl⟩,?_⟩
  refine ⟨_,rfl,l4,rfl,⟨_,SqL.of (D.same _ _ h4)⟩,?_⟩
  refine bG (xs:=ts.map V.ref) (fun j σ H'=>∃(X' Y:List Str) (x y z:Option V),σ=[some (.ref l4),some (.ref l),some (.ref f),some (.int at_),x,y,z]/\X'=X++Y/\SO H H' ds gs f X'/\∀d∈ds.take j,d.a=here->d.sg=stillSg->d.b∈gs++X')
   ⟨X,[],_,_,_,rfl,by simp,D,by simp⟩ (fun j σ H' _ ⟨_,_,_,_,_,_,_,D',_⟩=>SqL.of (D'.same _ _ h4)) ?_ ?_
  ·rintro j y σ H2 hj ⟨X',Y,x4',x5',x6',rfl,rfl,D2,hdone⟩
   obtain ⟨t,ht,rfl⟩:=bB hj
   obtain ⟨dr,hdr,hatd⟩:=Paired.getL hds ht
   obtain ⟨s,ht2,hs2⟩:=hatd.kt (Same.kt D2.same)
   have hmem:=List.mem_of_getElem? hdr
   have hXl2:=lenX D2.nd D2.new D2.sound
   have hget2:(gs++(X++Y))[at_]?=some here:=by
    rw [<-List.append_assoc,List.getElem?_append_left hlt']; exact hget
   refine ⟨t,_,rfl,SqT.of ht2,rfl,_,_,rfl,_,_,rfl,_,_,rfl,rfl,?_⟩
   have nextI:∀(H3:Hp) (X3 Y3:List Str) (q4 q5 q6:Option V),X3=X++Y3->SO H H3 ds gs f X3->(∀y∈X++Y,y∈X3)->(dr.a=here->dr.sg=stillSg->dr.b∈gs++X3) ->
     ∃(X' Y:List Str) (x y z:Option V),[some (.ref l4),some (.ref l),some (.ref f),some (.int at_),q4,q5,q6]=[some (.ref l4),some (.ref l),some (.ref f),some (.int at_),x,y,z]/\X'=X++Y/\SO H H3 ds gs f X'/\∀d∈ds.take (j+1),d.a=here->d.sg=stillSg->d.b∈gs++X':=by
    intro H3 X3 Y3 q4 q5 q6 e D3 hsub hnew
    refine ⟨X3,Y3,q4,q5,q6,rfl,e,D3,fun d hd e1 e2=>?_⟩
    rw [am hdr] at hd
    rcases List.mem_append.mp hd with hd | hd
    ·rcases List.mem_append.mp (hdone d hd e1 e2) with h | h
     ·exact List.mem_append_left _ h
     ·exact List.mem_append_right _ (hsub _ h)
    ·have:d=dr:=by simpa using hd
     subst this
     exact hnew e1 e2
   refine ⟨_,rfl,_,rfl,_,rfl,.inl ⟨f,_,_,_,rfl,rfl,SqL.of D2.f,cE (j:=at_) (by rw [List.getElem?_map,hget2]; rfl),sDT dr.a,sDT here,kF _,kF _,(by show 0<=8; decide),(by show 0<=8; decide),_,rfl,?_⟩⟩
   rw [rW]
   by_cases c1:dr.a=here
   rotate_left
   ·rw [decide_eq_false c1]
    exact bx (bx (nextI H2 _ _ _ _ _ rfl D2 (fun _ h=>h) fun e=>absurd e c1))
   rw [decide_eq_true c1]
   refine cK ?_
   refine ⟨_,rfl,(by show 1<=sizeLine; decide),fun st hst=>⟨gDT dr.sg,gDT stillSg,bb (SqT.of (kp hs2 hst)),bb (SqT.of aa),by rw [bZ]; decide,by rw [bZ]; decide,_,rfl,?_⟩⟩
   rw [kE]
   have D3:SO H (upd H2 st (.tup [.str "still"])) ds gs f (X++Y):=⟨kp D2.f hst,D2.same.trans (Same.new hst),D2.nd,D2.new,D2.sound⟩
   have hstS:H st=none:=D2.same.free hst
   generalize upd H2 st (.tup [.str "still"])=H3 at D3 ⊢
   by_cases c2:dr.sg=stillSg
   rotate_left
   ·rw [decide_eq_false c2]
    exact bx (bx (nextI H3 _ _ _ _ _ rfl D3 (fun _ h=>h) fun _ e=>absurd e c2))
   rw [decide_eq_true c2]
   refine cK ?_
   refine ⟨_,rfl,_,rfl,sDT dr.b,(gs++(X++Y)).map sDT,f,_,kF _,rfl,.inl (SqL.of D3.f),jN _,(by show 0<=8; decide),by rw [dz]; decide,_,rfl,?_⟩
   rw [if_pos rfl]
   by_cases c3:dr.b∈gs++(X++Y)
   ·rw [decide_eq_true (mem_sDT.mpr c3)]
    exact bx (nextI H3 _ _ _ _ _ rfl D3 (fun _ h=>h) fun _ _=>c3)
   rw [decide_eq_false (fun z=>c3 (mem_sDT.mp z))]
   refine cK ?_
   refine ⟨_,rfl,.inl ⟨rfl,_,SqL.of D3.f⟩,_,rfl,f,_,_,rfl,rfl,D3.f,by rw [List.length_map,List.length_append]; exact cv (by omega),?_⟩
   have hedge:(⟨here,stillSg,dr.b⟩:ar)∈ds:=by
    have:dr=⟨here,stillSg,dr.b⟩:=by cases dr; simp only at c1 c2; rw [c1,c2]
    rw [<-this]; exact hmem
   refine nextI _ (X++(Y++[dr.b])) _ _ _ _ rfl ⟨?_,?_,?_,?_,?_⟩ ?_ ?_
   ·rw [aa]
    have:gs++(X++(Y++[dr.b]))=gs++(X++Y)++[dr.b]:=by simp
    rw [this,List.map_append (l₂:=[dr.b])]
    rfl
   ·intro b o q
    rw [af (ad q hf)]; exact D3.same _ _ q
   ·rw [<-List.append_assoc,List.nodup_append]
    refine ⟨D3.nd,by simp,fun a ha b hb e=>?_⟩
    have:b=dr.b:=by simpa using hb
    exact c3 (List.mem_append_right _ (by rw [<-this,<-e]; exact ha))
   ·intro y hy
    rw [<-List.append_assoc] at hy
    rcases List.mem_append.mp hy with hy | hy
    ·exact D3.new y hy
    ·have:y=dr.b:=by simpa using hy
     rw [this]
     exact fun z=>c3 (List.mem_append_left _ z)
   ·intro y hy
    rw [<-List.append_assoc] at hy
    rcases List.mem_append.mp hy with hy | hy
    ·exact D3.sound y hy
    ·have:y=dr.b:=by simpa using hy
     rw [this]
     exact (hfrom D.sound (List.mem_of_getElem? hget)).step hedge
   ·intro y hy
    rw [<-List.append_assoc]
    exact List.mem_append_left _ hy
   ·intro _ _
    exact List.mem_append_right _ (by simp)
  ·rintro σ H2 ⟨X',Y,x4',x5',x6',rfl,rfl,D2,hdone⟩
   rw [List.length_map,Paired.length hds,List.take_length] at hdone
   refine ⟨_,rfl,_,_,rfl,rfl,X++Y,_,_,_,rfl,D2,?_,fun i y hi hy c hc=>?_⟩
   ·rw [<-List.append_assoc,List.length_append]; omega
   ·by_cases e:i=at_
    ·subst e
     rw [<-List.append_assoc,List.getElem?_append_left hlt',hget] at hy
     have:=Option.some.inj hy
     subst this
     exact hdone _ hc rfl rfl
    ·have hi':i<at_:=by omega
     rw [<-List.append_assoc,List.getElem?_append_left (by omega)] at hy
     have:=hcl i y hi' hy c hc
     rw [<-List.append_assoc]
     exact List.mem_append_left _ this
 ·have hend:at_=(gs++X).length:=by
   have:¬(at_<(gs++X).length):=fun z=>hlt (decide_eq_true (by rw [List.length_map]; omega))
   omega
  refine ⟨_,rfl,k f (gs++X) H1 D.f (fun w=>⟨fun hw=>?_,fun hw=>?_⟩) (by rw [List.length_append]; omega) hf D.same⟩
  ·rcases List.mem_append.mp hw with hw | hw
   ·exact ⟨_,hw,.inl rfl⟩
   ·exact D.sound _ hw
  ·have closed:∀y∈gs++X,∀c,(⟨y,stillSg,c⟩:ar)∈ds->c∈gs++X:=fun y hy c hc=>by
    obtain ⟨n,hn⟩:=List.getElem?_of_mem hy
    exact hcl n y (by rw [hend]; exact (List.getElem?_eq_some_iff.mp hn).1) hn c hc
   obtain ⟨g,hg,rfl | h⟩:=hw
   ·exact List.mem_append_left _ hg
   ·induction h with
    | one e=>exact closed _ (List.mem_append_left _ hg) _ e
    | step r e ih=>exact closed _ ih _ e

structure TI (H0:Hp) (p c l:Addr) (asks says rooms:List Str) (m:Nat) (H:Hp):Prop where
 pen:Pen H p c
 ds:∃ts ds,H l=some (.lst (ts.map V.ref))/\Doors H ts ds/\ModelOk asks says rooms ds/\ds.length<=m
 ex:ExB p H0 H
 fr:H0 l=none
 pl:p≠l
 cl:c≠l
section
variable {H0 H H':Hp}{p c l:Addr}{asks says rooms:List Str}{m:Nat}
end
def bg (ds:List ar) (sg:List Str) (face:List Str):List Str:=face.flatMap fun r=>aB ds (r,sg)
theorem kD {ds:List ar}{sg face:List Str}{i:Nat}{r:Str}(h:face[i]?=some r):bg ds sg (face.take (i+1))=bg ds sg (face.take i)++aB ds (r,sg):=by
 unfold bg
 rw [am h,List.flatMap_append]
 simp
theorem iZ (ds:List ar) (x:Str×List Str):(aB ds x).length<=ds.length:=by
 unfold aB
 rw [List.length_map]
 exact List.length_filter_le _ _
theorem g8 (ds:List ar) (sg:List Str):∀face:List Str,(bg ds sg face).length<=face.length * ds.length
 | []=>Nat.zero_le _
 | r::face=>by
  show ((aB ds (r,sg))++bg ds sg face).length<=(face.length+1) * ds.length
  rw [List.length_append,Nat.succ_mul]
  have h1:=iZ ds (r,sg)
  have h2:=g8 ds sg face
  omega
theorem mem_goalsAll {ds:List ar}{sg face:List Str}{b:Str}:b∈bg ds sg face↔∃r∈face,(⟨r,sg,b⟩:ar)∈ds:=by
 unfold bg
 rw [List.mem_flatMap]
 constructor
 ·rintro ⟨r,hr,h⟩
  exact ⟨r,hr,mem_goalsOf.mp h⟩
 ·rintro ⟨r,hr,h⟩
  exact ⟨r,hr,mem_goalsOf.mpr h⟩
def lm (C:Addr):Sp:=fun vs H Q _=>∃(x t s:Addr) (face sg asks says rooms:List Str) (ds:List ar),vs=[.ref x,.ref t,.ref s]/\MachAt C H x asks says rooms ds/\H t=some (.tup (face.map V.str))/\H s=some (.tup (sg.map V.str))/\sg≠hushSg/\face.length<=1000 /\
 ∀(t':Addr) (F:List Str) (H':Hp),H' t'=some (.tup ((rooms.filter fun r=>decide (r∈F)).map V.str))->(∀w,w∈F↔From ds (bg ds sg face) w)->Same H H'->Q (.ref t') H'
theorem lq {K:PySem.W.Frag}{C hu:Addr}(hhu:∀H,SqT K H hu (hushSg.map V.str)) {sp2:Sp}{vs:List V}{H:Hp}{Q:VK}{E:XK}(h:lm C vs H Q E) :
  fD K (sp_with_still C) C (fK C) hu sp2 { nx:=fun _ H'=>Q .non H',rt:=Q } (aA f8 vs) H:=by
 obtain ⟨x,t,s,face,sg,asks,says,rooms,ds,rfl,M,ht,hs,hne,hz,k⟩:=h
 have hdb:∀d∈ds,d.b∈rooms:=fun d hd=>(M.ok.good d hd).b
 have z4:=M.ok.few
 refine ⟨_,rfl,gDT sg,gDT hushSg,bb (SqT.of hs),bb (hhu _),by rw [bZ]; decide,by rw [bZ]; decide,_,rfl,?_⟩
 rw [kE,decide_eq_false hne]
 refine bx ?_
 refine ⟨(by show 0<=sizeLine; decide),fun g hg=>?_⟩
 refine ⟨_,rfl,t,rfl,⟨_,SqT.of (kp ht hg)⟩,?_⟩
 refine rN (xs:=face.map V.str) (fun i σ H'=>∃x4:Option V,σ=[some (.ref x),some (.ref t),some (.ref s),some (.ref g),x4]/\H' g=some (.lst ((bg ds sg (face.take i)).map V.str))/\Same H H')
  ⟨_,rfl,aa,Same.new hg⟩ (fun i σ H' _ ⟨_,_,_,S⟩=>SqT.of (S _ _ ht)) ?_ ?_
 ·rintro i y σ H1 hi ⟨x4,rfl,hg1,S1⟩
  obtain ⟨r,hr,rfl⟩:=aR hi
  have M1:=M.same S1
  obtain ⟨dx,fs,o1,o2,o3,o4,lv,qu,sgA,sl,ts,lps,gps,sps,g1,a1,a2,a3,a4,_⟩:=M1.at_
  refine ⟨_,rfl,.inl ⟨rfl,_,SqL.of hg1⟩,_,rfl,x,dx,fs,rfl,g1,a2,_,rfl,_,rfl,x,s,r,sg,asks,says,rooms,ds,rfl,M1,S1 _ _ hs,fun l H2 hl fr S2=>?_⟩
  have hg2:=S2 _ _ hg1
  have hlen:((bg ds sg (face.take i)).map V.str).length+((aB ds (r,sg)).map V.str).length<=sizeLine:=by
   rw [List.length_map,List.length_map]
   have h1:=g8 ds sg (face.take i)
   have h2:=iZ ds (r,sg)
   have h3:(face.take i).length * ds.length<=1000 * 1000:=Nat.mul_le_mul (by rw [List.length_take]; omega) z4
   have:(1001000:Nat)<=sizeLine:=by decide
   omega
  refine ⟨g,l,_,_,rfl,rfl,hg2,hl,hlen,_,rfl,?_,?_⟩
  ·rw [aa,kD hr,List.map_append]
  ·intro b o q
   rw [af (ad q hg)]
   exact S2 _ _ (S1 _ _ q)
 ·rintro σ H1 ⟨x4,rfl,hg1,S1⟩
  rw [List.length_map,List.take_length] at hg1
  refine ⟨_,rfl,_,rfl,x,g,bg ds sg face,asks,says,rooms,ds,rfl,M.same S1,hg1,fun w hw=>?_,fun t' F H' h1 h2 S2=>k t' F H' h1 h2 (S1.trans S2)⟩
  obtain ⟨r,_,h⟩:=mem_goalsAll.mp hw
  exact hdb _ h
def wB (sg face Fd:List Str) (bsg:List Str) (o:Str):Prop:=(bsg=sg/\o∈face)∨(bsg=stillSg/\o∈Fd)
instance {sg face Fd bsg:List Str}{o:Str}:Decidable (wB sg face Fd bsg o):=by unfold wB; exact inferInstance
theorem g_ {ds:List ar}{i:Nat}{d:ar}{p:ar->Bool}(h:ds[i]?=some d):(ds.take (i+1)).filter p=(ds.take i).filter p++(if p d=true then [d] else []):=by
 rw [am h,List.filter_append]
 congr 1
 by_cases c:p d=true
 ·rw [if_pos c]; simp [c]
 ·rw [if_neg c]; simp [c]

def k6 (K:PySem.W.Frag) (sp_with_still:Sp) (C_Machine:Addr) (sp_Machine_rooms:Sp):TS :=
 aZ (au sp_with_still [] E0 (ac (ag 0) (ac (tSl (tD K) (eL C_Machine "rooms" sp_Machine_rooms [] E0 (ag 0) ap) (cN) (fI (tC (.int 1)))) ap)))
def mq:List Str:=["M"]
def bA (C:Addr):Sp:=fun vs H Q _=>∃(x:Addr) (asks says rooms:List Str) (ds:List ar),vs=[.ref x]/\MachAt C H x asks says rooms ds /\
 ∀(t':Addr) (F:List Str) (H':Hp),H' t'=some (.tup ((rooms.filter fun r=>decide (r∈F)).map V.str))->(∀w,w∈F↔From ds (rooms.take 1) w)->Same H H'->Q (.ref t') H'
theorem kj {K:PySem.W.Frag}{C:Addr}{vs:List V}{H:Hp}{Q:VK}{E:XK}(h:bA C vs H Q E):k6 K (sp_with_still C) C (ik C) { nx:=fun _ H'=>Q .non H',rt:=Q } (aA mq vs) H:=by
 obtain ⟨x,asks,says,rooms,ds,rfl,M,k⟩:=h
 obtain ⟨dx,fs,o1,o2,o3,o4,lv,qu,sgA,sl,ts,lps,gps,sps,g1,a1,a2,a3,a4,_⟩:=M.at_
 have c1:ji (rooms.map V.str) none (some 1)=(rooms.take 1).map V.str:=kG rooms 1
 refine ⟨_,rfl,_,rfl,x,dx,fs,rfl,g1,a4,x,asks,says,rooms,ds,rfl,M,fun rl hrl=>⟨_,rfl,rl,_,rfl,SqL.of aa,fun l hl=>?_⟩⟩
 rw [c1]
 have S:Same H (upd (upd H rl (.lst (rooms.map V.str))) l (.lst ((rooms.take 1).map V.str))):=(Same.new hrl).trans (Same.new hl)
 exact ⟨x,l,rooms.take 1,asks,says,rooms,ds,rfl,M.same S,aa,fun g hg=>List.mem_of_mem_take hg,fun t' F H' h1 h2 S2=>k t' F H' h1 h2 (S.trans S2)⟩
theorem tV {K:PySem.W.Frag}{a b:Addr}{xs ys:List V}{g:TG}{tb:TS}{D:kL}{σ:L2.St}{H:Hp}(hxy:xs.length=ys.length) (Pv:Nat->L2.St->Hp->Prop) (h0:Pv 0 σ H) (hl:∀i σ H,i<=xs.length->Pv i σ H->SqL K H a xs/\SqL K H b ys)
  (hs:∀i x y σ H p,xs[i]?=some x->ys[i]?=some y->Pv i σ H->H p=none->g (.ref p) σ (upd H p (.tup [x,y])) fun σ2 H2=>tb { D with nx:=Pv (i+1),ct:=Pv (i+1),bk:=D.nx } σ2 H2) (hd:∀σ H,Pv xs.length σ H->D.nx σ H) :
  ∃W:Nat->Nat->L2.St->Hp->Prop,(∃m,W 0 m σ H)/\∀i m σ H,W i m σ H ->
   ((Itz K a b).stop i H/\D.nx σ H)∨((Itz K a b).go i H/\∃N:L2.St->Hp->Prop,(∀σ' H',N σ' H'->∃m',m'<m/\W (i+1) m' σ' H')/\∀x H',(Itz K a b).yld i H x H'->g x σ H' fun σ2 H2=>tb { D with nx:=N,ct:=N,bk:=D.nx } σ2 H2):=by
 refine ⟨fun i m σ H=>m=xs.length-i/\i<=xs.length/\Pv i σ H,⟨xs.length,by simp,Nat.zero_le _,h0⟩,?_⟩
 rintro i m σ H ⟨rfl,hi,p⟩
 obtain ⟨q1,q2⟩:=hl i σ H hi p
 by_cases hlt:i<xs.length
 ·have hlt2:i<ys.length:=by omega
  refine .inr ⟨⟨xs,ys,xs[i],ys[i],q1,q2,by simp [hlt],by simp [hlt2]⟩,Pv (i+1),fun σ' H' p'=>⟨xs.length-(i+1),by omega,rfl,hlt,p'⟩,fun x H' y=>?_⟩
  obtain ⟨t,u,v,rfl,hn,hu,hv,rfl⟩:=y
  exact hs i u v σ H t (hu xs q1) (hv ys q2) p hn
 ·have e:i=xs.length:=by omega
  subst e
  exact .inl ⟨⟨xs,ys,q1,q2,.inl (Nat.le_refl _)⟩,hd σ H p⟩
def PairAt (H:Hp) (u:Addr) (d:ar):Prop:=H u=some (.tup [.str d.a,.str d.b])
theorem rX (o:Str) (L:List Str):decide (sDT o∈L.map sDT)=decide (o∈L):=by
 by_cases c:o∈L
 ·rw [decide_eq_true (mem_sDT.mpr c),decide_eq_true c]
 ·rw [decide_eq_false (fun z=>c (mem_sDT.mp z)),decide_eq_false c]
theorem SqT.same {K:PySem.W.Frag}{H H':Hp}{a:Addr}{xs:List V}(S:Same H H') (h:SqT K H a xs):SqT K H' a xs:=by
 rcases h with (h | ⟨o,h⟩) | h
 ·exact .inl (.inl (S _ _ h))
 ·exact .inl (.inr ⟨o,S _ _ h⟩)
 ·exact .inr h
theorem SqL.same {K:PySem.W.Frag}{H H':Hp}{a:Addr}{xs:List V}(S:Same H H') (h:SqL K H a xs):SqL K H' a xs:=by
 rcases h with (h | ⟨o,h⟩) | h
 ·exact .inl (.inl (S _ _ h))
 ·exact .inl (.inr ⟨o,S _ _ h⟩)
 ·exact .inr h
mutual
theorem DIn.same {K:PySem.W.Frag}{H H':Hp}(S:Same H H'):∀{d:DT}{v:V},DIn K H d v->DIn K H' d v
 | .k a,v,h=>by unfold DIn at h ⊢; exact h
 | .t l,v,h=>by
  unfold DIn at h ⊢
  obtain ⟨b,xs,e,q,r⟩:=h
  exact ⟨b,xs,e,SqT.same S q,DIns.same S r⟩
 | .s l,v,h=>by
  unfold DIn at h ⊢
  obtain ⟨b,xs,e,q,r⟩:=h
  exact ⟨b,xs,e,SqL.same S q,DIns.same S r⟩
theorem DIns.same {K:PySem.W.Frag}{H H':Hp}(S:Same H H'):∀{ds:List DT}{vs:List V},DIns K H ds vs->DIns K H' ds vs
 | [],vs,h=>by unfold DIns at h ⊢; exact h
 | d::ds,vs,h=>by
  unfold DIns at h ⊢
  obtain ⟨v,us,e,q,r⟩:=h
  exact ⟨v,us,e,DIn.same S q,DIns.same S r⟩
end
theorem DIns.get {K:PySem.W.Frag}{H:Hp}:∀{ds:List DT}{vs:List V}{i:Nat}{v:V},DIns K H ds vs->vs[i]?=some v->∃d,ds[i]?=some d/\DIn K H d v
 | [],vs,i,v,h,e=>by unfold DIns at h; subst h; simp at e
 | d::ds,vs,i,v,h,e=>by
  unfold DIns at h
  obtain ⟨v',us,rfl,q,r⟩:=h
  cases i with
  | zero=>simp at e; subst e; exact ⟨d,rfl,q⟩
  | succ i =>
   simp at e
   obtain ⟨d',h1,h2⟩:=DIns.get r e
   exact ⟨d',by simpa using h1,h2⟩
theorem DIns.len {K:PySem.W.Frag}{H:Hp}:∀{ds:List DT}{vs:List V},DIns K H ds vs->vs.length=ds.length
 | [],vs,h=>by unfold DIns at h; subst h; rfl
 | d::ds,vs,h=>by
  unfold DIns at h
  obtain ⟨v',us,rfl,q,r⟩:=h
  rw [List.length_cons,List.length_cons,DIns.len r]
theorem de {n:Nat}:∀{ds:List DT}{i:Nat}{d:DT},DT.depths ds<=n->ds[i]?=some d->d.depth<=n
 | [],i,d,_,e=>by simp at e
 | x::ds,i,d,h,e=>by
  have h':max (DT.depth x) (DT.depths ds)<=n:=h
  cases i with
  | zero=>simp at e; subst e; omega
  | succ i=>simp at e; exact de (by omega) e
theorem rT {l:List DT}{n:Nat}(h:(DT.t l).depth<=n+1):DT.depths l<=n:=by
 have:DT.depths l+1<=n+1:=h
 omega
theorem rU {l:List DT}{n:Nat}(h:(DT.s l).depth<=n+1):DT.depths l<=n:=by
 have:DT.depths l+1<=n+1:=h
 omega
theorem t3 {l:List DT}{n:Nat}(h:(DT.t l).depth<=n):1<=n:=by
 have:DT.depths l+1<=n:=h
 omega
theorem t4 {l:List DT}{n:Nat}(h:(DT.s l).depth<=n):1<=n:=by
 have:DT.depths l+1<=n:=h
 omega
def sS (K:PySem.W.Frag) (n:Nat):Sp:=fun vs H Q _=>∃(x y:V) (d e:DT),vs=[x,y]/\DIn K H d x/\DIn K H e y/\d.depth<=n/\e.depth<=n/\∀H',Same H H'->Q (.bl (decide (d=e))) H'
def sT:Sp:=fun vs H Q _=>∃a b:Bool,vs=[.bl a,.bl b]/\Q (.bl (decide (a=b))) H
def gw (K:PySem.W.Frag) (n:Nat):Sp:=fun vs H Q E=>sS K n vs H Q E∨sT vs H Q E
inductive Kd (K:PySem.W.Frag) (H:Hp):DT->V->Prop
 | int (i:Int):Kd K H (.k (.inl i)) (.int i)
 | str (x:Str):Kd K H (.k (.inr x)) (.str x)
 | tup {a:Addr}{xs:List V}{l:List DT}(q:SqT K H a xs) (r:DIns K H l xs):Kd K H (.t l) (.ref a)
 | lst {a:Addr}{xs:List V}{l:List DT}(q:SqL K H a xs) (r:DIns K H l xs):Kd K H (.s l) (.ref a)
theorem DIn.kd {K:PySem.W.Frag}{H:Hp}:∀{d:DT}{v:V},DIn K H d v->Kd K H d v
 | .k (.inl i),v,h=>by unfold DIn at h; subst h; exact .int i
 | .k (.inr x),v,h=>by unfold DIn at h; subst h; exact .str x
 | .t l,v,h=>by
  unfold DIn at h
  obtain ⟨b,xs,rfl,q,r⟩:=h
  exact .tup q r
 | .s l,v,h=>by
  unfold DIn at h
  obtain ⟨b,xs,rfl,q,r⟩:=h
  exact .lst q r
theorem d5 (c:Bool):(!decide (V.bl c=V.bl c))=false:=by rw [decide_eq_true rfl]; rfl
theorem iJ {K:PySem.W.Frag}{sp:Sp}{H:Hp}{Q:VK}{x:V}{b:Addr}{t:Value}(ty:TyX K H (.ref b) t) (hi:PySem.W.kitOne K t (.type "int")=some false) (hs:PySem.W.kitOne K t (.type "str")=some false)
  (k:(aw (cZ (tOr (aJ (tOp rNe (tCB (jt K) (ac (ag 1) (ac (tC (.ty "tuple")) ap))) (tCB (jt K) (ac (ag 0) (ac (tC (.ty "tuple")) ap))))) (aJ (tOp rNe (tCB (jt K) (ac (ag 1) (ac (tC (.ty "list")) ap))) (tCB (jt K) (ac (ag 0) (ac (tC (.ty "list")) ap)))))) (aZ (tC (.bl false))) (aU))
 (aw (cZ (aJ (tOp rNe (tCB (fA K) (ac (ag 0) ap)) (tCB (fA K) (ac (ag 1) ap)))) (aZ (tC (.bl false))) (aU))
 (aw (eN (rG K (ac (ag 0) (ac (ag 1) ap))) (nu K 2 (bw (ak 2) (bw (ak 3) (nv)))) (cZ (uk (tB (au sp [] E0 (ac (ag 2) (ac (ag 3) ap))))) (aZ (tC (.bl false))) (aU)))
 (aZ (tC (.bl true)))))) { nx:=fun _ H'=>Q .non H',rt:=Q } [some x,some (.ref b),none,none] H) :
  jC K sp { nx:=fun _ H'=>Q .non H',rt:=Q } [some x,some (.ref b),none,none] H:=by
 have e1:decide (V.ref b=V.non)=false:=decide_eq_false nofun
 have e2:∀c,decide (V.ref b=V.bl c)=false:=fun c=>decide_eq_false nofun
 refine ⟨_,rfl,_,rfl,?_⟩
 rw [e1]
 refine bx ?_
 refine ⟨_,rfl,_,rfl,_,rfl,?_⟩
 rw [e2]
 refine bx ?_
 refine ⟨_,rfl,_,rfl,_,rfl,?_⟩
 rw [e2]
 refine bx ?_
 refine ⟨_,rfl,.ref b,"int",t,false,rfl,ty,hi,_,rfl,bx ?_⟩
 refine ⟨_,rfl,.ref b,"str",t,false,rfl,ty,hs,_,rfl,bx ?_⟩
 exact k
theorem sX {K:PySem.W.Frag}{n:Nat}(hn:n<=8) {sp:Sp}(hsp:∀m,n=m+1->sp=gw K m) {vs:List V}{H:Hp}{Q:VK}{E:XK}(h:gw K n vs H Q E):jC K sp { nx:=fun _ H'=>Q .non H',rt:=Q } (aA p0 vs) H:=by
 rcases h with h | h
 rotate_left
 ·obtain ⟨a,b,rfl,k⟩:=h
  have e1:decide (V.bl b=V.non)=false:=decide_eq_false nofun
  have e2:∀c,decide (V.bl b=V.bl c)=decide (b=c):=fun c=>by cases b <;> cases c <;> rfl
  have e3:∀c,decide (V.bl a=V.bl c)=decide (a=c):=fun c=>by cases a <;> cases c <;> rfl
  refine ⟨_,rfl,_,rfl,?_⟩
  rw [e1]
  refine bx ?_
  refine ⟨_,rfl,_,rfl,_,rfl,?_⟩
  rw [e2]
  cases b with
  | true =>
   refine cK ?_
   refine ⟨_,rfl,_,rfl,?_⟩
   rw [e3]
   exact k
  | false =>
   refine bx ?_
   refine ⟨_,rfl,_,rfl,_,rfl,?_⟩
   rw [e2]
   refine cK ?_
   refine ⟨_,rfl,_,rfl,?_⟩
   rw [e3]
   exact k
 obtain ⟨x,y,d,e,rfl,hd,he,zd,ze,k⟩:=h
 have k0:=k H (Same.refl H)
 have he':=DIn.kd he
 have hd':=DIn.kd hd
 cases he' with
 | int i =>
  have e1:decide (V.int i=V.non)=false:=decide_eq_false nofun
  have e2:∀c,decide (V.int i=V.bl c)=false:=fun c=>decide_eq_false nofun
  refine ⟨_,rfl,_,rfl,?_⟩
  rw [e1]
  refine bx ?_
  refine ⟨_,rfl,_,rfl,_,rfl,?_⟩
  rw [e2]
  refine bx ?_
  refine ⟨_,rfl,_,rfl,_,rfl,?_⟩
  rw [e2]
  refine bx ?_
  refine ⟨_,rfl,.int i,"int",_,true,rfl,.inl (TyOf.int i),rfl,_,rfl,cK ?_⟩
  cases hd' with
  | int j =>
   refine ⟨_,rfl,.int j,"int",_,true,rfl,.inl (TyOf.int j),rfl,_,rfl,cK ?_⟩
   refine ⟨_,rfl,.int j,"bool",_,false,rfl,.inl (TyOf.int j),rfl,_,rfl,_,rfl,cK ?_⟩
   exact ⟨_,rfl,_,rfl,_,_,hd,he,by omega,by omega,k0⟩
  | str z =>
   refine ⟨_,rfl,.str z,"int",_,false,rfl,.inl (TyOf.str z),rfl,_,rfl,bx ?_⟩
   rw [decide_eq_false nofun] at k0
   exact k0
  | tup q r =>
   refine ⟨_,rfl,.ref _,"int",_,false,rfl,.inr (.inl ⟨_,_,rfl,rfl,q⟩),rfl,_,rfl,bx ?_⟩
   rw [decide_eq_false nofun] at k0
   exact k0
  | lst q r =>
   refine ⟨_,rfl,.ref _,"int",_,false,rfl,.inr (.inr ⟨_,_,rfl,rfl,q⟩),rfl,_,rfl,bx ?_⟩
   rw [decide_eq_false nofun] at k0
   exact k0
 | str b =>
  have e1:decide (V.str b=V.non)=false:=decide_eq_false nofun
  have e2:∀c,decide (V.str b=V.bl c)=false:=fun c=>decide_eq_false nofun
  refine ⟨_,rfl,_,rfl,?_⟩
  rw [e1]
  refine bx ?_
  refine ⟨_,rfl,_,rfl,_,rfl,?_⟩
  rw [e2]
  refine bx ?_
  refine ⟨_,rfl,_,rfl,_,rfl,?_⟩
  rw [e2]
  refine bx ?_
  refine ⟨_,rfl,.str b,"int",_,false,rfl,.inl (TyOf.str b),rfl,_,rfl,bx ?_⟩
  refine ⟨_,rfl,.str b,"str",_,true,rfl,.inl (TyOf.str b),rfl,_,rfl,cK ?_⟩
  cases hd' with
  | int j =>
   refine ⟨_,rfl,.int j,"str",_,false,rfl,.inl (TyOf.int j),rfl,_,rfl,bx ?_⟩
   rw [decide_eq_false nofun] at k0
   exact k0
  | str z =>
   refine ⟨_,rfl,.str z,"str",_,true,rfl,.inl (TyOf.str z),rfl,_,rfl,cK ?_⟩
   exact ⟨_,rfl,_,rfl,_,_,hd,he,by omega,by omega,k0⟩
  | tup q r =>
   refine ⟨_,rfl,.ref _,"str",_,false,rfl,.inr (.inl ⟨_,_,rfl,rfl,q⟩),rfl,_,rfl,bx ?_⟩
   rw [decide_eq_false nofun] at k0
   exact k0
  | lst q r =>
   refine ⟨_,rfl,.ref _,"str",_,false,rfl,.inr (.inr ⟨_,_,rfl,rfl,q⟩),rfl,_,rfl,bx ?_⟩
   rw [decide_eq_false nofun] at k0
   exact k0
 | @tup b ys le qe re =>
  have ty:TyX K H (.ref b) (.type "tuple"):=.inr (.inl ⟨_,_,rfl,rfl,qe⟩)
  refine iJ ty rfl rfl ?_
  have no:∀(t:Value),TyX K H x t->PySem.W.kitOne K t (.type "tuple")=some false->¬d=.t le->(aw (cZ (tOr (aJ (tOp rNe (tCB (jt K) (ac (ag 1) (ac (tC (.ty "tuple")) ap))) (tCB (jt K) (ac (ag 0) (ac (tC (.ty "tuple")) ap))))) (aJ (tOp rNe (tCB (jt K) (ac (ag 1) (ac (tC (.ty "list")) ap))) (tCB (jt K) (ac (ag 0) (ac (tC (.ty "list")) ap)))))) (aZ (tC (.bl false))) (aU))
 (aw (cZ (aJ (tOp rNe (tCB (fA K) (ac (ag 0) ap)) (tCB (fA K) (ac (ag 1) ap)))) (aZ (tC (.bl false))) (aU))
 (aw (eN (rG K (ac (ag 0) (ac (ag 1) ap))) (nu K 2 (bw (ak 2) (bw (ak 3) (nv)))) (cZ (uk (tB (au sp [] E0 (ac (ag 2) (ac (ag 3) ap))))) (aZ (tC (.bl false))) (aU)))
 (aZ (tC (.bl true)))))) { nx:=fun _ H'=>Q .non H',rt:=Q } [some x,some (.ref b),none,none] H:=by
   intro t tx kt ne
   refine ⟨_,rfl,.ref b,"tuple",_,true,rfl,ty,rfl,_,rfl,x,"tuple",t,false,rfl,tx,kt,rfl,_,rfl,?_⟩
   have:(!decide (V.bl true=V.bl false))=true:=rfl
   rw [this]
   refine cK (cK ?_)
   rw [decide_eq_false ne] at k0
   exact k0
  cases hd' with
  | int j=>exact no _ (.inl (TyOf.int j)) rfl nofun
  | str z=>exact no _ (.inl (TyOf.str z)) rfl nofun
  | lst q r=>exact no _ (.inr (.inr ⟨_,_,rfl,rfl,q⟩)) rfl nofun
  | @tup f xs ld qd rd =>
   clear no
   have tyd:TyX K H (.ref f) (.type "tuple"):=.inr (.inl ⟨_,_,rfl,rfl,qd⟩)
   refine ⟨_,rfl,.ref b,"tuple",_,true,rfl,ty,rfl,_,rfl,.ref f,"tuple",_,true,rfl,tyd,rfl,rfl,_,rfl,?_⟩
   rw [d5]
   refine bx ?_
   refine ⟨_,rfl,.ref b,"list",_,false,rfl,ty,rfl,_,rfl,.ref f,"list",_,false,rfl,tyd,rfl,rfl,_,rfl,?_⟩
   rw [d5]
   refine bx ?_
   refine ⟨_,rfl,.inl ⟨f,_,rfl,.inr qd,_,rfl,.inl ⟨b,_,rfl,.inr qe,rfl,_,rfl,?_⟩⟩⟩
   by_cases hl:xs.length=ys.length
   rotate_left
   ·have en:(!decide (V.int (xs.length:Nat)=V.int (ys.length:Nat)))=true:=by
     rw [decide_eq_false (fun z=>hl (by injection z with z; omega))]; rfl
    rw [en]
    refine cK ?_
    rw [decide_eq_false (fun z=>hl (by rw [DIns.len rd,DIns.len re]; injection z with z; rw [z]))] at k0
    exact k0
   have en:(!decide (V.int (xs.length:Nat)=V.int (ys.length:Nat)))=false:=by
    rw [decide_eq_true (by rw [hl])]; rfl
   rw [en]
   refine bx ?_
   obtain ⟨m,rfl⟩:∃m,n=m+1:=⟨n-1,by have:=t3 zd; omega⟩
   obtain rfl:=hsp m rfl
   refine ⟨_,rfl,_,rfl,f,b,rfl,.inr ⟨⟨_,qd⟩,⟨_,qe⟩,?_⟩⟩
   refine tU (xs:=xs) (ys:=ys) hl (fun i σ H'=>∃x y,σ=[some (.ref f),some (.ref b),x,y]/\Same H H'/\ld.take i=le.take i)
    ⟨_,_,rfl,Same.refl H,rfl⟩ (fun i σ H' _ ⟨_,_,_,S,_⟩=>⟨SqT.same S qd,SqT.same S qe⟩) ?_ ?_
   ·rintro i x y σ H' p hx hy ⟨x2,x3,rfl,S,ht⟩ hp
    obtain ⟨du,hdu,du'⟩:=DIns.get rd hx
    obtain ⟨eu,heu,eu'⟩:=DIns.get re hy
    have S':=S.trans (Same.new (o:=.tup [x,y]) hp)
    refine ⟨p,_,rfl,SqT.of aa,rfl,_,_,rfl,_,_,rfl,rfl,?_⟩
    refine ⟨_,rfl,_,rfl,.inl ⟨x,y,du,eu,rfl,DIn.same S' du',DIn.same S' eu',de (rT zd) hdu,de (rT ze) heu,fun H'' S''=>⟨_,rfl,?_⟩⟩⟩
    by_cases c:du=eu
    ·rw [decide_eq_true c]
     refine bx ⟨_,_,rfl,S'.trans S'',?_⟩
     rw [am hdu,am heu,ht,c]
    ·rw [decide_eq_false c]
     refine cK ?_
     have:=k _ (S'.trans S'')
     rw [decide_eq_false (fun z=>c (by injection z with z; rw [z,heu] at hdu; exact (Option.some.inj hdu).symm))] at this
     exact this
   ·rintro σ H' ⟨x,y,rfl,S,ht⟩
    have:=k _ S
    rw [decide_eq_true (by rw [DIns.len rd,List.take_length,<-DIns.len rd,hl,DIns.len re,List.take_length] at ht; rw [ht])] at this
    exact this
 | @lst b ys le qe re =>
  have ty:TyX K H (.ref b) (.type "list"):=.inr (.inr ⟨_,_,rfl,rfl,qe⟩)
  refine iJ ty rfl rfl ?_
  have no:∀(t:Value),TyX K H x t->PySem.W.kitOne K t (.type "tuple")=some false->PySem.W.kitOne K t (.type "list")=some false->¬d=.s le->(aw (cZ (tOr (aJ (tOp rNe (tCB (jt K) (ac (ag 1) (ac (tC (.ty "tuple")) ap))) (tCB (jt K) (ac (ag 0) (ac (tC (.ty "tuple")) ap))))) (aJ (tOp rNe (tCB (jt K) (ac (ag 1) (ac (tC (.ty "list")) ap))) (tCB (jt K) (ac (ag 0) (ac (tC (.ty "list")) ap)))))) (aZ (tC (.bl false))) (aU))
 (aw (cZ (aJ (tOp rNe (tCB (fA K) (ac (ag 0) ap)) (tCB (fA K) (ac (ag 1) ap)))) (aZ (tC (.bl false))) (aU))
 (aw (eN (rG K (ac (ag 0) (ac (ag 1) ap))) (nu K 2 (bw (ak 2) (bw (ak 3) (nv)))) (cZ (uk (tB (au sp [] E0 (ac (ag 2) (ac (ag 3) ap))))) (aZ (tC (.bl false))) (aU)))
 (aZ (tC (.bl true)))))) { nx:=fun _ H'=>Q .non H',rt:=Q } [some x,some (.ref b),none,none] H:=by
   intro t tx kt kl ne
   refine ⟨_,rfl,.ref b,"tuple",_,false,rfl,ty,rfl,_,rfl,x,"tuple",t,false,rfl,tx,kt,rfl,_,rfl,?_⟩
   rw [d5]
   refine bx ?_
   refine ⟨_,rfl,.ref b,"list",_,true,rfl,ty,rfl,_,rfl,x,"list",t,false,rfl,tx,kl,rfl,_,rfl,?_⟩
   have:(!decide (V.bl true=V.bl false))=true:=rfl
   rw [this]
   refine cK ?_
   rw [decide_eq_false ne] at k0
   exact k0
  cases hd' with
  | int j=>exact no _ (.inl (TyOf.int j)) rfl rfl nofun
  | str z=>exact no _ (.inl (TyOf.str z)) rfl rfl nofun
  | tup q r =>
   refine ⟨_,rfl,.ref b,"tuple",_,false,rfl,ty,rfl,_,rfl,.ref _,"tuple",_,true,rfl,.inr (.inl ⟨_,_,rfl,rfl,q⟩),rfl,rfl,_,rfl,?_⟩
   have:(!decide (V.bl false=V.bl true))=true:=rfl
   rw [this]
   refine cK (cK ?_)
   rw [decide_eq_false nofun] at k0
   exact k0
  | @lst f xs ld qd rd =>
   clear no
   have tyd:TyX K H (.ref f) (.type "list"):=.inr (.inr ⟨_,_,rfl,rfl,qd⟩)
   refine ⟨_,rfl,.ref b,"tuple",_,false,rfl,ty,rfl,_,rfl,.ref f,"tuple",_,false,rfl,tyd,rfl,rfl,_,rfl,?_⟩
   rw [d5]
   refine bx ?_
   refine ⟨_,rfl,.ref b,"list",_,true,rfl,ty,rfl,_,rfl,.ref f,"list",_,true,rfl,tyd,rfl,rfl,_,rfl,?_⟩
   rw [d5]
   refine bx ?_
   refine ⟨_,rfl,.inl ⟨f,_,rfl,.inl qd,_,rfl,.inl ⟨b,_,rfl,.inl qe,rfl,_,rfl,?_⟩⟩⟩
   by_cases hl:xs.length=ys.length
   rotate_left
   ·have en:(!decide (V.int (xs.length:Nat)=V.int (ys.length:Nat)))=true:=by
     rw [decide_eq_false (fun z=>hl (by injection z with z; omega))]; rfl
    rw [en]
    refine cK ?_
    rw [decide_eq_false (fun z=>hl (by rw [DIns.len rd,DIns.len re]; injection z with z; rw [z]))] at k0
    exact k0
   have en:(!decide (V.int (xs.length:Nat)=V.int (ys.length:Nat)))=false:=by
    rw [decide_eq_true (by rw [hl])]; rfl
   rw [en]
   refine bx ?_
   obtain ⟨m,rfl⟩:∃m,n=m+1:=⟨n-1,by have:=t4 zd; omega⟩
   obtain rfl:=hsp m rfl
   refine ⟨_,rfl,_,rfl,f,b,rfl,.inl ⟨⟨_,qd⟩,⟨_,qe⟩,?_⟩⟩
   refine tV (xs:=xs) (ys:=ys) hl (fun i σ H'=>∃x y,σ=[some (.ref f),some (.ref b),x,y]/\Same H H'/\ld.take i=le.take i)
    ⟨_,_,rfl,Same.refl H,rfl⟩ (fun i σ H' _ ⟨_,_,_,S,_⟩=>⟨SqL.same S qd,SqL.same S qe⟩) ?_ ?_
   ·rintro i x y σ H' p hx hy ⟨x2,x3,rfl,S,ht⟩ hp
    obtain ⟨du,hdu,du'⟩:=DIns.get rd hx
    obtain ⟨eu,heu,eu'⟩:=DIns.get re hy
    have S':=S.trans (Same.new (o:=.tup [x,y]) hp)
    refine ⟨p,_,rfl,SqT.of aa,rfl,_,_,rfl,_,_,rfl,rfl,?_⟩
    refine ⟨_,rfl,_,rfl,.inl ⟨x,y,du,eu,rfl,DIn.same S' du',DIn.same S' eu',de (rU zd) hdu,de (rU ze) heu,fun H'' S''=>⟨_,rfl,?_⟩⟩⟩
    by_cases c:du=eu
    ·rw [decide_eq_true c]
     refine bx ⟨_,_,rfl,S'.trans S'',?_⟩
     rw [am hdu,am heu,ht,c]
    ·rw [decide_eq_false c]
     refine cK ?_
     have:=k _ (S'.trans S'')
     rw [decide_eq_false (fun z=>c (by injection z with z; rw [z,heu] at hdu; exact (Option.some.inj hdu).symm))] at this
     exact this
   ·rintro σ H' ⟨x,y,rfl,S,ht⟩
    have:=k _ S
    rw [decide_eq_true (by rw [DIns.len rd,List.take_length,<-DIns.len rd,hl,DIns.len re,List.take_length] at ht; rw [ht])] at this
    exact this
def sQ (K:PySem.W.Frag) (sp_law_still_on:Sp):TS :=
 aw (bc (au sp_law_still_on [] E0 (ac (tOp (rIx K) (ag 0) (tC (.int 3))) (ac (ag 1) ap))) (ak 2))
 (aZ (tCB (tz K) (ac (cu 1 [2] (bS K (tOp (rIx K) (ag 0) (tC (.int 2)))) (ak 0) (aJ (tOp (u3 K false) (ag 0) (ag 1))) (ag 0)) ap)))
def ug:List Str:=["told","some","there"]
def jn (K:PySem.W.Frag) :TS :=
 aZ (tOp (sI K) (cu 1 [1] (bS K (tOp (rIx K) (ag 0) (tC (.int 3)))) (ak 0) (vK (aJ (tOp (sI K) (tOp (rIx K) (ag 0) (tC (.int 0))) (ag 1))) (aJ (tOp rNe (tOp (rIx K) (tOp (rIx K) (ag 0) (tC (.int 1))) (tC (.int 0))) (tC (.str "ask"))))) (ag 0)) (gW (ap)))
def jx:List Str:=["told","room"]
def k4 (K:PySem.W.Frag) (sp_law_on:Sp) (sp_law_is_quiet:Sp):TS :=
 aw (cZ (aJ (tOp (sI K) (ag 2) (gk (ac (tC (.str "hush")) ap)))) (aZ (tCB (tz K) (ac (cu 1 [0] (wF K (ag 1)) (ak 0) (tB (au sp_law_is_quiet [] E0 (ac (ag 1) (ac (ag 0) ap)))) (ag 0)) ap))) (aU))
 (aZ (au sp_law_on [] E0 (ac (ag 0) (ac (cu 1 [1,2] (bS K (tOp (rIx K) (ag 0) (tC (.int 3)))) (ak 0) (vK (aJ (tOp (u3 K false) (tOp (rIx K) (ag 0) (tC (.int 0))) (ag 1))) (aJ (tOp (sI K) (tOp (rIx K) (ag 0) (tC (.int 1))) (ag 2)))) (tOp (rIx K) (ag 0) (tC (.int 2)))) ap))))
def mo:List Str:=["told","face","sign"]
def mB (K:PySem.W.Frag) :TS :=
 aZ (tOp ul (tOp ul (cu 1 [] (bS K (tOp (rIx K) (ag 0) (tC (.int 0)))) (ak 0) (mF) (gk (ac (tC (.str "ask")) (ac (ag 0) ap)))) (cu 1 [] (bS K (tOp (rIx K) (ag 0) (tC (.int 1)))) (ak 0) (mF) (gk (ac (tC (.str "say")) (ac (ag 0) ap))))) (gW (ac (gk (ac (tC (.str "hush")) ap)) ap)))
def nI:List Str:=["told"]
open Classical in
noncomputable def closF (rooms:List Str) (ds:List ar) (gs:List Str):List Str:=rooms.filter fun r=>decide (From ds gs r)
open Classical in
theorem kI {rooms F gs:List Str}{ds:List ar}(hF:∀w,w∈F↔From ds gs w):rooms.filter (fun r=>decide (r∈F))=closF rooms ds gs:=by
 unfold closF
 refine List.filter_congr fun r _=>?_
 by_cases c:r∈F
 ·rw [decide_eq_true c,decide_eq_true ((hF r).mp c)]
 ·rw [decide_eq_false c,decide_eq_false fun z=>c ((hF r).mpr z)]
open Classical in
theorem nD {rooms gs gs':List Str}{ds:List ar}(h:∀g,g∈gs↔g∈gs'):closF rooms ds gs=closF rooms ds gs':=by
 have:∀r,From ds gs r↔From ds gs' r:=fun r=>⟨fun ⟨g,hg,e⟩=>⟨g,(h g).mp hg,e⟩,fun ⟨g,hg,e⟩=>⟨g,(h g).mpr hg,e⟩⟩
 unfold closF
 refine List.filter_congr fun r _=>?_
 by_cases c:From ds gs r
 ·rw [decide_eq_true c,decide_eq_true ((this r).mp c)]
 ·rw [decide_eq_false c,decide_eq_false fun z=>c ((this r).mpr z)]
noncomputable def behF (rooms:List Str) (ds:List ar) (face sg:List Str):List Str:=if sg=hushSg then face.filter (fun r=>decide (r∉dI ds)) else closF rooms ds (bg ds sg face)
theorem tE {rooms:List Str}{ds:List ar}{fc:List Str}(hfc:∀r∈fc,r∈rooms):(fc.filter fun r=>decide (r∈rooms.filter (cJ ds)))=fc.filter fun r=>decide (r∉dI ds):=by
 refine List.filter_congr fun r hr=>?_
 rw [<-pp]
 cases q:cJ ds r with
 | true=>exact decide_eq_true (List.mem_filter.mpr ⟨hfc r hr,q⟩)
 | false=>exact decide_eq_false (fun z=>by rw [(List.mem_filter.mp z).2] at q; cases q)
def mS (K:PySem.W.Frag) (C:Addr):Sp:=fun vs H Q _=>∃(x t s:Addr) (face sg asks says rooms:List Str) (ds:List ar),vs=[.ref x,.ref t,.ref s]/\MachAt C H x asks says rooms ds/\H t=some (.tup (face.map V.str))/\SqT K H s (sg.map V.str)/\(sg=hushSg∨H s=some (.tup (sg.map V.str)))/\(∀r∈face,r∈rooms)/\face.length<=1000 /\
 ∀(t':Addr) (H':Hp),H' t'=some (.tup ((behF rooms ds face sg).map V.str))->Same H H'->Q (.ref t') H'
theorem uX {K:PySem.W.Frag}{C hu:Addr}(hhu:∀H,SqT K H hu (hushSg.map V.str)) {vs:List V}{H:Hp}{Q:VK}{E:XK}(h:mS K C vs H Q E) :
  fD K (sp_with_still C) C (fK C) hu (fg C) { nx:=fun _ H'=>Q .non H',rt:=Q } (aA f8 vs) H:=by
 obtain ⟨x,t,s,face,sg,asks,says,rooms,ds,rfl,M,ht,hs,hor,hsub,hz,k⟩:=h
 by_cases hh:sg=hushSg
 rotate_left
 ·refine lq (E:=E) hhu ⟨x,t,s,face,sg,asks,says,rooms,ds,rfl,M,ht,hor.resolve_left hh,hh,hz,fun t' F H' h1 hF S=>k t' H' ?_ S⟩
  rw [h1,kI hF]
  unfold behF
  rw [if_neg hh]
 subst hh
 refine ⟨_,rfl,gDT hushSg,gDT hushSg,bb hs,bb (hhu _),by rw [bZ]; decide,by rw [bZ]; decide,_,rfl,?_⟩
 rw [decide_eq_true rfl]
 refine cK ?_
 refine ⟨_,rfl,t,rfl,⟨_,SqT.of ht⟩,fun f hf=>?_⟩
 refine oK (xs:=face.map V.str) (fun i vs H'=>vs=((face.take i).filter fun r=>decide (r∈rooms.filter (cJ ds))).map V.str/\Same H H'/\H' f=some (.lst vs)) ⟨rfl,Same.new hf,aa⟩ (fun i vs H' _ ⟨_,S,h'⟩=>⟨h',SqT.of (S _ _ ht)⟩) ?_ ?_
 ·rintro vs H' ⟨rfl,S,f'⟩
  rw [List.length_map,List.take_length] at f'
  refine ⟨f,_,rfl,.inl ⟨SqL.of f',fun t' ht'=>k t' _ ?_ (S.trans (Same.new ht'))⟩⟩
  rw [aa,tE hsub]
  unfold behF
  rw [if_pos rfl]
 ·rintro i vs H' x' hx' hi ⟨rfl,S,f'⟩
  obtain ⟨r,hr,rfl⟩:=aR hx'
  have M':=M.same S
  obtain ⟨dx,fs,o1,o2,o3,o4,lv,qu,sgA,sl,ts,lps,gps,sps,g1,a1,_⟩:=M'.at_
  refine gN ?_
  refine ⟨_,rfl,x,dx,fs,rfl,g1,a1,_,rfl,x,r,asks,says,rooms,ds,rfl,M',_,rfl,?_⟩
  have hlen:(((face.take i).filter fun r=>decide (r∈rooms.filter (cJ ds))).map V.str).length<sizeLine:=by
   rw [List.length_map]
   refine ao (Nat.le_trans (List.length_filter_le _ _) ?_)
   rw [List.length_take]; omega
  refine oz (fun hq=>?_) (fun hq=>?_)
  ·refine ⟨_,rfl,f',hlen,nxt hi ⟨?_,?_,aa⟩⟩
   ·rw [aO hr,if_pos hq,List.map_append]; rfl
   ·intro b o q
    rw [af (ad q hf)]
    exact S _ _ q
  ·refine nxt hi ⟨?_,S,f'⟩
   rw [aO hr,if_neg hq,List.append_nil]
def sU:Sp:=fun vs H Q _=>∃(t l l1 l2 l3 l4:Addr) (ts:List Addr) (asks says rooms gs:List Str) (ds:List ar),vs=[.ref t,.ref l]/\Told H t l1 l2 l3 l4 ts asks says rooms ds/\ModelOk asks says rooms ds/\H l=some (.lst (gs.map V.str))/\gs.length<=1000 /\
 ∀(t':Addr) (H':Hp),H' t'=some (.tup ((closF rooms ds gs).map V.str))->Same H H'->Q (.ref t') H'
theorem wK {K:PySem.W.Frag}{vs:List V}{H:Hp}{Q:VK}{E:XK}(h:sU vs H Q E):sQ K (e_ K) { nx:=fun _ H'=>Q .non H',rt:=Q } (aA ug vs) H:=by
 obtain ⟨t,l,l1,l2,l3,l4,ts,asks,says,rooms,gs,ds,rfl,T,m,hl,hz,k⟩:=h
 have z3:=m.rooms26
 refine ⟨_,rfl,.inr (.inl ⟨t,_,3,_,rfl,rfl,SqT.of T.t,rfl,_,rfl,l4,l,ts,ds,gs,rooms,rfl,T.a4,T.ds,hl,fun d hd=>(m.good d hd).b,by omega,hz,fun th F H1 hth hF hFl fr S1=>?_⟩)⟩
 have T1:=T.same S1
 refine ⟨_,rfl,.inr (.inl ⟨t,_,2,_,rfl,rfl,SqT.of T1.t,rfl,l3,rfl,⟨_,SqL.of T1.a3⟩,fun f hf=>?_⟩)⟩
 refine bf (xs:=rooms.map V.str) (fun i vs H'=>vs=((rooms.take i).filter fun r=>decide (r∈F)).map V.str/\Same H1 H'/\H' f=some (.lst vs)) ⟨rfl,Same.new hf,aa⟩ (fun i vs H' _ ⟨_,S,h'⟩=>⟨h',SqL.of (S _ _ T1.a3)⟩) ?_ ?_
 ·rintro vs H' ⟨rfl,S,f'⟩
  rw [List.length_map,List.take_length,kI hF] at f'
  exact ⟨f,_,rfl,.inl ⟨SqL.of f',fun t' ht'=>k t' _ aa ((S1.trans S).trans (Same.new ht'))⟩⟩
 ·rintro i vs H' x' hx' hi ⟨rfl,S,f'⟩
  obtain ⟨r,hr,rfl⟩:=aR hx'
  refine gN ?_
  refine ⟨_,rfl,_,rfl,sDT r,F.map sDT,th,_,kF r,rfl,.inl (SqL.of (S _ _ hth)),jN _,(by show 0<=8; decide),by rw [dz]; decide,_,rfl,?_⟩
  rw [if_neg Bool.false_ne_true,rX]
  have hlen:(((rooms.take i).filter fun r=>decide (r∈F)).map V.str).length<sizeLine:=by
   rw [List.length_map]
   refine ao (Nat.le_trans (List.length_filter_le _ _) ?_)
   rw [List.length_take]; omega
  refine oz (fun hq=>?_) (fun hq=>?_)
  ·refine ⟨_,rfl,f',hlen,nxt hi ⟨?_,?_,aa⟩⟩
   ·rw [aO hr,if_pos hq,List.map_append]; rfl
   ·intro b o q
    rw [af (ad q hf)]
    exact S _ _ q
  ·refine nxt hi ⟨?_,S,f'⟩
   rw [aO hr,if_neg hq,List.append_nil]
theorem pQ (ds:List ar):DT.depths (ds.map dDT)<=2:=by
 induction ds with
 | nil=>exact Nat.zero_le _
 | cons x xs ih=>rw [List.map_cons]; show max (DT.depth (dDT x)) (DT.depths _)<=2; rw [nB]; omega
theorem qF {asks says rooms:List Str}{dr:ar}(g:vG asks says rooms dr):∃s0 rest,dr.sg=s0::rest/\(!decide (V.str s0=V.str ("ask":Str)))=!dP dr:=by
 obtain ⟨s0,rest,hsg⟩:∃s0 rest,dr.sg=s0::rest:=by
  rcases g.sg with ⟨w,_,e⟩ | ⟨w,_,e⟩ | e <;> exact ⟨_,_,e⟩
 refine ⟨s0,rest,hsg,?_⟩
 unfold dP
 rw [hsg]
 congr 1
 show _=decide (s0=("ask":Str))
 by_cases c:s0=("ask":Str)
 ·rw [decide_eq_true c,decide_eq_true (by rw [c])]
 ·rw [decide_eq_false c,decide_eq_false (fun z=>c (by injection z))]
def iG:Sp:=fun vs H Q _=>∃(t l1 l2 l3 l4:Addr) (ts:List Addr) (asks says rooms:List Str) (ds:List ar) (r:Str),vs=[.ref t,.str r]/\Told H t l1 l2 l3 l4 ts asks says rooms ds/\ModelOk asks says rooms ds/\∀H',Same H H'->Q (.bl (decide (r∉dI ds))) H'
theorem qJ {K:PySem.W.Frag}{vs:List V}{H:Hp}{Q:VK}{E:XK}(h:iG vs H Q E):jn K { nx:=fun _ H'=>Q .non H',rt:=Q } (aA jx vs) H:=by
 obtain ⟨t,l1,l2,l3,l4,ts,asks,says,rooms,ds,r,rfl,T,m,k⟩:=h
 have z4:=m.few
 refine ⟨_,rfl,.inr (.inl ⟨t,_,3,_,rfl,rfl,SqT.of T.t,rfl,l4,rfl,⟨_,SqL.of T.a4⟩,fun f hf=>?_⟩)⟩
 refine bf (xs:=ts.map V.ref) (fun i vs H'=>∃us:List Addr,vs=us.map V.ref/\Same H H'/\H' f=some (.lst vs)/\Doors H' us ((ds.take i).filter fun d=>decide (d.a=r) && !dP d)) ⟨[],rfl,Same.new hf,aa,.nil⟩ (fun i vs H' _ ⟨_,_,S,h',_⟩=>⟨h',SqL.of (S _ _ T.a4)⟩) ?_ ?_
 rotate_left
 ·rintro i vs H' x' hx' hi ⟨us,rfl,S,f',hP⟩
  obtain ⟨u,hu,rfl⟩:=bB hx'
  obtain ⟨dr,hdr,hatd⟩:=Paired.getL T.ds hu
  have hat':=hatd.kt (Same.kt S)
  obtain ⟨sb,ht2,hs2⟩:=hatd.kt (Same.kt S)
  obtain ⟨s0,rest,hsg,ea⟩:=qF (m.good dr (List.mem_of_getElem? hdr))
  unfold SignAt at hs2
  rw [hsg] at hs2
  have keep:(decide (dr.a=r) && !dP dr)=false->∃m',m'<(ts.map V.ref).length-i/\Wc (ts.map V.ref).length (fun i vs H'=>∃us:List Addr,vs=us.map V.ref/\Same H H'/\H' f=some (.lst vs)/\Doors H' us ((ds.take i).filter fun d=>decide (d.a=r) && !dP d)) (i+1) m' (us.map V.ref) H':=by
   intro z
   refine nxt hi ⟨us,rfl,S,f',?_⟩
   rw [g_ hdr,if_neg (by rw [z]; decide),List.append_nil]
   exact hP
  refine gN ?_
  refine ⟨_,rfl,.inr (.inl ⟨u,_,0,_,rfl,rfl,SqT.of ht2,rfl,_,rfl,sDT dr.a,sDT r,kF _,kF _,(by show 0<=8; decide),(by show 0<=8; decide),_,rfl,?_⟩)⟩
  rw [rW]
  by_cases c1:dr.a=r
  rotate_left
  ·rw [decide_eq_false c1]
   exact bx (bx (keep (by rw [decide_eq_false c1]; rfl)))
  rw [decide_eq_true c1]
  refine cK ?_
  refine ⟨_,rfl,.inr (.inl ⟨u,_,1,_,rfl,rfl,SqT.of ht2,rfl,.inr (.inl ⟨sb,_,0,.str s0,rfl,rfl,SqT.of hs2,cE (j:=0) rfl,rfl,_,rfl,?_⟩)⟩)⟩
  rw [ea]
  cases q:dP dr with
  | true=>exact bx (keep (by rw [q,decide_eq_true c1]; rfl))
  | false =>
   refine cK ?_
   refine ⟨_,rfl,f',?_,nxt hi ⟨us++[u],by rw [List.map_append]; rfl,?_,aa,?_⟩⟩
   ·rw [List.length_map,Paired.length hP]
    refine ao (Nat.le_trans (List.length_filter_le _ _) ?_)
    rw [List.length_take]; omega
   ·intro b o q
    rw [af (ad q hf)]
    exact S _ _ q
   ·rw [g_ hdr,if_pos (by rw [q,decide_eq_true c1]; rfl)]
    have hk:KT0 H' (upd H' f (.lst (us.map V.ref++[.ref u]))):=dL f'
    exact Paired.snoc (hP.kt hk) (hat'.kt hk)
 rintro vs H1 ⟨us,rfl,S1,f1,hP⟩
 rw [List.length_map,Paired.length T.ds,List.take_length] at hP
 refine ⟨(by show 0<=sizeLine; decide),fun e he=>⟨.s ((ds.filter fun d=>decide (d.a=r) && !dP d).map dDT),.s [],?_,se (SqL.of aa),?_,by decide,?_⟩⟩
 ·unfold DIn
  exact ⟨f,_,rfl,SqL.of (kp f1 he),Doors.dIns (hP.kt (Same.kt (Same.new he)))⟩
 ·show DT.depths _+1<=8
  have:=pQ (ds.filter fun d=>decide (d.a=r) && !dP d)
  omega
 have ed:decide (DT.s ((ds.filter fun d=>decide (d.a=r) && !dP d).map dDT)=DT.s [])=decide (r∉dI ds):=by
  by_cases c:r∈dI ds
  ·have e0:decide (r∉dI ds)=false:=decide_eq_false (fun z=>z c)
   rw [e0]
   refine decide_eq_false fun z=>?_
   injection z with z
   unfold dI at c
   obtain ⟨d,hd,e1⟩:=List.mem_map.mp c
   obtain ⟨h1,h2⟩:=List.mem_filter.mp hd
   have:dDT d∈(ds.filter fun d=>decide (d.a=r) && !dP d).map dDT:=List.mem_map_of_mem (List.mem_filter.mpr ⟨h1,by rw [decide_eq_true e1,h2]; rfl⟩)
   rw [z] at this
   cases this
  ·have e0:decide (r∉dI ds)=true:=decide_eq_true c
   rw [e0]
   refine decide_eq_true ?_
   have:(ds.filter fun d=>decide (d.a=r) && !dP d)=[]:=by
    rw [List.filter_eq_nil_iff]
    intro d hd z
    rw [Bool.and_eq_true] at z
    exact c (List.mem_map.mpr ⟨d,List.mem_filter.mpr ⟨hd,z.2⟩,of_decide_eq_true z.1⟩)
   rw [this]
   rfl
 rw [ed]
 exact k _ (S1.trans (Same.new he))
abbrev Sgns (H:Hp) (us:List Addr) (L:List (List Str)):Prop:=Paired (SignAt H) us L
theorem Sgns.kt {H H':Hp}{us:List Addr}{L:List (List Str)}(k:KT0 H H') (h:Sgns H us L):Sgns H' us L:=Paired.mapP h fun _ _ r=>k _ _ r
theorem t8 {K:PySem.W.Frag}{H:Hp}{a:Addr}(h:SqT K H a []):DIn K H (.t []) (.ref a):=by
 unfold DIn
 refine ⟨a,_,rfl,h,?_⟩
 unfold DIns
 rfl
def aL (asks says:List Str):List (List Str):=asks.map nF++says.map mW++[hushSg]
def j7:Sp:=fun vs H Q _=>∃(t l1 l2 l3 l4:Addr) (ts:List Addr) (asks says rooms:List Str) (ds:List ar),vs=[.ref t]/\Told H t l1 l2 l3 l4 ts asks says rooms ds/\ModelOk asks says rooms ds /\
 ∀(l:Addr) (us:List Addr) (H':Hp),H' l=some (.lst (us.map V.ref))->Sgns H' us (aL asks says)->H l=none->Same H H'->Q (.ref l) H'
theorem eI {K:PySem.W.Frag}{σ:L2.St}{H:Hp}{a l:Addr}{ws:List Str}{kd:Str}{Q:Hp->Prop}(ha:H a=some (.lst (ws.map V.str))) (hz:ws.length<=1000) (hl:H l=none)
  (k:∀(us:List Addr) (H':Hp),H' l=some (.lst (us.map V.ref))->Sgns H' us (ws.map fun w=>[kd,w])->Same H H'->Q H') :
  dB 1 [] σ (Itl K a) (ak 0) mF (gk (ac (tC (.str kd)) (ac (ag 0) ap))) H l Q:=by
 refine bf (xs:=ws.map V.str) (fun i vs H'=>∃us:List Addr,vs=us.map V.ref/\Same H H'/\H' l=some (.lst vs)/\Sgns H' us ((ws.take i).map fun w=>[kd,w])) ⟨[],rfl,Same.new hl,aa,.nil⟩ (fun i vs H' _ ⟨_,_,S,h',_⟩=>⟨h',SqL.of (S _ _ ha)⟩) ?_ ?_
 ·rintro vs H' ⟨us,rfl,S,h',hP⟩
  rw [List.length_map,List.take_length] at hP
  exact k us H' h' hP S
 ·rintro i vs H' x' hx' hi ⟨us,rfl,S,f',hP⟩
  obtain ⟨w,hw,rfl⟩:=aR hx'
  refine gN (uG ?_)
  refine ⟨_,rfl,(by show 2<=sizeLine; decide),fun u hu=>⟨kp f' hu,?_,nxt hi ⟨us++[u],by rw [List.map_append]; rfl,?_,aa,?_⟩⟩⟩
  ·rw [List.length_map,Paired.length hP,List.length_map,List.length_take]
   exact ao (by omega)
  ·intro b o q
   rw [af (ad q hl)]
   exact kp (S _ _ q) hu
  ·rw [am hw,List.map_append]
   have hk:KT0 H' (upd (upd H' u (.tup [.str kd,.str w])) l (.lst (us.map V.ref++[.ref u]))):=(Same.kt (Same.new hu)).trans (dL (kp f' hu))
   exact Paired.snoc (Sgns.kt hk hP) ((dL (kp f' hu)) _ _ aa)
theorem sW {K:PySem.W.Frag}{vs:List V}{H:Hp}{Q:VK}{E:XK}(h:j7 vs H Q E):mB K { nx:=fun _ H'=>Q .non H',rt:=Q } (aA nI vs) H:=by
 obtain ⟨t,l1,l2,l3,l4,ts,asks,says,rooms,ds,rfl,T,m,k⟩:=h
 have z1:=m.asks4
 have z2:=m.says4
 refine ⟨_,rfl,.inr (.inl ⟨t,_,0,_,rfl,rfl,SqT.of T.t,rfl,l1,rfl,⟨_,SqL.of T.a1⟩,fun la hla=>?_⟩)⟩
 refine eI (kd:="ask") T.a1 (by omega) hla fun ua H1 h1 hP1 S1=>?_
 have T1:=T.same S1
 refine ⟨_,rfl,.inr (.inl ⟨t,_,1,_,rfl,rfl,SqT.of T1.t,rfl,l2,rfl,⟨_,SqL.of T1.a2⟩,fun ls hls=>?_⟩)⟩
 refine eI (kd:="say") T1.a2 (by omega) hls fun us H2 h2 hP2 S2=>?_
 have h12:=S2 _ _ h1
 have hP12:=Sgns.kt (Same.kt S2) hP1
 refine ⟨la,ls,_,_,rfl,rfl,h12,h2,?_,fun c1 hc1=>?_⟩
 ·rw [List.length_map,List.length_map,Paired.length hP1,Paired.length hP2,List.length_map,List.length_map]
  exact Nat.le_of_lt (ao (by omega))
 refine ⟨(by show 1<=sizeLine; decide),fun hh hhh=>⟨(by show 1<=sizeLine; decide),fun hl hhl=>?_⟩⟩
 refine ⟨c1,hl,_,_,rfl,rfl,kp (kp aa hhh) hhl,aa,?_,fun r hr=>?_⟩
 ·rw [List.length_append,List.length_map,List.length_map,Paired.length hP1,Paired.length hP2,List.length_map,List.length_map]
  exact Nat.le_of_lt (ao (by show _+1<=1000; omega))
 have S3:=(((Same.new (o:=.lst (ua.map V.ref++us.map V.ref)) hc1).trans (Same.new (o:=.tup [.str "hush"]) hhh)).trans (Same.new (o:=.lst [.ref hh]) hhl)).trans (Same.new (o:=.lst (ua.map V.ref++us.map V.ref++[.ref hh])) hr)
 refine k r (ua++us++[hh]) _ ?_ ?_ ?_ ((S1.trans S2).trans S3)
 ·rw [aa,List.map_append,List.map_append]; rfl
 ·refine Paired.app (Paired.app (Sgns.kt (Same.kt S3) hP12) (Sgns.kt (Same.kt S3) hP2)) (.cons ?_ .nil)
  exact kp (kp aa hhl) hr
 ·exact (((S1.trans S2).trans ((Same.new hc1).trans (Same.new hhh))).trans (Same.new hhl)).free hr

theorem t7 (a b:List Str):(!decide (DT.t (a.map sDT)=DT.t (b.map sDT)))=decide (a≠b):=by
 by_cases c:a=b
 ·rw [decide_eq_true (by rw [c]),decide_eq_false (fun z=>z c)]; rfl
 ·rw [decide_eq_false (fun z=>c (cz (by injection z))),decide_eq_true c]; rfl
def jp (K:PySem.W.Frag) :TS :=
 aZ (tCB (bV K) (ac (h7 K (ag 0) "own_asks") ap))
def jz:List Str:=["self"]
def jo (K:PySem.W.Frag) :TS :=
 aZ (tCB (bV K) (ac (h7 K (ag 0) "own_says") ap))
def jy:List Str:=["self"]
theorem nU {C x:Addr}{H:Hp}{asks says rooms:List Str}{ds:List ar}(h:MachAt C H x asks says rooms ds):∃(dx:Addr) (fs:List (Str×V)) (o1 o2 lv:Addr) (lps:List (Str×Addr)),H x=some (.ins C dx fs)/\lk "asks" fs=none/\lk "says" fs=none/\lk "doors_from" fs=none/\lk "is_quiet" fs=none/\lk "own_asks" fs=some (.ref o1)/\lk "own_says" fs=some (.ref o2)/\lk "leaving" fs=some (.ref lv) /\
  H o1=some (.lst (asks.map V.str))/\H o2=some (.lst (says.map V.str))/\lps.map (·.1)=rooms/\H lv=some (.dK (dJ Sum.inr lps))/\(∀x∈lps,∃us,H x.2=some (.lst (us.map V.ref))/\Doors H us (aK ds x.1)):=by
 obtain ⟨dx,fs,o1,o2,o3,o4,lv,qu,sg,sl,ts,lps,gps,sps,g1,a1,a2,a3,a4,b1,b2,b3,b4,b5,b6,b7,b8,L,c1,c2,c3,c4,G,d1,d2,d3⟩:=h.at_
 obtain ⟨dx',fs',g1',e1,e2,e3,e4⟩:=h.more
 rw [g1] at g1'
 cases g1'
 exact ⟨dx,fs,o1,o2,lv,lps,g1,e1,e2,e4,a1,b1,b2,b5,L.a1,L.a2,c1,c2,c3⟩
def mU (C:Addr):Sp:=fun vs H Q _=>∃(x:Addr) (asks says rooms:List Str) (ds:List ar),vs=[.ref x]/\MachAt C H x asks says rooms ds/\∀l,H l=none->Q (.ref l) (upd H l (.lst (asks.map V.str)))
theorem uZ {K:PySem.W.Frag}{C:Addr}(M:MC K C) {vs:List V}{H:Hp}{Q:VK}{E:XK}(h:mU C vs H Q E):jp K { nx:=fun _ H'=>Q .non H',rt:=Q } (aA jz vs) H:=by
 obtain ⟨x,asks,says,rooms,ds,rfl,h,k⟩:=h
 obtain ⟨dx,fs,o1,o2,lv,lps,g1,a1,a2,a3,a4,b1,b2,b3,c1,c2,_⟩:=nU h
 exact ⟨_,rfl,x,C,dx,fs,.ref o1,rfl,g1,M.cls,M.a1,b1,.inl ⟨o1,_,rfl,.inl (SqL.of c1),k⟩⟩
def mP (C:Addr):Sp:=fun vs H Q _=>∃(x:Addr) (asks says rooms:List Str) (ds:List ar),vs=[.ref x]/\MachAt C H x asks says rooms ds/\∀l,H l=none->Q (.ref l) (upd H l (.lst (says.map V.str)))
theorem uU {K:PySem.W.Frag}{C:Addr}(M:MC K C) {vs:List V}{H:Hp}{Q:VK}{E:XK}(h:mP C vs H Q E):jo K { nx:=fun _ H'=>Q .non H',rt:=Q } (aA jy vs) H:=by
 obtain ⟨x,asks,says,rooms,ds,rfl,h,k⟩:=h
 obtain ⟨dx,fs,o1,o2,lv,lps,g1,a1,a2,a3,a4,b1,b2,b3,c1,c2,_⟩:=nU h
 exact ⟨_,rfl,x,C,dx,fs,.ref o2,rfl,g1,M.cls,M.a2,b2,.inl ⟨o2,_,rfl,.inl (SqL.of c2),k⟩⟩

def hC (K:PySem.W.Frag) (C_Machine:Addr) (sp_Machine_asks:Sp) (sp_Machine_says:Sp) (a_HUSH:Addr):TS :=
 aZ (tOp ul (tOp ul (cu 1 [] (bS K (eL C_Machine "asks" sp_Machine_asks [] E0 (ag 0) ap)) (ak 0) (mF) (gk (ac (tC (.str "ask")) (ac (ag 0) ap)))) (cu 1 [] (bS K (eL C_Machine "says" sp_Machine_says [] E0 (ag 0) ap)) (ak 0) (mF) (gk (ac (tC (.str "say")) (ac (ag 0) ap))))) (gW (ac (tC (.ref a_HUSH)) ap)))
def ia:List Str:=["M"]
def oX (K:PySem.W.Frag) (sp_signs_in_order:Sp) (sp_face_behind:Sp):TS :=
 aw (bc (gX) (ak 2))
 (aw (eN (bS K (au sp_signs_in_order [] E0 (ac (ag 0) ap))) (ak 3) (aw (bc (au sp_face_behind [] E0 (ac (ag 0) (ac (ag 1) (ac (ag 3) ap)))) (ak 4))
 (cZ (aJ (tOp wM (tCB (fA K) (ac (ag 4) ap)) (tC (.int 0)))) (nW K (ag 2) (ag 3) (ag 4)) (aU))))
 (aZ (ag 2)))
def pX:List Str:=["M","face","steps","sign","behind"]
def eT (K:PySem.W.Frag) :TS :=
 aw (cZ (tB (eZ K (ag 1) (h7 K (ag 0) "numbers"))) (aw (cZ (aJ (tOp rEq (tCB (fA K) (ac (h7 K (ag 0) "faces") ap)) (tC (.int 400)))) (qw) (aU))
 (aw (gB (h7 K (ag 0) "numbers") (ag 1) (tCB (fA K) (ac (h7 K (ag 0) "faces") ap)))
 (aw (cG (tBM K "list" cP (h7 K (ag 0) "faces") (ac (ag 1) ap)))
 (cG (tBM K "list" cP (h7 K (ag 0) "first_stories") (ac (ag 2) ap)))))) (aU))
 (aZ (mN K (h7 K (ag 0) "numbers") (ag 1)))
def fu:List Str:=["self","face","story"]
def cY (K:PySem.W.Frag) (sp_steps_at:Sp) (C_FaceMap:Addr) (sp_FaceMap_number_at:Sp):TS :=
 aw (bc (gX) (ak 2))
 (aw (eN (nr K (au sp_steps_at [] E0 (ac (h7 K (ag 0) "machine") (ac (tOp (fk K) (h7 K (ag 0) "faces") (ag 1)) ap)))) (nu K 2 (bw (ak 3) (bw (ak 4) (nv)))) (nW K (ag 2) (ag 3) (eL C_FaceMap "number_at" sp_FaceMap_number_at [] E0 (ag 0) (ac (ag 4) (ac (tOp ul (tOp (fk K) (h7 K (ag 0) "first_stories") (ag 1)) (gW (ac (ag 3) ap))) ap)))))
 (aZ (ag 2)))
def df:List Str:=["self","number","steps","sign","face"]
def fH (K:PySem.W.Frag) (C_FaceMap:Addr) (sp_FaceMap_numbered_steps:Sp) (sp_FaceMap_number_at:Sp) (bA:Sp):TS :=
 aw (nV K (ag 0) (ag 1) "machine")
 (aw (nV K (ag 0) (gW (ap)) "faces")
 (aw (nV K (ag 0) (gW (ap)) "first_stories")
 (aw (nV K (ag 0) (gX) "numbers")
 (aw (nV K (ag 0) (gW (ap)) "steps")
 (aw (cG (eL C_FaceMap "number_at" sp_FaceMap_number_at [] E0 (ag 0) (ac (au bA [] E0 (ac (ag 1) ap)) (ac (gW (ap)) ap))))
 (nR (aJ (tOp v3 (tCB (fA K) (ac (h7 K (ag 0) "steps") ap)) (tCB (fA K) (ac (h7 K (ag 0) "faces") ap)))) (cG (tBM K "list" cP (h7 K (ag 0) "steps") (ac (eL C_FaceMap "numbered_steps" sp_FaceMap_numbered_steps [] E0 (ag 0) (ac (tCB (fA K) (ac (h7 K (ag 0) "steps") ap)) ap)) ap)))))))))
def gg:List Str:=["self","M"]
def eK (K:PySem.W.Frag) :TS :=
 aw (bc (jD) (ak 2))
 (aw (eN (rH (ag 1)) (nu K 2 (bw (ak 3) (bw (ak 4) (nv)))) (eN (uy K (tOp (fk K) (ag 0) (ag 3))) (ak 5) (gB (ag 2) (ag 5) (tOp cw (gZ K (ag 2) (ag 5) (tC (.int 0))) (ag 4)))))
 (aZ (ag 2)))
def eP:List Str:=["steps","counts","longer","number","count","goal"]
def o6 (K:PySem.W.Frag) (sp_counts_one_sign_on:Sp) (C_FaceMap:Addr) (sp_FaceMap_init:Sp):TS :=
 aw (bc (h7 K (sR C_FaceMap sp_FaceMap_init [] E0 (ac (ag 0) ap)) "steps") (ak 2))
 (aw (cZ (aJ (tOp v3 (ag 1) (tC (.int 0)))) (aZ (tC (.int 0))) (aU))
 (aw (bc (vW [(tC (.int 0),tC (.int 1))]) (ak 3))
 (aw (eN (lW (ac (ag 1) ap)) (ak 4) (bc (au sp_counts_one_sign_on [] E0 (ac (ag 2) (ac (ag 3) ap))) (ak 3)))
 (aZ (vT (ag 3))))))
def p6:List Str:=["M","n","steps","counts","turn"]
def oY (K:PySem.W.Frag) (sp_law_signs:Sp) (sp_law_behind:Sp):TS :=
 aw (bc (cu 1 [0,1] (bS K (au sp_law_signs [] E0 (ac (ag 0) ap))) (ak 0) (mF) (au sp_law_behind [] E0 (ac (ag 1) (ac (ag 2) (ac (ag 0) ap))))) (ak 2))
 (aZ (cu 1 [] (bS K (ag 2)) (ak 0) (aJ (tOp (wL K) (ag 0) (gk (ap)))) (ag 0)))
def pY:List Str:=["told","face","there"]
def mE (K:PySem.W.Frag) (sp_law_ways:Sp) (sp_law_on:Sp):TS :=
 aw (bc (gX) (ak 2))
 (aw (bc (qx K (au sp_law_on [] E0 (ac (ag 0) (ac (tSl (tD K) (tOp (rIx K) (ag 0) (tC (.int 2))) (cN) (fI (tC (.int 1)))) ap))) (tC (.int 1))) (ak 3))
 (aw (eN (lW (ac (ag 1) ap)) (ak 4) (aw (bc (gX) (ak 5))
 (aw (eN (nr K (ag 3)) (nu K 2 (bw (ak 6) (bw (ak 7) (nv)))) (aw (cZ (tB (eZ K (ag 6) (ag 2))) (nW K (ag 2) (ag 6) (au sp_law_ways [] E0 (ac (ag 0) (ac (ag 6) ap)))) (aU))
 (eN (bS K (mN K (ag 2) (ag 6))) (ak 8) (gB (ag 5) (ag 8) (tOp cw (gZ K (ag 5) (ag 8) (tC (.int 0))) (ag 7))))))
 (bc (ag 5) (ak 3)))))
 (aZ (vS (ag 3)))))
def nL:List Str:=["told","n","ways","counts","turn","later","face","many","behind"]
def uM (K:PySem.W.Frag) (sp_law_same:Sp) (sp_how_many:Sp) (sp_law_count:Sp) (sp_law_take:Sp) (sp_law_machine:Sp) (sp_law_model:Sp) (sp_law_open:Sp):TS :=
 aw (bc (au sp_law_open [] E0 (ac (ag 0) ap)) (ak 1))
 (aw (bc (au sp_law_model [] E0 (ac (ag 1) (ac (tC (.int 4)) (ac (tC (.int 0)) ap)))) (ak 2))
 (aw (bc (au sp_law_machine [] E0 (ac (ag 2) ap)) (ak 3))
 (aw (bc (au sp_law_take [] E0 (ac (ag 1) (ac (tC (.int 61)) ap))) (ak 4))
 (aw (bc (au sp_law_count [] E0 (ac (ag 2) (ac (ag 4) ap))) (ak 5))
 (aw (eN (lW (ac (tC (.int 2)) ap)) (ak 6) (cZ (tOr (uk (tB (au sp_law_same [] E0 (ac (au sp_how_many [] E0 (ac (ag 3) (ac (ag 4) ap))) (ac (ag 5) ap))))) (uk (tB (au sp_law_same [] E0 (ac (au sp_how_many [] E0 (ac (ag 3) (ac (tC (.int 0)) ap))) (ac (tC (.int 1)) ap)))))) (aZ (tC (.bl false))) (aU)))
 (aZ (tC (.bl true))))))))
def sC:List Str:=["script","pen","told","made","n","due","turn"]
def tF:List Str:=["script"]
abbrev Sg:=List Str
noncomputable def stepsF (asks says rooms:List Str) (ds:List ar) (face:List Str):List (Sg×List Str):=((aL asks says).map fun sg=>(sg,behF rooms ds face sg)).filter fun p=>decide (p.2≠[])
structure FMs where
 fs:List (List Str)
 ss:List (List Sg)
def FMs.add (m:FMs) (f:List Str) (s:List Sg):FMs:=if f∈m.fs then m else ⟨m.fs++[f],m.ss++[s]⟩
def rf (s:List Sg) (q:FMs×List (Sg×Nat)) (p:Sg×List Str):FMs×List (Sg×Nat):=(q.1.add p.2 (s++[p.1]),q.2++[(p.1,(q.1.add p.2 (s++[p.1])).fs.idxOf p.2)])
def fm (s:List Sg) (m:FMs) (L:List (Sg×List Str)):FMs×List (Sg×Nat):=L.foldl (rf s) (m,[])
abbrev uE:=FMs×List (List (Sg×Nat))
noncomputable def initF (rooms:List Str) (ds:List ar):uE:=((⟨[],[]⟩:FMs).add (closF rooms ds (rooms.take 1)) [],[])
noncomputable def nextF (asks says rooms:List Str) (ds:List ar) (S:uE):uE :=
 ((fm (S.1.ss.getD S.2.length []) S.1 (stepsF asks says rooms ds (S.1.fs.getD S.2.length []))).1,S.2++[(fm (S.1.ss.getD S.2.length []) S.1 (stepsF asks says rooms ds (S.1.fs.getD S.2.length []))).2])
noncomputable def itF (asks says rooms:List Str) (ds:List ar):Nat->uE
 | 0=>initF rooms ds
 | k+1=>nextF asks says rooms ds (itF asks says rooms ds k)
def js:List Str->List (List Str)
 | []=>[[]]
 | r::rs=>(js rs).map (r::·)++js rs
theorem iD:∀rs:List Str,(js rs).length=2 ^ rs.length
 | []=>rfl
 | r::rs=>by
  show ((js rs).map (r::·)++js rs).length=2 ^ (rs.length+1)
  rw [List.length_append,List.length_map,iD rs,Nat.pow_succ]; omega
theorem iC (p:Str->Bool):∀rs:List Str,rs.filter p∈js rs
 | []=>by show []∈[[]]; simp
 | r::rs=>by
  show (r::rs).filter p∈(js rs).map (r::·)++js rs
  have ih:=iC p rs
  rw [List.filter_cons]
  split
  ·exact List.mem_append_left _ (List.mem_map_of_mem ih)
  ·exact List.mem_append_right _ ih
theorem fV {α:Type} [DecidableEq α]:∀{L R:List α},L.Nodup->(∀y∈L,y∈R)->L.length<=R.length
 | [],_,_,_=>Nat.zero_le _
 | x::L,R,h,hs=>by
  rw [List.nodup_cons] at h
  have hx:x∈R:=hs x List.mem_cons_self
  have h1:∀y∈L,y∈R.erase x:=fun y hy=>(List.mem_erase_of_ne (fun e=>h.1 (by rw [<-e]; exact hy))).2 (hs y (List.mem_cons_of_mem _ hy))
  have h2:=fV h.2 h1
  rw [List.length_erase_of_mem hx] at h2
  have h3:0<R.length:=List.length_pos_of_mem hx
  rw [List.length_cons]; omega
def IsF (rooms f:List Str):Prop:=∃p:Str->Bool,f=rooms.filter p
theorem vq {rooms f sg:List Str}{ds:List ar}(h:IsF rooms f):IsF rooms (behF rooms ds f sg):=by
 classical
 unfold behF
 split
 ·obtain ⟨p,rfl⟩:=h
  rw [List.filter_filter]
  exact ⟨_,rfl⟩
 ·unfold closF
  exact ⟨_,rfl⟩
theorem lV {rooms:List Str}{ds:List ar}{gs:List Str}:IsF rooms (closF rooms ds gs):=by
 classical
 unfold closF
 exact ⟨_,rfl⟩
theorem IsF.sub {rooms f:List Str}(h:IsF rooms f):∀r∈f,r∈rooms:=by
 obtain ⟨p,rfl⟩:=h
 exact fun r hr=>(List.mem_filter.1 hr).1
theorem IsF.len {rooms f:List Str}(h:IsF rooms f):f.length<=rooms.length:=by
 obtain ⟨p,rfl⟩:=h
 exact List.length_filter_le _ _
structure Good (rooms:List Str) (m:FMs):Prop where
 nd:m.fs.Nodup
 len:m.ss.length=m.fs.length
 isF:∀f∈m.fs,IsF rooms f
 sl:∀(i:Nat) (s:List Sg),m.ss[i]?=some s->s.length<=i
theorem Good.few {rooms:List Str}{m:FMs}(g:Good rooms m) (hr:rooms.length<=8):m.fs.length<=256:=by
 have h:=fV g.nd (R:=js rooms) (fun f hf=>by obtain ⟨p,rfl⟩:=g.isF f hf; exact iC p rooms)
 rw [iD] at h
 have:2 ^ rooms.length<=2 ^ 8:=Nat.pow_le_pow_right (by decide) hr
 omega
theorem FMs.add_in {m:FMs}{f:List Str}{s:List Sg}(h:f∈m.fs):m.add f s=m:=if_pos h
theorem FMs.add_new {m:FMs}{f:List Str}{s:List Sg}(h:¬f∈m.fs):m.add f s=⟨m.fs++[f],m.ss++[s]⟩:=if_neg h
theorem Good.add {rooms f:List Str}{m:FMs}{s:List Sg}(g:Good rooms m) (h:IsF rooms f) (hs:s.length<=m.fs.length):Good rooms (m.add f s):=by
 by_cases c:f∈m.fs
 ·rw [FMs.add_in c]; exact g
 ·rw [FMs.add_new c]
  refine ⟨?_,?_,?_,?_⟩
  rotate_left 3
  ·intro i s' e
   change (m.ss++[s])[i]?=some s' at e
   rcases Nat.lt_or_ge i m.ss.length with z | z
   ·rw [List.getElem?_append_left z] at e
    exact g.sl i s' e
   ·rw [List.getElem?_append_right z] at e
    have h0:i-m.ss.length=0:=by
     rcases Nat.eq_zero_or_pos (i-m.ss.length) with q | q
     ·exact q
     ·rw [List.getElem?_eq_none (by show 1<=_; omega)] at e; cases e
    rw [h0] at e
    injection e with e
    rw [<-e]
    have:=g.len
    omega
  ·rw [List.nodup_append]
   exact ⟨g.nd,by simp,fun x hx y hy e=>c (by rw [List.mem_singleton.1 hy] at e; rw [<-e]; exact hx)⟩
  ·show (m.ss++[s]).length=(m.fs++[f]).length
   rw [List.length_append,List.length_append,g.len]; rfl
  ·intro x hx
   rcases List.mem_append.1 hx with hx | hx
   ·exact g.isF x hx
   ·rw [List.mem_singleton.1 hx]; exact h
theorem vD {m:FMs}{f:List Str}{s:List Sg}:f∈(m.add f s).fs:=by
 by_cases c:f∈m.fs
 ·rw [FMs.add_in c]; exact c
 ·rw [FMs.add_new c]; simp
def Grow (m m':FMs):Prop:=(∃r,m'.fs=m.fs++r)/\∃r,m'.ss=m.ss++r
theorem Grow.refl (m:FMs):Grow m m:=⟨⟨[],(List.append_nil _).symm⟩,⟨[],(List.append_nil _).symm⟩⟩
theorem Grow.trans {a b c:FMs}(h:Grow a b) (k:Grow b c):Grow a c:=by
 obtain ⟨⟨r,e⟩,⟨s,f⟩⟩:=h
 obtain ⟨⟨r',e'⟩,⟨s',f'⟩⟩:=k
 exact ⟨⟨r++r',by rw [e',e,List.append_assoc]⟩,⟨s++s',by rw [f',f,List.append_assoc]⟩⟩
theorem grow_add {m:FMs}{f:List Str}{s:List Sg}:Grow m (m.add f s):=by
 by_cases c:f∈m.fs
 ·rw [FMs.add_in c]; exact .refl _
 ·rw [FMs.add_new c]; exact ⟨⟨[f],rfl⟩,⟨[s],rfl⟩⟩
theorem fT (s:List Sg) (m:FMs) (L:List (Sg×List Str)) (p:Sg×List Str):fm s m (L++[p])=rf s (fm s m L) p:=by
 unfold fm; rw [List.foldl_append]; rfl
theorem Grow.at {m m':FMs}(h:Grow m m') {i:Nat}{f:List Str}(e:m.fs[i]?=some f):m'.fs[i]?=some f:=by
 obtain ⟨⟨r,q⟩,_⟩:=h
 rw [q,List.getElem?_append_left (by rcases Nat.lt_or_ge i m.fs.length with z | z; exact z; rw [List.getElem?_eq_none z] at e; cases e),e]
theorem lN {rooms:List Str}{s:List Sg}{m:FMs}(g:Good rooms m) (hs:s.length<m.fs.length) (L:List (Sg×List Str)) (hL:∀p∈L,IsF rooms p.2) :
  Good rooms (fm s m L).1/\Grow m (fm s m L).1/\Paired (fun (a:Sg×Nat) (p:Sg×List Str)=>a.1=p.1/\(fm s m L).1.fs[a.2]?=some p.2) (fm s m L).2 L:=by
 have key:∀n,n<=L.length->Good rooms (fm s m (L.take n)).1/\Grow m (fm s m (L.take n)).1/\Paired (fun (a:Sg×Nat) (p:Sg×List Str)=>a.1=p.1/\(fm s m (L.take n)).1.fs[a.2]?=some p.2) (fm s m (L.take n)).2 (L.take n):=by
  intro n
  induction n with
  | zero=>intro _; exact ⟨g,.refl _,.nil⟩
  | succ n ih =>
   intro hn
   obtain ⟨h1,h2,h3⟩:=ih (by omega)
   have hp:L[n]?=some L[n]:=List.getElem?_eq_getElem (by omega)
   rw [am hp,fT]
   have hf:=hL L[n] (List.getElem_mem _)
   have hl:m.fs.length<=(fm s m (L.take n)).1.fs.length:=by
    obtain ⟨⟨r,q⟩,_⟩:=h2
    rw [q,List.length_append]; omega
   refine ⟨h1.add hf (by rw [List.length_append]; show _+1<=_; omega),h2.trans grow_add,?_⟩
   refine Paired.snoc (Paired.mapP h3 fun a p r=>⟨r.1,grow_add.at r.2⟩) ⟨rfl,?_⟩
   show (FMs.add _ _ _).fs[(FMs.add _ _ _).fs.idxOf L[n].2]?=some L[n].2
   have hm:=vD (m:=(fm s m (L.take n)).1) (f:=L[n].2) (s:=s++[L[n].1])
   have hi:=List.idxOf_lt_length_of_mem hm
   rw [List.getElem?_eq_getElem hi,List.getElem_idxOf]
 have:=key L.length (Nat.le_refl _)
 rw [List.take_length] at this
 exact this
structure vH (asks says rooms:List Str) (ds:List ar) (S:uE):Prop where
 good:Good rooms S.1
 le:S.2.length<=S.1.fs.length
 zero:S.1.fs[0]?=some (closF rooms ds (rooms.take 1))
 st:∀(i:Nat) (l:List (Sg×Nat)),S.2[i]?=some l->∃f,S.1.fs[i]?=some f/\Paired (fun (a:Sg×Nat) (p:Sg×List Str)=>a.1=p.1/\S.1.fs[a.2]?=some p.2) l (stepsF asks says rooms ds f)
theorem eB {asks says rooms f:List Str}{ds:List ar}(h:IsF rooms f):∀p∈stepsF asks says rooms ds f,IsF rooms p.2:=by
 intro p hp
 obtain ⟨sg,_,rfl⟩:=List.mem_map.1 (List.mem_filter.1 hp).1
 exact vq h
theorem rP {asks says rooms:List Str}{ds:List ar}:vH asks says rooms ds (initF rooms ds):=by
 have e:(⟨[],[]⟩:FMs).add (closF rooms ds (rooms.take 1)) []=⟨[closF rooms ds (rooms.take 1)],[[]]⟩:=FMs.add_new (by simp)
 refine ⟨?_,Nat.zero_le _,?_,fun i l h=>?_⟩
 ·exact Good.add (m:=⟨[],[]⟩) ⟨List.nodup_nil,rfl,(fun f hf=>nomatch hf),(fun i s (e:([]:List (List Sg))[i]?=some s)=>by rw [List.getElem?_nil] at e; cases e)⟩ lV (Nat.zero_le _)
 ·show ((⟨[],[]⟩:FMs).add _ _).fs[0]?=_
  rw [e]; rfl
 ·simp [initF] at h
theorem rO {asks says rooms:List Str}{ds:List ar}{S:uE}(h:vH asks says rooms ds S) (lt:S.2.length<S.1.fs.length):vH asks says rooms ds (nextF asks says rooms ds S):=by
 have e0:S.1.fs[S.2.length]?=some S.1.fs[S.2.length]:=by simp [lt]
 have hd:S.1.fs.getD S.2.length []=S.1.fs[S.2.length]:=by simp [lt]
 have hF:=h.good.isF S.1.fs[S.2.length] (List.getElem_mem _)
 obtain ⟨g,gr,pr⟩:=lN (s:=S.1.ss.getD S.2.length []) h.good (by
  have l2:S.2.length<S.1.ss.length:=by rw [h.good.len]; exact lt
  have e:S.1.ss[S.2.length]?=some (S.1.ss[S.2.length]'l2):=List.getElem?_eq_getElem l2
  have:=h.good.sl _ _ e
  rw [List.getD_eq_getElem?_getD,e]
  show (S.1.ss[S.2.length]'l2).length<_
  omega) (stepsF asks says rooms ds S.1.fs[S.2.length]) (eB hF)
 unfold nextF
 rw [hd]
 generalize fm (S.1.ss.getD S.2.length []) S.1 (stepsF asks says rooms ds S.1.fs[S.2.length])=q at g gr pr
 refine ⟨g,?_,gr.at h.zero,fun i l hl=>?_⟩
 ·obtain ⟨⟨r,e⟩,_⟩:=gr
  show (S.2++[q.2]).length<=q.1.fs.length
  rw [e,List.length_append,List.length_append]
  show S.2.length+1<=_
  omega
 ·change (S.2++[q.2])[i]?=some l at hl
  rcases Nat.lt_trichotomy i S.2.length with c | c | c
  ·rw [List.getElem?_append_left c] at hl
   obtain ⟨f,e,p⟩:=h.st i l hl
   exact ⟨f,gr.at e,Paired.mapP p fun a p r=>⟨r.1,gr.at r.2⟩⟩
  ·subst c
   rw [List.getElem?_append_right (Nat.le_refl _),Nat.sub_self] at hl
   injection hl with hl
   subst hl
   exact ⟨S.1.fs[S.2.length],gr.at e0,pr⟩
  ·rw [List.getElem?_append_right (Nat.le_of_lt c)] at hl
   obtain ⟨k,hk⟩:=Nat.exists_eq_succ_of_ne_zero (show i-S.2.length≠0 by omega)
   rw [hk] at hl
   cases hl
def SgA (hu:Addr) (H:Hp) (u:Addr) (sg:List Str):Prop:=H u=some (.tup (sg.map V.str))∨(u=hu/\sg=hushSg)
theorem SgA.same {hu:Addr}{H H':Hp}{u:Addr}{sg:List Str}(h:SgA hu H u sg) (S:Same H H'):SgA hu H' u sg:=h.imp (S _ _) id
theorem uJ {K:PySem.W.Frag}{a:Addr}{xs:List V}(h:∀H,SqT K H a xs) (H:Hp):TupC K H a xs:=by
 rcases h (fun _=>none) with (h | ⟨o,h⟩) | h
 ·cases h
 ·cases h
 ·exact .inr h
section
variable {K:PySem.W.Frag}{hu:Addr}(hh:∀H,SqT K H hu (hushSg.map V.str))
include hh
theorem SgA.tup {H:Hp}{u:Addr}{sg:List Str}(h:SgA hu H u sg):TupC K H u (sg.map V.str):=by
 rcases h with h | ⟨rfl,rfl⟩
 ·exact .inl h
 ·exact uJ hh H
theorem SgA.sq {H:Hp}{u:Addr}{sg:List Str}(h:SgA hu H u sg):SqT K H u (sg.map V.str):=by
 rcases h with h | ⟨rfl,rfl⟩
 ·exact SqT.of h
 ·exact hh H
end
def qA (C hu:Addr):Sp:=fun vs H Q _=>∃(x:Addr) (asks says rooms:List Str) (ds:List ar),vs=[.ref x]/\MachAt C H x asks says rooms ds /\
 ∀(l:Addr) (us:List Addr) (H':Hp),H' l=some (.lst (us.map V.ref))->Paired (SgA hu H') us (aL asks says)->Same H H'->Q (.ref l) H'
theorem vX {K:PySem.W.Frag}{C hu:Addr}{vs:List V}{H:Hp}{Q:VK}{E:XK}(h:qA C hu vs H Q E):hC K C (mU C) (mP C) hu { nx:=fun _ H'=>Q .non H',rt:=Q } (aA ia vs) H:=by
 obtain ⟨x,asks,says,rooms,ds,rfl,M,k⟩:=h
 have z1:=M.ok.asks4
 have z2:=M.ok.says4
 obtain ⟨dx,fs,o1,o2,lv,lps,g1,a1,a2,_⟩:=nU M
 refine ⟨_,rfl,x,dx,fs,rfl,g1,a1,x,asks,says,rooms,ds,rfl,M,fun w1 hw1=>⟨w1,rfl,⟨_,SqL.of aa⟩,fun la hla=>?_⟩⟩
 have S0:Same H (upd H w1 (.lst (asks.map V.str))):=Same.new hw1
 refine eI (kd:="ask") (ws:=asks) aa (by omega) hla fun ua H1 h1 hP1 S1=>?_
 have M1:=M.same (S0.trans S1)
 obtain ⟨dx,fs,o1,o2,lv,lps,g1,a1,a2,_⟩:=nU M1
 refine ⟨_,rfl,x,dx,fs,rfl,g1,a2,x,asks,says,rooms,ds,rfl,M1,fun w2 hw2=>⟨w2,rfl,⟨_,SqL.of aa⟩,fun ls hls=>?_⟩⟩
 have S2:Same H1 (upd H1 w2 (.lst (says.map V.str))):=Same.new hw2
 refine eI (kd:="say") (ws:=says) aa (by omega) hls fun us H2 h2 hP2 S3=>?_
 have S23:=S2.trans S3
 have h12:=S23 _ _ h1
 have hP12:=Sgns.kt (Same.kt S23) hP1
 refine ⟨la,ls,_,_,rfl,rfl,h12,h2,?_,fun c1 hc1=>?_⟩
 ·rw [List.length_map,List.length_map,Paired.length hP1,Paired.length hP2,List.length_map,List.length_map]
  exact Nat.le_of_lt (ao (by omega))
 refine ⟨(by show 1<=sizeLine; decide),fun hl hhl=>?_⟩
 refine ⟨c1,hl,_,_,rfl,rfl,kp aa hhl,aa,?_,fun r hr=>?_⟩
 ·rw [List.length_append,List.length_map,List.length_map,Paired.length hP1,Paired.length hP2,List.length_map,List.length_map]
  exact Nat.le_of_lt (ao (by show _+1<=1000; omega))
 have S4:=((Same.new (o:=.lst (ua.map V.ref++us.map V.ref)) hc1).trans (Same.new (o:=.lst [.ref hu]) hhl)).trans (Same.new (o:=.lst (ua.map V.ref++us.map V.ref++[.ref hu])) hr)
 refine k r (ua++us++[hu]) _ ?_ ?_ (((S0.trans S1).trans S23).trans S4)
 ·rw [aa,List.map_append,List.map_append]; rfl
 ·exact Paired.app (Paired.app (Paired.mapP (Sgns.kt (Same.kt S4) hP12) fun _ _ r=>.inl r) (Paired.mapP (Sgns.kt (Same.kt S4) hP2) fun _ _ r=>.inl r)) (.cons (.inr ⟨rfl,rfl⟩) .nil)
theorem eQ {asks says rooms:List Str}{ds:List ar}(m:ModelOk asks says rooms ds):(aL asks says).Nodup:=by
 unfold aL
 have i1:∀a b:Str,nF a=nF b->a=b:=fun a b h=>by unfold nF at h; injection h with _ h; injection h
 have i2:∀a b:Str,mW a=mW b->a=b:=fun a b h=>by unfold mW at h; injection h with _ h; injection h
 have nd:∀{f:Str->List Str}{l:List Str},(∀a b,f a=f b->a=b)->l.Nodup->(l.map f).Nodup:=by
  intro f l hf hl
  rw [List.nodup_iff_pairwise_ne,List.pairwise_map]
  exact (List.nodup_iff_pairwise_ne.1 hl).imp fun h e=>h (hf _ _ e)
 rw [List.nodup_append,List.nodup_append]
 refine ⟨⟨nd i1 m.okA.1,nd i2 m.okS.1,?_⟩,by simp,?_⟩
 ·intro x hx y hy e
  obtain ⟨a,_,rfl⟩:=List.mem_map.1 hx
  obtain ⟨b,_,rfl⟩:=List.mem_map.1 hy
  unfold nF mW at e
  injection e with e _
  exact absurd e (by decide)
 ·intro x hx y hy e
  rw [List.mem_singleton.1 hy] at e
  rcases List.mem_append.1 hx with hx | hx
  ·obtain ⟨a,_,rfl⟩:=List.mem_map.1 hx
   unfold nF hushSg at e
   injection e with _ e
   cases e
  ·obtain ⟨a,_,rfl⟩:=List.mem_map.1 hx
   unfold mW hushSg at e
   injection e with _ e
   cases e
abbrev StIs (H:Hp) (kvs:List (TK×V)) (L:List (Sg×List Str)):Prop:=Paired (fun (kv:TK×V) (p:Sg×List Str)=>kv.1=gTK p.1/\∃u,kv.2=.ref u/\H u=some (.tup (p.2.map V.str))) kvs L
theorem p_ {κ:Type} [DecidableEq κ] {kvs:List (κ×V)}{k:κ}(h:∀kv∈kvs,kv.1≠k):bO kvs k=none:=by
 unfold bO
 rw [List.find?_eq_none.2 fun kv hkv=>by simpa using h kv hkv]
 rfl
theorem aS (sg:List Str):(gTK sg).depth<=8:=by
 have:∀l:List Str,TK.depths (l.map sTK)=0:=by
  intro l
  induction l with
  | nil=>rfl
  | cons a l ih=>show max (TK.depth (sTK a)) (TK.depths _)=0; rw [ih]; rfl
 show TK.depths (sg.map sTK)+1<=8
 rw [this]; decide
noncomputable def stG (rooms:List Str) (ds:List ar) (face:List Str) (L:List (List Str)):List (Sg×List Str):=(L.map fun sg=>(sg,behF rooms ds face sg)).filter fun p=>decide (p.2≠[])
theorem nT (rooms:List Str) (ds:List ar) (face:List Str) (L:List (List Str)) (sg:List Str):stG rooms ds face (L++[sg])=stG rooms ds face L++if behF rooms ds face sg=[] then [] else [(sg,behF rooms ds face sg)]:=by
 unfold stG
 rw [List.map_append,List.filter_append]
 congr 1
 by_cases c:behF rooms ds face sg=[]
 ·rw [if_pos c]; simp [c]
 ·rw [if_neg c]; simp [c]
theorem uQ {rooms:List Str}{ds:List ar}{face:List Str}{L:List (List Str)}{p:Sg×List Str}(h:p∈stG rooms ds face L):p.1∈L:=by
 obtain ⟨sg,hs,rfl⟩:=List.mem_map.1 (List.mem_filter.1 h).1
 exact hs
theorem qz {rooms:List Str}{ds:List ar}{face:List Str}{L:List (List Str)}:(stG rooms ds face L).length<=L.length:=by
 unfold stG
 exact Nat.le_trans (List.length_filter_le _ _) (by rw [List.length_map]; exact Nat.le_refl _)
theorem StIs.kt {H H':Hp}{kvs:List (TK×V)}{L:List (Sg×List Str)}(k:KT0 H H') (h:StIs H kvs L):StIs H' kvs L:=Paired.mapP h fun _ _ ⟨e,u,e2,r⟩=>⟨e,u,e2,k _ _ r⟩
theorem StIs.no {H:Hp}{kvs:List (TK×V)}{L:List (Sg×List Str)}(h:StIs H kvs L) {sg:Sg}(n:∀p∈L,p.1≠sg):bO kvs (gTK sg)=none:=by
 refine p_ ?_
 induction h with
 | nil=>intro kv hk; exact nomatch hk
 | @cons a b as bs r t ih =>
  intro kv hk
  rcases List.mem_cons.1 hk with rfl | hk
  ·rw [r.1]; exact fun e=>n b List.mem_cons_self (fq e)
  ·exact ih (fun p hp=>n p (List.mem_cons_of_mem _ hp)) kv hk
theorem g6 {α:Type}{L:List α}(nd:L.Nodup) {i:Nat}{x:α}(e:L[i]?=some x):¬x∈L.take i:=by
 intro h
 obtain ⟨j,hj,ej⟩:=List.getElem_of_mem h
 rw [List.length_take] at hj
 have hi:i<L.length:=by rcases Nat.lt_or_ge i L.length with z | z; exact z; rw [List.getElem?_eq_none z] at e; cases e
 rw [List.getElem_take] at ej
 rw [List.getElem?_eq_getElem hi] at e
 injection e with e
 exact List.pairwise_iff_getElem.1 (List.nodup_iff_pairwise_ne.1 nd) j i (by omega) hi (by omega) (ej.trans e.symm)
theorem ktD {H:Hp}{d:Addr}{kvs:List (TK×V)}{o:HO}(h:H d=some (.dT kvs)):KT0 H (upd H d o):=fun b xs e=>by rw [af (fun z=>by rw [z,h] at e; cases e)]; exact e
theorem ifQ {b:Bool}{P X Y:Prop}(h:b=true↔P) (h1:P->X) (h2:¬P->Y):if b=true then X else Y:=by
 cases b with
 | true=>exact h1 (h.1 rfl)
 | false=>exact h2 fun z=>by cases h.2 z
def gv (C:Addr):Sp:=fun vs H Q _=>∃(x t:Addr) (face asks says rooms:List Str) (ds:List ar),vs=[.ref x,.ref t]/\MachAt C H x asks says rooms ds/\H t=some (.tup (face.map V.str))/\(∀r∈face,r∈rooms)/\face.length<=1000 /\
 ∀(d:Addr) (kvs:List (TK×V)) (H':Hp),H' d=some (.dT kvs)->StIs H' kvs (stepsF asks says rooms ds face)->H d=none->Same H H'->Q (.ref d) H'
theorem pf {K:PySem.W.Frag}{C hu:Addr}(hh:∀H,SqT K H hu (hushSg.map V.str)) {vs:List V}{H:Hp}{Q:VK}{E:XK}(h:gv C vs H Q E):oX K (qA C hu) (mS K C) { nx:=fun _ H'=>Q .non H',rt:=Q } (aA pX vs) H:=by
 obtain ⟨x,t,face,asks,says,rooms,ds,rfl,M,ht,hsub,hz,k⟩:=h
 have z1:=M.ok.asks4
 have z2:=M.ok.says4
 have zl:(aL asks says).length<=9:=by unfold aL; rw [List.length_append,List.length_append,List.length_map,List.length_map]; show _+1<=9; omega
 have nd:=eQ M.ok
 refine fun d hd=>?_
 have S0:Same H (upd H d (.dT [])):=Same.new hd
 refine ⟨_,rfl,x,asks,says,rooms,ds,rfl,M.same S0,fun l us H1 hl hP S1=>⟨l,rfl,⟨_,SqL.of hl⟩,?_⟩⟩
 refine bG (xs:=us.map V.ref) (fun i σ H'=>∃(kvs:List (TK×V)) (x3 x4:Option V),σ=[some (.ref x),some (.ref t),some (.ref d),x3,x4]/\H' d=some (.dT kvs)/\Same H H'/\(∀b o,H1 b=some o->b≠d->H' b=some o)/\StIs H' kvs (stG rooms ds face ((aL asks says).take i)))
  ⟨[],_,_,rfl,S1 _ _ aa,S0.trans S1,fun _ _ e _=>e,.nil⟩ (fun i σ H' _ ⟨_,_,_,_,_,_,S,_⟩=>SqL.of (S _ _ hl fun e=>by subst e; have:=S1 _ _ (aa (H:=H) (a:=l) (o:=.dT [])); rw [hl] at this; cases this)) ?_ ?_
 ·rintro i y σ H2 hi ⟨kvs,x3,x4,rfl,h2,S2,S12,st⟩
  obtain ⟨u,hu',rfl⟩:=bB hi
  obtain ⟨sg,hsg,hat⟩:=Paired.getL hP hu'
  have hat2:SgA hu H2 u sg:=hat.imp (fun e=>S12 _ _ e fun z=>by subst z; have:=S1 _ _ (aa (H:=H) (a:=u) (o:=.dT [])); rw [e] at this; cases this) id
  refine ⟨_,rfl,_,rfl,_,rfl,x,t,u,face,sg,asks,says,rooms,ds,rfl,M.same S2,S2 _ _ ht,hat2.sq hh,hat2.symm.imp (fun e=>e.2) id,hsub,hz,fun f H3 hf S3=>?_⟩
  have h3:=S3 _ _ h2
  refine ⟨_,rfl,.inl ⟨f,_,rfl,.inr (SqT.of hf),_,_,rfl,rfl,?_⟩⟩
  refine ⟨_,rfl,?_⟩
  have hat3:=hat2.same S3
  have S13:∀b o,H1 b=some o->b≠d->H3 b=some o:=fun b o e n=>S3 _ _ (S12 b o e n)
  have st3:=st.kt (Same.kt S3)
  refine ifQ (P:=behF rooms ds face sg≠[]) ?_ (fun c=>?_) (fun c=>?_)
  ·rw [List.length_map]
   constructor
   ·intro h z; rw [z] at h; exact absurd h (by decide)
   ·intro h; exact decide_eq_true (by have:=List.length_pos_iff.mpr h; omega)
  rotate_left
  ·have c:=Classical.not_not.1 c
   refine ⟨kvs,_,_,rfl,h3,S2.trans S3,S13,?_⟩
   rw [am hsg,nT,if_pos c,List.append_nil]
   exact st3
  ·have no:bO kvs (gTK sg)=none:=st3.no fun p hp e=>by
    have h1:=uQ hp
    rw [e] at h1
    exact g6 nd hsg h1
   have ll:kvs.length<sizeLine:=by
    rw [Paired.length st]
    refine ao ?_
    have h1:=qz (rooms:=rooms) (ds:=ds) (face:=face) (L:=(aL asks says).take i)
    rw [List.length_take] at h1
    omega
   refine ⟨_,rfl,_,rfl,_,rfl,d,u,kvs,gTK sg,rfl,rfl,h3,ii (hat3.tup hh),aS sg,ll,_,_,_,rfl,aa,?_,?_,?_⟩
   ·intro b o e
    rw [af (ad e hd)]
    exact S3 _ _ (S2 _ _ e)
   ·intro b o e n
    rw [af n]
    exact S13 b o e n
   ·rw [eC _ no,am hsg,nT,if_neg c]
    have kt:KT0 H3 (upd H3 d (.dT (kvs++[(gTK sg,.ref f)]))):=ktD h3
    exact Paired.snoc (st3.kt kt) ⟨rfl,f,rfl,kt _ _ hf⟩
 ·rintro σ H2 ⟨kvs,x3,x4,rfl,h2,S2,_,st⟩
  rw [List.length_map,Paired.length hP,List.take_length] at st
  exact ⟨_,rfl,k d kvs H2 h2 st hd S2⟩
def n8:Nat->List (List Str)->List (TK×V)
 | _,[]=>[]
 | n,f::r=>(gTK f,.int (n:Nat))::n8 (n+1) r
theorem lO (f:List Str):∀(fs:List (List Str)) (n:Nat),n8 n (fs++[f])=n8 n fs++[(gTK f,.int ((n+fs.length:Nat)))]
 | [],n=>rfl
 | x::r,n=>by
  show _::n8 (n+1) (r++[f])=_::(n8 (n+1) r++_)
  rw [lO f r (n+1),List.length_cons,show n+1+r.length=n+(r.length+1) by omega]
theorem n6:∀(fs:List (List Str)) (n:Nat),(n8 n fs).length=fs.length
 | [],n=>rfl
 | x::r,n=>by show _+1=_+1; rw [n6 r (n+1)]
theorem fU (f:List Str):∀(fs:List (List Str)) (n:Nat),bO (n8 n fs) (gTK f)=if f∈fs then some (.int ((n+fs.idxOf f:Nat))) else none
 | [],n=>rfl
 | x::r,n=>by
  by_cases c:x=f
  ·subst c
   rw [if_pos List.mem_cons_self]
   show bO ((gTK x,_)::_) _=_
   rw [aY rfl]
   rw [List.idxOf_cons_self]; rfl
  ·show bO ((gTK x,_)::_) _=_
   rw [aV (fun e=>c (fq e)),fU f r (n+1)]
   by_cases d:f∈r
   ·rw [if_pos d,if_pos (List.mem_cons_of_mem _ d)]
    have e:(x::r).idxOf f=r.idxOf f+1:=by rw [List.idxOf_cons,show (x == f)=false from beq_false_of_ne c]; rfl
    rw [e,show n+1+r.idxOf f=n+(r.idxOf f+1) by omega]
   ·rw [if_neg d,if_neg (by simp [Ne.symm c,d])]
abbrev StoryAt (K:PySem.W.Frag) (H:Hp) (w:Addr) (s:List Sg):Prop:=∃gs:List Addr,H w=some (.lst (gs.map V.ref))/\Paired (fun g (sg:Sg)=>TupC K H g (sg.map V.str)) gs s
structure FC (K:PySem.W.Frag) (C:Addr):Prop where
 cls:Cls K C
 a1:NoAttr K C "machine"
 a2:NoAttr K C "faces"
 a3:NoAttr K C "first_stories"
 a4:NoAttr K C "numbers"
 a5:NoAttr K C "steps"
def wY (C:Addr) (H:Hp) (x M fa sa na ta:Addr):Prop:=∃(dx:Addr) (fs:List (Str×V)),H x=some (.ins C dx fs)/\lk "machine" fs=some (.ref M)/\lk "faces" fs=some (.ref fa)/\lk "first_stories" fs=some (.ref sa)/\lk "numbers" fs=some (.ref na)/\lk "steps" fs=some (.ref ta)/\lk "number_at" fs=none/\lk "numbered_steps" fs=none
structure FmAt (K:PySem.W.Frag) (C:Addr) (H:Hp) (x M fa sa na ta:Addr) (us ws:List Addr) (m:FMs):Prop where
 ob:wY C H x M fa sa na ta
 hfa:H fa=some (.lst (us.map V.ref))
 faces:Paired (fun u (f:List Str)=>H u=some (.tup (f.map V.str))) us m.fs
 hsa:H sa=some (.lst (ws.map V.ref))
 stories:Paired (fun w s=>(w≠fa/\w≠sa/\w≠ta)/\StoryAt K H w s) ws m.ss
 hna:H na=some (.dT (n8 0 m.fs))
 ne:fa≠sa/\fa≠ta/\sa≠ta
theorem TupC.kt {K:PySem.W.Frag}{H H':Hp}{a:Addr}{xs:List V}(k:KT0 H H') (h:TupC K H a xs):TupC K H' a xs:=h.keeps k
theorem StoryAt.kt {K:PySem.W.Frag}{H H':Hp}{w:Addr}{s:List Sg}(k:KT0 H H') (e:∀o,H w=some o->H' w=some o) (h:StoryAt K H w s):StoryAt K H' w s:=by
 obtain ⟨gs,h1,h2⟩:=h
 exact ⟨gs,e _ h1,Paired.mapP h2 fun _ _ r=>TupC.kt k r⟩
def Ex3 (fa sa na:Addr) (H H':Hp):Prop:=∀b o,H b=some o->b≠fa->b≠sa->b≠na->H' b=some o
theorem Ex3.refl (fa sa na:Addr) (H:Hp):Ex3 fa sa na H H:=fun _ _ e _ _ _=>e
theorem FmAt.same {K:PySem.W.Frag}{C x M fa sa na ta:Addr}{us ws:List Addr}{m:FMs}{H H':Hp}(h:FmAt K C H x M fa sa na ta us ws m) (S:Same H H'):FmAt K C H' x M fa sa na ta us ws m:=by
 obtain ⟨⟨dx,fs,g,r⟩,h1,h2,h3,h4,h5,h6⟩:=h
 exact ⟨⟨dx,fs,S _ _ g,r⟩,S _ _ h1,Paired.mapP h2 fun _ _ r=>S _ _ r,S _ _ h3,Paired.mapP h4 fun _ _ r=>⟨r.1,r.2.kt (Same.kt S) fun o e=>S _ _ e⟩,S _ _ h5,h6⟩
theorem FmAt.move {K:PySem.W.Frag}{C x M fa sa na ta:Addr}{us ws:List Addr}{m:FMs}{H:Hp}{d:Addr}{o:HO}{kvs:List (TK×V)}(h:FmAt K C H x M fa sa na ta us ws m) (hd:H d=some (.dT kvs)) (n:d≠na):FmAt K C (upd H d o) x M fa sa na ta us ws m:=by
 have k:KT0 H (upd H d o):=ktD hd
 obtain ⟨⟨dx,fs,g,r⟩,h1,h2,h3,h4,h5,h6⟩:=h
 refine ⟨⟨dx,fs,by rw [af (fun z=>by rw [z,hd] at g; cases g)]; exact g,r⟩,by rw [af (fun z=>by rw [z,hd] at h1; cases h1)]; exact h1,Paired.mapP h2 fun _ _ r=>k _ _ r,by rw [af (fun z=>by rw [z,hd] at h3; cases h3)]; exact h3,Paired.mapP h4 fun w s r=>⟨r.1,?_⟩,by rw [af n.symm]; exact h5,h6⟩
 obtain ⟨gs,g1,g2⟩:=r.2
 exact ⟨gs,by rw [af (fun z=>by rw [z,hd] at g1; cases g1)]; exact g1,Paired.mapP g2 fun _ _ r=>TupC.kt k r⟩
def il (K:PySem.W.Frag) (C:Addr):Sp:=fun vs H Q _=>∃(x M fa sa na ta u st:Addr) (us ws:List Addr) (m:FMs) (face:List Str) (story:List Sg),vs=[.ref x,.ref u,.ref st]/\FmAt K C H x M fa sa na ta us ws m/\H u=some (.tup (face.map V.str))/\StoryAt K H st story/\(st≠fa/\st≠sa/\st≠ta)/\m.fs.length<400/\m.ss.length<400 /\
 ∀(us' ws':List Addr) (H':Hp),FmAt K C H' x M fa sa na ta us' ws' (m.add face story)->Ex3 fa sa na H H'->Q (.int (((m.add face story).fs.idxOf face:Nat))) H'
theorem s_ {K:PySem.W.Frag}{C:Addr}(c:FC K C) {vs:List V}{H:Hp}{Q:VK}{E:XK}(h:il K C vs H Q E):eT K { nx:=fun _ H'=>Q .non H',rt:=Q } (aA fu vs) H:=by
 obtain ⟨x,M,fa,sa,na,ta,u,st,us,ws,m,face,story,rfl,F,hu,hst,ns,z1,z2,k⟩:=h
 obtain ⟨dx,fs,g,l1,l2,l3,l4,l5,l6,l7⟩:=F.ob
 have tk:mj K H (gTK face) (.ref u):=TKAt.isIn 8 (aS face) (SignAt.tk hu)
 have g1:nN K H na (.ref u) (bO (n8 0 m.fs) (gTK face)):=.inr ⟨_,_,_,.inl F.hna,rfl,tk,aS face,rfl⟩
 refine ⟨_,rfl,_,rfl,x,C,dx,fs,.ref na,rfl,g,c.cls,c.a4,l4,na,_,rfl,g1,_,rfl,?_⟩
 rw [fU]
 refine ifQ (P:=¬face∈m.fs) (by by_cases c:face∈m.fs <;> simp [c]) (fun nin=>?_) (fun nin=>?_)
 rotate_left
 ·have hin:=Classical.not_not.1 nin
  have e:=FMs.add_in (s:=story) hin
  refine ⟨_,rfl,x,C,dx,fs,.ref na,rfl,g,c.cls,c.a4,l4,_,rfl,na,.int ((m.fs.idxOf face:Nat)),rfl,?_,?_⟩
  ·rw [fU,if_pos hin,Nat.zero_add] at g1
   exact g1
  ·have:=k us ws H (by rw [e]; exact F) (.refl _ _ _ _)
   rw [e] at this
   exact this
 have e:=FMs.add_new (s:=story) nin
 have zl:(us.map V.ref).length=m.fs.length:=by rw [List.length_map,Paired.length F.faces]
 have zs:(ws.map V.ref).length=m.ss.length:=by rw [List.length_map,Paired.length F.stories]
 refine ⟨_,rfl,x,C,dx,fs,.ref fa,rfl,g,c.cls,c.a2,l2,.inl ⟨fa,_,rfl,.inl (SqL.of F.hfa),rfl,_,rfl,?_⟩⟩
 refine ifQ (P:=False) (by rw [zl]; simp; omega) (fun z=>z.elim) fun _=>?_
 have tka:TKAt H (gTK face) (.ref u):=SignAt.tk hu
 refine ⟨_,rfl,x,C,dx,fs,.ref fa,rfl,g,c.cls,c.a2,l2,.inl ⟨fa,_,rfl,.inl (SqL.of F.hfa),_,rfl,x,C,dx,fs,.ref na,rfl,g,c.cls,c.a4,l4,_,rfl,na,_,rfl,.inr ⟨_,_,u,F.hna,rfl,tka,aS face,?_,rfl⟩,?_⟩⟩
 ·rw [n6]; exact ao (by omega)
 rw [eC _ (by rw [fU,if_neg nin]),zl]
 have e1:n8 0 m.fs++[(gTK face,V.int (m.fs.length:Nat))]=n8 0 (m.fs++[face]):=by rw [lO,Nat.zero_add]
 rw [e1]
 have kna:KT0 H (upd H na (.dT (n8 0 (m.fs++[face])))):=ktD F.hna
 generalize hH1:upd H na (.dT (n8 0 (m.fs++[face])))=H1 at kna ⊢
 have nx:x≠na:=fun z=>by rw [z,F.hna] at g; cases g
 have nxf:x≠fa:=fun z=>by rw [z,F.hfa] at g; cases g
 have nxs:x≠sa:=fun z=>by rw [z,F.hsa] at g; cases g
 have nfa:fa≠na:=fun z=>by have:=F.hfa; rw [z,F.hna] at this; cases this
 have nsa:sa≠na:=fun z=>by have:=F.hsa; rw [z,F.hna] at this; cases this
 have fa1:H1 fa=some (.lst (us.map V.ref)):=by rw [<-hH1,af nfa]; exact F.hfa
 have sa1:H1 sa=some (.lst (ws.map V.ref)):=by rw [<-hH1,af nsa]; exact F.hsa
 have g1':H1 x=some (.ins C dx fs):=by rw [<-hH1,af nx]; exact g
 refine ⟨_,rfl,x,C,dx,fs,.ref fa,rfl,g1',c.cls,c.a2,l2,.inl ⟨rfl,_,SqL.of fa1⟩,_,rfl,fa,_,.ref u,rfl,rfl,fa1,?_,?_⟩
 ·rw [zl]; exact ao (by omega)
 generalize hH2:upd H1 fa (.lst (us.map V.ref++[.ref u]))=H2
 have k2:KT0 H1 H2:=by rw [<-hH2]; exact dL fa1
 have sa2:H2 sa=some (.lst (ws.map V.ref)):=by rw [<-hH2,af F.ne.1.symm]; exact sa1
 have g2:H2 x=some (.ins C dx fs):=by rw [<-hH2,af nxf]; exact g1'
 refine ⟨_,rfl,x,C,dx,fs,.ref sa,rfl,g2,c.cls,c.a3,l3,.inl ⟨rfl,_,SqL.of sa2⟩,_,rfl,sa,_,.ref st,rfl,rfl,sa2,?_,?_⟩
 ·rw [zs]; exact ao (by omega)
 generalize hH3:upd H2 sa (.lst (ws.map V.ref++[.ref st]))=H3
 have k3:KT0 H2 H3:=by rw [<-hH3]; exact dL sa2
 have kt:KT0 H H3:=(kna.trans k2).trans k3
 have ex:Ex3 fa sa na H H3:=fun b o e n1 n2 n3=>by rw [<-hH3,af n2,<-hH2,af n1,<-hH1,af n3]; exact e
 have g3:H3 x=some (.ins C dx fs):=ex _ _ g nxf nxs nx
 have na3:H3 na=some (.dT (n8 0 (m.fs++[face]))):=by rw [<-hH3,af nsa.symm,<-hH2,af nfa.symm,<-hH1,aa]
 have fa3:H3 fa=some (.lst ((us++[u]).map V.ref)):=by rw [<-hH3,af F.ne.1,<-hH2,aa,List.map_append]; rfl
 have sa3:H3 sa=some (.lst ((ws++[st]).map V.ref)):=by rw [<-hH3,aa,List.map_append]; rfl
 have sto:∀{w:Addr}{s:List Sg},(w≠fa/\w≠sa/\w≠ta)->StoryAt K H w s->StoryAt K H3 w s:=fun n r=>by
  obtain ⟨gs,q1,q2⟩:=r
  exact ⟨gs,ex _ _ q1 n.1 n.2.1 (fun z=>by rw [z,F.hna] at q1; cases q1),Paired.mapP q2 fun _ _ r=>TupC.kt kt r⟩
 have F3:FmAt K C H3 x M fa sa na ta (us++[u]) (ws++[st]) (m.add face story):=by
  rw [e]
  exact ⟨⟨dx,fs,g3,l1,l2,l3,l4,l5,l6,l7⟩,fa3,Paired.snoc (Paired.mapP F.faces fun _ _ r=>kt _ _ r) (kt _ _ hu),sa3,Paired.snoc (Paired.mapP F.stories fun _ _ r=>⟨r.1,sto r.1 r.2⟩) ⟨ns,sto ns hst⟩,na3,F.ne⟩
 have tk3:mj K H3 (gTK face) (.ref u):=TKAt.isIn 8 (aS face) (SignAt.tk (kt _ _ hu))
 have hin:face∈m.fs++[face]:=by simp
 have g5:nN K H3 na (.ref u) (some (.int ((m.add face story).fs.idxOf face:Nat))):=by
  refine .inr ⟨_,gTK face,u,.inl na3,rfl,tk3,aS face,?_⟩
  rw [fU,if_pos hin,Nat.zero_add,e]
 exact ⟨_,rfl,x,C,dx,fs,.ref na,rfl,g3,c.cls,c.a4,l4,_,rfl,na,_,rfl,g5,k _ _ H3 F3 ex⟩
theorem i0 {d:Addr}{o:Obj}{u:HO}{n:Nat}{ent:Nat->Hp->V->V->Prop}{g:TG}{tb:TS}{D:kL}{σ:L2.St}{H:Hp}(Pv:Nat->L2.St->Hp->Prop) (h0:Pv 0 σ H) (hl:∀i σ H,i<=n->Pv i σ H->H d=some (.frz o u))
  (hs:∀i σ H p a b,i<n->Pv i σ H->H p=none->ent i H a b->g (.ref p) σ (upd H p (.tup [a,b])) fun σ2 H2=>tb { D with nx:=Pv (i+1),ct:=Pv (i+1),bk:=D.nx } σ2 H2) (hd:∀σ H,Pv n σ H->D.nx σ H) :
  ∃W:Nat->Nat->L2.St->Hp->Prop,(∃m,W 0 m σ H)/\∀i m σ H,W i m σ H ->
   ((Iti d o u n ent).stop i H/\D.nx σ H)∨((Iti d o u n ent).go i H/\∃N:L2.St->Hp->Prop,(∀σ' H',N σ' H'->∃m',m'<m/\W (i+1) m' σ' H')/\∀x H',(Iti d o u n ent).yld i H x H'->g x σ H' fun σ2 H2=>tb { D with nx:=N,ct:=N,bk:=D.nx } σ2 H2):=by
 refine ⟨fun i m σ H=>m=n-i/\i<=n/\Pv i σ H,⟨n,by simp,Nat.zero_le _,h0⟩,?_⟩
 rintro i m σ H ⟨rfl,hi,p⟩
 have q:=hl i σ H hi p
 by_cases lt:i<n
 ·refine .inr ⟨⟨q,lt⟩,Pv (i+1),fun σ' H' p'=>⟨n-(i+1),by omega,rfl,lt,p'⟩,fun x H' y=>?_⟩
  obtain ⟨t,a,b,hn,rfl,en,rfl⟩:=y
  exact hs i σ H t a b lt p hn en
 ·have e:i=n:=by omega
  subst e
  exact .inl ⟨⟨q,Nat.le_refl _⟩,hd σ H p⟩
theorem tW {d:Addr}{o:Obj}{u:HO}{n:Nat}{ent:Nat->Hp->V->V->Prop}{g:TG}{tb:TS}{D:kL}{σ:L2.St}{H:Hp}(Pv:Nat->L2.St->Hp->Prop) (h0:Pv 0 σ H) (hl:∀i σ H,i<=n->Pv i σ H->H d=some (.frz o u))
  (hs:∀i σ H a b,i<n->Pv i σ H->ent i H a b->g b σ H fun σ2 H2=>tb { D with nx:=Pv (i+1),ct:=Pv (i+1),bk:=D.nx } σ2 H2) (hd:∀σ H,Pv n σ H->D.nx σ H) :
  ∃W:Nat->Nat->L2.St->Hp->Prop,(∃m,W 0 m σ H)/\∀i m σ H,W i m σ H ->
   ((Itv d o u n ent).stop i H/\D.nx σ H)∨((Itv d o u n ent).go i H/\∃N:L2.St->Hp->Prop,(∀σ' H',N σ' H'->∃m',m'<m/\W (i+1) m' σ' H')/\∀x H',(Itv d o u n ent).yld i H x H'->g x σ H' fun σ2 H2=>tb { D with nx:=N,ct:=N,bk:=D.nx } σ2 H2):=by
 refine ⟨fun i m σ H=>m=n-i/\i<=n/\Pv i σ H,⟨n,by simp,Nat.zero_le _,h0⟩,?_⟩
 rintro i m σ H ⟨rfl,hi,p⟩
 have q:=hl i σ H hi p
 by_cases lt:i<n
 ·refine .inr ⟨⟨q,lt⟩,Pv (i+1),fun σ' H' p'=>⟨n-(i+1),by omega,rfl,lt,p'⟩,fun x H' y=>?_⟩
  obtain ⟨rfl,a,en⟩:=y
  exact hs i σ _ a x lt p en
 ·have e:i=n:=by omega
  subst e
  exact .inl ⟨⟨q,Nat.le_refl _⟩,hd σ H p⟩
def stK (l:List (Sg×Nat)):List (TK×V):=l.map fun a=>(gTK a.1,.int (a.2:Nat))
def ExL (L:List Addr) (H H':Hp):Prop:=∀b o,H b=some o->b∉L->H' b=some o
theorem ExL.refl (L:List Addr) (H:Hp):ExL L H H:=fun _ _ e _=>e
theorem ExL.trans {L:List Addr}{H H1 H2:Hp}(a:ExL L H H1) (b:ExL L H1 H2):ExL L H H2:=fun c o e n=>b c o (a c o e n) n
theorem Same.exL {L:List Addr}{H H':Hp}(S:Same H H'):ExL L H H':=fun b o e _=>S b o e
theorem Ex3.exL {fa sa na:Addr}{L:List Addr}{H H':Hp}(a:Ex3 fa sa na H H') (s:fa∈L/\sa∈L/\na∈L):ExL L H H':=fun b o e n=>a b o e (fun z=>n (z ▸ s.1)) (fun z=>n (z ▸ s.2.1)) (fun z=>n (z ▸ s.2.2))
theorem ExL.upd {L:List Addr}{H:Hp}{d:Addr}{o:HO}(h:d∈L):ExL L H (upd H d o):=fun b u e n=>by rw [af (fun z:b=d=>n (by rw [z]; exact h))]; exact e
theorem Good.grow_len {rooms:List Str}{m:FMs}(g:Good rooms m) (hr:rooms.length<=8):m.fs.length<400/\m.ss.length<400:=by
 have h1:=g.few hr
 have h2:=g.len
 omega
theorem kT {K:PySem.W.Frag}{H:Hp}:∀{sg:List Str}{xs:List V},TKCs K H (sg.map sTK) xs->xs=sg.map V.str
 | [],xs,h=>by rw [List.map_nil] at h; unfold TKCs at h; exact h
 | s::sg,xs,h=>by
  rw [List.map_cons] at h
  unfold TKCs at h
  obtain ⟨v,us,rfl,h1,h2⟩:=h
  unfold sTK TKC at h1
  rw [h1,kT h2]
  rfl
theorem nP {K:PySem.W.Frag}{H:Hp}{sg:List Str}{a:V}(h:TKC K H (gTK sg) a):∃b,a=.ref b/\TupC K H b (sg.map V.str):=by
 unfold gTK TKC at h
 obtain ⟨b,xs,rfl,h1,h2⟩:=h
 rw [kT h2] at h1
 exact ⟨b,rfl,h1⟩
theorem lh {asks says rooms face:List Str}{ds:List ar}(m:ModelOk asks says rooms ds):((stepsF asks says rooms ds face).map (·.1)).Nodup:=by
 have nd:=eQ m
 unfold stepsF
 refine List.Nodup.sublist (List.Sublist.map _ List.filter_sublist) ?_
 rw [List.map_map]
 have e:((fun p:Sg×List Str=>p.1) ∘ fun sg=>(sg,behF rooms ds face sg))=id:=rfl
 rw [e,List.map_id]
 exact nd
theorem lM (s:List Sg) (m:FMs) (L:List (Sg×List Str)):(fm s m L).2.map (·.1)=L.map (·.1):=by
 have key:∀n,n<=L.length->(fm s m (L.take n)).2.map (·.1)=(L.take n).map (·.1):=by
  intro n
  induction n with
  | zero=>intro _; rfl
  | succ n ih =>
   intro hn
   have hp:L[n]?=some L[n]:=List.getElem?_eq_getElem (by omega)
   rw [am hp,fT]
   show ((fm s m (L.take n)).2++[(L[n].1,_)]).map (fun a:Sg×Nat=>a.1)=_
   rw [List.map_append,List.map_append,ih (by omega)]
   rfl
 have:=key L.length (Nat.le_refl _)
 rw [List.take_length] at this
 exact this
theorem Grow.atS {m m':FMs}(h:Grow m m') {i:Nat}{f:List Sg}(e:m.ss[i]?=some f):m'.ss[i]?=some f:=by
 obtain ⟨_,⟨r,q⟩⟩:=h
 rw [q,List.getElem?_append_left (by rcases Nat.lt_or_ge i m.ss.length with z | z; exact z; rw [List.getElem?_eq_none z] at e; cases e),e]
theorem FmAt.ex3 {K:PySem.W.Frag}{C x M fa sa na ta:Addr}{us ws:List Addr}{m:FMs}{H H':Hp}(h:FmAt K C H x M fa sa na ta us ws m) (e:Ex3 fa sa na H H'):KT0 H H':=fun b xs q =>
 e b _ q (fun z=>by rw [z,h.hfa] at q; cases q) (fun z=>by rw [z,h.hsa] at q; cases q) (fun z=>by rw [z,h.hna] at q; cases q)
def fe (K:PySem.W.Frag) (C Cm:Addr):Sp:=fun vs H Q _=>∃(x M fa sa na ta:Addr) (us ws:List Addr) (m:FMs) (n:Nat) (asks says rooms:List Str) (ds:List ar),vs=[.ref x,.int (n:Nat)]/\FmAt K C H x M fa sa na ta us ws m/\MachAt Cm H M asks says rooms ds/\Good rooms m/\rooms.length<=8/\n<m.fs.length/\(∃vs,H ta=some (.lst vs)) /\
 ∀(d:Addr) (us' ws':List Addr) (H':Hp),FmAt K C H' x M fa sa na ta us' ws' (fm (m.ss.getD n []) m (stepsF asks says rooms ds (m.fs.getD n []))).1->H' d=some (.dT (stK (fm (m.ss.getD n []) m (stepsF asks says rooms ds (m.fs.getD n []))).2))->H d=none->ExL [fa,sa,na] H H'->Q (.ref d) H'
theorem mZ {K:PySem.W.Frag}{C Cm:Addr}(c:FC K C) {vs:List V}{H:Hp}{Q:VK}{E:XK}(h:fe K C Cm vs H Q E):cY K (gv Cm) C (il K C) { nx:=fun _ H'=>Q .non H',rt:=Q } (aA df vs) H:=by
 obtain ⟨x,M,fa,sa,na,ta,us,ws,m,n,asks,says,rooms,ds,rfl,F,MA,gd,hr,hn,⟨tvs,hta⟩,k⟩:=h
 have hfn:m.fs[n]?=some m.fs[n]:=List.getElem?_eq_getElem hn
 have hsn:n<m.ss.length:=by rw [gd.len]; exact hn
 have hss:m.ss[n]?=some m.ss[n]:=List.getElem?_eq_getElem hsn
 have ef:m.fs.getD n []=m.fs[n]:=by simp [hn]
 have es:m.ss.getD n []=m.ss[n]:=by simp [hsn]
 rw [ef,es] at k
 have hF:=gd.isF m.fs[n] (List.getElem_mem _)
 have hFl:=hF.len
 obtain ⟨u,hu,hut⟩:=Paired.get F.faces hfn
 obtain ⟨w,hw,hwn,hwt⟩:=Paired.get F.stories hss
 have atw:atI (ws.map V.ref) n=some (.ref w):=cE (by rw [List.getElem?_map,hw]; rfl)
 have atu:atI (us.map V.ref) n=some (.ref u):=cE (by rw [List.getElem?_map,hu]; rfl)
 refine fun d hd=>?_
 have S0:Same H (upd H d (.dT [])):=Same.new hd
 have F0:=F.same S0
 obtain ⟨dx,fs,g,l1,l2,l3,l4,l5,l6,l7⟩:=F0.ob
 refine ⟨_,rfl,x,C,dx,fs,.ref M,rfl,g,c.cls,c.a1,l1,_,rfl,x,C,dx,fs,.ref fa,rfl,g,c.cls,c.a2,l2,_,rfl,fa,_,_,_,rfl,rfl,SqL.of F0.hfa,atu,M,u,m.fs[n],asks,says,rooms,ds,rfl,MA.same S0,S0 _ _ hut,hF.sub,by omega,fun d0 kvs H1 hd0 st hd0' S1=>?_⟩
 have F1:=F0.same S1
 have nd0:d0≠d:=fun z=>by rw [z,aa] at hd0'; cases hd0'
 have fr:∀{b:Addr}{o:HO},H b=some o->b≠d0:=fun e=>ad (S0 _ _ e) hd0'
 have frd:∀{b:Addr}{o:HO},H b=some o->b≠d:=fun e=>ad e hd
 obtain ⟨dx',fs',gx,_⟩:=F.ob
 refine ⟨d0,kvs,rfl,.inl ⟨hd0,fun o=>?_⟩⟩
 have F2:=F1.move (o:=.frz o (.dT kvs)) hd0 (Ne.symm (fr F.hna))
 have kt12:KT0 H1 (upd H1 d0 (.frz o (.dT kvs))):=ktD hd0
 have d2:upd H1 d0 (.frz o (.dT kvs)) d=some (.dT []):=by rw [af nd0.symm]; exact S1 _ _ aa
 have ta2:upd H1 d0 (.frz o (.dT kvs)) ta=some (.lst tvs):=by rw [af (fr hta)]; exact S1 _ _ (S0 _ _ hta)
 have f2:upd H1 d0 (.frz o (.dT kvs)) d0=some (.frz o (.dT kvs)):=aa
 have e02:∀b o',H b=some o'->upd H1 d0 (.frz o (.dT kvs)) b=some o':=fun b o' e=>by rw [af (fr e)]; exact S1 _ _ (S0 _ _ e)
 have st2:=st.kt kt12
 generalize upd H1 d0 (.frz o (.dT kvs))=H2 at F2 kt12 d2 ta2 f2 st2 e02 ⊢
 have hLF:∀p∈stepsF asks says rooms ds m.fs[n],IsF rooms p.2:=eB hF
 have zL:(stepsF asks says rooms ds m.fs[n]).length<=9:=by
  have z1:=MA.ok.asks4
  have z2:=MA.ok.says4
  refine Nat.le_trans (qz (L:=aL asks says)) ?_
  unfold aL; rw [List.length_append,List.length_append,List.length_map,List.length_map]; show _+1<=9; omega
 have ndL:=lh (face:=m.fs[n]) MA.ok
 generalize stepsF asks says rooms ds m.fs[n]=L at st st2 hLF ndL zL k ⊢
 have gq:∀i,Good rooms (fm m.ss[n] m (L.take i)).1/\Grow m (fm m.ss[n] m (L.take i)).1:=fun i=>by
  obtain ⟨h1,h2,_⟩:=lN (s:=m.ss[n]) gd (by have:=gd.sl _ _ hss; omega) (L.take i) fun p hp=>hLF p (List.mem_of_mem_take hp)
  exact ⟨h1,h2⟩
 have nfd:fa≠d:=frd F.hfa
 have nsd:sa≠d:=frd F.hsa
 have nnd:na≠d:=frd F.hna
 refine i0 (fun i σ H'=>∃(us' ws':List Addr) (x3 x4:Option V),σ=[some (.ref x),some (.int (n:Nat)),some (.ref d),x3,x4]/\FmAt K C H' x M fa sa na ta us' ws' (fm m.ss[n] m (L.take i)).1/\H' d=some (.dT (stK (fm m.ss[n] m (L.take i)).2))/\ExL [fa,sa,na,d] H2 H'/\KT0 H2 H')
  ⟨us,ws,_,_,rfl,F2,d2,.refl _ _,fun _ _ e=>e⟩ ?_ ?_ ?_
 ·rintro i σ H' _ ⟨_,_,_,_,_,_,_,ex,_⟩
  exact ex _ _ f2 (by simp [Ne.symm (fr F.hfa),Ne.symm (fr F.hsa),Ne.symm (fr F.hna),nd0])
 ·rintro i σ H3 p a b hi ⟨us',ws',x3,x4,rfl,F3,d3,ex3,kt3⟩ hp ⟨key,ek,tkc⟩
  obtain ⟨pr,hpr,rfl,uf,rfl,huf⟩:=Paired.getL st2 ek
  obtain ⟨sga,rfl,hsga⟩:=nP tkc
  obtain ⟨gd3,gr3⟩:=gq i
  obtain ⟨z1,z2⟩:=gd3.grow_len hr
  obtain ⟨w',hw',hwn',gs,hg1,hg2⟩:=Paired.get F3.stories (gr3.atS hss)
  have atw':atI (ws'.map V.ref) n=some (.ref w'):=cE (by rw [List.getElem?_map,hw']; rfl)
  have Sp:Same H3 (upd H3 p (.tup [.ref sga,.ref uf])):=Same.new hp
  have hp4:upd H3 p (.tup [.ref sga,.ref uf]) p=some (.tup [.ref sga,.ref uf]):=aa
  generalize upd H3 p (.tup [.ref sga,.ref uf])=H4 at Sp hp4 ⊢
  refine ⟨p,_,rfl,SqT.of hp4,rfl,_,_,rfl,_,_,rfl,rfl,?_⟩
  have F4:=F3.same Sp
  obtain ⟨dx4,fs4,g4,m1,m2,m3,m4,m5,m6,m7⟩:=F4.ob
  have hw4:=Sp _ _ hg1
  refine ⟨_,rfl,x,dx4,fs4,rfl,g4,m6,_,rfl,_,rfl,x,C,dx4,fs4,.ref sa,rfl,g4,c.cls,c.a3,m3,_,rfl,sa,_,_,_,rfl,rfl,SqL.of F4.hsa,atw',_,rfl,(by show 1<=sizeLine; decide),fun ll hll=>?_⟩
  have Sl:Same H4 (upd H4 ll (.lst [.ref sga])):=Same.new hll
  have hl5:upd H4 ll (.lst [.ref sga]) ll=some (.lst [.ref sga]):=aa
  generalize upd H4 ll (.lst [.ref sga])=H5 at Sl hl5 ⊢
  have zw:gs.length<=400:=by rw [Paired.length hg2]; have:=gd.sl _ _ hss; have:=gd.few hr; omega
  refine ⟨w',ll,_,_,rfl,rfl,Sl _ _ hw4,hl5,(by rw [List.length_map]; exact Nat.le_of_lt (ao (by show _+1<=1000; omega))),fun p2 hp2=>?_⟩
  have S2:Same H5 (upd H5 p2 (.lst (gs.map V.ref++[.ref sga]))):=Same.new hp2
  have hp6:upd H5 p2 (.lst (gs.map V.ref++[.ref sga])) p2=some (.lst ((gs++[sga]).map V.ref)):=by rw [aa,List.map_append]; rfl
  generalize upd H5 p2 (.lst (gs.map V.ref++[.ref sga]))=H6 at S2 hp6 ⊢
  have S36:Same H3 H6:=(Sp.trans Sl).trans S2
  have F6:=F3.same S36
  have ta3:H3 ta=some (.lst tvs):=ex3 _ _ ta2 (by simp [F.ne.2.1.symm,F.ne.2.2.symm,frd hta]; exact fun z=>by rw [z,F.hna] at hta; cases hta)
  have np:∀{b:Addr}{o:HO},H3 b=some o->p2≠b:=fun e=>Ne.symm (ad (Sl _ _ (Sp _ _ e)) hp2)
  have sto:StoryAt K H6 p2 (m.ss[n]++[pr.1]):=⟨gs++[sga],hp6,Paired.snoc (Paired.mapP hg2 fun _ _ r=>TupC.kt (Same.kt S36) r) (TupC.kt (Same.kt S36) hsga)⟩
  refine ⟨x,M,fa,sa,na,ta,uf,p2,us',ws',_,pr.2,m.ss[n]++[pr.1],rfl,F6,S36 _ _ (kt3 _ _ huf),sto,⟨np F3.hfa,np F3.hsa,np ta3⟩,z1,z2,fun us'' ws'' H7 F7 e7=>?_⟩
  have k67:=F6.ex3 e7
  have k37:KT0 H3 H7:=(Same.kt S36).trans k67
  have d7:H7 d=some (.dT (stK (fm m.ss[n] m (L.take i)).2)):=e7 _ _ (S36 _ _ d3) nfd.symm nsd.symm nnd.symm
  have ek7:bO (stK (fm m.ss[n] m (L.take i)).2) (gTK pr.1)=none:=by
   refine p_ fun kv hkv e=>?_
   obtain ⟨q,hq,rfl⟩:=List.mem_map.1 hkv
   have h1:q.1∈(L.take i).map (·.1):=by rw [<-lM m.ss[n] m]; exact List.mem_map_of_mem hq
   rw [fq e,List.map_take] at h1
   exact g6 ndL (by rw [List.getElem?_map,hpr]; rfl) h1
  have l7:(stK (fm m.ss[n] m (L.take i)).2).length<sizeLine:=by
   have h1:=congrArg List.length (lM m.ss[n] m (L.take i))
   rw [List.length_map,List.length_map,List.length_take] at h1
   unfold stK
   rw [List.length_map,h1]
   exact ao (by omega)
  refine ⟨_,rfl,_,rfl,d,sga,_,gTK pr.1,rfl,rfl,d7,ii (TupC.kt k37 hsga),aS _,l7,us'',ws'',_,_,rfl,?_,?_,?_,?_⟩
  ·rw [am hpr,fT]
   exact F7.move d7 (Ne.symm nnd)
  ·rw [aa,eC _ ek7,am hpr,fT]
   show _=some (HO.dT (stK ((fm m.ss[n] m (L.take i)).2++[_])))
   unfold stK
   rw [List.map_append]
   rfl
  ·exact (ex3.trans (Same.exL S36)).trans ((e7.exL ⟨by simp,by simp,by simp⟩).trans (ExL.upd (by simp)))
  ·exact (kt3.trans k37).trans (ktD d7)
 ·rintro σ H3 ⟨us',ws',x3,x4,rfl,F3,d3,ex3,kt3⟩
  rw [Paired.length st,List.take_length] at F3 d3
  refine ⟨_,rfl,k d us' ws' H3 F3 d3 hd fun b o' e nb=>ex3 _ _ (e02 _ _ e) ?_⟩
  simp at nb ⊢
  exact ⟨nb.1,nb.2.1,nb.2.2,frd e⟩
abbrev kJ (H0:Hp) (na:Addr) (H:Hp) (ts:List Addr) (st:List (List (Sg×Nat))):Prop:=Paired (fun d l=>H0 d=none/\d≠na/\H d=some (.dT (stK l))) ts st
def iH (K:PySem.W.Frag) (C Cm:Addr):Sp:=fun vs H Q _=>∃(H0:Hp) (x dx M:Addr) (asks says rooms:List Str) (ds:List ar),vs=[.ref x,.ref M]/\H x=some (.ins C dx [])/\MachAt Cm H0 M asks says rooms ds/\H0 x=none/\Same H0 H/\rooms.length<=8 /\
 ∀(fa sa na ta:Addr) (us ws ts:List Addr) (S:uE) (j:Nat) (H':Hp),FmAt K C H' x M fa sa na ta us ws S.1->H' ta=some (.lst (ts.map V.ref))->kJ H0 na H' ts S.2->vH asks says rooms ds S->S.2.length=S.1.fs.length->S=itF asks says rooms ds j->Same H0 H'->Q .non H'
theorem FmAt.moveT {K:PySem.W.Frag}{C x M fa sa na ta:Addr}{us ws:List Addr}{m:FMs}{H:Hp}{xs ys:List V}(h:FmAt K C H x M fa sa na ta us ws m) (ht:H ta=some (.lst xs)):FmAt K C (upd H ta (.lst ys)) x M fa sa na ta us ws m:=by
 have k:KT0 H (upd H ta (.lst ys)):=dL ht
 obtain ⟨⟨dx,fs,g,r⟩,h1,h2,h3,h4,h5,h6⟩:=h
 refine ⟨⟨dx,fs,by rw [af (fun z=>by rw [z,ht] at g; cases g)]; exact g,r⟩,by rw [af h6.2.1]; exact h1,Paired.mapP h2 fun _ _ r=>k _ _ r,by rw [af h6.2.2]; exact h3,Paired.mapP h4 fun w s r=>⟨r.1,?_⟩,by rw [af (fun z=>by rw [z,ht] at h5; cases h5)]; exact h5,h6⟩
 obtain ⟨gs,g1,g2⟩:=r.2
 exact ⟨gs,by rw [af r.1.2.2]; exact g1,Paired.mapP g2 fun _ _ r=>TupC.kt k r⟩
theorem qK {K:PySem.W.Frag}{C Cm:Addr}(c:FC K C) {vs:List V}{H:Hp}{Q:VK}{E:XK}(h:iH K C Cm vs H Q E):fH K C (fe K C Cm) (il K C) (bA Cm) { nx:=fun _ H'=>Q .non H',rt:=Q } (aA gg vs) H:=by
 obtain ⟨H0,x,dx,M,asks,says,rooms,ds,rfl,hx,MA,hx0,S0,hr,k⟩:=h
 have up:∀{H1 H2:Hp}{o:HO},Same H0 H1->H2=upd H1 x o->Same H0 H2:=fun S e b o q=>by rw [e,af (ad q hx0)]; exact S _ _ q
 refine ⟨_,rfl,_,rfl,x,C,dx,[],rfl,hx,c.cls,c.a1,(by decide),?_⟩
 obtain ⟨H1,e1,hx1,X1⟩:=pO "machine" (.ref M) hx
 rw [<-e1]
 have S1:=up S0 e1
 have len1:(cf ("machine":Str) (.ref M) []).length<=1:=bt _ _ _
 refine ⟨(by show 0<=sizeLine; decide),fun fa hfa=>⟨_,rfl,x,C,dx,_,rfl,kp hx1 hfa,c.cls,c.a2,by omega,?_⟩⟩
 obtain ⟨H2,e2,hx2,X2⟩:=pO "faces" (.ref fa) (kp (x:=.lst []) hx1 hfa)
 rw [<-e2]
 have S2:=up (S1.trans (Same.new hfa)) e2
 have nf:fa≠x:=(ad hx1 hfa).symm
 have fa2:=X2 _ _ aa nf
 have len2:=bt ("faces":Str) (.ref fa) (cf ("machine":Str) (.ref M) [])
 refine ⟨(by show 0<=sizeLine; decide),fun sa hsa=>⟨_,rfl,x,C,dx,_,rfl,kp hx2 hsa,c.cls,c.a3,by omega,?_⟩⟩
 obtain ⟨H3,e3,hx3,X3⟩:=pO "first_stories" (.ref sa) (kp (x:=.lst []) hx2 hsa)
 rw [<-e3]
 have S3:=up (S2.trans (Same.new hsa)) e3
 have ns:sa≠x:=(ad hx2 hsa).symm
 have sa3:=X3 _ _ aa ns
 have fa3:=X3 _ _ (kp (x:=.lst []) fa2 hsa) nf
 have nfs:fa≠sa:=ad fa2 hsa
 have len3:=bt ("first_stories":Str) (.ref sa) (cf ("faces":Str) (.ref fa) (cf ("machine":Str) (.ref M) []))
 refine fun na hna=>⟨_,rfl,x,C,dx,_,rfl,kp hx3 hna,c.cls,c.a4,by omega,?_⟩
 obtain ⟨H4,e4,hx4,X4⟩:=pO "numbers" (.ref na) (kp (x:=.dT []) hx3 hna)
 rw [<-e4]
 have S4:=up (S3.trans (Same.new hna)) e4
 have nn:na≠x:=(ad hx3 hna).symm
 have na4:=X4 _ _ aa nn
 have fa4:=X4 _ _ (kp (x:=.dT []) fa3 hna) nf
 have sa4:=X4 _ _ (kp (x:=.dT []) sa3 hna) ns
 have len4:=bt ("numbers":Str) (.ref na) (cf ("first_stories":Str) (.ref sa) (cf ("faces":Str) (.ref fa) (cf ("machine":Str) (.ref M) [])))
 refine ⟨(by show 0<=sizeLine; decide),fun ta hta=>⟨_,rfl,x,C,dx,_,rfl,kp hx4 hta,c.cls,c.a5,by omega,?_⟩⟩
 obtain ⟨H5,e5,hx5,X5⟩:=pO "steps" (.ref ta) (kp (x:=.lst []) hx4 hta)
 rw [<-e5]
 have S5:=up (S4.trans (Same.new hta)) e5
 have nt:ta≠x:=(ad hx4 hta).symm
 have ta5:=X5 _ _ aa nt
 have fa5:=X5 _ _ (kp (x:=.lst []) fa4 hta) nf
 have sa5:=X5 _ _ (kp (x:=.lst []) sa4 hta) ns
 have na5:=X5 _ _ (kp (x:=.lst []) na4 hta) nn
 have F5:FmAt K C H5 x M fa sa na ta [] [] ⟨[],[]⟩:=by
  refine ⟨⟨dx,_,hx5,?_,?_,?_,?_,?_,?_,?_⟩,fa5,.nil,sa5,.nil,na5,nfs,ad fa4 hta,ad sa4 hta⟩
  all_goals (show List.lookup _ _=_; repeat (rw [bv]; first | rw [if_pos rfl] | rw [if_neg (by decide +kernel)]))
  all_goals rfl
 clear e1 hx1 X1 len1 e2 hx2 X2 fa2 len2 e3 hx3 X3 sa3 fa3 len3 e4 hx4 X4 na4 fa4 sa4 len4 e5 hx5 X5 up
 obtain ⟨dx5,fs5,g5,l1,l2,l3,l4,l5,l6,l7⟩:=id F5.ob
 have M5:=MA.same S5
 refine ⟨_,rfl,x,dx5,fs5,rfl,g5,l6,_,rfl,M,asks,says,rooms,ds,rfl,M5,fun f0 FF H6 hf0 hF S6=>⟨(by show 0<=sizeLine; decide),fun st hst=>?_⟩⟩
 rw [kI hF] at hf0
 have S7:Same H6 (upd H6 st (.lst [])):=Same.new hst
 have st7:upd H6 st (.lst []) st=some (.lst []):=aa
 generalize upd H6 st (.lst [])=H7 at S7 st7 ⊢
 have S57:Same H5 H7:=Same.trans S6 S7
 have F7:=F5.same S57
 have np:∀{b:Addr}{o:HO},H5 b=some o->st≠b:=fun e=>Ne.symm (ad (S6 _ _ e) hst)
 refine ⟨x,M,fa,sa,na,ta,f0,st,[],[],⟨[],[]⟩,_,[],rfl,F7,S7 _ _ hf0,⟨[],st7,.nil⟩,⟨np fa5,np sa5,np ta5⟩,(by show 0<400; decide),(by show 0<400; decide),fun us ws H8 F8 e8=>?_⟩
 have nta:ta≠na:=fun z=>by rw [z,na5] at ta5; cases ta5
 have ta8:H8 ta=some (.lst (([]:List Addr).map V.ref)):=e8 _ _ (S57 _ _ ta5) F5.ne.2.1.symm F5.ne.2.2.symm nta
 have in0:∀{b:Addr}{o:HO},H0 b=some o->b≠fa/\b≠sa/\b≠na:=fun e=>⟨ad (S1 _ _ e) hfa,ad (S2 _ _ e) hsa,ad (S3 _ _ e) hna⟩
 have S08:Same H0 H8:=fun b o e=>by
  obtain ⟨n1,n2,n3⟩:=in0 e
  exact e8 _ _ (S57 _ _ (S5 _ _ e)) n1 n2 n3
 refine ⟨fun m σ H'=>σ=[some (.ref x),some (.ref M)]/\∃(us ws ts:List Addr) (j:Nat),m=300-j/\FmAt K C H' x M fa sa na ta us ws (itF asks says rooms ds j).1/\H' ta=some (.lst (ts.map V.ref))/\kJ H0 na H' ts (itF asks says rooms ds j).2/\vH asks says rooms ds (itF asks says rooms ds j)/\(itF asks says rooms ds j).2.length=j/\Same H0 H',⟨300,rfl,us,ws,[],0,rfl,F8,ta8,.nil,rP,rfl,S08⟩,?_⟩
 rintro m σ H9 ⟨rfl,us9,ws9,ts,j,rfl,F9,ta9,st9,ok9,lj,S09⟩
 obtain ⟨dx9,fs9,g9,m1,m2,m3,m4,m5,m6,m7⟩:=id F9.ob
 refine ⟨_,rfl,x,C,dx9,fs9,.ref ta,rfl,g9,c.cls,c.a5,m5,.inl ⟨ta,_,rfl,.inl (SqL.of ta9),_,rfl,x,C,dx9,fs9,.ref fa,rfl,g9,c.cls,c.a2,m2,.inl ⟨fa,_,rfl,.inl (SqL.of F9.hfa),_,_,rfl,rfl,_,rfl,?_⟩⟩⟩
 have z1:(ts.map V.ref).length=j:=by rw [List.length_map,Paired.length st9,lj]
 have z2:(us9.map V.ref).length=(itF asks says rooms ds j).1.fs.length:=by rw [List.length_map,Paired.length F9.faces]
 have z3:=ok9.good.few hr
 refine ifQ (P:=j<(itF asks says rooms ds j).1.fs.length) (by rw [z1,z2]; simp) (fun lt=>?_) (fun ge=>?_)
 ·have nxt:nextF asks says rooms ds (itF asks says rooms ds j)=itF asks says rooms ds (j+1):=rfl
  have ok10:vH asks says rooms ds (itF asks says rooms ds (j+1)):=rO ok9 (by rw [lj]; exact lt)
  have fr9:∀{b:Addr}{o:HO},H9 b=some o->∀{d:Addr},H9 d=none->d≠b:=fun e d h=>Ne.symm (ad e h)
  refine ⟨fun σ' H'=>σ'=[some (.ref x),some (.ref M)]/\∃(us ws ts:List Addr),FmAt K C H' x M fa sa na ta us ws (itF asks says rooms ds (j+1)).1/\H' ta=some (.lst (ts.map V.ref))/\kJ H0 na H' ts (itF asks says rooms ds (j+1)).2/\Same H0 H',fun σ' H' ⟨e,us,ws,ts,q1,q2,q3,q4⟩=>⟨300-(j+1),by omega,e,us,ws,ts,j+1,rfl,q1,q2,q3,ok10,?_,q4⟩,?_⟩
  ·show (_++[_]).length=j+1
   rw [List.length_append,lj]; rfl
  refine ⟨_,rfl,x,C,dx9,fs9,.ref ta,rfl,g9,c.cls,c.a5,m5,.inl ⟨rfl,_,SqL.of ta9⟩,_,rfl,x,dx9,fs9,rfl,g9,m7,_,rfl,x,C,dx9,fs9,.ref ta,rfl,g9,c.cls,c.a5,m5,.inl ⟨ta,_,rfl,.inl (SqL.of ta9),?_⟩⟩
  refine ⟨x,M,fa,sa,na,ta,us9,ws9,_,j,asks,says,rooms,ds,by rw [z1]; rfl,F9,MA.same S09,ok9.good,hr,lt,⟨_,ta9⟩,fun d us' ws' H10 F10 hd hdn ex=>?_⟩
  have nta9:ta∉[fa,sa,na]:=by simp [F9.ne.2.1.symm,F9.ne.2.2.symm,nta]
  have ta10:=ex _ _ ta9 nta9
  have S010:Same H0 H10:=fun b o e=>by
   obtain ⟨n1,n2,n3⟩:=in0 e
   exact ex _ _ (S09 _ _ e) (by simp [n1,n2,n3])
  have st10:kJ H0 na H10 ts (itF asks says rooms ds j).2:=Paired.mapP st9 fun d l ⟨q1,q2,q3⟩=>⟨q1,q2,ex _ _ q3 (by
   simp [q2]
   exact ⟨(fun z=>by rw [z,F9.hfa] at q3; cases q3),(fun z=>by rw [z,F9.hsa] at q3; cases q3)⟩)⟩
  have d0:H0 d=none:=S09.free hdn
  have ndt:d≠ta:=fr9 ta9 hdn
  refine ⟨ta,_,.ref d,rfl,rfl,ta10,?_,rfl,us',ws',ts++[d],?_,?_,?_,?_⟩
  ·rw [z1]; exact ao (by omega)
  ·have e:(itF asks says rooms ds (j+1)).1=(fm ((itF asks says rooms ds j).1.ss.getD j []) (itF asks says rooms ds j).1 (stepsF asks says rooms ds ((itF asks says rooms ds j).1.fs.getD j []))).1:=by
    show (nextF asks says rooms ds (itF asks says rooms ds j)).1=_
    unfold nextF; rw [lj]
   rw [e]
   exact F10.moveT ta10
  ·rw [aa,List.map_append]; rfl
  ·have e:(itF asks says rooms ds (j+1)).2=(itF asks says rooms ds j).2++[(fm ((itF asks says rooms ds j).1.ss.getD j []) (itF asks says rooms ds j).1 (stepsF asks says rooms ds ((itF asks says rooms ds j).1.fs.getD j []))).2]:=by
    show (nextF asks says rooms ds (itF asks says rooms ds j)).2=_
    unfold nextF; rw [lj]
   rw [e]
   exact Paired.snoc (Paired.mapP st10 fun d l ⟨q1,q2,q3⟩=>⟨q1,q2,by rw [af (fun z=>by rw [z,ta10] at q3; cases q3)]; exact q3⟩) ⟨d0,fr9 F9.hna hdn,by rw [af ndt]; exact hd⟩
  ·intro b o e
   have h1:=S010 _ _ e
   rw [af (fun z=>?_)]
   ·exact h1
   ·have h4:=S4 _ _ e
    rw [z,hta] at h4; cases h4
 ·have e:=ok9.le
  exact k fa sa na ta us9 ws9 ts _ j H9 F9 ta9 st9 ok9 (by omega) rfl S09
section
variable {α:Type} [DecidableEq α]
def mt (c:List (α×Int)) (k:α):Int:=((c.find? fun p=>decide (p.1=k)).map (·.2)).getD 0
def upC (c:List (α×Int)) (k:α) (n:Int):List (α×Int):=if (c.any fun p=>decide (p.1=k))=true then c.map (fun p=>if p.1=k then (p.1,mt c k+n) else p) else c++[(k,mt c k+n)]
def onC (succ:α->List α) (c:List (α×Int)):List (α×Int):=c.foldl (fun acc p=>(succ p.1).foldl (fun acc g=>upC acc g p.2) acc) []
def itC (succ:α->List α) (a:α):Nat->List (α×Int)
 | 0=>[(a,1)]
 | n+1=>onC succ (itC succ a n)
def bo {κ:Type}(e:α->κ) (c:List (α×Int)):List (κ×V):=c.map fun p=>(e p.1,.int p.2)
theorem any_iff {c:List (α×Int)}{k:α}:(c.any fun p=>decide (p.1=k))=true↔k∈c.map (·.1):=by
 rw [List.any_eq_true,List.mem_map]
 exact ⟨fun ⟨p,h,e⟩=>⟨p,h,of_decide_eq_true e⟩,fun ⟨p,h,e⟩=>⟨p,h,decide_eq_true e⟩⟩
theorem vQ {c:List (α×Int)}{k:α}{n:Int}(h:k∈c.map (·.1)):(upC c k n).map (·.1)=c.map (·.1):=by
 unfold upC
 rw [if_pos (any_iff.2 h),List.map_map]
 refine List.map_congr_left fun p _=>?_
 show (if p.1=k then (p.1,mt c k+n) else p).1=p.1
 split <;> rfl
theorem mw {c:List (α×Int)}{k:α}{n:Int}(h:¬k∈c.map (·.1)):upC c k n=c++[(k,mt c k+n)]:=if_neg (fun z=>h (any_iff.1 z))
structure CkOk (P:α->Prop) (c:List (α×Int)):Prop where
 nd:(c.map (·.1)).Nodup
 all:∀p∈c,P p.1
theorem CkOk.up {P:α->Prop}{c:List (α×Int)}{k:α}{n:Int}(h:CkOk P c) (hk:P k):CkOk P (upC c k n):=by
 have aux:∀{c':List (α×Int)},(∀x∈c'.map (·.1),P x)->∀p∈c',P p.1:=fun q p hp=>q _ (List.mem_map_of_mem hp)
 have ha:∀x∈c.map (·.1),P x:=fun x hx=>by obtain ⟨p,hp,rfl⟩:=List.mem_map.1 hx; exact h.all p hp
 by_cases i:k∈c.map (·.1)
 ·have e:=vQ (n:=n) i
  exact ⟨by rw [e]; exact h.nd,aux (by rw [e]; exact ha)⟩
 ·rw [mw i]
  refine ⟨?_,aux ?_⟩
  ·rw [List.map_append,List.nodup_append]
   exact ⟨h.nd,by simp,fun a ha b hb e=>i (by rw [<-List.mem_singleton.1 (show b∈[k] from hb),<-e]; exact ha)⟩
  ·rw [List.map_append]
   intro x hx
   rcases List.mem_append.1 hx with hx | hx
   ·exact ha x hx
   ·have:x=k:=by simpa using hx
    rw [this]; exact hk
theorem CkOk.ups {P:α->Prop}{n:Int}:∀{gs:List α}{c:List (α×Int)},CkOk P c->(∀g∈gs,P g)->CkOk P (gs.foldl (fun acc g=>upC acc g n) c)
 | [],c,h,_=>h
 | g::gs,c,h,hg=>CkOk.ups (gs:=gs) (h.up (hg g List.mem_cons_self)) fun x hx=>hg x (List.mem_cons_of_mem _ hx)
theorem CkOk.on {P:α->Prop}{succ:α->List α}(hs:∀a,P a->∀g∈succ a,P g):∀{c acc:List (α×Int)},(∀p∈c,P p.1)->CkOk P acc->CkOk P (c.foldl (fun acc p=>(succ p.1).foldl (fun acc g=>upC acc g p.2) acc) acc)
 | [],acc,_,h=>h
 | p::c,acc,hc,h=>CkOk.on hs (c:=c) (fun x hx=>hc x (List.mem_cons_of_mem _ hx)) (h.ups (hs _ (hc p List.mem_cons_self)))
theorem CkOk.nil {P:α->Prop}:CkOk P ([]:List (α×Int)):=⟨List.nodup_nil,fun p h=>nomatch h⟩
theorem CkOk.it {P:α->Prop}{succ:α->List α}{a:α}(hs:∀a,P a->∀g∈succ a,P g) (ha:P a):∀n,CkOk P (itC succ a n)
 | 0=>⟨by show [a].Nodup; simp,fun p hp=>by rw [List.mem_singleton.1 hp]; exact ha⟩
 | n+1=>CkOk.on hs (CkOk.it hs ha n).all .nil
variable {κ:Type} [DecidableEq κ]
theorem oF {e:α->κ}(he:∀a b,e a=e b->a=b) (k:α):∀c:List (α×Int),bO (bo e c) (e k)=(c.find? fun p=>decide (p.1=k)).map fun p=>V.int p.2
 | []=>rfl
 | p::c=>by
  show bO ((e p.1,V.int p.2)::bo e c) (e k)=_
  by_cases h:p.1=k
  ·rw [aY (by show e p.1=e k; rw [h]),List.find?_cons_of_pos (by simpa using h)]; rfl
  ·rw [aV (fun z=>h (he _ _ z)),List.find?_cons_of_neg (by simpa using h),oF he k c]
theorem oH {e:α->κ}(he:∀a b,e a=e b->a=b) (k:α) (c:List (α×Int)):(bO (bo e c) (e k)).getD (.int 0)=.int (mt c k):=by
 rw [oF he]
 unfold mt
 cases c.find? fun p=>decide (p.1=k) <;> rfl
theorem oG {e:α->κ}(he:∀a b,e a=e b->a=b) (k:α) (n:Int) (c:List (α×Int)):dS (bo e c) (e k) (.int (mt c k+n))=bo e (upC c k n):=by
 have ea:((bo e c).any fun kv=>decide (kv.1=e k))=c.any fun p=>decide (p.1=k):=by
  unfold bo
  rw [List.any_map]
  congr 1
  funext p
  show decide (e p.1=e k)=decide (p.1=k)
  exact decide_eq_decide.2 ⟨he _ _,fun z=>by rw [z]⟩
 unfold dS upC
 rw [ea]
 split
 ·unfold bo
  rw [List.map_map,List.map_map]
  refine List.map_congr_left fun p _=>?_
  show (if e p.1=e k then (e p.1,V.int (mt c k+n)) else (e p.1,V.int p.2))=(e (if p.1=k then (p.1,mt c k+n) else p).1,V.int (if p.1=k then (p.1,mt c k+n) else p).2)
  by_cases h:p.1=k
  ·rw [if_pos (by rw [h]),if_pos h]
  ·rw [if_neg (fun z=>h (he _ _ z)),if_neg h]
 ·unfold bo
  rw [List.map_append]
  rfl
end
theorem vP {α β:Type} [DecidableEq α] [DecidableEq β] {f:α->β}{P:α->Prop}(hf:∀a b,P a->P b->f a=f b->a=b) {c:List (α×Int)}(hc:∀p∈c,P p.1) {k:α}(hk:P k) (n:Int) :
  upC (c.map fun p=>(f p.1,p.2)) (f k) n=(upC c k n).map fun p=>(f p.1,p.2):=by
 have ef:∀c':List (α×Int),(∀p∈c',P p.1)->((c'.map fun p=>(f p.1,p.2)).find? fun p=>decide (p.1=f k))=(c'.find? fun p=>decide (p.1=k)).map fun p=>(f p.1,p.2):=by
  intro c'
  induction c' with
  | nil=>intro _; rfl
  | cons p c' ih =>
   intro h
   rw [List.map_cons]
   by_cases z:p.1=k
   ·rw [List.find?_cons_of_pos (by simp [z]),List.find?_cons_of_pos (by simpa using z)]; rfl
   ·rw [List.find?_cons_of_neg (by simpa using fun q=>z (hf _ _ (h p List.mem_cons_self) hk q)),List.find?_cons_of_neg (by simpa using z),ih fun x hx=>h x (List.mem_cons_of_mem _ hx)]
 have eg:mt (c.map fun p=>(f p.1,p.2)) (f k)=mt c k:=by
  unfold mt
  rw [ef c hc]
  cases c.find? fun p=>decide (p.1=k) <;> rfl
 by_cases i:k∈c.map (·.1)
 ·have i':f k∈(c.map fun p=>(f p.1,p.2)).map (·.1):=by
   obtain ⟨p,hp,e⟩:=List.mem_map.1 i
   rw [List.map_map]
   exact List.mem_map.2 ⟨p,hp,by show f p.1=f k; rw [e]⟩
  unfold upC
  rw [if_pos (any_iff.2 i),if_pos (any_iff.2 i'),eg,List.map_map,List.map_map]
  refine List.map_congr_left fun p hp=>?_
  show (if f p.1=f k then (f p.1,mt c k+n) else (f p.1,p.2))=(f (if p.1=k then (p.1,mt c k+n) else p).1,(if p.1=k then (p.1,mt c k+n) else p).2)
  by_cases h:p.1=k
  ·rw [if_pos (by rw [h]),if_pos h]
  ·rw [if_neg (fun z=>h (hf _ _ (hc p hp) hk z)),if_neg h]
 ·have i':¬f k∈(c.map fun p=>(f p.1,p.2)).map (·.1):=by
   intro z
   rw [List.map_map] at z
   obtain ⟨p,hp,e⟩:=List.mem_map.1 z
   exact i (List.mem_map.2 ⟨p,hp,hf _ _ (hc p hp) hk e⟩)
  rw [mw i,mw i',eg,List.map_append]
  rfl
section
variable {α β:Type} [DecidableEq α] [DecidableEq β] {f:α->β}{P:α->Prop}(hf:∀a b,P a->P b->f a=f b->a=b) {sA:α->List α}{sB:β->List β}(hs:∀a,P a->(∀g∈sA a,P g)/\sB (f a)=(sA a).map f)
include hf
theorem qa {n:Int}:∀{gs:List α}{c:List (α×Int)},(∀g∈gs,P g)->CkOk P c->(gs.map f).foldl (fun acc g=>upC acc g n) (c.map fun p=>(f p.1,p.2))=(gs.foldl (fun acc g=>upC acc g n) c).map fun p=>(f p.1,p.2)
 | [],c,_,_=>rfl
 | g::gs,c,hg,hc=>by
  show (gs.map f).foldl _ (upC (c.map fun p=>(f p.1,p.2)) (f g) n)=_
  rw [vP hf hc.all (hg g List.mem_cons_self),qa (gs:=gs) (fun x hx=>hg x (List.mem_cons_of_mem _ hx)) (hc.up (hg g List.mem_cons_self))]
  rfl
include hs
theorem q_:∀{c acc:List (α×Int)},(∀p∈c,P p.1)->CkOk P acc->(c.map fun p=>(f p.1,p.2)).foldl (fun acc p=>(sB p.1).foldl (fun acc g=>upC acc g p.2) acc) (acc.map fun p=>(f p.1,p.2))=(c.foldl (fun acc p=>(sA p.1).foldl (fun acc g=>upC acc g p.2) acc) acc).map fun p=>(f p.1,p.2)
 | [],acc,_,_=>rfl
 | p::c,acc,hc,ha=>by
  obtain ⟨h1,h2⟩:=hs p.1 (hc p List.mem_cons_self)
  show (c.map fun p=>(f p.1,p.2)).foldl _ ((sB (f p.1)).foldl (fun acc g=>upC acc g p.2) (acc.map fun p=>(f p.1,p.2)))=_
  rw [h2,qa hf h1 ha,q_ (c:=c) (fun x hx=>hc x (List.mem_cons_of_mem _ hx)) (ha.ups h1)]
  rfl
theorem ux {a:α}(ha:P a):∀n,itC sB (f a) n=(itC sA a n).map fun p=>(f p.1,p.2)
 | 0=>rfl
 | n+1=>by
  show onC sB (itC sB (f a) n)=(onC sA (itC sA a n)).map _
  rw [ux ha n]
  exact q_ hf hs (CkOk.it (fun a h=>(hs a h).1) ha n).all .nil
end
def eD (n:Nat):Key:=.inl (n:Int)
theorem oh (a b:Nat) (h:eD a=eD b):a=b:=by
 unfold eD at h
 injection h with h
 omega
abbrev StR (H0 H:Hp) (ts:List Addr) (st:List (List (Sg×Nat))):Prop:=Paired (fun d l=>H0 d=none/\Rd H d (.dT (stK l))) ts st
theorem Rd.same {H H':Hp}{a:Addr}{u:HO}(S:Same H H') (h:Rd H a u):Rd H' a u:=by
 rcases h with h | ⟨o,h⟩
 ·exact .inl (S _ _ h)
 ·exact .inr ⟨o,S _ _ h⟩
theorem Rd.updK {H:Hp}{a d:Addr}{k:List (TK×V)}{kvs:List (Key×V)}{o:HO}(hd:H d=some (.dK kvs)) (h:Rd H a (.dT k)):Rd (upd H d o) a (.dT k):=by
 rcases h with h | ⟨q,h⟩
 ·exact .inl (by rw [af (fun z=>by rw [z,hd] at h; cases h)]; exact h)
 ·exact .inr ⟨q,by rw [af (fun z=>by rw [z,hd] at h; cases h)]; exact h⟩
theorem Rd.frz {H:Hp}{a d:Addr}{k kvs:List (TK×V)}{o:Obj}(hd:H d=some (.dT kvs)) (h:Rd H a (.dT k)):Rd (upd H d (.frz o (.dT kvs))) a (.dT k):=by
 by_cases z:a=d
 ·subst z
  rcases h with h | ⟨q,h⟩
  ·rw [hd] at h; cases h; exact .inr ⟨o,aa⟩
  ·rw [hd] at h; cases h
 ·rcases h with h | ⟨q,h⟩
  ·exact .inl (by rw [af z]; exact h)
  ·exact .inr ⟨q,by rw [af z]; exact h⟩
def bP (st:List (List (Sg×Nat))) (n:Nat):List Nat:=(st.getD n []).map (·.2)
def j8:Sp:=fun vs H Q _=>∃(H0:Hp) (ta cd:Addr) (ts:List Addr) (st:List (List (Sg×Nat))) (c:List (Nat×Int)),vs=[.ref ta,.ref cd]/\H ta=some (.lst (ts.map V.ref))/\StR H0 H ts st/\H cd=some (.dK (bo eD c))/\H0 cd=none/\Same H0 H/\ts.length<=256/\CkOk (·<ts.length) c/\(∀n,n<ts.length->∀g∈bP st n,g<ts.length) /\
 ∀(ld:Addr) (H':Hp),H' ta=some (.lst (ts.map V.ref))->StR H0 H' ts st->H' ld=some (.dK (bo eD (onC (bP st) c)))->H0 ld=none->Same H0 H'->Q (.ref ld) H'
theorem CkOk.few {c:List (Nat×Int)}{n:Nat}(h:CkOk (·<n) c):c.length<=n:=by
 have:=fV h.nd (R:=List.range n) fun x hx=>by
  obtain ⟨p,hp,rfl⟩:=List.mem_map.1 hx
  exact List.mem_range.2 (h.all p hp)
 rw [List.length_map,List.length_range] at this
 exact this
def xA (J:It) (g:TG) (tb:TS) (D:kL) (σ:L2.St) (H:Hp):Prop:=∃W:Nat->Nat->L2.St->Hp->Prop,(∃m,W 0 m σ H)/\∀i m σ H,W i m σ H ->
 (J.stop i H/\D.nx σ H)∨(J.go i H/\∃N:L2.St->Hp->Prop,(∀σ' H',N σ' H'->∃m',m'<m/\W (i+1) m' σ' H')/\∀x H',J.yld i H x H'->g x σ H' fun σ2 H2=>tb { D with nx:=N,ct:=N,bk:=D.nx } σ2 H2)
theorem lL {K:PySem.W.Frag}{H0 H:Hp}{ta cd ld d:Addr}{ts:List Addr}{st:List (List (Sg×Nat))}{c acc:List (Nat×Int)}{o o':Obj}{l:List (Sg×Nat)}{num:Nat}{cnt:Int}{x5:Option V}{D:kL}
  (hd:H d=some (.frz o' (.dT (stK l)))) (hcd:H cd=some (.frz o (.dK (bo eD c)))) (hta:H ta=some (.lst (ts.map V.ref))) (hld:H ld=some (.dK (bo eD acc))) (hst:StR H0 H ts st) (S:Same H0 H) (ld0:H0 ld=none) (z:ts.length<=256) (ck:CkOk (·<ts.length) acc) (hl:∀q∈l,q.2<ts.length)
  (k:∀(x5:Option V) (H':Hp),H' cd=some (.frz o (.dK (bo eD c)))->H' ta=some (.lst (ts.map V.ref))->StR H0 H' ts st->H' ld=some (.dK (bo eD ((l.map (·.2)).foldl (fun acc g=>upC acc g cnt) acc)))->Same H0 H'->D.nx [some (.ref ta),some (.ref cd),some (.ref ld),some (.int (num:Nat)),some (.int cnt),x5] H') :
  xA (Itv d o' (.dT (stK l)) (stK l).length (vL K (stK l))) (ak 5) (gB (ag 2) (ag 5) (tOp cw (gZ K (ag 2) (ag 5) (tC (.int 0))) (ag 4))) D [some (.ref ta),some (.ref cd),some (.ref ld),some (.int (num:Nat)),some (.int cnt),x5] H:=by
 have ell:(stK l).length=l.length:=by unfold stK; rw [List.length_map]
 have accOk:∀i,CkOk (·<ts.length) (((l.take i).map (·.2)).foldl (fun acc g=>upC acc g cnt) acc):=fun i=>ck.ups fun g hg=>by
  obtain ⟨q,hq,rfl⟩:=List.mem_map.1 hg
  exact hl q (List.mem_of_mem_take hq)
 refine tW (fun i σ H'=>∃x5:Option V,σ=[some (.ref ta),some (.ref cd),some (.ref ld),some (.int (num:Nat)),some (.int cnt),x5]/\H' d=some (.frz o' (.dT (stK l)))/\H' cd=some (.frz o (.dK (bo eD c)))/\H' ta=some (.lst (ts.map V.ref))/\StR H0 H' ts st/\H' ld=some (.dK (bo eD (((l.take i).map (·.2)).foldl (fun acc g=>upC acc g cnt) acc)))/\Same H0 H')
  ⟨_,rfl,hd,hcd,hta,hst,hld,S⟩ ?_ ?_ ?_
 ·rintro i σ H' _ ⟨_,_,h,_⟩
  exact h
 ·rintro i σ H3 a b hi ⟨x5,rfl,d3,cd3,ta3,st3,ld3,S3⟩ ⟨key,ek,_⟩
  unfold stK at ek
  rw [List.getElem?_map] at ek
  obtain ⟨q,hq,eq⟩:=Option.map_eq_some_iff.1 ek
  cases eq
  have e1:((l.take (i+1)).map (·.2)).foldl (fun acc g=>upC acc g cnt) acc=upC (((l.take i).map (·.2)).foldl (fun acc g=>upC acc g cnt) acc) q.2 cnt:=by
   rw [am hq,List.map_append,List.foldl_append]; rfl
  have ok1:=accOk i
  rw [e1]
  generalize ((l.take i).map (·.2)).foldl (fun acc g=>upC acc g cnt) acc=acc' at ld3 ok1
  have g1:nN K H3 ld (.int (q.2:Nat)) (bO (bo eD acc') (eD q.2)):=.inl ⟨_,eD q.2,.inl ld3,rfl,rfl⟩
  refine ⟨_,rfl,ld,rfl,.inl ⟨_,.inl ld3⟩,_,rfl,_,g1,?_⟩
  rw [oH oh]
  have fw:=ok1.few
  refine ⟨_,rfl,_,_,rfl,rfl,_,rfl,_,rfl,ld,_,rfl,.inl ⟨_,eD q.2,ld3,rfl,?_,rfl⟩,?_⟩
  ·unfold bo; rw [List.length_map]; exact ao (by omega)
  rw [oG oh]
  refine ⟨_,rfl,?_,?_,?_,Paired.mapP st3 fun _ _ r=>⟨r.1,Rd.updK ld3 r.2⟩,aa,fun b q e=>by rw [af (ad e ld0)]; exact S3 _ _ e⟩
  ·rw [af (fun z=>by rw [z,ld3] at d3; cases d3)]; exact d3
  ·rw [af (fun z=>by rw [z,ld3] at cd3; cases cd3)]; exact cd3
  ·rw [af (fun z=>by rw [z,ld3] at ta3; cases ta3)]; exact ta3
 ·rintro σ H3 ⟨x5,rfl,d3,cd3,ta3,st3,ld3,S3⟩
  rw [ell,List.take_length] at ld3
  exact k x5 H3 cd3 ta3 st3 ld3 S3
theorem sZ {K:PySem.W.Frag}{vs:List V}{H:Hp}{Q:VK}{E:XK}(h:j8 vs H Q E):eK K { nx:=fun _ H'=>Q .non H',rt:=Q } (aA eP vs) H:=by
 obtain ⟨H0,ta,cd,ts,st,c,rfl,hta,hst,hcd,hcd0,S0,z,ck,hsu,k⟩:=h
 refine fun ld hld=>?_
 have S1:Same H (upd H ld (.dK [])):=Same.new hld
 have ld0:H0 ld=none:=S0.free hld
 have cd1:=S1 _ _ hcd
 refine ⟨_,rfl,cd,_,rfl,.inl ⟨cd1,fun o=>?_⟩⟩
 have ncl:cd≠ld:=ad hcd hld
 have cd2:upd (upd H ld (.dK [])) cd (.frz o (.dK (bo eD c))) cd=some (.frz o (.dK (bo eD c))):=aa
 have ld2:upd (upd H ld (.dK [])) cd (.frz o (.dK (bo eD c))) ld=some (.dK (bo eD [])):=by rw [af ncl.symm,aa]; rfl
 have ta2:upd (upd H ld (.dK [])) cd (.frz o (.dK (bo eD c))) ta=some (.lst (ts.map V.ref)):=by rw [af (fun z=>by rw [z,hcd] at hta; cases hta)]; exact S1 _ _ hta
 have st2:StR H0 (upd (upd H ld (.dK [])) cd (.frz o (.dK (bo eD c)))) ts st:=Paired.mapP hst fun _ _ r=>⟨r.1,Rd.updK cd1 (Rd.same S1 r.2)⟩
 have S2:Same H0 (upd (upd H ld (.dK [])) cd (.frz o (.dK (bo eD c)))):=fun b q e=>by rw [af (ad e hcd0)]; exact S1 _ _ (S0 _ _ e)
 generalize upd (upd H ld (.dK [])) cd (.frz o (.dK (bo eD c)))=H2 at cd2 ld2 ta2 st2 S2 ⊢
 have el:(bo eD c).length=c.length:=by unfold bo; rw [List.length_map]
 have stl:=Paired.length hst
 have accOk:∀i,CkOk (·<ts.length) ((c.take i).foldl (fun acc p=>(bP st p.1).foldl (fun acc g=>upC acc g p.2) acc) []):=fun i=>CkOk.on hsu (fun p hp=>ck.all p (List.mem_of_mem_take hp)) .nil
 refine i0 (fun i σ H'=>∃(x3 x4 x5:Option V),σ=[some (.ref ta),some (.ref cd),some (.ref ld),x3,x4,x5]/\H' cd=some (.frz o (.dK (bo eD c)))/\H' ta=some (.lst (ts.map V.ref))/\StR H0 H' ts st/\H' ld=some (.dK (bo eD ((c.take i).foldl (fun acc p=>(bP st p.1).foldl (fun acc g=>upC acc g p.2) acc) [])))/\Same H0 H')
  ⟨_,_,_,rfl,cd2,ta2,st2,ld2,S2⟩ ?_ ?_ ?_
 ·rintro i σ H' _ ⟨_,_,_,_,h,_⟩
  exact h
 ·rintro i σ H3 p a b hi ⟨x3,x4,x5,rfl,cd3,ta3,st3,ld3,S3⟩ hp ⟨key,ek,rfl⟩
  unfold bo at ek
  rw [List.getElem?_map] at ek
  obtain ⟨pr,hpr,epr⟩:=Option.map_eq_some_iff.1 ek
  cases epr
  rw [show kV (eD pr.1)=V.int (pr.1:Nat) from rfl]
  have hlt:pr.1<ts.length:=ck.all pr (List.mem_of_getElem? hpr)
  have Sp:Same H3 (upd H3 p (.tup [.int (pr.1:Nat),.int pr.2])):=Same.new hp
  have hp4:upd H3 p (.tup [.int (pr.1:Nat),.int pr.2]) p=some (.tup [.int (pr.1:Nat),.int pr.2]):=aa
  have acc1:=accOk i
  have e1:(c.take (i+1)).foldl (fun acc p=>(bP st p.1).foldl (fun acc g=>upC acc g p.2) acc) []=(bP st pr.1).foldl (fun acc g=>upC acc g pr.2) ((c.take i).foldl (fun acc p=>(bP st p.1).foldl (fun acc g=>upC acc g p.2) acc) []):=by
   rw [am hpr,List.foldl_append]; rfl
  generalize (c.take i).foldl (fun acc p=>(bP st p.1).foldl (fun acc g=>upC acc g p.2) acc) []=acc at ld3 acc1 e1
  refine ⟨p,_,rfl,SqT.of hp4,rfl,_,_,rfl,_,_,rfl,rfl,?_⟩
  have cd4:=Sp _ _ cd3
  have ta4:=Sp _ _ ta3
  have ld4:=Sp _ _ ld3
  have st4:StR H0 _ ts st:=Paired.mapP st3 fun _ _ r=>⟨r.1,Rd.same Sp r.2⟩
  have S4:=S3.trans Sp
  generalize upd H3 p (.tup [.int (pr.1:Nat),.int pr.2])=H4 at hp4 cd4 ta4 ld4 st4 S4 ⊢
  have htn:ts[pr.1]?=some ts[pr.1]:=List.getElem?_eq_getElem hlt
  obtain ⟨l,hl,hd0,hrd⟩:=Paired.getL st4 htn
  have atd:atI (ts.map V.ref) (pr.1:Nat)=some (.ref ts[pr.1]):=cE (by rw [List.getElem?_map,htn]; rfl)
  have esu:bP st pr.1=l.map (·.2):=by unfold bP; rw [List.getD_eq_getElem?_getD,hl]; rfl
  generalize ts[pr.1]=d at hrd atd htn hd0
  have hlg:∀q∈l,q.2<ts.length:=fun q hq=>hsu pr.1 hlt q.2 (by rw [esu]; exact List.mem_map_of_mem hq)
  refine ⟨_,rfl,_,rfl,ta,_,_,_,rfl,rfl,SqL.of ta4,atd,d,stK l,rfl,?_⟩
  rcases hrd with e | ⟨o',e⟩
  ·refine .inl ⟨e,fun o'=>lL (o':=o') aa ?_ ?_ ?_ (Paired.mapP st4 fun _ _ r=>⟨r.1,Rd.frz e r.2⟩) (fun b q w=>by rw [af (ad w hd0)]; exact S4 _ _ w) ld0 z acc1 hlg (fun x5 H' q1 q2 q3 q4 q5=>⟨_,_,x5,rfl,q1,q2,q3,by rw [e1,esu]; exact q4,q5⟩)⟩
   ·rw [af (fun z=>by rw [z,e] at cd4; cases cd4)]; exact cd4
   ·rw [af (fun z=>by rw [z,e] at ta4; cases ta4)]; exact ta4
   ·rw [af (fun z=>by rw [z,e] at ld4; cases ld4)]; exact ld4
  ·exact .inr ⟨o',e,lL e cd4 ta4 ld4 st4 S4 ld0 z acc1 hlg (fun x5 H' q1 q2 q3 q4 q5=>⟨_,_,x5,rfl,q1,q2,q3,by rw [e1,esu]; exact q4,q5⟩)⟩
 ·rintro σ H3 ⟨x3,x4,x5,rfl,cd3,ta3,st3,ld3,S3⟩
  rw [el,List.take_length] at ld3
  exact ⟨_,rfl,k ld H3 ta3 st3 ld3 ld0 S3⟩
noncomputable def waysF (asks says rooms:List Str) (ds:List ar) (f:List Str):List (List Str):=(stepsF asks says rooms ds f).map (·.2)
noncomputable def cntF (asks says rooms:List Str) (ds:List ar) (n:Nat):Int:=((itC (waysF asks says rooms ds) (closF rooms ds (rooms.take 1)) n).map (·.2)).sum
theorem lD {α:Type}(c:List (α×Int)) (val:Nat->Int) (hv:∀(i:Nat) p,c[i]?=some p->val i=p.2):preSum val c.length=(c.map (·.2)).sum:=by
 have key:∀j,j<=c.length->preSum val j=((c.take j).map (·.2)).sum:=by
  intro j
  induction j with
  | zero=>intro _; rfl
  | succ j ih =>
   intro h
   have hp:c[j]?=some c[j]:=List.getElem?_eq_getElem (by omega)
   rw [am hp,List.map_append,List.sum_append]
   show preSum val j+val j=_
   rw [ih (by omega),hv j _ hp]
   simp
 have:=key c.length (Nat.le_refl _)
 rw [List.take_length] at this
 exact this
theorem jH {α β γ:Type}{R:α->β->Prop}{f:α->γ}{g:β->γ}(h:∀a b,R a b->f a=g b):∀{l:List α}{m:List β},Paired R l m->l.map f=m.map g
 | _,_,.nil=>rfl
 | _,_,.cons r t=>by rw [List.map_cons,List.map_cons,h _ _ r,jH h t]
section
variable {asks says rooms:List Str}{ds:List ar}{S:uE}(ok:vH asks says rooms ds S) (le:S.2.length=S.1.fs.length)
include ok le
theorem ny {i:Nat}(hi:i<S.1.fs.length):(∀g∈bP S.2 i,g<S.1.fs.length)/\waysF asks says rooms ds (S.1.fs.getD i [])=(bP S.2 i).map fun j=>S.1.fs.getD j []:=by
 have hi2:i<S.2.length:=by omega
 have hl:S.2[i]?=some S.2[i]:=List.getElem?_eq_getElem hi2
 obtain ⟨f,hf,pr⟩:=ok.st i _ hl
 have ef:S.1.fs.getD i []=f:=by rw [List.getD_eq_getElem?_getD,hf]; rfl
 have es:bP S.2 i=S.2[i].map (·.2):=by unfold bP; rw [List.getD_eq_getElem?_getD,hl]; rfl
 rw [ef,es]
 constructor
 ·intro g hg
  obtain ⟨a,ha,rfl⟩:=List.mem_map.1 hg
  obtain ⟨k,hk,ek⟩:=List.getElem_of_mem ha
  obtain ⟨p,_,_,e⟩:=Paired.getL pr (i:=k) (x:=a) (by rw [List.getElem?_eq_getElem hk,ek])
  rcases Nat.lt_or_ge a.2 S.1.fs.length with z | z
  ·exact z
  ·rw [List.getElem?_eq_none z] at e; cases e
 ·unfold waysF
  rw [List.map_map]
  exact (jH (fun a p r=>by show S.1.fs.getD a.2 []=p.2; rw [List.getD_eq_getElem?_getD,r.2]; rfl) pr).symm
theorem tX (n:Nat):((itC (bP S.2) 0 n).map (·.2)).sum=cntF asks says rooms ds n:=by
 have inj:∀a b,a<S.1.fs.length->b<S.1.fs.length->S.1.fs.getD a []=S.1.fs.getD b []->a=b:=by
  intro a b ha hb e
  rw [List.getD_eq_getElem?_getD,List.getD_eq_getElem?_getD,List.getElem?_eq_getElem ha,List.getElem?_eq_getElem hb] at e
  have e:S.1.fs[a]=S.1.fs[b]:=e
  rcases Nat.lt_trichotomy a b with z | z | z
  ·exact absurd e (List.pairwise_iff_getElem.1 (List.nodup_iff_pairwise_ne.1 ok.good.nd) a b ha hb z)
  ·exact z
  ·exact absurd e.symm (List.pairwise_iff_getElem.1 (List.nodup_iff_pairwise_ne.1 ok.good.nd) b a hb ha z)
 have h0:S.1.fs.getD 0 []=closF rooms ds (rooms.take 1):=by rw [List.getD_eq_getElem?_getD,ok.zero]; rfl
 have z0:0<S.1.fs.length:=by
  rcases Nat.eq_zero_or_pos S.1.fs.length with z | z
  ·have:=ok.zero; rw [List.getElem?_eq_none (by omega)] at this; cases this
  ·exact z
 unfold cntF
 rw [<-h0,ux (f:=fun j=>S.1.fs.getD j []) (P:=fun j=>j<S.1.fs.length) inj (sA:=bP S.2) (fun a ha=>ny ok le ha) z0 n,List.map_map]
 rfl
end
def gA (K:PySem.W.Frag) (Cm:Addr):Sp:=fun vs H Q _=>∃(M:Addr) (n:Nat) (asks says rooms:List Str) (ds:List ar),vs=[.ref M,.int (n:Nat)]/\MachAt Cm H M asks says rooms ds/\rooms.length<=8/\n<=1000/\∀H',Same H H'->Q (.int (cntF asks says rooms ds n)) H'
theorem pj {K:PySem.W.Frag}{C Cm:Addr}(c:FC K C) {vs:List V}{H:Hp}{Q:VK}{E:XK}(h:gA K Cm vs H Q E):o6 K j8 C (iH K C Cm) { nx:=fun _ H'=>Q .non H',rt:=Q } (aA p6 vs) H:=by
 obtain ⟨M,n,asks,says,rooms,ds,rfl,MA,hr,hn,k⟩:=h
 refine ⟨_,rfl,fun x dx hx hdx ne=>?_⟩
 have S0:Same H (upd (upd H dx (.own x)) x (.ins C dx [])):=fun b o e=>by rw [af (ad e hx)]; exact kp e hdx
 refine ⟨H,x,dx,M,asks,says,rooms,ds,rfl,aa,MA,hx,S0,hr,fun fa sa na ta us ws ts S j H1 F1 ta1 st1 ok1 len1 _ S1=>⟨rfl,?_⟩⟩
 obtain ⟨dx1,fs1,g1,l1,l2,l3,l4,l5,l6,l7⟩:=F1.ob
 refine ⟨x,C,dx1,fs1,.ref ta,rfl,g1,c.cls,c.a5,l5,?_⟩
 have zt:ts.length=S.1.fs.length:=by rw [Paired.length st1,len1]
 have zf:=ok1.good.few hr
 have z0:0<S.1.fs.length:=by
  rcases Nat.eq_zero_or_pos S.1.fs.length with z | z
  ·have:=ok1.zero; rw [List.getElem?_eq_none (by omega)] at this; cases this
  ·exact z
 refine ⟨_,rfl,_,_,rfl,rfl,_,rfl,?_⟩
 refine ifQ (P:=False) (by simp) (fun z=>z.elim) fun _=>?_
 refine fun cd hcd=>⟨aa,[(.inl 0,.int 1)],rfl,(by decide),?_⟩
 have sr1:StR H H1 ts S.2:=Paired.mapP st1 fun _ _ r=>⟨r.1,.inl r.2.2⟩
 have ctok:∀i,CkOk (·<ts.length) (itC (bP S.2) 0 i):=fun i=>by
  rw [zt]
  exact CkOk.it (fun a ha=>(ny ok1 len1 ha).1) z0 i
 have Sc:Same H1 (upd (upd H1 cd (.dK [])) cd (.dK (bo eD (itC (bP S.2) 0 0)))):=fun b o e=>by rw [af (ad e hcd)]; exact kp e hcd
 have cd2:upd (upd H1 cd (.dK [])) cd (.dK (bo eD (itC (bP S.2) 0 0))) cd=some (.dK (bo eD (itC (bP S.2) 0 0))):=aa
 show aw _ _ _ _ (upd (upd H1 cd (.dK [])) cd (.dK (bo eD (itC (bP S.2) 0 0))))
 generalize upd (upd H1 cd (.dK [])) cd (.dK (bo eD (itC (bP S.2) 0 0)))=H2 at Sc cd2 ⊢
 have cd0:H cd=none:=S1.free hcd
 refine ⟨_,rfl,(n:Int),rfl,by omega,by omega,?_⟩
 refine db (lo:=0) (n:=(n:Int).toNat) (fun i σ H'=>∃(cd:Addr) (x4:Option V),σ=[some (.ref M),some (.int (n:Nat)),some (.ref ta),some (.ref cd),x4]/\H' ta=some (.lst (ts.map V.ref))/\StR H H' ts S.2/\H' cd=some (.dK (bo eD (itC (bP S.2) 0 i)))/\H cd=none/\Same H H')
  ⟨cd,_,rfl,Sc _ _ ta1,Paired.mapP sr1 fun _ _ r=>⟨r.1,Rd.same Sc r.2⟩,cd2,cd0,S1.trans Sc⟩ ?_ ?_
 ·rintro i σ H3 hi ⟨cd,x4,rfl,ta3,st3,cd3,hcd3,S3⟩
  refine ⟨_,rfl,_,rfl,H,ta,cd,ts,S.2,_,rfl,ta3,st3,cd3,hcd3,S3,by omega,ctok i,fun m hm=>?_,fun ld H4 ta4 st4 ld4 ld0 S4=>⟨ld,_,rfl,ta4,st4,ld4,ld0,S4⟩⟩
  rw [zt] at hm ⊢
  exact (ny ok1 len1 hm).1
 ·rintro σ H3 ⟨cd,x4,rfl,ta3,st3,cd3,hcd3,S3⟩
  rw [Int.toNat_natCast] at cd3
  refine ⟨_,rfl,cd,_,fun i=>((itC (bP S.2) 0 n).getD i (0,0)).2,rfl,fun i key v e=>?_,.inl ⟨cd3,fun o=>?_⟩⟩
  ·unfold bo at e
   rw [List.getElem?_map] at e
   obtain ⟨p,hp,ep⟩:=Option.map_eq_some_iff.1 e
   cases ep
   show V.int p.2=V.int ((itC (bP S.2) 0 n).getD i (0,0)).2
   rw [List.getD_eq_getElem?_getD,hp]; rfl
  ·have e:preSum (fun i=>((itC (bP S.2) 0 n).getD i (0,0)).2) (bo eD (itC (bP S.2) 0 n)).length=cntF asks says rooms ds n:=by
    unfold bo
    rw [List.length_map,lD _ _ (fun i p hp=>by rw [List.getD_eq_getElem?_getD,hp]; rfl)]
    exact tX ok1 len1 n
   rw [e]
   exact k _ fun b q w=>by rw [af (ad w hcd3)]; exact S3 _ _ w
def mT (K:PySem.W.Frag):Sp:=fun vs H Q _=>∃(t ft s l1 l2 l3 l4:Addr) (ts:List Addr) (asks says rooms face sg:List Str) (ds:List ar),vs=[.ref t,.ref ft,.ref s]/\Told H t l1 l2 l3 l4 ts asks says rooms ds/\ModelOk asks says rooms ds/\SqT K H ft (face.map V.str)/\SqT K H s (sg.map V.str)/\face.length<=1000 /\
 ∀(t':Addr) (H':Hp),H' t'=some (.tup ((behF rooms ds face sg).map V.str))->Same H H'->Q (.ref t') H'
theorem uY {K:PySem.W.Frag}{vs:List V}{H:Hp}{Q:VK}{E:XK}(h:mT K vs H Q E):k4 K sU iG { nx:=fun _ H'=>Q .non H',rt:=Q } (aA mo vs) H:=by
 obtain ⟨t,ft,s,l1,l2,l3,l4,ts,asks,says,rooms,face,sg,ds,rfl,T,m,hft,hs,hz,k⟩:=h
 have z4:=m.few
 refine ⟨_,rfl,(by show 1<=sizeLine; decide),fun hh hhh=>⟨gDT sg,gDT hushSg,bb (SqT.same (Same.new hhh) hs),bb (SqT.of aa),by rw [bZ]; decide,by rw [bZ]; decide,_,rfl,?_⟩⟩
 rw [kE]
 have Sn:Same H (upd H hh (.tup [.str "hush"])):=Same.new hhh
 generalize upd H hh (.tup [.str "hush"])=H1 at Sn ⊢
 have T1:=T.same Sn
 have ft1:=SqT.same Sn hft
 have hs1:=SqT.same Sn hs
 by_cases c:sg=hushSg
 ·rw [decide_eq_true c]
  refine cK ?_
  refine ⟨_,rfl,ft,rfl,⟨_,ft1⟩,fun f hf=>?_⟩
  refine oK (xs:=face.map V.str) (fun i vs H'=>vs=((face.take i).filter fun r=>decide (r∉dI ds)).map V.str/\Same H1 H'/\H' f=some (.lst vs)) ⟨rfl,Same.new hf,aa⟩ (fun i vs H' _ ⟨_,S,h'⟩=>⟨h',SqT.same S ft1⟩) ?_ ?_
  ·rintro vs H' ⟨rfl,S,f'⟩
   rw [List.length_map,List.take_length] at f'
   refine ⟨f,_,rfl,.inl ⟨SqL.of f',fun t' ht'=>k t' _ ?_ ((Sn.trans S).trans (Same.new ht'))⟩⟩
   rw [aa]
   unfold behF
   rw [if_pos c]
  ·rintro i vs H' x' hx' hi ⟨rfl,S,f'⟩
   obtain ⟨r,hr,rfl⟩:=aR hx'
   refine gN ?_
   refine ⟨_,rfl,_,rfl,t,l1,l2,l3,l4,ts,asks,says,rooms,ds,r,rfl,T1.same S,m,fun H2 S2=>⟨_,rfl,?_⟩⟩
   have hlen:(((face.take i).filter fun r=>decide (r∉dI ds)).map V.str).length<sizeLine:=by
    rw [List.length_map]
    refine ao (Nat.le_trans (List.length_filter_le _ _) ?_)
    rw [List.length_take]; omega
   refine oz (fun hq=>?_) (fun hq=>?_)
   ·refine ⟨_,rfl,S2 _ _ f',hlen,nxt hi ⟨?_,?_,aa⟩⟩
    ·rw [aO hr,if_pos hq,List.map_append]; rfl
    ·intro b o q
     rw [af (ad q hf)]
     exact S2 _ _ (S _ _ q)
   ·refine nxt hi ⟨?_,S.trans S2,S2 _ _ f'⟩
    rw [aO hr,if_neg hq,List.append_nil]
 ·rw [decide_eq_false c]
  refine bx ?_
  refine ⟨_,rfl,_,rfl,.inr (.inl ⟨t,_,3,_,rfl,rfl,SqT.of T1.t,rfl,l4,rfl,⟨_,SqL.of T1.a4⟩,fun f hf=>?_⟩)⟩
  refine bf (xs:=ts.map V.ref) (fun i vs H'=>∃G:List Str,vs=G.map V.str/\Same H1 H'/\H' f=some (.lst vs)/\G.length<=i/\∀g,g∈G↔∃d∈ds.take i,d.a∈face/\d.sg=sg/\d.b=g)
   ⟨[],rfl,Same.new hf,aa,Nat.le_refl _,fun g=>⟨fun h=>(by cases h),fun ⟨_,h,_⟩=>by simp at h⟩⟩ (fun i vs H' _ ⟨_,_,S,h',_⟩=>⟨h',SqL.of (S _ _ T1.a4)⟩) ?_ ?_
  rotate_left
  ·rintro i vs H' x' hx' hi ⟨G,rfl,S,f',hl,hG⟩
   obtain ⟨u,hu,rfl⟩:=bB hx'
   obtain ⟨dr,hdr,hatd⟩:=Paired.getL T1.ds hu
   obtain ⟨sb,ht2,hs2⟩:=hatd.kt (Same.kt S)
   have hi':i<ds.length:=(List.getElem?_eq_some_iff.mp hdr).1
   have hstep:∀g,(∃d∈ds.take (i+1),d.a∈face/\d.sg=sg/\d.b=g)↔((∃d∈ds.take i,d.a∈face/\d.sg=sg/\d.b=g)∨(dr.a∈face/\dr.sg=sg/\dr.b=g)):=by
    intro g
    rw [am hdr]
    constructor
    ·rintro ⟨d,hd,h⟩
     rcases List.mem_append.mp hd with hd | hd
     ·exact .inl ⟨d,hd,h⟩
     ·have:d=dr:=by simpa using hd
      subst this
      exact .inr h
    ·rintro (⟨d,hd,h⟩ | h)
     ·exact ⟨d,List.mem_append_left _ hd,h⟩
     ·exact ⟨dr,List.mem_append_right _ (by simp),h⟩
   have keep:¬(dr.a∈face/\dr.sg=sg)->∃m',m'<(ts.map V.ref).length-i/\Wc (ts.map V.ref).length (fun i vs H'=>∃G:List Str,vs=G.map V.str/\Same H1 H'/\H' f=some (.lst vs)/\G.length<=i/\∀g,g∈G↔∃d∈ds.take i,d.a∈face/\d.sg=sg/\d.b=g) (i+1) m' (G.map V.str) H':=by
    intro z
    refine nxt hi ⟨G,rfl,S,f',by omega,fun g=>?_⟩
    rw [hstep,hG]
    exact ⟨.inl,fun h=>h.elim id fun h=>absurd ⟨h.1,h.2.1⟩ z⟩
   refine gN ?_
   refine ⟨_,rfl,.inr (.inl ⟨u,_,0,_,rfl,rfl,SqT.of ht2,rfl,_,rfl,sDT dr.a,face.map sDT,ft,_,kF _,rfl,.inr (SqT.same S ft1),jN _,(by show 0<=8; decide),by rw [dz]; decide,_,rfl,?_⟩)⟩
   rw [if_neg Bool.false_ne_true,rX]
   by_cases c1:dr.a∈face
   rotate_left
   ·rw [decide_eq_false c1]
    exact bx (bx (keep fun z=>c1 z.1))
   rw [decide_eq_true c1]
   refine cK ?_
   refine ⟨_,rfl,.inr (.inl ⟨u,_,1,_,rfl,rfl,SqT.of ht2,rfl,_,rfl,gDT dr.sg,gDT sg,bb (SqT.of hs2),bb (SqT.same S hs1),by rw [bZ]; decide,by rw [bZ]; decide,_,rfl,?_⟩)⟩
   rw [kE]
   by_cases c2:dr.sg=sg
   rotate_left
   ·rw [decide_eq_false c2]
    exact bx (keep fun z=>c2 z.2)
   rw [decide_eq_true c2]
   refine cK ?_
   refine ⟨_,rfl,.inr (.inl ⟨u,_,2,_,rfl,rfl,SqT.of ht2,rfl,f',by rw [List.length_map]; exact ao (by omega),nxt hi ⟨G++[dr.b],by rw [List.map_append]; rfl,?_,aa,by rw [List.length_append]; show G.length+1<=i+1; omega,fun g=>?_⟩⟩)⟩
   ·intro b o q
    rw [af (ad q hf)]
    exact S _ _ q
   ·rw [hstep,<-hG,List.mem_append]
    simp only [List.mem_singleton]
    exact ⟨fun h=>h.imp id fun h=>⟨c1,c2,h.symm⟩,fun h=>h.imp id fun h=>h.2.2.symm⟩
  rintro vs H2 ⟨G,rfl,S2,f2,hl,hG⟩
  rw [List.length_map,Paired.length T.ds] at hl
  rw [List.length_map,Paired.length T.ds,List.take_length] at hG
  refine ⟨t,f,l1,l2,l3,l4,ts,asks,says,rooms,G,ds,rfl,T1.same S2,m,f2,by omega,fun t' H' h1 S'=>k t' H' ?_ ((Sn.trans S2).trans S')⟩
  rw [h1]
  unfold behF
  rw [if_neg c]
  suffices e0:closF rooms ds G=closF rooms ds (bg ds sg face) by rw [e0]
  refine nD fun g=>?_
  rw [hG,mem_goalsAll]
  constructor
  ·rintro ⟨⟨a,sgd,b⟩,hd,h1,h2,h3⟩
   simp only at h1 h2 h3
   subst h2 h3
   exact ⟨a,h1,hd⟩
  ·rintro ⟨r,hr,h⟩
   exact ⟨_,h,hr,rfl,rfl⟩
abbrev FacesAt (H:Hp) (us:List Addr) (L:List (List Str)):Prop:=Paired (fun u (f:List Str)=>H u=some (.tup (f.map V.str))) us L
theorem FacesAt.kt {H H':Hp}{us:List Addr}{L:List (List Str)}(k:KT0 H H') (h:FacesAt H us L):FacesAt H' us L:=Paired.mapP h fun _ _ r=>k _ _ r
def mO (K:PySem.W.Frag):Sp:=fun vs H Q _=>∃(t ft l1 l2 l3 l4:Addr) (ts:List Addr) (asks says rooms face:List Str) (ds:List ar),vs=[.ref t,.ref ft]/\Told H t l1 l2 l3 l4 ts asks says rooms ds/\ModelOk asks says rooms ds/\SqT K H ft (face.map V.str)/\face.length<=1000 /\
 ∀(l:Addr) (us:List Addr) (H':Hp),H' l=some (.lst (us.map V.ref))->FacesAt H' us (waysF asks says rooms ds face)->H l=none->Same H H'->Q (.ref l) H'
theorem sL (asks says rooms:List Str) (ds:List ar) (f:List Str):waysF asks says rooms ds f=((aL asks says).map fun sg=>behF rooms ds f sg).filter fun b=>decide (b≠[]):=by
 unfold waysF stepsF
 induction aL asks says with
 | nil=>rfl
 | cons sg L ih =>
  rw [List.map_cons,List.map_cons,List.filter_cons,List.filter_cons]
  by_cases c:behF rooms ds f sg=[]
  ·rw [if_neg (by simp [c]),if_neg (by simp [c]),ih]
  ·rw [if_pos (by simp [c]),if_pos (by simp [c]),List.map_cons,ih]
theorem uS {K:PySem.W.Frag}{vs:List V}{H:Hp}{Q:VK}{E:XK}(h:mO K vs H Q E):oY K j7 (mT K) { nx:=fun _ H'=>Q .non H',rt:=Q } (aA pY vs) H:=by
 obtain ⟨t,ft,l1,l2,l3,l4,ts,asks,says,rooms,face,ds,rfl,T,m,hft,hz,k⟩:=h
 have z1:=m.asks4
 have z2:=m.says4
 refine ⟨_,rfl,t,l1,l2,l3,l4,ts,asks,says,rooms,ds,rfl,T,m,fun sl su H1 hsl hsu hsl0 S1=>⟨sl,rfl,⟨_,SqL.of hsl⟩,fun f hf=>?_⟩⟩
 have zsu:su.length<=9:=by
  rw [Paired.length hsu]
  unfold aL
  rw [List.length_append,List.length_append,List.length_map,List.length_map]
  show _+1<=9
  omega
 have T1:=T.same S1
 have ft1:=SqT.same S1 hft
 refine bf (xs:=su.map V.ref) (fun i vs H'=>∃wu:List Addr,vs=wu.map V.ref/\Same H1 H'/\H' f=some (.lst vs)/\FacesAt H' wu (((aL asks says).take i).map fun sg=>behF rooms ds face sg)) ⟨[],rfl,Same.new hf,aa,.nil⟩ (fun i vs H' _ ⟨_,_,S,h',_⟩=>⟨h',SqL.of (S _ _ hsl)⟩) ?_ ?_
 rotate_left
 ·rintro j vs H' x' hx' hj ⟨wu,rfl,S,f',hW⟩
  obtain ⟨u,hu,rfl⟩:=bB hx'
  obtain ⟨sg,hsg,hat⟩:=Paired.getL hsu hu
  have hat':H' u=some (.tup (sg.map V.str)):=S _ _ hat
  refine gN (uG ?_)
  refine ⟨_,rfl,_,rfl,_,rfl,t,ft,u,l1,l2,l3,l4,ts,asks,says,rooms,face,sg,ds,rfl,T1.same S,m,SqT.same S ft1,SqT.of hat',hz,fun b H7 hb S7=>?_⟩
  refine ⟨S7 _ _ f',?_,nxt hj ⟨wu++[b],by rw [List.map_append]; rfl,?_,aa,?_⟩⟩
  ·rw [List.length_map] at hj
   rw [List.length_map,Paired.length hW,List.length_map,List.length_take]
   exact ao (by omega)
  ·intro c o q
   rw [af (ad q hf)]
   exact S7 _ _ (S _ _ q)
  ·rw [am hsg,List.map_append]
   have hk:KT0 H7 (upd H7 f (.lst (wu.map V.ref++[.ref b]))):=dL (S7 _ _ f')
   exact Paired.snoc (FacesAt.kt ((Same.kt S7).trans hk) hW) (hk _ _ hb)
 ·rintro vs H2 ⟨wu,rfl,S,f',hW⟩
  rw [List.length_map,Paired.length hsu,List.take_length] at hW
  have zwu:wu.length<=9:=by rw [Paired.length hW,List.length_map,<-Paired.length hsu]; exact zsu
  refine ⟨_,rfl,f,rfl,⟨_,SqL.of f'⟩,fun r hr=>?_⟩
  refine bf (xs:=wu.map V.ref) (fun i vs H'=>∃ru:List Addr,vs=ru.map V.ref/\Same H2 H'/\H' r=some (.lst vs)/\FacesAt H' ru ((((aL asks says).map fun sg=>behF rooms ds face sg).take i).filter fun b=>decide (b≠[]))) ⟨[],rfl,Same.new hr,aa,.nil⟩ (fun i vs H' _ ⟨_,_,S,h',_⟩=>⟨h',SqL.of (S _ _ f')⟩) ?_ ?_
  rotate_left
  ·rintro j vs H' x' hx' hj ⟨ru,rfl,S',r',hR⟩
   obtain ⟨u,hu,rfl⟩:=bB hx'
   obtain ⟨b,hb,hat⟩:=Paired.getL hW hu
   have hat':H' u=some (.tup (b.map V.str)):=S' _ _ hat
   refine gN ?_
   refine ⟨_,rfl,(by show 0<=sizeLine; decide),fun e he=>⟨.t (b.map sDT),.t [],bb (SqT.of (kp hat' he)),t8 (SqT.of aa),?_,by decide,_,rfl,?_⟩⟩
   ·show DT.depths _+1<=8
    rw [dz]; decide
   have S8:Same H' (upd H' e (.tup [])):=Same.new he
   generalize upd H' e (.tup [])=H8 at S8 ⊢
   have R8:=FacesAt.kt (Same.kt S8) hR
   have r8:=S8 _ _ r'
   have lz:(ru.map V.ref).length<sizeLine:=by
    rw [List.length_map] at hj
    rw [List.length_map,Paired.length hR]
    refine ao ?_
    have h1:=List.length_filter_le (fun b:List Str=>decide (b≠[])) (((aL asks says).map fun sg=>behF rooms ds face sg).take j)
    rw [List.length_take] at h1
    omega
   refine ifQ (P:=b≠[]) (by rw [show (DT.t []:DT)=DT.t (([]:List Str).map sDT) from rfl,t7]; simp) (fun c=>?_) (fun c=>?_)
   ·refine ⟨_,rfl,r8,lz,nxt hj ⟨ru++[u],by rw [List.map_append]; rfl,?_,aa,?_⟩⟩
    ·intro c o q
     rw [af (ad q hr)]
     exact S8 _ _ (S' _ _ q)
    ·rw [am hb,List.filter_append,List.filter_cons_of_pos (by simpa using c)]
     have hk:KT0 H8 (upd H8 r (.lst (ru.map V.ref++[.ref u]))):=dL r8
     exact Paired.snoc (FacesAt.kt hk R8) (hk _ _ (S8 _ _ hat'))
   ·refine nxt hj ⟨ru,rfl,S'.trans S8,r8,?_⟩
    rw [am hb,List.filter_append,List.filter_cons_of_neg (by simpa using c),List.filter_nil,List.append_nil]
    exact R8
  ·rintro vs H3 ⟨ru,rfl,S',r',hR⟩
   rw [List.length_map,Paired.length hW,List.take_length] at hR
   rw [<-sL] at hR
   exact k r ru H3 r' hR ((S1.trans S).free hr) ((S1.trans S).trans S')
theorem qo {K:PySem.W.Frag}{H:Hp}:∀xs:List Str,TKIns K H (xs.map sTK) (xs.map V.str)
 | []=>by show TKIns K H [] []; unfold TKIns; rfl
 | x::xs=>by
  rw [List.map_cons,List.map_cons]
  unfold TKIns
  refine ⟨_,_,rfl,?_,qo xs⟩
  unfold sTK mj
  rfl
theorem TupC.sq {K:PySem.W.Frag}{H:Hp}{a:Addr}{xs:List V}(h:TupC K H a xs):SqT K H a xs:=h.imp .inl id
theorem my {K:PySem.W.Frag}{H:Hp}{a:Addr}{f:List Str}(h:TupC K H a (f.map V.str)):mj K H (gTK f) (.ref a):=by
 unfold gTK mj
 exact ⟨a,_,rfl,TupC.sq h,qo f⟩
theorem CkOk.fewF {rooms:List Str}{c:List (List Str×Int)}(h:CkOk (IsF rooms) c) (hr:rooms.length<=8):c.length<=256:=by
 have h1:=fV h.nd (R:=js rooms) fun f hf=>by
  obtain ⟨p,hp,rfl⟩:=List.mem_map.1 hf
  obtain ⟨q,e⟩:=h.all p hp
  rw [e]; exact iC q rooms
 rw [iD,List.length_map] at h1
 have:2 ^ rooms.length<=2 ^ 8:=Nat.pow_le_pow_right (by decide) hr
 omega
theorem oA (a b:List Str) (h:gTK a=gTK b):a=b:=fq h
section
variable {asks says rooms:List Str}{ds:List ar}
def WOk (asks says rooms:List Str) (ds:List ar) (H:Hp) (kvW:List (TK×V)):Prop:=∀(f:List Str) (v:V),bO kvW (gTK f)=some v->∃(l:Addr) (us:List Addr),v=.ref l/\H l=some (.lst (us.map V.ref))/\FacesAt H us (waysF asks says rooms ds f)
theorem WOk.same {H H':Hp}{kvW:List (TK×V)}(h:WOk asks says rooms ds H kvW) (S:Same H H'):WOk asks says rooms ds H' kvW:=fun f v e=>by
 obtain ⟨l,us,h1,h2,h3⟩:=h f v e
 exact ⟨l,us,h1,S _ _ h2,FacesAt.kt (Same.kt S) h3⟩
theorem WOk.move {H:Hp}{kvW kvs:List (TK×V)}{d:Addr}{o:HO}(h:WOk asks says rooms ds H kvW) (hd:H d=some (.dT kvs)):WOk asks says rooms ds (upd H d o) kvW:=fun f v e=>by
 obtain ⟨l,us,h1,h2,h3⟩:=h f v e
 exact ⟨l,us,h1,by rw [af (fun z=>by rw [z,hd] at h2; cases h2)]; exact h2,FacesAt.kt (ktD hd) h3⟩
theorem oM {K:PySem.W.Frag}{H0 H:Hp}{wd cd ld fb l:Addr}{v0 v1 x4 x8:Option V}{us:List Addr}{f:List Str}{m:Int}{c acc:List (List Str×Int)}{o:Obj}{kvW:List (TK×V)}{D:kL}
  (hwd:H wd=some (.dT kvW)) (W:WOk asks says rooms ds H kvW) (hv:bO kvW (gTK f)=some (.ref l)) (hcd:H cd=some (.frz o (.dT (bo gTK c)))) (hld:H ld=some (.dT (bo gTK acc))) (nwl:wd≠ld) (hfb:TupC K H fb (f.map V.str)) (S:Same H0 H) (ld0:H0 ld=none) (ck:CkOk (IsF rooms) acc) (hr:rooms.length<=8) (hF:IsF rooms f)
  (k:∀(x8:Option V) (H':Hp),H' cd=some (.frz o (.dT (bo gTK c)))->H' wd=some (.dT kvW)->WOk asks says rooms ds H' kvW->H' ld=some (.dT (bo gTK ((waysF asks says rooms ds f).foldl (fun acc g=>upC acc g m) acc)))->Same H0 H'->D.nx [v0,v1,some (.ref wd),some (.ref cd),x4,some (.ref ld),some (.ref fb),some (.int m),x8] H') :
  eN (bS K (mN K (ag 2) (ag 6))) (ak 8) (gB (ag 5) (ag 8) (tOp cw (gZ K (ag 5) (ag 8) (tC (.int 0))) (ag 7))) D [v0,v1,some (.ref wd),some (.ref cd),x4,some (.ref ld),some (.ref fb),some (.int m),x8] H:=by
 obtain ⟨l',us,el,hl,hus⟩:=W f _ hv
 cases el
 have g1:nN K H wd (.ref fb) (some (.ref l)):=.inr ⟨_,gTK f,fb,.inl hwd,rfl,my hfb,aS f,hv.symm⟩
 have gsF:∀g∈waysF asks says rooms ds f,IsF rooms g:=fun g hg=>by
  obtain ⟨p,hp,rfl⟩:=List.mem_map.1 hg
  exact eB hF p hp
 have accOk:∀i,CkOk (IsF rooms) (((waysF asks says rooms ds f).take i).foldl (fun acc g=>upC acc g m) acc):=fun i=>ck.ups fun g hg=>gsF g (List.mem_of_mem_take hg)
 refine ⟨_,rfl,_,rfl,wd,_,rfl,g1,l,rfl,⟨_,SqL.of hl⟩,?_⟩
 refine bG (xs:=us.map V.ref) (fun i σ H'=>∃x8:Option V,σ=[v0,v1,some (.ref wd),some (.ref cd),x4,some (.ref ld),some (.ref fb),some (.int m),x8]/\H' cd=some (.frz o (.dT (bo gTK c)))/\H' wd=some (.dT kvW)/\WOk asks says rooms ds H' kvW/\H' ld=some (.dT (bo gTK (((waysF asks says rooms ds f).take i).foldl (fun acc g=>upC acc g m) acc)))/\Same H0 H'/\H' l=some (.lst (us.map V.ref))/\FacesAt H' us (waysF asks says rooms ds f))
  ⟨_,rfl,hcd,hwd,W,hld,S,hl,hus⟩ (fun i σ H' _ ⟨_,_,_,_,_,_,_,h,_⟩=>SqL.of h) ?_ ?_
 ·rintro i y σ H3 hi ⟨x8,rfl,cd3,wd3,W3,ld3,S3,l3,us3⟩
  obtain ⟨u,hu,rfl⟩:=bB hi
  obtain ⟨g,hg,hat⟩:=Paired.getL us3 hu
  have e1:((waysF asks says rooms ds f).take (i+1)).foldl (fun acc g=>upC acc g m) acc=upC (((waysF asks says rooms ds f).take i).foldl (fun acc g=>upC acc g m) acc) g m:=by
   rw [am hg,List.foldl_append]; rfl
  have ok1:=accOk i
  rw [e1]
  generalize ((waysF asks says rooms ds f).take i).foldl (fun acc g=>upC acc g m) acc=acc' at ld3 ok1
  have tk3:TKAt H3 (gTK g) (.ref u):=SignAt.tk hat
  have g2:nN K H3 ld (.ref u) (bO (bo gTK acc') (gTK g)):=.inr ⟨_,gTK g,u,.inl ld3,rfl,my (.inl hat),aS g,rfl⟩
  refine ⟨_,rfl,ld,rfl,.inr ⟨_,.inl ld3⟩,_,rfl,_,g2,?_⟩
  rw [oH oA]
  have fw:=ok1.fewF hr
  refine ⟨_,rfl,_,_,rfl,rfl,_,rfl,_,rfl,ld,_,rfl,.inr ⟨_,gTK g,u,ld3,rfl,tk3,aS g,?_,rfl⟩,?_⟩
  ·unfold bo; rw [List.length_map]; exact ao (by omega)
  rw [oG oA]
  refine ⟨_,rfl,?_,?_,W3.move ld3,aa,fun b q e=>by rw [af (ad e ld0)]; exact S3 _ _ e,?_,FacesAt.kt (ktD ld3) us3⟩
  ·rw [af (fun z=>by rw [z,ld3] at cd3; cases cd3)]; exact cd3
  ·rw [af nwl]; exact wd3
  ·rw [af (fun z=>by rw [z,ld3] at l3; cases l3)]; exact l3
 ·rintro σ H3 ⟨x8,rfl,cd3,wd3,W3,ld3,S3,l3,us3⟩
  rw [List.length_map,Paired.length hus,List.take_length] at ld3
  exact k x8 H3 cd3 wd3 W3 ld3 S3
end
def kb:Sp:=fun vs H Q _=>∃(t l1 l2 l3 l4:Addr) (ts:List Addr) (n:Nat) (asks says rooms:List Str) (ds:List ar),vs=[.ref t,.int (n:Nat)]/\Told H t l1 l2 l3 l4 ts asks says rooms ds/\ModelOk asks says rooms ds/\rooms.length<=8/\n<=1000/\∀H',Same H H'->Q (.int (cntF asks says rooms ds n)) H'
theorem tp {K:PySem.W.Frag}{vs:List V}{H:Hp}{Q:VK}{E:XK}(h:kb vs H Q E):mE K (mO K) sU { nx:=fun _ H'=>Q .non H',rt:=Q } (aA nL vs) H:=by
 obtain ⟨t,l1,l2,l3,l4,ts,n,asks,says,rooms,ds,rfl,T,m,hr,hn,k⟩:=h
 have z3:=m.rooms26
 refine fun wd hwd=>fun cd hcd=>?_
 have S1:Same H (upd H wd (.dT [])):=Same.new hwd
 have S2:Same (upd H wd (.dT [])) (upd (upd H wd (.dT [])) cd (.dT [])):=Same.new hcd
 have wd2:=S2 _ _ (aa (H:=H) (a:=wd) (o:=.dT []))
 have cd2:upd (upd H wd (.dT [])) cd (.dT []) cd=some (.dT []):=aa
 have S02:=S1.trans S2
 have ncw:cd≠wd:=fun z=>by rw [z,aa] at hcd; cases hcd
 have cd0:H cd=none:=S1.free hcd
 generalize upd (upd H wd (.dT [])) cd (.dT [])=H2 at wd2 cd2 S02 ⊢
 have T2:=T.same S02
 have c1:ji (rooms.map V.str) none (some 1)=(rooms.take 1).map V.str:=kG rooms 1
 refine ⟨_,rfl,_,rfl,.inr (.inl ⟨t,_,2,_,rfl,rfl,SqT.of T2.t,rfl,_,rfl,l3,_,rfl,SqL.of T2.a3,fun fl hfl=>?_⟩)⟩
 rw [c1]
 have S3:Same H2 (upd H2 fl (.lst ((rooms.take 1).map V.str))):=Same.new hfl
 have fl3:upd H2 fl (.lst ((rooms.take 1).map V.str)) fl=some (.lst ((rooms.take 1).map V.str)):=aa
 generalize upd H2 fl (.lst ((rooms.take 1).map V.str))=H3 at S3 fl3 ⊢
 refine ⟨t,fl,l1,l2,l3,l4,ts,asks,says,rooms,rooms.take 1,ds,rfl,T2.same S3,m,fl3,(by rw [List.length_take]; omega),fun f0 H4 hf0 S4=>?_⟩
 have S24:=S3.trans S4
 refine ⟨S24 _ _ cd2,f0,gTK (closF rooms ds (rooms.take 1)),rfl,ii (.inl hf0),aS _,?_⟩
 have cd5:upd H4 cd (.dT [(gTK (closF rooms ds (rooms.take 1)),.int 1)]) cd=some (.dT (bo gTK (itC (waysF asks says rooms ds) (closF rooms ds (rooms.take 1)) 0))):=aa
 have S05:Same H (upd H4 cd (.dT [(gTK (closF rooms ds (rooms.take 1)),.int 1)])):=fun b o e=>by rw [af (ad e cd0)]; exact S24 _ _ (S02 _ _ e)
 have wd5:upd H4 cd (.dT [(gTK (closF rooms ds (rooms.take 1)),.int 1)]) wd=some (.dT []):=by rw [af ncw.symm]; exact S24 _ _ wd2
 generalize upd H4 cd (.dT [(gTK (closF rooms ds (rooms.take 1)),.int 1)])=H5 at cd5 S05 wd5 ⊢
 have wd0:H wd=none:=hwd
 have sF:∀f,IsF rooms f->∀g∈waysF asks says rooms ds f,IsF rooms g:=fun f hf g hg=>by
  obtain ⟨p,hp,rfl⟩:=List.mem_map.1 hg
  exact eB hf p hp
 have cok:∀i,CkOk (IsF rooms) (itC (waysF asks says rooms ds) (closF rooms ds (rooms.take 1)) i):=fun i=>CkOk.it sF lV i
 generalize hf1:closF rooms ds (rooms.take 1)=f1 at *
 refine ⟨_,rfl,(n:Int),rfl,by omega,by omega,?_⟩
 refine db (lo:=0) (n:=(n:Int).toNat) (fun i σ H'=>∃(cd:Addr) (x4 x5 x6 x7 x8:Option V) (kvW:List (TK×V)),σ=[some (.ref t),some (.int (n:Nat)),some (.ref wd),some (.ref cd),x4,x5,x6,x7,x8]/\H' wd=some (.dT kvW)/\WOk asks says rooms ds H' kvW/\kvW.length<=256 * i/\H' cd=some (.dT (bo gTK (itC (waysF asks says rooms ds) f1 i)))/\H cd=none/\cd≠wd/\Same H H')
  ⟨cd,_,_,_,_,_,[],rfl,wd5,(fun f v e=>nomatch e),Nat.zero_le _,cd5,cd0,ncw,S05⟩ ?_ ?_
 ·rintro i σ H6 hi ⟨cd,x4,x5,x6,x7,x8,kvW,rfl,wd6,W6,zW,cd6,cd0,ncw,S6⟩
  rw [Int.toNat_natCast] at hi
  refine fun ld hld=>?_
  have S7:Same H6 (upd H6 ld (.dT [])):=Same.new hld
  have cd7:=S7 _ _ cd6
  have ck:=cok i
  have e1:itC (waysF asks says rooms ds) f1 (i+1)=onC (waysF asks says rooms ds) (itC (waysF asks says rooms ds) f1 i):=rfl
  rw [e1]
  generalize itC (waysF asks says rooms ds) f1 i=c at cd6 cd7 ck
  refine ⟨_,rfl,cd,_,rfl,.inl ⟨cd7,fun o=>?_⟩⟩
  have ncl:cd≠ld:=ad cd6 hld
  have nwl:wd≠ld:=ad wd6 hld
  have ld0:H ld=none:=S6.free hld
  have cd8:upd (upd H6 ld (.dT [])) cd (.frz o (.dT (bo gTK c))) cd=some (.frz o (.dT (bo gTK c))):=aa
  have ld8:upd (upd H6 ld (.dT [])) cd (.frz o (.dT (bo gTK c))) ld=some (.dT (bo gTK [])):=by rw [af ncl.symm,aa]; rfl
  have wd8:upd (upd H6 ld (.dT [])) cd (.frz o (.dT (bo gTK c))) wd=some (.dT kvW):=by rw [af ncw.symm]; exact S7 _ _ wd6
  have W8:=(W6.same S7).move (o:=.frz o (.dT (bo gTK c))) cd7
  have S8:Same H (upd (upd H6 ld (.dT [])) cd (.frz o (.dT (bo gTK c)))):=fun b q e=>by rw [af (ad e cd0)]; exact S7 _ _ (S6 _ _ e)
  generalize upd (upd H6 ld (.dT [])) cd (.frz o (.dT (bo gTK c)))=H8 at cd8 ld8 wd8 W8 S8 ⊢
  have el:(bo gTK c).length=c.length:=by unfold bo; rw [List.length_map]
  have fw:=ck.fewF hr
  have accOk:∀j,CkOk (IsF rooms) ((c.take j).foldl (fun acc p=>(waysF asks says rooms ds p.1).foldl (fun acc g=>upC acc g p.2) acc) []):=fun j=>CkOk.on sF (fun p hp=>ck.all p (List.mem_of_mem_take hp)) .nil
  refine i0 (fun j σ H'=>∃(x6 x7 x8:Option V) (kvW:List (TK×V)),σ=[some (.ref t),some (.int (n:Nat)),some (.ref wd),some (.ref cd),some (.int (0+(i:Nat))),some (.ref ld),x6,x7,x8]/\H' cd=some (.frz o (.dT (bo gTK c)))/\H' wd=some (.dT kvW)/\WOk asks says rooms ds H' kvW/\kvW.length<=256 * i+j/\H' ld=some (.dT (bo gTK ((c.take j).foldl (fun acc p=>(waysF asks says rooms ds p.1).foldl (fun acc g=>upC acc g p.2) acc) [])))/\Same H H')
   ⟨_,_,_,kvW,rfl,cd8,wd8,W8,by omega,ld8,S8⟩ ?_ ?_ ?_
  ·rintro j σ H' _ ⟨_,_,_,_,_,h,_⟩
   exact h
  ·rintro j σ H9 p a b hj ⟨x6,x7,x8,kvW,rfl,cd9,wd9,W9,zW,ld9,S9⟩ hp ⟨key,ek,tkc⟩
   unfold bo at ek
   rw [List.getElem?_map] at ek
   obtain ⟨pr,hpr,epr⟩:=Option.map_eq_some_iff.1 ek
   cases epr
   obtain ⟨fb,rfl,hfb⟩:=nP tkc
   have hF:=ck.all pr (List.mem_of_getElem? hpr)
   have hFl:=hF.len
   have Sp:Same H9 (upd H9 p (.tup [.ref fb,.int pr.2])):=Same.new hp
   have hp10:upd H9 p (.tup [.ref fb,.int pr.2]) p=some (.tup [.ref fb,.int pr.2]):=aa
   generalize upd H9 p (.tup [.ref fb,.int pr.2])=H10 at Sp hp10 ⊢
   have acc1:=accOk j
   have e2:(c.take (j+1)).foldl (fun acc p=>(waysF asks says rooms ds p.1).foldl (fun acc g=>upC acc g p.2) acc) []=(waysF asks says rooms ds pr.1).foldl (fun acc g=>upC acc g pr.2) ((c.take j).foldl (fun acc p=>(waysF asks says rooms ds p.1).foldl (fun acc g=>upC acc g p.2) acc) []):=by
    rw [am hpr,List.foldl_append]; rfl
   generalize (c.take j).foldl (fun acc p=>(waysF asks says rooms ds p.1).foldl (fun acc g=>upC acc g p.2) acc) []=acc at ld9 acc1 e2
   refine ⟨p,_,rfl,SqT.of hp10,rfl,_,_,rfl,_,_,rfl,rfl,?_⟩
   have hfb10:=TupC.kt (Same.kt Sp) hfb
   have wd10:=Sp _ _ wd9
   have g10:nN K H10 wd (.ref fb) (bO kvW (gTK pr.1)):=.inr ⟨_,gTK pr.1,fb,.inl wd10,rfl,my hfb10,aS _,rfl⟩
   refine ⟨_,rfl,_,rfl,wd,_,rfl,g10,_,rfl,?_⟩
   rw [el] at hj
   cases hv:bO kvW (gTK pr.1) with
   | none =>
    refine cK ?_
    refine ⟨_,rfl,_,rfl,t,fb,l1,l2,l3,l4,ts,asks,says,rooms,pr.1,ds,rfl,T.same (S9.trans Sp),m,TupC.sq hfb10,by omega,fun l us H11 hl hus hl0 S11=>?_⟩
    have wd11:=S11 _ _ wd10
    have hfb11:=TupC.kt (Same.kt S11) hfb10
    have W11:=((W9.same Sp).same S11).move (o:=.dT (dS kvW (gTK pr.1) (.ref l))) wd11
    have nlw:l≠wd:=fun z=>by rw [z,wd11] at hl; cases hl
    refine ⟨_,rfl,_,rfl,wd,fb,kvW,gTK pr.1,rfl,rfl,wd11,ii hfb11,aS _,by rw [sizeLine_eq]; omega,?_⟩
    have kl:=kq kvW (gTK pr.1) (.ref l)
    refine oM (asks:=asks) (says:=says) (rooms:=rooms) (ds:=ds) (l:=l) (us:=us) aa ?_ (by rw [ig,if_pos rfl]) ?_ ?_ nwl (TupC.kt (ktD wd11) hfb11) ?_ ld0 acc1 hr hF fun x8 H' q1 q2 q3 q4 q5=>⟨_,_,x8,_,rfl,q1,q2,q3,by omega,by rw [e2]; exact q4,q5⟩
    ·intro f v e
     rw [ig] at e
     by_cases z:gTK f=gTK pr.1
     ·rw [if_pos z] at e
      cases e
      rw [fq z]
      exact ⟨l,us,rfl,by rw [af nlw]; exact hl,FacesAt.kt (ktD wd11) hus⟩
     ·rw [if_neg z] at e
      exact W11 f v e
    ·rw [af ncw]; exact S11 _ _ (Sp _ _ cd9)
    ·rw [af nwl.symm]; exact S11 _ _ (Sp _ _ ld9)
    ·intro b q e
     rw [af (ad e wd0)]
     exact S11 _ _ (Sp _ _ (S9 _ _ e))
   | some v =>
    refine bx ?_
    obtain ⟨l,us,rfl,hl,hus⟩:=W9.same Sp _ _ hv
    exact oM (us:=us) wd10 (W9.same Sp) hv (Sp _ _ cd9) (Sp _ _ ld9) nwl hfb10 (S9.trans Sp) ld0 acc1 hr hF fun x8 H' q1 q2 q3 q4 q5=>⟨_,_,x8,_,rfl,q1,q2,q3,by omega,by rw [e2]; exact q4,q5⟩
  ·rintro σ H9 ⟨x6,x7,x8,kvW,rfl,cd9,wd9,W9,zW,ld9,S9⟩
   rw [el] at zW ld9
   rw [List.take_length] at ld9
   refine ⟨_,rfl,ld,_,_,_,_,_,kvW,rfl,wd9,W9,by omega,ld9,ld0,nwl.symm,S9⟩
 ·rintro σ H6 ⟨cd,x4,x5,x6,x7,x8,kvW,rfl,wd6,W6,zW,cd6,cd0,ncw,S6⟩
  rw [Int.toNat_natCast] at cd6
  refine ⟨_,rfl,cd,_,fun i=>((itC (waysF asks says rooms ds) f1 n).getD i ([],0)).2,rfl,fun i key v e=>?_,.inl ⟨cd6,fun o=>?_⟩⟩
  ·unfold bo at e
   rw [List.getElem?_map] at e
   obtain ⟨p,hp,ep⟩:=Option.map_eq_some_iff.1 e
   cases ep
   show V.int p.2=V.int ((itC (waysF asks says rooms ds) f1 n).getD i ([],0)).2
   rw [List.getD_eq_getElem?_getD,hp]; rfl
  ·have e:preSum (fun i=>((itC (waysF asks says rooms ds) f1 n).getD i ([],0)).2) (bo gTK (itC (waysF asks says rooms ds) f1 n)).length=cntF asks says rooms ds n:=by
    unfold bo cntF
    rw [List.length_map,lD _ _ (fun i p hp=>by rw [List.getD_eq_getElem?_getD,hp]; rfl),hf1]
   rw [e]
   exact k _ fun b q w=>by rw [af (ad w cd0)]; exact S6 _ _ w
theorem si (asks says rooms:List Str) (ds:List ar):cntF asks says rooms ds 0=1:=by
 unfold cntF itC
 simp
def nDT (n:Int):DT:=.k (.inl n)
theorem t_ {K:PySem.W.Frag}{H:Hp}(n:Int):DIn K H (nDT n) (.int n):=by unfold nDT DIn; rfl
def sp_law15 (K:PySem.W.Frag):Sp:=fun vs H Q _=>∃(a:Addr) (ns:List Int),vs=[.ref a]/\SqL K H a (ns.map V.int)/\ns.length<=63/\∀H',Q (.bl true) H'
theorem tm {K:PySem.W.Frag}{C:Addr}{vs:List V}{H:Hp}{Q:VK}{E:XK}(h:sp_law15 K vs H Q E):uM K (gw K 2) (gA K C) kb bY (gy C) j_ (mQ K) { nx:=fun _ H'=>Q .non H',rt:=Q } (aA sC vs) H:=by
 obtain ⟨a,ns,rfl,hs,hn,k⟩:=h
 refine ⟨_,rfl,a,ns,rfl,hs,hn,fun p c H1 _ hp1 S1=>?_⟩
 refine ⟨_,rfl,p,c,4,0,rfl,hp1,by decide,by decide,by decide,by decide,fun t l1 l2 l3 l4 ts asks says rooms ds H2 T2 m hrl few hp2 ex2=>?_⟩
 have hr:rooms.length<=8:=Nat.le_trans hrl (by decide)
 refine ⟨_,rfl,t,l1,l2,l3,l4,ts,asks,says,rooms,ds,rfl,T2,m,fun x H3 M3 S3=>?_⟩
 have T3:=T2.same S3
 have hp3:=hp2.ex S3
 refine ⟨_,rfl,?_⟩
 unfold bY
 refine ⟨p,c,61,rfl,hp3,by decide,by decide,fun r H4 r0 r61 hp4 ex4=>?_⟩
 have T4:=T3.ex hp3 ex4
 have M4:=M3.ex hp3 ex4
 obtain ⟨n,rfl⟩:∃n:Nat,r=(n:Int):=⟨r.toNat,(Int.toNat_of_nonneg r0).symm⟩
 refine ⟨_,rfl,_,rfl,t,l1,l2,l3,l4,ts,n,asks,says,rooms,ds,rfl,T4,m,hr,by omega,fun H5 S5=>?_⟩
 have M5:=M4.same S5
 refine ⟨(2:Int),rfl,by decide,by decide,?_⟩
 refine db (lo:=0) (n:=Int.toNat 2) (fun i σ H'=>∃x6:Option V,σ=[some (.ref a),some (.ref p),some (.ref t),some (.ref x),some (.int (n:Nat)),some (.int (cntF asks says rooms ds n)),x6]/\Same H5 H') ⟨_,rfl,.refl _⟩ ?_ ?_
 ·rintro i σ H6 hi ⟨x6,rfl,S6⟩
  refine ⟨_,rfl,_,rfl,x,n,asks,says,rooms,ds,rfl,M5.same S6,hr,by omega,fun H7 S7=>⟨_,rfl,.inl ⟨_,_,nDT (cntF asks says rooms ds n),nDT (cntF asks says rooms ds n),rfl,t_ _,t_ _,(by show 0<=2; decide),(by show 0<=2; decide),fun H8 S8=>⟨_,rfl,?_⟩⟩⟩⟩
  rw [decide_eq_true rfl]
  refine bx ?_
  refine ⟨_,rfl,x,0,asks,says,rooms,ds,rfl,((M5.same S6).same S7).same S8,hr,by omega,fun H9 S9=>.inl ⟨_,_,nDT (cntF asks says rooms ds 0),nDT 1,rfl,t_ _,t_ _,(by show 0<=2; decide),(by show 0<=2; decide),fun H10 S10=>⟨_,rfl,?_⟩⟩⟩
  rw [si,decide_eq_true rfl]
  exact bx ⟨_,rfl,(((S6.trans S7).trans S8).trans S9).trans S10⟩
 ·rintro σ H6 ⟨x6,rfl,S6⟩
  exact k H6
def top (i:Nat):Stmt:=PySem.Challenge.pw_mumtrial_k15_stories_counted.main.body.getD i (.Pass ⟨0,0,0,0⟩)
local macro_rules | `(tactic| walk_at "s")=>`(tactic| exact ⟨rfl,rfl,rfl,by decide +kernel,rfl,by decide +kernel,by decide +kernel⟩)
local macro_rules | `(tactic| walk_at "l")=>`(tactic| (intro _ _ _ _ h; first | exact len_h h | exact len_g h | (obtain ⟨_,_,h,_⟩:=h; subst h; rfl) | ((repeat obtain ⟨_,h⟩:=h); subst_vars; rfl)))
local macro_rules | `(tactic| walk_at "b")=>`(tactic| (intro _ _ _ _ _ _ us hl; first | (match us,hl with | [_],_=>rfl) | (match us,hl with | [_,_],_=>rfl) | (match us,hl with | [_,_,_],_=>rfl) | (match us,hl with | [_,_,_,_],_=>rfl) | (match us,hl with | [_,_,_,_,_],_=>rfl) | (match us,hl with | [],_=>rfl)))
def FnT (K:PySem.W.Frag) (x qual:Str) (st:Stmt) (f:Addr):Prop:=∃(oc:Value) (od an:Option Addr) (sl:Array (Option Value)) (kV dc pm cd ct:Value),
 K.lookup f=some ⟨oc,od,.func (PySem.W.fnOf x qual (dA st) (cC st) (aH st) .none kV dc pm an cd ct),sl⟩/\PySem.W.codeIn K cd qual=true/\PySem.W.keepIn K (.ref f)=true
theorem uA {K:PySem.W.Frag}{x qual:Str}{st:Stmt}{f:Addr}{oc:Value}{od an:Option Addr}{sl:Array (Option Value)}{kV dc pm cd ct:Value}(l:K.lookup f=some ⟨oc,od,.func (PySem.W.fnOf x qual (dA st) (cC st) (aH st) .none kV dc pm an cd ct),sl⟩)
  (c:PySem.W.codeIn K cd qual=true) (k:PySem.W.keepIn K (.ref f)=true):FnT K x qual st f:=⟨oc,od,an,sl,kV,dc,pm,cd,ct,l,c,k⟩
def FnG (K:PySem.W.Frag) (x:Str) (st:Stmt):Prop:=∃f,PySem.W.nsIn K mainGlobals x=some (some (.ref f))/\FnT K x x st f
theorem fnG_mk {K:PySem.W.Frag}{x:Str}{st:Stmt}{f:Addr}{oc:Value}{od an:Option Addr}{sl:Array (Option Value)}{kV dc pm cd ct:Value}(a:PySem.W.nsIn K mainGlobals x=some (some (.ref f))) (l:K.lookup f=some ⟨oc,od,.func (PySem.W.fnOf x x (dA st) (cC st) (aH st) .none kV dc pm an cd ct),sl⟩)
  (c:PySem.W.codeIn K cd x=true) (k:PySem.W.keepIn K (.ref f)=true):FnG K x st:=⟨f,a,uA l c k⟩
def FnM (K:PySem.W.Frag) (C:Addr) (m qual:Str) (st:Stmt):Prop:=∃f,PySem.W.findIn K (.ref C) m=some (some (.ref f))/\PySem.W.isFn K (.ref f)=true/\FnT K m qual st f
theorem fnM_mk {K:PySem.W.Frag}{C:Addr}{m qual:Str}{st:Stmt}{f:Addr}{oc:Value}{od an:Option Addr}{sl:Array (Option Value)}{kV dc pm cd ct:Value}(a:PySem.W.findIn K (.ref C) m=some (some (.ref f))) (i:PySem.W.isFn K (.ref f)=true)
  (l:K.lookup f=some ⟨oc,od,.func (PySem.W.fnOf m qual (dA st) (cC st) (aH st) .none kV dc pm an cd ct),sl⟩) (c:PySem.W.codeIn K cd qual=true) (k:PySem.W.keepIn K (.ref f)=true):FnM K C m qual st:=⟨f,a,i,uA l c k⟩
theorem FnT.fun_ {K:PySem.W.Frag}{x qual:Str}{st:Stmt}{f:Addr}(T:FnT K x qual st f):∃fd,Fun K x qual st f fd:=by
 obtain ⟨oc,od,an,sl,kV,dc,pm,cd,ct,l,c,k⟩:=T
 exact ⟨_,uz (st:=st) l c k⟩
def w8:Sp:=fun _ _ _ _=>False
theorem wP {P:Program}{w:World}{K:PySem.W.Frag}{mg:Str->Option Value}{base:Heap}{k:Nat}{f:Addr}{fd:FuncData}{ps:List Str}:jA P w K mg base CX0 k f fd ps w8:=⟨fun _ _ _ _ h=>h.elim,fun _ _ _ _ _ _ _ _ _ _ _ _ _ h=>h.elim⟩
def wW (K:PySem.W.Frag) (a:Addr) (ws:List Str):Prop:=∀H,SqT K H a (ws.map V.str)
theorem qj {K:PySem.W.Frag}{a:Addr}{ws:List Str}{o:Obj}{its:Array Value}{n:Nat}(l:K.lookup a=some o) (c:o.cls=.type "tuple") (d:o.data=.seq its n) (z:its.size<=sizeLine) (v:Vals (ws.map V.str) its.toList):wW K a ws :=
 fun _=>.inr ⟨o,its,n,l,c,d,z,v⟩
section
variable {P:Program}{w:World}{K:PySem.W.Frag}{mg:Str->Option Value}{base h:Heap}{C:Addr}{x qual:Str}{st:Stmt}{N ps:List Str}{k:Nat}{sp:Sp}
abbrev vF (ps:List Str) (sp:Sp):Prop:=∀vs H Q E,sp vs H Q E->vs.length=ps.length
abbrev sG (CX:CXT) (P:Program) (w:World) (K:PySem.W.Frag) (mg:Str->Option Value) (base:Heap) (qual:Str) (st:Stmt) (N:List Str) (k:Nat) (sp:Sp) (nox:Cx->Cx):Prop:=N.Nodup->∀(f:Addr) (cdv:Value) (A:Around) (outer:List Env) (s:Shared) (H:Hp) (vs:List V) (Q:VK) (E:XK),Room k (A.deeper (envOfC qual (aH st) s.heap.objs.size f cdv))->(A.deeper (envOfC qual (aH st) s.heap.objs.size f cdv)).units+16<cLine->sp vs H Q E ->
 ∃t,PSs (nox (vz CX P w K mg base N qual (aH st) f cdv A outer s H E)) (cC st) t/\t { nx:=fun _ H'=>Q .non H',rt:=Q } (aA N vs) H
abbrev sH (x qual:Str) (st:Stmt) (ps:List Str):Prop:=∀(kV doc pm:Value) (an:Option Addr) (cdv ct:Value) (us:List Value),us.length=ps.length->bindArgs (PySem.W.fnOf x qual (dA st) (cC st) (aH st) .none kV doc pm an cdv ct) ⟨us,[]⟩=pure (ps.zip us)
theorem dG (X:K.In h) (G:h.Ns mainGlobals mg) (T:FnG K x st) (b:sG CX0 P w K mg base x st N k sp Cx.nox) (bi:sH x x st ps) (S:fx N ps (aH st):=by walk_at "s") (l:vF ps sp:=by walk_at "l"):Def P w K mg base x ps (k+1) sp:=by
 obtain ⟨f,a,t⟩:=T
 obtain ⟨fd,F⟩:=t.fun_
 exact ⟨f,fd,F.ok S l fun cdv A outer s H vs Q E hr h=>b S.nd f cdv A outer s H vs Q E hr (tP hr) h,PySem.W.mg_of X G a,F.kp,F.binds bi⟩
theorem dM (cl:Cls K C) (T:FnM K C x qual st) (b:sG CX0 P w K mg base qual st N k sp Cx.nox) (bi:sH x qual st ps) (S:fx N ps (aH st):=by walk_at "s") (l:vF ps sp:=by walk_at "l"):Mth P w K mg base C x ps (k+1) sp:=by
 obtain ⟨f,a,i,t⟩:=T
 obtain ⟨fd,F⟩:=t.fun_
 exact ⟨f,fd,F.ok S l fun cdv A outer s H vs Q E hr h=>b S.nd f cdv A outer s H vs Q E hr (tP hr) h,cl,⟨a,i,F.kp⟩,F.binds bi⟩
theorem dN {y:Str}(cm:mg y=some (.ref C)) (mk:PySem.W.makesIn K C=true) (kc:PySem.W.keepIn K (.ref C)=true) (T:FnM K C "__init__" qual st) (b:sG CX0 P w K mg base qual st N k sp Cx.nox) (bi:sH "__init__" qual st ps) (S:fx N ps (aH st):=by walk_at "s") (l:vF ps sp:=by walk_at "l"):New P w K mg base y C ps (k+1) sp:=by
 obtain ⟨f,a,i,t⟩:=T
 obtain ⟨fd,F⟩:=t.fun_
 exact ⟨f,fd,F.ok S l fun cdv A outer s H vs Q E hr h=>b S.nd f cdv A outer s H vs Q E hr (tP hr) h,cm,⟨mk,a,i,kc⟩,F.binds bi⟩
end
structure Zs (mg:Str->Option Value):Prop where
 all:mg "all"=none
 bool:mg "bool"=none
 dict:mg "dict"=none
 enumerate:mg "enumerate"=none
 int:mg "int"=none
 isinstance:mg "isinstance"=none
 len:mg "len"=none
 list:mg "list"=none
 range:mg "range"=none
 str:mg "str"=none
 sum:mg "sum"=none
 tuple:mg "tuple"=none
 zip:mg "zip"=none
structure Cs (K:PySem.W.Frag) (mg:Str->Option Value) (C Cf a_STILL a_HUSH:Addr):Prop where
 LETTERS:Gc mg "LETTERS" (.str "abcdefghijklmnopqrstuvwxyz")
 LONGEST_NAME:Gc mg "LONGEST_NAME" (.int 8)
 MOST_WORDS:Gc mg "MOST_WORDS" (.int 4)
 MOST_ROOMS:Gc mg "MOST_ROOMS" (.int 150)
 MOST_DOORS:Gc mg "MOST_DOORS" (.int 2000)
 MOST_FACES:Gc mg "MOST_FACES" (.int 400)
 STILL:Gc mg "STILL" (.ref a_STILL)
 HUSH:Gc mg "HUSH" (.ref a_HUSH)
 still:wW K a_STILL stillSg
 hush:wW K a_HUSH hushSg
 mc:MC K C
 cm:mg "Machine"=some (.ref C)
 makes:PySem.W.makesIn K C=true
 kc:PySem.W.keepIn K (.ref C)=true
 fc:FC K Cf
 cmf:mg "FaceMap"=some (.ref Cf)
 makesf:PySem.W.makesIn K Cf=true
 kcf:PySem.W.keepIn K (.ref Cf)=true
structure Ts (K:PySem.W.Frag) (C Cf:Addr):Prop where
 f_law_spread:FnG K "_law_spread" (top 38)
 f_law_open:FnG K "_law_open" (top 39)
 f_law_anew:FnG K "_law_anew" (top 40)
 f_law_take:FnG K "_law_take" (top 41)
 f_law_names:FnG K "_law_names" (top 42)
 f_law_put:FnG K "_law_put" (top 43)
 f_law_draw_doors:FnG K "_law_draw_doors" (top 44)
 f_law_model:FnG K "_law_model" (top 45)
 f_is_name:FnG K "is_name" (top 24)
 f_as_keys:FnG K "as_keys" (top 25)
 f_first_wrong_name:FnG K "first_wrong_name" (top 26)
 f_door_signs:FnG K "door_signs" (top 27)
 f_first_wrong_door:FnG K "first_wrong_door" (top 28)
 f_goals_by_start_and_sign:FnG K "goals_by_start_and_sign" (top 29)
 f_led_by_still:FnG K "led_by_still" (top 30)
 f_first_led_round:FnG K "first_led_round" (top 31)
 f_need_none:FnG K "need_none" (top 32)
 f_need_parts:FnG K "need_parts" (top 33)
 f_doors_by_start:FnG K "doors_by_start" (top 34)
 f_has_asks_alone:FnG K "has_asks_alone" (top 35)
 f_Machine___init__:FnM K C "__init__" "Machine.__init__" (cR (top 36) 0)
 f_law_machine:FnG K "_law_machine" (top 47)
 f_Machine_rooms:FnM K C "rooms" "Machine.rooms" (cR (top 36) 3)
 f_Machine_led_from:FnM K C "led_from" "Machine.led_from" (cR (top 36) 8)
 f_with_still:FnG K "with_still" (top 8)
 f_Machine_goals:FnM K C "goals" "Machine.goals" (cR (top 36) 7)
 f_Machine_is_quiet:FnM K C "is_quiet" "Machine.is_quiet" (cR (top 36) 5)
 f_law_still_on:FnG K "_law_still_on" (top 46)
 f_law_on:FnG K "_law_on" (top 49)
 f_law_is_quiet:FnG K "_law_is_quiet" (top 50)
 f_law_behind:FnG K "_law_behind" (top 51)
 f_law_signs:FnG K "_law_signs" (top 52)
 f_law_same:FnG K "_law_same" (top 48)
 f_Machine_asks:FnM K C "asks" "Machine.asks" (cR (top 36) 1)
 f_Machine_says:FnM K C "says" "Machine.says" (cR (top 36) 2)
 f_first_face:FnG K "first_face" (top 9)
 f_face_behind:FnG K "face_behind" (top 10)
 f_signs_in_order:FnG K "signs_in_order" (top 7)
 f_steps_at:FnG K "steps_at" (top 11)
 f_FaceMap_number_at:FnM K Cf "number_at" "FaceMap.number_at" (cR (top 14) 1)
 f_FaceMap_numbered_steps:FnM K Cf "numbered_steps" "FaceMap.numbered_steps" (cR (top 14) 2)
 f_FaceMap___init__:FnM K Cf "__init__" "FaceMap.__init__" (cR (top 14) 0)
 f_counts_one_sign_on:FnG K "counts_one_sign_on" (top 15)
 f_how_many:FnG K "how_many" (top 16)
 f_law_ways:FnG K "_law_ways" (top 53)
 f_law_count:FnG K "_law_count" (top 54)
 f_law15:FnG K "law" (top 55)
section
variable {P:Program}{w:World}{K:PySem.W.Frag}{mg:Str->Option Value}{base h:Heap}{C Cf a_STILL a_HUSH:Addr}
section
variable (P:Program) (w:World) (K:PySem.W.Frag) (mg:Str->Option Value) (C Cf a_STILL a_HUSH:Addr)
abbrev d9:Prop:=∀base,Def P w K mg base "_law_spread" ["cell","at"] 1 iE
abbrev jV:Prop:=∀base,Def P w K mg base "_law_open" ["script"] 1 (mQ K)
abbrev gU:Prop:=∀base,Def P w K mg base "_law_anew" ["pen"] 1 mV
abbrev dg:Prop:=∀base,Def P w K mg base "_law_take" ["pen","many"] 2 bY
abbrev fz:Prop:=∀base,Def P w K mg base "_law_names" ["pen","many"] 3 j9
abbrev jc:Prop:=∀base,Def P w K mg base "_law_put" ["doors","door"] 1 iF
abbrev b_:Prop:=∀base,Def P w K mg base "_law_draw_doors" ["pen","asks","says","rooms","full"] 3 dh
abbrev jd:Prop:=∀base,Def P w K mg base "_law_model" ["pen","most","full"] 4 j_
abbrev jf:Prop:=∀base,Def P w K mg base "is_name" ["text"] 1 sp_is_name
abbrev em:Prop:=∀base,Def P w K mg base "as_keys" ["things"] 1 (sp_as_keys K)
abbrev bI:Prop:=∀base,Def P w K mg base "first_wrong_name" ["names","most","taken"] 2 (sp_first_wrong_name K)
abbrev eh:Prop:=∀base,Def P w K mg base "door_signs" ["asks","says"] 1 (sp_door_signs K)
abbrev bJ:Prop:=∀base,Def P w K mg base "first_wrong_door" ["doors","rooms","signs"] 2 (sp_first_wrong_door K)
abbrev aP:Prop:=∀base,Def P w K mg base "goals_by_start_and_sign" ["doors"] 1 ka
abbrev cT:Prop:=∀base,Def P w K mg base "led_by_still" ["goals","room"] 1 qC
abbrev bT:Prop:=∀base,Def P w K mg base "first_led_round" ["rooms","led"] 1 sp_first_led_round
abbrev dC:Prop:=∀base,Def P w K mg base "need_none" ["part","number"] 1 sp_need_none
abbrev d6:Prop:=∀base,Def P w K mg base "need_parts" ["asks","says","rooms","doors"] 3 sp_need_parts
abbrev cb:Prop:=∀base,Def P w K mg base "doors_by_start" ["rooms","doors"] 1 sp_doors_by_start
abbrev ca:Prop:=∀base,Def P w K mg base "has_asks_alone" ["doors"] 1 sp_has_asks_alone
abbrev jg:Prop:=∀base,New P w K mg base "Machine" C ["self","asks","says","rooms","doors"] 4 (mR C)
abbrev gh:Prop:=∀base,Def P w K mg base "_law_machine" ["told"] 6 (gy C)
abbrev bL:Prop:=∀base,Mth P w K mg base C "rooms" ["self"] 1 (ik C)
abbrev bM:Prop:=∀base,Mth P w K mg base C "led_from" ["self","room"] 1 (ff C)
abbrev cL:Prop:=∀base,Def P w K mg base "with_still" ["M","rooms"] 2 (sp_with_still C)
abbrev cF:Prop:=∀base,Mth P w K mg base C "goals" ["self","room","sign"] 1 (fK C)
abbrev bN:Prop:=∀base,Mth P w K mg base C "is_quiet" ["self","room"] 1 (fg C)
abbrev cU:Prop:=∀base,Def P w K mg base "_law_still_on" ["doors","rooms"] 1 (e_ K)
abbrev iq:Prop:=∀base,Def P w K mg base "_law_on" ["told","some"] 2 sU
abbrev cV:Prop:=∀base,Def P w K mg base "_law_is_quiet" ["told","room"] 1 iG
abbrev d_:Prop:=∀base,Def P w K mg base "_law_behind" ["told","face","sign"] 3 (mT K)
abbrev fy:Prop:=∀base,Def P w K mg base "_law_signs" ["told"] 1 j7
abbrev jU:Prop:=∀base,Def P w K mg base "_law_same" ["found","due"] 3 (gw K 2)
abbrev cX:Prop:=∀base,Mth P w K mg base C "asks" ["self"] 1 (mU C)
abbrev cW:Prop:=∀base,Mth P w K mg base C "says" ["self"] 1 (mP C)
abbrev ee:Prop:=∀base,Def P w K mg base "first_face" ["M"] 3 (bA C)
abbrev dD:Prop:=∀base,Def P w K mg base "face_behind" ["M","face","sign"] 3 (mS K C)
abbrev b9:Prop:=∀base,Def P w K mg base "signs_in_order" ["M"] 2 (qA C a_HUSH)
abbrev gR:Prop:=∀base,Def P w K mg base "steps_at" ["M","face"] 4 (gv C)
abbrev aW:Prop:=∀base,Mth P w K mg base Cf "number_at" ["self","face","story"] 1 (il K Cf)
abbrev aT:Prop:=∀base,Mth P w K mg base Cf "numbered_steps" ["self","number"] 5 (fe K Cf C)
abbrev jh:Prop:=∀base,New P w K mg base "FaceMap" Cf ["self","M"] 6 (iH K Cf C)
abbrev bp:Prop:=∀base,Def P w K mg base "counts_one_sign_on" ["steps","counts"] 1 j8
abbrev jW:Prop:=∀base,Def P w K mg base "how_many" ["M","n"] 8 (gA K C)
abbrev gS:Prop:=∀base,Def P w K mg base "_law_ways" ["told","face"] 4 (mO K)
abbrev je:Prop:=∀base,Def P w K mg base "_law_count" ["told","n"] 5 kb
end
section
variable (X:K.In h) (G:h.Ns mainGlobals mg) (z:Zs mg) (c:Cs K mg C Cf a_STILL a_HUSH) (T:Ts K C Cf)
include X G z c T
theorem j3 :d9 P w K mg:=fun base=>dG X G T.f_law_spread (fun S _ _ _ _ _ _ _ _ _ hr hu h=>bK (qH (K:=K) h) (ae (bu (tcm wO (pv 0) (az ur ai ai)) (ah (aq (pv 0))) ay) (ae (qs 2 S (az c9 (az bq (az bq (az dX (az c9 (pv 0) ai) ai) (az dX (pv 1) ai)) ai) ai)) (ae (qs 3 S (az c9 (az bq (az bq (az dX (pv 2) (pv 2)) (az dX (pv 1) ai)) (az c9 (pv 0) ai)) ai)) (ae (qs 4 S (az c9 (az bq (az bq (az dX (pv 3) (pv 3)) (az dX (pv 2) ai)) ai) ai)) (ah (aq (az bq (az dX (az bq (az dX (pv 2) ai) (pv 3)) ai) (pv 4))))))))) (by walk_at "b")
theorem mK :jV P w K mg:=fun base=>dG X G T.f_law_open (fun S _ _ _ _ _ _ _ _ _ hr hu h=>bK (uV h) (ae (qs 1 S (qL rfl z.list (a1 (bD dR (pv 0) dk (bQ ai))))) (ae (aQ PassesOwn.never rfl (iM rfl z.enumerate (a1 (bD dR (pv 0) (bQ ai) (bQ ai)))) (dW rfl (ax (gn 2 S) (ax (gn 3 S) cy))) (ah (lC (az bq (xl (pv 1) (az c9 (pv 2) ai)) (pv 3)) (lG (pv 1) (az c9 (pv 2) ai) fM)))) (ah (aq (aX (a3 (pv 1) ai ai))))))) (by walk_at "b")
theorem mL :gU P w K mg:=fun base=>dG X G T.f_law_anew (fun S _ _ _ _ _ _ _ _ _ hr hu h=>bK (u1 (K:=K) h) (ae (lC ai (lG (pv 0) ai fM)) (ah (aq (pv 0))))) (by walk_at "b")
theorem mI (D_law_spread:d9 P w K mg):dg P w K mg:=fun base=>dG X G T.f_law_take (fun S _ _ _ _ _ _ _ _ _ hr hu h=>bK (uT h) (ae (bu (tcm qY (xl (pv 0) ai) (pv 1)) (ae (qs 2 S (xl (pv 0) ai)) (ae (qs 3 S ai) (ae (bu (tcm qY (pv 2) (ql z.len (a1 (xl (pv 0) ai)))) (ah (qs 3 S (xl (xl (pv 0) ai) (pv 2)))) (ah (bu (tcm vj (ql z.len (a1 (xl (pv 0) ai))) ai) (ah (qs 3 S (az c9 (xl (xl (pv 0) ai) (az c9 (az bq (az dX (pv 2) ai) ai) (ql z.len (a1 (xl (pv 0) ai))))) (az bq (az ur ai ai) (pv 2))))) ay))) (ae (lC (az bq (pv 2) ai) (lG (pv 0) ai fM)) (ah (lC (qf hr (D_law_spread base) (a2 (pv 3) (pv 2))) (lG (pv 0) ai fM))))))) ay) (ae (qs 4 S (az c9 (xl (pv 0) ai) (pv 1))) (ae (lC (az q0 (xl (pv 0) ai) (pv 1)) (lG (pv 0) ai fM)) (ah (aq (pv 4))))))) (by walk_at "b") (l:=(fun vs H Q E h=>by unfold bY at h; obtain ⟨_,_,_,rfl,_⟩:=h; rfl))
theorem lb (D_law_take:dg P w K mg):fz P w K mg:=fun base=>dG X G T.f_law_names (fun S _ _ _ _ _ _ _ _ _ hr hu h=>bK (tf h) (ae (qs 2 S bh) (ae (qs 3 S (h9 PySem.F.plainAttrs_str PySem.F.slot_str_join PySem.F.type_str_join vo bh (a1 (qc (cx rfl z.range (a1 ai)) (aG (by decide)) fun _ _ _ _ _ _=>⟨gc 0,bC,xs' (pv 1) (qf hr (D_law_take base) (a2 (pv 2) ai))⟩)))) (ae (qs 4 S (qf hr (D_law_take base) (a2 (pv 0) ai))) (ae (qs 5 S (qf hr (D_law_take base) (a2 (pv 0) ai))) (ae (qs 6 S (qf hr (D_law_take base) (a2 (pv 0) ai))) (ae (qs 7 S (aX bE)) (ae (aQ PassesOwn.never rfl (cx rfl z.range (a1 (pv 1))) (gn 8 S) (ae (qs 9 S (xs' (pv 2) (az c9 (az bq (pv 5) (az dX ai (pv 8))) ai))) (ae (qs 10 S (bD qE (pv 3) dk (bQ (az c9 (az bq (pv 6) (az dX (pv 8) (az c9 (pv 4) ai))) ai)))) (ae (qs 11 S (xl (aX (a3 ai (ql z.len (a1 (pv 10))) (az q0 (ql z.len (a1 (pv 10))) ai))) (pv 4))) (ah (aM (h9 PySem.F.plainAttrs_list PySem.F.slot_list_append PySem.F.type_list_append br (pv 7) (a1 (az jI (az jI (bD qE (pv 10) dk (bQ (pv 11))) (pv 9)) (bD qE (pv 10) (bQ (pv 11)) dk)))))))))) (ah (aq (pv 7))))))))))) (by walk_at "b")
theorem o7 :jc P w K mg:=fun base=>dG X G T.f_law_put (fun S _ _ _ _ _ _ _ _ _ hr hu h=>bK (vY h) (ah (bu (tci (iS hu) (pv 1) (pv 0)) (ah (aM (h9 PySem.F.plainAttrs_list PySem.F.slot_list_append PySem.F.type_list_append br (pv 0) (a1 (pv 1))))) ay))) (by walk_at "b") (l:=(fun vs H Q E h=>by unfold iF at h; obtain ⟨_,_,_,_,_,rfl,_⟩:=h; rfl))
theorem gm (D_law_take:dg P w K mg) (D_law_put:jc P w K mg):b_ P w K mg:=fun base=>dG X G T.f_law_draw_doors (fun S _ _ _ _ _ _ _ _ _ hr hu h=>bK (km h) (ae (qs 5 S (aX bE)) (ae (qs 6 S (qf hr (D_law_take base) (a2 (pv 0) ai))) (ae (aQ PassesOwn.never rfl (iM rfl z.enumerate (a1 (pv 3))) (dW rfl (ax (gn 7 S) (ax (gn 8 S) cy))) (ae (aQ PassesOwn.never rfl (cx rfl z.range (a1 (xl (aX (bd ai (a3 ai ai ai))) (qf hr (D_law_take base) (a2 (pv 0) ai))))) (gn 9 S) (ae (qs 10 S (a_ (a2 bh (xl (pv 2) (qf hr (D_law_take base) (a2 (pv 0) (ql z.len (a1 (pv 2))))))))) (ah (aM (qf hr (D_law_put base) (a2 (pv 5) (a_ (a3 (pv 8) (pv 10) (xl (pv 3) (qf hr (D_law_take base) (a2 (pv 0) (ql z.len (a1 (pv 3)))))))))))))) (ae (aQ PassesOwn.never rfl (aE (pv 1)) (gn 11 S) (ah (aQ PassesOwn.never rfl (cx rfl z.range (a1 (xl (aX (bd (pv 4) (a3 ai ai ai))) (qf hr (D_law_take base) (a2 (pv 0) ai))))) (gn 9 S) (ah (aM (qf hr (D_law_put base) (a2 (pv 5) (a_ (a3 (pv 8) (a_ (a2 bh (pv 11))) (xl (pv 3) (qf hr (D_law_take base) (a2 (pv 0) (ql z.len (a1 (pv 3))))))))))))))) (ae (qs 12 S (xl (aX (a2 (bD dR (pv 3) (bQ (az bq (pv 7) ai)) dk) (bD dR (pv 3) dk (bQ (pv 7))))) (pv 6))) (ah (bu (PW.pt (lB (tcm (ut hu) (pv 12) (aX bE)) (ko (tcm pC (qf hr (D_law_take base) (a2 (pv 0) ai)) ai)))) (ah (aM (qf hr (D_law_put base) (a2 (pv 5) (a_ (a3 (pv 8) (a_ (a1 bh)) (xq (pv 12) (qf hr (D_law_take base) (a2 (pv 0) (ql z.len (a1 (pv 12)))))))))))) ay)))))) (ah (aq (pv 5))))))) (by walk_at "b")
theorem lc (D_law_anew:gU P w K mg) (D_law_take:dg P w K mg) (D_law_names:fz P w K mg) (D_law_draw_doors:b_ P w K mg):jd P w K mg:=fun base=>dG X G T.f_law_model (fun S _ _ _ _ _ _ _ _ _ hr hu h=>bK (tj h) (ae (aM (qf hr (D_law_anew base) (a1 (pv 0)))) (ae (qs 3 S (qf hr (D_law_names base) (a2 (pv 0) ai))) (ae (qs 4 S (bD dR (pv 3) dk (bQ (az bq ai (xl (aX (bd ai (bd ai (bd ai (a3 ai ai ai))))) (qf hr (D_law_take base) (a2 (pv 0) ai))))))) (ae (qs 5 S (bD dR (pv 3) (bQ ai) (bQ (az bq ai (xl (aX (bd ai (bd ai (bd ai (a3 ai ai ai))))) (qf hr (D_law_take base) (a2 (pv 0) ai))))))) (ae (qs 6 S (qf hr (D_law_names base) (a2 (pv 0) (az bq ai (qf hr (D_law_take base) (a2 (pv 0) (pv 1))))))) (ae (qs 7 S (qf hr (D_law_draw_doors base) (bd (pv 0) (bd (pv 4) (a3 (pv 5) (pv 6) (pv 2)))))) (ah (aq (a_ (bd (pv 4) (a3 (pv 5) (pv 6) (pv 7))))))))))))) (by walk_at "b")
theorem o8 :jf P w K mg:=fun base=>dG X G T.f_is_name (fun S _ _ _ _ _ _ _ _ _ hr hu h=>bK (pi h) (ah (aq (lJ (ecm qX (pv 0) bh) (lJ (ecm wN (ql z.len (a1 (pv 0))) (iO rfl c.LONGEST_NAME)) (qT (qB (i6 rfl) z.all boot_all (a1 (qc (v9 (pv 0)) (aG (by decide)) fun _ _ _ _ _ _=>⟨gc 0,bC,eci pB (pv 0) (iO rfl c.LETTERS)⟩))))))))) (by walk_at "b") (l:=(fun vs H Q E h=>by unfold sp_is_name at h; obtain ⟨_,rfl,_⟩:=h; rfl))
theorem o9 :em P w K mg:=fun base=>dG X G T.f_as_keys (fun S _ _ _ _ _ _ _ _ _ hr hu h=>bK (pk h) (ae (qs 1 S fQ) (ae (aQ PassesOwn.never rfl (aE (pv 0)) (gn 2 S) (ah (cQ hu (pv 1) (pv 2) eO rfl))) (ah (aq (pv 1)))))) (by walk_at "b") (l:=(fun vs H Q E h=>by unfold sp_as_keys at h; obtain ⟨_,_,rfl,_⟩:=h; rfl))
theorem eW (D_is_name:jf P w K mg) (D_as_keys:em P w K mg):bI P w K mg:=fun base=>dG X G T.f_first_wrong_name (fun S _ _ _ _ _ _ _ _ _ hr hu h=>bK (fh h) (ae (bu (tcm pC (ql z.len (a1 (pv 0))) ai) (ah (aq ai)) ay) (ae (qs 3 S (qf hr (D_as_keys base) (a1 (pv 2)))) (ae (aQ PassesOwn.never rfl (iM rfl z.enumerate (a1 (pv 0))) (dW rfl (ax (gn 4 S) (ax (gn 5 S) cy))) (ae (bu (PW.pt (nc (tcm pC (pv 4) (pv 1)) (nc (dF (lK hu (pv 5) (pv 3))) (lA (nY (fP (qf hr (D_is_name base) (a1 (pv 5))))))))) (ah (aq (pv 4))) ay) (ah (cQ hu (pv 3) (pv 5) eO rfl)))) (ah (aq qU)))))) (by walk_at "b")
theorem j6 :eh P w K mg:=fun base=>dG X G T.f_door_signs (fun S _ _ _ _ _ _ _ _ _ hr hu h=>bK (kn c.still h) (ah (aq (az iT (az iT (qc (aE (pv 0)) (aG (by decide)) fun _ _ _ _ _ _=>⟨gc 0,bC,a_ (a2 bh (pv 0))⟩) (qc (aE (pv 1)) (aG (by decide)) fun _ _ _ _ _ _=>⟨gc 0,bC,a_ (a2 bh (pv 0))⟩)) (aX (a1 (iO rfl c.STILL))))))) (by walk_at "b")
theorem eX (D_as_keys:em P w K mg):bJ P w K mg:=fun base=>dG X G T.f_first_wrong_door (fun S _ _ _ _ _ _ _ _ _ hr hu h=>bK (fj h) (ae (qs 3 S (qf hr (D_as_keys base) (a1 (pv 1)))) (ae (qs 4 S dq) (ae (aQ PassesOwn.never rfl (iM rfl z.enumerate (a1 (pv 0))) (dW rfl (ax (gn 5 S) (ax (gn 6 S) cy))) (ae (bu (PW.pt (nc (tcm pC (pv 5) (iO rfl c.MOST_DOORS)) (lA (dF (lK hu (pv 6) (pv 4)))))) (ah (aq (pv 5))) ay) (ae (bu (PW.pt (nc (dF (c8 hu (xq (pv 6) ai) (pv 3))) (nc (tci (iS hu) (xq (pv 6) ai) (pv 2)) (lA (dF (c8 hu (xq (pv 6) ai) (pv 3))))))) (ah (aq (pv 5))) ay) (ah (cQ hu (pv 4) (pv 6) eO rfl))))) (ah (aq qU)))))) (by walk_at "b")
theorem cH :aP P w K mg:=fun base=>dG X G T.f_goals_by_start_and_sign (fun S _ _ _ _ _ _ _ _ _ hr hu h=>bK (cI h) (ae (qs 1 S dq) (ae (aQ PassesOwn.never rfl (aE (pv 0)) (dW rfl (ax (gn 2 S) (ax (gn 3 S) (ax (gn 4 S) cy)))) (ah (aM (h9 PySem.F.plainAttrs_list PySem.F.slot_list_append PySem.F.type_list_append br (h9 PySem.F.plainAttrs_dict PySem.F.slot_dict_setdefault PySem.F.type_dict_setdefault (rg hu) (pv 1) (a2 (a_ (a2 (pv 2) (pv 3))) (aX bE))) (a1 (pv 4)))))) (ah (aq (pv 1)))))) (by walk_at "b")
theorem iz :cT P w K mg:=fun base=>dG X G T.f_led_by_still (fun S _ _ _ _ _ _ _ _ _ hr hu h=>bK (iK c.still h) (ae (qs 2 S fQ) (ae (qs 3 S (aX (a1 (pv 1)))) (ae (kr PassesOwn.never (tcm vj (ql z.len (a1 (pv 3))) ai) (ae (qs 4 S (wf PySem.F.plainAttrs_list PySem.F.slot_list_pop PySem.F.type_list_pop wj (pv 3))) (ah (aQ PassesOwn.never rfl (v_ (fR hu (pv 0) (a_ (a2 (pv 4) (iO rfl c.STILL))) (a_ bE) ⟨rfl,rfl,rfl,rfl⟩)) (gn 5 S) (ah (bu (dF (c8 hu (pv 5) (pv 2))) (ae (cQ hu (pv 2) (pv 5) eO rfl) (ah (aM (h9 PySem.F.plainAttrs_list PySem.F.slot_list_append PySem.F.type_list_append br (pv 3) (a1 (pv 5)))))) ay)))))) (ah (aq (pv 2))))))) (by walk_at "b")
theorem fJ :bT P w K mg:=fun base=>dG X G T.f_first_led_round (fun S _ _ _ _ _ _ _ _ _ hr hu h=>bK (fN h) (ae (aQ PassesOwn.never rfl (iM rfl z.enumerate (a1 (pv 0))) (dW rfl (ax (gn 2 S) (ax (gn 3 S) cy))) (ah (bu (dF (lK hu (pv 3) (iP hu (pv 1) (pv 3) (fun _ _=>rfl)))) (ah (aq (pv 2))) ay))) (ah (aq qU)))) (by walk_at "b")
theorem k9 :dC P w K mg:=fun base=>dG X G T.f_need_none (fun S _ _ _ _ _ _ _ _ _ hr hu h=>bK (lp (K:=K) h) (ah (bu (dF (vi (pv 1))) (ah (nZ)) ay))) (by walk_at "b")
theorem j1 (D_first_wrong_name:bI P w K mg) (D_door_signs:eh P w K mg) (D_first_wrong_door:bJ P w K mg) (D_need_none:dC P w K mg):d6 P w K mg:=fun base=>dG X G T.f_need_parts (fun S _ _ _ _ _ _ _ _ _ hr hu h=>bK (ki (K:=K) h) (ae (aM (qf hr (D_need_none base) (a2 bh (qf hr (D_first_wrong_name base) (a3 (pv 0) (iO rfl c.MOST_WORDS) (aX bE)))))) (ae (aM (qf hr (D_need_none base) (a2 bh (qf hr (D_first_wrong_name base) (a3 (pv 1) (iO rfl c.MOST_WORDS) (pv 0)))))) (ae (aM (qf hr (D_need_none base) (a2 bh (qf hr (D_first_wrong_name base) (a3 (pv 2) (iO rfl c.MOST_ROOMS) (aX bE)))))) (ah (aM (qf hr (D_need_none base) (a2 bh (qf hr (D_first_wrong_door base) (a3 (pv 3) (pv 2) (qf hr (D_door_signs base) (a2 (pv 0) (pv 1))))))))))))) (by walk_at "b")
theorem gu :cb P w K mg:=fun base=>dG X G T.f_doors_by_start (fun S _ _ _ _ _ _ _ _ _ hr hu h=>bK (gD h) (ae (qs 2 S fQ) (ae (aQ PassesOwn.never rfl (aE (pv 0)) (gn 3 S) (ah (cQ hu (pv 2) (pv 3) (aX bE) rfl))) (ae (aQ PassesOwn.never rfl (aE (pv 1)) (gn 4 S) (ah (aM (h9 PySem.F.plainAttrs_list PySem.F.slot_list_append PySem.F.type_list_append br (iP hu (pv 2) (xq (pv 4) ai) (fun _ _=>rfl)) (a1 (pv 4)))))) (ah (aq (pv 2))))))) (by walk_at "b")
theorem gp :ca P w K mg:=fun base=>dG X G T.f_has_asks_alone (fun S _ _ _ _ _ _ _ _ _ hr hu h=>bK (gC h) (ah (aq (qB (i6 rfl) z.all boot_all (a1 (qc (aE (pv 0)) (aG (by decide)) fun _ _ _ _ _ _=>⟨gc 0,bC,ecm pC (xq (xq (pv 0) ai) ai) bh⟩)))))) (by walk_at "b")
theorem o_ (D_as_keys:em P w K mg) (D_goals_by_start_and_sign:aP P w K mg) (D_led_by_still:cT P w K mg) (D_first_led_round:bT P w K mg) (D_need_none:dC P w K mg) (D_need_parts:d6 P w K mg) (D_doors_by_start:cb P w K mg) (D_has_asks_alone:ca P w K mg):jg P w K mg C:=fun base=>dN c.cm c.makes c.kc T.f_Machine___init__ (fun S _ _ _ _ _ _ _ _ _ hr hu h=>bK (uW c.mc h) (ae (aM (qf hr (D_need_parts base) (bd (pv 1) (a3 (pv 2) (pv 3) (pv 4))))) (ae (c6 (pv 0) (qL rfl z.list (a1 (pv 1))) rfl) (ae (c6 (pv 0) (qL rfl z.list (a1 (pv 2))) rfl) (ae (c6 (pv 0) (qL rfl z.list (a1 (pv 3))) rfl) (ae (c6 (pv 0) (qL rfl z.list (a1 (pv 4))) rfl) (ae (c6 (pv 0) (qf hr (D_doors_by_start base) (a2 (pv 3) (pv 4))) rfl) (ae (c6 (pv 0) (qf hr (D_as_keys base) (a1 (qc (aE (pv 3)) (aG (by decide)) fun _ _ _ _ _ _=>⟨gc 0,dU (fP (qf hr (D_has_asks_alone base) (a1 (iP hu (ba (pv 1) rfl) (pv 0) (fun _ _=>rfl))))),pv 0⟩))) rfl) (ae (c6 (pv 0) (qf hr (D_goals_by_start_and_sign base) (a1 (pv 4))) rfl) (ae (c6 (pv 0) (c7 (ma rfl) rfl z.dict pV (a1 (qc (aE (pv 3)) (aG (by decide)) fun _ _ _ _ _ _=>⟨gc 0,bC,a_ (a2 (pv 0) (qf hr (D_led_by_still base) (a2 (ba (pv 1) rfl) (pv 0))))⟩))) rfl) (ah (aM (qf hr (D_need_none base) (a2 bh (qf hr (D_first_led_round base) (a2 (pv 3) (ba (pv 0) rfl))))))))))))))))) (by walk_at "b")
theorem jq (D_Machine:jg P w K mg C):gh P w K mg C:=fun base=>dG X G T.f_law_machine (fun S _ _ _ _ _ _ _ _ _ hr hu h=>bK (ph h) (ah (aq (um (D_Machine base) (hr.mono (by decide)) rfl (bd (qL rfl z.list (a1 (xq (pv 0) ai))) (a3 (qL rfl z.list (a1 (xq (pv 0) ai))) (qL rfl z.list (a1 (xq (pv 0) ai))) (qL rfl z.list (a1 (xq (pv 0) ai))))))))) (by walk_at "b")
theorem hV :bL P w K mg C:=fun base=>dM c.mc.cls T.f_Machine_rooms (fun S _ _ _ _ _ _ _ _ _ hr hu h=>bK (sY c.mc h) (ah (aq (qL rfl z.list (a1 (ba (pv 0) rfl)))))) (by walk_at "b")
theorem eU :bM P w K mg C:=fun base=>dM c.mc.cls T.f_Machine_led_from (fun S _ _ _ _ _ _ _ _ _ hr hu h=>bK (m8 c.mc h) (ah (aq (qL rfl z.list (a1 (fR hu (ba (pv 0) rfl) (pv 1) (a_ bE) ⟨rfl,rfl,rfl,rfl⟩)))))) (by walk_at "b")
theorem jZ (M_Machine_rooms:bL P w K mg C) (M_Machine_led_from:bM P w K mg C):cL P w K mg C:=fun base=>dG X G T.f_with_still (fun S _ _ _ _ _ _ _ _ _ hr hu h=>bK (kg h) (ae (qs 2 S fQ) (ae (aQ PassesOwn.never rfl (aE (pv 1)) (gn 3 S) (ah (bu (dF (c8 hu (pv 3) (pv 2))) (ae (cQ hu (pv 2) (pv 3) eO rfl) (ah (aQ PassesOwn.never rfl (aE (qm hr (M_Machine_led_from base) (pv 0) (a1 (pv 3)))) (gn 4 S) (ah (cQ hu (pv 2) (pv 4) eO rfl))))) ay))) (ah (aq (c7 cg rfl z.tuple cD (a1 (qc (aE (qm0 hr (M_Machine_rooms base) (pv 0))) (aG (by decide)) fun _ _ _ _ _ _=>⟨gc 0,dU (dF (lK hu (pv 0) (pv 1))),pv 0⟩)))))))) (by walk_at "b")
theorem hZ :cF P w K mg C:=fun base=>dM c.mc.cls T.f_Machine_goals (fun S _ _ _ _ _ _ _ _ _ hr hu h=>bK (qI c.mc h) (ah (aq (qL rfl z.list (a1 (fR hu (ba (pv 0) rfl) (a_ (a2 (pv 1) (pv 2))) (a_ bE) ⟨rfl,rfl,rfl,rfl⟩)))))) (by walk_at "b")
theorem eV :bN P w K mg C:=fun base=>dM c.mc.cls T.f_Machine_is_quiet (fun S _ _ _ _ _ _ _ _ _ hr hu h=>bK (m9 c.mc h) (ah (aq (uo (lK hu (pv 1) (ba (pv 0) rfl)))))) (by walk_at "b")
theorem iA :cU P w K mg:=fun base=>dG X G T.f_law_still_on (fun S _ _ _ _ _ _ _ _ _ hr hu h=>bK (mY h) (ae (qs 2 S (qL rfl z.list (a1 (pv 1)))) (ae (qs 3 S ai) (ae (kr PassesOwn.never (tcm qY (pv 3) (ql z.len (a1 (pv 2)))) (ae (aQ PassesOwn.never rfl (aE (pv 0)) (dW rfl (ax (gn 4 S) (ax (gn 5 S) (ax (gn 6 S) cy)))) (ah (bu (PW.pt (lB (tcm (fS hu) (pv 4) (xq (pv 2) (pv 3))) (lB (tcm (fS hu) (pv 5) (a_ (a1 bh))) (ko (tci (iS hu) (pv 6) (pv 2)))))) (ah (aM (h9 PySem.F.plainAttrs_list PySem.F.slot_list_append PySem.F.type_list_append br (pv 2) (a1 (pv 6))))) ay))) (ah (qs 3 S (az bq (pv 3) ai))))) (ah (aq (pv 2))))))) (by walk_at "b")
theorem qy (D_law_still_on:cU P w K mg):iq P w K mg:=fun base=>dG X G T.f_law_on (fun S _ _ _ _ _ _ _ _ _ hr hu h=>bK (wK h) (ae (qs 2 S (qf hr (D_law_still_on base) (a2 (xq (pv 0) ai) (pv 1)))) (ah (aq (c7 cg rfl z.tuple cD (a1 (qc (aE (xq (pv 0) ai)) (aG (by decide)) fun _ _ _ _ _ _=>⟨gc 0,dU (tci (uu hu) (pv 0) (pv 1)),pv 0⟩))))))) (by walk_at "b")
theorem iB :cV P w K mg:=fun base=>dG X G T.f_law_is_quiet (fun S _ _ _ _ _ _ _ _ _ hr hu h=>bK (qJ h) (ah (aq (ecm (fS hu) (qc (aE (xq (pv 0) ai)) (aG (by decide)) fun _ _ _ _ _ _=>⟨gc 0,dU (PW.pt (lB (tcm (fS hu) (xq (pv 0) ai) (pv 1)) (ko (tcm qX (xq (xq (pv 0) ai) ai) bh)))),pv 0⟩) (aX bE))))) (by walk_at "b")
theorem j4 (D_law_on:iq P w K mg) (D_law_is_quiet:cV P w K mg):d_ P w K mg:=fun base=>dG X G T.f_law_behind (fun S _ _ _ _ _ _ _ _ _ hr hu h=>bK (uY h) (ae (bu (tcm (fS hu) (pv 2) (a_ (a1 bh))) (ah (aq (c7 cg rfl z.tuple cD (a1 (qc (qQ (pv 1)) (aG (by decide)) fun _ _ _ _ _ _=>⟨gc 0,dU (fP (qf hr (D_law_is_quiet base) (a2 (pv 1) (pv 0)))),pv 0⟩))))) ay) (ah (aq (qf hr (D_law_on base) (a2 (pv 0) (qc (aE (xq (pv 0) ai)) (aG (by decide)) fun _ _ _ _ _ _=>⟨gc 0,dU (PW.pt (lB (tci (uu hu) (xq (pv 0) ai) (pv 1)) (ko (tcm (fS hu) (xq (pv 0) ai) (pv 2))))),xq (pv 0) ai⟩))))))) (by walk_at "b")
theorem k_ :fy P w K mg:=fun base=>dG X G T.f_law_signs (fun S _ _ _ _ _ _ _ _ _ hr hu h=>bK (sW h) (ah (aq (az iT (az iT (qc (aE (xq (pv 0) ai)) (aG (by decide)) fun _ _ _ _ _ _=>⟨gc 0,bC,a_ (a2 bh (pv 0))⟩) (qc (aE (xq (pv 0) ai)) (aG (by decide)) fun _ _ _ _ _ _=>⟨gc 0,bC,a_ (a2 bh (pv 0))⟩)) (aX (a1 (a_ (a1 bh)))))))) (by walk_at "b")
theorem mJ:jU P w K mg:=fun base=>by
  have E0:Def P w K mg base "_law_same" ["found","due"] 0 w8:=by
   obtain ⟨f,a,t⟩:=T.f_law_same
   obtain ⟨fd,F⟩:=t.fun_
   exact ⟨f,fd,wP,PySem.W.mg_of X G a,F.kp,F.binds (ps:=["found","due"]) (by walk_at "b")⟩
  have st:∀(j:Nat) (sp:Sp),j<=8->(∀m,j=m+1->sp=(gw K m))->Def P w K mg base "_law_same" ["found","due"] j sp->Def P w K mg base "_law_same" ["found","due"] (j+1) (gw K j):=fun j sp hj hsp Ds=>dG X G T.f_law_same (fun S _ _ _ _ _ _ _ _ _ hr hu h=>bK (sX hj hsp h) (ae (bu (dF (uq (pv 1))) (ah (aq (uo (uq (pv 0))))) ay) (ae (bu (tcm n5 (pv 1) eO) (ah (aq (ecm n5 (pv 0) eO))) ay) (ae (bu (tcm n5 (pv 1) eO) (ah (aq (ecm n5 (pv 0) eO))) ay) (ae (bu (fP (qB cj z.isinstance cq (a2 (pv 1) (lI rfl z.int)))) (ah (aq (lJ (qB cj z.isinstance cq (a2 (pv 0) (lI rfl z.int))) (lJ (wb (qB cj z.isinstance cq (a2 (pv 0) (pA rfl z.bool)))) (qT (ecm (fS hu) (pv 0) (pv 1))))))) ay) (ae (bu (fP (qB cj z.isinstance cq (a2 (pv 1) (lH rfl z.str)))) (ah (aq (lJ (qB cj z.isinstance cq (a2 (pv 0) (lH rfl z.str))) (qT (ecm (fS hu) (pv 0) (pv 1)))))) ay) (ae (bu (PW.pt (nc (tcm qX (qB cj z.isinstance cq (a2 (pv 1) (iN rfl z.tuple))) (qB cj z.isinstance cq (a2 (pv 0) (iN rfl z.tuple)))) (lA (tcm qX (qB cj z.isinstance cq (a2 (pv 1) (jG rfl z.list))) (qB cj z.isinstance cq (a2 (pv 0) (jG rfl z.list))))))) (ah (aq eO)) ay) (ae (bu (tcm qX (ql z.len (a1 (pv 0))) (ql z.len (a1 (pv 1)))) (ah (aq eO)) ay) (ae (aQ PassesOwn.never rfl (u8 rfl z.zip (a2 (pv 0) (pv 1))) (dW rfl (ax (gn 2 S) (ax (gn 3 S) cy))) (ah (bu (nY (fP (we Ds hr rfl (a2 (pv 2) (pv 3))))) (ah (aq eO)) ay))) (ah (aq eO))))))))))) (by walk_at "b") (l:=fun vs H Q E h=>by rcases h with h | h; (obtain ⟨_,_,_,_,rfl,_⟩:=h; rfl); (obtain ⟨_,_,h,_⟩:=h; subst h; rfl))
  have E1:=st 0 _ (by decide) (fun m e=>by cases e) E0
  have E2:=st 1 _ (by decide) (fun m e=>by cases e; rfl) E1
  have E3:=st 2 _ (by decide) (fun m e=>by cases e; rfl) E2
  exact E3
theorem iy :cX P w K mg C:=fun base=>dM c.mc.cls T.f_Machine_asks (fun S _ _ _ _ _ _ _ _ _ hr hu h=>bK (uZ c.mc h) (ah (aq (qL rfl z.list (a1 (ba (pv 0) rfl)))))) (by walk_at "b")
theorem ix :cW P w K mg C:=fun base=>dM c.mc.cls T.f_Machine_says (fun S _ _ _ _ _ _ _ _ _ hr hu h=>bK (uU c.mc h) (ah (aq (qL rfl z.list (a1 (ba (pv 0) rfl)))))) (by walk_at "b")
theorem j5 (M_Machine_rooms:bL P w K mg C) (D_with_still:cL P w K mg C):ee P w K mg C:=fun base=>dG X G T.f_first_face (fun S _ _ _ _ _ _ _ _ _ hr hu h=>bK (kj h) (ah (aq (qf hr (D_with_still base) (a2 (pv 0) (bD dR (qm0 hr (M_Machine_rooms base) (pv 0)) dk (bQ ai))))))) (by walk_at "b")
theorem jr (D_with_still:cL P w K mg C) (M_Machine_goals:cF P w K mg C) (M_Machine_is_quiet:bN P w K mg C):dD P w K mg C:=fun base=>dG X G T.f_face_behind (fun S _ _ _ _ _ _ _ _ _ hr hu h=>bK (uX c.hush h) (ae (bu (tcm (fS hu) (pv 2) (iO rfl c.HUSH)) (ah (aq (c7 cg rfl z.tuple cD (a1 (qc (qQ (pv 1)) (aG (by decide)) fun _ _ _ _ _ _=>⟨gc 0,dU (fP (qm hr (M_Machine_is_quiet base) (pv 1) (a1 (pv 0)))),pv 0⟩))))) ay) (ae (qs 3 S (aX bE)) (ae (aQ PassesOwn.never rfl (qQ (pv 1)) (gn 4 S) (ah (aM (h9 PySem.F.plainAttrs_list PySem.F.slot_list_extend PySem.F.type_list_extend rh (pv 3) (a1 (qm hr (M_Machine_goals base) (pv 0) (a2 (pv 4) (pv 2)))))))) (ah (aq (qf hr (D_with_still base) (a2 (pv 0) (pv 3))))))))) (by walk_at "b")
theorem gl (M_Machine_asks:cX P w K mg C) (M_Machine_says:cW P w K mg C):b9 P w K mg C a_HUSH:=fun base=>dG X G T.f_signs_in_order (fun S _ _ _ _ _ _ _ _ _ hr hu h=>bK (vX h) (ah (aq (az iT (az iT (qc (aE (qm0 hr (M_Machine_asks base) (pv 0))) (aG (by decide)) fun _ _ _ _ _ _=>⟨gc 0,bC,a_ (a2 bh (pv 0))⟩) (qc (aE (qm0 hr (M_Machine_says base) (pv 0))) (aG (by decide)) fun _ _ _ _ _ _=>⟨gc 0,bC,a_ (a2 bh (pv 0))⟩)) (aX (a1 (iO rfl c.HUSH))))))) (by walk_at "b")
theorem mG (D_face_behind:dD P w K mg C) (D_signs_in_order:b9 P w K mg C a_HUSH):gR P w K mg C:=fun base=>dG X G T.f_steps_at (fun S _ _ _ _ _ _ _ _ _ hr hu h=>bK (pf c.hush h) (ae (qs 2 S dq) (ae (aQ PassesOwn.never rfl (aE (qf hr (D_signs_in_order base) (a1 (pv 0)))) (gn 3 S) (ae (qs 4 S (qf hr (D_face_behind base) (a3 (pv 0) (pv 1) (pv 3)))) (ah (bu (tcm vj (ql z.len (a1 (pv 4))) ai) (ah (ky hu (pv 2) (pv 3) (pv 4) rfl)) ay)))) (ah (aq (pv 2)))))) (by walk_at "b")
theorem eM :aW P w K mg Cf:=fun base=>dM c.fc.cls T.f_FaceMap_number_at (fun S _ _ _ _ _ _ _ _ _ hr hu h=>bK (s_ c.fc h) (ae (bu (dF (c8 hu (pv 1) (ba (pv 0) rfl))) (ae (bu (tcm pC (ql z.len (a1 (ba (pv 0) rfl))) (iO rfl c.MOST_FACES)) (ah (nZ)) ay) (ae (cQ hu (ba (pv 0) rfl) (pv 1) (ql z.len (a1 (ba (pv 0) rfl))) rfl) (ae (aM (h9 PySem.F.plainAttrs_list PySem.F.slot_list_append PySem.F.type_list_append br (ba (pv 0) rfl) (a1 (pv 1)))) (ah (aM (h9 PySem.F.plainAttrs_list PySem.F.slot_list_append PySem.F.type_list_append br (ba (pv 0) rfl) (a1 (pv 2)))))))) ay) (ah (aq (iP hu (ba (pv 0) rfl) (pv 1) (fun _ _=>rfl)))))) (by walk_at "b")
theorem cO (D_steps_at:gR P w K mg C) (M_FaceMap_number_at:aW P w K mg Cf):aT P w K mg C Cf:=fun base=>dM c.fc.cls T.f_FaceMap_numbered_steps (fun S _ _ _ _ _ _ _ _ _ hr hu h=>bK (mZ c.fc h) (ae (qs 2 S dq) (ae (aQ PassesOwn.never rfl (lF (qf hr (D_steps_at base) (a2 (ba (pv 0) rfl) (xl (ba (pv 0) rfl) (pv 1))))) (dW rfl (ax (gn 3 S) (ax (gn 4 S) cy))) (ah (ky hu (pv 2) (pv 3) (qm hr (M_FaceMap_number_at base) (pv 0) (a2 (pv 4) (az iT (xl (ba (pv 0) rfl) (pv 1)) (aX (a1 (pv 3)))))) rfl))) (ah (aq (pv 2)))))) (by walk_at "b")
theorem pb (D_first_face:ee P w K mg C) (M_FaceMap_number_at:aW P w K mg Cf) (M_FaceMap_numbered_steps:aT P w K mg C Cf):jh P w K mg C Cf:=fun base=>dN c.cmf c.makesf c.kcf T.f_FaceMap___init__ (fun S _ _ _ _ _ _ _ _ _ hr hu h=>bK (qK c.fc h) (ae (c6 (pv 0) (pv 1) rfl) (ae (c6 (pv 0) (aX bE) rfl) (ae (c6 (pv 0) (aX bE) rfl) (ae (c6 (pv 0) dq rfl) (ae (c6 (pv 0) (aX bE) rfl) (ae (aM (qm hr (M_FaceMap_number_at base) (pv 0) (a2 (qf hr (D_first_face base) (a1 (pv 1))) (aX bE)))) (ah (kr PassesOwn.never (tcm qY (ql z.len (a1 (ba (pv 0) rfl))) (ql z.len (a1 (ba (pv 0) rfl)))) (ah (aM (h9 PySem.F.plainAttrs_list PySem.F.slot_list_append PySem.F.type_list_append br (ba (pv 0) rfl) (a1 (qm hr (M_FaceMap_numbered_steps base) (pv 0) (a1 (ql z.len (a1 (ba (pv 0) rfl)))))))))))))))))) (by walk_at "b")
theorem dQ :bp P w K mg:=fun base=>dG X G T.f_counts_one_sign_on (fun S _ _ _ _ _ _ _ _ _ hr hu h=>bK (sZ h) (ae (qs 2 S fQ) (ae (aQ PassesOwn.never rfl (qR (pv 1)) (dW rfl (ax (gn 3 S) (ax (gn 4 S) cy))) (ah (aQ PassesOwn.never rfl (tH (xl (pv 0) (pv 3))) (gn 5 S) (ah (cQ hu (pv 2) (pv 5) (az bq (fR hu (pv 2) (pv 5) ai ⟨rfl,rfl,rfl,rfl⟩) (pv 4)) rfl))))) (ah (aq (pv 2)))))) (by walk_at "b")
theorem mM (D_FaceMap:jh P w K mg C Cf) (D_counts_one_sign_on:bp P w K mg):jW P w K mg C:=fun base=>dG X G T.f_how_many (fun S _ _ _ _ _ _ _ _ _ hr hu h=>bK (pj c.fc h) (ae (qs 2 S (ba (um (D_FaceMap base) (hr.mono (by decide)) rfl (a1 (pv 0))) rfl)) (ae (bu (tcm qY (pv 1) ai) (ah (aq ai)) ay) (ae (qs 3 S (vf (tG ai ai u7) rfl rfl nofun (by decide))) (ae (aQ PassesOwn.never rfl (cx rfl z.range (a1 (pv 1))) (gn 4 S) (ah (qs 3 S (qf hr (D_counts_one_sign_on base) (a2 (pv 2) (pv 3)))))) (ah (aq (u_ (pv 3) rfl rfl z.sum)))))))) (by walk_at "b")
theorem mH (D_law_behind:d_ P w K mg) (D_law_signs:fy P w K mg):gS P w K mg:=fun base=>dG X G T.f_law_ways (fun S _ _ _ _ _ _ _ _ _ hr hu h=>bK (uS h) (ae (qsc 2 S (aE (qf hr (D_law_signs base) (a1 (pv 0)))) (aG (by decide)) fun _ _ _ _ _ _=>⟨gc 0,bC,qf hr (D_law_behind base) (a3 (pv 1) (pv 2) (pv 0))⟩) (ah (aq (qc (aE (pv 2)) (aG (by decide)) fun _ _ _ _ _ _=>⟨gc 0,dU (tcm (ut hu) (pv 0) (a_ bE)),pv 0⟩))))) (by walk_at "b")
theorem lf (D_law_on:iq P w K mg) (D_law_ways:gS P w K mg):je P w K mg:=fun base=>dG X G T.f_law_count (fun S _ _ _ _ _ _ _ _ _ hr hu h=>bK (tp h) (ae (qs 2 S dq) (ae (qs 3 S (qV hu (qf hr (D_law_on base) (a2 (pv 0) (bD dR (xq (pv 0) ai) dk (bQ ai)))) ai)) (ae (aQ PassesOwn.never rfl (cx rfl z.range (a1 (pv 1))) (gn 4 S) (ae (qs 5 S dq) (ae (aQ PassesOwn.never rfl (lF (pv 3)) (dW rfl (ax (gn 6 S) (ax (gn 7 S) cy))) (ae (bu (dF (c8 hu (pv 6) (pv 2))) (ah (ky hu (pv 2) (pv 6) (qf hr (D_law_ways base) (a2 (pv 0) (pv 6))) rfl)) ay) (ah (aQ PassesOwn.never rfl (aE (iP hu (pv 2) (pv 6) (fun _ _=>rfl))) (gn 8 S) (ah (cQ hu (pv 5) (pv 8) (az bq (fR hu (pv 5) (pv 8) ai ⟨rfl,rfl,rfl,rfl⟩) (pv 7)) rfl)))))) (ah (qs 3 S (pv 5)))))) (ah (aq (u9 (pv 3) rfl rfl z.sum))))))) (by walk_at "b")
end
theorem wk (X:K.In h) (G:h.Ns mainGlobals mg) (z:Zs mg) (c:Cs K mg C Cf a_STILL a_HUSH) (T:Ts K C Cf):∃f fd,mg "law"=some (.ref f)/\(∀(s:Shared) (v:Value),BindsTo s fd ⟨[v],[]⟩ [("script",v)])/\∀base:Heap,jA P w K mg base CX0 9 f fd ["script"] (sp_law15 K):=by
 have D_law_spread:d9 P w K mg:=j3 X G z c T
 have D_law_open:jV P w K mg:=mK X G z c T
 have D_law_anew:gU P w K mg:=mL X G z c T
 have D_law_take:dg P w K mg:=mI X G z c T D_law_spread
 have D_law_names:fz P w K mg:=lb X G z c T D_law_take
 have D_law_put:jc P w K mg:=o7 X G z c T
 have D_law_draw_doors:b_ P w K mg:=gm X G z c T D_law_take D_law_put
 have D_law_model:jd P w K mg:=lc X G z c T D_law_anew D_law_take D_law_names D_law_draw_doors
 have D_is_name:jf P w K mg:=o8 X G z c T
 have D_as_keys:em P w K mg:=o9 X G z c T
 have D_first_wrong_name:bI P w K mg:=eW X G z c T D_is_name D_as_keys
 have D_door_signs:eh P w K mg:=j6 X G z c T
 have D_first_wrong_door:bJ P w K mg:=eX X G z c T D_as_keys
 have D_goals_by_start_and_sign:aP P w K mg:=cH X G z c T
 have D_led_by_still:cT P w K mg:=iz X G z c T
 have D_first_led_round:bT P w K mg:=fJ X G z c T
 have D_need_none:dC P w K mg:=k9 X G z c T
 have D_need_parts:d6 P w K mg:=j1 X G z c T D_first_wrong_name D_door_signs D_first_wrong_door D_need_none
 have D_doors_by_start:cb P w K mg:=gu X G z c T
 have D_has_asks_alone:ca P w K mg:=gp X G z c T
 have D_Machine:jg P w K mg C:=o_ X G z c T D_as_keys D_goals_by_start_and_sign D_led_by_still D_first_led_round D_need_none D_need_parts D_doors_by_start D_has_asks_alone
 have D_law_machine:gh P w K mg C:=jq X G z c T D_Machine
 have M_Machine_rooms:bL P w K mg C:=hV X G z c T
 have M_Machine_led_from:bM P w K mg C:=eU X G z c T
 have D_with_still:cL P w K mg C:=jZ X G z c T M_Machine_rooms M_Machine_led_from
 have M_Machine_goals:cF P w K mg C:=hZ X G z c T
 have M_Machine_is_quiet:bN P w K mg C:=eV X G z c T
 have D_law_still_on:cU P w K mg:=iA X G z c T
 have D_law_on:iq P w K mg:=qy X G z c T D_law_still_on
 have D_law_is_quiet:cV P w K mg:=iB X G z c T
 have D_law_behind:d_ P w K mg:=j4 X G z c T D_law_on D_law_is_quiet
 have D_law_signs:fy P w K mg:=k_ X G z c T
 have D_law_same:jU P w K mg:=mJ X G z c T
 have M_Machine_asks:cX P w K mg C:=iy X G z c T
 have M_Machine_says:cW P w K mg C:=ix X G z c T
 have D_first_face:ee P w K mg C:=j5 X G z c T M_Machine_rooms D_with_still
 have D_face_behind:dD P w K mg C:=jr X G z c T D_with_still M_Machine_goals M_Machine_is_quiet
 have D_signs_in_order:b9 P w K mg C a_HUSH:=gl X G z c T M_Machine_asks M_Machine_says
 have D_steps_at:gR P w K mg C:=mG X G z c T D_face_behind D_signs_in_order
 have M_FaceMap_number_at:aW P w K mg Cf:=eM X G z c T
 have M_FaceMap_numbered_steps:aT P w K mg C Cf:=cO X G z c T D_steps_at M_FaceMap_number_at
 have D_FaceMap:jh P w K mg C Cf:=pb X G z c T D_first_face M_FaceMap_number_at M_FaceMap_numbered_steps
 have D_counts_one_sign_on:bp P w K mg:=dQ X G z c T
 have D_how_many:jW P w K mg C:=mM X G z c T D_FaceMap D_counts_one_sign_on
 have D_law_ways:gS P w K mg:=mH X G z c T D_law_behind D_law_signs
 have D_law_count:je P w K mg:=lf X G z c T D_law_on D_law_ways
 obtain ⟨f,a,t⟩:=T.f_law15
 obtain ⟨oc,od,an,sl,kV,dc,pm,cd,ct,l,c1,k1⟩:=t
 have F:=uz (st:=(top 55)) l c1 k1
 have sc:fx sC tF (aH (top 55)):=by walk_at "s"
 have S:=sc.nd
 exact ⟨f,_,PySem.W.mg_of X G a,fun s v=>.of_eq rfl,fun base=>F.ok (k:=8) sc (by walk_at "l") (fun _ _ _ _ _ _ _ _ hr h=>by have hu:=tP hr; exact bK (tm (K:=K) (C:=C) h) (ae (qs 1 S (qf hr (D_law_open base) (a1 (pv 0)))) (ae (qs 2 S (qf hr (D_law_model base) (a3 (pv 1) ai ai))) (ae (qs 3 S (qf hr (D_law_machine base) (a1 (pv 2)))) (ae (qs 4 S (qf hr (D_law_take base) (a2 (pv 1) ai))) (ae (qs 5 S (qf hr (D_law_count base) (a2 (pv 2) (pv 4)))) (ae (aQ PassesOwn.never rfl (cx rfl z.range (a1 ai)) (gn 6 S) (ah (bu (PW.pt (nc (nY (fP (qf hr (D_law_same base) (a2 (qf hr (D_how_many base) (a2 (pv 3) (pv 4))) (pv 5))))) (lA (nY (fP (qf hr (D_law_same base) (a2 (qf hr (D_how_many base) (a2 (pv 3) ai)) ai))))))) (ah (aq eO)) ay))) (ah (aq eO)))))))))⟩
theorem all_mk {l:PySem.W.OpenLaw}{fa:Addr}{u_LETTERS:Value}{u_LONGEST_NAME:Value}{u_MOST_WORDS:Value}{u_MOST_ROOMS:Value}{u_MOST_DOORS:Value}{u_MOST_FACES:Value}{o_STILL:Obj}{i_STILL:Array Value}{n_STILL:Nat}{o_HUSH:Obj}{i_HUSH:Array Value}{n_HUSH:Nat}(X:K.In h) (G:h.Ns mainGlobals mg) (hfa:mg "law"=some (.ref fa))
  (aC:PySem.W.nsIn K mainGlobals "Machine"=some (some (.ref C)))
  (pg:PySem.W.plainGet K C Str.empty=true)
  (hd:PySem.W.hasDictIn K C=true)
  (po:PySem.W.plainOver K C=true)
  (sa:PySem.W.findIn K (.ref C) "__setattr__"=some (some (.builtin "object.__setattr__")))
  (mk:PySem.W.makesIn K C=true)
  (kc:PySem.W.keepIn K (.ref C)=true)
  (na1:PySem.W.findIn K (.ref C) "own_asks"=some none)
  (na2:PySem.W.findIn K (.ref C) "own_says"=some none)
  (na3:PySem.W.findIn K (.ref C) "own_rooms"=some none)
  (na4:PySem.W.findIn K (.ref C) "own_doors"=some none)
  (na5:PySem.W.findIn K (.ref C) "leaving"=some none)
  (na6:PySem.W.findIn K (.ref C) "quiet"=some none)
  (na7:PySem.W.findIn K (.ref C) "sign_goals"=some none)
  (na8:PySem.W.findIn K (.ref C) "still_led"=some none)
  (aF:PySem.W.nsIn K mainGlobals "FaceMap"=some (some (.ref Cf)))
  (pgF:PySem.W.plainGet K Cf Str.empty=true)
  (hdF:PySem.W.hasDictIn K Cf=true)
  (poF:PySem.W.plainOver K Cf=true)
  (saF:PySem.W.findIn K (.ref Cf) "__setattr__"=some (some (.builtin "object.__setattr__")))
  (mkF:PySem.W.makesIn K Cf=true)
  (kcF:PySem.W.keepIn K (.ref Cf)=true)
  (nf1:PySem.W.findIn K (.ref Cf) "machine"=some none)
  (nf2:PySem.W.findIn K (.ref Cf) "faces"=some none)
  (nf3:PySem.W.findIn K (.ref Cf) "first_stories"=some none)
  (nf4:PySem.W.findIn K (.ref Cf) "numbers"=some none)
  (nf5:PySem.W.findIn K (.ref Cf) "steps"=some none)
  (z_all:PySem.W.nsIn K mainGlobals "all"=some none)
  (z_bool:PySem.W.nsIn K mainGlobals "bool"=some none)
  (z_dict:PySem.W.nsIn K mainGlobals "dict"=some none)
  (z_enumerate:PySem.W.nsIn K mainGlobals "enumerate"=some none)
  (z_int:PySem.W.nsIn K mainGlobals "int"=some none)
  (z_isinstance:PySem.W.nsIn K mainGlobals "isinstance"=some none)
  (z_len:PySem.W.nsIn K mainGlobals "len"=some none)
  (z_list:PySem.W.nsIn K mainGlobals "list"=some none)
  (z_range:PySem.W.nsIn K mainGlobals "range"=some none)
  (z_str:PySem.W.nsIn K mainGlobals "str"=some none)
  (z_sum:PySem.W.nsIn K mainGlobals "sum"=some none)
  (z_tuple:PySem.W.nsIn K mainGlobals "tuple"=some none)
  (z_zip:PySem.W.nsIn K mainGlobals "zip"=some none)
  (g_LETTERS:PySem.W.nsIn K mainGlobals "LETTERS"=some (some u_LETTERS))
  (r_LETTERS:RelV (.str "abcdefghijklmnopqrstuvwxyz") u_LETTERS)
  (g_LONGEST_NAME:PySem.W.nsIn K mainGlobals "LONGEST_NAME"=some (some u_LONGEST_NAME))
  (r_LONGEST_NAME:RelV (.int 8) u_LONGEST_NAME)
  (g_MOST_WORDS:PySem.W.nsIn K mainGlobals "MOST_WORDS"=some (some u_MOST_WORDS))
  (r_MOST_WORDS:RelV (.int 4) u_MOST_WORDS)
  (g_MOST_ROOMS:PySem.W.nsIn K mainGlobals "MOST_ROOMS"=some (some u_MOST_ROOMS))
  (r_MOST_ROOMS:RelV (.int 150) u_MOST_ROOMS)
  (g_MOST_DOORS:PySem.W.nsIn K mainGlobals "MOST_DOORS"=some (some u_MOST_DOORS))
  (r_MOST_DOORS:RelV (.int 2000) u_MOST_DOORS)
  (g_MOST_FACES:PySem.W.nsIn K mainGlobals "MOST_FACES"=some (some u_MOST_FACES))
  (r_MOST_FACES:RelV (.int 400) u_MOST_FACES)
  (g_STILL:PySem.W.nsIn K mainGlobals "STILL"=some (some (.ref a_STILL)))
  (l_STILL:K.lookup a_STILL=some o_STILL)
  (c_STILL:o_STILL.cls=.type "tuple")
  (d_STILL:o_STILL.data=.seq i_STILL n_STILL)
  (s_STILL:i_STILL.size<=sizeLine)
  (v_STILL:Vals (stillSg.map V.str) i_STILL.toList)
  (g_HUSH:PySem.W.nsIn K mainGlobals "HUSH"=some (some (.ref a_HUSH)))
  (l_HUSH:K.lookup a_HUSH=some o_HUSH)
  (c_HUSH:o_HUSH.cls=.type "tuple")
  (d_HUSH:o_HUSH.data=.seq i_HUSH n_HUSH)
  (s_HUSH:i_HUSH.size<=sizeLine)
  (v_HUSH:Vals (hushSg.map V.str) i_HUSH.toList)
  (T:Ts K C Cf)
 :∃fd:FuncData,(∀(s:Shared) (v:Value),BindsTo s fd ⟨[v],[]⟩ [("script",v)])/\∀base:Heap,K.In base->base.Ns mainGlobals mg->jA l.prog w K mg base CX0 9 fa fd ["script"] (sp_law15 K):=by
 have z:Zs mg:=⟨PySem.W.mg_none_of X G z_all,PySem.W.mg_none_of X G z_bool,PySem.W.mg_none_of X G z_dict,PySem.W.mg_none_of X G z_enumerate,PySem.W.mg_none_of X G z_int,PySem.W.mg_none_of X G z_isinstance,PySem.W.mg_none_of X G z_len,PySem.W.mg_none_of X G z_list,PySem.W.mg_none_of X G z_range,PySem.W.mg_none_of X G z_str,PySem.W.mg_none_of X G z_sum,PySem.W.mg_none_of X G z_tuple,PySem.W.mg_none_of X G z_zip⟩
 have c:Cs K mg C Cf a_STILL a_HUSH:=⟨⟨_,PySem.W.mg_of X G g_LETTERS,r_LETTERS⟩,⟨_,PySem.W.mg_of X G g_LONGEST_NAME,r_LONGEST_NAME⟩,⟨_,PySem.W.mg_of X G g_MOST_WORDS,r_MOST_WORDS⟩,⟨_,PySem.W.mg_of X G g_MOST_ROOMS,r_MOST_ROOMS⟩,⟨_,PySem.W.mg_of X G g_MOST_DOORS,r_MOST_DOORS⟩,⟨_,PySem.W.mg_of X G g_MOST_FACES,r_MOST_FACES⟩,⟨_,PySem.W.mg_of X G g_STILL,rfl⟩,⟨_,PySem.W.mg_of X G g_HUSH,rfl⟩,qj l_STILL c_STILL d_STILL s_STILL v_STILL,qj l_HUSH c_HUSH d_HUSH s_HUSH v_HUSH,⟨⟨pg,hd,po,sa⟩,na1,na2,na3,na4,na5,na6,na7,na8⟩,PySem.W.mg_of X G aC,mk,kc,⟨⟨pgF,hdF,poF,saF⟩,nf1,nf2,nf3,nf4,nf5⟩,PySem.W.mg_of X G aF,mkF,kcF⟩
 obtain ⟨f,fd,e,b,k⟩:=wk (P:=l.prog) (w:=w) X G z c T
 have e0:=hfa.symm.trans e
 cases e0
 exact ⟨fd,b,fun base _ _=>k base⟩
end
end Mum
def PySem.W.Fast.tw7017493158504862368:Nat:=0
def PySem.W.Fast.tw17198913219687920095:Nat:=0
def PySem.W.Fast.tw15791469740462821475:Nat:=0
def PySem.W.Fast.tw14361275180044082331:Nat:=0
def PySem.W.Fast.tw14135653714641707514:Nat:=0
def PySem.W.Fast.tw5423364118294559727:Nat:=0
def PySem.W.Fast.tw12017504742531373285:Nat:=0
def PySem.W.Fast.tw9166007460100126697:Nat:=0
def PySem.W.Fast.tw13029451851618126092:Nat:=0
def PySem.W.Fast.tw12087835481270304452:Nat:=0
def PySem.W.Fast.tw4398246763782527237:Nat:=0
def PySem.W.Fast.tw15655539543877816027:Nat:=0
def PySem.W.Fast.tw16174715962072024727:Nat:=0
def PySem.W.Fast.tw12664134101407572796:Nat:=0
def PySem.W.Fast.tw16864234738439697475:Nat:=0
def PySem.W.Fast.tw13349777183923004556:Nat:=0
def PySem.W.Fast.tw17164124754875563139:Nat:=0
def PySem.W.Fast.tw9238506102319129535:Nat:=0
def PySem.W.Fast.tw16407527969889501453:Nat:=0
def PySem.W.Fast.tw8849972173587185909:Nat:=0
def PySem.W.Fast.tw191978473986254282:Nat:=0
def PySem.W.Fast.tw10968150299609750100:Nat:=0
def PySem.W.Fast.tw8256459047579456964:Nat:=0
def PySem.W.Fast.tw5492009248932872548:Nat:=0
def PySem.W.Fast.tw12147252675548285022:Nat:=0
def PySem.W.Fast.tw10077481340604711876:Nat:=0
def PySem.W.Fast.tw6234218567079387719:Nat:=0
def PySem.W.Fast.tw5689948473199445600:Nat:=0
def PySem.W.Fast.tw13713667495140608141:Nat:=0
def PySem.W.Fast.tw14564813083857432205:Nat:=0
open PySem PySem.W PyProof.Rows
set_option maxRecDepth 100000 in
set_option maxHeartbeats 0 in
theorem PySem.Challenge.cw_mumtrial_k15_stories_counted_holds : PySem.Challenge.rw_mumtrial_k15_stories_counted.Holds := by
 w_on; o_law; k_head; (case hw=>w_witness2)
 k_fill
 refine L2.walk_ofK (l:=PySem.Challenge.rw_mumtrial_k15_stories_counted) (n:=63) (k:=9) (x:="script") (CX:=L2.CX0) (sp:=Mum.sp_law15) rfl (by decide) rfl ⟨rfl,by decide,by decide⟩ (fun w h Y=>PySem.W.kIn_of Y) ?F (fun _ _ a ns hl _ hS=>⟨a,ns,rfl,hS,hl,fun _=>rfl⟩) (fun _ _ _ _ z=>z)
 case F =>
  intro w mg fa h KX G hmg
  refine' Mum.all_mk KX G hmg ?aC ?pg ?hd ?po ?sa ?mk ?kc ?na1 ?na2 ?na3 ?na4 ?na5 ?na6 ?na7 ?na8 ?aF ?pgF ?hdF ?poF ?saF ?mkF ?kcF ?nf1 ?nf2 ?nf3 ?nf4 ?nf5 ?z_all ?z_bool ?z_dict ?z_enumerate ?z_int ?z_isinstance ?z_len ?z_list ?z_range ?z_str ?z_sum ?z_tuple ?z_zip ?g_LETTERS ?r_LETTERS ?g_LONGEST_NAME ?r_LONGEST_NAME ?g_MOST_WORDS ?r_MOST_WORDS ?g_MOST_ROOMS ?r_MOST_ROOMS ?g_MOST_DOORS ?r_MOST_DOORS ?g_MOST_FACES ?r_MOST_FACES ?g_STILL ?l_STILL ?c_STILL ?d_STILL ?s_STILL ?v_STILL ?g_HUSH ?l_HUSH ?c_HUSH ?d_HUSH ?s_HUSH ?v_HUSH ?T
  (case aC | pg | hd | po | sa | mk | kc | na1 | na2 | na3 | na4 | na5 | na6 | na7 | na8 | aF | pgF | hdF | poF | saF | mkF | kcF | nf1 | nf2 | nf3 | nf4 | nf5 | z_all | z_bool | z_dict | z_enumerate | z_int | z_isinstance | z_len | z_list | z_range | z_str | z_sum | z_tuple | z_zip | g_LETTERS=>k_is)
  (case r_LETTERS=>exact ⟨_,rfl⟩)
  (case g_LONGEST_NAME=>k_is)
  (case r_LONGEST_NAME=>exact ⟨_,rfl⟩)
  (case g_MOST_WORDS=>k_is)
  (case r_MOST_WORDS=>exact ⟨_,rfl⟩)
  (case g_MOST_ROOMS=>k_is)
  (case r_MOST_ROOMS=>exact ⟨_,rfl⟩)
  (case g_MOST_DOORS=>k_is)
  (case r_MOST_DOORS=>exact ⟨_,rfl⟩)
  (case g_MOST_FACES=>k_is)
  (case r_MOST_FACES=>exact ⟨_,rfl⟩)
  (case g_STILL | l_STILL=>k_is)
  (case c_STILL | d_STILL=>rfl)
  (case s_STILL=>decide)
  (case v_STILL=>exact .cons ⟨_,rfl⟩ .nil)
  (case g_HUSH | l_HUSH=>k_is)
  (case c_HUSH | d_HUSH=>rfl)
  (case s_HUSH=>decide)
  (case v_HUSH=>exact .cons ⟨_,rfl⟩ .nil)
  (case T=>constructor <;> first | (refine' Mum.fnG_mk ?a ?l ?c ?k; (case a=>k_is); (case l=>k_is); (case c=>k_is); (case k=>k_is)) | (refine' Mum.fnM_mk ?a ?i ?l ?c ?k; (case a=>k_is); (case i=>k_is); (case l=>k_is); (case c=>k_is); (case k=>k_is)))
