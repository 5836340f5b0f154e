import PyProof.Rows.All
import Wide.All
import OpenK.AllK
import Wide.FinOn
import Lean
import PyProof.EqAt
import PyProof.EqKinds
import PyProof.TupleCall
import PyProof.NeKinds
import PyProof.RaisesMany
import PyProof.RulesAs
import PyProof.NsDelKeeps
import PyProof.InstStoreFacts
import PyProof.ExcClass3
import PyProof.ExcInit
import KE.KTryMore
import PyProof.AutoSeq1
import PyProof.WalkInts
import PySem.Challenge.RW_mumtrial_k17_takers
section
set_option Elab.async false
set_option linter.all false
set_option maxRecDepth 100000
namespace L2
open PySem PySem.Spec PyProof.Rows
abbrev Key:=Sum Int Str
def bf:Key->Value->Bool
 | .inl k,v=>Value.isInt k v
 | .inr x,v=>Value.isStrOf x v
def v8 (w:World):Key->Int
 | .inl k=>hashInt k
 | .inr x=>hashStr w x
theorem ak:∀{k:Key}{v:Value},bf k v=true->(∃i t,k=Sum.inl i/\v=Value.int i t)∨(∃x t,k=Sum.inr x/\v=Value.str x t)
 | .inl i,v,h=>by
  obtain ⟨t,e⟩:=Value.isInt_shape (k:=i) (v:=v) h
  exact .inl ⟨i,t,rfl,e⟩
 | .inr x,v,h=>by
  obtain ⟨t,e⟩:=Value.isStrOf_shape (x:=x) (v:=v) h
  exact .inr ⟨x,t,rfl,e⟩
theorem pG (i:Int) (t:Tok):bf (.inl i) (.int i t)=true:=by simp [bf,Value.isInt]
theorem pF (x:Str) (t:Tok):bf (.inr x) (.str x t)=true:=by simp [bf,Value.isStrOf]
theorem my (a b:Int):decide ((Sum.inl a:Key)=Sum.inl b)=(a == b):=by
 by_cases e:a=b
 ·subst e; simp
 ·have h:¬(Sum.inl a:Key)=Sum.inl b:=fun q=>e (Sum.inl.inj q)
  rw [decide_eq_false h]
  exact (beq_eq_false_iff_ne.mpr e).symm
theorem mv (a b:Str):decide ((Sum.inr a:Key)=Sum.inr b)=decide (a=b):=by
 by_cases e:a=b
 ·subst e; simp
 ·have h:¬(Sum.inr a:Key)=Sum.inr b:=fun q=>e (Sum.inr.inj q)
  rw [decide_eq_false h,decide_eq_false e]
theorem mx (a:Int) (b:Str):decide ((Sum.inl a:Key)=Sum.inr b)=false:=decide_eq_false (fun q=>nomatch q)
theorem mw (a:Str) (b:Int):decide ((Sum.inr a:Key)=Sum.inl b)=false:=decide_eq_false (fun q=>nomatch q)
def aG (prog:Program) (w:World):PySem.KeyKind prog w Key where
 is:=bf
 hash:=v8 w
 inj:=fun v a b ha hb=>by
  rcases ak ha with ⟨i,t,rfl,rfl⟩ | ⟨x,t,rfl,rfl⟩
  ·rcases ak hb with ⟨j,u,rfl,e⟩ | ⟨y,u,rfl,e⟩
   ·injection e with e1 _; rw [e1]
   ·exact nomatch e
  ·rcases ak hb with ⟨j,u,rfl,e⟩ | ⟨y,u,rfl,e⟩
   ·exact nomatch e
   ·injection e with e1 _; rw [e1]
 byValue:=fun k v h=>by
  rcases ak h with ⟨i,t,rfl,rfl⟩ | ⟨x,t,rfl,rfl⟩ <;> rfl
 pyHash:=fun hv h=>by
  rcases ak hv with ⟨i,t,rfl,rfl⟩ | ⟨x,t,rfl,rfl⟩
  ·exact wpAny_pyHash_int h
  ·exact wpAny_pyHash_str h
 eqBool:=fun hu hv h=>by
  rcases ak hu with ⟨i,t,rfl,rfl⟩ | ⟨x,t,rfl,rfl⟩
  ·rcases ak hv with ⟨j,u,rfl,rfl⟩ | ⟨y,u,rfl,rfl⟩
   ·rw [my] at h; exact wpAny_eqBool_int h
   ·rw [mx] at h; exact SeqAt.EqAt.int_str i t y u _ _ _ _ h
  ·rcases ak hv with ⟨j,u,rfl,rfl⟩ | ⟨y,u,rfl,rfl⟩
   ·rw [mw] at h; exact SeqAt.EqAt.str_int x t j u _ _ _ _ h
   ·rw [mv] at h; exact wpAny_eqBool_str h
 «strs»:=fun k x t v h=>by
  rcases ak h with ⟨i,u,rfl,e⟩ | ⟨y,u,rfl,e⟩
  ·exact nomatch e
  ·injection e with e1 _
   subst e1
   cases v <;> rfl
theorem lC (prog:Program) (w:World) (i:Int) (t:Tok):(aG prog w).is (.inl i) (.int i t)=true:=pG i t
theorem lB (prog:Program) (w:World) (x:Str) (t:Tok):(aG prog w).is (.inr x) (.str x t)=true:=pF x t
end L2
namespace L2
open PySem PySem.Spec PyProof.Rows
open Sem (wp)
inductive TK where
 | k (a:Key)
 | t (l:List TK)
mutual
def vc:(x y:TK)->Decidable (x=y)
 | .k a,.k b=>if h:a=b then Decidable.isTrue (by rw [h]) else Decidable.isFalse fun e=>h (by injection e)
 | .t l,.t m=>match decTKs l m with
  | Decidable.isTrue h=>Decidable.isTrue (by rw [h])
  | Decidable.isFalse h=>Decidable.isFalse fun e=>h (by injection e)
 | .k _,.t _=>Decidable.isFalse nofun
 | .t _,.k _=>Decidable.isFalse nofun
def decTKs:(x y:List TK)->Decidable (x=y)
 | [],[]=>Decidable.isTrue rfl
 | [],_::_=>Decidable.isFalse nofun
 | _::_,[]=>Decidable.isFalse nofun
 | a::l,b::m=>match vc a b with
  | Decidable.isTrue h=>match decTKs l m with
   | Decidable.isTrue h'=>Decidable.isTrue (by rw [h,h'])
   | Decidable.isFalse h'=>Decidable.isFalse fun e=>h' (by injection e)
  | Decidable.isFalse h=>Decidable.isFalse fun e=>h (by injection e)
end
instance:DecidableEq TK:=vc
mutual
def TK.depth:TK->Nat
 | .k _=>0
 | .t l=>TK.depths l+1
def TK.depths:List TK->Nat
 | []=>0
 | a::r=>max (TK.depth a) (TK.depths r)
end
mutual
def TK.hash (w:World):TK->Int
 | .k a=>v8 w a
 | .t l=>reduceHash (Builtin.Tuple.tupleHashOf (TK.hashs w l))
def TK.hashs (w:World):List TK->List Int
 | []=>[]
 | a::r=>TK.hash w a::TK.hashs w r
end
mutual
def TK.draws:TK->Nat
 | .k _=>1
 | .t l=>TK.drawss l+1
def TK.drawss:List TK->Nat
 | []=>0
 | a::r=>TK.draws a+TK.drawss r
end
mutual
def TAt (h:Heap):TK->Value->Prop
 | .k a,v=>bf a v=true
 | .t l,v=>∃a o items n,v=.ref a/\h.get? a=some o/\o.cls=.type "tuple"/\o.data=.seq items n/\TAts h l items.toList
def TAts (h:Heap):List TK->List Value->Prop
 | [],vs=>vs=[]
 | k::r,vs=>∃v us,vs=v::us/\TAt h k v/\TAts h r us
end
theorem TAt.inj {h:Heap}:∀(d:Nat) {x y:TK}{v:Value},x.depth<=d->TAt h x v->TAt h y v->x=y:=by
 have key:∀(d:Nat) (ih:∀{x y:TK}{v:Value},x.depth<=d->TAt h x v->TAt h y v->x=y) (xs ys:List TK) (vs:List Value),TK.depths xs<=d->TAts h xs vs->TAts h ys vs->xs=ys:=by
  intro d ih xs
  induction xs with
  | nil =>
   intro ys vs _ hx hy
   have hx':vs=[]:=hx
   subst hx'
   cases ys with
   | nil=>rfl
   | cons y ys=>obtain ⟨_,_,e,_⟩:=hy; cases e
  | cons x xs ihl =>
   intro ys vs hd hx hy
   obtain ⟨v,us,rfl,hx1,hx2⟩:=hx
   cases ys with
   | nil=>have hy':v::us=[]:=hy; cases hy'
   | cons y ys =>
    obtain ⟨v',us',e,hy1,hy2⟩:=hy
    cases e
    have hd':max x.depth (TK.depths xs)<=d:=hd
    rw [ih (by omega) hx1 hy1,ihl ys us (by omega) hx2 hy2]
 have leaf:∀(a:Key) (l:List TK) (v:Value),TAt h (.k a) v->TAt h (.t l) v->False:=by
  intro a l v h1 h2
  obtain ⟨b,o,items,n,rfl,_⟩:=h2
  rcases ak (show bf a (.ref b)=true from h1) with ⟨_,_,_,e⟩ | ⟨_,_,_,e⟩ <;> cases e
 have kk:∀(a b:Key) (v:Value),bf a v=true->bf b v=true->a=b:=by
  intro a b v h1 h2
  rcases ak h1 with ⟨i,t,rfl,rfl⟩ | ⟨i,t,rfl,rfl⟩
  ·rcases ak h2 with ⟨j,u,rfl,e⟩ | ⟨j,u,rfl,e⟩
   ·cases e; rfl
   ·cases e
  ·rcases ak h2 with ⟨j,u,rfl,e⟩ | ⟨j,u,rfl,e⟩
   ·cases e
   ·cases e; rfl
 intro d
 induction d with
 | zero =>
  intro x y v hd hx hy
  cases x with
  | t l=>exact absurd hd (by show ¬(TK.depths l+1<=0); omega)
  | k a =>
   cases y with
   | k b=>rw [kk a b v hx hy]
   | t l=>exact (leaf a l v hx hy).elim
 | succ d ih =>
  intro x y v hd hx hy
  cases x with
  | k a =>
   cases y with
   | k b=>rw [kk a b v hx hy]
   | t l=>exact (leaf a l v hx hy).elim
  | t l =>
   cases y with
   | k b=>exact (leaf b l v hy hx).elim
   | t l' =>
    obtain ⟨a,o,items,n,rfl,ho,hc,hdt,hi⟩:=hx
    obtain ⟨a',o',items',n',e,ho',hc',hdt',hi'⟩:=hy
    cases e
    rw [ho] at ho'; cases ho'
    rw [hdt] at hdt'
    injection hdt' with e1 _
    subst e1
    rw [key d (fun h1=>ih h1) l l' items.toList (by have:TK.depths l+1<=d+1:=hd; omega) hi hi']
theorem TAt.mono {h h':Heap}(k:∀a o items n,h.get? a=some o->o.cls=.type "tuple"->o.data=.seq items n->h'.get? a=some o):∀(d:Nat) {x:TK}{v:Value},x.depth<=d->TAt h x v->TAt h' x v:=by
 have key:∀(d:Nat) (ih:∀{x:TK}{v:Value},x.depth<=d->TAt h x v->TAt h' x v) (xs:List TK) (vs:List Value),TK.depths xs<=d->TAts h xs vs->TAts h' xs vs:=by
  intro d ih xs
  induction xs with
  | nil=>intro vs _ hx; exact hx
  | cons x xs ihl =>
   intro vs hd hx
   obtain ⟨v,us,rfl,hx1,hx2⟩:=hx
   have hd':max x.depth (TK.depths xs)<=d:=hd
   exact ⟨v,us,rfl,ih (by omega) hx1,ihl us (by omega) hx2⟩
 intro d
 induction d with
 | zero =>
  intro x v hd hx
  cases x with
  | t l=>exact absurd hd (by show ¬(TK.depths l+1<=0); omega)
  | k a=>exact hx
 | succ d ih =>
  intro x v hd hx
  cases x with
  | k a=>exact hx
  | t l =>
   obtain ⟨a,o,items,n,rfl,ho,hc,hdt,hi⟩:=hx
   exact ⟨a,o,items,n,rfl,k a o items n ho hc hdt,hc,hdt,key d (fun h1=>ih h1) l _ (by have:TK.depths l+1<=d+1:=hd; omega) hi⟩
section
variable {prog:Program}{w:World}
theorem sY:∀(d:Nat) {A:Around}{E:Value->Shared->Prop}{s:Shared}{k:TK}{v:Value}{Q:Int->Shared->Prop},k.depth<=d->A.units+d<cLine->TAt s.heap k v->Q (k.hash w) { s with toks:=s.toks+k.draws } ->
  wpAny (model prog w) A (pyHash v) Q E s:=by
 intro d
 induction d with
 | zero =>
  intro A E s k v Q hd hu hk h
  cases k with
  | t l=>exact absurd hd (by show ¬(TK.depths l+1<=0); omega)
  | k a=>exact (aG prog w).pyHash (k:=a) hk h
 | succ d ih =>
  intro A E s k v Q hd hu hk h
  cases k with
  | k a=>exact (aG prog w).pyHash (k:=a) hk h
  | t l =>
   obtain ⟨a,o,items,n,rfl,ho,hc,hdt,hi⟩:=hk
   have hT:s.TypeIs (.ref a) "tuple":=⟨o,ho,hc⟩
   have hdl:TK.depths l<=d:=by have:TK.depths l+1<=d+1:=hd; omega
   unfold pyHash
   first | unfold pyHashByItsType | skip
   first | refine wpAny_bind (wpAny_cRoomFor_or (.inr (by omega)) ?_) | skip
   refine wpAny_bind (wpAny_specialOf hT F.slot_tuple_hash.lookup ?_)
   show wpAny _ _ (if (some (Value.builtin "tuple.__hash__") == some Value.none)=true then _ else _) Q E s
   rw [if_neg (by rw [beq_builtin_none]; exact Bool.false_ne_true)]
   refine wpAny_bind (wpAny_specialOf hT F.slot_tuple_hash.lookup ?_)
   show wpAny _ _ (callSpecialIfBoundUnlessNone? (.ref a) "__hash__" _ >>= _) Q E s
   refine wpAny_bind (wpAny_callSpecialIfBoundUnlessNone?_slot hT F.slot_tuple_hash (wpAny_call_entry F.slot_tuple_hash hT F.entry_tuple_hash ?_ (F.args_tuple_hash_1 _)))
   show wpAny _ _ (Builtin.Tuple.tupleItemsOf (.ref a) >>= _) _ _ s
   refine wpAny_bind (wpAny_tupleItemsOf ho hdt ?_)
   refine wpAny_bind ?_
   rw [<-Array.forIn_toList]
   refine wpAny_forIn_list _
    (fun rest (b:Array Int) s'=>∃done left,l=done++left/\TAts s.heap left rest/\b.toList=TK.hashs w done/\s'={ s with toks:=s.toks+TK.drawss done })
    _ ?_ ?_ _ _ ⟨[],l,rfl,hi,rfl,rfl⟩
   ·rintro x rest b s' ⟨done,left,e,hl,hb,rfl⟩
    cases left with
    | nil=>have hl':x::rest=[]:=hl; cases hl'
    | cons k' left =>
     obtain ⟨x',rest',e',h1,h2⟩:=hl
     cases e'
     have hdk:k'.depth<=d:=by
      have gen:∀(p:List TK),TK.depths (p++k'::left)<=d->k'.depth<=d:=by
       intro p
       induction p with
       | nil=>intro hp; have hp':max k'.depth (TK.depths left)<=d:=hp; omega
       | cons q p ihp=>intro hp; have hp':max q.depth (TK.depths (p++k'::left))<=d:=hp; exact ihp (by omega)
      exact gen done (by rw [<-e]; exact hdl)
     have hs:TK.hashs w (done++[k'])=TK.hashs w done++[k'.hash w]:=by
      clear e hb
      induction done with
      | nil=>rfl
      | cons q p ihp=>show _::TK.hashs w (p++[k'])=_; rw [ihp]; rfl
     have hdr:TK.drawss (done++[k'])=TK.drawss done+k'.draws:=by
      clear e hb hs
      induction done with
      | nil=>show k'.draws+0=0+k'.draws; omega
      | cons q p ihp=>show q.draws+TK.drawss (p++[k'])=q.draws+TK.drawss p+k'.draws; rw [ihp]; omega
     refine wpAny_bind (ih (k:=k') hdk (by show A.units+1+d<cLine; omega) h1 ?_)
     first
      | exact wpAny_pure ⟨done++[k'],left,by rw [e]; simp,h2,by rw [hs]; simp [hb],by rw [hdr]; simp [Nat.add_assoc]⟩
      | exact wpAny_bind (wpAny_pure (wpAny_pure ⟨done++[k'],left,by rw [e]; simp,h2,by rw [hs]; simp [hb],by rw [hdr]; simp [Nat.add_assoc]⟩))
   ·rintro b s' ⟨done,left,e,hl,hb,rfl⟩
    cases left with
    | cons k' left=>obtain ⟨_,_,e',_⟩:=hl; cases e'
    | nil =>
     rw [List.append_nil] at e
     subst e
     show wpAny _ _ (retInt (Builtin.Tuple.tupleHashOf b.toList)) _ _ _
     rw [hb]
     refine wpAny_ret_mkInt ?_
     have h':Q (reduceHash (Builtin.Tuple.tupleHashOf (TK.hashs w l))) { s with toks:=s.toks+(TK.drawss l+1) }:=h
     show wpAny _ _ (if (decide (-(2:Int) ^ 63<=Builtin.Tuple.tupleHashOf (TK.hashs w l)) && decide (Builtin.Tuple.tupleHashOf (TK.hashs w l)<2 ^ 63))=true then _ else _) Q E _
     unfold reduceHash at h'
     by_cases hr:(decide (-(2:Int) ^ 63<=Builtin.Tuple.tupleHashOf (TK.hashs w l)) && decide (Builtin.Tuple.tupleHashOf (TK.hashs w l)<2 ^ 63))=true
     ·rw [if_pos hr]
      rw [if_pos hr] at h'
      exact wpAny_pure (by simpa [Nat.add_assoc] using h')
     ·rw [if_neg hr]
      rw [if_neg hr] at h'
      exact wpAny_bind (wpAny_rule (wpAny_pure (by simpa [Nat.add_assoc] using h')))
theorem oq (d:Nat) (ih:∀{A:Around}{E:Value->Shared->Prop}{s:Shared}{x y:TK}{u v:Value}{Q:Bool->Shared->Prop},x.depth<=d->y.depth<=d->A.units+d<cLine->TAt s.heap x u->TAt s.heap y v->Q (decide (x=y)) s->wpAny (model prog w) A (eqBool u v) Q E s)
  {A:Around}{E:Value->Shared->Prop}{s:Shared}{x y:List TK}{a b:Addr}{P:Fin->Shared->Prop}{oa ob:Obj}{xs ys:Array Value}{na nb:Nat}(hx:TK.depths x<=d) (hy:TK.depths y<=d) (hu:A.units+d<cLine)
  (hoa:s.heap.get? a=some oa) (hda:oa.data=.seq xs na) (hia:TAts s.heap x xs.toList) (hob:s.heap.get? b=some ob) (hcb:ob.cls=.type "tuple") (hdb:ob.data=.seq ys nb) (hib:TAts s.heap y ys.toList)
  (h:P (.done (.ret (.bool (decide (x=y))))) s):wpAny (model prog w) A (Builtin.«tuple.__eq__» ⟨[.ref a,.ref b],[]⟩) P E s:=by
 have hTb:s.TypeIs (.ref b) "tuple":=⟨ob,hob,hcb⟩
 show wpAny _ _ (isInstance (.ref b) (.type "tuple") >>= _) _ _ s
 refine wpAny_bind (wpAny_isInstance hTb isSubtype_tuple_tuple ?_)
 simp only [Bool.not_true,Bool.false_eq_true,if_false]
 refine wpAny_bind (wpAny_tupleItemsOf hoa hda ?_)
 refine wpAny_bind (wpAny_tupleItemsOf hob hdb ?_)
 refine wpAny_bind ?_
 refine wpAny_forIn_list _
  (fun rest r s'=>r.1=none/\s'=s/\∃x' y' xs' ys',rest=List.zip xs' ys'/\TAts s.heap x' xs'/\TAts s.heap y' ys'/\TK.depths x'<=d/\TK.depths y'<=d/\decide (x'=y')=decide (x=y)/\(xs'.length == ys'.length)=(xs.size == ys.size))
  _ ?_ ?_ _ _ ⟨rfl,rfl,x,y,xs.toList,ys.toList,rfl,hia,hib,hx,hy,rfl,by simp⟩
 ·rintro ⟨u,v⟩ rest r s' ⟨hr,rfl,x',y',xs',ys',hz,hx',hy',dx,dy,hdec,hlen⟩
  cases x' with
  | nil =>
   have e:xs'=[]:=hx'
   subst e; simp at hz
  | cons k1 x'' =>
   obtain ⟨u',xs'',rfl,h1,hx''⟩:=hx'
   cases y' with
   | nil =>
    have e:ys'=[]:=hy'
    subst e; simp at hz
   | cons k2 y'' =>
    obtain ⟨v',ys'',rfl,h2,hy''⟩:=hy'
    simp only [List.zip_cons_cons,List.cons.injEq,Prod.mk.injEq] at hz
    obtain ⟨⟨rfl,rfl⟩,rfl⟩:=hz
    have dx':max k1.depth (TK.depths x'')<=d:=dx
    have dy':max k2.depth (TK.depths y'')<=d:=dy
    refine wpAny_bind (ih (x:=k1) (y:=k2) (by omega) (by omega) hu h1 h2 ?_)
    by_cases hk:k1=k2
    ·subst hk
     rw [decide_eq_true rfl]
     simp only [Bool.not_true,Bool.false_eq_true,if_false]
     refine wpAny_pure ⟨rfl,rfl,x'',y'',xs'',ys'',rfl,hx'',hy'',by omega,by omega,?_,by simpa using hlen⟩
     rw [<-hdec]
     by_cases hxy:x''=y''
     ·simp [hxy]
     ·simp [hxy]
    ·rw [decide_eq_false hk]
     simp only [Bool.not_false,if_true]
     have hf:decide (x=y)=false:=by rw [<-hdec]; simp [hk]
     rw [hf] at h
     exact wpAny_bind (wpAny_pure (wpAny_pure (wpAny_pure h)))
 ·rintro ⟨r1,r2⟩ s' ⟨hr,rfl,x',y',xs',ys',hz,hx',hy',dx,dy,hdec,hlen⟩
  simp only at hr
  subst hr
  refine wpAny_pure ?_
  have hfin:(xs.size == ys.size)=decide (x=y):=by
   rw [<-hdec,<-hlen]
   cases x' with
   | nil =>
    have e:xs'=[]:=hx'
    subst e
    cases y' with
    | nil=>have e:ys'=[]:=hy'; subst e; simp
    | cons _ _=>obtain ⟨_,_,rfl,_⟩:=hy'; simp
   | cons _ _ =>
    obtain ⟨_,_,rfl,_⟩:=hx'
    cases y' with
    | nil=>have e:ys'=[]:=hy'; subst e; simp
    | cons _ _=>obtain ⟨_,_,rfl,_⟩:=hy'; simp at hz
  show P (.done (.ret (.bool (xs.size == ys.size)))) s'
  rw [hfin]; exact h
theorem vy:∀(d:Nat) {A:Around}{E:Value->Shared->Prop}{s:Shared}{x y:TK}{u v:Value}{Q:Bool->Shared->Prop},x.depth<=d->y.depth<=d->A.units+d<cLine->TAt s.heap x u->TAt s.heap y v->Q (decide (x=y)) s ->
  wpAny (model prog w) A (eqBool u v) Q E s:=by
 have mixed1:∀{A:Around}{E:Value->Shared->Prop}{s:Shared}{a:Key}{l:List TK}{u v:Value}{Q:Bool->Shared->Prop},A.units<cLine->TAt s.heap (.k a) u->TAt s.heap (.t l) v->Q false s->wpAny (model prog w) A (eqBool u v) Q E s:=by
  intro A E s a l u v Q hu hx hy h
  obtain ⟨b,o,items,n,rfl,ho,hc,hdt,hi⟩:=hy
  have ht:s.heap.IsTuple b items:=⟨o,ho,hc,n,hdt⟩
  rcases ak (show bf a u=true from hx) with ⟨i,t,rfl,rfl⟩ | ⟨i,t,rfl,rfl⟩
  ·exact SeqAt.EqAt.int_tuple i t ht hu prog w E Q h
  ·exact SeqAt.EqAt.str_tuple i t ht hu prog w E Q h
 have mixed2:∀{A:Around}{E:Value->Shared->Prop}{s:Shared}{a:Key}{l:List TK}{u v:Value}{Q:Bool->Shared->Prop},A.units<cLine->TAt s.heap (.t l) u->TAt s.heap (.k a) v->Q false s->wpAny (model prog w) A (eqBool u v) Q E s:=by
  intro A E s a l u v Q hu hx hy h
  obtain ⟨b,o,items,n,rfl,ho,hc,hdt,hi⟩:=hx
  have ht:s.heap.IsTuple b items:=⟨o,ho,hc,n,hdt⟩
  rcases ak (show bf a v=true from hy) with ⟨i,t,rfl,rfl⟩ | ⟨i,t,rfl,rfl⟩
  ·exact SeqAt.EqAt.tuple_int i t ht hu prog w E Q h
  ·exact SeqAt.EqAt.tuple_str i t ht hu prog w E Q h
 have leaves:∀{A:Around}{E:Value->Shared->Prop}{s:Shared}{a b:Key}{u v:Value}{Q:Bool->Shared->Prop},TAt s.heap (.k a) u->TAt s.heap (.k b) v->Q (decide (TK.k a=TK.k b)) s->wpAny (model prog w) A (eqBool u v) Q E s:=by
  intro A E s a b u v Q hx hy h
  refine (aG prog w).eqBool (a:=a) (b:=b) hx hy ?_
  by_cases e:a=b
  ·subst e; simpa using h
  ·have:¬(TK.k a=TK.k b):=fun z=>e (by injection z)
   rw [decide_eq_false this] at h
   rw [decide_eq_false e]; exact h
 intro d
 induction d with
 | zero =>
  intro A E s x y u v Q hdx hdy hu hx hy h
  cases x with
  | t l=>exact absurd hdx (by show ¬(TK.depths l+1<=0); omega)
  | k a =>
   cases y with
   | t l=>exact absurd hdy (by show ¬(TK.depths l+1<=0); omega)
   | k b=>exact leaves hx hy h
 | succ d ih =>
  intro A E s x y u v Q hdx hdy hu hx hy h
  cases x with
  | k a =>
   cases y with
   | k b=>exact leaves hx hy h
   | t l =>
    rw [decide_eq_false (by intro z; cases z)] at h
    exact mixed1 (by omega) hx hy h
  | t l =>
   cases y with
   | k b =>
    rw [decide_eq_false (by intro z; cases z)] at h
    exact mixed2 (by omega) hx hy h
   | t m =>
    have hl:TK.depths l<=d:=by have:TK.depths l+1<=d+1:=hdx; omega
    have hm:TK.depths m<=d:=by have:TK.depths m+1<=d+1:=hdy; omega
    have hx0:=hx
    have hy0:=hy
    obtain ⟨a,oa,xs,na,rfl,hoa,hca,hda,hia⟩:=hx
    obtain ⟨b,ob,ys,nb,rfl,hob,hcb,hdb,hib⟩:=hy
    have hTa:s.TypeIs (.ref a) "tuple":=⟨oa,hoa,hca⟩
    have hTb:s.TypeIs (.ref b) "tuple":=⟨ob,hob,hcb⟩
    have hd':decide (TK.t l=TK.t m)=decide (l=m):=by
     by_cases e:l=m
     ·subst e; simp
     ·have:¬(TK.t l=TK.t m):=fun z=>e (by injection z)
      rw [decide_eq_false this,decide_eq_false e]
    unfold eqBool
    try with_reducible refine wpAny_holding ?_
    show wpAny _ _ (if (Value.ref a == Value.ref b)=true then _ else _) Q E s
    by_cases hab:(Value.ref a == Value.ref b)=true
    ·rw [if_pos hab]
     have e:a=b:=by have:=eq_of_beq hab; injection this
     subst e
     have e2:TK.t l=TK.t m:=TAt.inj _ (Nat.le_refl _) hx0 hy0
     rw [decide_eq_true e2] at h
     exact wpAny_bind (wpAny_rule (wpAny_pure h))
    ·rw [if_neg hab]
     rw [hd'] at h
     exact wpAny_bind (wpAny_richCompare_same_room (op:=.Eq) hTa hTb F.slot_tuple_eq
      (wpAny_call_entry F.slot_tuple_eq hTa F.entry_tuple_eq (oq d (fun h1 h2 h3 h4 h5 h6=>ih h1 h2 h3 h4 h5 h6) hl hm (by show A.units+1+d<cLine; omega) hoa hda hia hob hcb hdb hib ⟨_,rfl,(fun e=>nomatch e),wpAny_truthy_bool h⟩) (F.args_tuple_eq_2 _ _)) (by omega))
theorem qK:∀(d:Nat) {A:Around}{E:Value->Shared->Prop}{s:Shared}{k:TK}{v:Value}{Q:Bool->Shared->Prop},k.depth<=d->TAt s.heap k v->Q true s->wpAny (model prog w) A (eqIsQuiet d v) Q E s:=by
 intro d
 induction d with
 | zero =>
  intro A E s k v Q hd hk h
  cases k with
  | t l=>exact absurd hd (by show ¬(TK.depths l+1<=0); omega)
  | k a=>rw [eqIsQuiet_byValue _ ((aG prog w).byValue a v hk)]; exact wpAny_pure h
 | succ d ih =>
  intro A E s k v Q hd hk h
  cases k with
  | k a=>rw [eqIsQuiet_byValue _ ((aG prog w).byValue a v hk)]; exact wpAny_pure h
  | t l =>
   have hl:TK.depths l<=d:=by have:TK.depths l+1<=d+1:=hd; omega
   obtain ⟨a,o,items,n,rfl,ho,hc,hdt,hi⟩:=hk
   have hT:s.TypeIs (.ref a) "tuple":=⟨o,ho,hc⟩
   unfold eqIsQuiet
   refine wpAny_bind (wpAny_specialOf hT F.slot_tuple_eq.lookup ?_)
   show wpAny _ _ (isInstance (.ref a) (.type "tuple") >>= _) _ _ s
   refine wpAny_bind (wpAny_isInstance hT isSubtype_tuple_tuple ?_)
   simp only [Bool.not_true,Bool.false_eq_true,if_false]
   refine wpAny_bind (wpAny_seqItems ho hdt ?_)
   refine wpAny_bind ?_
   show wpAny _ _ (forIn items _ _) _ _ s
   rw [<-Array.forIn_toList]
   refine wpAny_forIn_list _ (fun rest r s'=>r.1=none/\s'=s/\∃left,TAts s.heap left rest/\TK.depths left<=d) _ ?_ ?_ _ _ ⟨rfl,rfl,l,hi,hl⟩
   ·rintro v rest r s' ⟨hr,rfl,left,hall,hdl⟩
    cases left with
    | nil=>have e:v::rest=[]:=hall; cases e
    | cons k' left =>
     obtain ⟨v',rest',e,h1,h2⟩:=hall
     cases e
     have hdl':max k'.depth (TK.depths left)<=d:=hdl
     refine wpAny_bind (ih (k:=k') (by omega) h1 ?_)
     simp only [Bool.not_true,Bool.false_eq_true,if_false]
     exact wpAny_pure ⟨rfl,rfl,left,h2,by omega⟩
   ·rintro ⟨r1,r2⟩ s' ⟨hr,rfl,_⟩
    simp only at hr
    subst hr
    exact wpAny_pure h
def bR (prog:Program) (w:World):HeapKind prog w TK where
 is:=fun h k a=>TAt h k (.ref a)/\k.depth<=8
 hash:=TK.hash w
 draws:=TK.draws
 room:=fun A=>A.units+8<cLine
 inj:=fun hx hy=>TAt.inj 8 hx.2 hx.1 hy.1
 keeps:=fun {h h' k a d o es ep} x ho hd hs=>⟨TAt.mono (fun b ob items n hb _ hdb=>(hs.2 b fun e=>by
  subst e
  rw [ho] at hb
  cases hb
  rw [hd] at hdb
  cases hdb).trans hb) 8 x.2 x.1,x.2⟩
 pyHash:=fun hu hk h=>sY 8 hk.2 hu hk.1 h
 eqBool:=fun hu hx hy h=>vy 8 hx.2 hy.2 hu hx.1 hy.1 h
 quiet:=fun hk h=>qK 8 hk.2 hk.1 h
end
end L2
namespace L2
open PySem PySem.Spec PyProof.Rows
inductive V where
 | non | bl (b:Bool) | int (i:Int) | str (x:Str) | byt (b:Array UInt8) | flt (b:UInt64) | ref (a:Addr) | ty (n:String)
 deriving DecidableEq
def RelV:V->Value->Prop
 | .non,u=>u=Value.none
 | .bl b,u=>u=Value.bool b
 | .int i,u=>∃t,u=Value.int i t
 | .str x,u=>∃t,u=Value.str x t
 | .byt b,u=>∃t,u=Value.bytes b t
 | .flt b,u=>∃t,u=Value.float b t
 | .ref a,u=>u=Value.ref a
 | .ty n,u=>u=Value.type n
abbrev Vals:List V->List Value->Prop:=Paired RelV
theorem Vals.length {xs:List V}{us:List Value}(r:Vals xs us):xs.length=us.length:=Paired.length r
theorem Vals.get:∀{xs:List V}{us:List Value}{i:Nat}{x:V},Vals xs us->xs[i]?=some x->∃u,us[i]?=some u/\RelV x u
 | _,_,_,_,.nil,e=>by simp at e
 | _,_,0,_,.cons r _,e=>by simp at e; subst e; exact ⟨_,rfl,r⟩
 | _,_,i+1,x,.cons _ t,e=>by
  obtain ⟨u,h1,h2⟩:=Vals.get (i:=i) (x:=x) t (by simpa using e)
  exact ⟨u,by simpa using h1,h2⟩
theorem Vals.set {x:V}{u:Value}(r:RelV x u):∀{xs:List V}{us:List Value}(i:Nat),Vals xs us->Vals (xs.set i x) (us.set i u)
 | _,_,_,.nil=>.nil
 | _,_,0,.cons _ t=>.cons r t
 | _,_,i+1,.cons q t=>.cons q (Vals.set r i t)
theorem Vals.append:∀{xs ys:List V}{us ws:List Value},Vals xs us->Vals ys ws->Vals (xs++ys) (us++ws)
 | _,_,_,_,.nil,s=>s
 | _,_,_,_,.cons r t,s=>.cons r (Vals.append t s)
theorem Vals.take:∀{xs:List V}{us:List Value}(n:Nat),Vals xs us->Vals (xs.take n) (us.take n)
 | _,_,0,_=>.nil
 | _,_,_+1,.nil=>.nil
 | _,_,n+1,.cons r t=>.cons r (Vals.take n t)
theorem Vals.drop:∀{xs:List V}{us:List Value}(n:Nat),Vals xs us->Vals (xs.drop n) (us.drop n)
 | _,_,0,r=>r
 | _,_,_+1,.nil=>.nil
 | _,_,n+1,.cons _ t=>Vals.drop n t
def RelO:Option V->Option Value->Prop
 | some v,some u=>RelV v u
 | none,none=>True
 | _,_=>False
def KV {κ:Type}:List (κ×V)->List (κ×Value)->Prop:=Paired fun (p:κ×V) (q:κ×Value)=>p.1=q.1/\RelV p.2 q.2
def kV:Key->V
 | .inl i=>.int i
 | .inr x=>.str x
inductive HO where
 | lst (xs:List V)
 | tup (xs:List V)
 | dK (kvs:List (Key×V)) | dT (kvs:List (TK×V))
 | set (S:Int->Bool) (n:Nat)
 | ins (C dx:Addr) (fs:List (Str×V))
 | own (x:Addr)
 | xd (fs:List (Str×V))
 | met (f x:Addr)
 | rng (lo hi:Int)
 | frz (o:Obj) (u:HO)
 | tbl (ps:Array Value)
 | ext (φ:Heap->Prop)
abbrev Hp:=Addr->Option HO
mutual
def TKAt (H:Hp):TK->V->Prop
 | .k a,v=>v=kV a
 | .t l,v=>∃b xs,v=.ref b/\H b=some (.tup xs)/\TKAts H l xs
def TKAts (H:Hp):List TK->List V->Prop
 | [],vs=>vs=[]
 | k::r,vs=>∃v us,vs=v::us/\TKAt H k v/\TKAts H r us
end
def TupC (K:PySem.W.Frag) (H:Hp) (a:Addr) (xs:List V):Prop :=
 H a=some (.tup xs)∨∃(o:Obj) (its:Array Value) (n:Nat),K.lookup a=some o/\o.cls=.type "tuple"/\o.data=.seq its n/\its.size<=sizeLine/\Vals xs its.toList
theorem TupC.keeps {K:PySem.W.Frag}{H H':Hp}{a:Addr}{xs:List V}(h:TupC K H a xs) (ht:∀b xs,H b=some (.tup xs)->H' b=some (.tup xs)):TupC K H' a xs:=h.imp (ht a xs) id
mutual
def TKC (K:PySem.W.Frag) (H:Hp):TK->V->Prop
 | .k a,v=>v=kV a
 | .t l,v=>∃b xs,v=.ref b/\TupC K H b xs/\TKCs K H l xs
def TKCs (K:PySem.W.Frag) (H:Hp):List TK->List V->Prop
 | [],vs=>vs=[]
 | k::r,vs=>∃v us,vs=v::us/\TKC K H k v/\TKCs K H r us
end
theorem TKC.keeps {K:PySem.W.Frag}{H H':Hp}(ht:∀b xs,H b=some (.tup xs)->H' b=some (.tup xs)):∀(d:Nat) {k:TK}{v:V},k.depth<=d->TKC K H k v->TKC K H' k v:=by
 have key:∀(d:Nat) (ih:∀{k:TK}{v:V},k.depth<=d->TKC K H k v->TKC K H' k v) (xs:List TK) (vs:List V),TK.depths xs<=d->TKCs K H xs vs->TKCs K H' xs vs:=by
  intro d ih xs
  induction xs with
  | nil=>intro vs _ hx; exact hx
  | cons x xs ihl =>
   intro vs hd hx
   obtain ⟨v,us,rfl,hx1,hx2⟩:=hx
   have hd':max x.depth (TK.depths xs)<=d:=hd
   exact ⟨v,us,rfl,ih (by omega) hx1,ihl us (by omega) hx2⟩
 intro d
 induction d with
 | zero =>
  intro k v hd hx
  cases k with
  | t l=>exact absurd hd (by show ¬(TK.depths l+1<=0); omega)
  | k a=>exact hx
 | succ d ih =>
  intro k v hd hx
  cases k with
  | k a=>exact hx
  | t l =>
   obtain ⟨b,xs,rfl,hb,hi⟩:=hx
   exact ⟨b,xs,rfl,hb.keeps ht,key d (fun h1=>ih h1) l xs (by have:TK.depths l+1<=d+1:=hd; omega) hi⟩
theorem TKAt.c {K:PySem.W.Frag}{H:Hp}:∀(d:Nat) {k:TK}{v:V},k.depth<=d->TKAt H k v->TKC K H k v:=by
 have key:∀(d:Nat) (ih:∀{k:TK}{v:V},k.depth<=d->TKAt H k v->TKC K H k v) (xs:List TK) (vs:List V),TK.depths xs<=d->TKAts H xs vs->TKCs K H xs vs:=by
  intro d ih xs
  induction xs with
  | nil=>intro vs _ hx; exact hx
  | cons x xs ihl =>
   intro vs hd hx
   obtain ⟨v,us,rfl,hx1,hx2⟩:=hx
   have hd':max x.depth (TK.depths xs)<=d:=hd
   exact ⟨v,us,rfl,ih (by omega) hx1,ihl us (by omega) hx2⟩
 intro d
 induction d with
 | zero =>
  intro k v hd hx
  cases k with
  | t l=>exact absurd hd (by show ¬(TK.depths l+1<=0); omega)
  | k a=>exact hx
 | succ d ih =>
  intro k v hd hx
  cases k with
  | k a=>exact hx
  | t l =>
   obtain ⟨b,xs,rfl,hb,hi⟩:=hx
   exact ⟨b,xs,rfl,.inl hb,key d (fun h1=>ih h1) l xs (by have:TK.depths l+1<=d+1:=hd; omega) hi⟩
def upd (H:Hp) (a:Addr) (o:HO):Hp:=fun b=>if b=a then some o else H b
theorem aa {H:Hp}{a:Addr}{o:HO}:upd H a o a=some o:=by unfold upd; rw [if_pos rfl]
theorem aj {H:Hp}{a b:Addr}{o:HO}(h:b≠a):upd H a o b=H b:=by unfold upd; rw [if_neg h]
theorem fm {H:Hp}{a:Addr}{o u:HO}:upd (upd H a o) a u=upd H a u:=by
 funext b; unfold upd; split <;> rfl
theorem uX {H:Hp}{a b:Addr}{o u:HO}(h:H a=some o) (h':H b=some u) (d:o≠u):a≠b:=by
 intro e; subst e; rw [h] at h'; exact d (Option.some.inj h')
theorem ah {H:Hp}{a b:Addr}{o:HO}(h:H a=some o) (h':H b=none):a≠b:=by
 intro e; subst e; rw [h] at h'; cases h'
section
variable (P:Program) (w:World) (K:PySem.W.Frag)
def ObjOk (H:Hp) (h:Heap) (a:Addr):HO->Prop
 | .lst xs=>xs.length<=sizeLine/\∃(its:List Value) (n:Nat),Vals xs its/\h.get? a=some { cls:=.type "list",data:=.seq its.toArray n }
 | .tup xs=>xs.length<=sizeLine/\∃its:List Value,Vals xs its/\IsTup h a its.toArray
 | .dK kvs=>kvs.length<=sizeLine/\(a == sysModules)=false/\∃vs,KV kvs vs/\h.DictOf (aG P w) a vs
 | .dT kvs=>kvs.length<=sizeLine/\(a == sysModules)=false/\∃xs:List (TK×Addr×Value),
   Paired (fun (p:TK×V) (q:TK×Addr×Value)=>p.1=q.1/\TKC K H p.1 (.ref q.2.1)/\p.1.depth<=8/\RelV p.2 q.2.2) kvs xs /\
   ∃o es ep,h.get? a=some o/\o.ExactDict/\o.data=.dict es ep/\es.toList=xs.map (entryOfKey (bR P w))/\(xs.map (·.1)).Nodup
 | .set S n=>h.SetOf (intKind P w) a S n
 | .ins C dx fs=>H dx=some (.own a)/\fs.length<=1000/\dx≠a/\h.get? a=some (PySem.W.instObj C dx) /\
   ∃mA,h.Ns1 dx mA/\(∀f,RelO (fs.lookup f) (mA f))/\PySem.Within mA (fs.map (·.1))
 | .own _=>∃o,h.get? a=some o
 | .xd fs=>∃mA,h.Ns1 a mA/\∀f,RelO (fs.lookup f) (mA f)
 | .rng lo hi=>∃t u v,h.get? a=some { cls:=.type "range",data:=.fields #[.int lo t,.int hi u,.int 1 v] }
 | .frz o u=>h.get? a=some o/\ObjOk H h a u
 | .tbl ps=>h.get? a=some { cls:=.none,data:=.fields ps }
 | .met f x=>h.get? a=some (PySem.W.methodObj (.ref f) (.ref x))
 | .ext φ=>φ h/\(∃o,h.get? a=some o)/\∀h1 h2:Heap,φ h1->(∀o,h1.get? a=some o->h2.get? a=some o)->φ h2
def HOk (H:Hp) (h:Heap):Prop:=∀a o,H a=some o->ObjOk P w K H h a o
end
section
variable {P:Program}{w:World}{K:PySem.W.Frag}{H H':Hp}{h h':Heap}{a:Addr}{o:HO}
theorem ObjOk.lt (x:ObjOk P w K H h a o):a<h.objs.size:=by
 cases o with
 | lst xs=>obtain ⟨_,_,_,_,e⟩:=x; exact Heap.lt_size e
 | tup xs=>obtain ⟨_,_,_,p⟩:=x; exact p.lt
 | dK kvs=>obtain ⟨_,_,_,_,o,_,_,e,_⟩:=x; exact Heap.lt_size e
 | dT kvs=>obtain ⟨_,_,_,_,o,_,_,e,_⟩:=x; exact Heap.lt_size e
 | set S n=>obtain ⟨o,_,_,_,e,_⟩:=x; exact Heap.lt_size e
 | ins C dx fs=>obtain ⟨_,_,_,e,_⟩:=x; exact Heap.lt_size e
 | own y=>obtain ⟨_,e⟩:=x; exact Heap.lt_size e
 | xd fs=>obtain ⟨_,⟨_,_,_,e,_⟩,_⟩:=x; exact Heap.lt_size e
 | rng lo hi=>obtain ⟨_,_,_,e⟩:=x; exact Heap.lt_size e
 | frz ob u=>obtain ⟨e,_⟩:=x; exact Heap.lt_size e
 | tbl ps=>exact Heap.lt_size (show h.get? a=some _ from x)
 | met f y=>exact Heap.lt_size (show h.get? a=some _ from x)
 | ext φ=>obtain ⟨_,⟨_,e⟩,_⟩:=x; exact Heap.lt_size e
theorem Paired.mapP {α β:Type}{F G:α->β->Prop}:∀{l₁:List α}{l₂:List β},Paired F l₁ l₂->(∀a b,F a b->G a b)->Paired G l₁ l₂
 | _,_,.nil,_=>.nil
 | _,_,.cons r t,f=>.cons (f _ _ r) (Paired.mapP t f)
theorem ObjOk.stay (x:ObjOk P w K H h a o) (k:∀b u,(b=a∨H b=some (.own a))->h.get? b=some u->h'.get? b=some u)
  (ho:∀b,H b=some (.own a)->H' b=some (.own a)) (ht:∀b xs,H b=some (.tup xs)->H' b=some (.tup xs)):ObjOk P w K H' h' a o:=by
 induction o with
 | lst xs=>obtain ⟨z,its,n,r,e⟩:=x; exact ⟨z,its,n,r,k _ _ (.inl rfl) e⟩
 | tup xs=>obtain ⟨z,its,r,ob,e,c⟩:=x; exact ⟨z,its,r,ob,k _ _ (.inl rfl) e,c⟩
 | dK kvs=>obtain ⟨z,y,vs,r,ob,es,ep,e,c⟩:=x; exact ⟨z,y,vs,r,ob,es,ep,k _ _ (.inl rfl) e,c⟩
 | dT kvs =>
  obtain ⟨z,y,xs,r,ob,es,ep,e,c⟩:=x
  exact ⟨z,y,xs,Paired.mapP r fun p q z=>⟨z.1,TKC.keeps ht 8 z.2.2.1 z.2.1,z.2.2⟩,ob,es,ep,k _ _ (.inl rfl) e,c⟩
 | set S n=>obtain ⟨ob,es,ep,t,e,c⟩:=x; exact ⟨ob,es,ep,t,k _ _ (.inl rfl) e,c⟩
 | ins C dx fs =>
  obtain ⟨d,z,ne,e,mA,⟨od,es,ep,e2,c⟩,r⟩:=x
  exact ⟨ho _ d,z,ne,k _ _ (.inl rfl) e,mA,⟨od,es,ep,k _ _ (.inr d) e2,c⟩,r⟩
 | own y=>obtain ⟨ob,e⟩:=x; exact ⟨ob,k _ _ (.inl rfl) e⟩
 | xd fs=>obtain ⟨mA,⟨od,es,ep,e,c⟩,r⟩:=x; exact ⟨mA,⟨od,es,ep,k _ _ (.inl rfl) e,c⟩,r⟩
 | rng lo hi=>obtain ⟨t,u,v,e⟩:=x; exact ⟨t,u,v,k _ _ (.inl rfl) e⟩
 | frz ob u ih=>obtain ⟨e,q⟩:=x; exact ⟨k _ _ (.inl rfl) e,ih q⟩
 | tbl ps =>
  have e:h.get? a=some { cls:=.none,data:=.fields ps }:=x
  show h'.get? a=some { cls:=.none,data:=.fields ps }
  exact k a _ (.inl rfl) e
 | met f y =>
  have e:h.get? a=some (PySem.W.methodObj (.ref f) (.ref y)):=x
  show h'.get? a=some (PySem.W.methodObj (.ref f) (.ref y))
  exact k a _ (.inl rfl) e
 | ext φ=>obtain ⟨p,⟨o,e⟩,st⟩:=x; exact ⟨st _ _ p fun o q=>k _ _ (.inl rfl) q,⟨o,k _ _ (.inl rfl) e⟩,st⟩
theorem HOk.lt (x:HOk P w K H h) (e:H a=some o):a<h.objs.size:=(x a o e).lt
theorem HOk.fresh (x:HOk P w K H h) (e:h.objs.size<=a):H a=none:=by
 cases q:H a with
 | none=>rfl
 | some u=>exact absurd (Nat.lt_of_lt_of_le (x.lt q) e) (Nat.lt_irrefl _)
theorem HOk.kept (x:HOk P w K H h) (k:∀b u,h.get? b=some u->h'.get? b=some u):HOk P w K H h':=fun a o e =>
 (x a o e).stay (fun b u _ q=>k b u q) (fun _ q=>q) fun _ _ q=>q
theorem HOk.laid (x:HOk P w K H h) (k:∀b u,h.get? b=some u->h'.get? b=some u) (hp:h.objs.size<=a) (new:ObjOk P w K (upd H a o) h' a o):HOk P w K (upd H a o) h':=fun b u e=>by
 have hn:=x.fresh hp
 by_cases hb:b=a
 ·subst hb; rw [aa] at e; cases e; exact new
 ·rw [aj hb] at e
  exact (x b u e).stay (fun c v _ q=>k c v q) (fun c q=>by rw [aj (ah q hn)]; exact q) fun c xs q=>by rw [aj (ah q hn)]; exact q
end
def Rd (H:Hp) (a:Addr) (u:HO):Prop:=H a=some u∨∃o,H a=some (.frz o u)
theorem Rd.ok {P:Program}{w:World}{K:PySem.W.Frag}{H:Hp}{h:Heap}{a:Addr}{u:HO}(r:Rd H a u) (x:HOk P w K H h):ObjOk P w K H h a u:=by
 rcases r with r | ⟨o,r⟩
 ·exact x a u r
 ·obtain ⟨_,q⟩:=x a _ r
  exact q
def Mut:Option HO->Prop
 | some (.lst _)=>True
 | some (.dK _)=>True
 | some (.dT _)=>True
 | some (.set _ _)=>True
 | some (.ins _ _ _)=>True
 | some (.ext _)=>True
 | _=>False
section
variable {P:Program}{w:World}{K:PySem.W.Frag}{H:Hp}{h h':Heap}{x e:Addr}{o':HO}
theorem HOk.write (ok:HOk P w K H h) (mu:Mut (H x)) (he:e=x∨H e=some (.own x)) (k:∀b u,b≠e->h.get? b=some u->h'.get? b=some u) (heo:∃u,h'.get? e=some u)
  (new:ObjOk P w K (upd H x o') h' x o'):HOk P w K (upd H x o') h':=fun b u q=>by
 have nown:∀c y,H c=some (.own y)->c≠x:=fun c y r z=>by subst z; rw [r] at mu; exact mu
 have ntup:∀c xs,H c=some (.tup xs)->c≠x:=fun c xs r z=>by subst z; rw [r] at mu; exact mu
 by_cases hb:b=x
 ·subst hb; rw [aa] at q; cases q; exact new
 ·rw [aj hb] at q
  by_cases hbe:b=e
  ·have q':H b=some (.own x):=by
    rcases he with z | z
    ·exact absurd (hbe.trans z) hb
    ·rw [hbe]; exact z
   rw [q] at q'; cases q'
   obtain ⟨v,hv⟩:=heo
   exact ⟨v,by rw [hbe]; exact hv⟩
  ·refine (ok b u q).stay (fun c v hc r=>k c v ?_ r) (fun c r=>by rw [aj (nown c b r)]; exact r) fun c xs r=>by rw [aj (ntup c xs r)]; exact r
   rcases hc with rfl | hc
   ·exact hbe
   ·rintro rfl
    rcases he with z | z
    ·exact nown c b hc z
    ·rw [hc] at z; cases z; exact hb rfl
end
structure Un (fs ex:List Addr) (H H':Hp) (h h':Heap):Prop where
 keep:∀b o,h.get? b=some o->H b=none->b∉fs->b∉ex->h'.get? b=some o
 slot:∀b o,h.get? b=some o->H b=none->b∈fs->b∉ex->∃sl,h'.get? b=some { o with slots:=sl }
 free:∀b o,h.get? b=some o->H b=none->b∉ex->H' b=none
 there:∀b o,h.get? b=some o->b∉ex->∃o',h'.get? b=some o'
 tups:∀b xs,H b=some (.tup xs)->H' b=some (.tup xs)
 frzs:∀b o u,H b=some (.frz o u)->H' b=some (.frz o u)
 tbls:∀b ps,H b=some (.tbl ps)->∃more,H' b=some (.tbl (ps++more))
section
variable {fs fs' ex ex':List Addr}{H H1 H2:Hp}{h h1 h2 h':Heap}{a x e:Addr}{o:HO}
theorem Un.any (u:Un fs ex H H1 h h1) {b:Addr}{ob:Obj}(q:h.get? b=some ob) (n:H b=none) (hx:b∉ex):∃sl,h1.get? b=some { ob with slots:=sl }:=by
 by_cases hb:b∈fs
 ·exact u.slot b ob q n hb hx
 ·exact ⟨ob.slots,u.keep b ob q n hb hx⟩
theorem Un.kept (k:∀b u,h.get? b=some u->h'.get? b=some u):Un fs ex H H h h' :=
 ⟨fun b ob q _ _ _=>k b ob q,fun b ob q _ _ _=>⟨ob.slots,k b ob q⟩,fun _ _ _ n _=>n,fun b ob q _=>⟨ob,k b ob q⟩,fun _ _ q=>q,fun _ _ _ q=>q,fun _ ps q=>⟨#[],by rw [q]; simp⟩⟩
theorem Un.refl:Un fs ex H H h h:=Un.kept fun _ _ q=>q
theorem Un.laid (k:∀b u,h.get? b=some u->h'.get? b=some u) (hp:h.objs.size<=a) (hn:H a=none):Un fs ex H (upd H a o) h h' where
 keep:=fun b u q _ _ _=>k b u q
 slot:=fun b u q _ _ _=>⟨u.slots,k b u q⟩
 free:=fun b u q n _=>by rw [aj (Nat.ne_of_lt (Nat.lt_of_lt_of_le (Heap.lt_size q) hp))]; exact n
 there:=fun b u q _=>⟨u,k b u q⟩
 tups:=fun b xs q=>by rw [aj (ah q hn)]; exact q
 frzs:=fun b u xs q=>by rw [aj (ah q hn)]; exact q
 tbls:=fun b ps q=>⟨#[],by rw [aj (ah q hn),q]; simp⟩
theorem Un.write (mu:Mut (H x)) (he:e=x∨H e=some (.own x)) (k:∀b u,b≠e->h.get? b=some u->h'.get? b=some u) (heo:∃u,h'.get? e=some u):Un fs ex H (upd H x o) h h':=by
 have hx:∀b,H b=none->b≠x:=fun b n z=>by subst z; rw [n] at mu; exact mu
 have hb:∀b,H b=none->b≠e:=fun b n z=>by
  subst z
  rcases he with r | r
  ·exact hx b n r
  ·rw [n] at r; cases r
 have hm:∀b u,H b=some u->¬Mut (some u)->b≠x:=fun b u q nm z=>by subst z; rw [q] at mu; exact nm mu
 refine ⟨fun b u q n _ _=>k b u (hb b n) q,fun b u q n _ _=>⟨u.slots,k b u (hb b n) q⟩,fun b u q n _=>by rw [aj (hx b n)]; exact n,fun b u q _=>?_,
  fun b xs q=>by rw [aj (hm b _ q fun z=>z)]; exact q,fun b u xs q=>by rw [aj (hm b _ q fun z=>z)]; exact q,fun b ps q=>⟨#[],by rw [aj (hm b _ q fun z=>z),q]; simp⟩⟩
 by_cases hbe:b=e
 ·subst hbe; exact heo
 ·exact ⟨u,k b u hbe q⟩
end
def trk (h:Heap) (H:Hp):List Addr:=(List.range h.objs.size).filter fun a=>(H a).isSome
def rN (h:Heap) (H:Hp):Heap:=PySem.W.hideAll h (trk h H)
theorem pQ (h:Heap) (H:Hp):(rN h H).objs.size=h.objs.size:=PySem.W.hideAll_size _ _
theorem rM {h:Heap}{H:Hp}{b:Addr}{o:Obj}(e:h.get? b=some o) (n:H b=none):(rN h H).get? b=some o :=
 PySem.W.hideAll_get _ e fun hm=>by
  have q:(H b).isSome=true:=(List.mem_filter.mp hm).2
  rw [n] at q; simp at q
theorem t5 {h:Heap}{H:Hp}{b:Addr}{o:Obj}(e:(rN h H).get? b=some o):h.get? b=some o/\H b=none:=by
 have e':h.get? b=some o:=PySem.W.of_hideAll (trk h H) e
 refine ⟨e',?_⟩
 cases q:H b with
 | none=>rfl
 | some x =>
  have hm:b∈trk h H:=List.mem_filter.mpr ⟨List.mem_range.mpr (Heap.lt_size e'),by simp [q]⟩
  have z:(rN h H).get? b=none:=PySem.W.hideAll_none (trk h H) hm
  rw [z] at e; cases e
def uj (g h:Heap) (L:Addr):List (Addr×Obj):=(List.range h.objs.size).filterMap fun a=>if a=L∨(g.get? a).isSome=true then none else (h.get? a).map fun o=>(a,o)
def rest (g h:Heap) (L d:Addr):List (Addr×Obj):=(uj g h L).filter fun p=>decide (p.1≠d)
end L2
namespace L2
open PySem PySem.Spec PyProof.Rows
structure Mod (K:PySem.W.Frag) (mg:Str->Option Value) (base:Heap):Prop where
 kin:K.In base
 glob:base.Ns mainGlobals mg
 blt:∃mb,base.Ns builtinsNs mb/\∀x:Str,x≠"__name__"->mb x=bootBuiltins x
 nolimit:base.NoLimit
structure Cx where
 prog:Program
 w:World
 K:PySem.W.Frag
 mg:Str->Option Value
 base:Heap
 A:Around
 N:List Str
 s₀:Shared
 H₀:Hp
 env:Env
 outer:List Env
 stack:List Env
 ex:List Addr
 fn:Str->Bool
 calm:Bool
 pn:List (Addr×Obj)
 xe:Value->Shared->Prop
def frs (l:List Env):List Addr:=l.filterMap (·.frame)
abbrev Cx.fs (X:Cx):List Addr:=frs X.outer
def Vis (sc:Scope) (x:Str):Prop:=sc.names.lookup x=some .local∨sc.names.lookup x=some .cell∨sc.names.lookup x=some .free
def Loc (sc:Scope) (x:Str):Prop:=sc.names.lookup x=some .local∨sc.names.lookup x=some .cell
def wC (env:Env) (h:Heap) (m:Str->Option Value) (x:Str) (u:Value):Prop :=
 (env.kindOf x=some .local/\m x=some u)∨((env.kindOf x=some .cell∨env.kindOf x=some .free)/\∃c,env.cells.lookup x=some c/\h.IsCell c (some u))
structure Cx.Ok (X:Cx):Prop where
 mod:Mod X.K X.mg X.base
 kind:X.env.scope.kind=.function
 glob:X.env.globals=mainGlobals
 blt:X.env.builtins=builtinsNs
 above:X.s₀.heap.objs.size<=X.env.locals
 inj:∀x y c,X.env.cells.lookup x=some c->X.env.cells.lookup y=some c->x=y
 has:∀x,(X.env.kindOf x=some .cell∨X.env.kindOf x=some .free)->∃c,X.env.cells.lookup x=some c
 cab:∀x c,X.fn x=true->X.env.cells.lookup x=some c->X.s₀.heap.objs.size<=c
 hd:X.calm=true->X.A.handled=none
 frames:X.A.frames=some X.stack
 stk:X.stack=X.outer∨(X.stack=X.env::X.outer/\X.env.frame=some X.env.locals)
 exf:∀b∈X.ex,b≠X.env.locals/\∀x c,X.env.cells.lookup x=some c->c≠b
 bs:∀b o,X.base.get? b=some o->X.s₀.heap.get? b=some o/\X.H₀ b=none
 bsz:X.base.objs.size<=X.s₀.heap.objs.size
 noex:∀b o,X.base.get? b=some o->b∉X.ex
 exfs:∀b∈X.ex,b∉X.fs
 funs:X.s₀.heap.FunFrames X.base X.outer
 frf:∀b∈X.fs,X.H₀ b=none
structure Inv (X:Cx) (pins:List (Addr×Obj)) (σ:List (Option V)) (H:Hp) (s:Shared):Prop where
 ok:X.Ok
 os:s.os=X.s₀.os
 bare:AllBare s.gens
 base:Un X.fs X.ex X.H₀ H X.s₀.heap s.heap
 loc:∃m,s.heap.Ns X.env.locals m/\∀(i:Nat) (x:Str) (v:V),X.N[i]?=some x->σ[i]?=some (some v)->Vis X.env.scope x->∃u,RelV v u/\wC X.env s.heap m x u
 cell:∀x c,X.env.cells.lookup x=some c->∃v,s.heap.IsCell c v
 free:H X.env.locals=none
 freeC:∀x c,X.env.cells.lookup x=some c->H c=none
 pin:∀p∈X.pn++pins,s.heap.get? p.1=some p.2/\H p.1=none/\p.1≠X.env.locals/\p.1∉X.fs/\∀v,p.2.data≠.cell v
 hok:HOk X.prog X.w X.K H s.heap
 len:σ.length=X.N.length
section
variable {X:Cx}{pins:List (Addr×Obj)}{σ:List (Option V)}{H H':Hp}{s:Shared}{h':Heap}
theorem Cx.Ok.nofr (ok:X.Ok) {b:Addr}{o:Obj}(e:X.base.get? b=some o):b∉X.fs:=fun hb=>by
 have:=(ok.funs.mem hb).1
 rw [e] at this; cases this
theorem Inv.bs (I:Inv X pins σ H s):∀b o,X.base.get? b=some o->s.heap.get? b=some o/\H b=none:=fun b o e =>
 ⟨I.base.keep b o (I.ok.bs b o e).1 (I.ok.bs b o e).2 (I.ok.nofr e) (I.ok.noex b o e),I.base.free b o (I.ok.bs b o e).1 (I.ok.bs b o e).2 (I.ok.noex b o e)⟩
theorem Inv.bk (I:Inv X pins σ H s):∀b o,X.base.get? b=some o->s.heap.get? b=some o:=fun b o e=>(I.bs b o e).1
theorem Inv.mod (I:Inv X pins σ H s):Mod X.K X.mg X.base:=I.ok.mod
theorem Inv.kIn (I:Inv X pins σ H s):X.K.In s.heap:=I.ok.mod.kin.keeps I.bk
theorem Inv.fr (I:Inv X pins σ H s):∃m,Fr X.base X.env.locals s.heap m :=
 let ⟨m,hn,_⟩:=I.loc
 ⟨m,hn,I.bk,Nat.le_trans I.ok.bsz I.ok.above⟩
theorem Inv.lt (I:Inv X pins σ H s):X.env.locals<s.heap.objs.size:=let ⟨_,hn,_⟩:=I.loc; hn.lt
theorem Inv.sz (I:Inv X pins σ H s):X.s₀.heap.objs.size<=s.heap.objs.size:=Nat.le_trans I.ok.above (Nat.le_of_lt I.lt)
theorem Inv.nofs (I:Inv X pins σ H s) {a:Addr}(h:s.heap.objs.size<=a):a∉X.fs:=fun hb=>by
 obtain ⟨_,o,ho,_⟩:=I.ok.funs.mem hb
 exact absurd (Nat.lt_of_lt_of_le (Heap.lt_size ho) (Nat.le_trans I.sz h)) (Nat.lt_irrefl _)
theorem Inv.cne (I:Inv X pins σ H s):∀x c,X.env.cells.lookup x=some c->c≠X.env.locals:=fun x c e z=>by
 obtain ⟨v,o,ho,hd⟩:=I.cell x c e
 obtain ⟨m,⟨o',es,ep,ho',hd',_⟩,_⟩:=I.loc
 rw [z,ho'] at ho; cases ho; rw [hd'] at hd; cases hd
theorem Inv.funs (I:Inv X pins σ H s):s.heap.FunFrames X.base X.outer:=by
 have all:∀(l:List Env),(∀b∈frs l,b∈X.fs)->X.s₀.heap.FunFrames X.base l->s.heap.FunFrames X.base l:=by
  intro l
  induction l with
  | nil=>intro _ _; trivial
  | cons env r ih =>
   intro hs hl
   obtain ⟨hk,⟨L,o,hf,hn,ho,hd⟩,hr⟩:=hl
   have hL:L∈X.fs:=hs L (by unfold frs; rw [List.filterMap_cons,hf]; exact List.mem_cons_self)
   obtain ⟨sl,e⟩:=I.base.slot L o ho (I.ok.frf L hL) hL fun z=>I.ok.exfs L z hL
   exact ⟨hk,⟨L,_,hf,hn,e,hd⟩,ih (fun b hb=>hs b (by unfold frs; rw [List.filterMap_cons,hf]; exact List.mem_cons_of_mem _ hb)) hr⟩
 exact all X.outer (fun _ hb=>hb) I.ok.funs
theorem Inv.stack (I:Inv X pins σ H s):s.heap.FunFrames X.base X.stack:=by
 rcases I.ok.stk with e | ⟨e,hf⟩
 ·rw [e]; exact I.funs
 ·rw [e]
  obtain ⟨m,hn,_⟩:=I.loc
  refine .cons (by rw [I.ok.kind]; decide) hf hn ?_ I.funs
  exact Heap.get?_none_of_le (Nat.le_trans I.ok.bsz I.ok.above)
theorem Inv.stkSub (I:Inv X pins σ H s):∀b∈frs X.stack,b∈X.env.locals::X.fs:=fun b hb=>by
 rcases I.ok.stk with e | ⟨e,hf⟩
 ·rw [e] at hb; exact List.mem_cons_of_mem _ hb
 ·rw [e] at hb
  unfold frs at hb
  rw [List.filterMap_cons,hf] at hb
  exact hb
theorem Inv.stkFree (I:Inv X pins σ H s):∀b∈frs X.stack,H b=none:=fun b hb=>by
 rcases List.mem_cons.mp (I.stkSub b hb) with e | hb
 ·rw [e]; exact I.free
 ·obtain ⟨_,o,ho,_⟩:=I.ok.funs.mem hb
  exact I.base.free b o ho (I.ok.frf b hb) fun z=>I.ok.exfs b z hb
theorem Inv.step {g':Array GenState}{t':Nat}{d':Drawn}{ch:List Addr}(I:Inv X pins σ H s)
  (hch:∀b∈ch,(b∈X.ex∨X.s₀.heap.objs.size<=b)/\b≠X.env.locals/\(∀x c,X.env.cells.lookup x=some c->c≠b)/\∀p∈X.pn++pins,p.1≠b)
  (keep:∀b o,b≠X.env.locals->b∉X.fs->b∉ch->s.heap.get? b=some o->H b=none->h'.get? b=some o)
  (slot:∀b o,b≠X.env.locals->b∈X.fs->b∉ch->s.heap.get? b=some o->H b=none->∃sl,h'.get? b=some { o with slots:=sl }) (free:∀b o,b∉ch->s.heap.get? b=some o->H b=none->H' b=none)
  (there:∀b o,b∉ch->s.heap.get? b=some o->∃o',h'.get? b=some o')
  (tups:∀b xs,H b=some (.tup xs)->H' b=some (.tup xs)) (frzs:∀b o u,H b=some (.frz o u)->H' b=some (.frz o u)) (tbls:∀b ps,H b=some (.tbl ps)->∃more,H' b=some (.tbl (ps++more)))
  (ns:∀m,s.heap.Ns X.env.locals m->h'.Ns X.env.locals m) (hok:HOk X.prog X.w X.K H' h') (hg:AllBare g') :
  Inv X pins σ H' { s with heap:=h',gens:=g',drawn:=d',toks:=t' }:=by
 have neL:∀b o,X.s₀.heap.get? b=some o->b≠X.env.locals:=fun b o e=>Nat.ne_of_lt (Nat.lt_of_lt_of_le (Heap.lt_size e) I.ok.above)
 have neC:∀b o,X.s₀.heap.get? b=some o->b∉X.ex->b∉ch:=fun b o e hx hb=>by
  rcases (hch b hb).1 with z | z
  ·exact hx z
  ·exact absurd (Nat.lt_of_lt_of_le (Heap.lt_size e) z) (Nat.lt_irrefl _)
 have cellK:∀x c,X.env.cells.lookup x=some c->∀v,s.heap.IsCell c v->h'.IsCell c v:=fun x c e v ⟨o,ho,hd⟩=>by
  have nch:c∉ch:=fun z=>(hch c z).2.2.1 x c e rfl
  by_cases hc:c∈X.fs
  ·obtain ⟨sl,q⟩:=slot c o (I.cne x c e) hc nch ho (I.freeC x c e)
   exact ⟨_,q,hd⟩
  ·exact ⟨o,keep c o (I.cne x c e) hc nch ho (I.freeC x c e),hd⟩
 refine ⟨I.ok,I.os,hg,⟨fun b o e n hb hx=>?_,fun b o e n hb hx=>?_,fun b o e n hx=>?_,fun b o e hx=>?_,fun b xs e=>tups b xs (I.base.tups b xs e),fun b o xs e=>frzs b o xs (I.base.frzs b o xs e),fun b ps e=>?_⟩,?_,fun x c e=>?_,?_,fun x c e=>?_,fun p hp=>?_,hok,I.len⟩
 ·exact keep b o (neL b o e) hb (neC b o e hx) (I.base.keep b o e n hb hx) (I.base.free b o e n hx)
 ·obtain ⟨sl,e1⟩:=I.base.slot b o e n hb hx
  obtain ⟨sl',e2⟩:=slot b _ (neL b o e) hb (neC b o e hx) e1 (I.base.free b o e n hx)
  exact ⟨sl',e2⟩
 ·obtain ⟨o',e1⟩:=I.base.there b o e hx
  exact free b o' (neC b o e hx) e1 (I.base.free b o e n hx)
 ·obtain ⟨o',e1⟩:=I.base.there b o e hx
  exact there b o' (neC b o e hx) e1
 ·obtain ⟨m1,e1⟩:=I.base.tbls b ps e
  obtain ⟨m2,e2⟩:=tbls b _ e1
  exact ⟨m1++m2,by rw [e2,Array.append_assoc]⟩
 ·obtain ⟨m,hn,hl⟩:=I.loc
  refine ⟨m,ns m hn,fun i x v e1 e2 e3=>?_⟩
  obtain ⟨u,r,l⟩:=hl i x v e1 e2 e3
  refine ⟨u,r,?_⟩
  rcases l with l | ⟨k,c,e,z⟩
  ·exact .inl l
  ·exact .inr ⟨k,c,e,cellK x c e _ z⟩
 ·obtain ⟨v,z⟩:=I.cell x c e
  exact ⟨v,cellK x c e v z⟩
 ·obtain ⟨m,⟨o,_,_,ho,_⟩,_⟩:=I.loc
  exact free _ o (fun z=>(hch _ z).2.1 rfl) ho I.free
 ·obtain ⟨v,o,ho,hd⟩:=I.cell x c e
  exact free c o (fun z=>(hch c z).2.2.1 x c e rfl) ho (I.freeC x c e)
 ·obtain ⟨e,n,ne,nf,d⟩:=I.pin p hp
  have nch:p.1∉ch:=fun z=>(hch p.1 z).2.2.2 p hp rfl
  exact ⟨keep p.1 p.2 ne nf nch e n,free p.1 p.2 nch e n,ne,nf,d⟩
theorem Inv.un {t':Nat}(I:Inv X pins σ H s) (u:Un X.fs [] H H' s.heap h') (hok:HOk X.prog X.w X.K H' h'):Inv X pins σ H' { s with heap:=h',toks:=t' }:=by
 obtain ⟨m,⟨o,es,ep,ho,r⟩,_⟩:=id I.loc
 obtain ⟨sl,hL⟩:=u.any ho I.free (by simp)
 exact I.step (g':=s.gens) (d':=s.drawn) (ch:=[]) (fun _ z=>nomatch z) (fun b o _ hb _ e n=>u.keep b o e n hb (by simp)) (fun b o _ hb _ e n=>u.slot b o e n hb (by simp)) (fun b o _ e n=>u.free b o e n (by simp)) (fun b o _ e=>u.there b o e (by simp)) u.tups u.frzs u.tbls (fun m' hm=>by
  obtain ⟨o',es',ep',ho',r'⟩:=hm
  rw [ho] at ho'; cases ho'
  exact ⟨_,es',ep',hL,r'⟩) hok I.bare
theorem Inv.call {g':Array GenState}{t':Nat}{d':Drawn}{ch:List Addr}(I:Inv X pins σ H s) (u:Un (frs X.stack) ch H H' s.heap h') (hok:HOk X.prog X.w X.K H' h') (hg:AllBare g')
  (hch:∀b∈ch,(b∈X.ex∨X.s₀.heap.objs.size<=b)/\b≠X.env.locals/\(∀x c,X.env.cells.lookup x=some c->c≠b)/\∀p∈X.pn++pins,p.1≠b) :
  Inv X pins σ H' { s with heap:=h',gens:=g',drawn:=d',toks:=t' }:=by
 obtain ⟨m,⟨o,es,ep,ho,r⟩,_⟩:=id I.loc
 obtain ⟨sl,hL⟩:=u.any ho I.free fun z=>(hch _ z).2.1 rfl
 exact I.step (ch:=ch) hch (fun b o hL hb hc e n=>u.keep b o e n (fun z=>(List.mem_cons.mp (I.stkSub b z)).elim hL hb) hc) (fun b o _ _ hc e n=>u.any e n hc) (fun b o hc e n=>u.free b o e n hc) (fun b o hc e=>u.there b o e hc) u.tups u.frzs u.tbls (fun m' hm=>by
  obtain ⟨o',es',ep',ho',r'⟩:=hm
  rw [ho] at ho'; cases ho'
  exact ⟨_,es',ep',hL,r'⟩) hok hg
theorem Inv.turned {t':Nat}{it:Addr}(I:Inv X pins σ H s) (k:∀b o,b≠it->s.heap.get? b=some o->h'.get? b=some o) (hn:H it=none) (hL:it≠X.env.locals)
  (h1:it∈X.ex∨X.s₀.heap.objs.size<=it) (h2:∀x c,X.env.cells.lookup x=some c->c≠it) (h3:∀p∈X.pn++pins,p.1≠it):Inv X pins σ H { s with heap:=h',toks:=t' }:=by
 have nit:∀b u,H b=some u->b≠it:=fun b u e z=>by rw [z,hn] at e; cases e
 refine I.step (g':=s.gens) (d':=s.drawn) (ch:=[it]) (fun b hb=>?_) (fun b o _ _ hc e _=>k b o (fun z=>hc (by simp [z])) e) (fun b o _ _ hc e _=>⟨o.slots,k b o (fun z=>hc (by simp [z])) e⟩) (fun _ _ _ _ n=>n)
  (fun b o hc e=>⟨o,k b o (fun z=>hc (by simp [z])) e⟩) (fun _ _ e=>e) (fun _ _ _ e=>e) (fun b ps e=>⟨#[],by rw [e]; simp⟩) (fun m hm=>?_) (fun b u e=>?_) I.bare
 ·have e:b=it:=by simpa using hb
  subst e
  exact ⟨h1,hL,h2,h3⟩
 ·obtain ⟨o,es,ep,ho,r⟩:=hm
  exact ⟨o,es,ep,k _ o (Ne.symm hL) ho,r⟩
 ·refine (I.hok b u e).stay (fun c v hc q=>k c v ?_ q) (fun _ q=>q) fun _ _ q=>q
  rcases hc with z | z
  ·rw [z]; exact nit b u e
  ·exact nit c _ z
theorem Inv.tok (I:Inv X pins σ H s) (t:Nat):Inv X pins σ H { s with toks:=t }:=I.un (h':=s.heap) (t':=t) Un.refl I.hok
theorem Inv.kept {t':Nat}(I:Inv X pins σ H s) (k:∀b u,s.heap.get? b=some u->h'.get? b=some u):Inv X pins σ H { s with heap:=h',toks:=t' }:=I.un (Un.kept k) (I.hok.kept k)
theorem Inv.laid {a:Addr}{o:HO}{t':Nat}(I:Inv X pins σ H s) (k:∀b u,s.heap.get? b=some u->h'.get? b=some u) (hp:s.heap.objs.size<=a) (new:ObjOk X.prog X.w X.K (upd H a o) h' a o) :
  Inv X pins σ (upd H a o) { s with heap:=h',toks:=t' }:=I.un (Un.laid k hp (I.hok.fresh hp)) (I.hok.laid k hp new)
theorem Inv.write {x e:Addr}{o:HO}{t':Nat}(I:Inv X pins σ H s) (mu:Mut (H x)) (he:e=x∨H e=some (.own x)) (k:∀b u,b≠e->s.heap.get? b=some u->h'.get? b=some u) (heo:∃u,h'.get? e=some u)
  (new:ObjOk X.prog X.w X.K (upd H x o) h' x o):Inv X pins σ (upd H x o) { s with heap:=h',toks:=t' }:=I.un (Un.write mu he k heo) (I.hok.write mu he k heo new)
theorem Inv.weak {σ':List (Option V)}(I:Inv X pins σ H s) (hl:σ'.length=σ.length) (w:∀(i:Nat) v,σ'[i]?=some (some v)->σ[i]?=some (some v)):Inv X pins σ' H s :=
 ⟨I.ok,I.os,I.bare,I.base,let ⟨m,hn,hl'⟩:=I.loc; ⟨m,hn,fun i x v e1 e2 e3=>hl' i x v e1 (w i v e2) e3⟩,I.cell,I.free,I.freeC,I.pin,I.hok,hl.trans I.len⟩
theorem Inv.pins_of {pins':List (Addr×Obj)}(I:Inv X pins σ H s) (h:∀p∈pins',s.heap.get? p.1=some p.2/\H p.1=none/\p.1≠X.env.locals/\p.1∉X.fs/\∀v,p.2.data≠.cell v):Inv X pins' σ H s :=
 ⟨I.ok,I.os,I.bare,I.base,I.loc,I.cell,I.free,I.freeC,fun p hp=>(List.mem_append.mp hp).elim (fun z=>I.pin p (List.mem_append_left _ z)) (h p),I.hok,I.len⟩
theorem jH {N:List Str}(hN:N.Nodup) {i j:Nat}{x:Str}(a:N[i]?=some x) (b:N[j]?=some x):i=j:=by
 obtain ⟨h1,e1⟩:=List.getElem?_eq_some_iff.mp a
 obtain ⟨h2,e2⟩:=List.getElem?_eq_some_iff.mp b
 exact (List.getElem_inj hN).mp (e1.trans e2.symm)
theorem oG {M:Model}{A:Around}{E:Value->Shared->Prop}{i:Nat}{x:Str}{v:V}{u:Value}{Q:Unit->Shared->Prop}(I:Inv X pins σ H s) (hN:X.N.Nodup) (hi:X.N[i]?=some x) (hx:Loc X.env.scope x) (r:RelV v u)
  (h:∀s',Inv X pins (σ.set i (some v)) H s'->(∃a,Heap.SameBut a s.heap s'.heap/\(a=X.env.locals∨X.env.cells.lookup x=some a))->Q () s') (hf:X.fn x=true∨X.env.scope.names.lookup x=some .local:=by first | exact .inl rfl | exact .inr rfl | assumption):wpAny M A (storeName X.env x u) Q E s:=by
 obtain ⟨m,hn,hl⟩:=id I.loc
 have hcls:(X.env.scope.kind == .class || (X.env.scope.kind == .module && X.env.locals != X.env.globals))=false:=by rw [I.ok.kind]; rfl
 have hiσ:i<σ.length:=by rw [I.len]; exact (List.getElem?_eq_some_iff.mp hi).1
 have cne:=I.cne
 have tracked:∀{a:Addr}{h':Heap},(∃o,s.heap.get? a=some o/\H a=none)->Heap.SameBut a s.heap h'->HOk X.prog X.w X.K H h':=fun {a h'} ha hs b ob e=>by
  obtain ⟨_,_,hfree⟩:=ha
  refine (I.hok b ob e).stay (fun c w' hc q=>(hs.2 c ?_).trans q) (fun _ q=>q) fun _ _ q=>q
  rintro rfl
  rcases hc with rfl | hc
  ·rw [hfree] at e; cases e
  ·rw [hfree] at hc; cases hc
 rcases hx with hk | hk
 ·refine wpAny_storeName_local hk hn (fun h' hn' hs=>?_) hcls
  obtain ⟨oL,_,_,hoL,_⟩:=id hn
  refine h _ ⟨I.ok,I.os,I.bare,⟨fun b o e n hb hx=>?_,fun b o e n hb hx=>?_,I.base.free,fun b o e hx=>?_,I.base.tups,I.base.frzs,I.base.tbls⟩,⟨_,hn',fun j y v' e1 e2 e3=>?_⟩,fun y c e=>?_,I.free,I.freeC,fun p hp=>?_,tracked ⟨oL,hoL,I.free⟩ hs,by simpa using I.len⟩ ⟨_,hs,.inl rfl⟩
  ·exact (hs.2 b (Nat.ne_of_lt (Nat.lt_of_lt_of_le (Heap.lt_size e) I.ok.above))).trans (I.base.keep b o e n hb hx)
  ·obtain ⟨sl,e1⟩:=I.base.slot b o e n hb hx
   exact ⟨sl,(hs.2 b (Nat.ne_of_lt (Nat.lt_of_lt_of_le (Heap.lt_size e) I.ok.above))).trans e1⟩
  ·obtain ⟨o',e1⟩:=I.base.there b o e hx
   exact ⟨o',(hs.2 b (Nat.ne_of_lt (Nat.lt_of_lt_of_le (Heap.lt_size e) I.ok.above))).trans e1⟩
  ·by_cases hj:j=i
   ·subst hj
    rw [hi] at e1; cases e1
    rw [List.getElem?_set_self hiσ] at e2
    cases e2
    exact ⟨u,r,.inl ⟨hk,by simp⟩⟩
   ·rw [List.getElem?_set_ne (Ne.symm hj)] at e2
    obtain ⟨u',r',q⟩:=hl j y v' e1 e2 e3
    refine ⟨u',r',?_⟩
    rcases q with ⟨k,e⟩ | ⟨k,c,e,z⟩
    ·refine .inl ⟨k,?_⟩
     have:y≠x:=fun e=>hj (jH hN e1 (e ▸ hi))
     simp [this,e]
    ·exact .inr ⟨k,c,e,z.sameBut hs (cne y c e)⟩
  ·obtain ⟨w',z⟩:=I.cell y c e
   exact ⟨w',z.sameBut hs (cne y c e)⟩
  ·obtain ⟨e,n,ne,nf,d⟩:=I.pin p hp
   exact ⟨(hs.2 p.1 ne).trans e,n,ne,nf,d⟩
 ·have hfn:X.fn x=true:=by
   rcases hf with z | z
   ·exact z
   ·rw [z] at hk; cases hk
  obtain ⟨c,hc⟩:=I.ok.has x (.inl hk)
  obtain ⟨w',z⟩:=I.cell x c hc
  refine wpAny_storeName_cell I.ok.kind hk hc z (fun h' hc' hs=>?_)
  obtain ⟨oc,hoc,hocd⟩:=id z
  refine h { s with heap:=h' } ⟨I.ok,I.os,I.bare,⟨fun b o e n hb hx=>?_,fun b o e n hb hx=>?_,I.base.free,fun b o e hx=>?_,I.base.tups,I.base.frzs,I.base.tbls⟩,⟨m,hn.sameBut hs (Ne.symm (cne x c hc)),fun j y v' e1 e2 e3=>?_⟩,fun y c' e=>?_,I.free,I.freeC,fun p hp=>?_,tracked ⟨oc,hoc,I.freeC x c hc⟩ hs,by simpa using I.len⟩ ⟨c,hs,.inr hc⟩
  ·exact (hs.2 b (Nat.ne_of_lt (Nat.lt_of_lt_of_le (Heap.lt_size e) (I.ok.cab x c hfn hc)))).trans (I.base.keep b o e n hb hx)
  ·obtain ⟨sl,e1⟩:=I.base.slot b o e n hb hx
   exact ⟨sl,(hs.2 b (Nat.ne_of_lt (Nat.lt_of_lt_of_le (Heap.lt_size e) (I.ok.cab x c hfn hc)))).trans e1⟩
  ·obtain ⟨o',e1⟩:=I.base.there b o e hx
   exact ⟨o',(hs.2 b (Nat.ne_of_lt (Nat.lt_of_lt_of_le (Heap.lt_size e) (I.ok.cab x c hfn hc)))).trans e1⟩
  ·by_cases hj:j=i
   ·subst hj
    rw [hi] at e1; cases e1
    rw [List.getElem?_set_self hiσ] at e2
    cases e2
    exact ⟨u,r,.inr ⟨.inl hk,c,hc,hc'⟩⟩
   ·rw [List.getElem?_set_ne (Ne.symm hj)] at e2
    obtain ⟨u',r',q⟩:=hl j y v' e1 e2 e3
    refine ⟨u',r',?_⟩
    rcases q with q | ⟨k,c',e,z'⟩
    ·exact .inl q
    ·refine .inr ⟨k,c',e,z'.sameBut hs ?_⟩
     rintro rfl
     exact hj (jH hN e1 (I.ok.inj _ _ _ e hc ▸ hi))
  ·by_cases hcc:c'=c
   ·subst hcc; exact ⟨_,hc'⟩
   ·obtain ⟨w2,z2⟩:=I.cell y c' e
    exact ⟨w2,z2.sameBut hs hcc⟩
  ·obtain ⟨e,n,ne,nf,d⟩:=I.pin p hp
   refine ⟨(hs.2 p.1 ?_).trans e,n,ne,nf,d⟩
   intro q
   rw [q,hoc] at e
   have q':oc=p.2:=Option.some.inj e
   exact d w' (by rw [<-q']; exact hocd)
theorem gA {M:Model}{A:Around}{E:Value->Shared->Prop}{i:Nat}{x:Str}{v:V}{u:Value}{Q:Unit->Shared->Prop}(I:Inv X pins σ H s) (hN:X.N.Nodup) (hi:X.N[i]?=some x) (hx:Loc X.env.scope x) (r:RelV v u)
  (h:∀s',Inv X pins (σ.set i (some v)) H s'->Q () s') (hf:X.fn x=true∨X.env.scope.names.lookup x=some .local:=by first | exact .inl rfl | exact .inr rfl | assumption):wpAny M A (storeName X.env x u) Q E s :=
 oG I hN hi hx r (fun s' I' _=>h s' I') hf
theorem Inv.call' {s':Shared}{ch:List Addr}(I:Inv X pins σ H s) (ho:s'.os=s.os) (u:Un (frs X.stack) ch H H' s.heap s'.heap) (hok:HOk X.prog X.w X.K H' s'.heap) (hg:AllBare s'.gens)
  (hch:∀b∈ch,(b∈X.ex∨X.s₀.heap.objs.size<=b)/\b≠X.env.locals/\(∀x c,X.env.cells.lookup x=some c->c≠b)/\∀p∈X.pn++pins,p.1≠b):Inv X pins σ H' s':=by
 obtain ⟨h',g',d',t',o'⟩:=s'
 have e:o'=s.os:=ho
 subst e
 exact I.call (g':=g') (t':=t') (d':=d') u hok hg hch
end
abbrev XK:=Value->Option Addr->Hp->Prop
abbrev St:=List (Option V)
abbrev VK:=V->Hp->Prop
abbrev TE:=St->Hp->VK->Prop
abbrev TT:=St->Hp->(Bool->Hp->Prop)->Prop
abbrev TA:=St->Hp->(List V->Hp->Prop)->Prop
structure eE where
 nx:St->Hp->Prop
 rt:VK
 bk:St->Hp->Prop:=fun _ _=>False
 ct:St->Hp->Prop:=fun _ _=>False
abbrev TS:=eE->St->Hp->Prop
def EP (X:Cx) (pins:List (Addr×Obj)) (σ:St) (Q:VK) (u:Value) (s':Shared):Prop:=∃v H',Inv X pins σ H' s'/\RelV v u/\Q v H'
def TP (X:Cx) (pins:List (Addr×Obj)) (σ:St) (Q:Bool->Hp->Prop) (b:Bool) (s':Shared):Prop:=∃H',Inv X pins σ H' s'/\Q b H'
def AP (X:Cx) (pins:List (Addr×Obj)) (σ:St) (Q:List V->Hp->Prop) (us:List Value) (s':Shared):Prop:=∃vs H',Inv X pins σ H' s'/\Vals vs us/\Q vs H'
def SP (X:Cx) (pins:List (Addr×Obj)) (D:eE) (f:Flow) (s':Shared):Prop :=
 match f with
 | .next=>∃σ' H',Inv X pins σ' H' s'/\D.nx σ' H'
 | .brk=>∃σ' H',Inv X pins σ' H' s'/\D.bk σ' H'
 | .cont=>∃σ' H',Inv X pins σ' H' s'/\D.ct σ' H'
 | .ret u=>∃v σ' H',Inv X pins σ' H' s'/\RelV v u/\D.rt v H'
def PE (X:Cx) (e:Expr) (t:TE):Prop :=
 ∀(pins:List (Addr×Obj)) (s:Shared) (σ:St) (H:Hp) (Q:VK),Inv X pins σ H s->t σ H Q->wpAny (model X.prog X.w) X.A (eval e X.env) (EP X pins σ Q) X.xe s
def PT (X:Cx) (e:Expr) (t:TT):Prop :=
 ∀(pins:List (Addr×Obj)) (s:Shared) (σ:St) (H:Hp) (Q:Bool->Hp->Prop),Inv X pins σ H s->t σ H Q->wpAny (model X.prog X.w) X.A (isTrue e X.env (eval e X.env)) (TP X pins σ Q) X.xe s
def PW (X:Cx) (e:Expr) (t:TT):Prop :=
 ∀(whole:Sem Value) (pins:List (Addr×Obj)) (s:Shared) (σ:St) (H:Hp) (Q:Bool->Hp->Prop),Inv X pins σ H s->t σ H Q->wpAny (model X.prog X.w) X.A (isTrue e X.env whole) (TP X pins σ Q) X.xe s
theorem PW.pt {X:Cx}{e:Expr}{t:TT}(h:PW X e t):PT X e t:=h _
def PA (X:Cx) (es:List Expr) (t:TA):Prop :=
 ∀(pos:Pos) (pins:List (Addr×Obj)) (s:Shared) (σ:St) (H:Hp) (Q:List V->Hp->Prop),Inv X pins σ H s->t σ H Q->wpAny (model X.prog X.w) X.A (spliced (backTo pos (starEach es X.env))) (AP X pins σ Q) X.xe s
def PS (X:Cx) (st:Stmt) (t:TS):Prop :=
 ∀(pins:List (Addr×Obj)) (s:Shared) (σ:St) (H:Hp) (D:eE),Inv X pins σ H s->t D σ H->wpAny (model X.prog X.w) X.A (exec st X.env) (SP X pins D) X.xe s
def PSs (X:Cx) (st:List Stmt) (t:TS):Prop :=
 ∀(pins:List (Addr×Obj)) (s:Shared) (σ:St) (H:Hp) (D:eE),Inv X pins σ H s->t D σ H->wpAny (model X.prog X.w) X.A (execs st X.env) (SP X pins D) X.xe s
theorem thn {α:Type}{t:Sem α}{Q Q':α->Shared->Prop}{M:Model}{A:Around}{E:Value->Shared->Prop}{s:Shared}(h:wpAny M A t Q E s) (hQ:∀a s,Q a s->Q' a s):wpAny M A t Q' E s:=wpAny_mono h hQ fun _ _ x=>x
end L2
namespace L2
open PySem PySem.Spec PyProof.Rows
section
variable {X:Cx}
theorem bin {a b:Expr}{ta tb:TE}(ha:PE X a ta) (hb:PE X b tb) {pins:List (Addr×Obj)}{s:Shared}{σ:St}{H:Hp}{R:V->V->Hp->Prop}(I:Inv X pins σ H s) (h:ta σ H fun x H1=>tb σ H1 fun y H2=>R x y H2)
  {α:Type}{Q:α->Shared->Prop}{f:Value->Value->Sem α}
  (hf:∀v u s2 x y H2,Inv X pins σ H2 s2->RelV x v->RelV y u->R x y H2->wpAny (model X.prog X.w) X.A (f v u) Q X.xe s2) :
  wpAny (model X.prog X.w) X.A (eval a X.env) (fun v s₁=>wpAny (model X.prog X.w) X.A (eval b X.env) (fun u s₂=>wpAny (model X.prog X.w) X.A (f v u) Q X.xe s₂) X.xe s₁) X.xe s:=by
 refine thn (ha pins s σ H _ I h) fun v s1 ⟨x,H1,I1,r1,q1⟩=>?_
 refine thn (hb pins s1 σ H1 _ I1 q1) fun u s2 ⟨y,H2,I2,r2,q2⟩=>?_
 exact hf v u s2 x y H2 I2 r1 r2 q2
def af (i:Nat):TE:=fun σ H Q=>∃v,σ[i]?=some (some v)/\Q v H
def tC (v:V):TE:=fun _ H Q=>Q v H
theorem uS {i:Nat}{x:Str}{pos:Pos}(hN:X.N[i]?=some x) (hv:Vis X.env.scope x) (hd:(x == ("__debug__":Str))=false:=by decide) (hcd:(x == ("__classdict__":Str))=false:=by decide):PE X (.Name x pos) (af i):=by
 intro pins s σ H Q I h
 obtain ⟨v,e,h⟩:=h
 obtain ⟨m,hn,hl⟩:=I.loc
 obtain ⟨u,r,l⟩:=hl i x v hN e hv
 have fin:EP X pins σ Q u s:=⟨v,H,I,r,h⟩
 rcases l with ⟨hk,hm⟩ | ⟨hk,c,hc,hcell⟩
 ·exact wpAny_Name (wpAny_loadName_local I.ok.kind hk hn hm fin) hd
 ·rcases hk with hk | hk
  ·exact wpAny_Name (wpAny_loadName_cell I.ok.kind hk hc hcell fin) hd
  ·exact wpAny_Name (wpAny_loadName_free I.ok.kind hk hc hcell fin hcd) hd
theorem ai {i j pos}:PE X (.Constant (.int i) j pos) (tC (.int i)):=fun _ _ _ H _ I h=>wpAny_Constant_int ⟨.int i,H,I.tok _,⟨_,rfl⟩,h⟩
theorem bb {b j pos}:PE X (.Constant (.bool b) j pos) (tC (.bl b)):=fun _ _ _ H _ I h=>Constant_bool ⟨.bl b,H,I,rfl,h⟩
theorem mj {j pos}:PE X (.Constant .none j pos) (tC .non):=fun _ _ _ H _ I h=>Constant_none ⟨.non,H,I,rfl,h⟩
theorem be {x j pos}:PE X (.Constant (.str x) j pos) (tC (.str x)):=fun _ _ _ H _ I h=>Calls.Constant_str ⟨.str x,H,I.tok _,⟨_,rfl⟩,h⟩
def Gl (X:Cx) (x:Str):Prop:=X.env.kindOf x=some .globalImplicit
theorem dz {E:Value->Shared->Prop}{pins:List (Addr×Obj)}{s:Shared}{σ:St}{H:Hp}{x:Str}{u:Value}{pos:Pos}{Q:Value->Shared->Prop}(I:Inv X pins σ H s) (hg:Gl X x) (hm:X.mg x=some u) (h:Q u s)
  (hd:(x == ("__debug__":Str))=false:=by decide):wpAny (model X.prog X.w) X.A (eval (.Name x pos) X.env) Q E s :=
 Calls.Name_function_global I.ok.kind hg (Calls.loadGlobal_global (by rw [I.ok.glob]; exact I.mod.glob.keeps I.bk) hm h) hd
theorem i0 {E:Value->Shared->Prop}{pins:List (Addr×Obj)}{s:Shared}{σ:St}{H:Hp}{x:Str}{u:Value}{pos:Pos}{Q:Value->Shared->Prop}(I:Inv X pins σ H s) (hg:Gl X x) (hm:X.mg x=none) (hv:bootBuiltins x=some u) (h:Q u s)
  (hn:x≠"__name__":=by decide) (hd:(x == ("__debug__":Str))=false:=by decide):wpAny (model X.prog X.w) X.A (eval (.Name x pos) X.env) Q E s:=by
 obtain ⟨mb,h1,h2⟩:=I.mod.blt
 exact Calls.Name_function_global I.ok.kind hg (Calls.loadGlobal_builtin (by rw [I.ok.glob]; exact I.mod.glob.keeps I.bk) hm (by rw [I.ok.blt]; exact h1.keeps I.bk) ((h2 x hn).trans hv) h) hd
theorem g9 {x:Str}{v:V}{u:Value}{pos:Pos}(hg:Gl X x) (hm:X.mg x=some u) (r:RelV v u) (hd:(x == ("__debug__":Str))=false:=by decide):PE X (.Name x pos) (tC v) :=
 fun _ _ _ H _ I h=>dz I hg hm ⟨v,H,I,r,h⟩ hd
theorem fF {x:Str}{v:V}{u:Value}{pos:Pos}(hg:Gl X x) (hm:X.mg x=none) (hv:bootBuiltins x=some u) (r:RelV v u) (hn:x≠"__name__":=by decide) (hd:(x == ("__debug__":Str))=false:=by decide):PE X (.Name x pos) (tC v) :=
 fun _ _ _ H _ I h=>i0 I hg hm hv ⟨v,H,I,r,h⟩ hn hd
variable {a b:Expr}{ta tb:TE}{pos:Pos}
def PC (X:Cx) (op:CmpOp) (a b:Expr) (t:TE):Prop :=
 ∀(pins:List (Addr×Obj)) (s:Shared) (σ:St) (H:Hp) (Q:VK),Inv X pins σ H s->t σ H Q ->
  wpAny (model X.prog X.w) X.A (eval a X.env) (fun v s₁=>wpAny (model X.prog X.w) X.A (eval b X.env) (fun u s₂=>wpAny (model X.prog X.w) X.A (compareOp op v u) (EP X pins σ Q) X.xe s₂) X.xe s₁) X.xe s
theorem mn (b:Expr) {op:CmpOp}(h:op≠.In) (h2:op≠.NotIn):behindInMarks op b=false:=by
 have e1:(op == CmpOp.In)=false:=by cases op <;> first | rfl | exact absurd rfl h
 have e2:(op == CmpOp.NotIn)=false:=by cases op <;> first | rfl | exact absurd rfl h2
 cases b <;> simp [behindInMarks,e1,e2]
def vB (ta:TE):TE:=fun σ H Q=>ta σ H fun x H1=>Q (.bl (decide (x=.non))) H1
def qM (ta:TE):TE:=fun σ H Q=>ta σ H fun x H1=>Q (.bl (!decide (x=.non))) H1
theorem RelV.none_iff {x:V}{v:Value}(r:RelV x v):(v == Value.none)=decide (x=.non):=by
 cases x with
 | non=>cases r; rfl
 | bl _=>cases r; rfl
 | int _=>obtain ⟨t,rfl⟩:=r; rfl
 | str _=>obtain ⟨t,rfl⟩:=r; rfl
 | byt _=>obtain ⟨t,rfl⟩:=r; rfl
 | flt _=>obtain ⟨t,rfl⟩:=r; rfl
 | ref _=>cases r; rfl
 | ty _=>cases r; rfl
theorem iW {j pos'}(ha:PE X a ta):PC X .Is a (.Constant .none j pos') (vB ta):=by
 intro pins s σ H Q I h
 refine thn (ha pins s σ H _ I h) fun v s1 ⟨x,H1,I1,r1,q1⟩=>?_
 exact Constant_none (is_none_gen ⟨.bl _,H1,I1,by rw [r1.none_iff]; rfl,q1⟩)
theorem pd {j pos'}(ha:PE X a ta):PC X .IsNot a (.Constant .none j pos') (qM ta):=by
 intro pins s σ H Q I h
 refine thn (ha pins s σ H _ I h) fun v s1 ⟨x,H1,I1,r1,q1⟩=>?_
 exact Constant_none (isnot_none_gen ⟨.bl _,H1,I1,by rw [r1.none_iff]; rfl,q1⟩)
def tB (t:TE):TT:=fun σ H Q=>t σ H fun x H1=>∃c,x=.bl c/\Q c H1
theorem pc {op:CmpOp}{t:TE}(h:PC X op a b t) (h1:behindInMarks op b=false:=by first | exact mn _ (by decide) (by decide) | rfl):PE X (.Compare a [op] [b] pos) t:=fun pins s σ H Q I hw=>wpAny_Compare1 (h pins s σ H Q I hw) h1
theorem dh {op:CmpOp}{t:TE}(h:PC X op a b t) (h1:behindInMarks op b=false:=by first | exact mn _ (by decide) (by decide) | rfl):PT X (.Compare a [op] [b] pos) (tB t):=by
 intro pins s σ H Q I hw
 refine wpAny_isTrue_Compare1 (thn (h pins s σ H _ I hw) fun v s1 h1=>thn h1 fun u s2 h2=>thn h2 fun c s3 ⟨x,H1,I1,r1,q1⟩=>?_) h1
 obtain ⟨d,rfl,q⟩:=q1
 cases r1
 exact wpAny_truthy_bool ⟨H1,I1,q⟩
theorem cG {e:Expr}{t:TE}(h:PE X e t) (he:∀whole,isTrue e X.env whole=(do let v <- whole; standAt e.pos; holding [v] (truthy v)):=by intro _; rfl):PT X e (tB t):=by
 intro pins s σ H Q I hw
 refine isTrue_plain (thn (h pins s σ H _ I hw) fun v s1 ⟨x,H1,I1,r1,q1⟩=>?_) (he _)
 obtain ⟨d,rfl,q⟩:=q1
 cases r1
 exact wpAny_truthy_bool ⟨H1,I1,q⟩
variable {tA tB':TT}{rest:List Expr}
def qR (t u:TT):TT:=fun σ H Q=>t σ H fun c H1=>if c=true then u σ H1 Q else Q false H1
def tOr (t u:TT):TT:=fun σ H Q=>t σ H fun c H1=>if c=true then Q true H1 else u σ H1 Q
def qN (t:TT):TT:=fun σ H Q=>t σ H fun c H1=>Q (!c) H1
theorem gZ (ha:PT X a tA):PW X (.BoolOp .And [a] pos) tA:=by
 intro wh pins s σ H Q I h
 refine isTrue_and (thn (ha pins s σ H Q I h) fun c s1 e=>?_)
 cases c with
 | true=>exact isTrue_and_nil e
 | false=>exact e
theorem fW (ha:PT X a tA):PW X (.BoolOp .Or [a] pos) tA:=by
 intro wh pins s σ H Q I h
 refine isTrue_or (thn (ha pins s σ H Q I h) fun c s1 e=>?_)
 cases c with
 | false=>exact isTrue_or_nil e
 | true=>exact e
theorem iT (ha:PT X a tA) (hb:PW X (.BoolOp .And (b::rest) pos) tB'):PW X (.BoolOp .And (a::b::rest) pos) (qR tA tB'):=by
 intro wh pins s σ H Q I h
 refine isTrue_and (thn (ha pins s σ H _ I h) fun c s1 ⟨H1,I1,q1⟩=>?_)
 cases c with
 | true=>exact hb wh pins s1 σ H1 Q I1 q1
 | false=>exact ⟨H1,I1,q1⟩
theorem iL (ha:PT X a tA) (hb:PW X (.BoolOp .Or (b::rest) pos) tB'):PW X (.BoolOp .Or (a::b::rest) pos) (tOr tA tB'):=by
 intro wh pins s σ H Q I h
 refine isTrue_or (thn (ha pins s σ H _ I h) fun c s1 ⟨H1,I1,q1⟩=>?_)
 cases c with
 | true=>exact ⟨H1,I1,q1⟩
 | false=>exact hb wh pins s1 σ H1 Q I1 q1
theorem iU (ha:PT X a tA):PT X (.UnaryOp .Not a pos) (qN tA):=by
 intro pins s σ H Q I h
 exact isTrue_not (ha pins s σ H (fun c H1=>Q (!c) H1) I h)
def mZ (ta tb:TE):TE:=fun σ H Q=>ta σ H fun x H1=>∃c,x=.bl c/\if c=true then tb σ H1 Q else Q (.bl false) H1
def uA (ta:TE):TE:=fun σ H Q=>ta σ H fun x H1=>∃c,x=.bl c/\Q (.bl (!c)) H1
theorem g8 {op}{t:TE}(h:PE X a t):PE X (.BoolOp op [a] pos) t:=fun pins s σ H Q I hw=>BoolOp_one (h pins s σ H Q I hw)
theorem dj (ha:PE X a ta) (hb:PE X (.BoolOp .And (b::rest) pos) tb):PE X (.BoolOp .And (a::b::rest) pos) (mZ ta tb):=by
 intro pins s σ H Q I h
 refine BoolOp_and (thn (ha pins s σ H _ I h) fun v s1 ⟨x,H1,I1,r1,q1⟩=>?_)
 obtain ⟨c,rfl,q1⟩:=q1
 cases r1
 refine wpAny_truthy_bool ?_
 cases c with
 | true=>exact hb pins s1 σ H1 Q I1 q1
 | false=>exact ⟨.bl false,H1,I1,rfl,q1⟩
theorem o_ (ha:PE X a ta):PE X (.UnaryOp .Not a pos) (uA ta):=by
 intro pins s σ H Q I h
 refine UnaryOp_ (thn (ha pins s σ H _ I h) fun v s1 ⟨x,H1,I1,r1,q1⟩=>?_)
 obtain ⟨c,rfl,q1⟩:=q1
 cases r1
 exact not_of (wpAny_truthy_bool ⟨.bl (!c),H1,I1,rfl,q1⟩)
end
end L2
namespace L2
open PySem PySem.Spec PyProof.Rows
def SqL (K:PySem.W.Frag) (H:Hp) (a:Addr) (xs:List V):Prop :=
 Rd H a (.lst xs) ∨
  ∃(o:Obj) (its:Array Value) (n:Nat),K.lookup a=some o/\o.cls=.type "list"/\o.dict=none/\o.data=.seq its n/\its.size<=sizeLine/\Vals xs its.toList
def SqT (K:PySem.W.Frag) (H:Hp) (a:Addr) (xs:List V):Prop :=
 Rd H a (.tup xs) ∨
  ∃(o:Obj) (its:Array Value) (n:Nat),K.lookup a=some o/\o.cls=.type "tuple"/\o.data=.seq its n/\its.size<=sizeLine/\Vals xs its.toList
def ww:Value->Option V
 | .none=>some .non
 | .bool b=>some (.bl b)
 | .int i _=>some (.int i)
 | .str x _=>some (.str x)
 | .bytes b _=>some (.byt b)
 | .float b _=>some (.flt b)
 | .ref a=>some (.ref a)
 | .type n=>some (.ty n)
 | _=>none
theorem RelV.abs {x:V}{u:Value}(r:RelV x u):ww u=some x:=by
 cases x with
 | non=>cases r; rfl
 | bl _=>cases r; rfl
 | int _=>obtain ⟨t,rfl⟩:=r; rfl
 | str _=>obtain ⟨t,rfl⟩:=r; rfl
 | byt _=>obtain ⟨t,rfl⟩:=r; rfl
 | flt _=>obtain ⟨t,rfl⟩:=r; rfl
 | ref _=>cases r; rfl
 | ty _=>cases r; rfl
theorem RelV.inj {x y:V}{u:Value}(r:RelV x u) (q:RelV y u):x=y:=Option.some.inj (r.abs.symm.trans q.abs)
theorem Vals.inj:∀{xs ys:List V}{us:List Value},Vals xs us->Vals ys us->xs=ys
 | _,_,_,.nil,.nil=>rfl
 | _,_,_,.cons r t,.cons r' t'=>by rw [r.inj r',Vals.inj t t']
section
variable {X:Cx}{pins:List (Addr×Obj)}{σ:St}{H:Hp}{s:Shared}{a:Addr}{xs ys:List V}
theorem SqL.of {K:PySem.W.Frag}(h:H a=some (.lst xs)):SqL K H a xs:=.inl (.inl h)
theorem SqT.of {K:PySem.W.Frag}(h:H a=some (.tup xs)):SqT K H a xs:=.inl (.inl h)
theorem Inv.list (I:Inv X pins σ H s) (h:SqL X.K H a xs):∃its:List Value,Vals xs its/\PlainL s.heap a its.toArray/\xs.length<=sizeLine:=by
 rcases h with h | ⟨o,its,n,hk,hc,hd,hs,hz,r⟩
 ·obtain ⟨z,its,n,r,e⟩:=h.ok I.hok
  exact ⟨its,r,⟨_,n,e,rfl,rfl,rfl⟩,z⟩
 ·refine ⟨its.toList,r,⟨o,n,I.kIn a o hk,hc,hd,by simpa using hs⟩,?_⟩
  have e:=r.length
  simp only [Array.length_toList] at e
  omega
theorem Inv.tuple (I:Inv X pins σ H s) (h:SqT X.K H a xs):∃its:List Value,Vals xs its/\IsTup s.heap a its.toArray/\xs.length<=sizeLine:=by
 rcases h with h | ⟨o,its,n,hk,hc,hs,hz,r⟩
 ·obtain ⟨z,its,r,p⟩:=h.ok I.hok
  exact ⟨its,r,p,z⟩
 ·refine ⟨its.toList,r,⟨o,I.kIn a o hk,hc,n,by simpa using hs⟩,?_⟩
  have e:=r.length
  simp only [Array.length_toList] at e
  omega
theorem Inv.list_inj (I:Inv X pins σ H s) (h:SqL X.K H a xs) (h':SqL X.K H a ys):xs=ys:=by
 obtain ⟨its,r,⟨o,n,e,_,_,d⟩,_⟩:=I.list h
 obtain ⟨its',r',⟨o',n',e',_,_,d'⟩,_⟩:=I.list h'
 rw [e] at e'; cases e'
 rw [d] at d'
 injection d' with d1 _
 have:its=its':=by simpa using congrArg Array.toList d1
 subst this
 exact r.inj r'
theorem Inv.tuple_inj (I:Inv X pins σ H s) (h:SqT X.K H a xs) (h':SqT X.K H a ys):xs=ys:=by
 obtain ⟨its,r,⟨o,e,_,n,d⟩,_⟩:=I.tuple h
 obtain ⟨its',r',⟨o',e',_,n',d'⟩,_⟩:=I.tuple h'
 rw [e] at e'; cases e'
 rw [d] at d'
 injection d' with d1 _
 have:its=its':=by simpa using congrArg Array.toList d1
 subst this
 exact r.inj r'
end
abbrev Cx.wish (X:Cx) (E:Value->Shared->Prop):Cx:={ X with xe:=E }
abbrev Cx.nox (X:Cx):Cx:=X.wish fun _ _=>False
theorem Cx.Ok.wish {X:Cx}(ok:X.Ok) (E:Value->Shared->Prop):(X.wish E).Ok :=
 ⟨ok.mod,ok.kind,ok.glob,ok.blt,ok.above,ok.inj,ok.has,ok.cab,ok.hd,ok.frames,ok.stk,ok.exf,ok.bs,ok.bsz,ok.noex,ok.exfs,ok.funs,ok.frf⟩
theorem Cx.Ok.unwish {X:Cx}{E:Value->Shared->Prop}(ok:(X.wish E).Ok):X.Ok :=
 ⟨ok.mod,ok.kind,ok.glob,ok.blt,ok.above,ok.inj,ok.has,ok.cab,ok.hd,ok.frames,ok.stk,ok.exf,ok.bs,ok.bsz,ok.noex,ok.exfs,ok.funs,ok.frf⟩
section
variable {X:Cx}{pins:List (Addr×Obj)}{σ:St}{H:Hp}{s:Shared}{E:Value->Shared->Prop}
theorem Inv.wish (I:Inv X pins σ H s) (E:Value->Shared->Prop):Inv (X.wish E) pins σ H s:=⟨I.ok.wish E,I.os,I.bare,I.base,I.loc,I.cell,I.free,I.freeC,I.pin,I.hok,I.len⟩
theorem Inv.unwish (I:Inv (X.wish E) pins σ H s):Inv X pins σ H s:=⟨I.ok.unwish,I.os,I.bare,I.base,I.loc,I.cell,I.free,I.freeC,I.pin,I.hok,I.len⟩
theorem SP.unwish {D:eE}{f:Flow}{s':Shared}(h:SP (X.wish E) pins D f s'):SP X pins D f s':=by
 cases f with
 | next=>obtain ⟨σ',H',I,q⟩:=h; exact ⟨σ',H',I.unwish,q⟩
 | brk=>obtain ⟨σ',H',I,q⟩:=h; exact ⟨σ',H',I.unwish,q⟩
 | cont=>obtain ⟨σ',H',I,q⟩:=h; exact ⟨σ',H',I.unwish,q⟩
 | ret u=>obtain ⟨v,σ',H',I,r,q⟩:=h; exact ⟨v,σ',H',I.unwish,r,q⟩
theorem PSs.nox {st:List Stmt}{t:TS}(h:PSs X.nox st t):PSs X st t:=fun pins s σ H D I hw =>
 wpAny_mono (h pins s σ H D (I.wish _) hw) (fun _ _ q=>q.unwish) fun _ _ z=>False.elim z
end
section
variable {X:Cx}{st:Stmt}{rest:List Stmt}{t u:TS}{e:Expr}{te:TE}{pos:Pos}
def aR:TS:=fun D σ H=>D.nx σ H
def aB (t u:TS):TS:=fun D σ H=>t { D with nx:=u D } σ H
theorem ar:PSs X [] aR:=fun _ _ σ H _ I h=>wpAny_execs_nil ⟨σ,H,I,h⟩
theorem ae (h1:PS X st t) (h2:PSs X rest u):PSs X (st::rest) (aB t u):=by
 intro pins s σ H D I h
 refine wpAny_execs_cons (thn (h1 pins s σ H { D with nx:=u D } I h) fun f s1 q=>?_)
 cases f with
 | next =>
  obtain ⟨σ',H',I',q⟩:=q
  exact h2 pins s1 σ' H' D I' q
 | ret v=>exact q
 | brk=>exact q
 | cont=>exact q
theorem ag (h1:PS X st t):PSs X [st] t:=by
 intro pins s σ H D I h
 refine wpAny_execs_cons (thn (h1 pins s σ H D I h) fun f s1 q=>?_)
 cases f with
 | next=>exact wpAny_execs_nil q
 | ret v=>exact q
 | brk=>exact q
 | cont=>exact q
theorem Inv.quiet {pins:List (Addr×Obj)}{σ:St}{H:Hp}{s:Shared}(I:Inv X pins σ H s):interactive X.env=false:=by simp [interactive,I.ok.kind]
def cQ (te:TE):TS:=fun D σ H=>te σ H fun _ H1=>D.nx σ H1
theorem aU (he:PE X e te) (hs:swapsWith e none pos.line X.env=pure false:=by rfl):PS X (.Expr e pos) (cQ te):=by
 intro pins s σ H D I h
 exact wpAny_Expr_any (thn (he pins s σ H _ I h) fun v s1 ⟨x,H1,I1,r1,q1⟩=>⟨σ,H1,I1,q1⟩) I.quiet hs
def bj (te:TE):TS:=fun D σ H=>te σ H D.rt
theorem ap (he:PE X e te):PS X (.Return (some e) pos) (bj te):=by
 intro pins s σ H D I h
 exact wpAny_Return_some (thn (he pins s σ H _ I h) fun v s1 ⟨x,H1,I1,r1,q1⟩=>⟨x,σ,H1,I1,r1,q1⟩)
def c8 (c:TT) (t u:TS):TS:=fun D σ H=>c σ H fun b H1=>if b=true then t D σ H1 else u D σ H1
theorem aP {c:Expr}{a b:List Stmt}{tc:TT}(hc:PT X c tc) (ha:PSs X a t) (hb:PSs X b u):PS X (.If c a b pos) (c8 tc t u):=by
 intro pins s σ H D I h
 refine wpAny_If (thn (hc pins s σ H _ I h) fun d s1 ⟨H1,I1,q1⟩=>?_)
 cases d with
 | true=>exact ha pins s1 σ H1 D I1 q1
 | false=>exact hb pins s1 σ H1 D I1 q1
def sv:TS:=fun _ _ _=>False
theorem rk:PS X st sv:=fun _ _ _ _ _ _ h=>h.elim
end
abbrev TG:=V->St->Hp->(St->Hp->Prop)->Prop
abbrev TGs:=List V->St->Hp->(St->Hp->Prop)->Prop
def PG (X:Cx) (target:Expr) (t:TG):Prop :=
 ∀(pins:List (Addr×Obj)) (s:Shared) (σ:St) (H:Hp) (v:V) (u:Value) (Q:St->Hp->Prop),Inv X pins σ H s->RelV v u->t v σ H Q ->
  wpAny (model X.prog X.w) X.A (assign target X.env u) (fun _ s'=>∃σ' H',Inv X pins σ' H' s'/\Q σ' H') X.xe s
def PGs (X:Cx) (ts:List Expr) (t:TGs):Prop :=
 ∀(pins:List (Addr×Obj)) (s:Shared) (σ:St) (H:Hp) (vs:List V) (us:List Value) (Q:St->Hp->Prop),Inv X pins σ H s->Vals vs us->t vs σ H Q ->
  wpAny (model X.prog X.w) X.A (assignInOrder ((assignEach ts X.env).map (·.2)) us) (fun _ s'=>∃σ' H',Inv X pins σ' H' s'/\Q σ' H') X.xe s
abbrev vR:=V->V->V->Hp->(Hp->Prop)->Prop
def wd (X:Cx) (t:vR):Prop :=
 ∀(pins:List (Addr×Obj)) (s:Shared) (σ:St) (H:Hp) (o i v:V) (ov iv u:Value) (Q:Hp->Prop),Inv X pins σ H s->RelV o ov->RelV i iv->RelV v u->t o i v H Q ->
  wpAny (model X.prog X.w) X.A (setItem ov iv u) (fun _ s'=>∃H',Inv X pins σ H' s'/\Q H') X.xe s
section
variable {X:Cx}{pos:Pos}
def am (i:Nat):TG:=fun v σ H Q=>Q (σ.set i (some v)) H
theorem o7 {i:Nat}{x:Str}(hN:X.N.Nodup) (hi:X.N[i]?=some x) (hx:Loc X.env.scope x) (hf:X.fn x=true∨X.env.scope.names.lookup x=some .local:=by first | exact .inl rfl | exact .inr rfl | assumption):PG X (.Name x pos) (am i):=by
 intro pins s σ H v u Q I r h
 exact wpAny_assign_Name (gA I hN hi hx r (fun s' I'=>⟨_,H,I',h⟩) hf)
def lH:TGs:=fun vs σ H Q=>vs=[]/\Q σ H
def bc (t:TG) (u:TGs):TGs:=fun vs σ H Q=>∃v r,vs=v::r/\t v σ H fun σ' H'=>u r σ' H' Q
theorem bL:PGs X [] lH:=by
 intro pins s σ H vs us Q I r h
 obtain ⟨e,h⟩:=h
 subst e
 cases r
 exact assignInOrder_nil ⟨σ,H,I,h⟩
theorem ax {e:Expr}{es:List Expr}{t:TG}{u:TGs}(h1:PG X e t) (h2:PGs X es u)
  (hs:(assignEach (e::es) X.env).map (·.2)=assign e X.env::(assignEach es X.env).map (·.2):=by rfl):PGs X (e::es) (bc t u):=by
 intro pins s σ H vs us Q I r h
 obtain ⟨v,vr,e1,h⟩:=h
 subst e1
 cases r with
 | cons r rr =>
  rw [hs]
  refine assignInOrder_cons (thn (h1 pins s σ H _ _ _ I r h) fun _ s1 ⟨σ1,H1,I1,q1⟩=>?_)
  exact h2 pins s1 σ1 H1 _ _ Q I1 rr q1
def lG (K:PySem.W.Frag) (n:Nat) (t:TGs):TG:=fun v σ H Q=>∃a xs,v=.ref a/\SqT K H a xs/\xs.length=n/\t xs σ H Q
theorem c9 {es:List Expr}{k:Nat}{t:TGs}{n:Nat}(hc:X.calm=true) (h:PGs X es t)
  (hn:(assignEach es X.env).length=n:=by rfl) (hst:(assignEach es X.env).findIdx? (·.1)=none:=by rfl):PG X (.Tuple es k pos) (lG X.K n t):=by
 intro pins s σ H v u Q I r hw
 obtain ⟨a,xs,e1,hq,hl,hw⟩:=hw
 subst e1
 cases r
 obtain ⟨its,rv,ht,hz⟩:=I.tuple hq
 refine assign_Tuple_tuple (I.ok.hd hc) ht (by simp [hn,<-hl,rv.length]) hst fun h' hx=>?_
 have I1:Inv X pins σ H { s with heap:=h' }:=I.kept (t':=s.toks) fun b o e=>hx b o (Nat.ne_of_lt (Heap.lt_size e)) e
 exact h pins _ σ H xs _ Q I1 (by simpa using rv) hw
def ua (to ti:TE) (t:vR):TG:=fun v σ H Q=>to σ H fun o H1=>ti σ H1 fun i H2=>t o i v H2 fun H3=>Q σ H3
theorem kg {o i:Expr}{to ti:TE}{t:vR}(ho:PE X o to) (hi:PE X i ti) (hs:wd X t)
  (ha:∀v,assign (.Subscript o i pos) X.env v=(do
   let ov <- holding [v] (eval o X.env)
   let iv <- holding [v,ov] (eval i X.env)
   standAt pos
   holding [v,ov,iv] (setItem ov iv v)
   release [v,ov,iv] []):=by intro _; rfl):PG X (.Subscript o i pos) (ua to ti t):=by
 intro pins s σ H v u Q I r h
 rw [ha]
 refine wpAny_bind (wpAny_holding (thn (ho pins s σ H _ I h) fun ov s1 ⟨x,H1,I1,r1,q1⟩=>?_))
 refine wpAny_bind (wpAny_holding (thn (hi pins s1 σ H1 _ I1 q1) fun iv s2 ⟨y,H2,I2,r2,q2⟩=>?_))
 refine wpAny_bind (wpAny_standAt (wpAny_bind (wpAny_holding (thn (hs pins s2 σ H2 x y v ov iv u _ I2 r1 r2 r q2) fun _ s3 ⟨H3,I3,q3⟩=>?_))))
 exact wpAny_release ⟨σ,H3,I3,q3⟩
def ba (te:TE) (g:TG):TS:=fun D σ H=>te σ H fun x H1=>g x σ H1 D.nx
theorem g6 {tg e:Expr}{te:TE}{g:TG}(he:PE X e te) (hg:PG X tg g) (hs:swapsWithSole [tg] e pos.line X.env=pure false:=by rfl) (hw:swappedStores [tg] e X.env=pure none:=by rfl)
  (h1:(assignEach [tg] X.env).map (·.2)=[assign tg X.env]:=by rfl):PS X (.Assign [tg] e pos) (ba te g):=by
 intro pins s σ H D I h
 refine wpAny_Assign_stores (thn (he pins s σ H _ I h) fun v s1 ⟨x,H1,I1,r1,q1⟩=>?_) hs hw
 rw [h1]
 exact thn (hg pins s1 σ H1 x v _ I1 r1 q1) fun _ s2 q=>q
theorem uO {i:Nat}{x:Str}{e:Expr}{te:TE}{pos':Pos}(hN:X.N.Nodup) (hi:X.N[i]?=some x) (hx:Loc X.env.scope x) (he:PE X e te) (hs:swapsWith e (some (.Name x pos')) pos.line X.env=pure false:=by rfl) (hf:X.fn x=true∨X.env.scope.names.lookup x=some .local:=by first | exact .inl rfl | exact .inr rfl | assumption) :
  PS X (.Assign [.Name x pos'] e pos) (ba te (am i)):=by
 intro pins s σ H D I h
 refine wpAny_Assign_Name (thn (he pins s σ H _ I h) fun v s1 ⟨y,H1,I1,r1,q1⟩=>?_) hs
 exact gA I1 hN hi hx r1 (fun s2 I2=>⟨_,H1,I2,q1⟩) hf
end
section
variable {X:Cx}{pos:Pos}
def oC (c:TT) (tb:TS):TS:=fun D σ H=>∃W:Nat->St->Hp->Prop,(∃m,W m σ H)/\∀m σ H,W m σ H ->
 c σ H fun b H1=>if b=true then ∃N:St->Hp->Prop,(∀σ' H',N σ' H'->∃m',m'<m/\W m' σ' H')/\tb { D with nx:=N,ct:=N,bk:=D.nx } σ H1 else D.nx σ H1
theorem mi {c:Expr}{body:List Stmt}{tc:TT}{tb:TS}(hp:PassesOwn (model X.prog X.w) X.A X.env X.xe) (hc:PT X c tc) (hb:PSs X body tb):PS X (.While c body [] pos) (oC tc tb):=by
 intro pins s σ H D I h
 obtain ⟨W,⟨m0,w0⟩,turn⟩:=h
 refine wpAny_While (codeAny_whileLoop (fun n s'=>∃σ' H',Inv X pins σ' H' s'/\W n σ' H') ?_ m0 ⟨σ,H,I,w0⟩)
 rintro n s1 ⟨σ1,H1,I1,w1⟩
 refine wpAny_passesOwn hp (thn (hc pins s1 σ1 H1 _ I1 (turn n σ1 H1 w1)) fun b s2 ⟨H2,I2,q2⟩=>?_)
 cases b with
 | true =>
  obtain ⟨N,hN,q2⟩:=q2
  rw [if_pos rfl]
  refine wpAny_passesOwn hp (thn (hb pins s2 σ1 H2 _ I2 q2) fun f s3 q3=>?_)
  cases f with
  | next =>
   obtain ⟨σ3,H3,I3,n3⟩:=q3
   obtain ⟨m',hm,w3⟩:=hN σ3 H3 n3
   exact ⟨m',hm,σ3,H3,I3,w3⟩
  | cont =>
   obtain ⟨σ3,H3,I3,n3⟩:=q3
   obtain ⟨m',hm,w3⟩:=hN σ3 H3 n3
   exact ⟨m',hm,σ3,H3,I3,w3⟩
  | brk=>exact q3
  | ret v=>exact q3
 | false =>
  rw [if_neg Bool.false_ne_true]
  exact wpAny_execs_nil ⟨σ1,H2,I2,q2⟩
end
structure It where
 go:Nat->Hp->Prop
 yld:Nat->Hp->V->Hp->Prop
 stop:Nat->Hp->Prop
def kU (X:Cx) (pins:List (Addr×Obj)) (H:Hp) (b:Addr):Prop :=
 H b=none/\b≠X.env.locals/\b∉X.fs/\(b∈X.ex∨X.s₀.heap.objs.size<=b)/\(∀x c,X.env.cells.lookup x=some c->c≠b)/\∀p∈X.pn++pins,p.1≠b
theorem Inv.fpOk {X:Cx}{pins:List (Addr×Obj)}{σ:St}{H H':Hp}{s:Shared}{b:Addr}(I:Inv X pins σ H s) (hb:s.heap.objs.size<=b) (hn:H' b=none):kU X pins H' b:=by
 refine ⟨hn,Nat.ne_of_gt (Nat.lt_of_lt_of_le I.lt hb),I.nofs hb,.inr (Nat.le_trans I.sz hb),fun x c e z=>?_,fun p hp z=>?_⟩
 ·obtain ⟨v,q⟩:=I.cell x c e
  exact absurd (Nat.lt_of_lt_of_le q.lt (by rw [z]; exact hb)) (Nat.lt_irrefl _)
 ·exact absurd (Nat.lt_of_lt_of_le (Heap.lt_size (I.pin p hp).1) (by rw [z]; exact hb)) (Nat.lt_irrefl _)
structure qD (P:Program) (w:World) (K:PySem.W.Frag) (tg:Expr) (J:It) (fp:List Addr) (it:Addr) (tn:Nat->Heap->Prop):Prop where
 mem:it∈fp
 obj:∀i h,tn i h->∀b∈fp,∃o,h.get? b=some o/\∀v,o.data≠.cell v
 keep:∀i h h',tn i h->(∀b∈fp,∀o,h.get? b=some o->h'.get? b=some o)->tn i h'
 item:∀(X:Cx),X.prog=P->X.w=w->X.K=K->X.calm=true->∀(i:Nat) (pins:List (Addr×Obj)) (s:Shared) (σ:St) (H:Hp) (E:Value->Shared->Prop),Inv X pins σ H s->(∀b∈fp,kU X pins H b)->tn i s.heap->J.go i H ->
  wpAny (model P w) X.A (pyNext (.ref it)) (fun r s1=>∃u,r=some u /\
   wpAny (model P w) X.A (letOwnedTupleGo tg (.ref it) u) (fun _ s2=>∃x H',Inv X pins σ H' s2/\RelV x u/\J.yld i H x H'/\tn (i+1) s2.heap/\∀b∈fp,H' b=none) E s1) E s
 done:∀(X:Cx),X.prog=P->X.w=w->X.K=K->X.calm=true->∀(i:Nat) (pins:List (Addr×Obj)) (s:Shared) (σ:St) (H:Hp) (E:Value->Shared->Prop),Inv X pins σ H s->(∀b∈fp,kU X pins H b)->tn i s.heap->J.stop i H ->
  wpAny (model P w) X.A (pyNext (.ref it)) (fun r s1=>r=none/\Inv X pins σ H s1) E s
 self:∀(A:Around) (i:Nat) (s:Shared) (Q:Value->Shared->Prop) (E:Value->Shared->Prop),tn i s.heap->Q (.ref it) s->wpAny (model P w) A (pyIter (.ref it)) Q E s
abbrev TI:=St->Hp->(It->Hp->Prop)->Prop
def PIE (X:Cx) (pins:List (Addr×Obj)) (σ:St) (tg:Expr) (R:It->Hp->Prop) (itv:Value) (s2:Shared):Prop :=
 ∃(it:Addr) (fp:List Addr) (tn:Nat->Heap->Prop) (J:It) (H':Hp),itv=.ref it/\Inv X pins σ H' s2/\qD X.prog X.w X.K tg J fp it tn/\tn 0 s2.heap/\(∀b∈fp,kU X pins H' b)/\R J H'
def PI (X:Cx) (tg iter:Expr) (wi:TI):Prop :=
 ∀(pins:List (Addr×Obj)) (s:Shared) (σ:St) (H:Hp) (R:It->Hp->Prop),Inv X pins σ H s->wi σ H R ->
  wpAny (model X.prog X.w) X.A (eval iter X.env) (fun v s1=>wpAny (model X.prog X.w) X.A (pyIter v) (PIE X pins σ tg R) X.xe s1) X.xe s
theorem pR {M:Model}{A:Around}{E:Value->Shared->Prop}{s:Shared}{tg:Expr}{it:Addr}{u:Value}{o:Obj}{n:String}{vs:Array Value}{Q:Unit->Shared->Prop}(ho:s.heap.get? it=some o) (hc:o.cls=.type n) (hd:o.data=.fields vs)
    (hn:["enumerate","zip","dict_itemiterator","dict_reverseitemiterator","odict_iterator","itertools.zip_longest","itertools.pairwise"].contains n=false) (hQ:Q () s):wpAny M A (letOwnedTupleGo tg (.ref it) u) Q E s:=by
  unfold letOwnedTupleGo
  cases tg <;> first
    | exact wpAny_pure hQ
    | (cases u <;> first
        | exact wpAny_pure hQ
        | (refine wpAny_bind (wpAny_load ho ?_)
           rw [hc,hd]
           show wpAny M A (if (["enumerate","zip","dict_itemiterator","dict_reverseitemiterator","odict_iterator","itertools.zip_longest","itertools.pairwise"].contains n && vs[0]? == some (rawInt _))=true then _ else _) Q E s
           rw [if_neg (by intro h; rw [hn,Bool.false_and] at h; cases h)]
           exact wpAny_pure hQ))
def Itl (K:PySem.W.Frag) (a:Addr):It :=
 ⟨fun i H=>∃xs x,SqL K H a xs/\xs[i]?=some x,fun i H x H'=>H'=H/\∀xs,SqL K H a xs->xs[i]?=some x,fun i H=>∃xs,SqL K H a xs/\xs.length<=i⟩
def Itt (K:PySem.W.Frag) (a:Addr):It :=
 ⟨fun i H=>∃xs x,SqT K H a xs/\xs[i]?=some x,fun i H x H'=>H'=H/\∀xs,SqT K H a xs->xs[i]?=some x,fun i H=>∃xs,SqT K H a xs/\xs.length<=i⟩
def Itr (lo:Int) (n:Nat):It:=⟨fun i _=>i<n,fun i H x H'=>H'=H/\x=.int (lo+i),fun i _=>n<=i⟩
theorem jY {P:Program}{w:World}{K:PySem.W.Frag}{tg:Expr}(a it:Addr):qD P w K tg (Itl K a) [it] it (fun i h=>h.IsListIter it a i) where
 mem:=by simp
 obj:=fun i h st b hb=>by
  have e:b=it:=by simpa using hb
  subst e
  obtain ⟨o,e,c,d⟩:=st
  exact ⟨o,e,fun v z=>by rw [d] at z; cases z⟩
 keep:=fun i h h' st k=>st.at fun o e=>k it (by simp) o e
 item:=by
  intro X hP hw hK hc i pins s σ H E I hf st hg
  subst hP hw hK
  obtain ⟨xs,x,hq,hx⟩:=hg
  obtain ⟨its,rv,p,hz⟩:=I.list hq
  obtain ⟨u,hu,ru⟩:=rv.get hx
  obtain ⟨f0,f1,f2,f3,f4,f5⟩:=hf it (by simp)
  refine wpAny_pyNext_list_item st p.isList (x:=u) (by simpa using hu) fun h' st' sb=>?_
  have I1:Inv X pins σ H { s with heap:=h' }:=I.turned (t':=s.toks) (fun b o hb e=>(sb.2 b hb).trans e) f0 f1 f3 f4 f5
  obtain ⟨o,e,c,d⟩:=id st'
  exact ⟨u,rfl,pR (s:={ s with heap:=h' }) e c d (by decide) ⟨x,H,I1,ru,⟨rfl,fun ys hy=>by rw [I.list_inj hy hq]; exact hx⟩,st',fun b hb=>(hf b hb).1⟩⟩
 done:=by
  intro X hP hw hK hc i pins s σ H E I hf st hg
  subst hP hw hK
  obtain ⟨xs,hq,hx⟩:=hg
  obtain ⟨its,rv,p,hz⟩:=I.list hq
  obtain ⟨f0,f1,f2,f3,f4,f5⟩:=hf it (by simp)
  have hl:=rv.length
  exact wpAny_pyNext_list_end (I.ok.hd hc) st p.isList (by simp; omega) fun h' eb=>⟨rfl,I.turned (t':=s.toks) (fun b o hb e=>eb b o hb e) f0 f1 f3 f4 f5⟩
 self:=fun _ _ _ _ _ st h=>wpAny_pyIter_listiter st h
theorem mL {P:Program}{w:World}{K:PySem.W.Frag}{tg:Expr}(a it:Addr):qD P w K tg (Itt K a) [it] it (fun i h=>h.IsTupleIter it a i) where
 mem:=by simp
 obj:=fun i h st b hb=>by
  have e:b=it:=by simpa using hb
  subst e
  obtain ⟨o,e,c,d⟩:=st
  exact ⟨o,e,fun v z=>by rw [d] at z; cases z⟩
 keep:=fun i h h' st k=>st.at fun o e=>k it (by simp) o e
 item:=by
  intro X hP hw hK hc i pins s σ H E I hf st hg
  subst hP hw hK
  obtain ⟨xs,x,hq,hx⟩:=hg
  obtain ⟨its,rv,p,hz⟩:=I.tuple hq
  obtain ⟨u,hu,ru⟩:=rv.get hx
  obtain ⟨f0,f1,f2,f3,f4,f5⟩:=hf it (by simp)
  refine wpAny_pyNext_tuple_item st (show s.heap.IsTuple a its.toArray from p) (x:=u) (by simpa using hu) fun h' st' sb=>?_
  have I1:Inv X pins σ H { s with heap:=h' }:=I.turned (t':=s.toks) (fun b o hb e=>(sb.2 b hb).trans e) f0 f1 f3 f4 f5
  obtain ⟨o,e,c,d⟩:=id st'
  exact ⟨u,rfl,pR (s:={ s with heap:=h' }) e c d (by decide) ⟨x,H,I1,ru,⟨rfl,fun ys hy=>by rw [I.tuple_inj hy hq]; exact hx⟩,st',fun b hb=>(hf b hb).1⟩⟩
 done:=by
  intro X hP hw hK hc i pins s σ H E I hf st hg
  subst hP hw hK
  obtain ⟨xs,hq,hx⟩:=hg
  obtain ⟨its,rv,p,hz⟩:=I.tuple hq
  obtain ⟨f0,f1,f2,f3,f4,f5⟩:=hf it (by simp)
  have hl:=rv.length
  exact wpAny_pyNext_tuple_end (I.ok.hd hc) st (show s.heap.IsTuple a its.toArray from p) (by simp; omega) fun h' eb=>⟨rfl,I.turned (t':=s.toks) (fun b o hb e=>eb b o hb e) f0 f1 f3 f4 f5⟩
 self:=fun _ _ _ _ _ st h=>wpAny_pyIter_tupleiter st h
theorem mM {P:Program}{w:World}{K:PySem.W.Frag}{tg:Expr}(it:Addr) (lo:Int) (n:Nat):qD P w K tg (Itr lo n) [it] it (fun i h=>IsRangeIter h it (lo+(i:Nat) * 1) ((n:Int)-(i:Nat)) 1) where
 mem:=by simp
 obj:=fun i h st b hb=>by
  have e:b=it:=by simpa using hb
  subst e
  exact ⟨_,st,fun v z=>by
   have z':Data.fields _=Data.cell v:=z
   cases z'⟩
 keep:=fun i h h' st k=>k it (by simp) _ st
 item:=by
  intro X hP hw hK hc i pins s σ H E I hf st hg
  subst hP hw hK
  obtain ⟨f0,f1,f2,f3,f4,f5⟩:=hf it (by simp)
  have W:=Walks.range (prog:=X.prog) (w:=X.w) (I.ok.hd hc) it lo 1 n
  refine W.item i s _ _ hg st fun v h' tk hv st' kk=>?_
  obtain ⟨t,rfl⟩:=hv
  have I1:Inv X pins σ H { s with heap:=h',toks:=tk }:=I.turned (fun b o hb e=>kk b o (by simpa using hb) e) f0 f1 f3 f4 f5
  refine ⟨_,rfl,pR (s:={ s with heap:=h',toks:=tk }) (n:="range_iterator") st' rfl rfl (by decide) ⟨.int (lo+i),H,I1,⟨t,?_⟩,⟨rfl,rfl⟩,st',fun b hb=>(hf b hb).1⟩⟩
  rw [Int.mul_one]
 done:=by
  intro X hP hw hK hc i pins s σ H E I hf st hg
  subst hP hw hK
  obtain ⟨f0,f1,f2,f3,f4,f5⟩:=hf it (by simp)
  exact wpAny_pyNext_range_end (I.ok.hd hc) st (by have:n<=i:=hg; omega) fun h' eb=>⟨rfl,I.turned (t':=s.toks) (fun b o hb e=>eb b o hb e) f0 f1 f3 f4 f5⟩
 self:=fun _ _ _ _ _ st h=>wpAny_pyIter_rangeiter st h
end L2
namespace L2
open PySem PySem.Spec PyProof.Rows
section
variable {X:Cx}{tg:Expr}
def cc (K:PySem.W.Frag) (tl:TE):TI:=fun σ H R=>tl σ H fun x H1=>∃a,x=.ref a/\(∃xs,SqL K H1 a xs)/\R (Itl K a) H1
theorem aK {l:Expr}{tl:TE}(hl:PE X l tl):PI X tg l (cc X.K tl):=by
 intro pins s σ H R I h
 refine thn (hl pins s σ H _ I h) fun v s1 ⟨x,H1,I1,r1,q1⟩=>?_
 obtain ⟨a,e,⟨xs,hq⟩,q⟩:=q1
 subst e
 cases r1
 obtain ⟨its,rv,p,hz⟩:=I1.list hq
 refine wpAny_pyIter_list p.isList ?_
 refine ⟨s1.heap.objs.size,[s1.heap.objs.size],_,_,H1,rfl,I1.kept (t':=s1.toks) fun b o e=>Heap.get?_push_of_some _ e,jY a _,⟨_,Heap.get?_push_size _ rfl,rfl,rfl⟩,fun b hb=>?_,q⟩
 have e:b=s1.heap.objs.size:=by simpa using hb
 subst e
 exact I1.fpOk (Nat.le_refl _) (I1.hok.fresh (Nat.le_refl _))
theorem rf {pins:List (Addr×Obj)}{σ:St}{H:Hp}{s:Shared}{R:It->Hp->Prop}{E:Value->Shared->Prop}{lo hi:Int}{t u v:Tok}{tk:Nat}(I:Inv X pins σ H s) (h1:-(2 ^ 62)<=lo) (h2:lo<2 ^ 62) (h3:-(2 ^ 62)<=hi) (h4:hi<2 ^ 62)
  (q:R (Itr lo (hi-lo).toNat) H):wpAny (model X.prog X.w) X.A (pyIter (.ref s.heap.objs.size)) (PIE X pins σ tg R) E { s with heap:=s.heap.push { cls:=.type "range",data:=.fields #[.int lo t,.int hi u,.int 1 v] },toks:=tk }:=by
 refine wpAny_pyIter_range (IsRange.new ..) (small_one h1 h2 h3 h4) ?_
 have I1:Inv X pins σ H { s with heap:=s.heap.push { cls:=.type "range",data:=.fields #[.int lo t,.int hi u,.int 1 v] },toks:=tk }:=I.kept fun b o e=>Heap.get?_push_of_some _ e
 refine ⟨(s.heap.push { cls:=.type "range",data:=.fields #[.int lo t,.int hi u,.int 1 v] }).objs.size,[(s.heap.push { cls:=.type "range",data:=.fields #[.int lo t,.int hi u,.int 1 v] }).objs.size],_,_,H,rfl,
  I1.kept (t':=tk) fun b o e=>Heap.get?_push_of_some _ e,mM _ lo (hi-lo).toNat,?_,fun b hb=>?_,q⟩
 ·have e1:lo+((0:Nat):Int) * 1=lo:=by simp
  have e2:(((hi-lo).toNat:Nat):Int)-((0:Nat):Int)=Builtin.Range.rangeSize lo hi 1:=by rw [rangeSize_one]; split <;> omega
  show IsRangeIter _ _ (lo+((0:Nat):Int) * 1) ((((hi-lo).toNat:Nat):Int)-((0:Nat):Int)) 1
  rw [e1,e2]
  exact Heap.get?_push_size _ rfl
 ·have e:b=(s.heap.push { cls:=.type "range",data:=.fields #[.int lo t,.int hi u,.int 1 v] }).objs.size:=by simpa using hb
  subst e
  exact I1.fpOk (Nat.le_refl _) (I1.hok.fresh (Nat.le_refl _))
def pP (ta:TA):TI:=fun σ H R=>ta σ H fun vs H1=>∃j:Int,vs=[.int j]/\-(2 ^ 62)<=j/\j<2 ^ 62/\R (Itr 0 j.toNat) H1
theorem eX {a:Expr}{ta:TA}{p pos:Pos}(hg:Gl X "range") (hm:X.mg "range"=none) (ha:PA X [a] ta) (hs:starEach [a] X.env=[(false,eval a X.env)]:=by rfl):PI X tg (.Call (.Name "range" p) [a] [] pos) (pP ta):=by
 intro pins s σ H R I h
 refine Call_ (i0 I hg hm boot_range (PyProof.Rows.callWith_type1 (thn (ha pos pins s σ H _ I h) fun us s1 ⟨vs,H1,I1,r1,q1⟩=>?_) hs rfl))
 obtain ⟨j,e,q1,q2,q⟩:=q1
 subst e
 cases r1 with
 | cons r rr =>
  cases rr
  obtain ⟨t,rfl⟩:=r
  exact call_range_1 (rf I1 (by omega) (by omega) q1 q2 (by simpa using q))
def ft (wi:TI) (g:TG) (tb:TS):TS:=fun D σ H=>wi σ H fun J H1=>∃W:Nat->Nat->St->Hp->Prop,(∃m,W 0 m σ H1)/\∀i m σ H,W i m σ H ->
 (J.stop i H/\D.nx σ H)∨(J.go i H/\∃N:St->Hp->Prop,(∀σ' H',N σ' H'->∃m',m'<m/\W (i+1) m' σ' H')/\∀x H',J.yld i H x H'->g x σ H' fun σ2 H2=>tb { D with nx:=N,ct:=N,bk:=D.nx } σ2 H2)
def iV (fp:List Addr) (h:Heap):List (Addr×Obj):=fp.filterMap fun b=>(h.get? b).map fun o=>(b,o)
theorem bV {fp:List Addr}{h:Heap}{b:Addr}{o:Obj}(hb:b∈fp) (e:h.get? b=some o):(b,o)∈iV fp h:=List.mem_filterMap.mpr ⟨b,hb,by rw [e]; rfl⟩
theorem pA {fp:List Addr}{h:Heap}{p:Addr×Obj}(hp:p∈iV fp h):p.1∈fp/\h.get? p.1=some p.2:=by
 obtain ⟨b,hb,e⟩:=List.mem_filterMap.mp hp
 cases q:h.get? b with
 | none=>rw [q] at e; cases e
 | some o =>
  rw [q] at e
  have e':(b,o)=p:=Option.some.inj e
  subst e'
  exact ⟨hb,q⟩
theorem Inv.pinned {pins:List (Addr×Obj)}{σ:St}{H:Hp}{s:Shared}{fp:List Addr}(I:Inv X pins σ H s) (hf:∀b∈fp,kU X pins H b) (ho:∀b∈fp,∃o,s.heap.get? b=some o/\∀v,o.data≠.cell v):Inv X (pins++iV fp s.heap) σ H s :=
 I.pins_of fun p hp=>(List.mem_append.mp hp).elim (fun z=>I.pin p (List.mem_append_right _ z)) fun z=>by
  obtain ⟨hb,e⟩:=pA z
  obtain ⟨f0,f1,f2,_⟩:=hf p.1 hb
  obtain ⟨o,e',d⟩:=ho p.1 hb
  rw [e] at e'; cases e'
  exact ⟨e,f0,f1,f2,d⟩
theorem Inv.unpinned {pins pl:List (Addr×Obj)}{σ:St}{H:Hp}{s:Shared}(I:Inv X (pins++pl) σ H s):Inv X pins σ H s:=I.pins_of fun p hp=>I.pin p (List.mem_append_right _ (List.mem_append_left _ hp))
theorem aY {iter:Expr}{body:List Stmt}{wi:TI}{g:TG}{tb:TS}{pos:Pos}(hp:PassesOwn (model X.prog X.w) X.A X.env X.xe) (hc:X.calm=true) (hi:PI X tg iter wi) (hg:PG X tg g) (hb:PSs X body tb)
  (hs:∀x,foldedSetIterable iter X.env x=pure x:=by intro _; rfl):PS X (.For tg iter body [] pos) (ft wi g tb):=by
 intro pins s σ H D I h
 refine wpAny_For (thn (hi pins s σ H _ I h) fun v s1 h1=>thn h1 fun itv s2 h2=>?_) hs
 obtain ⟨it,fp,tn,J,H2,e,I2,T,st2,f2,W,⟨m0,w0⟩,turn⟩:=h2
 subst e
 have stat:∀{H':Hp},(∀b∈fp,H' b=none)->∀b∈fp,kU X pins H' b:=fun hn b hb=>⟨hn b hb,(f2 b hb).2⟩
 refine codeAny_forLoop_any (fun n s'=>∃i σ' H',Inv X pins σ' H' s'/\tn i s'.heap/\(∀b∈fp,H' b=none)/\W i n σ' H') ?_ m0 ⟨0,σ,H2,I2,st2,fun b hb=>(f2 b hb).1,w0⟩
 rintro n s3 ⟨i,σ3,H3,I3,st3,fr3,w3⟩
 rcases turn i n σ3 H3 w3 with ⟨stop,qn⟩ | ⟨go,N,hN,step⟩
 ·refine wpAny_passesOwn hp (thn (T.done X rfl rfl rfl hc i pins s3 σ3 H3 X.xe I3 (stat fr3) st3 stop) fun r s4 ⟨hr,I4⟩=>?_)
  subst hr
  exact wpAny_execs_nil ⟨σ3,H3,I4,qn⟩
 ·refine wpAny_passesOwn hp (thn (T.item X rfl rfl rfl hc i pins s3 σ3 H3 X.xe I3 (stat fr3) st3 go) fun r s4 ⟨u,hr,h4⟩=>?_)
  subst hr
  refine wpAny_passesOwn hp (thn h4 fun _ s5 ⟨x,H5,I5,r5,y5,st5,fr5⟩=>?_)
  have I5':=I5.pinned (stat fr5) (T.obj _ _ st5)
  refine wpAny_passesOwn hp (thn (hg _ s5 σ3 H5 x u _ I5' r5 (step x H5 y5)) fun _ s6 ⟨σ6,H6,I6,q6⟩=>?_)
  refine wpAny_passesOwn hp (thn (hb _ s6 σ6 H6 _ I6 q6) fun f s7 q7=>?_)
  have again:∀{σ7:St}{H7:Hp},Inv X (pins++iV fp s5.heap) σ7 H7 s7->N σ7 H7->∃m,m<n/\∃i σ' H',Inv X pins σ' H' s7/\tn i s7.heap/\(∀b∈fp,H' b=none)/\W i m σ' H':=fun {σ7 H7} I7 n7=>by
   obtain ⟨m',hm,w7⟩:=hN σ7 H7 n7
   refine ⟨m',hm,i+1,σ7,H7,I7.unpinned,T.keep _ _ _ st5 fun b hb o e=>(I7.pin (b,o) (List.mem_append_right _ (List.mem_append_right _ (bV hb e)))).1,fun b hb=>?_,w7⟩
   obtain ⟨o,e,d⟩:=T.obj _ _ st5 b hb
   exact (I7.pin (b,o) (List.mem_append_right _ (List.mem_append_right _ (bV hb e)))).2.1
  cases f with
  | next=>obtain ⟨σ7,H7,I7,n7⟩:=q7; exact again I7 n7
  | cont=>obtain ⟨σ7,H7,I7,n7⟩:=q7; exact again I7 n7
  | brk=>obtain ⟨σ7,H7,I7,q7⟩:=q7; exact ⟨σ7,H7,I7.unpinned,q7⟩
  | ret v=>obtain ⟨x7,σ7,H7,I7,r7,q7⟩:=q7; exact ⟨x7,σ7,H7,I7.unpinned,r7,q7⟩
end
theorem aV {K:PySem.W.Frag}{a:Addr}{xs:List V}{g:TG}{tb:TS}{D:eE}{σ:St}{H:Hp}(Pv:Nat->St->Hp->Prop) (h0:Pv 0 σ H) (hl:∀i σ H,i<=xs.length->Pv i σ H->SqL K H a xs)
  (hs:∀i x σ H,xs[i]?=some x->Pv i σ H->g x σ H fun σ2 H2=>tb { D with nx:=Pv (i+1),ct:=Pv (i+1),bk:=D.nx } σ2 H2) (hd:∀σ H,Pv xs.length σ H->D.nx σ H) :
  ∃W:Nat->Nat->St->Hp->Prop,(∃m,W 0 m σ H)/\∀i m σ H,W i m σ H ->
   ((Itl K a).stop i H/\D.nx σ H)∨((Itl K a).go i H/\∃N:St->Hp->Prop,(∀σ' H',N σ' H'->∃m',m'<m/\W (i+1) m' σ' H')/\∀x H',(Itl K a).yld i H x H'->g x σ H' fun σ2 H2=>tb { D with nx:=N,ct:=N,bk:=D.nx } σ2 H2):=by
 refine ⟨fun i m σ H=>m=xs.length-i/\i<=xs.length/\Pv i σ H,⟨xs.length,by simp,Nat.zero_le _,h0⟩,?_⟩
 rintro i m σ H ⟨rfl,hi,p⟩
 have q:=hl i σ H hi p
 by_cases hlt:i<xs.length
 ·refine .inr ⟨⟨xs,xs[i],q,by simp [hlt]⟩,Pv (i+1),fun σ' H' p'=>⟨xs.length-(i+1),by omega,rfl,hlt,p'⟩,fun x H' y=>?_⟩
  obtain ⟨e,y⟩:=y
  subst e
  exact hs i x σ _ (y xs q) p
 ·have e:i=xs.length:=by omega
  subst e
  exact .inl ⟨⟨xs,q,Nat.le_refl _⟩,hd σ H p⟩
theorem ub {K:PySem.W.Frag}{a:Addr}{xs:List V}{g:TG}{tb:TS}{D:eE}{σ:St}{H:Hp}(Pv:Nat->St->Hp->Prop) (h0:Pv 0 σ H) (hl:∀i σ H,i<=xs.length->Pv i σ H->SqT K H a xs)
  (hs:∀i x σ H,xs[i]?=some x->Pv i σ H->g x σ H fun σ2 H2=>tb { D with nx:=Pv (i+1),ct:=Pv (i+1),bk:=D.nx } σ2 H2) (hd:∀σ H,Pv xs.length σ H->D.nx σ H) :
  ∃W:Nat->Nat->St->Hp->Prop,(∃m,W 0 m σ H)/\∀i m σ H,W i m σ H ->
   ((Itt K a).stop i H/\D.nx σ H)∨((Itt K a).go i H/\∃N:St->Hp->Prop,(∀σ' H',N σ' H'->∃m',m'<m/\W (i+1) m' σ' H')/\∀x H',(Itt K a).yld i H x H'->g x σ H' fun σ2 H2=>tb { D with nx:=N,ct:=N,bk:=D.nx } σ2 H2):=by
 refine ⟨fun i m σ H=>m=xs.length-i/\i<=xs.length/\Pv i σ H,⟨xs.length,by simp,Nat.zero_le _,h0⟩,?_⟩
 rintro i m σ H ⟨rfl,hi,p⟩
 have q:=hl i σ H hi p
 by_cases hlt:i<xs.length
 ·refine .inr ⟨⟨xs,xs[i],q,by simp [hlt]⟩,Pv (i+1),fun σ' H' p'=>⟨xs.length-(i+1),by omega,rfl,hlt,p'⟩,fun x H' y=>?_⟩
  obtain ⟨e,y⟩:=y
  subst e
  exact hs i x σ _ (y xs q) p
 ·have e:i=xs.length:=by omega
  subst e
  exact .inl ⟨⟨xs,q,Nat.le_refl _⟩,hd σ H p⟩
theorem ib {lo:Int}{n:Nat}{g:TG}{tb:TS}{D:eE}{σ:St}{H:Hp}(Pv:Nat->St->Hp->Prop) (h0:Pv 0 σ H)
  (hs:∀i σ H,i<n->Pv i σ H->g (.int (lo+i)) σ H fun σ2 H2=>tb { D with nx:=Pv (i+1),ct:=Pv (i+1),bk:=D.nx } σ2 H2) (hd:∀σ H,Pv n σ H->D.nx σ H) :
  ∃W:Nat->Nat->St->Hp->Prop,(∃m,W 0 m σ H)/\∀i m σ H,W i m σ H ->
   ((Itr lo n).stop i H/\D.nx σ H)∨((Itr lo n).go i H/\∃N:St->Hp->Prop,(∀σ' H',N σ' H'->∃m',m'<m/\W (i+1) m' σ' H')/\∀x H',(Itr lo n).yld i H x H'->g x σ H' fun σ2 H2=>tb { D with nx:=N,ct:=N,bk:=D.nx } σ2 H2):=by
 refine ⟨fun i m σ H=>m=n-i/\i<=n/\Pv i σ H,⟨n,by simp,Nat.zero_le _,h0⟩,?_⟩
 rintro i m σ H ⟨rfl,hi,p⟩
 by_cases hlt:i<n
 ·refine .inr ⟨hlt,Pv (i+1),fun σ' H' p'=>⟨n-(i+1),by omega,rfl,hlt,p'⟩,fun x H' y=>?_⟩
  obtain ⟨e,y⟩:=y
  subst e y
  exact hs i σ _ hlt p
 ·have e:i=n:=by omega
  subst e
  exact .inl ⟨Nat.le_refl _,hd σ H p⟩
end L2
namespace L2
open PySem PySem.Spec PyProof.Rows
abbrev R2:=V->V->Hp->VK->Prop
def OpR (X:Cx) (f:Value->Value->Sem Value) (r:R2):Prop :=
 ∀(pins:List (Addr×Obj)) (s:Shared) (σ:St) (H:Hp) (x y:V) (v u:Value) (Q:VK),Inv X pins σ H s->RelV x v->RelV y u->r x y H Q ->
  wpAny (model X.prog X.w) X.A (f v u) (EP X pins σ Q) X.xe s
def CallR (X:Cx) (f:Value) (r:List V->Hp->VK->Prop):Prop :=
 ∀(pins:List (Addr×Obj)) (s:Shared) (σ:St) (H:Hp) (xs:List V) (us:List Value) (Q:VK),Inv X pins σ H s->Vals xs us->r xs H Q ->
  wpAny (model X.prog X.w) X.A (call f us) (EP X pins σ Q) X.xe s
def tOp (r:R2) (ta tb:TE):TE:=fun σ H Q=>ta σ H fun x H1=>tb σ H1 fun y H2=>r x y H2 Q
def rI (C:Int->Int->Prop) (g:Int->Int->V):R2:=fun x y H Q=>∃i j,x=.int i/\y=.int j/\C i j/\Q (g i j) H
def rI0 (g:Int->Int->V):R2:=fun x y H Q=>∃i j,x=.int i/\y=.int j/\Q (g i j) H
section
variable {X:Cx}{a b c:Expr}{ta tb tc:TE}{pos:Pos}
theorem vP (ha:PE X a ta) (hb:PE X b tb) {pins:List (Addr×Obj)}{s:Shared}{σ:St}{H:Hp}{R:V->V->Hp->Prop}(I:Inv X pins σ H s)
  (h:ta σ H fun x H1=>tb σ H1 fun y H2=>R x y H2) {Q:Value->Shared->Prop}{f:Value->Value->Sem Value}
  (hf:∀v u s2 x y H2,Inv X pins σ H2 s2->RelV x v->RelV y u->R x y H2->wpAny (model X.prog X.w) X.A (f v u) Q X.xe s2) :
  wpAny (model X.prog X.w) X.A (eval a X.env) (fun v s₁=>wpAny (model X.prog X.w) X.A (eval b X.env) (fun u s₂=>wpAny (model X.prog X.w) X.A (f v u) Q X.xe s₂) X.xe s₁) X.xe s:=by
 refine thn (ha pins s σ H _ I h) fun v s1 ⟨x,H1,I1,r1,q1⟩=>?_
 refine thn (hb pins s1 σ H1 _ I1 q1) fun u s2 ⟨y,H2,I2,r2,q2⟩=>?_
 exact hf v u s2 x y H2 I2 r1 r2 q2
theorem aE {op:Operator}{r:R2}(ho:OpR X (binaryOp op) r) (ha:PE X a ta) (hb:PE X b tb):PE X (.BinOp a op b pos) (tOp r ta tb):=by
 intro pins s σ H Q I h
 exact wpAny_BinOp (vP ha hb I h fun v u s2 x y H2 I2 rx ry q=>ho pins s2 σ H2 x y v u Q I2 rx ry q)
theorem opI {f:Value->Value->Sem Value}{C:Int->Int->Prop}{g:Int->Int->Int}
  (rule:∀(i j:Int) (t u:Tok) (s:Shared) (Q:Value->Shared->Prop) (E:Value->Shared->Prop),C i j->Q (.int (g i j) s.toks) { s with toks:=s.toks+1 }->wpAny (model X.prog X.w) X.A (f (.int i t) (.int j u)) Q E s) :
  OpR X f (rI C fun i j=>.int (g i j)):=by
 intro pins s σ H x y v u Q I rx ry h
 obtain ⟨i,j,rfl,rfl,hc,q⟩:=h
 obtain ⟨t,rfl⟩:=rx
 obtain ⟨t',rfl⟩:=ry
 exact rule i j t t' s _ _ hc ⟨.int (g i j),H,I.tok _,⟨_,rfl⟩,q⟩
theorem wu {f:Value->Value->Sem Value}{g:Int->Int->Int}
  (rule:∀(i j:Int) (t u:Tok) (s:Shared) (Q:Value->Shared->Prop) (E:Value->Shared->Prop),Q (.int (g i j) s.toks) { s with toks:=s.toks+1 }->wpAny (model X.prog X.w) X.A (f (.int i t) (.int j u)) Q E s) :
  OpR X f (rI0 fun i j=>.int (g i j)):=by
 intro pins s σ H x y v u Q I rx ry h
 obtain ⟨i,j,rfl,rfl,q⟩:=h
 obtain ⟨t,rfl⟩:=rx
 obtain ⟨t',rfl⟩:=ry
 exact rule i j t t' s _ _ ⟨.int (g i j),H,I.tok _,⟨_,rfl⟩,q⟩
theorem vt {f:Value->Value->Sem Value}{g:Int->Int->Bool}
  (rule:∀(i j:Int) (t u:Tok) (s:Shared) (Q:Value->Shared->Prop) (E:Value->Shared->Prop),Q (.bool (g i j)) s->wpAny (model X.prog X.w) X.A (f (.int i t) (.int j u)) Q E s) :
  OpR X f (rI0 fun i j=>.bl (g i j)):=by
 intro pins s σ H x y v u Q I rx ry h
 obtain ⟨i,j,rfl,rfl,q⟩:=h
 obtain ⟨t,rfl⟩:=rx
 obtain ⟨t',rfl⟩:=ry
 exact rule i j t t' s _ _ ⟨.bl (g i j),H,I,rfl,q⟩
def wl (i j:Int):Prop:=0<j/\j<1073741824
def wk (i j:Int):Prop:=0<=j/\j<=1000000/\i.natAbs<2 ^ 64
def CMul (i j:Int):Prop:=(-(2 ^ 64)<i/\i<2 ^ 64)∨(-(2 ^ 64)<j/\j<2 ^ 64)
theorem CMul.ok {i j:Int}(h:CMul i j):IntMulOk i j:=by
 rcases h with ⟨h1,h2⟩ | ⟨h1,h2⟩
 ·exact .of_left (intBits_le_64 h1 h2)
 ·exact .of_right (intBits_le_64 h1 h2)
theorem bo:OpR X (binaryOp .Add) (rI0 fun i j=>.int (i+j)):=wu fun _ _ _ _ _ _ _ q=>add_int q
theorem dq:OpR X (binaryOp .Mult) (rI CMul fun i j=>.int (i * j)):=opI fun _ _ _ _ _ _ _ hc q=>mul_int q hc.ok
theorem pq:OpR X (binaryOp .FloorDiv) (rI wl fun i j=>.int (i / j)):=opI fun i j _ _ _ _ _ hc q=>by
 have h1:(0:Int)<j:=hc.1
 have h2:j<1073741824:=hc.2
 exact floordiv_int (by omega) (by rw [Int.fdiv_eq_ediv_of_nonneg i (by omega)]; exact q) (.inl (PyProof.noPylong_small (by omega)))
theorem cJ:OpR X (binaryOp .Mod) (rI (fun _ j=>0<j) fun i j=>.int (i % j)):=opI fun i j _ _ _ _ _ hc q=>by
 have h1:(0:Int)<j:=hc
 exact mod_int' (by omega) (by rw [Int.fmod_eq_emod_of_nonneg i (by omega)]; exact q)
theorem sD:OpR X (binaryOp .Pow) (rI wk fun i j=>.int (i ^ j.toNat)):=opI fun _ _ _ _ _ _ _ hc q=>pow_int_small hc.1 hc.2.1 hc.2.2 q
end
def v5:V->V->Bool
 | .non,.non=>true | .non,.int _=>true | .int _,.non=>true | .non,.bl _=>true | .bl _,.non=>true | .non,.str _=>true | .str _,.non=>true
 | .int _,.int _=>true | .bl _,.bl _=>true | .str _,.str _=>true | .byt _,.byt _=>true
 | .int _,.str _=>true | .str _,.int _=>true | .bl _,.str _=>true | .str _,.bl _=>true
 | _,_=>false
def rEq:R2:=fun x y H Q=>v5 x y=true/\Q (.bl (decide (x=y))) H
def rNe:R2:=fun x y H Q=>v5 x y=true/\Q (.bl (!decide (x=y))) H
theorem p0 {i j:Int}:decide (V.int i=V.int j)=(i == j):=by
 rw [Bool.eq_iff_iff]
 simp
theorem sL {i j:Bool}:decide (V.bl i=V.bl j)=(i == j):=by
 rw [Bool.eq_iff_iff]
 simp
theorem pZ {i j:Str}:decide (V.str i=V.str j)=(i == j):=by
 rw [Bool.eq_iff_iff]
 simp
theorem p5 {i j:Array UInt8}:decide (V.byt i=V.byt j)=(i.toList == j.toList):=by
 rw [Bool.eq_iff_iff]
 cases i
 cases j
 simp
section
variable {X:Cx}{a b c:Expr}{ta tb tc:TE}{pos:Pos}
theorem aH {pins:List (Addr×Obj)}{σ:St}{H:Hp}{s:Shared}{Q:VK}{k k':Bool}(I:Inv X pins σ H s) (q:Q (.bl k) H) (e:k=k'):EP X pins σ Q (.bool k') s:=by
 subst e
 exact ⟨.bl k,H,I,rfl,q⟩
theorem nn:OpR X (compareOp .Eq) rEq:=by
 intro pins s σ H x y v u Q I rx ry h
 obtain ⟨hs,q⟩:=h
 cases x with
 | non =>
  cases rx
  cases y with
  | non=>cases ry; exact PySem.EqNone.eq_none_none (aH I q (by simp))
  | bl j=>cases ry; exact PySem.EqNone.eq_none_bool (aH I q (by simp))
  | int j=>obtain ⟨t',rfl⟩:=ry; exact PySem.EqNone.eq_none_int (aH I q (by simp))
  | str j=>obtain ⟨t',rfl⟩:=ry; exact PySem.EqNone.eq_none_str (aH I q (by simp))
  | _=>exact absurd (show false=true from hs) Bool.false_ne_true
 | bl i =>
  cases rx
  cases y with
  | non=>cases ry; exact PySem.EqNone.eq_bool_none (aH I q (by simp))
  | bl j=>cases ry; exact eq_bool (aH I q sL)
  | str j=>obtain ⟨t',rfl⟩:=ry; exact PySem.EqMixed.eq_bool_str (aH I q (by simp))
  | _=>exact absurd (show false=true from hs) Bool.false_ne_true
 | int i =>
  obtain ⟨t,rfl⟩:=rx
  cases y with
  | non=>cases ry; exact PySem.EqNone.eq_int_none (aH I q (by simp))
  | int j=>obtain ⟨t',rfl⟩:=ry; exact eq_int (aH I q p0)
  | str j=>obtain ⟨t',rfl⟩:=ry; exact PySem.EqMixed.eq_int_str (aH I q (by simp))
  | _=>exact absurd (show false=true from hs) Bool.false_ne_true
 | str i =>
  obtain ⟨t,rfl⟩:=rx
  cases y with
  | non=>cases ry; exact PySem.EqNone.eq_str_none (aH I q (by simp))
  | bl j=>cases ry; exact PySem.EqMixed.eq_str_bool (aH I q (by simp))
  | int j=>obtain ⟨t',rfl⟩:=ry; exact PySem.EqMixed.eq_str_int (aH I q (by simp))
  | str j=>obtain ⟨t',rfl⟩:=ry; exact eq_str (aH I q pZ)
  | _=>exact absurd (show false=true from hs) Bool.false_ne_true
 | byt i =>
  obtain ⟨t,rfl⟩:=rx
  cases y with
  | byt j=>obtain ⟨t',rfl⟩:=ry; exact PySem.W.eq_bytes (aH I q p5)
  | _=>exact absurd (show false=true from hs) Bool.false_ne_true
 | _=>cases y <;> exact absurd (show false=true from hs) Bool.false_ne_true
theorem iM:OpR X (compareOp .NotEq) rNe:=by
 intro pins s σ H x y v u Q I rx ry h
 obtain ⟨hs,q⟩:=h
 cases x with
 | non =>
  cases rx
  cases y with
  | non=>cases ry; exact PySem.EqNone.ne_none_none (aH I q (by simp))
  | bl j=>cases ry; exact PySem.EqNone.ne_none_bool (aH I q (by simp))
  | int j=>obtain ⟨t',rfl⟩:=ry; exact PySem.EqNone.ne_none_int (aH I q (by simp))
  | str j=>obtain ⟨t',rfl⟩:=ry; exact PySem.EqNone.ne_none_str (aH I q (by simp))
  | _=>exact absurd (show false=true from hs) Bool.false_ne_true
 | bl i =>
  cases rx
  cases y with
  | non=>cases ry; exact PySem.EqNone.ne_bool_none (aH I q (by simp))
  | bl j=>cases ry; exact ne_bool (aH I q (congrArg not sL))
  | str j=>obtain ⟨t',rfl⟩:=ry; exact PySem.EqMixed.ne_bool_str (aH I q (by simp))
  | _=>exact absurd (show false=true from hs) Bool.false_ne_true
 | int i =>
  obtain ⟨t,rfl⟩:=rx
  cases y with
  | non=>cases ry; exact PySem.EqNone.ne_int_none (aH I q (by simp))
  | int j=>obtain ⟨t',rfl⟩:=ry; exact ne_int (aH I q (congrArg not p0))
  | str j=>obtain ⟨t',rfl⟩:=ry; exact PySem.EqMixed.ne_int_str (aH I q (by simp))
  | _=>exact absurd (show false=true from hs) Bool.false_ne_true
 | str i =>
  obtain ⟨t,rfl⟩:=rx
  cases y with
  | non=>cases ry; exact PySem.EqNone.ne_str_none (aH I q (by simp))
  | bl j=>cases ry; exact PySem.EqMixed.ne_str_bool (aH I q (by simp))
  | int j=>obtain ⟨t',rfl⟩:=ry; exact PySem.EqMixed.ne_str_int (aH I q (by simp))
  | str j=>obtain ⟨t',rfl⟩:=ry; exact ne_str (aH I q (congrArg not pZ))
  | _=>exact absurd (show false=true from hs) Bool.false_ne_true
 | byt i =>
  obtain ⟨t,rfl⟩:=rx
  cases y with
  | byt j=>obtain ⟨t',rfl⟩:=ry; exact PySem.W.ne_bytes (aH I q (congrArg not p5))
  | _=>exact absurd (show false=true from hs) Bool.false_ne_true
 | _=>cases y <;> exact absurd (show false=true from hs) Bool.false_ne_true
theorem tZ:OpR X (compareOp .Lt) (rI0 fun i j=>.bl (decide (i<j))):=vt fun _ _ _ _ _ _ _ q=>lt_int q
theorem vJ:OpR X (compareOp .LtE) (rI0 fun i j=>.bl (decide (i<=j))):=vt fun _ _ _ _ _ _ _ q=>le_int q
theorem t4:OpR X (compareOp .Gt) (rI0 fun i j=>.bl (decide (j<i))):=vt fun _ _ _ _ _ _ _ q=>gt_int q
theorem vK:OpR X (compareOp .GtE) (rI0 fun i j=>.bl (decide (j<=i))):=vt fun _ _ _ _ _ _ _ q=>ge_int q
theorem pk:OpR X (compareOp .In) (fun x y H Q=>∃i j,x=.str i/\y=.str j/\Q (.bl (!(Builtin.Str.occurrences j i 0 j.length 1).isEmpty)) H):=by
 intro pins s σ H x y v u Q I rx ry h
 obtain ⟨i,j,rfl,rfl,q⟩:=h
 obtain ⟨t,rfl⟩:=rx
 obtain ⟨t',rfl⟩:=ry
 exact in_str (aH I q rfl)
theorem sF (b:Expr) {op:CmpOp}(h:op≠.In:=by decide) (h2:op≠.NotIn:=by decide):behindInMarks op b=false:=by
 have e1:(op == CmpOp.In)=false:=by cases op <;> first | rfl | exact absurd rfl h
 have e2:(op == CmpOp.NotIn)=false:=by cases op <;> first | rfl | exact absurd rfl h2
 cases b <;> simp [behindInMarks,e1,e2]
theorem pb {op:CmpOp}{r:R2}(ho:OpR X (compareOp op) r) (ha:PE X a ta) (hb:PE X b tb) (hm:behindInMarks op b=false):PE X (.Compare a [op] [b] pos) (tOp r ta tb):=by
 intro pins s σ H Q I h
 exact wpAny_Compare1 (vP ha hb I h fun v u s2 x y H2 I2 rx ry q=>ho pins s2 σ H2 x y v u Q I2 rx ry q) hm
def aI (t:TE):TT:=fun σ H Q=>t σ H fun x H'=>∃k,x=.bl k/\Q k H'
theorem o0 {op:CmpOp}{r:R2}(ho:OpR X (compareOp op) r) (ha:PE X a ta) (hb:PE X b tb) (hm:behindInMarks op b=false):PT X (.Compare a [op] [b] pos) (aI (tOp r ta tb)):=by
 intro pins s σ H Q I h
 refine wpAny_isTrue_Compare1 (thn (ha pins s σ H _ I h) fun v s1 ⟨x,H1,I1,r1,q1⟩=>thn (hb pins s1 σ H1 _ I1 q1) fun u s2 ⟨y,H2,I2,r2,q2⟩ =>
  thn (ho pins s2 σ H2 x y v u _ I2 r1 r2 q2) fun c s3 ⟨z,H3,I3,r3,k,e,q3⟩=>?_) hm
 subst e
 cases r3
 exact wpAny_truthy_bool ⟨H3,I3,q3⟩
theorem iZ:(sizeLine:Nat)<2 ^ 63:=by rw [sizeLine_eq]; decide
theorem iX:OpR X (binaryOp .Add) (fun x y H Q=>∃i j,x=.str i/\y=.str j/\i.length+j.length<=sizeLine/\Q (.str (i++j)) H):=by
 intro pins s σ H x y v u Q I rx ry h
 obtain ⟨i,j,rfl,rfl,hz,q⟩:=h
 obtain ⟨t,rfl⟩:=rx
 obtain ⟨t',rfl⟩:=ry
 exact add_str (fun t' tk=>⟨.str (i++j),H,I.tok _,⟨_,rfl⟩,q⟩) hz
theorem jW {x:V}{us:List Value}(r:Vals [x] us):∃u,us=[u]/\RelV x u:=by
 cases r with
 | cons r1 r2=>cases r2; exact ⟨_,rfl,r1⟩
theorem qH {x y:V}{us:List Value}(r:Vals [x,y] us):∃u w',us=[u,w']/\RelV x u/\RelV y w':=by
 cases r with
 | cons r1 r2 =>
  cases r2 with
  | cons r3 r4=>cases r4; exact ⟨_,_,rfl,r1,r3⟩
end
end L2
namespace L2
open PySem PySem.Spec PyProof.Rows
structure ObjM (h:Heap) (x dx C:Addr) (mA:Str->Option Value):Prop where
 obj:h.get? x=some (PySem.W.instObj C dx)
 ns:h.Ns1 dx mA
 ne:dx≠x
theorem hZ {h:Heap}{dx:Addr}{mA:Str->Option Value}(n:h.Ns1 dx mA):∃od,h.get? dx=some od/\∀name,PySem.W.lookIn name od=some (mA name):=by
 obtain ⟨o,es,ep,ho,hd,hk,_,hm⟩:=n
 refine ⟨o,ho,fun name=>?_⟩
 have e:=hm name
 unfold nsFind findBy at e
 rw [<-Array.find?_toList] at e
 unfold PySem.W.lookIn
 rw [hd]
 dsimp only
 split
 ·rename_i y q
  rw [q] at e
  exact congrArg some e
 ·rename_i q
  rw [q] at e
  have a:es.toList.any (·.refKey)=false:=by
   rw [List.any_eq_false]
   intro y hy
   obtain ⟨z,t,hkey⟩:=hk y (Array.mem_toList_iff.mp hy)
   simp [DictEntry.refKey,hkey]
  have a':¬es.toList.any (·.refKey)=true:=by rw [a]; exact Bool.false_ne_true
  rw [if_neg a']
  exact congrArg some e
theorem ObjM.look {h:Heap}{x dx C:Addr}{mA:Str->Option Value}(I:ObjM h x dx C mA):∃od,PySem.W.InstAt h x (PySem.W.instObj C dx) C (some od)/\∀name,PySem.W.lookIn name od=some (mA name) :=
 let ⟨od,ho,hl⟩:=hZ I.ns
 ⟨od,⟨I.obj,rfl,rfl,ho⟩,hl⟩
section
variable {prog:Program}{w:World}{A:Around}{E:Value->Shared->Prop}{s:Shared}{K:PySem.W.Frag}{x dx C f:Addr}{mA:Str->Option Value}{name:Str}{v:Value}
theorem t_ {expr:Bool}{Q:Value->Shared->Prop}(X:K.In s.heap) (I:ObjM s.heap x dx C mA) (hg:PySem.W.plainGet K C name=true) (hh:PySem.W.hasDictIn K C=true)
  (ha:PySem.W.findIn K (.ref C) name=some none) (hv:mA name=some v) (hv':PySem.W.handedIn v=true) (h:Q v { s with toks:=s.toks+1 }) :
  wpAny (model prog w) A (getAttr (.ref x) name expr) Q E s:=by
 obtain ⟨od,J,hl⟩:=I.look
 exact PySem.W.get_value X J (PySem.W.plainGet_of hg).1 (PySem.W.findObj_own hh ha rfl (by rw [hl,hv])) hv' h
theorem rO {pl:Sem Bool}{Q:Value×List Value->Shared->Prop}(X:K.In s.heap) (I:ObjM s.heap x dx C mA) (hg:PySem.W.plainGet K C name=true)
  (hf:PySem.W.findIn K (.ref C) name=some (some (.ref f))) (ht:PySem.W.isFn K (.ref f)=true) (hv:mA name=none) (h:Q (.ref f,[.ref x]) s) :
  wpAny (model prog w) A (getMethod (.ref x) name pl) Q E s:=by
 obtain ⟨od,J,hl⟩:=I.look
 exact PySem.W.method_fn X J (PySem.W.plainGet_of hg).1 (PySem.W.plainGet_of hg).2 hf (beq_iff_eq.mp ht) (by show (PySem.W.lookIn name od).map (·.isSome)=some false; rw [hl,hv]; rfl) h
theorem set_map {ns:List Str}{Q:Unit->Shared->Prop}(X:K.In s.heap) (I:ObjM s.heap x dx C mA)
  (hs:PySem.W.findIn K (.ref C) "__setattr__"=some (some (.builtin "object.__setattr__"))) (hp:PySem.W.plainOver K C=true) (ht:PySem.W.takerIn K C name=some none) (hh:PySem.W.hasDictIn K C=true)
  (hw:PySem.Within mA ns) (hsz:ns.length<=sizeLine)
  (h:∀h',ObjM h' x dx C (fun y=>if y=name then some v else mA y)->Heap.SameBut dx s.heap h'->Q () { s with heap:=h',toks:=s.toks+2 }) :
  wpAny (model prog w) A (setAttr (.ref x) name v) Q E s:=by
 obtain ⟨od,J,hl⟩:=I.look
 refine PySem.W.set_plain X J hs (PySem.W.osa_open (s:={ s with toks:=s.toks+1 }) (r:=none) X J hp ht fun b=>?_)
 obtain ⟨cd,hc,hd'⟩:=PySem.W.any_some hh
 have hx:s.heap.get? x=some ⟨.ref C,some dx,.plain,#[]⟩:=I.obj
 refine wpAny_bind (wpAny_pure (wpAny_bind (wpAny_bind (wpAny_loadPart hx (wpAny_bind (PySem.W.Looks.here (s:={ s with toks:=s.toks+1 }) (PySem.W.looks_clsIn X hc) ?_))))))
 rw [hd']
 refine wpAny_pure (a:=some dx) (wpAny_bind (wpAny_pure (wpAny_bind ?_)))
 refine wpAny_nsSet1 (s:={ s with toks:=s.toks+1 }) I.ns fun h' hn2 hs2=>?_
 obtain ⟨oD,esD,epD,hoD,hdD,hcD⟩:=hn2.count (PySem.Within.cons name v hw)
 refine wpAny_bind (wpAny_lookBehind hoD (by rw [hdD]; exact pastItsLine_dict (Nat.le_trans hcD (by rw [List.length_cons]; omega))) ?_)
 exact wpAny_pure (h _ ⟨(hs2.2 _ (Ne.symm I.ne)).trans I.obj,hn2,I.ne⟩ hs2)
theorem rG {R:Result->Shared->Prop}{vs:List Value}{kw:List (Str×Value)}(X:K.In s.heap) (hm:PySem.W.makesIn K C=true)
  (hi:PySem.W.findIn K (.ref C) "__init__"=some (some (.ref f))) (hf:PySem.W.typeIn K (.ref f)=some (.type "function"))
  (h:codeAny (model prog w) (A.under (.builtin "type.__call__" ⟨.ref C::vs,kw⟩)) (.call (.ref f) ⟨.ref (s.heap.objs.size+1)::vs,kw⟩) (PySem.W.InitBack (s.heap.objs.size+1) R)
   { s with heap:=(s.heap.push PySem.W.emptyDict).push (PySem.W.instObj C s.heap.objs.size) }) :
  codeAny (model prog w) A (.call (.ref C) ⟨vs,kw⟩) R s:=by
 obtain ⟨hh,g,d,t,os⟩:=s
 exact PySem.W.make_core (PySem.W.makes_of X hm) (PySem.W.looks_findIn X hi) (fun self=>PySem.W.bind_fn X self hf) (.inl rfl) h
end
def cv (f:Str) (v:V):List (Str×V)->List (Str×V)
 | []=>[(f,v)]
 | (g,x)::r=>if g=f then (g,v)::r else (g,x)::cv f v r
theorem bh (f g:Str) (v:V):∀fs:List (Str×V),(cv f v fs).lookup g=if g=f then some v else fs.lookup g
 | []=>by
  show List.lookup g [(f,v)]=_
  by_cases h:g=f
  ·have hb:(g == f)=true:=beq_iff_eq.mpr h
   simp only [List.lookup,hb,if_pos h]
  ·have hb:(g == f)=false:=beq_eq_false_iff_ne.mpr h
   simp only [List.lookup,hb,if_neg h]
 | (k,x)::r=>by
  have ih:=bh f g v r
  rw [show cv f v ((k,x)::r)=(if k=f then (k,v)::r else (k,x)::cv f v r) from rfl]
  by_cases hk:k=f
  ·rw [if_pos hk]
   by_cases h:g=k
   ·have hb:(g == k)=true:=beq_iff_eq.mpr h
    simp only [List.lookup,hb,if_pos (h.trans hk)]
   ·have hb:(g == k)=false:=beq_eq_false_iff_ne.mpr h
    simp only [List.lookup,hb,if_neg (fun e:g=f=>h (e.trans hk.symm))]
  ·rw [if_neg hk]
   by_cases h:g=k
   ·have hb:(g == k)=true:=beq_iff_eq.mpr h
    simp only [List.lookup,hb,if_neg (fun e:g=f=>hk (h.symm.trans e))]
   ·have hb:(g == k)=false:=beq_eq_false_iff_ne.mpr h
    simp only [List.lookup,hb]
    exact ih
theorem ia (f:Str) (v:V):∀fs:List (Str×V),f∈(cv f v fs).map (·.1)/\∀g,g∈fs.map (·.1)->g∈(cv f v fs).map (·.1)
 | []=>⟨by simp [cv],fun g h=>by simp at h⟩
 | (k,x)::r=>by
  obtain ⟨i1,i2⟩:=ia f v r
  rw [show cv f v ((k,x)::r)=(if k=f then (k,v)::r else (k,x)::cv f v r) from rfl]
  by_cases hk:k=f
  ·rw [if_pos hk]
   subst hk
   exact ⟨by simp,fun g h=>by simpa using h⟩
  ·rw [if_neg hk]
   refine ⟨?_,fun g h=>?_⟩
   ·rw [List.map_cons]
    exact List.mem_cons_of_mem _ i1
   ·rw [List.map_cons] at h ⊢
    rcases List.mem_cons.mp h with e | e
    ·exact List.mem_cons.mpr (.inl e)
    ·exact List.mem_cons_of_mem _ (i2 g e)
theorem h7 (f:Str) (v:V):∀fs:List (Str×V),(cv f v fs).length<=fs.length+1
 | []=>by simp [cv]
 | (k,x)::r=>by
  have ih:=h7 f v r
  rw [show cv f v ((k,x)::r)=(if k=f then (k,v)::r else (k,x)::cv f v r) from rfl]
  by_cases hk:k=f
  ·rw [if_pos hk,List.length_cons,List.length_cons]; omega
  ·rw [if_neg hk,List.length_cons,List.length_cons]; omega
theorem RelO.some_of {v:V}{o:Option Value}(r:RelO (some v) o):∃u,o=some u/\RelV v u:=by
 cases o with
 | none=>exact (show False from r).elim
 | some u=>exact ⟨u,rfl,r⟩
theorem RelO.none_of {o:Option Value}(r:RelO none o):o=none:=by
 cases o with
 | none=>rfl
 | some u=>exact (show False from r).elim
theorem kB {v:V}{u:Value}(r:RelV v u):PySem.W.handedIn u=true:=by
 cases v with
 | non=>cases (show u=Value.none from r); rfl
 | bl b=>cases (show u=Value.bool b from r); rfl
 | int i=>obtain ⟨t,e⟩:=(show ∃t,u=Value.int i t from r); cases e; rfl
 | str x=>obtain ⟨t,e⟩:=(show ∃t,u=Value.str x t from r); cases e; rfl
 | byt b=>obtain ⟨t,e⟩:=(show ∃t,u=Value.bytes b t from r); cases e; rfl
 | flt b=>obtain ⟨t,e⟩:=(show ∃t,u=Value.float b t from r); cases e; rfl
 | ref a=>cases (show u=Value.ref a from r); rfl
 | ty n=>cases (show u=Value.type n from r); rfl
section
variable {P:Program}{w:World}{H H':Hp}{h h':Heap}{a C dx:Addr}{fs fs':List (Str×V)}
theorem jL {K:PySem.W.Frag}(hok:HOk P w K H h) (e:H a=some (.ins C dx fs)):∃mA,ObjM h a dx C mA/\(∀f,RelO (fs.lookup f) (mA f))/\PySem.Within mA (fs.map (·.1))/\fs.length<=1000/\H dx=some (.own a):=by
 obtain ⟨d,z,ne,ob,mA,n,r,q⟩:=(show ObjOk P w K H h a (.ins C dx fs) from hok a _ e)
 exact ⟨mA,⟨ob,n,ne⟩,r,q,z,d⟩
end
structure Cls (K:PySem.W.Frag) (C:Addr):Prop where
 pg:PySem.W.plainGet K C Str.empty=true
 hd:PySem.W.hasDictIn K C=true
 po:PySem.W.plainOver K C=true
 sa:PySem.W.findIn K (.ref C) "__setattr__"=some (some (.builtin "object.__setattr__"))
theorem Cls.get {K:PySem.W.Frag}{C:Addr}(c:Cls K C) (f:Str):PySem.W.plainGet K C f=true:=c.pg
def NoAttr (K:PySem.W.Frag) (C:Addr) (f:Str):Prop:=PySem.W.findIn K (.ref C) f=some none
theorem NoAttr.taker {K:PySem.W.Frag}{C:Addr}{f:Str}(n:NoAttr K C f):PySem.W.takerIn K C f=some none:=by
 unfold PySem.W.takerIn
 rw [show PySem.W.findIn K (.ref C) f=some none from n]
 rfl
structure Con (K:PySem.W.Frag) (C:Addr) (f:Str) (v:V) (u:Value):Prop where
 at_:PySem.W.findIn K (.ref C) f=some (some u)
 rel:RelV v u
 get:PySem.W.specialIn K u "__get__"=some none
 cp:PySem.W.copiedNames.contains f=false
structure ur (K:PySem.W.Frag) (C:Addr) (m:Str) (f:Addr):Prop where
 at_:PySem.W.findIn K (.ref C) m=some (some (.ref f))
 fn:PySem.W.isFn K (.ref f)=true
 kp:PySem.W.keepIn K (.ref f)=true
section
variable {X:Cx}{pins:List (Addr×Obj)}{σ:St}{H:Hp}{s:Shared}{a C dx:Addr}{fs:List (Str×V)}{f:Str}{v:V}{A:Around}{E:Value->Shared->Prop}
theorem nH {b:Bool}{Q:Value->Shared->Prop}(I:Inv X pins σ H s) (e:H a=some (.ins C dx fs)) (c:Cls X.K C) (n:NoAttr X.K C f) (l:fs.lookup f=some v)
  (h:∀u s',Inv X pins σ H s'->RelV v u->Q u s'):wpAny (model X.prog X.w) A (getAttr (.ref a) f b) Q E s:=by
 obtain ⟨mA,O,r,_,_,_⟩:=jL I.hok e
 obtain ⟨u,hu,ru⟩:=RelO.some_of (v:=v) (o:=mA f) (by rw [<-l]; exact r f)
 exact t_ I.kIn O (c.get f) c.hd n hu (kB ru) (h u _ (I.tok _) ru)
theorem fL {m:Str}{g:Addr}{pl:Sem Bool}{Q:Value×List Value->Shared->Prop}(I:Inv X pins σ H s) (e:H a=some (.ins C dx fs)) (c:Cls X.K C) (k:ur X.K C m g) (l:fs.lookup m=none)
  (h:Q (.ref g,[.ref a]) s):wpAny (model X.prog X.w) A (getMethod (.ref a) m pl) Q E s:=by
 obtain ⟨mA,O,r,_,_,_⟩:=jL I.hok e
 have hn:mA m=none:=RelO.none_of (by rw [<-l]; exact r m)
 exact rO I.kIn O (c.get m) k.at_ k.fn hn h
theorem m7 {y:V}{u:Value}{Q:Unit->Shared->Prop}(I:Inv X pins σ H s) (e:H a=some (.ins C dx fs)) (c:Cls X.K C) (n:NoAttr X.K C f) (hl:fs.length<1000) (ry:RelV y u)
  (h:∀s',Inv X pins σ (upd H a (.ins C dx (cv f y fs))) s'->Q () s'):wpAny (model X.prog X.w) A (setAttr (.ref a) f u) Q E s:=by
 obtain ⟨mA,O,r,wi,_,ho⟩:=jL I.hok e
 have hz:(fs.map (·.1)).length<=sizeLine:=by rw [List.length_map,sizeLine_eq]; omega
 refine set_map I.kIn O c.sa c.po n.taker c.hd wi hz fun h' O' sb=>h _ ?_
 have hd:∃o,h'.get? dx=some o:=let ⟨o,_,_,e',_⟩:=O'.ns; ⟨o,e'⟩
 refine I.write (x:=a) (e:=dx) (by rw [e]; exact True.intro) (.inr ho) (fun b q hb z=>(sb.2 b hb).trans z) hd ?_
 refine ⟨by rw [aj O.ne]; exact ho,?_,O.ne,O'.obj,_,O'.ns,fun g=>?_,fun g hg=>?_⟩
 ·have:=h7 f y fs; omega
 ·show RelO ((cv f y fs).lookup g) (if g=f then some u else mA g)
  rw [bh]
  by_cases q:g=f
  ·rw [if_pos q,if_pos q]; exact ry
  ·rw [if_neg q,if_neg q]; exact r g
 ·by_cases q:g=f
  ·rw [q]; exact (ia f y fs).1
  ·refine (ia f y fs).2 g (wi g fun z=>hg ?_)
   show (if g=f then some u else mA g)=none
   rw [if_neg q]; exact z
theorem Inv.made (I:Inv X pins σ H s):Inv X pins σ (upd (upd H s.heap.objs.size (.own (s.heap.objs.size+1))) (s.heap.objs.size+1) (.ins C s.heap.objs.size []))
  { s with heap:=(s.heap.push PySem.W.emptyDict).push (PySem.W.instObj C s.heap.objs.size) }:=by
 have e1:(s.heap.push PySem.W.emptyDict).get? s.heap.objs.size=some PySem.W.emptyDict:=Heap.get?_push_size s.heap rfl
 have e2:((s.heap.push PySem.W.emptyDict).push (PySem.W.instObj C s.heap.objs.size)).get? (s.heap.objs.size+1)=some (PySem.W.instObj C s.heap.objs.size):=by
  have:=Heap.get?_push_size (s.heap.push PySem.W.emptyDict) (o:=PySem.W.instObj C s.heap.objs.size) rfl
  rwa [Heap.size_push] at this
 have e3:(s.heap.push PySem.W.emptyDict).Ns s.heap.objs.size (fun _=>none):=⟨PySem.W.emptyDict,#[],_,e1,rfl,(fun e he=>absurd he (by simp)),fun _=>rfl⟩
 have I1:=I.laid (a:=s.heap.objs.size) (o:=.own (s.heap.objs.size+1)) (h':=s.heap.push PySem.W.emptyDict) (t':=s.toks) (fun b u q=>Heap.get?_push_of_some _ q) (Nat.le_refl _) ⟨_,e1⟩
 refine I1.laid (a:=s.heap.objs.size+1) (o:=.ins C s.heap.objs.size []) (t':=s.toks) (fun b u q=>Heap.get?_push_of_some _ q) (Nat.le_of_eq (Heap.size_push _ _)) ?_
 have ne:s.heap.objs.size≠s.heap.objs.size+1:=Nat.ne_of_lt (Nat.lt_succ_self _)
 refine ⟨by rw [aj ne,aa],Nat.zero_le _,ne,e2,fun _=>none,(Heap.Ns1.of_empty e3).at fun o q=>Heap.get?_push_of_some _ q,fun _=>True.intro,fun y hy=>absurd rfl hy⟩
theorem qk {prog:Program}{w:World}{env:Env}{e:Expr}{f:Str}{pos:Pos}{s:Shared}{Q:Value->Shared->Prop}(hb:attributeBase e f env (eval e env)=eval e env)
  (h:wpAny (model prog w) A (eval e env) (fun o s₁=>wpAny (model prog w) A (getAttr o f true) Q E s₁) E s):wpAny (model prog w) A (eval (.Attribute e f pos) env) Q E s :=
 Attribute_any_ h (by rw [arm_eval_Attribute,hb])
end
def qO (K:PySem.W.Frag) (ta:TE) (f:Str):TE:=fun σ H Q=>ta σ H fun x H1=>∃a C dx fs v,x=.ref a/\H1 a=some (.ins C dx fs)/\Cls K C/\NoAttr K C f/\fs.lookup f=some v/\Q v H1
def qV (K:PySem.W.Frag) (ta tv:TE) (f:Str):TS:=fun D σ H=>tv σ H fun y H1=>ta σ H1 fun x H2=>∃a C dx fs,x=.ref a/\H2 a=some (.ins C dx fs)/\Cls K C/\NoAttr K C f/\fs.length<1000 /\
 D.nx σ (upd H2 a (.ins C dx (cv f y fs)))
section
variable {X:Cx}{o e value:Expr}{f:Str}{pos pos' tpos:Pos}{ta tv:TE}
theorem f6 (he:PE X e ta) (hb:attributeBase e f X.env (eval e X.env)=eval e X.env):PE X (.Attribute e f pos) (qO X.K ta f):=by
 intro pins s σ H Q I h
 refine qk hb (thn (he pins s σ H _ I h) fun u s1 ⟨x,H1,I1,rx,a,C,dx,fs,v,ex,ea,c,n,l,q⟩=>?_)
 subst ex
 obtain rfl:u=Value.ref a:=rx
 exact nH I1 ea c n l fun u' s2 I2 ru=>⟨v,H1,I2,ru,q⟩
theorem fZ (ha:PE X o ta) (hv:PE X value tv) (hs:swapsWith value (some (.Attribute o f pos')) pos.line X.env=pure false):PS X (.Assign [.Attribute o f pos'] value pos) (qV X.K ta tv f):=by
 intro pins s σ H D I h
 refine plainObj_wpAny_Assign_Attribute (thn (hv pins s σ H _ I h) fun u s1 ⟨y,H1,I1,ry,q⟩=>thn (ha pins s1 σ H1 _ I1 q) fun ov s2 ⟨x,H2,I2,rx,a,C,dx,fs,ex,ea,c,n,l,q2⟩=>?_) hs
 subst ex
 obtain rfl:ov=Value.ref a:=rx
 exact m7 I2 ea c n l ry fun s3 I3=>⟨σ,_,I3,q2⟩
theorem t9 {pl:Sem Bool}{m:Str}{apos:Pos}{args:List Expr}{pins:List (Addr×Obj)}{s:Shared}{σ:St}{H:Hp}{Q:Value->Shared->Prop}{te:TE}(he:PE X e te) (I:Inv X pins σ H s)
  (h:te σ H fun x H1=>∃a C dx fs g,x=.ref a/\H1 a=some (.ins C dx fs)/\Cls X.K C/\ur X.K C m g/\fs.lookup m=none /\
   ∀s1,Inv X pins σ H1 s1->wpAny (model X.prog X.w) X.A (callWith pos (.ref g) [.ref a] (backTo pos (starEach args X.env)) (backToKw pos (keywordEach [] X.env))) Q X.xe s1)
  (ht:eval (.Call (.Attribute e m apos) args [] pos) X.env=(do
   let ov <- eval e X.env
   standAt apos.atName
   let (f,first) <- holding [ov] (getMethod ov m pl)
   callWith pos f first (backTo pos (starEach args X.env)) (backToKw pos (keywordEach [] X.env)))) :
  wpAny (model X.prog X.w) X.A (eval (.Call (.Attribute e m apos) args [] pos) X.env) Q X.xe s:=by
 refine PySem.W.methodCall_KW (pl:=pl) (thn (he pins s σ H _ I h) fun u s1 ⟨x,H1,I1,rx,a,C,dx,fs,g,ex,ea,c,k,l,q⟩=>?_) ht
 subst ex
 obtain rfl:u=Value.ref a:=rx
 exact fL I1 ea c k l (q s1 I1)
end
section
variable {X:Cx}{pins:List (Addr×Obj)}{σ:St}{H:Hp}{s:Shared}{A:Around}{E:Value->Shared->Prop}{Q:Value->Shared->Prop}{c:Value}{b:Bool}
inductive TyOf (K:PySem.W.Frag) (H:Hp):V->Value->Prop where
 | non:TyOf K H .non (.type "NoneType")
 | bl (x:Bool):TyOf K H (.bl x) (.type "bool")
 | int (i:Int):TyOf K H (.int i) (.type "int")
 | str (x:Str):TyOf K H (.str x) (.type "str")
 | flt (x:UInt64):TyOf K H (.flt x) (.type "float")
 | lst {a:Addr}{xs:List V}(e:H a=some (.lst xs)):TyOf K H (.ref a) (.type "list")
 | frz {a:Addr}{o:Obj}{xs:List V}(e:H a=some (.frz o (.lst xs))):TyOf K H (.ref a) (.type "list")
 | tup {a:Addr}{xs:List V}(e:H a=some (.tup xs)):TyOf K H (.ref a) (.type "tuple")
 | dK {a:Addr}{kvs:List (Key×V)}(e:H a=some (.dK kvs)):TyOf K H (.ref a) (.type "dict")
 | dT {a:Addr}{kvs:List (TK×V)}(e:H a=some (.dT kvs)):TyOf K H (.ref a) (.type "dict")
 | ins {a C dx:Addr}{fs:List (Str×V)}(e:H a=some (.ins C dx fs)) (cl:Cls K C) (ha:PySem.W.findIn K (.ref C) "__class__"=some (some (.builtin "object.__class__")))
   (hn:PySem.W.specialIn K (.builtin "object.__class__") "__get__"=some (some (.builtin "getset_descriptor.__get__"))) (htk:PySem.W.takesIn K (.builtin "object.__class__")=some true)
   (hm:PySem.W.mroIn K C (.type "object")=some true):TyOf K H (.ref a) (.ref C)
theorem pJ {x:V}{u t:Value}(I:Inv X pins σ H s) (rx:RelV x u) (ty:TyOf X.K H x t) (e:PySem.W.kitOne X.K t c=some b) (h:∀tk,Q (.bool b) { s with toks:=tk }) :
  wpAny (model X.prog X.w) A (call (.builtin "isinstance") [u,c]) Q E s:=by
 cases ty with
 | non=>cases (show u=Value.none from rx); exact PySem.W.kia_one PySem.W.kitx_none I.kIn True.intro e (fun z=>nomatch z) h
 | bl y=>cases (show u=Value.bool y from rx); exact PySem.W.kia_one PySem.W.kitx_bool I.kIn True.intro e (fun z=>nomatch z) h
 | int i=>obtain ⟨t,q⟩:=(show ∃t,u=Value.int i t from rx); cases q; exact PySem.W.kia_one PySem.W.kitx_int I.kIn True.intro e (fun z=>nomatch z) h
 | str y=>obtain ⟨t,q⟩:=(show ∃t,u=Value.str y t from rx); cases q; exact PySem.W.kia_one PySem.W.kitx_str I.kIn True.intro e (fun z=>nomatch z) h
 | flt y=>obtain ⟨t,q⟩:=(show ∃t,u=Value.float y t from rx); cases q; exact PySem.W.kia_one PySem.W.kitx_float I.kIn True.intro e (fun z=>nomatch z) h
 | @lst a xs ea =>
  cases (show u=Value.ref a from rx)
  obtain ⟨_,_,n,_,h1⟩:=(show ObjOk X.prog X.w X.K H s.heap a (.lst xs) from I.hok a _ ea)
  exact PySem.W.kia_one PySem.W.kitx_list I.kIn ⟨_,h1,rfl⟩ e (fun z=>nomatch z) h
 | @frz a ob xs ea =>
  cases (show u=Value.ref a from rx)
  obtain ⟨_,_,_,n,_,h1⟩:=(show ObjOk X.prog X.w X.K H s.heap a (.frz ob (.lst xs)) from I.hok a _ ea)
  exact PySem.W.kia_one PySem.W.kitx_list I.kIn ⟨_,h1,rfl⟩ e (fun z=>nomatch z) h
 | @tup a xs ea =>
  cases (show u=Value.ref a from rx)
  obtain ⟨_,_,_,p⟩:=(show ObjOk X.prog X.w X.K H s.heap a (.tup xs) from I.hok a _ ea)
  obtain ⟨o,h1,h2,_⟩:=p
  exact PySem.W.kia_one PySem.W.kitx_tuple I.kIn ⟨o,h1,h2⟩ e (fun z=>nomatch z) h
 | @dK a kvs ea =>
  cases (show u=Value.ref a from rx)
  obtain ⟨_,_,vs,_,p⟩:=(show ObjOk X.prog X.w X.K H s.heap a (.dK kvs) from I.hok a _ ea)
  obtain ⟨o,es,ep,h1,h2,_⟩:=p
  exact PySem.W.kia_one PySem.W.kitx_dict I.kIn ⟨o,h1,h2.1⟩ e (fun z=>nomatch z) h
 | @dT a kvs ea =>
  cases (show u=Value.ref a from rx)
  obtain ⟨_,_,xs,_,o,es,ep,h1,h2,_⟩:=(show ObjOk X.prog X.w X.K H s.heap a (.dT kvs) from I.hok a _ ea)
  exact PySem.W.kia_one PySem.W.kitx_dict I.kIn ⟨o,h1,h2.1⟩ e (fun z=>nomatch z) h
 | @ins a C dx fs ea cl ha hn htk hm =>
  cases (show u=Value.ref a from rx)
  obtain ⟨mA,O,_⟩:=jL I.hok ea
  obtain ⟨od,J,_⟩:=O.look
  exact PySem.W.kia_one (PySem.W.kitx_own (cl.get _) cl.hd ha hn htk hm) I.kIn J e (fun z=>nomatch z) h
end
end L2
namespace L2
open PySem PySem.Spec PyProof.Rows
structure Room (k:Nat) (A:Around):Prop where
 hd:A.handled=none
 dp:A.depth+3 * k+5<recursionLimit
 un:A.units+16 * k+200<cLine
theorem Room.mono {j k:Nat}{A:Around}(r:Room k A) (h:j<=k):Room j A:=⟨r.hd,by have:=r.dp; omega,by have:=r.un; omega⟩
theorem Room.deeper {k:Nat}{A:Around}(r:Room (k+1) A) (env:Env):Room k (A.deeper env) :=
 ⟨r.hd,by have:=r.dp; show A.depth+1+3 * k+5<_; omega,by have:=r.un; show A.units+3+16 * k+200<_; omega⟩
theorem nB {A:Around}{C:Addr}{us:List Value}{kw:List (Str×Value)}:(A.under (.builtin "type.__call__" ⟨.ref C::us,kw⟩)).depth=A.depth+1:=by
 first | rfl | simp [Around.under,Code.weight,Code.isCreation,Code.isGuard,Code.isCaller,Code.frames,Code.isFrame,guardIds]
theorem nu {A:Around}{C:Addr}{us:List Value}{kw:List (Str×Value)}:(A.under (.builtin "type.__call__" ⟨.ref C::us,kw⟩)).units=A.units+1:=by
 first | rfl | simp [Around.under,Code.cUnits,Code.frames,Code.isFrame]
theorem Room.make {k:Nat}{A:Around}(r:Room (k+1) A) (C:Addr) (us:List Value) (kw:List (Str×Value)):Room k (A.under (.builtin "type.__call__" ⟨.ref C::us,kw⟩)) :=
 ⟨r.hd,by have:=r.dp; rw [nB]; omega,by have:=r.un; rw [nu]; omega⟩
theorem Room.depth {k:Nat}{A:Around}(r:Room k A):A.depth<recursionLimit:=by have:=r.dp; omega
theorem Room.units {k:Nat}{A:Around}(r:Room k A):A.units+64<cLine:=by have:=r.un; omega
def ao:TA:=fun _ H Q=>Q [] H
def ac (ta:TE) (tr:TA):TA:=fun σ H Q=>ta σ H fun x H1=>tr σ H1 fun xs H2=>Q (x::xs) H2
section
variable {X:Cx}{e:Expr}{es:List Expr}{te:TE}{t:TA}{pos:Pos}
theorem bZ:PA X [] ao:=fun _ _ _ _ H Q I h=>Calls.spliced_nil ⟨[],H,I,.nil,h⟩
theorem aL (ha:PE X e te) (hr:PA X es t) (hs:starEach (e::es) X.env=(false,eval e X.env)::starEach es X.env:=by rfl):PA X (e::es) (ac te t):=by
 intro pos pins s σ H Q I h
 rw [hs]
 show wpAny _ _ (spliced ((false,eval e X.env)::backTo pos (starEach es X.env))) _ _ s
 refine Calls.spliced_cons (thn (ha pins s σ H _ I h) fun u s1 ⟨x,H1,I1,r1,q1⟩=>?_)
 exact thn (hr pos pins s1 σ H1 _ I1 q1) fun us s2 ⟨xs,H2,I2,r2,q2⟩=>⟨x::xs,H2,I2,.cons r1 r2,q2⟩
def d4 (t:TA):TE:=fun σ H Q=>t σ H fun xs H1=>xs.length<=sizeLine/\∀p,H1 p=none->Q (.ref p) (upd H1 p (.tup xs))
def eP (t:TA):TE:=fun σ H Q=>t σ H fun xs H1=>xs.length<=sizeLine/\∀p,H1 p=none->Q (.ref p) (upd H1 p (.lst xs))
theorem aO {x1}(h:PA X es t):PE X (.Tuple es x1 pos) (d4 t):=by
 intro pins s σ H Q I hq
 refine wpAny_Tuple_spliced (thn (h pos pins s σ H _ I hq) fun us s1 ⟨xs,H1,I1,r,z,q⟩=>⟨by rw [<-r.length]; exact z,?_⟩)
 have hf:H1 s1.heap.objs.size=none:=I1.hok.fresh (Nat.le_refl _)
 refine ⟨.ref s1.heap.objs.size,upd H1 s1.heap.objs.size (.tup xs),I1.laid (t':=s1.toks) (fun b u e=>Heap.get?_push_of_some _ e) (Nat.le_refl _) ?_,rfl,q _ hf⟩
 exact ⟨z,us,r,⟨_,Heap.get?_push_size _ rfl,rfl,_,rfl⟩⟩
theorem aQ (h:PA X es t):PE X (.List es pos) (eP t):=by
 intro pins s σ H Q I hq
 refine wpAny_List_spliced (thn (h pos pins s σ H _ I hq) fun us s1 ⟨xs,H1,I1,r,z,q⟩=>⟨by rw [<-r.length]; exact z,?_⟩)
 have hf:H1 s1.heap.objs.size=none:=I1.hok.fresh (Nat.le_refl _)
 refine ⟨.ref s1.heap.objs.size,upd H1 s1.heap.objs.size (.lst xs),I1.laid (t':=s1.toks) (fun b u e=>Heap.get?_push_of_some _ e) (Nat.le_refl _) ?_,rfl,q _ hf⟩
 exact ⟨z,us,0,r,Heap.get?_push_size _ rfl⟩
end
abbrev Sp:=List V->Hp->VK->XK->Prop
abbrev CXT:=List Env->Hp->Shared->XK->Value->Shared->Prop
structure Env0 (P:Program) (w:World) (K:PySem.W.Frag) (mg:Str->Option Value) (base:Heap) (A:Around) (outer:List Env) (s:Shared) (H:Hp):Prop where
 frames:A.frames=some outer
 mod:Mod K mg base
 bs:∀b o,base.get? b=some o->s.heap.get? b=some o/\H b=none
 bsz:base.objs.size<=s.heap.objs.size
 funs:s.heap.FunFrames base outer
 frf:∀b∈frs outer,H b=none
 hok:HOk P w K H s.heap
 bare:AllBare s.gens
def CE (outer:List Env) (P:Program) (w:World) (K:PySem.W.Frag) (H:Hp) (s:Shared) (Q:VK) (u:Value) (s':Shared):Prop :=
 ∃v H',s'.os=s.os/\AllBare s'.gens/\Un (frs outer) [] H H' s.heap s'.heap/\HOk P w K H' s'.heap/\RelV v u/\Q v H'
def CR (CX:CXT) (outer:List Env) (P:Program) (w:World) (K:PySem.W.Frag) (H:Hp) (s:Shared) (Q:VK) (E:XK) (r:Result) (s':Shared):Prop :=
 match r with
 | .ok (.ret u)=>CE outer P w K H s Q u s'
 | .ok _=>False
 | .error e=>CX outer H s E e s'
structure gy (P:Program) (w:World) (K:PySem.W.Frag) (mg:Str->Option Value) (base:Heap) (CX:CXT) (k:Nat) (f:Addr) (fd:FuncData) (ps:List Str) (sp:Sp):Prop where
 len:∀vs H Q E,sp vs H Q E->vs.length=ps.length
 run:∀(A:Around) (outer:List Env) (s:Shared) (H:Hp) (args:Args) (us:List Value) (vs:List V) (Q:VK) (E:XK),Room k A->Env0 P w K mg base A outer s H->BindsTo s fd args (ps.zip us)->Vals vs us->sp vs H Q E ->
  codeAny (model P w) A (.call (.ref f) args) (CR CX outer P w K H s Q E) s
theorem Env0.make {P:Program}{w:World}{K:PySem.W.Frag}{mg:Str->Option Value}{base:Heap}{A:Around}{outer:List Env}{s:Shared}{H:Hp}(e:Env0 P w K mg base A outer s H) (C:Addr) (us:List Value) (kw:List (Str×Value)) :
  Env0 P w K mg base (A.under (.builtin "type.__call__" ⟨.ref C::us,kw⟩)) outer s H:=⟨by first | exact e.frames | (simpa [Around.under,Code.envs,Code.isFrame,pushEnvs] using e.frames),e.mod,e.bs,e.bsz,e.funs,e.frf,e.hok,e.bare⟩
section
variable {X:Cx}{pins:List (Addr×Obj)}{σ:St}{H:Hp}{s s':Shared}
theorem Inv.env0 (I:Inv X pins σ H s):Env0 X.prog X.w X.K X.mg X.base X.A X.stack s H :=
 ⟨I.ok.frames,I.ok.mod,I.bs,Nat.le_trans I.ok.bsz I.sz,I.stack,I.stkFree,I.hok,I.bare⟩
theorem Inv.after {Q:VK}{u:Value}(I:Inv X pins σ H s) (h:CE X.stack X.prog X.w X.K H s Q u s'):EP X pins σ Q u s':=by
 obtain ⟨v,H',os,bare,un,hok,r,q⟩:=h
 obtain ⟨hh,g,d,t,os'⟩:=s'
 obtain rfl:os'=s.os:=os
 exact ⟨v,H',I.call (h':=hh) (g':=g) (d':=d) (t':=t) (ch:=[]) un hok bare (fun b z=>absurd z (by simp)),r,q⟩
end
def av (sp:Sp) (dvs:List V) (E:XK) (t:TA):TE:=fun σ H Q=>t σ H fun vs H1=>sp (vs++dvs) H1 Q E
def eO (C:Addr) (m:Str) (sp:Sp) (dvs:List V) (E:XK) (ta:TE) (t:TA):TE:=fun σ H Q=>ta σ H fun x H1=>∃a dx fs,x=.ref a/\H1 a=some (.ins C dx fs)/\fs.lookup m=none /\
 t σ H1 fun vs H2=>sp (x::(vs++dvs)) H2 Q E
def tq (C:Addr) (sp:Sp) (dvs:List V) (E:XK) (t:TA):TE:=fun σ H Q=>t σ H fun vs H1=>∀x dx,H1 x=none->H1 dx=none->dx≠x ->
 sp (.ref x::(vs++dvs)) (upd (upd H1 dx (.own x)) x (.ins C dx [])) (fun v H2=>v=.non/\Q (.ref x) H2) E
def Binds (K:PySem.W.Frag) (fd:FuncData) (ps:List Str) (ds:List Value):Prop :=
 ∀(s:Shared) (us:List Value),K.In s.heap->(us++ds).length=ps.length->BindsTo s fd ⟨us,[]⟩ (ps.zip (us++ds))
theorem Binds.all {K:PySem.W.Frag}{fd:FuncData}{ps:List Str}(h:∀us:List Value,us.length=ps.length->bindArgs fd ⟨us,[]⟩=pure (ps.zip us)):Binds K fd ps []:=fun s us _ hl=>by
 rw [List.append_nil] at hl ⊢
 exact .of_eq (h us hl)
def iq (CX:CXT) (X:Cx) (E:XK):Prop:=∀(pins:List (Addr×Obj)) (σ:St) (H:Hp) (s:Shared) (e:Value) (s':Shared),Inv X pins σ H s->CX X.stack H s E e s'->X.xe e s'
section
variable {X:Cx}{CX:CXT}{k:Nat}{f C:Addr}{fd:FuncData}{ps:List Str}{sp:Sp}{dvs:List V}{ds:List Value}{E:XK}{x m:Str}{p pos apos:Pos}{e o:Expr}{es:List Expr}{ta:TE}{t:TA}
theorem oO {pins:List (Addr×Obj)}{σ:St}{H:Hp}{s:Shared}{Q:VK}{us:List Value}{vs:List V}(F:gy X.prog X.w X.K X.mg X.base CX k f fd ps sp) (hr:Room k X.A) (hb:Binds X.K fd ps ds) (hd:Vals dvs ds) (hx:iq CX X E)
  (I:Inv X pins σ H s) (r:Vals vs us) (h:sp (vs++dvs) H Q E):wpAny (model X.prog X.w) X.A (call (.ref f) us) (EP X pins σ Q) X.xe s:=by
 have r2:Vals (vs++dvs) (us++ds):=r.append hd
 have hl:(us++ds).length=ps.length:=by rw [<-r2.length]; exact F.len _ _ _ _ h
 refine wpAny_call (codeAny_mono (F.run X.A X.stack s H ⟨us,[]⟩ (us++ds) (vs++dvs) Q E hr I.env0 (hb s us I.kIn hl) r2 h) fun r s' hq=>?_)
 cases r with
 | error e=>exact hx pins σ H s e s' I hq
 | ok fl =>
  cases fl with
  | ret u=>exact I.after hq
  | next=>exact False.elim hq
  | brk=>exact False.elim hq
  | cont=>exact False.elim hq
theorem tX (F:gy X.prog X.w X.K X.mg X.base CX k f fd ps sp) (hr:Room k X.A) (hg:Gl X x) (hm:X.mg x=some (.ref f)) (hk:PySem.W.keepIn X.K (.ref f)=true) (hb:Binds X.K fd ps ds) (hd:Vals dvs ds) (hx:iq CX X E)
  (ha:PA X (e::es) t) (hdb:(x == ("__debug__":Str))=false:=by decide) (he:starEach (e::es) X.env=(false,eval e X.env)::starEach es X.env:=by rfl) (hpl:(backTo pos (starEach es X.env)).any (·.1)=false:=by rfl) :
  PE X (.Call (.Name x p) (e::es) [] pos) (av sp dvs E t):=by
 intro pins s σ H Q I h
 refine wpAny_Call_Name_kw (dz I hg hm ?_ hdb)
 refine PySem.W.callWith_K (h₀:=X.base) I.ok.mod.kin hk (thn (ha pos pins s σ H _ I h) fun us s1 ⟨vs,H1,I1,r,q⟩=>⟨I1.kIn,?_⟩) he hpl
 exact oO F hr hb hd hx I1 r q
theorem tU {pl:Sem Bool}(he:PE X o ta) (c:Cls X.K C) (hm:ur X.K C m f) (F:gy X.prog X.w X.K X.mg X.base CX k f fd ps sp) (hr:Room k X.A) (hb:Binds X.K fd ps ds) (hd:Vals dvs ds) (hx:iq CX X E) (ha:PA X (e::es) t)
  (hst:starEach (e::es) X.env=(false,eval e X.env)::starEach es X.env:=by rfl) (hpl:(backTo pos (starEach es X.env)).any (·.1)=false:=by rfl)
  (ht:eval (.Call (.Attribute o m apos) (e::es) [] pos) X.env=(do
   let ov <- eval o X.env
   standAt apos.atName
   let (f,first) <- holding [ov] (getMethod ov m pl)
   callWith pos f first (backTo pos (starEach (e::es) X.env)) (backToKw pos (keywordEach [] X.env))):=by rfl) :
  PE X (.Call (.Attribute o m apos) (e::es) [] pos) (eO C m sp dvs E ta t):=by
 intro pins s σ H Q I h
 refine PySem.W.methodCall_KW (pl:=pl) (thn (he pins s σ H _ I h) fun u s1 ⟨x,H1,I1,rx,a,dx,fs,ex,ea,l,q⟩=>?_) ht
 subst ex
 obtain rfl:u=Value.ref a:=rx
 refine fL I1 ea c hm l ?_
 refine PySem.W.callWith_K (first:=[.ref a]) (h₀:=X.base) I.ok.mod.kin hm.kp (thn (ha pos pins s1 σ H1 _ I1 q) fun us s2 ⟨vs,H2,I2,r,q2⟩=>⟨I2.kIn,?_⟩) hst hpl
 exact oO (us:=.ref a::us) (vs:=.ref a::vs) F hr hb hd hx I2 (.cons rfl r) q2
theorem rq {pl:Sem Bool}(he:PE X o ta) (c:Cls X.K C) (hm:ur X.K C m f) (F:gy X.prog X.w X.K X.mg X.base CX k f fd ps sp) (hr:Room k X.A) (hb:Binds X.K fd ps ds) (hd:Vals dvs ds) (hx:iq CX X E)
  (ht:eval (.Call (.Attribute o m apos) [] [] pos) X.env=(do
   let ov <- eval o X.env
   standAt apos.atName
   let (f,first) <- holding [ov] (getMethod ov m pl)
   callWith pos f first (backTo pos (starEach [] X.env)) (backToKw pos (keywordEach [] X.env))):=by rfl) :
  PE X (.Call (.Attribute o m apos) [] [] pos) (eO C m sp dvs E ta ao):=by
 intro pins s σ H Q I h
 refine PySem.W.methodCall_KW (pl:=pl) (thn (he pins s σ H _ I h) fun u s1 ⟨x,H1,I1,rx,a,dx,fs,ex,ea,l,q⟩=>?_) ht
 subst ex
 obtain rfl:u=Value.ref a:=rx
 refine fL I1 ea c hm l ?_
 exact PySem.W.callWith_K0 (first:=[.ref a]) I1.kIn hm.kp (oO (us:=[.ref a]) (vs:=[.ref a]) F hr hb hd hx I1 (.cons rfl .nil) q)
structure Mk (K:PySem.W.Frag) (C f:Addr):Prop where
 makes:PySem.W.makesIn K C=true
 init:PySem.W.findIn K (.ref C) "__init__"=some (some (.ref f))
 fn:PySem.W.isFn K (.ref f)=true
 kp:PySem.W.keepIn K (.ref C)=true
theorem qW {pins:List (Addr×Obj)}{σ:St}{H:Hp}{s:Shared}{Q:VK}{us:List Value}{vs:List V}(M:Mk X.K C f) (F:gy X.prog X.w X.K X.mg X.base CX k f fd ps sp) (hr:Room (k+1) X.A) (hb:Binds X.K fd ps ds) (hd:Vals dvs ds)
  (hx:iq CX X E) (I:Inv X pins σ H s) (r:Vals vs us)
  (h:∀x dx,H x=none->H dx=none->dx≠x->sp (.ref x::(vs++dvs)) (upd (upd H dx (.own x)) x (.ins C dx [])) (fun v H2=>v=.non/\Q (.ref x) H2) E) :
  wpAny (model X.prog X.w) X.A (call (.ref C) us) (EP X pins σ Q) X.xe s:=by
 have hq:=h (s.heap.objs.size+1) s.heap.objs.size (I.hok.fresh (Nat.le_succ _)) (I.hok.fresh (Nat.le_refl _)) (Nat.ne_of_lt (Nat.lt_succ_self _))
 have I2:=Inv.made (C:=C) I
 have r2:Vals (V.ref (s.heap.objs.size+1)::(vs++dvs)) (Value.ref (s.heap.objs.size+1)::(us++ds)):=.cons rfl (r.append hd)
 have hl:(Value.ref (s.heap.objs.size+1)::us++ds).length=ps.length:=by
  have e:=r2.length
  rw [F.len _ _ _ _ hq] at e
  exact e.symm
 refine wpAny_call (rG (f:=f) I.kIn M.makes M.init (beq_iff_eq.mp M.fn) (codeAny_mono (F.run _ X.stack _ _ ⟨Value.ref (s.heap.objs.size+1)::us,[]⟩ (Value.ref (s.heap.objs.size+1)::(us++ds)) _ _ E (hr.make C us [])
  (I2.env0.make C us []) (hb _ (Value.ref (s.heap.objs.size+1)::us) I2.kIn hl) r2 hq) fun r s' hq'=>?_))
 cases r with
 | error e=>exact hx pins σ _ _ e s' I2 hq'
 | ok fl =>
  cases fl with
  | ret u =>
   obtain ⟨v,H',I3,rv,ev,q3⟩:=I2.after hq'
   subst ev
   exact ⟨rv,⟨V.ref (s.heap.objs.size+1),H',I3,rfl,q3⟩⟩
  | next=>exact False.elim hq'
  | brk=>exact False.elim hq'
  | cont=>exact False.elim hq'
theorem tV (M:Mk X.K C f) (F:gy X.prog X.w X.K X.mg X.base CX k f fd ps sp) (hr:Room (k+1) X.A) (hg:Gl X x) (hm:X.mg x=some (.ref C)) (hb:Binds X.K fd ps ds) (hd:Vals dvs ds) (hx:iq CX X E)
  (ha:PA X (e::es) t) (hdb:(x == ("__debug__":Str))=false:=by decide) (he:starEach (e::es) X.env=(false,eval e X.env)::starEach es X.env:=by rfl) (hpl:(backTo pos (starEach es X.env)).any (·.1)=false:=by rfl) :
  PE X (.Call (.Name x p) (e::es) [] pos) (tq C sp dvs E t):=by
 intro pins s σ H Q I h
 refine wpAny_Call_Name_kw (dz I hg hm ?_ hdb)
 refine PySem.W.callWith_K (h₀:=X.base) I.ok.mod.kin M.kp (thn (ha pos pins s σ H _ I h) fun us s1 ⟨vs,H1,I1,r,q⟩=>⟨I1.kIn,?_⟩) he hpl
 exact qW M F hr hb hd hx I1 r q
end
section
variable {X:Cx}{CX:CXT}{k:Nat}{f C:Addr}{fd:FuncData}{ps ks:List Str}{sp:Sp}{E:XK}{x m:Str}{p pos apos kpos:Pos}{e o:Expr}{es:List Expr}{kws:List Keyword}{te ta:TE}{t tk:TA}{nm:Option Str}
structure wg (K:PySem.W.Frag) (fd:FuncData) (ps ks:List Str) (g:List Value->List Value->List Value) (gV:List V->List V->List V):Prop where
 to:∀(s:Shared) (us ws:List Value),K.In s.heap->(g us ws).length=ps.length->BindsTo s fd ⟨us,ks.zip ws⟩ (ps.zip (g us ws))
 rel:∀{vs:List V}{us:List Value}{zs:List V}{ws:List Value},Vals vs us->Vals zs ws->Vals (gV vs zs) (g us ws)
variable {g:List Value->List Value->List Value}{gV:List V->List V->List V}
end
structure bN (N P:List Str) (sc:Scope):Prop where
 kind:sc.kind=.function
 co:sc.isCoroutine=false
 gen:sc.isGenerator=false
 nd:N.Nodup
 pre:N.take P.length=P
 par:∀x∈P,sc.names.lookup x=some .local∨sc.names.lookup x=some .cell
 nofree:∀y∈sc.names,y.2≠.free
theorem kJ {kindOf:Str->Option NameKind}{x:Str}:∀{binds:List (Str×Value)}{m:Str->Option Value},(∀v,(x,v)∉binds)->bindL kindOf binds m x=m x
 | [],_,_=>rfl
 | (n,v)::r,m,h=>by
  unfold bindL
  rw [kJ fun w hw=>h w (List.mem_cons_of_mem _ hw)]
  split
  ·have:x≠n:=by rintro rfl; exact h v List.mem_cons_self
   simp [this]
  ·rfl
theorem kL {kindOf:Str->Option NameKind}{x:Str}:∀{binds:List (Str×Value)}{m:Str->Option Value},(∀v,(x,v)∉binds)->bindC kindOf binds m x=m x
 | [],_,_=>rfl
 | (n,v)::r,m,h=>by
  unfold bindC
  rw [kL fun w hw=>h w (List.mem_cons_of_mem _ hw)]
  split
  ·rfl
  ·have:x≠n:=by rintro rfl; exact h v List.mem_cons_self
   simp [this]
theorem kK {kindOf:Str->Option NameKind}{x:Str}{v:Value}:∀{P:List Str}{vs:List Value}{i:Nat}{m:Str->Option Value},P.Nodup->P[i]?=some x->vs[i]?=some v->kindOf x=some .local ->
  bindL kindOf (P.zip vs) m x=some v
 | [],_,_,_,_,h,_,_=>by simp at h
 | _::_,[],_,_,_,_,h,_=>by simp at h
 | p::P,w::vs,0,m,nd,h1,h2,hk=>by
  simp at h1 h2; subst h1; subst h2
  show bindL kindOf ((p,w)::P.zip vs) m p=_
  unfold bindL
  rw [kJ fun v hv=>(List.nodup_cons.mp nd).1 (List.of_mem_zip hv).1,if_pos hk]
  simp
 | p::P,w::vs,i+1,m,nd,h1,h2,hk=>by
  show bindL kindOf ((p,w)::P.zip vs) m x=_
  unfold bindL
  exact kK (i:=i) (List.nodup_cons.mp nd).2 (by simpa using h1) (by simpa using h2) hk
theorem kM {kindOf:Str->Option NameKind}{x:Str}{v:Value}:∀{P:List Str}{vs:List Value}{i:Nat}{m:Str->Option Value},P.Nodup->P[i]?=some x->vs[i]?=some v->kindOf x≠some .local ->
  bindC kindOf (P.zip vs) m x=some v
 | [],_,_,_,_,h,_,_=>by simp at h
 | _::_,[],_,_,_,_,h,_=>by simp at h
 | p::P,w::vs,0,m,nd,h1,h2,hk=>by
  simp at h1 h2; subst h1; subst h2
  show bindC kindOf ((p,w)::P.zip vs) m p=_
  unfold bindC
  rw [kL fun v hv=>(List.nodup_cons.mp nd).1 (List.of_mem_zip hv).1,if_neg hk]
  simp
 | p::P,w::vs,i+1,m,nd,h1,h2,hk=>by
  show bindC kindOf ((p,w)::P.zip vs) m x=_
  unfold bindC
  exact kM (i:=i) (List.nodup_cons.mp nd).2 (by simpa using h1) (by simpa using h2) hk
def start (N:List Str) (vs:List V):St:=vs.map some++List.replicate (N.length-vs.length) none
def qC (CX:CXT) (P:Program) (w:World) (K:PySem.W.Frag) (mg:Str->Option Value) (base:Heap) (N:List Str) (qual:Str) (scope:Scope) (f:Addr) (cd:Value) (A:Around) (outer:List Env) (s:Shared) (H:Hp) (E:XK):Cx where
 prog:=P
 w:=w
 K:=K
 mg:=mg
 base:=base
 A:=A.deeper (envOfC qual scope s.heap.objs.size f cd)
 N:=N
 s₀:=s
 H₀:=H
 env:=envOfC qual scope s.heap.objs.size f cd
 outer:=outer
 stack:=envOfC qual scope s.heap.objs.size f cd::outer
 ex:=[]
 calm:=true
 fn:=fun _=>true
 pn:=[]
 xe:=fun e s'=>wpAny (model P w) (A.deeper (envOfC qual scope s.heap.objs.size f cd)) (leaving (envOfC qual scope s.heap.objs.size f cd) e) (fun _ s''=>CX outer H s E e s'') (fun e' s''=>CX outer H s E e' s'') s'
theorem mG {sc:Scope}{n:Nat}{x:Str}(h:sc.names.lookup x=some .cell):∃c,(cellsFrom n sc.names []).lookup x=some c:=by
 have q:=PySem.W.cellsFrom_some sc.names n [] (.inl h)
 exact Option.isSome_iff_exists.mp q
theorem pM {CX:CXT}{P:Program}{w:World}{K:PySem.W.Frag}{mg:Str->Option Value}{base:Heap}{N ps:List Str}{qual:Str}{scope:Scope}{f:Addr}{cd:Value}{A:Around}{outer:List Env}{s s1:Shared}{H:Hp}{E:XK}{us:List Value}{vs:List V}
  (S:bN N ps scope) (hd:A.handled=none) (e0:Env0 P w K mg base A outer s H) (hl:vs.length=ps.length) (r:Vals vs us)
  (x:InCallC s s.heap.objs.size (bindL (envOfC qual scope s.heap.objs.size f cd).kindOf (ps.zip us) fun _=>none) (cellsFrom (s.heap.objs.size+1) scope.names []) (bindC (envOfC qual scope s.heap.objs.size f cd).kindOf (ps.zip us) fun _=>none) s1) :
  Inv (qC CX P w K mg base N qual scope f cd A outer s H E) [] (start N vs) H s1:=by
 have hpl:ps.length<=N.length:=by have:=congrArg List.length S.pre; rw [List.length_take] at this; omega
 obtain ⟨h1,tk,rfl,hk⟩:=x.done
 have noA:∀b:Addr,b∉(qC CX P w K mg base N qual scope f cd A outer s H E).ex:=fun b z=>absurd (show b∈([]:List Addr) from z) (by simp)
 refine ⟨⟨e0.mod,S.kind,rfl,rfl,Nat.le_refl _,fun y z c h1 h2=>?_,fun y hy=>?_,fun y c _ h=>?_,fun _=>hd,Around.frames_deeper e0.frames,.inr ⟨rfl,rfl⟩,fun b z=>absurd z (noA b),e0.bs,e0.bsz,fun b _ _=>noA b,fun b z=>absurd z (noA b),e0.funs,e0.frf⟩,
  rfl,e0.bare,Un.kept hk,⟨_,x.toInCall.ns,fun i y v h1 h2 h3=>?_⟩,fun y c h=>⟨_,x.cell y c h⟩,e0.hok.fresh (Nat.le_refl _),fun y c h=>?_,fun p hp=>absurd (show p∈([]:List (Addr×Obj)) from hp) (by simp),e0.hok.kept hk,?_⟩
 ·exact name_of_addr x.apart (PySem.mem_of_lookup h1) (PySem.mem_of_lookup h2)
 ·have hy:scope.names.lookup y=some .cell∨scope.names.lookup y=some .free:=hy
  rcases hy with hy | hy
  ·exact mG hy
  ·exact absurd rfl (S.nofree _ (PySem.mem_of_lookup hy))
 ·exact Nat.le_of_lt (x.above y c (PySem.mem_of_lookup h))
 ·have hi:i<vs.length:=by
   unfold start at h2
   by_cases hi:i<vs.length
   ·exact hi
   ·rw [List.getElem?_append_right (by simpa using hi)] at h2
    rw [List.getElem?_replicate] at h2
    split at h2 <;> cases h2
  have ha:vs[i]?=some v:=by
   unfold start at h2
   rw [List.getElem?_append_left (by simpa using hi),List.getElem?_map] at h2
   cases e:vs[i]? with
   | none=>rw [e] at h2; cases h2
   | some a=>rw [e] at h2; cases h2; rfl
  obtain ⟨u,hu,rv⟩:=r.get ha
  have hp:ps[i]?=some y:=by
   rw [<-S.pre,List.getElem?_take_of_lt (by omega)]; exact h1
  have ndP:ps.Nodup:=by rw [<-S.pre]; exact S.nd.sublist (List.take_sublist _ _)
  refine ⟨u,rv,?_⟩
  rcases S.par y (List.mem_of_getElem? hp) with k | k
  ·exact .inl ⟨k,kK ndP hp hu k⟩
  ·obtain ⟨c,e⟩:=mG (n:=s.heap.objs.size+1) k
   refine .inr ⟨.inl k,c,e,?_⟩
   have q:=x.cell y c e
   rw [kM ndP hp hu (by show scope.names.lookup y≠_; rw [k]; decide)] at q
   exact q
 ·exact e0.hok.fresh (Nat.le_of_lt (x.above y c (PySem.mem_of_lookup h)))
 ·unfold start
  show _=N.length
  rw [List.length_append,List.length_map,List.length_replicate]
  omega
theorem u6 {CX:CXT}{P:Program}{w:World}{K:PySem.W.Frag}{mg:Str->Option Value}{base:Heap}{k:Nat}{f:Addr}{name qual:Str}{params:Arguments}{body:List Stmt}{scope:Scope}{dV kV doc pm cdv ct oc:Value}{an od:Option Addr}
  {osl:Array (Option Value)}{N ps:List Str}{sp:Sp}(lk:K.lookup f=some ⟨oc,od,.func (PySem.W.fnOf name qual params body scope dV kV doc pm an cdv ct),osl⟩) (hcd:PySem.W.codeIn K cdv qual=true) (S:bN N ps scope)
  (len:∀vs H Q E,sp vs H Q E->vs.length=ps.length)
  (hbody:∀(A:Around) (outer:List Env) (s:Shared) (H:Hp) (vs:List V) (Q:VK) (E:XK),Room k (A.deeper (envOfC qual scope s.heap.objs.size f cdv))->sp vs H Q E ->
   ∃t,PSs (qC CX P w K mg base N qual scope f cdv A outer s H E) body t/\t { nx:=fun _ H'=>Q .non H',rt:=Q } (start N vs) H) :
  gy P w K mg base CX (k+1) f (PySem.W.fnOf name qual params body scope dV kV doc pm an cdv ct) ps sp:=by
 refine ⟨len,fun A outer s H args us vs Q E hr e0 hb r hsp=>?_⟩
 have hl:=len _ _ _ _ hsp
 have KX:K.In s.heap:=e0.mod.kin.keeps fun b o e=>(e0.bs b o e).1
 have lim:s.heap.NoLimit:=e0.mod.nolimit.keeps fun b o e=>(e0.bs b o e).1
 have hkind:∀y∈ps.zip us,scope.names.lookup y.1=some .local∨(scope.names.lookup y.1=some .cell/\((cellsFrom (s.heap.objs.size+1) scope.names []).lookup y.1).isSome=true):=fun ⟨n,v⟩ hy=>by
  rcases S.par n (List.of_mem_zip hy).1 with q | q
  ·exact .inl q
  ·exact .inr ⟨q,PySem.W.cellsFrom_some _ _ _ (.inl q)⟩
 refine codeAny_call_function hr.depth (KX _ _ lk) rfl S.co S.gen rfl (PySem.W.codeRec_of KX hcd) (hb _ _ _ _ ?_)
 refine wpAny_newFunctionEnv_cells S.kind hkind fun env he s1 x=>?_
 subst he
 refine ⟨lim.keeps x.toInCall.keep,codeAny_func ?_⟩
 obtain ⟨t,ht,hq⟩:=hbody A outer s H vs Q E (hr.deeper _) hsp
 have I:Inv (qC CX P w K mg base N qual scope f cdv A outer s H E) [] (start N vs) H s1:=pM S hr.hd e0 hl r x
 refine wpAny_mono (ht [] s1 (start N vs) H _ I hq) (fun fl s' hs=>?_) fun e s' hs=>hs
 have fin:∀{σ':St}{H':Hp}{v:V}{u:Value},Inv (qC CX P w K mg base N qual scope f cdv A outer s H E) [] σ' H' s'->RelV v u->Q v H'->CE outer P w K H s Q u s' :=
  fun {σ' H' v u} J rv q=>⟨v,H',J.os,J.bare,J.base,J.hok,rv,q⟩
 cases fl with
 | ret u =>
  obtain ⟨v,σ',H',J,rv,q⟩:=hs
  exact fin J rv q
 | next =>
  obtain ⟨σ',H',J,q⟩:=hs
  exact fin (v:=V.non) (u:=Value.none) J rfl q
 | brk =>
  obtain ⟨_,_,_,q⟩:=hs
  exact False.elim q
 | cont =>
  obtain ⟨_,_,_,q⟩:=hs
  exact False.elim q
end L2
namespace L2
open PySem PySem.Spec PyProof.Rows
section
variable {X:Cx}{x:Str}{p pos:Pos}{e:Expr}{es:List Expr}{t:TA}{id T:String}{r:List V->Hp->VK->Prop}
def tCB (r:List V->Hp->VK->Prop) (t:TA):TE:=fun σ H Q=>t σ H fun vs H1=>r vs H1 Q
theorem mm (hc:CallR X (.builtin id) r) (hg:Gl X x) (hm:X.mg x=none) (hv:bootBuiltins x=some (.builtin id)) (ha:PA X (e::es) t) (hn:x≠"__name__":=by decide) (hdb:(x == ("__debug__":Str))=false:=by decide)
  (he:starEach (e::es) X.env=(false,eval e X.env)::starEach es X.env:=by rfl) (hpl:(backTo pos (starEach es X.env)).any (·.1)=false:=by rfl):PE X (.Call (.Name x p) (e::es) [] pos) (tCB r t):=by
 intro pins s σ H Q I h
 refine wpAny_Call_Name_kw (i0 I hg hm hv ?_ hn hdb)
 exact PyProof.Rows.callWith_builtin1 (thn (ha pos pins s σ H _ I h) fun us s1 ⟨vs,H1,I1,r1,q1⟩=>hc pins s1 σ H1 vs us Q I1 r1 q1) he hpl
theorem ki (hc:CallR X (.type T) r) (hg:Gl X x) (hm:X.mg x=none) (hv:bootBuiltins x=some (.type T)) (ha:PA X (e::es) t) (hn:x≠"__name__":=by decide) (hdb:(x == ("__debug__":Str))=false:=by decide)
  (he:starEach (e::es) X.env=(false,eval e X.env)::starEach es X.env:=by rfl) (hpl:(backTo pos (starEach es X.env)).any (·.1)=false:=by rfl):PE X (.Call (.Name x p) (e::es) [] pos) (tCB r t):=by
 intro pins s σ H Q I h
 refine wpAny_Call_Name_kw (i0 I hg hm hv ?_ hn hdb)
 exact PyProof.Rows.callWith_type1 (thn (ha pos pins s σ H _ I h) fun us s1 ⟨vs,H1,I1,r1,q1⟩=>hc pins s1 σ H1 vs us Q I1 r1 q1) he hpl
end
end L2
namespace HT
open PySem PyProof.Rows
section
open PySem.SeqAt
open PySem.AutoSeq1 (wpAny_loadPart')
open PySem.MeetsSeq PySem.MeetsSeq2 PySem.MeetsSeq3
end
section
variable {prog:Program}{w:World}{A:Around}{E:Value->Shared->Prop}{s:Shared}
def sIx (n d:Nat):Option Int->Nat
 | none=>d
 | some v=>if v<0 then (v+(n:Int)).toNat else min v.toNat n
theorem sIx_none (n d:Nat):sIx n d none=d:=rfl
theorem sIx_nat (n d k:Nat):sIx n d (some (k:Int))=min k n:=by
 show (if (k:Int)<0 then ((k:Int)+(n:Int)).toNat else min (k:Int).toNat n)=min k n
 rw [if_neg (by omega),Int.toNat_natCast]
theorem sIx_le (n d:Nat) (hd:d<=n) (o:Option Int):sIx n d o<=n:=by
 cases o with
 | none=>exact hd
 | some v =>
  show (if v<0 then (v+(n:Int)).toNat else min v.toNat n)<=n
  by_cases hv:v<0
  ·rw [if_pos hv]; omega
  ·rw [if_neg hv]; exact Nat.min_le_right _ _
theorem clip_eq (v:Int) (n d:Nat):(if v<0 then max (v+(n:Int)) 0 else min v (n:Int))=((sIx n d (some v):Nat):Int):=by
 show (if v<0 then max (v+(n:Int)) 0 else min v (n:Int))=(((if v<0 then (v+(n:Int)).toNat else min v.toNat n):Nat):Int)
 by_cases hv:v<0
 ·simp only [if_pos hv]; omega
 ·simp only [if_neg hv]; omega
end
end HT
namespace L2
open PySem PySem.Spec PyProof.Rows
abbrev TO:=St->Hp->(Option Int->Hp->Prop)->Prop
def PO (X:Cx) (e:Option Expr) (t:TO):Prop :=
 ∀(pins:List (Addr×Obj)) (s:Shared) (σ:St) (H:Hp) (Q:Option Int->Hp->Prop),Inv X pins σ H s->t σ H Q ->
  wpAny (model X.prog X.w) X.A (evalPart e X.env) (fun u s'=>∃o H',Inv X pins σ H' s'/\IsPart u o/\Q o H') X.xe s
def dg:TO:=fun _ H Q=>Q none H
def gj (t:TE):TO:=fun σ H Q=>t σ H fun x H1=>∃i,x=.int i/\Q (some i) H1
section
variable {X:Cx}{e:Expr}{te:TE}{lo hi:Option Expr}{tl th:TO}{pos p2:Pos}
theorem em:PO X none dg:=by
 intro pins s σ H Q I h
 rw [evalPart_none]
 exact wpAny_pure ⟨none,H,I,.none,h⟩
theorem bY (h:PE X e te):PO X (some e) (gj te):=by
 intro pins s σ H Q I hw
 rw [evalPart_some]
 refine thn (h pins s σ H _ I hw) fun u s1 ⟨x,H1,I1,r1,q1⟩=>?_
 obtain ⟨i,rfl,q⟩:=q1
 obtain ⟨t,rfl⟩:=r1
 exact ⟨some i,H1,I1,.int i t,q⟩
def SlR (X:Cx) (r:V->Option Int->Option Int->Hp->VK->Prop):Prop :=
 ∀(pins:List (Addr×Obj)) (s:Shared) (σ:St) (H:Hp) (x:V) (v vl vu:Value) (lo hi:Option Int) (sl:Addr) (Q:VK),Inv X pins σ H s->RelV x v->s.heap.IsSliceOf sl vl vu .none->IsPart vl lo->IsPart vu hi->r x lo hi H Q ->
  ∃T id,typeLookup (.type T) "__getitem__"=pure (some (.builtin id))/\s.TypeIs v T/\wpAny (model X.prog X.w) X.A (getItem v (.ref sl)) (EP X pins σ Q) X.xe s
def tSl (r:V->Option Int->Option Int->Hp->VK->Prop) (te:TE) (tl th:TO):TE:=fun σ H Q=>te σ H fun x H1=>tl σ H1 fun l H2=>th σ H2 fun u H3=>r x l u H3 Q
theorem bT {r:V->Option Int->Option Int->Hp->VK->Prop}(hr:SlR X r) (he:PE X e te) (hl:PO X lo tl) (hu:PO X hi th):PE X (.Subscript e (.Slice lo hi none p2) pos) (tSl r te tl th):=by
 intro pins s σ H Q I h
 refine Subscript_ (thn (he pins s σ H _ I h) fun v s1 ⟨x,H1,I1,r1,q1⟩=>?_)
 refine wpAny_Slice (thn (hl pins s1 σ H1 _ I1 q1) fun vl s2 ⟨l,H2,I2,pl,q2⟩=>thn (hu pins s2 σ H2 _ I2 q2) fun vu s3 ⟨u,H3,I3,pu,q3⟩=>?_)
 rw [evalPart_none]
 refine wpAny_pure ?_
 have I4:Inv X pins σ H3 { s3 with heap:=s3.heap.push { cls:=.type "slice",data:=.fields #[vl,vu,.none] } }:=I3.kept (t':=s3.toks) fun b ob q=>Heap.get?_push_of_some _ q
 obtain ⟨T,id,hT,ht,hg⟩:=hr pins { s3 with heap:=s3.heap.push { cls:=.type "slice",data:=.fields #[vl,vu,.none] } } σ H3 x v vl vu l u s3.heap.objs.size Q I4 r1 (Heap.IsSliceOf.new ..) pl pu q3
 show wpAny (model X.prog X.w) X.A (subscriptTail e (.Slice lo hi none p2) v (.ref s3.heap.objs.size)) (EP X pins σ Q) X.xe { s3 with heap:=s3.heap.push { cls:=.type "slice",data:=.fields #[vl,vu,.none] } }
 exact tail_any (ops:=[.ref s3.heap.objs.size,v]) ht hT hg (by with_unfolding_all rfl)
def i7 (xs:List V) (lo hi:Option Int):List V:=(xs.drop (HT.sIx xs.length 0 lo)).take (HT.sIx xs.length xs.length hi-HT.sIx xs.length 0 lo)
theorem lN (xs:List V) (lo hi:Option Int):(i7 xs lo hi).length<=xs.length:=by
 unfold i7
 rw [List.length_take,List.length_drop]
 omega
end
end L2
namespace L2
open PySem PySem.Spec PyProof.Rows
def ixN (n:Nat) (i:Int):Option Nat:=if 0<=i then (if i<n then some i.toNat else none) else if -(n:Int)<=i then some (i+n).toNat else none
def atI {α:Type}(xs:List α) (i:Int):Option α:=(ixN xs.length i).bind fun j=>xs[j]?
theorem pH {n:Nat}{i:Int}{j:Nat}(h:ixN n i=some j):seqIndex? i n=some j/\j<n/\-(n:Int)<=i/\i<n:=by
 unfold ixN at h
 by_cases h0:0<=i
 ·rw [if_pos h0] at h
  by_cases h1:i<n
  ·rw [if_pos h1] at h
   have e:i.toNat=j:=Option.some.inj h
   exact ⟨by rw [seqIndex_of h0 h1,e],by omega,by omega,h1⟩
  ·rw [if_neg h1] at h; cases h
 ·rw [if_neg h0] at h
  by_cases h1:-(n:Int)<=i
  ·rw [if_pos h1] at h
   have e:(i+n).toNat=j:=Option.some.inj h
   exact ⟨by rw [seqIndex_neg (by omega) h1,e],by omega,h1,by omega⟩
  ·rw [if_neg h1] at h; cases h
theorem lQ {α:Type}{xs:List α}{i:Int}{v:α}(h:atI xs i=some v):∃j,seqIndex? i xs.length=some j/\xs[j]?=some v/\j<xs.length/\-(xs.length:Int)<=i/\i<xs.length:=by
 unfold atI at h
 cases e:ixN xs.length i with
 | none=>rw [e] at h; cases h
 | some j =>
  rw [e] at h
  obtain ⟨h1,h2,h3,h4⟩:=pH e
  exact ⟨j,h1,h,h2,h3,h4⟩
theorem dH {α:Type}{xs:List α}{j:Nat}{v:α}(h:xs[j]?=some v):atI xs (j:Int)=some v:=by
 have hj:j<xs.length:=(List.getElem?_eq_some_iff.mp h).1
 have e:ixN xs.length (j:Int)=some j:=by
  unfold ixN
  rw [if_pos (by omega),if_pos (by omega)]; simp
 unfold atI; rw [e]; exact h
def uk (b:Expr):Prop:=∀o i,subscripted b false o i=operate [o,i] (getItem o i)
def IxR (X:Cx) (r:R2):Prop :=
 ∀(value slice:Expr) (pins:List (Addr×Obj)) (s:Shared) (σ:St) (H:Hp) (x y:V) (v u:Value) (Q:VK),Inv X pins σ H s->RelV x v->RelV y u->r x y H Q ->
  subscripted slice false v u=operate [v,u] (getItem v u)->wpAny (model X.prog X.w) X.A (subscriptTail value slice v u) (EP X pins σ Q) X.xe s
def MtR (X:Cx) (id:String) (r:V->List V->Hp->VK->Prop):Prop :=
 ∀(pins:List (Addr×Obj)) (s:Shared) (σ:St) (H:Hp) (x:V) (xs:List V) (v:Value) (us:List Value) (Q:VK),Inv X pins σ H s->RelV x v->Vals xs us->r x xs H Q ->
  wpAny (model X.prog X.w) X.A (call (.builtin id) (v::us)) (EP X pins σ Q) X.xe s
section
variable {X:Cx}{a b:Expr}{ta tb:TE}{pos:Pos}
theorem IxR.or {r r':R2}(h:IxR X r) (h':IxR X r'):IxR X (fun x y H Q=>r x y H Q∨r' x y H Q):=by
 intro value slice pins s σ H x y v u Q I rx ry q hs
 rcases q with q | q
 ·exact h value slice pins s σ H x y v u Q I rx ry q hs
 ·exact h' value slice pins s σ H x y v u Q I rx ry q hs
theorem rB {r:R2}(hr:IxR X r) (ha:PE X a ta) (hb:PE X b tb) (hs:uk b):PE X (.Subscript a b pos) (tOp r ta tb):=by
 intro pins s σ H Q I h
 exact Subscript_ (vP ha hb I h fun v u s2 x y H2 I2 rx ry q=>hr a b pins s2 σ H2 x y v u Q I2 rx ry q (hs _ _))
def eG (K:PySem.W.Frag):R2:=fun x y H Q=>∃p xs i v,x=.ref p/\y=.int i/\SqL K H p xs/\atI xs i=some v/\Q v H
def tN (K:PySem.W.Frag):R2:=fun x y H Q=>∃p xs i v,x=.ref p/\y=.int i/\SqT K H p xs/\atI xs i=some v/\Q v H
def uI:R2:=fun x y H Q=>∃z i c,x=.str z/\y=.int i/\z.length<=sizeLine/\atI z.cps.toList i=some c/\Q (.str ⟨#[c]⟩) H
theorem ix_list:IxR X (eG X.K):=by
 intro value slice pins s σ H x y v u Q I rx ry h hs
 obtain ⟨p,xs,i,z,rfl,rfl,hq,he,q⟩:=h
 cases rx
 obtain ⟨t,rfl⟩:=ry
 obtain ⟨its,r,pl,hz⟩:=I.list hq
 obtain ⟨j,h1,h2,h3,h4,h5⟩:=lQ he
 obtain ⟨w,ew,rw'⟩:=r.get h2
 have hl:=r.length
 have hn:=iZ
 have fin:EP X pins σ Q w s:=⟨z,H,I,rw',q⟩
 by_cases h0:0<=i
 ·have hj:i.toNat=j:=by
   rw [seqIndex_of h0 h5] at h1
   exact Option.some.inj h1
  exact item_listR pl.isList h0 (by omega) (by rw [hj]; simpa using ew) fin hs
 ·have hj:(i+(its.toArray.size:Int)).toNat=j:=by
   rw [seqIndex_neg (by omega) h4] at h1
   rw [List.size_toArray,<-hl]
   exact Option.some.inj h1
  exact subscriptTail_builtinR (x:=w) pl.isList.typeIs slot_list_getitem.lookup
   (wpAny_getItem_list_neg (Q:=fun r s'=>r=w/\EP X pins σ Q r s') pl.isList (by omega) (by rw [List.size_toArray] <;> omega) (by omega) (by rw [hj]; simpa using ew) ⟨rfl,fin⟩) hs
theorem ix_tup:IxR X (tN X.K):=by
 intro value slice pins s σ H x y v u Q I rx ry h hs
 obtain ⟨p,xs,i,z,rfl,rfl,hq,he,q⟩:=h
 cases rx
 obtain ⟨t,rfl⟩:=ry
 obtain ⟨its,r,pl,hz⟩:=I.tuple hq
 obtain ⟨j,h1,h2,h3,h4,h5⟩:=lQ he
 obtain ⟨w,ew,rw'⟩:=r.get h2
 have hl:=r.length
 have hn:=iZ
 have fin:EP X pins σ Q w s:=⟨z,H,I,rw',q⟩
 exact subscriptTail_builtinR (x:=w) pl.typeIs slot_tuple_getitem.lookup
  (getItem_tuple (j:=j) (Q:=fun r s'=>r=w/\EP X pins σ Q r s') pl (by omega) (by omega) (by rw [List.size_toArray,<-hl]; exact h1) (by simpa using ew) ⟨rfl,fin⟩) hs
theorem sG:IxR X uI:=by
 intro value slice pins s σ H x y v u Q I rx ry h hs
 obtain ⟨z,i,c,rfl,rfl,hz,he,q⟩:=h
 obtain ⟨t,rfl⟩:=rx
 obtain ⟨t',rfl⟩:=ry
 obtain ⟨j,h1,h2,h3,h4,h5⟩:=lQ he
 have hl:z.cps.toList.length=z.length:=by simp [Str.length]
 rw [hl] at h1 h4 h5
 have hn:=iZ
 exact tail_any (typeIs_str s z t) slot_str_getitem.lookup (getItem_str (c:=c) (by
  have e1:decide (i < -(2 ^ 63:Int))=false:=decide_eq_false (by omega)
  have e2:decide (i ≥ 2 ^ 63)=false:=decide_eq_false (by omega)
  rw [e1,e2,Bool.or_false]) (by rw [h1]; simpa using h2) ⟨.str ⟨#[c]⟩,H,I.tok _,⟨_,rfl⟩,q⟩) hs
def rIx (K:PySem.W.Frag):R2:=fun x y H Q=>eG K x y H Q∨tN K x y H Q∨uI x y H Q
theorem u4:IxR X (rIx X.K):=ix_list.or (ix_tup.or sG)
theorem nr (its:List Value) (n j:Nat) (u:Value):Obj.mapSeq (·.setIfInBounds j u) { cls:=.type "list",data:=.seq its.toArray n }={ cls:=.type "list",data:=.seq (its.set j u).toArray n }:=by
 simp [Obj.mapSeq]
theorem Inv.lst {pins:List (Addr×Obj)}{σ:St}{H:Hp}{s:Shared}{p:Addr}{xs:List V}(I:Inv X pins σ H s) (h:H p=some (.lst xs)) :
  ∃(its:List Value) (n:Nat),Vals xs its/\s.heap.get? p=some { cls:=.type "list",data:=.seq its.toArray n }/\xs.length<=sizeLine:=by
 obtain ⟨z,its,n,r,e⟩:=I.hok p _ h
 exact ⟨its,n,r,e,z⟩
theorem Inv.lstUpd {pins:List (Addr×Obj)}{σ:St}{H:Hp}{s:Shared}{p:Addr}{xs ys:List V}{its its':List Value}{n n':Nat}{f:Obj->Obj}(I:Inv X pins σ H s) (h:H p=some (.lst xs))
  (ho:s.heap.get? p=some { cls:=.type "list",data:=.seq its.toArray n }) (hf:f { cls:=.type "list",data:=.seq its.toArray n }={ cls:=.type "list",data:=.seq its'.toArray n' }) (r:Vals ys its') (hz:ys.length<=sizeLine) (t:Nat) :
  Inv X pins σ (upd H p (.lst ys)) { s with heap:=s.heap.update p f,toks:=t }:=by
 have e:(s.heap.update p f).get? p=some { cls:=.type "list",data:=.seq its'.toArray n' }:=by
  rw [Heap.get?_update_self f ho (by rw [hf] <;> rfl),hf]
 refine I.write (x:=p) (e:=p) (by rw [h]; trivial) (.inl rfl) (fun b u hb q=>(Heap.get?_update_other _ _ (Ne.symm hb)).trans q) ⟨_,e⟩ ?_
 exact ⟨hz,its',n',r,e⟩
def lr:V->V->V->Hp->(Hp->Prop)->Prop:=fun o i v H Q=>∃p xs k j,o=.ref p/\i=.int k/\H p=some (.lst xs)/\ixN xs.length k=some j/\Q (upd H p (.lst (xs.set j v)))
theorem eU:wd X lr:=by
 intro pins s σ H o i v ov iv u Q I ro ri rv h
 obtain ⟨p,xs,k,j,rfl,rfl,hp,hj,q⟩:=h
 cases ro
 obtain ⟨t,rfl⟩:=ri
 obtain ⟨its,n,r,ho,hz⟩:=I.lst hp
 obtain ⟨h1,h2,h3,h4⟩:=pH hj
 have hl:=r.length
 have hn:=iZ
 have I':Inv X pins σ (upd H p (.lst (xs.set j v))) { s with heap:=s.heap.update p (Obj.mapSeq (·.setIfInBounds j u)) } :=
  I.lstUpd hp ho (nr its n j u) (r.set rv j) (by rw [List.length_set]; exact hz) s.toks
 by_cases h0:0<=k
 ·have hk:k.toNat=j:=by
   rw [seqIndex_of h0 h4] at h1
   exact Option.some.inj h1
  exact PySem.W.ki_setAt ho h0 (by omega) (by rw [List.size_toArray,<-hl]; exact h4) (by rw [hk]; exact ⟨_,I',q⟩)
 ·have hk:(k+(its.toArray.size:Int)).toNat=j:=by
   rw [seqIndex_neg (by omega) h3] at h1
   rw [List.size_toArray,<-hl]
   exact Option.some.inj h1
  exact PySem.W.ki_setBack ho (by omega) (by rw [List.size_toArray,<-hl]; exact h3) (by omega) (by rw [hk]; exact ⟨_,I',q⟩)
theorem ke (lo hi:Option Int) (n:Nat):(sliceBounds lo hi none n).1=((HT.sIx n 0 lo:Nat):Int)/\(sliceBounds lo hi none n).2.1=((HT.sIx n n hi:Nat):Int)/\(sliceBounds lo hi none n).2.2=1:=by
 refine ⟨?_,?_,rfl⟩
 ·cases lo with
  | none=>simp [sliceBounds,HT.sIx]
  | some i =>
   simp only [sliceBounds,HT.sIx,Option.getD_none,show (1:Int) > 0 by decide,if_true]
   by_cases h:i<0
   ·simp only [h,if_true] <;> omega
   ·simp only [h,if_false] <;> omega
 ·cases hi with
  | none=>simp [sliceBounds,HT.sIx]
  | some i =>
   simp only [sliceBounds,HT.sIx,Option.getD_none,show (1:Int) > 0 by decide,if_true]
   by_cases h:i<0
   ·simp only [h,if_true] <;> omega
   ·simp only [h,if_false] <;> omega
theorem jw (its:List Value) (lo hi:Option Int):slicePick its.toArray lo hi none=((its.drop (HT.sIx its.length 0 lo)).take (HT.sIx its.length its.length hi-HT.sIx its.length 0 lo)).toArray:=by
 obtain ⟨h1,h2,h3⟩:=ke lo hi its.toArray.size
 unfold slicePick
 rw [h1,h2,h3]
 simp only [sliceRange_one,pick_run,List.size_toArray] <;> rfl
def tM (K:PySem.W.Frag):V->Option Int->Option Int->Hp->VK->Prop:=fun x lo hi H Q=>∃a xs,x=.ref a/\SqL K H a xs/\∀p,H p=none->Q (.ref p) (upd H p (.lst (i7 xs lo hi)))
theorem fB:SlR X (tM X.K):=by
 intro pins s σ H x v vl vu lo hi sl Q I rx hs pl pu h
 obtain ⟨a,xs,rfl,hx,q⟩:=h
 cases rx
 obtain ⟨its,r,ht,hz⟩:=I.list hx
 have hlen:=r.length
 refine ⟨"list",_,slot_list_getitem.lookup,ht.isList.typeIs,?_⟩
 refine wpAny_getItem_list_slice ht.isList hs pl pu .none (by simp) ?_ (by rw [List.size_toArray] <;> omega)
 rw [jw,<-hlen]
 refine ⟨.ref s.heap.objs.size,_,I.laid (t':=s.toks) (o:=.lst (i7 xs lo hi)) (fun b ob q=>Heap.get?_push_of_some _ q) (Nat.le_refl _) ?_,rfl,q _ (I.hok.fresh (Nat.le_refl _))⟩
 exact ⟨Nat.le_trans (lN xs lo hi) hz,_,0,(r.drop (HT.sIx xs.length 0 lo)).take (HT.sIx xs.length xs.length hi-HT.sIx xs.length 0 lo),Heap.get?_push_size _ rfl⟩
theorem call_len_seq:CallR X (.builtin "len") (fun xs H Q=>∃p ys,xs=[.ref p]/\(SqL X.K H p ys∨SqT X.K H p ys)/\Q (.int ys.length) H):=by
 intro pins s σ H xs us Q I r h
 obtain ⟨p,ys,rfl,hq,q⟩:=h
 obtain ⟨u,rfl,rx⟩:=jW r
 cases rx
 have hn:=iZ
 rcases hq with hq | hq
 ·obtain ⟨its,r',pl,hz⟩:=I.list hq
  have hlen:=r'.length
  exact Calls.call_len_list pl.isList (by simp only [List.size_toArray] <;> omega) ⟨.int ys.length,H,I.tok _,⟨s.toks+1,by rw [List.size_toArray,hlen]⟩,q⟩
 ·obtain ⟨its,r',pl,hz⟩:=I.tuple hq
  have hlen:=r'.length
  exact len_tuple pl (by simp only [List.size_toArray] <;> omega) ⟨.int ys.length,H,I.tok _,⟨s.toks+1,by rw [List.size_toArray,hlen]⟩,q⟩
theorem kH:CallR X (.builtin "len") (fun xs H Q=>∃z,xs=[.str z]/\z.length<=sizeLine/\Q (.int z.length) H):=by
 intro pins s σ H xs us Q I r h
 obtain ⟨z,rfl,hz,q⟩:=h
 obtain ⟨u,rfl,t,rfl⟩:=jW r
 have hn:=iZ
 exact len_str (by omega) ⟨.int z.length,H,I.tok _,⟨_,rfl⟩,q⟩
theorem CallR.or {f:Value}{r r':List V->Hp->VK->Prop}(h:CallR X f r) (h':CallR X f r'):CallR X f (fun xs H Q=>r xs H Q∨r' xs H Q):=by
 intro pins s σ H xs us Q I rs q
 rcases q with q | q
 ·exact h pins s σ H xs us Q I rs q
 ·exact h' pins s σ H xs us Q I rs q
theorem call_list_of:CallR X (.type "list") (fun xs H Q=>∃p ys,xs=[.ref p]/\(SqL X.K H p ys∨SqT X.K H p ys)/\∀l,H l=none->Q (.ref l) (upd H l (.lst ys))):=by
 intro pins s σ H xs us Q I r h
 obtain ⟨p,ys,rfl,hq,q⟩:=h
 obtain ⟨u,rfl,rx⟩:=jW r
 cases rx
 have fin:∀(its:List Value),Vals ys its->ys.length<=sizeLine->∀(h':Heap) (c':Nat),(∀b o',s.heap.get? b=some o'->h'.get? b=some o') ->
   h'.get? s.heap.objs.size=some { cls:=.type "list",dict:=none,data:=.seq its.toArray c',slots:=#[] }->EP X pins σ Q (.ref s.heap.objs.size) { s with heap:=h' }:=fun its r' hz h' c' kp e =>
  ⟨.ref s.heap.objs.size,_,I.laid (t':=s.toks) kp (Nat.le_refl _) (show ObjOk X.prog X.w X.K _ h' _ (.lst ys) from ⟨hz,its,c',r',e⟩),rfl,q _ (I.hok.fresh (Nat.le_refl _))⟩
 rcases hq with hq | hq
 ·obtain ⟨its,r',pl,hz⟩:=I.list hq
  have hlen:=r'.length
  obtain ⟨o,ho,hc,n,hd⟩:=pl.isList
  exact call_list_seq p (.inl rfl) ho hc hd (fun h' c' kp e=>fin its r' hz h' c' kp e) (by simp only [List.size_toArray] <;> omega)
 ·obtain ⟨its,r',pl,hz⟩:=I.tuple hq
  have hlen:=r'.length
  obtain ⟨o,ho,hc,n,hd⟩:=pl
  exact call_list_seq p (.inr rfl) ho hc hd (fun h' c' kp e=>fin its r' hz h' c' kp e) (by simp only [List.size_toArray] <;> omega)
def tyV (K:PySem.W.Frag) (T:String) (x:V) (H:Hp):Prop:=match x with
 | .str _=>T="str"
 | .int _=>T="int"
 | .ref p=>(T="list"/\∃xs,SqL K H p xs)∨(T="tuple"/\∃o,K.lookup p=some o/\o.cls=.type "tuple"/\o.dict=none) ∨
   (T="dict"/\((∃kvs,H p=some (.dK kvs))∨∃kvs,H p=some (.dT kvs)))∨(T="set"/\∃S n,H p=some (.set S n))
 | _=>False
theorem su {pins:List (Addr×Obj)}{σ:St}{H:Hp}{s:Shared}{T:String}{x:V}{v:Value}(I:Inv X pins σ H s) (r:RelV x v) (ty:tyV X.K T x H) :
  s.TypeIs v T/\∀a,v=.ref a->∃ob,s.heap.get? a=some ob/\ob.dict=none:=by
 cases x with
 | str z =>
  obtain ⟨t,rfl⟩:=r
  cases (show T="str" from ty)
  exact ⟨typeIs_str s z t,fun _ e=>nomatch e⟩
 | int i =>
  obtain ⟨t,rfl⟩:=r
  cases (show T="int" from ty)
  exact ⟨typeIs_int s i t,fun _ e=>nomatch e⟩
 | ref p =>
  cases r
  rcases ty with ⟨rfl,xs,hq⟩ | ⟨rfl,o,hk,hc,hd⟩ | ⟨rfl,hk⟩ | ⟨rfl,S,n,hk⟩
  ·obtain ⟨its,_,pl,_⟩:=I.list hq
   refine ⟨pl.isList.typeIs,fun a e=>?_⟩
   cases e
   obtain ⟨o,n,e,c,hd,_⟩:=pl
   exact ⟨o,e,hd⟩
  ·refine ⟨⟨o,I.kIn p o hk,hc⟩,fun a e=>?_⟩
   cases e
   exact ⟨o,I.kIn _ o hk,hd⟩
  ·have z:∃o,s.heap.get? p=some o/\o.ExactDict:=by
    rcases hk with ⟨kvs,hk⟩ | ⟨kvs,hk⟩
    ·obtain ⟨_,_,_,_,o,_,_,e,ex,_⟩:=I.hok p _ hk
     exact ⟨o,e,ex⟩
    ·obtain ⟨_,_,_,_,o,_,_,e,ex,_⟩:=I.hok p _ hk
     exact ⟨o,e,ex⟩
   obtain ⟨o,e,ex⟩:=z
   refine ⟨⟨o,e,ex.1⟩,fun a e2=>?_⟩
   cases e2
   exact ⟨o,e,ex.2.1⟩
  ·obtain ⟨o,_,_,_,e,ex,_⟩:=I.hok p _ hk
   refine ⟨⟨o,e,ex.1⟩,fun a e2=>?_⟩
   cases e2
   exact ⟨o,e,ex.2.1⟩
 | _=>exact False.elim ty
def v3 (K:PySem.W.Frag) (T:String) (r:V->List V->Hp->VK->Prop) (to:TE):TE:=fun σ H Q=>to σ H fun x H1=>tyV K T x H1/\r x [] H1 Q
def tBM (K:PySem.W.Frag) (T:String) (r:V->List V->Hp->VK->Prop) (to:TE) (t:TA):TE:=fun σ H Q=>to σ H fun x H1=>tyV K T x H1/\t σ H1 fun xs H2=>r x xs H2 Q
variable {o e:Expr}{es:List Expr}{to:TE}{t:TA}{name:Str}{apos cpos:Pos}{T id:String}{r:V->List V->Hp->VK->Prop}
theorem uV (pa:PlainAttrs T) (slot:Slot T name id) (hty:typeOf (.builtin id)=pure (.type "method_descriptor")) (hm:MtR X id r) (ho:PE X o to)
  (hbase:attributeBase o name X.env (eval o X.env)=eval o X.env:=by rfl) (hline:(apos.endLine == cpos.line)=true:=by rfl):PE X (.Call (.Attribute o name apos) [] [] cpos) (v3 X.K T r to):=by
 intro pins s σ H Q I h
 refine wpAny_Call_method0_late hbase hline (thn (ho pins s σ H _ I h) fun v s1 ⟨x,H1,I1,r1,ty,q1⟩=>?_)
 obtain ⟨h1,h2⟩:=su I1 r1 ty
 exact ⟨T,id,pa,slot,hty,h1,h2,Calls.callWith_builtin rfl (PySem.evalArgs_none (hm pins s1 σ H1 x [] v [] Q I1 r1 .nil q1))⟩
theorem kj (pa:PlainAttrs T) (slot:Slot T name id) (hty:typeOf (.builtin id)=pure (.type "method_descriptor")) (hm:MtR X id r) (ho:PE X o to) (ha:PA X (e::es) t)
  (hbase:attributeBase o name X.env (eval o X.env)=eval o X.env:=by rfl)
  (hfew:((backTo cpos (starEach (e::es) X.env)).all (fun x=>!x.1) && (backToKw cpos (keywordEach [] X.env)).all (fun x=>x.1.isSome)
   && decide ((e::es).length+([]:List Keyword).length+(if ([]:List Keyword).isEmpty then 0 else 1)<30))=true:=by rfl)
  (hline:(apos.endLine == cpos.line)=true:=by rfl) (hs:starEach (e::es) X.env=(false,eval e X.env)::starEach es X.env:=by rfl) (hplain:(backTo cpos (starEach es X.env)).any (·.1)=false:=by rfl) :
  PE X (.Call (.Attribute o name apos) (e::es) [] cpos) (tBM X.K T r to t):=by
 intro pins s σ H Q I h
 refine wpAny_Call_method_late hbase hfew hline rfl (thn (ho pins s σ H _ I h) fun v s1 ⟨x,H1,I1,r1,ty,q1⟩=>?_)
 obtain ⟨h1,h2⟩:=su I1 r1 ty
 refine ⟨T,id,pa,slot,hty,h1,h2,?_⟩
 have hA:=ha cpos pins s1 σ H1 _ I1 q1
 rw [hs] at hA ⊢
 refine Calls.callWith_builtin (by show (false || (backTo cpos (starEach es X.env)).any (·.1))=false; rw [hplain] <;> rfl) (Calls.evalArgs_plain ?_)
 exact thn hA fun us s2 ⟨vs,H2,I2,r2,q2⟩=>hm pins s2 σ H2 x vs v us Q I2 r1 r2 q2
end
end L2
namespace L2
open PySem PySem.Spec PyProof.Rows
def MtM (X:Cx) (id:String) (r:V->List V->Hp->VK->Prop):Prop :=
 ∀(pins:List (Addr×Obj)) (s:Shared) (σ:St) (H:Hp) (x:V) (xs:List V) (v:Value) (us:List Value) (Q:VK),Inv X pins σ H s->RelV x v->Vals xs us->r x xs H Q ->
  wpAny (model X.prog X.w) X.A (call (.builtin id) (v::us)) (EP X pins σ Q) X.xe s
theorem Vals.one:∀{x:V}{us:List Value},Vals [x] us->∃u,us=[u]/\RelV x u
 | _,_,.cons r .nil=>⟨_,rfl,r⟩
theorem Vals.two:∀{x y:V}{us:List Value},Vals [x,y] us->∃u v,us=[u,v]/\RelV x u/\RelV y v
 | _,_,_,.cons r (.cons q .nil)=>⟨_,_,rfl,r,q⟩
theorem Vals.zero:∀{us:List Value},Vals [] us->us=[]
 | _,.nil=>rfl
theorem Vals.dropLast {xs:List V}{us:List Value}(h:Vals xs us):Vals xs.dropLast us.dropLast:=by
 induction h with
 | nil=>exact .nil
 | cons r t ih =>
  cases t with
  | nil=>exact .nil
  | cons q t'=>exact .cons r ih
theorem nI {α:Type}(l:List α):l.eraseIdx (l.length-1)=l.dropLast:=by
 induction l with
 | nil=>rfl
 | cons a r ih =>
  cases r with
  | nil=>rfl
  | cons b r =>
   have e:(a::b::r).length-1=((b::r).length-1)+1:=by
    have h1:(a::b::r).length=r.length+2:=rfl
    have h2:(b::r).length=r.length+1:=rfl
    omega
   rw [e,List.eraseIdx_cons_succ,ih]
   all_goals rfl
section
variable {X:Cx}{pins:List (Addr×Obj)}{σ:St}{H:Hp}{s:Shared}{l b:Addr}{xs ys zs:List V}
theorem Inv.lset {its its':List Value}{n:Nat}{f:Array Value->Array Value}{t':Nat}(I:Inv X pins σ H s) (hH:H l=some (.lst xs))
  (e:s.heap.get? l=some { cls:=.type "list",data:=.seq its.toArray n }) (hf:f its.toArray=its'.toArray) (hv:Vals ys its') (hz:ys.length<=sizeLine) :
  Inv X pins σ (upd H l (.lst ys)) { s with heap:=s.heap.update l (Obj.mapSeq f),toks:=t' }:=by
 have q:=PySem.IsL.update e f
 rw [hf] at q
 refine I.write (x:=l) (e:=l) (by rw [hH]; exact trivial) (.inl rfl) (fun b' u hb hu=>(Heap.get?_update_other s.heap (Obj.mapSeq f) (Ne.symm hb)).trans hu) ⟨_,q⟩ ?_
 exact ⟨hz,its',_,hv,q⟩
theorem Inv.lnew {its:List Value}{t':Nat}(I:Inv X pins σ H s) (hv:Vals ys its) (hz:ys.length<=sizeLine) :
  Inv X pins σ (upd H s.heap.objs.size (.lst ys)) { s with heap:=s.heap.push { cls:=.type "list",data:=.seq its.toArray },toks:=t' } :=
 I.laid (fun _ _ q=>Heap.get?_push_of_some _ q) (Nat.le_refl _) ⟨hz,its,0,hv,Heap.get?_push_size _ rfl⟩
theorem Inv.fresh (I:Inv X pins σ H s):H s.heap.objs.size=none:=I.hok.fresh (Nat.le_refl _)
theorem Inv.lstM (I:Inv X pins σ H s) (hH:H l=some (.lst xs)):xs.length<=sizeLine/\∃(its:List Value) (n:Nat),Vals xs its/\xs.length=its.length/\s.heap.get? l=some { cls:=.type "list",data:=.seq its.toArray n }:=by
 obtain ⟨z,its,n,r,e⟩:=I.hok l _ hH
 exact ⟨z,its,n,r,r.length,e⟩
theorem rF {n:Nat}(h:n<=sizeLine):Builtin.List.listTooLong n=false:=by
 unfold Builtin.List.listTooLong
 exact decide_eq_false (by omega)
end
section
variable {X:Cx}
def ej:V->List V->Hp->VK->Prop:=fun x vs H Q=>∃l xs y,x=.ref l/\vs=[y]/\H l=some (.lst xs)/\xs.length<sizeLine/\Q .non (upd H l (.lst (xs++[y])))
theorem b9:MtM X "list.append" ej:=by
 intro pins s σ H x vs v us Q I rx rv h
 obtain ⟨l,xs,y,rfl,rfl,hH,hz,q⟩:=h
 cases rx
 obtain ⟨u,rfl,ru⟩:=rv.one
 obtain ⟨z,its,n,r,hl,e⟩:=I.lstM hH
 refine call_meets F.slot_list_append ⟨_,e,rfl⟩ F.entry_list_append (F.args_list_append_2 _ _) (PySem.list_append l its.toArray n u (by rw [List.size_toArray]; omega)) ⟨e,?_⟩
 refine ⟨.non,_,I.lset (its':=its++[u]) hH e (by simp) (r.append (.cons ru .nil)) ?_,rfl,q⟩
 rw [List.length_append,List.length_singleton]
 omega
def tO:V->List V->Hp->VK->Prop:=fun x vs H Q=>∃l b xs zs,x=.ref l/\vs=[.ref b]/\H l=some (.lst xs)/\H b=some (.lst zs)/\xs.length+zs.length<=sizeLine/\Q .non (upd H l (.lst (xs++zs)))
theorem u1:MtM X "list.extend" tO:=by
 intro pins s σ H x vs v us Q I rx rv h
 obtain ⟨l,b,xs,zs,rfl,rfl,hH,hB,hz,q⟩:=h
 cases rx
 obtain ⟨u,rfl,ru⟩:=rv.one
 cases ru
 obtain ⟨z,its,n,r,hl,e⟩:=I.lstM hH
 obtain ⟨z2,its2,n2,r2,hl2,e2⟩:=I.lstM hB
 have hsz:its.toArray.size+its2.toArray.size<=sizeLine:=by rw [List.size_toArray,List.size_toArray]; omega
 have hlong:¬(!its.toArray.isEmpty && Builtin.List.listTooLong (its.toArray.size+its2.toArray.size))=true:=by
  rw [rF hsz,Bool.and_false]
  exact Bool.false_ne_true
 refine call_meets F.slot_list_extend ⟨_,e,rfl⟩ F.entry_list_extend (F.args_list_extend_2 _ _)
  (AutoSeq1.list_extend_list_list_0 l its.toArray n b its2.toArray n2 hlong (by rw [List.size_toArray]; omega) (by omega)) ⟨e,e2,?_⟩
 refine ⟨.non,_,I.lset (its':=its++its2) hH e (by simp) (r.append r2) ?_,rfl,q⟩
 rw [List.length_append]
 omega
def v6:V->List V->Hp->VK->Prop:=fun x vs H Q=>∃l xs y,x=.ref l/\vs=[]/\H l=some (.lst xs)/\xs[xs.length-1]?=some y/\Q y (upd H l (.lst xs.dropLast))
theorem uZ:MtM X "list.pop" v6:=by
 intro pins s σ H x vs v us Q I rx rv h
 obtain ⟨l,xs,y,rfl,rfl,hH,hy,q⟩:=h
 cases rx
 have hus:=rv.zero
 subst hus
 obtain ⟨z,its,n,r,hl,e⟩:=I.lstM hH
 obtain ⟨u,hu,ru⟩:=r.get hy
 have hy':its.toArray[its.toArray.size-1]?=some u:=by
  show its.toArray[its.length-1]?=some u
  rw [<-Array.getElem?_toList,<-hl]
  exact hu
 refine call_meets F.slot_list_pop ⟨_,e,rfl⟩ F.entry_list_pop (F.args_list_pop_1 _) (MeetsSeq.list_pop_last l its.toArray n u hy' (by rw [List.size_toArray]; omega)) ⟨e,?_⟩
 refine ⟨y,_,I.lset (its':=its.dropLast) hH e ?_ r.dropLast ?_,ru,q⟩
 ·show its.toArray.eraseIdxIfInBounds (its.toArray.size-1)=its.dropLast.toArray
  rw [List.size_toArray,List.eraseIdxIfInBounds_toArray,nI]
 ·rw [List.length_dropLast]
  omega
def vq:R2:=fun x y H Q=>∃l b xs zs,x=.ref l/\y=.ref b/\H l=some (.lst xs)/\H b=some (.lst zs)/\xs.length+zs.length<=sizeLine/\∀p,H p=none->Q (.ref p) (upd H p (.lst (xs++zs)))
theorem pr:OpR X (binaryOp .Add) vq:=by
 intro pins s σ H x y v u Q I rx ry h
 obtain ⟨l,b,xs,zs,rfl,rfl,hH,hB,hz,q⟩:=h
 cases rx
 cases ry
 obtain ⟨z,its,n,r,hl,e⟩:=I.lstM hH
 obtain ⟨z2,its2,n2,r2,hl2,e2⟩:=I.lstM hB
 refine PySem.P.add_list e e2 ?_ (by rw [List.size_toArray,List.size_toArray]; omega)
 have ea:its.toArray++its2.toArray=(its++its2).toArray:=by simp
 rw [ea]
 exact ⟨.ref _,_,I.lnew (t':=s.toks) (r.append r2) (by rw [List.length_append]; omega),rfl,q _ I.fresh⟩
end
section
variable {prog:Program}{w:World}{A:Around}{E:Value->Shared->Prop}{s:Shared}
end
section
variable {X:Cx}
end
end L2
namespace L2
open PySem PySem.Spec PyProof.Rows
section
variable {κ:Type} [DecidableEq κ]
def cP (kvs:List (κ×V)) (k:κ):Option V:=(kvs.find? fun kv=>decide (kv.1=k)).map (·.2)
def fX (kvs:List (κ×V)) (k:κ) (v:V):List (κ×V) :=
 if (kvs.any fun kv=>decide (kv.1=k))=true then kvs.map (fun kv=>if kv.1=k then (kv.1,v) else kv) else kvs++[(k,v)]
theorem bg {p:κ×V}{r:List (κ×V)}{k:κ}(e:p.1=k):cP (p::r) k=some p.2:=by simp [cP,List.find?_cons,e]
theorem a_ {p:κ×V}{r:List (κ×V)}{k:κ}(e:¬p.1=k):cP (p::r) k=cP r k:=by simp [cP,List.find?_cons,e]
theorem eI (k:κ):∀kvs:List (κ×V),(kvs.any fun kv=>decide (kv.1=k))=(cP kvs k).isSome
 | []=>rfl
 | p::r=>by
  rw [List.any_cons]
  by_cases e:p.1=k
  ·simp only [bg e,decide_eq_true e,Bool.true_or,Option.isSome_some]
  ·rw [a_ e,decide_eq_false e,Bool.false_or]; exact eI k r
theorem l5 (k j:κ) (y:V):∀kvs:List (κ×V),cP (kvs.map fun kv=>if kv.1=k then (kv.1,y) else kv) j=(cP kvs j).map fun x=>if j=k then y else x
 | []=>rfl
 | p::r=>by
  have ih:=l5 k j y r
  rw [List.map_cons]
  by_cases h:p.1=k
  ·rw [if_pos h]
   by_cases e:p.1=j
   ·rw [bg (p:=(p.1,y)) e,bg e,Option.map_some,if_pos (e.symm.trans h)]
   ·rw [a_ (p:=(p.1,y)) e,a_ e,ih]
  ·rw [if_neg h]
   by_cases e:p.1=j
   ·rw [bg (p:=p) e,bg e,Option.map_some,if_neg (fun z=>h (e.trans z))]
   ·rw [a_ (p:=p) e,a_ e,ih]
theorem jX (k j:κ) (y:V):∀kvs:List (κ×V),cP kvs k=none->cP (kvs++[(k,y)]) j=if j=k then some y else cP kvs j
 | [],_=>by
  by_cases e:k=j
  ·rw [if_pos e.symm]; exact bg (p:=(k,y)) e
  ·rw [if_neg (fun z=>e z.symm)]; exact a_ (p:=(k,y)) e
 | p::r,hn=>by
  rw [List.cons_append]
  have hk:¬p.1=k:=fun z=>by rw [bg z] at hn; cases hn
  rw [a_ hk] at hn
  have ih:=jX k j y r hn
  by_cases e:p.1=j
  ·rw [bg e,bg e,if_neg (fun z=>hk (e.trans z))]
  ·rw [a_ e,a_ e,ih]
theorem lZ (kvs:List (κ×V)) (k j:κ) (y:V):cP (fX kvs k y) j=if j=k then some y else cP kvs j:=by
 unfold fX
 by_cases a:(kvs.any fun kv=>decide (kv.1=k))=true
 ·rw [if_pos a,l5]
  rw [eI] at a
  by_cases e:j=k
  ·obtain ⟨x,hx⟩:=Option.isSome_iff_exists.mp a
   rw [if_pos e,e,hx,Option.map_some,if_pos rfl]
  ·rw [if_neg e]
   cases cP kvs j with
   | none=>rfl
   | some x=>rw [Option.map_some,if_neg e]
 ·rw [if_neg a]
  refine jX k j y kvs ?_
  rw [eI] at a
  cases q:cP kvs k with
  | none=>rfl
  | some x=>rw [q] at a; exact (a rfl).elim
theorem eo (kvs:List (κ×V)) (k:κ) (v:V):(fX kvs k v).length<=kvs.length+1:=by
 unfold fX
 split
 ·rw [List.length_map]; omega
 ·rw [List.length_append,List.length_cons,List.length_nil]; omega
theorem jE {kvs:List (κ×V)}{k:κ}(v:V) (h:cP kvs k=none):fX kvs k v=kvs++[(k,v)]:=by
 unfold fX
 rw [eI,h]
 exact if_neg (by decide)
theorem RelO.isSome_eq {o:Option V}{u:Option Value}(r:RelO o u):o.isSome=u.isSome:=by
 cases o with
 | none=>cases u with
  | none=>rfl
  | some _=>exact (show False from r).elim
 | some _=>cases u with
  | none=>exact (show False from r).elim
  | some _=>rfl
theorem RelO.getD {o:Option V}{u:Option Value}{d:V}{d':Value}(r:RelO o u) (rd:RelV d d'):RelV (o.getD d) (u.getD d'):=by
 cases o with
 | none=>cases u with
  | none=>exact rd
  | some _=>exact (show False from r).elim
 | some _=>cases u with
  | none=>exact (show False from r).elim
  | some _=>exact r
theorem KV.val {kvs:List (κ×V)}{vs:List (κ×Value)}(r:KV kvs vs) (k:κ):RelO (cP kvs k) (valueAt vs k):=by
 unfold KV at r
 induction r with
 | nil=>exact True.intro
 | @cons p q ps qs h t ih =>
  obtain ⟨h1,h2⟩:=h
  by_cases e:p.1=k
  ·have e':q.1=k:=h1.symm.trans e
   have b:valueAt (q::qs) k=some q.2:=by simp [valueAt,List.find?_cons,e']
   rw [bg e,b]; exact h2
  ·have e':¬q.1=k:=fun z=>e (h1.trans z)
   have b:valueAt (q::qs) k=valueAt qs k:=by simp [valueAt,List.find?_cons,e']
   rw [a_ e,b]; exact ih
theorem KV.any {kvs:List (κ×V)}{vs:List (κ×Value)}(r:KV kvs vs) (k:κ):(kvs.any fun kv=>decide (kv.1=k))=vs.any fun kv=>decide (kv.1=k):=by
 unfold KV at r
 induction r with
 | nil=>rfl
 | cons h t ih=>rw [List.any_cons,List.any_cons,ih,h.1]
theorem KV.repl {kvs:List (κ×V)}{vs:List (κ×Value)}(r:KV kvs vs) (k:κ) {y:V}{u:Value}(ry:RelV y u) :
  KV (kvs.map fun kv=>if kv.1=k then (kv.1,y) else kv) (vs.map fun kv=>if kv.1=k then (kv.1,u) else kv):=by
 unfold KV at r ⊢
 induction r with
 | nil=>exact .nil
 | @cons p q ps qs h t ih =>
  rw [List.map_cons,List.map_cons]
  refine .cons ?_ ih
  obtain ⟨h1,h2⟩:=h
  by_cases e:p.1=k
  ·rw [if_pos e,if_pos (h1.symm.trans e)]; exact ⟨h1,ry⟩
  ·rw [if_neg e,if_neg (fun z=>e (h1.trans z))]; exact ⟨h1,h2⟩
theorem KV.put {kvs:List (κ×V)}{vs:List (κ×Value)}(r:KV kvs vs) (k:κ) {y:V}{u:Value}(ry:RelV y u):KV (fX kvs k y) (stored vs k u):=by
 unfold fX stored
 rw [r.any k]
 by_cases e:(vs.any fun kv=>decide (kv.1=k))=true
 ·rw [if_pos e,if_pos e]; exact r.repl k ry
 ·rw [if_neg e,if_neg e]; exact Paired.snoc r ⟨rfl,ry⟩
theorem KV.length {kvs:List (κ×V)}{vs:List (κ×Value)}(r:KV kvs vs):kvs.length=vs.length:=Paired.length r
end
theorem gq {P:Program}{w:World}{k:Key}{u:Value}(r:RelV (kV k) u):(aG P w).is k u=true:=by
 cases k with
 | inl i=>obtain ⟨t,e⟩:=(show ∃t,u=Value.int i t from r); subst e; exact lC P w i t
 | inr x=>obtain ⟨t,e⟩:=(show ∃t,u=Value.str x t from r); subst e; exact lB P w x t
abbrev KT (K:PySem.W.Frag) (H:Hp):List (TK×V)->List (TK×Addr×Value)->Prop:=Paired fun p q=>p.1=q.1/\TKC K H p.1 (.ref q.2.1)/\p.1.depth<=8/\RelV p.2 q.2.2
theorem KT.val {K:PySem.W.Frag}{H:Hp}{kvs:List (TK×V)}{xs:List (TK×Addr×Value)}(r:KT K H kvs xs) (k:TK):RelO (cP kvs k) ((atKey xs k).map (·.2)):=by
 induction r with
 | nil=>exact True.intro
 | @cons p q ps qs h t ih =>
  obtain ⟨h1,_,_,h2⟩:=h
  by_cases e:p.1=k
  ·have e':q.1=k:=h1.symm.trans e
   have b:atKey (q::qs) k=some q.2:=by simp [atKey,List.find?_cons,e']
   rw [bg e,b]; exact h2
  ·have e':¬q.1=k:=fun z=>e (h1.trans z)
   have b:atKey (q::qs) k=atKey qs k:=by simp [atKey,List.find?_cons,e']
   rw [a_ e,b]; exact ih
theorem KT.repl {K:PySem.W.Frag}{H:Hp}{kvs:List (TK×V)}{xs:List (TK×Addr×Value)}(r:KT K H kvs xs) (k:TK) {y:V}{u:Value}(ry:RelV y u) :
  KT K H (kvs.map fun kv=>if kv.1=k then (kv.1,y) else kv) (xs.map (putAt k u)):=by
 induction r with
 | nil=>exact .nil
 | @cons p q ps qs h t ih =>
  rw [List.map_cons,List.map_cons]
  refine .cons ?_ ih
  obtain ⟨h1,h2,h3⟩:=h
  unfold putAt
  by_cases e:p.1=k
  ·rw [if_pos e,if_pos (h1.symm.trans e)]; exact ⟨h1,h2,h3.1,ry⟩
  ·rw [if_neg e,if_neg (fun z=>e (h1.trans z))]; exact ⟨h1,h2,h3⟩
theorem KT.put {K:PySem.W.Frag}{H:Hp}{kvs:List (TK×V)}{xs:List (TK×Addr×Value)}(r:KT K H kvs xs) (k:TK) {b:Addr}{y:V}{u:Value}(hb:TKC K H k (.ref b)) (h8:k.depth<=8) (ry:RelV y u) :
  KT K H (fX kvs k y) (storedH xs k b u):=by
 have e:(kvs.any fun kv=>decide (kv.1=k))=(atKey xs k).isSome:=by
  rw [eI,(r.val k).isSome_eq,Option.isSome_map]
 unfold fX storedH
 rw [e]
 by_cases q:(atKey xs k).isSome=true
 ·rw [if_pos q,if_pos q]; exact r.repl k ry
 ·rw [if_neg q,if_neg q]; exact Paired.snoc r ⟨rfl,hb,h8,ry⟩
theorem KT.keeps {K:PySem.W.Frag}{H H':Hp}{kvs:List (TK×V)}{xs:List (TK×Addr×Value)}(r:KT K H kvs xs) (ht:∀b ys,H b=some (.tup ys)->H' b=some (.tup ys)):KT K H' kvs xs :=
 Paired.mapP r fun _ _ z=>⟨z.1,TKC.keeps ht 8 z.2.2.1 z.2.1,z.2.2⟩
section
variable {P:Program}{w:World}{K:PySem.W.Frag}{H:Hp}{h:Heap}{a:Addr}
theorem uE {u:HO}(ok:HOk P w K H h) (e:Rd H a u):ObjOk P w K H h a u:=e.ok ok
theorem kD {kvs:List (Key×V)}(ok:HOk P w K H h) (e:Rd H a (.dK kvs)):kvs.length<=sizeLine/\(a == sysModules)=false/\∃vs,KV kvs vs/\h.DictOf (aG P w) a vs :=
 show ObjOk P w K H h a (.dK kvs) from uE ok e
theorem vO {kvs:List (Key×V)}(ok:HOk P w K H h) (e:H a=some (.dK kvs)):kvs.length<=sizeLine/\(a == sysModules)=false/\∃vs,KV kvs vs/\h.DictOf (aG P w) a vs:=kD ok (.inl e)
theorem ux (ok:HOk P w K H h) (kin:K.In h):∀(d:Nat) {k:TK}{v:V}{u:Value},k.depth<=d->TKC K H k v->RelV v u->TAt h k u:=by
 have key:∀(d:Nat) (ih:∀{k:TK}{v:V}{u:Value},k.depth<=d->TKC K H k v->RelV v u->TAt h k u) (ks:List TK) (vs:List V) (us:List Value),TK.depths ks<=d->TKCs K H ks vs->Vals vs us->TAts h ks us:=by
  intro d ih ks
  induction ks with
  | nil =>
   intro vs us _ hx r
   have e:vs=[]:=hx
   subst e
   cases r
   rfl
  | cons k ks ihl =>
   intro vs us hd hx r
   obtain ⟨v,vs',rfl,h1,h2⟩:=hx
   cases r with
   | @cons _ u _ us' r1 r2 =>
    have hd':max k.depth (TK.depths ks)<=d:=hd
    exact ⟨u,us',rfl,ih (by omega) h1 r1,ihl vs' us' (by omega) h2 r2⟩
 intro d
 induction d with
 | zero =>
  intro k v u hd hx r
  cases k with
  | t l=>exact absurd hd (by show ¬(TK.depths l+1<=0); omega)
  | k b =>
   have e:v=kV b:=hx
   subst e
   exact gq (P:=P) (w:=w) r
 | succ d ih =>
  intro k v u hd hx r
  cases k with
  | k b =>
   have e:v=kV b:=hx
   subst e
   exact gq (P:=P) (w:=w) r
  | t l =>
   obtain ⟨b,xs,rfl,hb,hi⟩:=hx
   cases (show u=Value.ref b from r)
   obtain ⟨its,rv,ob,h1,h2,n,h3⟩:∃its:List Value,Vals xs its/\IsTup h b its.toArray:=by
    rcases hb with hb | ⟨o,its,n,hk,hc,hs,hz,r⟩
    ·obtain ⟨_,its,rv,p⟩:=(show ObjOk P w K H h b (.tup xs) from ok b _ hb)
     exact ⟨its,rv,p⟩
    ·exact ⟨its.toList,r,o,kin b o hk,hc,n,by simpa using hs⟩
   exact ⟨b,ob,its.toArray,n,rfl,h1,h2,h3,by simpa using key d (fun h1=>ih h1) l xs its (by have:TK.depths l+1<=d+1:=hd; omega) hi rv⟩
theorem pE {k:TK}(ok:HOk P w K H h) (kin:K.In h) (e:TKC K H k (.ref a)) (h8:k.depth<=8):(bR P w).is h k a:=⟨ux ok kin 8 h8 e rfl,h8⟩
theorem lJ {kvs:List (TK×V)}(ok:HOk P w K H h) (kin:K.In h) (e:Rd H a (.dT kvs)):kvs.length<=sizeLine/\(a == sysModules)=false /\
  ∃xs,KT K H kvs xs/\h.DictOfH (bR P w) a xs:=by
 obtain ⟨z,y,xs,r,o,es,ep,h1,h2,h3,h4,h5⟩:=(show ObjOk P w K H h a (.dT kvs) from uE ok e)
 refine ⟨z,y,xs,r,o,es,ep,h1,h2,h3,h4,fun x hx=>?_,h5⟩
 have all:∀{l:List (TK×V)}{m:List (TK×Addr×Value)},KT K H l m->∀x∈m,(bR P w).is h x.1 x.2.1:=by
  intro l m q
  induction q with
  | nil=>intro x hx; exact nomatch hx
  | @cons p q ps qs hq t ih =>
   intro x hx
   rcases List.mem_cons.mp hx with e | hx
   ·subst e
    exact pE ok kin (by rw [<-hq.1]; exact hq.2.1) (by rw [<-hq.1]; exact hq.2.2.1)
   ·exact ih x hx
 exact all r x hx
theorem u8 {kvs:List (TK×V)}(ok:HOk P w K H h) (kin:K.In h) (e:H a=some (.dT kvs)):kvs.length<=sizeLine/\(a == sysModules)=false /\
  ∃xs,KT K H kvs xs/\h.DictOfH (bR P w) a xs:=lJ ok kin (.inl e)
end
mutual
def nY (K:PySem.W.Frag) (H:Hp):TK->V->Prop
 | .k a,v=>v=kV a
 | .t l,v=>∃b xs,v=.ref b/\SqT K H b xs/\TKIns K H l xs
def TKIns (K:PySem.W.Frag) (H:Hp):List TK->List V->Prop
 | [],vs=>vs=[]
 | k::r,vs=>∃v us,vs=v::us/\nY K H k v/\TKIns K H r us
end
theorem TKAt.isIn {K:PySem.W.Frag}{H:Hp}:∀(d:Nat) {k:TK}{v:V},k.depth<=d->TKAt H k v->nY K H k v:=by
 have key:∀(d:Nat) (ih:∀{k:TK}{v:V},k.depth<=d->TKAt H k v->nY K H k v) (xs:List TK) (vs:List V),TK.depths xs<=d->TKAts H xs vs->TKIns K H xs vs:=by
  intro d ih xs
  induction xs with
  | nil=>intro vs _ hx; exact hx
  | cons x xs ihl =>
   intro vs hd hx
   obtain ⟨v,us,rfl,hx1,hx2⟩:=hx
   have hd':max x.depth (TK.depths xs)<=d:=hd
   exact ⟨v,us,rfl,ih (by omega) hx1,ihl us (by omega) hx2⟩
 intro d
 induction d with
 | zero =>
  intro k v hd hx
  cases k with
  | t l=>exact absurd hd (by show ¬(TK.depths l+1<=0); omega)
  | k a=>exact hx
 | succ d ih =>
  intro k v hd hx
  cases k with
  | k a=>exact hx
  | t l =>
   obtain ⟨b,xs,rfl,hb,hi⟩:=hx
   exact ⟨b,xs,rfl,SqT.of hb,key d (fun h1=>ih h1) l xs (by have:TK.depths l+1<=d+1:=hd; omega) hi⟩
theorem sZ {X:Cx}{pins:List (Addr×Obj)}{σ:St}{H:Hp}{s:Shared}(I:Inv X pins σ H s):∀(d:Nat) {k:TK}{v:V}{u:Value},k.depth<=d->nY X.K H k v->RelV v u->TAt s.heap k u:=by
 have key:∀(d:Nat) (ih:∀{k:TK}{v:V}{u:Value},k.depth<=d->nY X.K H k v->RelV v u->TAt s.heap k u) (ks:List TK) (vs:List V) (us:List Value),TK.depths ks<=d->TKIns X.K H ks vs->Vals vs us->TAts s.heap ks us:=by
  intro d ih ks
  induction ks with
  | nil =>
   intro vs us _ hx r
   have e:vs=[]:=hx
   subst e
   cases r
   rfl
  | cons k ks ihl =>
   intro vs us hd hx r
   obtain ⟨v,vs',rfl,h1,h2⟩:=hx
   cases r with
   | @cons _ u _ us' r1 r2 =>
    have hd':max k.depth (TK.depths ks)<=d:=hd
    exact ⟨u,us',rfl,ih (by omega) h1 r1,ihl vs' us' (by omega) h2 r2⟩
 intro d
 induction d with
 | zero =>
  intro k v u hd hx r
  cases k with
  | t l=>exact absurd hd (by show ¬(TK.depths l+1<=0); omega)
  | k b =>
   have e:v=kV b:=hx
   subst e
   exact gq (P:=X.prog) (w:=X.w) r
 | succ d ih =>
  intro k v u hd hx r
  cases k with
  | k b =>
   have e:v=kV b:=hx
   subst e
   exact gq (P:=X.prog) (w:=X.w) r
  | t l =>
   obtain ⟨b,xs,rfl,hb,hi⟩:=hx
   cases (show u=Value.ref b from r)
   obtain ⟨its,rv,⟨ob,h1,h2,n,h3⟩,_⟩:=I.tuple hb
   exact ⟨b,ob,its.toArray,n,rfl,h1,h2,h3,by simpa using key d (fun h1=>ih h1) l xs its (by have:TK.depths l+1<=d+1:=hd; omega) hi rv⟩
theorem mz {X:Cx}{pins:List (Addr×Obj)}{σ:St}{H:Hp}{s:Shared}{k:TK}{b:Addr}(I:Inv X pins σ H s) (e:nY X.K H k (.ref b)) (h8:k.depth<=8):(bR X.prog X.w).is s.heap k b:=⟨sZ I 8 h8 e rfl,h8⟩
theorem cE {P:Program}{w:World}{A:Around}(hu:A.units+16<cLine):(bR P w).room A.in1:=by
 show A.units+1+8<cLine
 omega
def sh (K:PySem.W.Frag) (H:Hp) (a:Addr) (y:V) (r:Option V):Prop :=
 (∃kvs k,Rd H a (.dK kvs)/\y=kV k/\r=cP kvs k)∨∃kvs k b,Rd H a (.dT kvs)/\y=.ref b/\nY K H k (.ref b)/\k.depth<=8/\r=cP kvs k
def wj (H:Hp) (a:Addr) (y v:V) (H':Hp):Prop :=
 (∃kvs k,H a=some (.dK kvs)/\y=kV k/\kvs.length<sizeLine/\H'=upd H a (.dK (fX kvs k v))) ∨
 ∃kvs k b,H a=some (.dT kvs)/\y=.ref b/\TKAt H k (.ref b)/\k.depth<=8/\kvs.length<sizeLine/\H'=upd H a (.dT (fX kvs k v))
section
variable {X:Cx}{pins:List (Addr×Obj)}{σ:St}{H:Hp}{s:Shared}{a:Addr}{y v:V}{u r:Value}{o:Option V}{A:Around}{E:Value->Shared->Prop}
theorem Inv.big (I:Inv X pins σ H s):sysModules<s.heap.objs.size:=by
 have h:mainGlobals<s.heap.objs.size:=(I.mod.glob.keeps I.bk).lt
 exact Nat.lt_trans (by decide) h
theorem p7 {Q:Value->Shared->Prop}(hu:A.units+16<cLine) (I:Inv X pins σ H s) (g:sh X.K H a y (some v)) (ry:RelV y u) (h:∀w' s',Inv X pins σ H s'->RelV v w'->Q w' s') :
  wpAny (model X.prog X.w) A (getItem (.ref a) u) Q E s:=by
 rcases g with ⟨kvs,k,e,ey,l⟩ | ⟨kvs,k,b,e,ey,eb,e8,l⟩
 ·subst ey
  obtain ⟨z,hd,vs,rel,dd⟩:=kD I.hok e
  obtain ⟨w',hw,rw'⟩:=RelO.some_of (v:=v) (o:=valueAt vs k) (by rw [l]; exact rel.val k)
  exact wpAny_getItem_of (gq ry) dd.mapOf hw (h w' _ (I.tok _) rw')
 ·subst ey
  cases (show u=Value.ref b from ry)
  obtain ⟨z,hd,xs,rel,dd⟩:=lJ I.hok I.kIn e
  obtain ⟨w',hw,rw'⟩:=RelO.some_of (v:=v) (o:=(atKey xs k).map (·.2)) (by rw [l]; exact rel.val k)
  obtain ⟨p,hp,hp2⟩:=Option.map_eq_some_iff.mp hw
  refine wpAny_getItem_heap (cE hu) (mz I eb e8) dd hp ?_
  rw [hp2]
  exact h w' _ (I.tok _) rw'
theorem wv {Q:Value->Shared->Prop}(hu:A.units+16<cLine) (I:Inv X pins σ H s) (g:sh X.K H a y o) (ry:RelV y u) (h:∀s',Inv X pins σ H s'->Q (.bool o.isSome) s') :
  wpAny (model X.prog X.w) A (compareOp .In u (.ref a)) Q E s:=by
 rcases g with ⟨kvs,k,e,ey,l⟩ | ⟨kvs,k,b,e,ey,eb,e8,l⟩
 ·subst ey
  obtain ⟨z,hd,vs,rel,dd⟩:=kD I.hok e
  refine wpAny_in_of (gq ry) hd dd.mapOf ?_
  rw [<-(rel.val k).isSome_eq,<-l]
  exact h _ (I.tok _)
 ·subst ey
  cases (show u=Value.ref b from ry)
  obtain ⟨z,hd,xs,rel,dd⟩:=lJ I.hok I.kIn e
  refine wpAny_in_heap (cE hu) (mz I eb e8) hd dd ?_
  have q:=(rel.val k).isSome_eq
  rw [Option.isSome_map] at q
  rw [<-q,<-l]
  exact h _ (I.tok _)
theorem ue {Q:Value->Shared->Prop}(hu:A.units+16<cLine) (I:Inv X pins σ H s) (g:sh X.K H a y o) (ry:RelV y u) (h:∀s',Inv X pins σ H s'->Q (.bool (!o.isSome)) s') :
  wpAny (model X.prog X.w) A (compareOp .NotIn u (.ref a)) Q E s:=by
 rcases g with ⟨kvs,k,e,ey,l⟩ | ⟨kvs,k,b,e,ey,eb,e8,l⟩
 ·subst ey
  obtain ⟨z,hd,vs,rel,dd⟩:=kD I.hok e
  refine wpAny_notIn_of (gq ry) hd dd.mapOf ?_
  rw [<-(rel.val k).isSome_eq,<-l]
  exact h _ (I.tok _)
 ·subst ey
  cases (show u=Value.ref b from ry)
  obtain ⟨z,hd,xs,rel,dd⟩:=lJ I.hok I.kIn e
  refine wpAny_notIn_heap (cE hu) (mz I eb e8) hd dd ?_
  have q:=(rel.val k).isSome_eq
  rw [Option.isSome_map] at q
  rw [<-q,<-l]
  exact h _ (I.tok _)
theorem lM {h':Heap}{t':Nat}{ob:HO}(I:Inv X pins σ H s) (mu:Mut (H a)) (hs:Heap.SameBut a s.heap h') (he:∃q,h'.get? a=some q) (new:ObjOk X.prog X.w X.K (upd H a ob) h' a ob) :
  Inv X pins σ (upd H a ob) { s with heap:=h',toks:=t' } :=
 I.write (x:=a) (e:=a) mu (.inl rfl) (fun b q hb z=>(hs.2 b hb).trans z) he new
theorem sK {P:Program}{w:World}{K:PySem.W.Frag}{H':Hp}{h':Heap}{kvs:List (Key×V)}{vs:List (Key×Value)}(z:kvs.length<=sizeLine) (hd:(a == sysModules)=false) (rel:KV kvs vs) (dd:h'.DictOf (aG P w) a vs) :
  ObjOk P w K H' h' a (.dK kvs):=⟨z,hd,vs,rel,dd⟩
theorem p6 {H':Hp}{Q:Unit->Shared->Prop}(hu:A.units+16<cLine) (I:Inv X pins σ H s) (g:wj H a y v H') (ry:RelV y u) (rv:RelV v r) (h:∀s',Inv X pins σ H' s'->Q () s') :
  wpAny (model X.prog X.w) A (setItem (.ref a) u r) Q E s:=by
 rcases g with ⟨kvs,k,e,ey,l,eH⟩ | ⟨kvs,k,b,e,ey,eb,e8,l,eH⟩
 ·subst ey eH
  obtain ⟨z,hd,vs,rel,dd⟩:=vO I.hok e
  have hz:vs.length<=sizeLine:=by rw [<-rel.length]; exact z
  have hl:(fX kvs k v).length<=sizeLine:=by have:=eo kvs k v; omega
  refine wpAny_setItem_pairs (hsz:=hz) (gq ry) dd fun h' dd' hs=>h _ ?_
  have he:∃q,h'.get? a=some q:=let ⟨q,_,_,hq,_⟩:=dd'; ⟨q,hq⟩
  exact lM I (by rw [e]; exact True.intro) hs he (sK hl hd (rel.put k rv) dd')
 ·subst ey eH
  cases (show u=Value.ref b from ry)
  obtain ⟨z,hd,xs,rel,dd⟩:=u8 I.hok I.kIn e
  have hz:xs.length<=sizeLine:=by rw [<-Paired.length rel]; exact z
  have hl:(fX kvs k v).length<=sizeLine:=by have:=eo kvs k v; omega
  refine wpAny_setItem_heap (hsz:=hz) (cE hu) (pE I.hok I.kIn (TKAt.c 8 e8 eb) e8) dd fun h' dd' hs=>h _ ?_
  obtain ⟨q,es,ep,hq,h2,h3,h4,_,h5⟩:=dd'
  refine lM I (by rw [e]; exact True.intro) hs ⟨q,hq⟩ ⟨hl,hd,_,(rel.put k (TKAt.c 8 e8 eb) e8 rv).keeps fun c ys ec=>?_,q,es,ep,hq,h2,h3,h4,h5⟩
  rw [aj (uX ec e (fun z=>nomatch z))]
  exact ec
end
section
variable {X:Cx}{pins:List (Addr×Obj)}{σ:St}{H:Hp}{s:Shared}{a:Addr}{kvs:List (Key×V)}{k:Key}{u:Value}{A:Around}{E:Value->Shared->Prop}
end
def uq (i:Expr):Prop:=∀ov iv,subscripted i false ov iv=operate [ov,iv] (getItem ov iv)
theorem tw {prog:Program}{w:World}{A:Around}{E:Value->Shared->Prop}{s:Shared}{env:Env}{value slice:Expr}{pos:Pos}{T id:String}{Q:Value->Shared->Prop}
  (hl:typeLookup (.type T) "__getitem__"=pure (some (.builtin id))) (hs:uq slice)
  (h:wpAny (model prog w) A (eval value env) (fun o s₁=>wpAny (model prog w) A (eval slice env) (fun i s₂=>s₂.TypeIs o T/\wpAny (model prog w) A (getItem o i) Q E s₂) E s₁) E s) :
  wpAny (model prog w) A (eval (.Subscript value slice pos) env) Q E s:=by
 refine Subscript_ (wpAny_mono h (fun o s₁ h₁=>wpAny_mono h₁ (fun i s₂ h₂=>?_) fun _ _ x=>x) fun _ _ x=>x)
 obtain ⟨hT,h₂⟩:=h₂
 unfold subscriptTail
 refine wpAny_bind ?_
 rw [getitemInPython_of_ne hT.not_modules]
 refine wpAny_bind (wpAny_specialOf hT hl ?_)
 have fin:wpAny (model prog w) A (subscripted slice false o i) (fun r s₃=>wpAny (model prog w) A (letTemporaryGo value o r >>= fun _=>pure r) Q E s₃) E s₂:=by
  rw [hs o i]
  exact wpAny_operating (wpAny_mono h₂ (fun r s₃ h₃=>wpAny_bind (wpAny_letTemporaryGo (wpAny_pure h₃))) fun _ _ x=>x)
 first
  | exact wpAny_pure (wpAny_bind fin)
  | exact wpAny_bind (wpAny_pure (wpAny_bind fin))
  | exact wpAny_bind fin
theorem lK {X:Cx}{pins:List (Addr×Obj)}{σ:St}{H:Hp}{s:Shared}{a:Addr}{y:V}{o:Option V}(I:Inv X pins σ H s) (g:sh X.K H a y o):s.TypeIs (.ref a) "dict":=by
 rcases g with ⟨kvs,k,e,_,_⟩ | ⟨kvs,k,b,e,_,_,_⟩
 ·obtain ⟨_,_,vs,_,dd⟩:=kD I.hok e
  exact dd.typeIs
 ·obtain ⟨_,_,xs,_,dd⟩:=lJ I.hok I.kIn e
  exact dd.typeIs
def qQ (K:PySem.W.Frag) (td ty:TE):TE:=fun σ H Q=>td σ H fun x H1=>ty σ H1 fun y H2=>∃a v,x=.ref a/\sh K H2 a y (some v)/\Q v H2
def vo (K:PySem.W.Frag) (ty td:TE):TE:=fun σ H Q=>ty σ H fun y H1=>td σ H1 fun x H2=>∃a o,x=.ref a/\sh K H2 a y o/\Q (.bl o.isSome) H2
def jo (K:PySem.W.Frag) (ty td:TE):TE:=fun σ H Q=>ty σ H fun y H1=>td σ H1 fun x H2=>∃a o,x=.ref a/\sh K H2 a y o/\Q (.bl (!o.isSome)) H2
def m8 (td ty tv:TE):TS:=fun D σ H=>tv σ H fun v H1=>td σ H1 fun x H2=>ty σ H2 fun y H3=>∃a H4,x=.ref a/\wj H3 a y v H4/\D.nx σ H4
section
variable {X:Cx}{o i e value:Expr}{pos pos' tpos:Pos}{td ty tv:TE}
theorem lA (hu:X.A.units+16<cLine) (ho:PE X o td) (hi:PE X i ty) (hs:uq i):PE X (.Subscript o i pos) (qQ X.K td ty):=by
 intro pins s σ H Q I h
 refine tw PySem.F.slot_dict_getitem.lookup hs (thn (ho pins s σ H _ I h) fun u s1 ⟨x,H1,I1,rx,q1⟩=>thn (hi pins s1 σ H1 _ I1 q1) fun iv s2 ⟨y,H2,I2,ry,a,v,ex,g,q2⟩=>?_)
 subst ex
 obtain rfl:u=Value.ref a:=rx
 exact ⟨lK I2 g,p7 hu I2 g ry fun w' s3 I3 rw'=>⟨v,H2,I3,rw',q2⟩⟩
theorem pf (hu:X.A.units+16<cLine) (hi:PE X i ty) (ho:PE X o td):PC X .In i o (vo X.K ty td):=by
 intro pins s σ H Q I h
 refine thn (hi pins s σ H _ I h) fun iv s1 ⟨y,H1,I1,ry,q1⟩=>thn (ho pins s1 σ H1 _ I1 q1) fun u s2 ⟨x,H2,I2,rx,a,ov,ex,g,q2⟩=>?_
 subst ex
 obtain rfl:u=Value.ref a:=rx
 exact wv hu I2 g ry fun s3 I3=>⟨.bl ov.isSome,H2,I3,rfl,q2⟩
theorem g_ (hu:X.A.units+16<cLine) (hi:PE X i ty) (ho:PE X o td):PC X .NotIn i o (jo X.K ty td):=by
 intro pins s σ H Q I h
 refine thn (hi pins s σ H _ I h) fun iv s1 ⟨y,H1,I1,ry,q1⟩=>thn (ho pins s1 σ H1 _ I1 q1) fun u s2 ⟨x,H2,I2,rx,a,ov,ex,g,q2⟩=>?_
 subst ex
 obtain rfl:u=Value.ref a:=rx
 exact ue hu I2 g ry fun s3 I3=>⟨.bl (!ov.isSome),H2,I3,rfl,q2⟩
theorem g0 (hu:X.A.units+16<cLine) (ho:PE X o td) (hi:PE X i ty) (hv:PE X value tv) (hs:swapsWith value (some (.Subscript o i pos')) pos.line X.env=pure false) :
  PS X (.Assign [.Subscript o i pos'] value pos) (m8 td ty tv):=by
 intro pins s σ H D I h
 refine wpAny_Assign_Subscript (thn (hv pins s σ H _ I h) fun r s1 ⟨v,H1,I1,rv,q1⟩=>thn (ho pins s1 σ H1 _ I1 q1) fun u s2 ⟨x,H2,I2,rx,q2⟩=>thn (hi pins s2 σ H2 _ I2 q2) fun iv s3 ⟨y,H3,I3,ry,a,H4,ex,g,q3⟩=>?_) hs
 subst ex
 obtain rfl:u=Value.ref a:=rx
 exact p6 hu I3 g ry rv fun s4 I4=>⟨σ,H4,I4,q3⟩
end
theorem rT {P:Program}{w:World}{K:PySem.W.Frag}{H:Hp}(h:Heap) (hb:sysModules<h.objs.size):ObjOk P w K H (h.push { cls:=.type "dict",data:=.dict #[] }) h.objs.size (.dK []) :=
 ⟨Nat.zero_le _,beq_eq_false_iff_ne.mpr (Ne.symm (Nat.ne_of_lt hb)),[],.nil,Heap.DictOf.new h⟩
theorem rR {P:Program}{w:World}{K:PySem.W.Frag}{H:Hp}(h:Heap) (hb:sysModules<h.objs.size):ObjOk P w K H (h.push { cls:=.type "dict",data:=.dict #[] }) h.objs.size (.dT []) :=
 ⟨Nat.zero_le _,beq_eq_false_iff_ne.mpr (Ne.symm (Nat.ne_of_lt hb)),[],.nil,_,#[],0,Heap.get?_push_size _ rfl,⟨rfl,rfl,rfl⟩,rfl,rfl,List.nodup_nil⟩
def l9:TE:=fun _ H Q=>∀p,H p=none->Q (.ref p) (upd H p (.dK []))
def oF:TE:=fun _ H Q=>∀p,H p=none->Q (.ref p) (upd H p (.dT []))
section
variable {X:Cx}{pos:Pos}
theorem jF:PE X (.Dict [] [] pos) l9:=fun pins s σ H Q I h =>
 wpAny_Dict_empty ⟨.ref s.heap.objs.size,_,I.laid (a:=s.heap.objs.size) (o:=.dK []) (t':=s.toks) (fun _ _ q=>Heap.get?_push_of_some _ q) (Nat.le_refl _) (rT s.heap I.big),rfl,h _ (I.hok.fresh (Nat.le_refl _))⟩
theorem ml:PE X (.Dict [] [] pos) oF:=fun pins s σ H Q I h =>
 wpAny_Dict_empty ⟨.ref s.heap.objs.size,_,I.laid (a:=s.heap.objs.size) (o:=.dT []) (t':=s.toks) (fun _ _ q=>Heap.get?_push_of_some _ q) (Nat.le_refl _) (rR s.heap I.big),rfl,h _ (I.hok.fresh (Nat.le_refl _))⟩
end
def dX (kvs more:List (Key×V)):List (Key×V):=more.foldl (fun acc kv=>fX acc kv.1 kv.2) kvs
theorem KV.merge:∀{more:List (Key×V)}{rs:List (Key×Value)}{kvs:List (Key×V)}{vs:List (Key×Value)},KV more rs->KV kvs vs->KV (dX kvs more) (merged vs rs):=by
 intro more rs kvs vs r
 unfold KV at r
 induction r generalizing kvs vs with
 | nil=>intro q; exact q
 | @cons p q ps qs h t ih =>
  intro r0
  have e:KV (fX kvs p.1 p.2) (stored vs q.1 q.2):=by
   have:=r0.put p.1 h.2
   rw [<-h.1]; exact this
  exact ih e
theorem eZ:∀(more kvs:List (Key×V)),(dX kvs more).length<=kvs.length+more.length
 | [],kvs=>by show kvs.length<=kvs.length+0; omega
 | p::r,kvs=>by
  have h1:=eZ r (fX kvs p.1 p.2)
  have h2:=eo kvs p.1 p.2
  show (dX (fX kvs p.1 p.2) r).length<=_
  rw [List.length_cons]; omega
structure M1 (X:Cx) (o:Expr) (m:Str) (apos:Pos) (e:Expr) (cpos:Pos):Prop where
 base:attributeBase o m X.env (eval o X.env)=eval o X.env
 few:((backTo cpos (starEach [e] X.env)).all (fun x=>!x.1) && (backToKw cpos (keywordEach [] X.env)).all (fun x=>x.1.isSome)
  && decide (([e]:List Expr).length+([]:List Keyword).length+(if ([]:List Keyword).isEmpty then 0 else 1)<30))=true
 line:(apos.endLine == cpos.line)=true
 trees:backTo cpos (starEach [e] X.env)=[(false,eval e X.env)]
structure M2 (X:Cx) (o:Expr) (m:Str) (apos:Pos) (e f:Expr) (cpos:Pos):Prop where
 base:attributeBase o m X.env (eval o X.env)=eval o X.env
 few:((backTo cpos (starEach [e,f] X.env)).all (fun x=>!x.1) && (backToKw cpos (keywordEach [] X.env)).all (fun x=>x.1.isSome)
  && decide (([e,f]:List Expr).length+([]:List Keyword).length+(if ([]:List Keyword).isEmpty then 0 else 1)<30))=true
 line:(apos.endLine == cpos.line)=true
 trees:backTo cpos (starEach [e,f] X.env)=[(false,eval e X.env),(false,eval f X.env)]
def IsD (H:Hp) (a:Addr):Prop:=(∃kvs,Rd H a (.dK kvs))∨∃kvs,Rd H a (.dT kvs)
theorem u5 {X:Cx}{pins:List (Addr×Obj)}{σ:St}{H:Hp}{s:Shared}{a:Addr}(I:Inv X pins σ H s) (d:IsD H a) :
  s.TypeIs (.ref a) "dict"/\(∀b,Value.ref a=.ref b->∃ob,s.heap.get? b=some ob/\ob.dict=none)/\(a == sysModules)=false:=by
 rcases d with ⟨kvs,e⟩ | ⟨kvs,e⟩
 ·obtain ⟨_,hd,vs,_,dd⟩:=kD I.hok e
  refine ⟨dd.typeIs,fun b q=>?_,hd⟩
  cases q
  obtain ⟨ob,_,_,h1,h2,_⟩:=dd
  exact ⟨ob,h1,h2.2.1⟩
 ·obtain ⟨_,hd,xs,_,dd⟩:=lJ I.hok I.kIn e
  refine ⟨dd.typeIs,fun b q=>?_,hd⟩
  cases q
  obtain ⟨ob,_,_,h1,h2,_⟩:=dd
  exact ⟨ob,h1,h2.2.1⟩
section
variable {X:Cx}{pins:List (Addr×Obj)}{σ:St}{H:Hp}{s:Shared}{a:Addr}{y d:V}{u r:Value}{o:Option V}{A:Around}{E:Value->Shared->Prop}
theorem vf {Q:Value->Shared->Prop}(hu:A.units+16<cLine) (I:Inv X pins σ H s) (g:sh X.K H a y o) (ry:RelV y u) (rd:RelV d r) (h:∀w' s',Inv X pins σ H s'->RelV (o.getD d) w'->Q w' s') :
  wpAny (model X.prog X.w) A (call (.builtin "dict.get") [.ref a,u,r]) Q E s:=by
 rcases g with ⟨kvs,k,e,ey,l⟩ | ⟨kvs,k,b,e,ey,eb,e8,l⟩
 ·subst ey
  obtain ⟨z,hd,vs,rel,dd⟩:=kD I.hok e
  refine call_meetsIn PySem.F.slot_dict_get dd.typeIs PySem.F.entry_dict_get (PySem.F.args_dict_get_3 _ _ _) (meets_dict_get_default (aG X.prog X.w) a (gq ry) hd r) ⟨_,dd.mapOf,h _ _ (I.tok _) ?_⟩
  rw [l]
  exact (rel.val k).getD rd
 ·subst ey
  cases (show u=Value.ref b from ry)
  obtain ⟨z,hd,xs,rel,dd⟩:=lJ I.hok I.kIn e
  refine call_meetsIn PySem.F.slot_dict_get dd.typeIs PySem.F.entry_dict_get (PySem.F.args_dict_get_3 _ _ _) (meetsH_dict_get_default (bR X.prog X.w) a b hd r) ⟨cE hu,k,xs,mz I eb e8,dd,h _ _ (I.tok _) ?_⟩
  rw [l]
  exact (rel.val k).getD rd
end
def l_ (K:PySem.W.Frag) (td ty tx:TE):TE:=fun σ H Q=>td σ H fun x H1=>∃a,x=.ref a/\IsD H1 a/\ty σ H1 fun y H2=>tx σ H2 fun z H3=>∃o,sh K H3 a y o/\Q (o.getD z) H3
section
variable {X:Cx}{o e f:Expr}{apos cpos:Pos}{td ty tx:TE}
theorem jG (hu:X.A.units+16<cLine) (ho:PE X o td) (he:PE X e ty) (hf:PE X f tx) (m:M2 X o "get" apos e f cpos):PE X (.Call (.Attribute o "get" apos) [e,f] [] cpos) (l_ X.K td ty tx):=by
 intro pins s σ H Q I h
 refine wpAny_Call_method m.base m.few m.line PySem.F.plainAttrs_dict PySem.F.slot_dict_get PySem.F.type_dict_get (thn (ho pins s σ H _ I h) fun u s1 ⟨x,H1,I1,rx,a,ex,d,q1⟩=>?_)
 subst ex
 obtain rfl:u=Value.ref a:=rx
 obtain ⟨t1,t2,_⟩:=u5 I1 d
 refine ⟨t1,t2,?_⟩
 rw [m.trees]
 refine Calls.callWith_builtin rfl (Calls.evalArgs_plain (Calls.spliced_cons (thn (he pins s1 σ H1 _ I1 q1) fun iv s2 ⟨y,H2,I2,ry,q2⟩ =>
  Calls.spliced_cons (thn (hf pins s2 σ H2 _ I2 q2) fun fv s3 ⟨z,H3,I3,rz,ov,g,q3⟩=>Calls.spliced_nil ?_))))
 exact vf hu I3 g ry rz fun w' s4 I4 rw'=>⟨_,H3,I4,rw',q3⟩
end
section
variable {X:Cx}{pins:List (Addr×Obj)}{σ:St}{H:Hp}{s:Shared}{a:Addr}{kvs:List (Key×V)}{A:Around}{E:Value->Shared->Prop}
end
section
variable {X:Cx}{pins:List (Addr×Obj)}{σ:St}{H:Hp}{s:Shared}{a:Addr}{y:V}{u:Value}{A:Around}{E:Value->Shared->Prop}
end
end L2
namespace Att
open PySem PySem.W PySem.Calls PyProof.Rows
theorem ints_of_wellAll {P:Params}{h:Heap}:∀(ns:List Int) (vs:List Value),WellAll P h vs (ns.map WData.int)->IntsAre vs ns:=by
 intro ns
 induction ns with
 | nil =>
  intro vs w
  rw [List.map_nil] at w
  cases w
  exact .nil
 | cons n ns ih =>
  intro vs w
  rw [List.map_cons] at w
  cases w with
  | cons a b =>
   cases a
   exact .cons _ _ (ih _ b)
theorem script_of {l:OpenLaw}{n:Nat}(hn:l.most=some n) {P:Params}{h:Heap}{args:List WData}{vals:List Value}
  (hpre:l.row.toRowW.claim.pre args=true) (hwl:WellAll P h vals args) :
  ∃a vs ns,vals=[Value.ref a]/\args=[WData.list (ns.map WData.int)]/\h.get? a=some { cls:=.type "list",data:=.seq vs.toArray }/\IntsAre vs ns/\ns.length<=n:=by
 have hsh:WShape.hasAll [] args [.list .int]=true:=(pre_splitW hpre).1
 have hc:l.pre.holds [] { args:=args }=true:=(pre_splitW hpre).2
 obtain ⟨d,r,rfl,h1,h2⟩:=hasAllW_cons hsh
 obtain rfl:=hasAllW_nil h2
 obtain ⟨xs,rfl,h3⟩:=hasW_list h1
 obtain ⟨ns,rfl⟩:=items_int h3
 have hlen:ns.length<=n:=by
  unfold OpenLaw.pre at hc
  have h4:(WTm.not (.lt (.lit (.int (n:Int))) (.len (.arg 0)))).holds [] { args:=[.list (ns.map .int)] }=true:=by
   have h4:=(holds_andW hc).1
   rw [hn] at h4
   exact h4
  have h5:=condW_of h4 (w_not (w_lt w_lit (w_len_list (w_arg rfl))))
  rw [List.length_map] at h5
  refine Nat.le_of_not_lt fun q=>?_
  have q':(n:Int)<((ns.length:Nat):Int):=by omega
  first
   | (rw [decide_eq_true q'] at h5; exact absurd h5 (by decide))
   | (simp at h5; omega)
 cases hwl with
 | cons w1 w2 =>
  cases w2
  cases w1 with
  | list ho hall=>exact ⟨_,_,ns,rfl,rfl,ho,ints_of_wellAll ns _ hall,hlen⟩
theorem post_true (l:OpenLaw) (args:List WData):l.row.toRowW.claim.post args (.bool true) args=true :=
 postW_of (r:=l.row.toRowW) (X:=(true == true))
  (show WShape.has [] (.bool true) .bool=true by first | rfl | decide | simp [WShape.has,WShape.arms,WShape.armsAll])
  (show (WTm.eq .res (.lit (.bool true))).value [] { args:=args,res:=some (.bool true),after:=args }=some (.bool (true == true)) from w_eq_bool (w_res rfl) w_lit) rfl
theorem attach_call {l:OpenLaw}{n:Nat}{q:Program}{loose:List Str}{XP:(Str->Option Value)->Heap->Prop}{YP:World->Heap->Prop}{d:DefRec}
  (hn:l.most=some n) (hdf:d.params.defaults=[])
  (call:∀(w:World) (s₀ s₁:Shared) (mg mb:Str->Option Value) (fa:Addr) (o:Obj) (pm cd doc:Value) (a:Addr) (vs:List Value) (ns:List Int),
   Ground q loose [] XP w s₀ mg mb s₁.heap->YP w s₁.heap ->
   s₁.heap.get? fa=some o->o.data=.func (docDef d.name d.params d.body d.scope pm cd doc)->s₁.heap.CodeRec cd d.name->mg d.name=some (.ref fa) ->
   s₁.heap.get? a=some { cls:=.type "list",data:=.seq vs.toArray }->IntsAre vs ns->ns.length<=n->s₁.gens=#[] ->
   codeAny (model l.prog w) callerA (.call (.ref fa) ⟨[.ref a],[]⟩) (fun r s'=>r=.ok (.ret (.bool true))/\OldK s₁.heap s'.heap/\s'.os=s₁.os/\AllBare s'.gens) s₁) :
  WalkO q loose XP YP l.row.toRowW d [] (fun f vs=>PySem.call f vs):=by
 intro w s₀ s₁ mg mb G Y fa o pm cd doc dV kV ho hd hcd hD hmg hg args vals as hpre hlay hrd hwl hlo
 obtain rfl:dV=.none:=Dflts.none hD hdf
 obtain rfl:kV=.none:=Dflts.noKw hD
 obtain ⟨a,vs,ns,rfl,rfl,hobj,hints,hlen⟩:=script_of hn hpre hwl
 refine enter_call (codeAny_mono (call w s₀ s₁ mg mb fa o pm cd doc a vs ns G Y ho (fd_plain hd) hcd hmg hobj hints hlen hg) fun r s' hq=>?_)
 obtain ⟨rfl,h2,h3,h4⟩:=hq
 exact ⟨.inl ⟨.bool true,.bool true,[],rfl,fun _=>rfl,.bool true,post_true l _,fun _=>⟨List.Pairwise.nil,fun _ hm=>(nomatch hm)⟩⟩,h2,h3,h4⟩
section
variable {prog:Program}{w:World}{A:Around}{E:Value->Shared->Prop}{s:Shared}{K:Frag}
end
end Att
namespace L2
open PySem PySem.Spec PyProof.Rows
theorem jV:∀{vs:List Value}{ns:List Int},IntsAre vs ns->Vals (ns.map V.int) vs
 | _,_,.nil=>.nil
 | _,_,.cons n t h=>.cons ⟨t,rfl⟩ (jV h)
def vw (H:Hp):Prop:=∀b,H b=none∨∃o xs,H b=some (.frz o (.lst xs))
theorem rH {P:Program}{w:World}{K:PySem.W.Frag}{mg mb:Str->Option Value}{CX:CXT}{k:Nat}{fa a:Addr}{fd:FuncData}{x:Str}{sp:Sp}{s₁:Shared}{vs:List Value}{ns:List Int}
  (KX:K.In s₁.heap) (hns:s₁.heap.Ns mainGlobals mg) (hb:s₁.heap.Ns builtinsNs mb) (hbb:∀x:Str,x≠"__name__"->mb x=bootBuiltins x) (hlim:s₁.heap.NoLimit) (hg:s₁.gens=#[])
  (ha:s₁.heap.get? a=some { cls:=.type "list",data:=.seq vs.toArray }) (hi:IntsAre vs ns) (hl:ns.length<=sizeLine) (hr:Room k callerA)
  (F:∀base:Heap,K.In base->base.Ns mainGlobals mg->gy P w K mg base CX k fa fd [x] sp) (hbind:∀(s:Shared) (u:Value),BindsTo s fd ⟨[u],[]⟩ [(x,u)])
  (hsp:∀H:Hp,vw H->SqL K H a (ns.map V.int)->sp [.ref a] H (fun v _=>v=.bl true) fun _ _ _=>False)
  (hCX:∀H e s',CX [] H s₁ (fun _ _ _=>False) e s'->False) :
  codeAny (model P w) callerA (.call (.ref fa) ⟨[.ref a],[]⟩) (fun r s'=>r=.ok (.ret (.bool true))/\OldK s₁.heap s'.heap/\s'.os=s₁.os/\AllBare s'.gens) s₁:=by
 have rv:=jV hi
 have lenV:=hi.length
 have core:∀H:Hp,vw H->SqL K H a (ns.map V.int)->HOk P w K H s₁.heap->(∀b,H b≠none->b=a)->(H a≠none->K.lookup a=none) ->
   codeAny (model P w) callerA (.call (.ref fa) ⟨[.ref a],[]⟩) (fun r s'=>r=.ok (.ret (.bool true))/\OldK s₁.heap s'.heap/\s'.os=s₁.os/\AllBare s'.gens) s₁:=by
  intro H hO hS hok hA hK
  have base_of:∀{b:Addr}{o:Obj},s₁.heap.get? b=some o->H b=none->(rN s₁.heap H).get? b=some o:=fun e n=>rM e n
  have noA:∀{b:Addr}{o:Obj}{es:Array DictEntry}{ep:Nat},s₁.heap.get? b=some o->o.data=.dict es ep->H b=none:=fun {b o es ep} e d=>by
   cases q:H b with
   | none=>rfl
   | some u =>
    have e':b=a:=hA b (by rw [q]; simp)
    subst e'
    rw [ha] at e; cases e
    have d':Data.seq vs.toArray _=Data.dict es ep:=d
    cases d'
  have nsK:∀{b:Addr}{m:Str->Option Value},s₁.heap.Ns b m->(rN s₁.heap H).Ns b m:=fun {b m} ⟨o,es,ep,e,d,r⟩=>⟨o,es,ep,base_of e (noA e d),d,r⟩
  have hKb:K.In (rN s₁.heap H):=fun b o e=>base_of (KX b o e) (by
   cases q:H b with
   | none=>rfl
   | some u =>
    have e':b=a:=hA b (by rw [q]; simp)
    subst e'
    rw [hK (by rw [q]; simp)] at e; cases e)
  have hM:Mod K mg (rN s₁.heap H):=⟨hKb,nsK hns,⟨mb,nsK hb,hbb⟩,let ⟨mc,h1,h2⟩:=hlim; ⟨mc,nsK h1,h2⟩⟩
  have e0:Env0 P w K mg (rN s₁.heap H) callerA [] s₁ H:=⟨rfl,hM,fun b o e=>t5 e,Nat.le_of_eq (pQ _ _),trivial,fun b hb=>absurd (show b∈([]:List Addr) from hb) (by simp),hok,.of_eq hg⟩
  refine codeAny_mono ((F _ hKb (nsK hns)).run callerA [] s₁ H ⟨[.ref a],[]⟩ [.ref a] [.ref a] _ _ hr e0 (hbind s₁ (.ref a)) (.cons rfl .nil) (hsp H hO hS)) fun r s' h=>?_
  cases r with
  | error e=>exact (hCX H e s' h).elim
  | ok fl =>
   cases fl with
   | next=>exact False.elim h
   | brk=>exact False.elim h
   | cont=>exact False.elim h
   | ret u =>
    obtain ⟨v,H',os,bare,un,hok',r',q⟩:=h
    have q':v=.bl true:=q
    subst q'
    obtain rfl:u=Value.bool true:=r'
    refine ⟨rfl,OldK.of_keep fun b o e=>?_,os,bare⟩
    cases q:H b with
    | none=>exact un.keep b o e q (by intro z; exact absurd (show b∈([]:List Addr) from z) (by simp)) (by simp)
    | some u =>
     rcases hO b with z | ⟨ob,xs,z⟩
     ·rw [q] at z; cases z
     ·have z2:=un.frzs b ob _ z
      obtain ⟨e1,_⟩:=hok b _ z
      obtain ⟨e2,_⟩:=hok' b _ z2
      rw [e] at e1; cases e1
      exact e2
 cases hk:K.lookup a with
 | some o =>
  have e:=KX a o hk
  rw [ha] at e
  cases e
  refine core (fun _=>none) (fun _=>.inl rfl) (.inr ⟨_,vs.toArray,_,hk,rfl,rfl,rfl,by rw [List.size_toArray,lenV]; exact hl,by simpa using rv⟩) (fun b u z=>by have z':(none:Option HO)=some u:=z; cases z') (fun b z=>absurd rfl z) fun z=>absurd rfl z
 | none =>
  refine core (fun b=>if b=a then some (.frz { cls:=.type "list",data:=.seq vs.toArray } (.lst (ns.map V.int))) else none) (fun b=>?_) (.inl (.inr ⟨{ cls:=.type "list",data:=.seq vs.toArray },if_pos rfl⟩)) (fun b u z=>?_) (fun b z=>?_) fun _=>hk
  ·by_cases hb:b=a
   ·exact .inr ⟨_,_,if_pos hb⟩
   ·exact .inl (if_neg hb)
  ·by_cases hb:b=a
   ·have z':=(if_pos hb).symm.trans z
    cases z'
    subst hb
    exact ⟨ha,by rw [List.length_map]; exact hl,vs,_,rv,ha⟩
   ·have z':=(if_neg hb).symm.trans z
    cases z'
  ·by_cases hb:b=a
   ·exact hb
   ·exact absurd (if_neg hb) z
end L2
namespace L2
open PySem PySem.Spec PyProof.Rows
theorem sW {l:PySem.W.OpenLaw}{n k:Nat}{q:Program}{loose:List Str}{XP:(Str->Option Value)->Heap->Prop}{YP:World->Heap->Prop}{d:DefRec}{K:Params->PySem.W.Frag}{CX:World->CXT}{sp:World->Sp}{x:Str}
  (hn:l.most=some n) (hn2:n<=sizeLine) (hdf:d.params.defaults=[]) (hr:Room k callerA)
  (hY:∀(w:World) (h:Heap),YP w h->(K w.params).In h)
  (F:∀(w:World) (mg:Str->Option Value) (fa:Addr) (h:Heap),(K w.params).In h->h.Ns mainGlobals mg->mg d.name=some (.ref fa) ->
   ∃fd:FuncData,(∀(s:Shared) (u:Value),BindsTo s fd ⟨[u],[]⟩ [(x,u)]) /\
    ∀base:Heap,(K w.params).In base->base.Ns mainGlobals mg->gy l.prog w (K w.params) mg base (CX w) k fa fd [x] (sp w))
  (hsp:∀(w:World) (H:Hp) (a:Addr) (ns:List Int),ns.length<=n->vw H->SqL (K w.params) H a (ns.map V.int)->sp w [.ref a] H (fun v _=>v=.bl true) fun _ _ _=>False)
  (hCX:∀(w:World) (H:Hp) (s:Shared) (e:Value) (s':Shared),CX w [] H s (fun _ _ _=>False) e s'->False) :
  PySem.W.WalkO q loose XP YP l.row.toRowW d [] (fun f vs=>PySem.call f vs):=by
 refine Att.attach_call hn hdf fun w s₀ s₁ mg mb fa o pm cd doc a vs ns G Y ho hd hcd hmg hobj hints hlen hg=>?_
 have KX:=hY w _ Y
 obtain ⟨fd,hb,hF⟩:=F w mg fa _ KX G.T.g hmg
 exact rH KX G.T.g G.T.b G.T.builtins G.T.nolimit hg hobj hints (Nat.le_trans hlen hn2) hr hF hb (fun H hO hS=>hsp w H a ns hlen hO hS) fun H e s'=>hCX w H s₁ e s'
theorem walk_ofK {l:PySem.W.OpenLaw}{n k:Nat}{q:Program}{loose:List Str}{XP:(Str->Option Value)->Heap->Prop}{YP:World->Heap->Prop}{d:DefRec}{K:Params->PySem.W.Frag}{CX:CXT}{sp:PySem.W.Frag->Sp}{x:Str}
  (hn:l.most=some n) (hn2:n<=sizeLine) (hdf:d.params.defaults=[]) (hr:Room k callerA)
  (hY:∀(w:World) (h:Heap),YP w h->(K w.params).In h)
  (F:∀(w:World) (mg:Str->Option Value) (fa:Addr) (h:Heap),(K w.params).In h->h.Ns mainGlobals mg->mg d.name=some (.ref fa) ->
   ∃fd:FuncData,(∀(s:Shared) (u:Value),BindsTo s fd ⟨[u],[]⟩ [(x,u)]) /\
    ∀base:Heap,(K w.params).In base->base.Ns mainGlobals mg->gy l.prog w (K w.params) mg base CX k fa fd [x] (sp (K w.params)))
  (hsp:∀(K:PySem.W.Frag) (H:Hp) (a:Addr) (ns:List Int),ns.length<=n->vw H->SqL K H a (ns.map V.int)->sp K [.ref a] H (fun v _=>v=.bl true) fun _ _ _=>False)
  (hCX:∀(H:Hp) (s:Shared) (e:Value) (s':Shared),CX [] H s (fun _ _ _=>False) e s'->False) :
  PySem.W.WalkO q loose XP YP l.row.toRowW d [] (fun f vs=>PySem.call f vs) :=
 sW (K:=K) (CX:=fun _=>CX) (sp:=fun w=>sp (K w.params)) hn hn2 hdf hr hY F (fun w H a ns h1 h2 h3=>hsp (K w.params) H a ns h1 h2 h3) fun _ H s e s'=>hCX H s e s'
end L2
namespace L2
open PySem PySem.Spec PyProof.Rows
def eB (s:Stmt) (j:Nat):Stmt:=match s with
 | .ClassDef _ _ _ body _ _ _ _ _ _ _=>body.getD j (.Pass ⟨0,0,0,0⟩)
 | _=>.Pass ⟨0,0,0,0⟩
def cV (s:Stmt):Arguments:=match s with
 | .FunctionDef _ a _ _ _ _ _ _ _ _=>a
 | _=>{ posonlyargs:=[],args:=[],vararg:=none,kwonlyargs:=[],kw_defaults:=[],kwarg:=none,defaults:=[] }
def bM (s:Stmt):List Stmt:=match s with
 | .FunctionDef _ _ b _ _ _ _ _ _ _=>b
 | _=>[]
def az (s:Stmt):Scope:=match s with
 | .FunctionDef _ _ _ _ _ _ sc _ _ _=>sc
 | _=>{ kind:=.function,names:=[],isGenerator:=false,isCoroutine:=false }
abbrev CX0:CXT:=fun _ _ _ _ _ _=>False
abbrev E0:XK:=fun _ _ _=>False
theorem rE {X:Cx}:iq CX0 X E0:=fun _ _ _ _ _ _ _ h=>h.elim
structure Fun (K:PySem.W.Frag) (x qual:Str) (st:Stmt) (f:Addr) (fd:FuncData):Prop where
 ex:∃(oc:Value) (od:Option Addr) (kV doc pm:Value) (an:Option Addr) (cdv ct:Value) (osl:Array (Option Value)),
  fd=PySem.W.fnOf x qual (cV st) (bM st) (az st) .none kV doc pm an cdv ct/\K.lookup f=some ⟨oc,od,.func fd,osl⟩/\PySem.W.codeIn K cdv qual=true
 kp:PySem.W.keepIn K (.ref f)=true
section
variable {P:Program}{w:World}{K:PySem.W.Frag}{mg:Str->Option Value}{base:Heap}
theorem Fun.ok {x qual:Str}{st:Stmt}{f:Addr}{fd:FuncData}{N ps:List Str}{k:Nat}{sp:Sp}(F:Fun K x qual st f fd) (S:bN N ps (az st)) (len:∀vs H Q E,sp vs H Q E->vs.length=ps.length)
  (hbody:∀(cdv:Value) (A:Around) (outer:List Env) (s:Shared) (H:Hp) (vs:List V) (Q:VK) (E:XK),Room k (A.deeper (envOfC qual (az st) s.heap.objs.size f cdv))->sp vs H Q E ->
   ∃t,PSs (qC CX0 P w K mg base N qual (az st) f cdv A outer s H E).nox (bM st) t/\t { nx:=fun _ H'=>Q .non H',rt:=Q } (start N vs) H):gy P w K mg base CX0 (k+1) f fd ps sp:=by
 obtain ⟨oc,od,kV,doc,pm,an,cdv,ct,osl,rfl,lk,hcd⟩:=F.ex
 refine u6 lk hcd S len fun A outer s H vs Q E hr hsp=>?_
 obtain ⟨t,h,q⟩:=hbody cdv A outer s H vs Q E hr hsp
 exact ⟨t,h.nox,q⟩
theorem Fun.binds {x qual:Str}{st:Stmt}{f:Addr}{fd:FuncData}{ps:List Str}(F:Fun K x qual st f fd)
  (h:∀(kV doc pm:Value) (an:Option Addr) (cdv ct:Value) (us:List Value),us.length=ps.length->bindArgs (PySem.W.fnOf x qual (cV st) (bM st) (az st) .none kV doc pm an cdv ct) ⟨us,[]⟩=pure (ps.zip us)):Binds K fd ps []:=by
 obtain ⟨oc,od,kV,doc,pm,an,cdv,ct,osl,rfl,lk,hcd⟩:=F.ex
 exact .all (h kV doc pm an cdv ct)
theorem sH {x qual:Str}{st:Stmt}{f:Addr}{oc:Value}{od an:Option Addr}{osl:Array (Option Value)}{kV doc pm cdv ct:Value}(l:K.lookup f=some ⟨oc,od,.func (PySem.W.fnOf x qual (cV st) (bM st) (az st) .none kV doc pm an cdv ct),osl⟩)
  (c:PySem.W.codeIn K cdv qual=true) (k:PySem.W.keepIn K (.ref f)=true):Fun K x qual st f (PySem.W.fnOf x qual (cV st) (bM st) (az st) .none kV doc pm an cdv ct):=⟨⟨oc,od,kV,doc,pm,an,cdv,ct,osl,rfl,l,c⟩,k⟩
end
theorem kA {A:Around}{k:Nat}(hr:Room k A):A.units+16<cLine:=Nat.lt_of_le_of_lt (Nat.add_le_add_left (by decide:16<=64) _) hr.units
theorem aA {n:Nat}(h:n<=1000):n<sizeLine:=Nat.lt_of_le_of_lt h (by decide)
section
variable {X:Cx}
theorem pv (i:Nat) {x:Str}{pos:Pos}(hN:X.N[i]?=some x:=by rfl) (hv:Vis X.env.scope x:=by first | exact Or.inl rfl | exact Or.inr (Or.inl rfl) | exact Or.inr (Or.inr rfl)) (hd:(x == ("__debug__":Str))=false:=by decide)
  (hcd:(x == ("__classdict__":Str))=false:=by decide):PE X (.Name x pos) (af i):=uS hN hv hd hcd
end
theorem bp {A B:Prop}(h:B):if false=true then A else B:=by
 rw [if_neg Bool.false_ne_true]
 exact h
theorem cb {A B:Prop}(h:A):if true=true then A else B:=by
 rw [if_pos rfl]
 exact h
theorem pI {c A B:Prop} [Decidable c] (h1:c->A) (h2:¬c->B):if c then A else B:=by
 by_cases h:c
 ·rw [if_pos h]
  exact h1 h
 ·rw [if_neg h]
  exact h2 h
def Same (H H':Hp):Prop:=∀b o,H b=some o->H' b=some o
theorem Same.refl (H:Hp):Same H H:=fun _ _ h=>h
theorem Same.trans {H H1 H2:Hp}(a:Same H H1) (b:Same H1 H2):Same H H2:=fun c o h=>b c o (a c o h)
theorem Same.free {H H':Hp}(e:Same H H') {l:Addr}(h:H' l=Option.none):H l=Option.none:=by
 cases q:H l with
 | none=>rfl
 | some o =>
  rw [e l o q] at h
  cases h
theorem Same.seq {K:PySem.W.Frag}{H H':Hp}{a:Addr}{xs:List V}(e:Same H H') (h:SqL K H a xs):SqL K H' a xs:=by
 rcases h with (h | ⟨o,h⟩) | h
 ·exact .inl (.inl (e _ _ h))
 ·exact .inl (.inr ⟨o,e _ _ h⟩)
 ·exact .inr h
section
variable {X:Cx}
end
section
variable {κ:Type} [DecidableEq κ]
end
end L2
end

section
set_option Elab.async false
set_option linter.all false
set_option maxRecDepth 100000
namespace L2
open PySem PySem.Spec PyProof.Rows
section
variable {prog:Program}{w:World}{A:Around}{R:Result->Shared->Prop}{s:Shared}
abbrev XF:Value->Shared->Prop:=fun _ _=>False
abbrev pN (ifs:List Expr) (env:Env):Sem Bool:=forIn ifs true fun c r=>if r=true then do let ok <- isTrue c env (eval c env); pure (ForInStep.yield ok) else pure (ForInStep.yield r)
theorem kG {elt target iter:Expr}{ifs:List Expr}{scope:Scope}{pos:Pos}{it acc:Value}{env:Env}(I:Nat->Shared->Prop)
  (turn:∀n s,I n s->wpAny (model prog w) A (pyNext it) (fun r s₁=>match r with
   | none=>R (.ok .next) s₁
   | some v=>wpAny (model prog w) A (letOwnedTupleGo target it v) (fun _ s₁'=>wpAny (model prog w) A (assign target env v) (fun _ s₂ =>
     wpAny (model prog w) A (pN ifs env) (fun ok s₃ =>
      if ok=true then wpAny (model prog w) A (eval elt env) (fun x s₄ =>
       wpAny (model prog w) A (call (.builtin "list.append") [acc,x]) (fun _ s₅=>∃m,m<n/\I m s₅) XF s₄) XF s₃
      else ∃m,m<n/\I m s₃) XF s₂) XF s₁') XF s₁) XF s)
  (n:Nat) (h:I n s):codeAny (model prog w) A (.compLoop (.ListComp elt [⟨target,iter,ifs,0⟩] scope pos) 0 it acc env) R s:=by
 refine codeAny_loop rfl I (fun n s hI=>?_) n h
 show wpAny _ A ((compTurn (.ListComp elt [⟨target,iter,ifs,0⟩] scope pos) 0 it acc env).onRaise (fun x=>do noteFrame x env; theTreesLotGoes x)) _ _ s
 refine wpAny_noted ?_
 rw [compTurn_list]
 refine wpAny_bind (wpAny_standAt (wpAny_bind (wpAny_mono (turn n s hI) (fun r s₁ h₁=>?_) fun _ _ h'=>h'.elim)))
 cases r with
 | none=>exact wpAny_pure h₁
 | some v =>
  refine wpAny_bind (wpAny_mono h₁ (fun _ s₁' h₁'=>?_) fun _ _ h'=>h'.elim)
  refine wpAny_bind (wpAny_mono h₁' (fun _ s₂ h₂=>wpAny_bind (wpAny_mono h₂ (fun ok s₃ h₃=>?_) fun _ _ h'=>h'.elim)) fun _ _ h'=>h'.elim)
  cases ok with
  | false=>exact wpAny_pure ⟨rfl,h₃⟩
  | true =>
   exact wpAny_bind (wpAny_bind (wpAny_mono h₃ (fun x s₄ h₄=>wpAny_bind (wpAny_mono h₄ (fun _ s₅ h₅=>wpAny_pure (wpAny_pure ⟨rfl,h₅⟩)) fun _ _ h'=>h'.elim)) fun _ _ h'=>h'.elim))
end
theorem fO {env:Env}:∀(names:List (Str×NameKind)) (cs0:List (Str×Addr)),(∀y∈names,y.2=.free->∃c,env.cells.lookup y.1=some c)->(∀x c,cs0.lookup x=some c->env.cells.lookup x=some c) ->
  ∃cs:List (Str×Addr),(forIn names cs0 fun (x:Str×NameKind) (r:List (Str×Addr))=>if (x.2 == NameKind.free)=true then (cellOf env x.1 >>= fun c=>(pure (ForInStep.yield ((x.1,c)::r)):Sem (ForInStep (List (Str×Addr))))) else pure (ForInStep.yield r))=pure cs /\
   (∀x c,cs.lookup x=some c->env.cells.lookup x=some c)/\(∀x,(cs0.lookup x).isSome=true->(cs.lookup x).isSome=true)/\∀y∈names,y.2=.free->(cs.lookup y.1).isSome=true
 | [],cs0,_,h0=>⟨cs0,rfl,h0,fun _ h=>h,fun _ h=>nomatch h⟩
 | (n,k)::r,cs0,has,h0=>by
  have hr:∀y∈r,y.2=.free->∃c,env.cells.lookup y.1=some c:=fun y hy=>has y (List.mem_cons_of_mem _ hy)
  by_cases hk:k=.free
  ·subst hk
   obtain ⟨c,hc⟩:=has (n,.free) List.mem_cons_self rfl
   obtain ⟨cs,e,p1,p2,p3⟩:=fO r ((n,c)::cs0) hr (fun x d hd=>by
    rw [List.lookup_cons] at hd
    cases hx:x == n with
    | true =>
     rw [hx] at hd
     have:x=n:=by simpa using hx
     subst this
     cases hd
     exact hc
    | false=>rw [hx] at hd; exact h0 x d hd)
   have hself:(((n,c)::cs0).lookup n).isSome=true:=by rw [List.lookup_cons,beq_self_eq_true]; rfl
   have hmono:∀x,(cs0.lookup x).isSome=true->(((n,c)::cs0).lookup x).isSome=true:=fun x hx=>by
    rw [List.lookup_cons]
    cases x == n with
    | true=>rfl
    | false=>exact hx
   refine ⟨cs,?_,p1,fun x hx=>p2 x (hmono x hx),fun y hy hf=>?_⟩
   ·rw [List.forIn_cons]
    have hcell:cellOf env n=pure c:=by unfold cellOf; rw [hc]
    simp only [beq_self_eq_true,if_true,hcell]
    exact e
   ·rcases List.mem_cons.mp hy with rfl | hy
    ·exact p2 _ hself
    ·exact p3 y hy hf
  ·obtain ⟨cs,e,p1,p2,p3⟩:=fO r cs0 hr h0
   refine ⟨cs,?_,p1,p2,fun y hy hf=>?_⟩
   ·rw [List.forIn_cons]
    have hb:(k == NameKind.free)=false:=by simpa using hk
    simp only [hb,Bool.false_eq_true,if_false]
    exact e
   ·rcases List.mem_cons.mp hy with rfl | hy
    ·exact absurd hf hk
    ·exact p3 y hy hf
theorem nO {env:Env}{scope:Scope}(has:∀y∈scope.names,y.2=.free->∃c,env.cells.lookup y.1=some c) :
  ∃cs:List (Str×Addr),closureFor scope env=pure cs/\(∀x c,cs.lookup x=some c->env.cells.lookup x=some c)/\∀y∈scope.names,y.2=.free->(cs.lookup y.1).isSome=true:=by
 obtain ⟨cs,e,p1,_,p3⟩:=fO (env:=env) scope.names [] has (fun _ _ h=>nomatch h)
 refine ⟨cs,?_,p1,p3⟩
 unfold closureFor
 first
  | exact e
  | (simp only [bind_pure]; exact e)
  | (rw [show (forIn scope.names [] _:Sem (List (Str×Addr)))=pure cs from e]; rfl)
end L2
end

section
set_option Elab.async false
set_option linter.all false
set_option maxRecDepth 100000
namespace L2
open PySem PySem.Spec PyProof.Rows
def cN (X:Cx) (N:List Str) (scope:Scope) (C:Addr) (cl:List (Str×Addr)) (s₀:Shared) (H₀:Hp) (ex:List Addr) (pn:List (Addr×Obj)):Cx where
 prog:=X.prog
 w:=X.w
 K:=X.K
 mg:=X.mg
 base:=X.base
 A:=X.A
 N:=N
 s₀:=s₀
 H₀:=H₀
 env:=compEnvC scope cl C X.env
 outer:=X.stack
 stack:=X.stack
 ex:=ex
 fn:=fun _=>false
 calm:=X.calm
 pn:=pn
 xe:=XF
def jP (sc scope:Scope) (k:Nat) (N XN:List Str) (fi:List Nat):Bool :=
 decide (scope.kind=.function) &&
 (scope.names.all fun y=>decide (y.2≠.cell) && (decide (y.2≠.local) || decide (scope.names.lookup y.1=some .local)) && (decide (y.2≠.free) || decide (sc.names.lookup y.1=some .cell) || decide (sc.names.lookup y.1=some .free))) &&
 decide (N.length=k+fi.length) &&
 ((List.range fi.length).all fun j=>match fi[j]? with
  | some i=>match N[k+j]?,XN[i]? with
   | some x,some y=>decide (x=y) && decide (scope.names.lookup x=some .free)
   | _,_=>false
  | none=>false)
structure CompSc (sc scope:Scope) (k:Nat) (N XN:List Str) (fi:List Nat):Prop where
 kind:scope.kind=.function
 cell:∀y∈scope.names,y.2≠.cell
 nm:∀y∈scope.names,y.2=.local->scope.names.lookup y.1=some .local
 fr:∀y∈scope.names,y.2=.free->sc.names.lookup y.1=some .cell∨sc.names.lookup y.1=some .free
 len:N.length=k+fi.length
 sl:∀j i,fi[j]?=some i->∃x,N[k+j]?=some x/\XN[i]?=some x/\scope.names.lookup x=some .free
theorem CompSc.of {sc scope:Scope}{k:Nat}{N XN:List Str}{fi:List Nat}(h:jP sc scope k N XN fi=true):CompSc sc scope k N XN fi:=by
 unfold jP at h
 simp only [Bool.and_eq_true,List.all_eq_true,Bool.or_eq_true,decide_eq_true_eq] at h
 obtain ⟨⟨⟨h1,h2⟩,h3⟩,h4⟩:=h
 refine ⟨h1,fun y hy=>(h2 y hy).1.1,fun y hy e=>((h2 y hy).1.2).resolve_left fun z=>z e,fun y hy e=>?_,h3,fun j i e=>?_⟩
 ·rcases (h2 y hy).2 with (z | z) | z
  ·exact absurd e z
  ·exact .inl z
  ·exact .inr z
 ·have hj:j<fi.length:=(List.getElem?_eq_some_iff.mp e).1
  have q:=h4 j (List.mem_range.mpr hj)
  rw [e] at q
  dsimp only at q
  cases a:N[k+j]? with
  | none=>rw [a] at q; cases q
  | some x =>
   cases b:XN[i]? with
   | none=>rw [a,b] at q; cases q
   | some y =>
    rw [a,b] at q
    simp only [Bool.and_eq_true,decide_eq_true_eq] at q
    exact ⟨x,rfl,by rw [q.1],q.2⟩
theorem ca {env:Env}:∀{names:List (Str×NameKind)}{x:Str},names.lookup x=some .free ->
  (names.map fun (n,k)=>if (k == NameKind.free && env.scope.kind == .function && env.kindOf n == some .cell) then (n,NameKind.cell) else (n,k)).lookup x=some .cell ∨
  (names.map fun (n,k)=>if (k == NameKind.free && env.scope.kind == .function && env.kindOf n == some .cell) then (n,NameKind.cell) else (n,k)).lookup x=some .free
 | [],_,h=>by simp at h
 | (n,k)::r,x,h=>by
  have ih:=@ca env r x
  simp only [List.map_cons]
  cases hx:x == n with
  | true =>
   simp only [List.lookup_cons,hx] at h
   cases h
   by_cases hc:(NameKind.free == NameKind.free && env.scope.kind == .function && env.kindOf n == some .cell)=true
   ·left; rw [if_pos hc]; simp [List.lookup_cons,hx]
   ·right; rw [if_neg hc]; simp [List.lookup_cons,hx]
  | false =>
   simp only [List.lookup_cons,hx] at h
   by_cases hc:(k == NameKind.free && env.scope.kind == .function && env.kindOf n == some .cell)=true
   ·rw [if_pos hc]; simp only [List.lookup_cons,hx]; exact ih h
   ·rw [if_neg hc]; simp only [List.lookup_cons,hx]; exact ih h
def bG (k:Nat) (fi:List Nat) (σ:St):St:=List.replicate k none++fi.map fun i=>(σ[i]?).join
theorem nN (k:Nat) (fi:List Nat) (σ:St):(bG k fi σ).length=k+fi.length:=by simp [bG]
theorem i8 {k:Nat}{fi:List Nat}{σ:St}{i:Nat}{v:V}(h:(bG k fi σ)[i]?=some (some v)):∃j t,i=k+j/\fi[j]?=some t/\σ[t]?=some (some v):=by
 unfold bG at h
 by_cases hi:i<k
 ·rw [List.getElem?_append_left (by simpa using hi),List.getElem?_replicate_of_lt hi] at h
  cases h
 ·rw [List.getElem?_append_right (by simp; omega),List.length_replicate,List.getElem?_map] at h
  refine ⟨i-k,?_⟩
  cases e:fi[i-k]? with
  | none=>rw [e] at h; cases h
  | some t =>
   rw [e] at h
   simp only [Option.map_some] at h
   refine ⟨t,by omega,rfl,?_⟩
   have h':=Option.some.inj h
   cases e2:σ[t]? with
   | none=>rw [e2] at h'; cases h'
   | some o=>rw [e2] at h'; simp only [Option.join] at h'; first | (rw [h']) | (subst h'; rfl) | (simpa using h')
def vv (k:Nat) (g:TG):Prop:=∀x σ H Q,g x σ H Q->g x σ H fun σ2 H2=>Q σ2 H2/\σ2.length=σ.length/\∀i,k<=i->σ2[i]?=σ[i]?
theorem bC {k i:Nat}(h:i<k):vv k (am i):=fun x σ H Q q=>⟨q,by simp,fun j hj=>by rw [List.getElem?_set_ne (by omega)]⟩
def PIf (X:Cx) (ifs:List Expr) (t:TT):Prop :=
 ∀(pins:List (Addr×Obj)) (s:Shared) (σ:St) (H:Hp) (Q:Bool->Hp->Prop),Inv X pins σ H s->t σ H Q->wpAny (model X.prog X.w) X.A (pN ifs X.env) (TP X pins σ Q) X.xe s
def qA:TT:=fun _ H Q=>Q true H
theorem cT {X:Cx}:PIf X [] qA:=fun pins s σ H Q I h=>wpAny_pure ⟨H,I,h⟩
theorem lu {X:Cx}{c:Expr}{t:TT}(h:PT X c t):PIf X [c] t:=by
 intro pins s σ H Q I hw
 unfold pN
 rw [List.forIn_cons]
 simp only [if_true]
 refine wpAny_bind (wpAny_bind (thn (h pins s σ H Q I hw) fun b s1 q=>wpAny_pure ?_))
 exact wpAny_pure q
def gm (k:Nat) (fi:List Nat) (wi:TI) (g:TG) (tc:TT) (te:TE):TE:=fun σ H Q=>wi σ H fun J H1=>∀l,H1 l=none->∃W:Nat->Nat->List V->Hp->Prop,(∃m,W 0 m [] (upd H1 l (.lst [])))/\∀i m vs H2,W i m vs H2->H2 l=some (.lst vs) /\
 ((J.stop i H2/\Q (.ref l) H2)∨(J.go i H2/\∀x H3,J.yld i H2 x H3->g x (bG k fi σ) H3 fun σ2 H4=>tc σ2 H4 fun b H5 =>
  if b=true then te σ2 H5 fun v H6=>H6 l=some (.lst vs)/\vs.length<sizeLine/\∃m',m'<m/\W (i+1) m' (vs++[v]) (upd H6 l (.lst (vs++[v]))) else ∃m',m'<m/\W (i+1) m' vs H5))
end L2
end

section
set_option Elab.async false
set_option linter.all false
set_option maxRecDepth 100000
namespace L2
open PySem PySem.Spec PyProof.Rows
section
variable {X:Cx}{pins:List (Addr×Obj)}{σ:St}
theorem ui {k:Nat}{N:List Str}{scope:Scope}{fi:List Nat}{H:Hp}{s:Shared}{cl:List (Str×Addr)}{fp:List Addr}(S:CompSc X.env.scope scope k N X.N fi) (I:Inv X pins σ H s)
  (hcl:∀x c,cl.lookup x=some c->X.env.cells.lookup x=some c) (hcf:∀y∈scope.names,y.2=.free->(cl.lookup y.1).isSome=true) (hf:∀b∈fp,kU X pins H b) (hlt:∀b∈fp,b<s.heap.objs.size) :
  (cN X N scope s.heap.objs.size cl s H fp (X.pn++pins)).Ok where
 mod:=I.ok.mod
 kind:=S.kind
 glob:=I.ok.glob
 blt:=I.ok.blt
 above:=Nat.le_refl _
 inj:=fun x y c e1 e2=>I.ok.inj x y c (hcl x c e1) (hcl y c e2)
 has:=fun x h=>by
  have key:∃y∈scope.names,y.1=x/\y.2=.free:=by
   have h':(relabel scope X.env).names.lookup x=some .cell∨(relabel scope X.env).names.lookup x=some .free:=h
   have mem:∀(l:List (Str×NameKind)) (kd:NameKind),l.lookup x=some kd->(x,kd)∈l:=by
    intro l
    induction l with
    | nil=>intro kd e; cases e
    | cons a r ih =>
     intro kd e
     obtain ⟨n,k'⟩:=a
     rw [List.lookup_cons] at e
     cases hx:x == n with
     | true =>
      rw [hx] at e
      have:x=n:=by simpa using hx
      subst this
      cases e
      exact List.mem_cons_self
     | false=>rw [hx] at e; exact List.mem_cons_of_mem _ (ih kd e)
   have back:∀kd,(x,kd)∈(relabel scope X.env).names->kd=.cell∨kd=.free->∃y∈scope.names,y.1=x/\y.2=.free:=by
    intro kd hm hk
    obtain ⟨⟨n,k'⟩,hy,e⟩:=List.mem_map.mp hm
    dsimp only at e
    by_cases hc:(k' == NameKind.free && X.env.scope.kind == .function && X.env.kindOf n == some .cell)=true
    ·have hk':k'=.free:=by
      simp only [Bool.and_eq_true] at hc
      simpa using hc.1.1
     rw [if_pos hc] at e
     cases e
     exact ⟨_,hy,rfl,hk'⟩
    ·rw [if_neg hc] at e
     cases e
     rcases hk with rfl | rfl
     ·exact absurd rfl (S.cell _ hy)
     ·exact ⟨_,hy,rfl,rfl⟩
   rcases h' with h' | h'
   ·exact back _ (mem _ _ h') (.inl rfl)
   ·exact back _ (mem _ _ h') (.inr rfl)
  obtain ⟨y,hy,rfl,hk⟩:=key
  exact Option.isSome_iff_exists.mp (hcf y hy hk)
 cab:=fun x c h=>by cases h
 hd:=I.ok.hd
 frames:=I.ok.frames
 stk:=.inl rfl
 exf:=fun b hb=>⟨Nat.ne_of_lt (hlt b hb),fun x c e=>(hf b hb).2.2.2.2.1 x c (hcl x c e)⟩
 bs:=I.bs
 bsz:=Nat.le_trans I.ok.bsz I.sz
 noex:=fun b o e hb=>by
  rcases (hf b hb).2.2.2.1 with z | z
  ·exact I.ok.noex b o e z
  ·exact absurd (Nat.lt_of_lt_of_le (Heap.lt_size (I.ok.bs b o e).1) z) (Nat.lt_irrefl _)
 exfs:=fun b hb z=>by
  obtain ⟨_,f1,f2,_⟩:=hf b hb
  rcases List.mem_cons.mp (I.stkSub b z) with q | q
  ·exact f1 q
  ·exact f2 q
 funs:=I.stack
 frf:=I.stkFree
theorem r9 {k:Nat}{N:List Str}{scope:Scope}{fi:List Nat}{H:Hp}{s:Shared}{cl:List (Str×Addr)}{fp:List Addr}{h₁:Heap}{t':Nat}{m:Str->Option Value}(S:CompSc X.env.scope scope k N X.N fi) (I:Inv X pins σ H s)
  (hcl:∀x c,cl.lookup x=some c->X.env.cells.lookup x=some c) (hcf:∀y∈scope.names,y.2=.free->(cl.lookup y.1).isSome=true) (hf:∀b∈fp,kU X pins H b) (hlt:∀b∈fp,b<s.heap.objs.size)
  (hn:h₁.Ns s.heap.objs.size m) (old:∀b o,s.heap.get? b=some o->h₁.get? b=some o) :
  Inv (cN X N scope s.heap.objs.size cl s H fp (X.pn++pins)) [] (bG k fi σ) H { s with heap:=h₁,toks:=t' }:=by
 have memOf:∀(l:List (Str×NameKind)) (x:Str) (kd:NameKind),l.lookup x=some kd->(x,kd)∈l:=by
  intro l
  induction l with
  | nil=>intro x kd e; cases e
  | cons a r ih =>
   intro x kd e
   obtain ⟨n,k'⟩:=a
   rw [List.lookup_cons] at e
   cases hx:x == n with
   | true =>
    rw [hx] at e
    have:x=n:=by simpa using hx
    subst this
    cases e
    exact List.mem_cons_self
   | false=>rw [hx] at e; exact List.mem_cons_of_mem _ (ih x kd e)
 refine ⟨ui S I hcl hcf hf hlt,rfl,I.bare,Un.kept old,⟨m,hn,fun i x v e1 e2 e3=>?_⟩,fun x c e=>?_,I.hok.fresh (Nat.le_refl _),fun x c e=>I.freeC x c (hcl x c e),fun p hp=>?_,I.hok.kept old,?_⟩
 ·obtain ⟨j,t,rfl,ht,hv⟩:=i8 e2
  obtain ⟨y,hy,hXN,hfr⟩:=S.sl j t ht
  have e1':N[k+j]?=some x:=e1
  rw [hy] at e1'
  cases e1'
  have hmem:=memOf _ _ _ hfr
  obtain ⟨c,hc⟩:=Option.isSome_iff_exists.mp (hcf _ hmem rfl)
  have hX:=hcl _ _ hc
  obtain ⟨mX,hnX,hlX⟩:=I.loc
  have kX:=S.fr _ hmem rfl
  obtain ⟨u,ru,lk⟩:=hlX t x v hXN hv (by rcases kX with z | z; exact .inr (.inl z); exact .inr (.inr z))
  refine ⟨u,ru,.inr ⟨?_,c,hc,?_⟩⟩
  ·exact ca hfr
  ·rcases lk with ⟨z,_⟩ | ⟨_,c',e',q⟩
   ·have z':X.env.scope.names.lookup x=some .local:=z
    rcases kX with kX | kX <;> rw [z'] at kX <;> cases kX
   ·rw [hX] at e'
    cases e'
    obtain ⟨o,ho,hd⟩:=q
    exact ⟨o,old _ o ho,hd⟩
 ·obtain ⟨v,o,ho,hd⟩:=I.cell x c (hcl x c e)
  exact ⟨v,o,old _ o ho,hd⟩
 ·rw [List.append_nil] at hp
  obtain ⟨e,n,ne,nf,d⟩:=I.pin p hp
  refine ⟨old _ _ e,n,Nat.ne_of_lt (Heap.lt_size e),fun z=>?_,d⟩
  rcases List.mem_cons.mp (I.stkSub _ z) with q | q
  ·exact ne q
  ·exact nf q
 ·rw [nN]
  exact S.len.symm
structure CompEnd (X:Cx) (pins:List (Addr×Obj)) (H:Hp) (C:Addr):Prop where
 free:H C=none
 loc:C≠X.env.locals
 young:X.s₀.heap.objs.size<=C
 cells:∀x c,X.env.cells.lookup x=some c->c≠C
 pin:∀p∈X.pn++pins,p.1≠C
theorem nM {elt iter tg:Expr}{ifs:List Expr}{scope:Scope}{pos:Pos}{k:Nat}{N:List Str}{fi:List Nat}{cl:List (Str×Addr)}{g:TG}{tc:TT}{te:TE}{it:Addr}{fp:List Addr}{tn:Nat->Heap->Prop}{J:It}{H2:Hp}{s2:Shared}{Q:VK}
  {E:Value->Shared->Prop}{RR:Value->Addr->Result->Shared->Prop}
  (S:CompSc X.env.scope scope k N X.N fi) (hc:X.calm=true) (hcl:∀x c,cl.lookup x=some c->X.env.cells.lookup x=some c) (hcf:∀y∈scope.names,y.2=.free->(cl.lookup y.1).isSome=true)
  (hg:∀C cl s₀ H₀ ex pn,PG (cN X N scope C cl s₀ H₀ ex pn) tg g) (ho:vv k g) (ht:∀C cl s₀ H₀ ex pn,PIf (cN X N scope C cl s₀ H₀ ex pn) ifs tc) (he:∀C cl s₀ H₀ ex pn,PE (cN X N scope C cl s₀ H₀ ex pn) elt te)
  (I2:Inv X pins σ H2 s2) (T:qD X.prog X.w X.K tg J fp it tn) (st2:tn 0 s2.heap) (f2:∀b∈fp,kU X pins H2 b)
  (hw:∀l,H2 l=none->∃W:Nat->Nat->List V->Hp->Prop,(∃m,W 0 m [] (upd H2 l (.lst [])))/\∀i m vs H2,W i m vs H2->H2 l=some (.lst vs) /\
   ((J.stop i H2/\Q (.ref l) H2)∨(J.go i H2/\∀x H3,J.yld i H2 x H3->g x (bG k fi σ) H3 fun σ2 H4=>tc σ2 H4 fun b H5 =>
    if b=true then te σ2 H5 fun v H6=>H6 l=some (.lst vs)/\vs.length<sizeLine/\∃m',m'<m/\W (i+1) m' (vs++[v]) (upd H6 l (.lst (vs++[v]))) else ∃m',m'<m/\W (i+1) m' vs H5)))
  (hR:∀D C H' s' m',Inv X pins σ H' s'->s'.heap.Ns C m'->CompEnd X pins H' C->Q (.ref D) H'->RR (.ref D) C (.ok .next) s') :
  wpAny (model X.prog X.w) X.A (newList []) (fun acc s₃=>wpAny (model X.prog X.w) X.A (newFunctionEnv scope X.env.globals cl [] X.env.qual none .none (some X.env)) (fun cenv s₄ =>
   codeAny (model X.prog X.w) X.A (.compStart (.ListComp elt [⟨tg,iter,ifs,0⟩] scope pos) 0 (.ref it) acc { cenv with scope:=relabel scope X.env }) (RR acc cenv.locals) s₄) E s₃) E s2:=by
 have hfresh:H2 s2.heap.objs.size=none:=I2.fresh
 obtain ⟨W,⟨m0,w0⟩,turn⟩:=hw _ hfresh
 refine wpAny_newObj_type (wpAny_newFunctionEnv S.cell (by intro y hy; simp at hy) (fun h₁ hns₁ hsb₁=>?_) S.kind)
 dsimp only at hns₁ hsb₁ ⊢
 have I3:Inv X pins σ (upd H2 s2.heap.objs.size (.lst [])) { s2 with heap:=s2.heap.push { cls:=.type "list",data:=.seq ([]:List Value).toArray },toks:=s2.toks }:=I2.lnew (ys:=[]) .nil (Nat.zero_le _)
 generalize hs3:({ s2 with heap:=s2.heap.push { cls:=.type "list",data:=.seq ([]:List Value).toArray },toks:=s2.toks }:Shared)=s3 at I3
 have hh3:s3.heap=s2.heap.push { cls:=.type "list",data:=.seq ([]:List Value).toArray }:=by rw [<-hs3]
 have hsz:s3.heap.objs.size=s2.heap.objs.size+1:=by rw [hh3,Heap.size_push]
 have hlt:∀b∈fp,b<s2.heap.objs.size:=fun b hb=>by
  obtain ⟨o,e,_⟩:=T.obj 0 _ st2 b hb
  exact Heap.lt_size e
 have f3:∀b∈fp,kU X pins (upd H2 s2.heap.objs.size (.lst [])) b:=fun b hb=>⟨by rw [aj (Nat.ne_of_lt (hlt b hb))]; exact (f2 b hb).1,(f2 b hb).2⟩
 have hlt3:∀b∈fp,b<s3.heap.objs.size:=fun b hb=>by rw [hsz]; exact Nat.lt_succ_of_lt (hlt b hb)
 have old:∀b o,s3.heap.get? b=some o->h₁.get? b=some o:=fun b o e=>by
  have hb:b≠s3.heap.objs.size:=Nat.ne_of_lt (Heap.lt_size e)
  rw [hh3] at e hb
  exact hsb₁.extBut b o hb (Heap.get?_push_of_some _ e)
 have hns:h₁.Ns s3.heap.objs.size (fun x=>([]:List (Str×Value)).reverse.lookup x):=by rw [hh3]; exact hns₁
 have I4:Inv (cN X N scope s3.heap.objs.size cl s3 (upd H2 s2.heap.objs.size (.lst [])) fp (X.pn++pins)) [] (bG k fi σ) (upd H2 s2.heap.objs.size (.lst [])) { s3 with heap:=h₁,toks:=s2.toks+([]:List (Str×Value)).length } :=
  r9 S I3 hcl hcf f3 hlt3 hns old
 have st4:tn 0 h₁:=T.keep _ _ _ st2 fun b hb o e=>old b o (by rw [hh3]; exact Heap.get?_push_of_some _ e)
 generalize hY:cN X N scope s3.heap.objs.size cl s3 (upd H2 s2.heap.objs.size (.lst [])) fp (X.pn++pins)=Y at I4
 have yp:Y.prog=X.prog:=by rw [<-hY]; rfl
 have yw:Y.w=X.w:=by rw [<-hY]; rfl
 have yK:Y.K=X.K:=by rw [<-hY]; rfl
 have yA:Y.A=X.A:=by rw [<-hY]; rfl
 have yx:Y.xe=XF:=by rw [<-hY]; rfl
 have yc:Y.calm=true:=by rw [<-hY]; exact hc
 have gY:PG Y tg g:=by rw [<-hY]; exact hg _ _ _ _ _ _
 have tY:PIf Y ifs tc:=by rw [<-hY]; exact ht _ _ _ _ _ _
 have eY:PE Y elt te:=by rw [<-hY]; exact he _ _ _ _ _ _
 have yenv:Y.env=compEnvC scope cl s3.heap.objs.size X.env:=by rw [<-hY]; rfl
 have fY:∀{H':Hp},(∀b∈fp,H' b=none)->∀b∈fp,kU Y [] H' b:=fun hn b hb=>by
  obtain ⟨f0,f1,f2',f3',f4,f5⟩:=f3 b hb
  rw [<-hY]
  refine ⟨hn b hb,Nat.ne_of_lt (hlt3 b hb),fun z=>?_,.inl hb,fun x c e=>f4 x c (hcl x c e),fun p hp=>?_⟩
  ·rcases List.mem_cons.mp (I3.stkSub _ z) with q | q
   ·exact f1 q
   ·exact f2' q
  ·rw [List.append_nil] at hp
   exact f5 p hp
 have loop:∀s4:Shared,s4={ s3 with heap:=h₁,toks:=s2.toks+([]:List (Str×Value)).length } ->
   codeAny (model X.prog X.w) X.A (.compLoop (.ListComp elt [⟨tg,iter,ifs,0⟩] scope pos) 0 (.ref it) (.ref s2.heap.objs.size) Y.env) (RR (.ref s2.heap.objs.size) s3.heap.objs.size) s4:=by
  rintro s4 rfl
  refine kG (fun n s'=>∃i vs H',Inv Y [] (bG k fi σ) H' s'/\tn i s'.heap/\(∀b∈fp,H' b=none)/\W i n vs H') ?_ m0 ⟨0,[],_,I4,st4,fun b hb=>(f3 b hb).1,w0⟩
  rintro n s5 ⟨i,vs,H5,I5,st5,fr5,w5⟩
  obtain ⟨hl5,hcase⟩:=turn i n vs H5 w5
  rcases hcase with ⟨stop,q⟩ | ⟨go,step⟩
  ·have d:=T.done Y yp yw yK yc i [] s5 _ H5 XF I5 (fY fr5) st5 stop
   rw [yA] at d
   refine thn d fun r s6 ⟨hr,I6⟩=>?_
   subst hr
   have hu:Un (frs X.stack) fp (upd H2 s2.heap.objs.size (.lst [])) H5 s3.heap s6.heap:=by have:=I6.base; rw [<-hY] at this; exact this
   have ho6:s6.os=s3.os:=by have:=I6.os; rw [<-hY] at this; exact this
   have hok6:HOk X.prog X.w X.K H5 s6.heap:=by have:=I6.hok; rw [<-hY] at this; exact this
   have hC6:H5 s3.heap.objs.size=none:=by have:=I6.free; rw [<-hY] at this; exact this
   obtain ⟨m6,hn6,_⟩:=I6.loc
   have hn6':s6.heap.Ns s3.heap.objs.size m6:=by rw [<-hY] at hn6; exact hn6
   have IX:Inv X pins σ H5 s6:=I3.call' ho6 hu hok6 I6.bare fun b hb=>by
    obtain ⟨f0,f1,f2',f3',f4,f5⟩:=f3 b hb
    exact ⟨f3',f1,f4,f5⟩
   refine hR _ _ H5 s6 m6 IX hn6' ⟨hC6,Nat.ne_of_gt I3.lt,I3.sz,fun x c e z=>?_,fun p hp z=>?_⟩ q
   ·obtain ⟨v,o,ho,_⟩:=I3.cell x c e
    exact absurd (Heap.lt_size ho) (by rw [z]; exact Nat.lt_irrefl _)
   ·exact absurd (Heap.lt_size (I3.pin p hp).1) (by rw [z]; exact Nat.lt_irrefl _)
  ·have d:=T.item Y yp yw yK yc i [] s5 _ H5 XF I5 (fY fr5) st5 go
   rw [yA] at d
   refine thn d fun r s6 ⟨u,hr,h6⟩=>?_
   subst hr
   refine thn h6 fun _ s7 ⟨x,H7,I7,r7,y7,st7,fr7⟩=>?_
   have I7':=I7.pinned (fY fr7) (T.obj _ _ st7)
   have a7:=gY _ s7 _ H7 x u _ I7' r7 (ho _ _ _ _ (step x H7 y7))
   rw [yp,yw,yA,yx] at a7
   refine thn a7 fun _ s8 ⟨σ8,H8,I8,q8,l8,k8⟩=>?_
   have a8:=tY _ s8 σ8 H8 _ I8 q8
   rw [yp,yw,yA,yx] at a8
   have again:∀{H9:Hp}{s9:Shared}{vs':List V}{m':Nat},Inv Y ([]++iV fp s7.heap) σ8 H9 s9->m'<n->W (i+1) m' vs' H9->∃m,m<n/\∃i vs H',Inv Y [] (bG k fi σ) H' s9/\tn i s9.heap/\(∀b∈fp,H' b=none)/\W i m vs H':=fun {H9 s9 vs' m'} I9 hm w9=>by
    refine ⟨m',hm,i+1,vs',H9,(I9.unpinned).weak l8.symm (fun j v e=>?_),T.keep _ _ _ st7 fun b hb o e=>(I9.pin (b,o) (List.mem_append_right _ (List.mem_append_right _ (bV hb e)))).1,fun b hb=>?_,w9⟩
    ·obtain ⟨j',t,rfl,_,_⟩:=i8 e
     rw [k8 _ (Nat.le_add_right _ _)]
     exact e
    ·obtain ⟨o,e,_⟩:=T.obj _ _ st7 b hb
     exact (I9.pin (b,o) (List.mem_append_right _ (List.mem_append_right _ (bV hb e)))).2.1
   refine thn a8 fun b s9 ⟨H9,I9,q9⟩=>?_
   cases b with
   | false =>
    rw [if_neg Bool.false_ne_true] at q9 ⊢
    obtain ⟨m',hm,w9⟩:=q9
    exact again I9 hm w9
   | true =>
    rw [if_pos rfl] at q9 ⊢
    have a9:=eY _ s9 σ8 H9 _ I9 q9
    rw [yp,yw,yA,yx] at a9
    refine thn a9 fun y s10 ⟨v,H10,I10,r10,hl10,hsz10,m',hm,w10⟩=>?_
    have a10:=b9 (X:=Y) _ s10 σ8 H10 (.ref s2.heap.objs.size) [v] (.ref s2.heap.objs.size) [y] (fun z H'=>z=.non/\H'=upd H10 s2.heap.objs.size (.lst (vs++[v]))) I10 rfl (.cons r10 .nil) ⟨_,vs,v,rfl,rfl,hl10,hsz10,rfl,rfl⟩
    rw [yp,yw,yA,yx] at a10
    refine thn a10 fun _ s11 ⟨_,H11,I11,_,_,e11⟩=>?_
    subst e11
    exact again I11 hm w10
 have hstart:=codeAny_compStart_list (prog:=X.prog) (w:=X.w) (A:=X.A) (elt:=elt) (target:=tg) (iter:=iter) (ifs:=ifs) (rest:=[]) (scope:=scope) (pos:=pos) (it:=.ref it) (acc:=.ref s2.heap.objs.size) (env:=Y.env) (loop _ rfl) (T.self _ 0 _ _ _ st4 (loop _ rfl))
 rw [yenv] at hstart
 rw [<-hs3] at hstart
 exact hstart
end
end L2
end

section
set_option Elab.async false
set_option linter.all false
set_option maxRecDepth 100000
namespace L2
open PySem PySem.Spec PyProof.Rows
section
variable {X:Cx}
theorem CompEnd.turned {pins:List (Addr×Obj)}{σ:St}{H:Hp}{s:Shared}{C:Addr}{h':Heap}(c:CompEnd X pins H C) (I:Inv X pins σ H s) (hs:Heap.SameBut C s.heap h'):Inv X pins σ H { s with heap:=h' } :=
 I.turned (t':=s.toks) (fun b o hb e=>hs.extBut b o hb e) c.free c.loc (.inr c.young) c.cells c.pin
theorem tW {elt iter tg:Expr}{ifs:List Expr}{scope:Scope}{pos:Pos}{k:Nat}{N:List Str}{fi:List Nat}{wi:TI}{g:TG}{tc:TT}{te:TE}(hS:jP X.env.scope scope k N X.N fi=true) (hc:X.calm=true) (hi:PI X tg iter wi)
  (hg:∀C cl s₀ H₀ ex pn,PG (cN X N scope C cl s₀ H₀ ex pn) tg g) (ho:vv k g) (ht:∀C cl s₀ H₀ ex pn,PIf (cN X N scope C cl s₀ H₀ ex pn) ifs tc) (he:∀C cl s₀ H₀ ex pn,PE (cN X N scope C cl s₀ H₀ ex pn) elt te)
  (hs:∀x,foldedSetIterable iter X.env x=pure x:=by intro _; rfl):PE X (.ListComp elt [⟨tg,iter,ifs,0⟩] scope pos) (gm k fi wi g tc te):=by
 intro pins s σ H Q I h
 have S:=CompSc.of hS
 obtain ⟨cl,hclos,hcl,hcf⟩:=nO (env:=X.env) (scope:=scope) fun y hy e=>I.ok.has y.1 (S.fr y hy e)
 rw [eval_ListComp]
 refine wpAny_comprehension_free (use:=none) rfl hs hclos S.kind S.nm (thn (hi pins s σ H _ I h) fun v s1 h1=>thn h1 fun itv s2 h2=>?_)
 obtain ⟨it,fp,tn,J,H2,e,I2,T,st2,f2,hw⟩:=h2
 subst e
 refine nM (RR:=fun acc C=>compPost (model X.prog X.w) X.A X.xe none (EP X pins σ Q) acc C) S hc hcl hcf hg ho ht he I2 T st2 f2 hw ?_
 intro D C H' s' m' I' hn ce q
 exact ⟨m',hn,fun h' hs'=>⟨.ref D,H',ce.turned I' hs',rfl,q⟩⟩
end
end L2
end

section
set_option Elab.async false
set_option linter.all false
set_option maxRecDepth 100000
namespace L2
open PySem PySem.Spec PyProof.Rows
theorem Inv.turnedNew {X:Cx}{pins:List (Addr×Obj)}{σ:St}{H:Hp}{s:Shared}{h2:Heap}{t':Nat}{ch:List Addr}{o:HO}(I:Inv X pins σ H s) (hf:∀b∈ch,kU X pins H b)
  (k:∀b q,b∉ch->s.heap.get? b=some q->h2.get? b=some q) (hq:∃q,h2.get? s.heap.objs.size=some q) (hno:∀y,o≠.own y) (new:ObjOk X.prog X.w X.K (upd H s.heap.objs.size o) h2 s.heap.objs.size o) :
  Inv X pins σ (upd H s.heap.objs.size o) { s with heap:=h2,toks:=t' }:=by
 have hn0:H s.heap.objs.size=none:=I.fresh
 have nsz:∀b q,s.heap.get? b=some q->b≠s.heap.objs.size:=fun b q e=>Nat.ne_of_lt (Heap.lt_size e)
 have tr:∀b u,H b=some u->b∉ch:=fun b u e z=>by rw [(hf b z).1] at e; cases e
 refine I.step (g':=s.gens) (d':=s.drawn) (ch:=ch) (fun b hb=>?_) (fun b q _ _ hc e _=>k b q hc e) (fun b q _ _ hc e _=>⟨q.slots,k b q hc e⟩) (fun b q _ e n=>by rw [aj (nsz b q e)]; exact n) (fun b q hc e=>⟨q,k b q hc e⟩)
  (fun b xs e=>by rw [aj (ah e hn0)]; exact e) (fun b q u e=>by rw [aj (ah e hn0)]; exact e) (fun b ps e=>⟨#[],by rw [aj (ah e hn0),e]; simp⟩) (fun m hm=>?_) (fun b u e=>?_) I.bare
 ·obtain ⟨f0,f1,f2,f3,f4,f5⟩:=hf b hb
  exact ⟨f3,f1,f4,f5⟩
 ·obtain ⟨q,es,ep,ho,r⟩:=hm
  exact ⟨q,es,ep,k _ q (fun z=>(hf _ z).2.1 rfl) ho,r⟩
 ·by_cases hb:b=s.heap.objs.size
  ·subst hb; rw [aa] at e; cases e; exact new
  ·rw [aj hb] at e
   refine (I.hok b u e).stay (fun c v hc q=>k c v ?_ q) (fun c q=>by rw [aj (ah q hn0)]; exact q) fun c xs q=>by rw [aj (ah q hn0)]; exact q
   rcases hc with z | z
   ·subst z; exact tr _ _ e
   ·exact tr _ _ z
def Ite (K:PySem.W.Frag) (a:Addr):It :=
 ⟨fun i H=>∃xs x,SqL K H a xs/\xs[i]?=some x,fun i H x H'=>∃p v,x=.ref p/\H p=none/\(∀xs,SqL K H a xs->xs[i]?=some v)/\H'=upd H p (.tup [.int i,v]),fun i H=>∃xs,SqL K H a xs/\xs.length<=i⟩
theorem on {P:Program}{w:World}{K:PySem.W.Frag}{es:List Expr}{kx:Nat}{tpos:Pos}(a e it:Addr) (hne:e≠it) :
  qD P w K (.Tuple es kx tpos) (Ite K a) [e,it] e (fun i h=>(∃old,IsEnum h e it i old)/\h.IsListIter it a i) where
 mem:=by simp
 obj:=fun i h st b hb=>by
  obtain ⟨⟨old,he⟩,o,ho,hc,hd⟩:=st
  rcases List.mem_cons.mp hb with z | z
  ·subst z; exact ⟨_,he,fun v z=>by cases z⟩
  ·have z':b=it:=by simpa using z
   subst z'
   exact ⟨o,ho,fun v z=>by rw [hd] at z; cases z⟩
 keep:=fun i h h' st k=>⟨let ⟨old,he⟩:=st.1; ⟨old,k e (by simp) _ he⟩,st.2.at fun o e=>k it (by simp) o e⟩
 item:=by
  intro X hP hw hK hc i pins s σ H E I hf st hg
  subst hP hw hK
  obtain ⟨⟨old,he⟩,hit⟩:=st
  obtain ⟨xs,x,hq,hx⟩:=hg
  obtain ⟨its,rv,p,hz⟩:=I.list hq
  obtain ⟨u,hu,ru⟩:=rv.get hx
  obtain ⟨e0,e1,e2,e3,e4,e5⟩:=hf e (by simp)
  obtain ⟨f0,f1,f2,f3,f4,f5⟩:=hf it (by simp)
  refine wpAny_pyNext_enum_item he hit p.isList (x:=u) (by simpa using hu) hne fun h' ho' hit' ht' hsz' hk'=>?_
  refine ⟨_,rfl,wpAny_letOwnedTupleGo_enum (s:={ s with heap:=h',toks:=s.toks+1 }) ho' fun h2 he2 hs2=>?_⟩
  have hs2':Heap.SameBut e h' h2:=hs2
  have hpe:s.heap.objs.size≠e:=Nat.ne_of_gt (Heap.lt_size he)
  have ht2:h2.get? s.heap.objs.size=some { cls:=.type "tuple",data:=.seq #[.int i s.toks,u] }:=hs2'.extBut _ _ hpe ht'
  have hn0:H s.heap.objs.size=none:=I.fresh
  have hue:upd H s.heap.objs.size (.tup [.int i,x]) e=none:=by rw [aj (Ne.symm hpe)]; exact e0
  have hpi:s.heap.objs.size≠it:=by
   obtain ⟨o,ho,_⟩:=hit
   exact Nat.ne_of_gt (Heap.lt_size ho)
  have hui:upd H s.heap.objs.size (.tup [.int i,x]) it=none:=by rw [aj (Ne.symm hpi)]; exact f0
  have I2:Inv X pins σ (upd H s.heap.objs.size (.tup [.int i,x])) { s with heap:=h2,toks:=s.toks+1 }:=by
   refine I.turnedNew (ch:=[e,it]) hf (fun b o hb q=>?_) ⟨_,ht2⟩ (fun _ z=>nomatch z) ⟨by show 2<=sizeLine; decide,[.int i s.toks,u],.cons ⟨_,rfl⟩ (.cons ru .nil),⟨_,ht2,rfl,_,rfl⟩⟩
   have nb1:b≠e:=fun z=>hb (by simp [z])
   have nb2:b≠it:=fun z=>hb (by simp [z])
   exact hs2'.extBut _ _ nb1 (hk' b o nb1 nb2 q)
  refine ⟨.ref s.heap.objs.size,_,I2,rfl,⟨_,x,rfl,hn0,fun ys hy=>by rw [I.list_inj hy hq]; exact hx,rfl⟩,⟨⟨u,by simpa using he2⟩,hit'.at fun o y=>(hs2'.2 it (Ne.symm hne)).trans y⟩,fun b hb=>?_⟩
  rcases List.mem_cons.mp hb with z | z
  ·subst z; exact hue
  ·have z':b=it:=by simpa using z
   subst z'; exact hui
 done:=by
  intro X hP hw hK hc i pins s σ H E I hf st hg
  subst hP hw hK
  obtain ⟨⟨old,he⟩,hit⟩:=st
  obtain ⟨xs,hq,hx⟩:=hg
  obtain ⟨its,rv,p,hz⟩:=I.list hq
  obtain ⟨f0,f1,f2,f3,f4,f5⟩:=hf it (by simp)
  have hl:=rv.length
  exact wpAny_pyNext_enum_end (I.ok.hd hc) he hit p.isList (by simp; omega) fun h' eb=>⟨rfl,I.turned (t':=s.toks) (fun b o hb e=>eb b o hb e) f0 f1 f3 f4 f5⟩
 self:=fun _ _ _ _ _ st h=>let ⟨_,he⟩:=st.1; wpAny_pyIter_enum he h
section
variable {X:Cx}{p pos:Pos}{es:List Expr}{kx:Nat}{tpos:Pos}
def nG (K:PySem.W.Frag) (ta:TA):TI:=fun σ H R=>ta σ H fun vs H1=>∃a,vs=[.ref a]/\(∃xs,SqL K H1 a xs)/\R (Ite K a) H1
theorem g7 {a:Expr}{ta:TA}(hg:Gl X "enumerate") (hm:X.mg "enumerate"=none) (ha:PA X [a] ta) (hs:starEach [a] X.env=[(false,eval a X.env)]:=by rfl):PI X (.Tuple es kx tpos) (.Call (.Name "enumerate" p) [a] [] pos) (nG X.K ta):=by
 intro pins s σ H R I h
 refine Call_ (i0 I hg hm boot_enumerate (PyProof.Rows.callWith_type1 (thn (ha pos pins s σ H _ I h) fun us s1 ⟨vs,H1,I1,r1,q1⟩=>?_) hs rfl))
 obtain ⟨l,e,⟨xs,hq⟩,q⟩:=q1
 subst e
 obtain ⟨u,rfl,ru⟩:=jW r1
 cases ru
 obtain ⟨its,rv,pl,hz⟩:=I1.list hq
 refine call_enumerate_list pl.isList fun h' he hit hsz hk=>?_
 refine wpAny_pyIter_enum (s:={ s1 with heap:=h' }) he ?_
 have hk':∀b o,s1.heap.get? b=some o->h'.get? b=some o:=hk
 have I2:Inv X pins σ H1 { s1 with heap:=h' }:=I1.kept (t':=s1.toks) hk'
 refine ⟨_,[s1.heap.objs.size+1,s1.heap.objs.size],_,_,H1,rfl,I2,on l _ _ (Nat.succ_ne_self _),⟨⟨_,he⟩,hit⟩,fun b hb=>?_,q⟩
 have hb':s1.heap.objs.size<=b:=by
  rcases List.mem_cons.mp hb with z | z
  ·rw [z]; exact Nat.le_succ _
  ·have z':b=s1.heap.objs.size:=by simpa using z
   rw [z']; exact Nat.le_refl _
 exact I1.fpOk hb' (I1.hok.fresh hb')
end
end L2
end

section
set_option Elab.async false
set_option linter.all false
set_option maxRecDepth 100000
namespace L2
open PySem PySem.Spec PyProof.Rows
def Its (x:Str):It:=⟨fun i _=>i<x.cps.size,fun i H y H'=>H'=H/\∃c,x.cps[i]?=some c/\y=.str ⟨#[c]⟩,fun i _=>x.cps.size<=i⟩
theorem mN {P:Program}{w:World}{K:PySem.W.Frag}{tg:Expr}(x:Str) (t:Tok) (it:Addr):qD P w K tg (Its x) [it] it (fun i h=>h.IsStrIter it "str_ascii_iterator" x t i) where
 mem:=by simp
 obj:=fun i h st b hb=>by
  have e:b=it:=by simpa using hb
  subst e
  obtain ⟨o,e,c,d⟩:=st
  exact ⟨o,e,fun v z=>by rw [d] at z; cases z⟩
 keep:=fun i h h' st k=>by
  obtain ⟨o,e,c,d⟩:=st
  exact ⟨o,k it (by simp) o e,c,d⟩
 item:=by
  intro X hP hw hK hc i pins s σ H E I hf st hg
  subst hP hw hK
  have hlt:i<x.cps.size:=hg
  obtain ⟨f0,f1,f2,f3,f4,f5⟩:=hf it (by simp)
  have hx:x.cps[i]?=some x.cps[i]:=by simp [hlt]
  refine wpAny_pyNext_ascii_item st hx fun h' st' sb=>?_
  have I1:Inv X pins σ H { s with heap:=h',toks:=s.toks+1 }:=I.turned (t':=s.toks+1) (fun b o hb e=>(sb.2 b hb).trans e) f0 f1 f3 f4 f5
  obtain ⟨o,e,c,d⟩:=id st'
  exact ⟨_,rfl,pR (s:={ s with heap:=h',toks:=s.toks+1 }) e c d (by decide) ⟨.str ⟨#[x.cps[i]]⟩,H,I1,⟨_,rfl⟩,⟨rfl,_,hx,rfl⟩,st',fun b hb=>(hf b hb).1⟩⟩
 done:=by
  intro X hP hw hK hc i pins s σ H E I hf st hg
  subst hP hw hK
  have hge:x.cps.size<=i:=hg
  obtain ⟨f0,f1,f2,f3,f4,f5⟩:=hf it (by simp)
  exact wpAny_pyNext_ascii_end (I.ok.hd hc) st (by simp; omega) fun h' eb=>⟨rfl,I.turned (t':=s.toks) (fun b o hb e=>eb b o hb e) f0 f1 f3 f4 f5⟩
 self:=fun _ _ _ _ _ st h=>wpAny_pyIter_striter_ascii st h
theorem om {P:Program}{w:World}{K:PySem.W.Frag}{tg:Expr}(x:Str) (t:Tok) (it:Addr):qD P w K tg (Its x) [it] it (fun i h=>h.IsStrIter it "str_iterator" x t i) where
 mem:=by simp
 obj:=fun i h st b hb=>by
  have e:b=it:=by simpa using hb
  subst e
  obtain ⟨o,e,c,d⟩:=st
  exact ⟨o,e,fun v z=>by rw [d] at z; cases z⟩
 keep:=fun i h h' st k=>by
  obtain ⟨o,e,c,d⟩:=st
  exact ⟨o,k it (by simp) o e,c,d⟩
 item:=by
  intro X hP hw hK hc i pins s σ H E I hf st hg
  subst hP hw hK
  have hlt:i<x.cps.size:=hg
  obtain ⟨f0,f1,f2,f3,f4,f5⟩:=hf it (by simp)
  have hx:x.cps[i]?=some x.cps[i]:=by simp [hlt]
  refine wpAny_pyNext_wide_item st hx fun h' st' sb=>?_
  have I1:Inv X pins σ H { s with heap:=h',toks:=s.toks+1 }:=I.turned (t':=s.toks+1) (fun b o hb e=>(sb.2 b hb).trans e) f0 f1 f3 f4 f5
  obtain ⟨o,e,c,d⟩:=id st'
  exact ⟨_,rfl,pR (s:={ s with heap:=h',toks:=s.toks+1 }) e c d (by decide) ⟨.str ⟨#[x.cps[i]]⟩,H,I1,⟨_,rfl⟩,⟨rfl,_,hx,rfl⟩,st',fun b hb=>(hf b hb).1⟩⟩
 done:=by
  intro X hP hw hK hc i pins s σ H E I hf st hg
  subst hP hw hK
  have hge:x.cps.size<=i:=hg
  obtain ⟨f0,f1,f2,f3,f4,f5⟩:=hf it (by simp)
  exact wpAny_pyNext_wide_end (I.ok.hd hc) st (by simp; omega) fun h' eb=>⟨rfl,I.turned (t':=s.toks) (fun b o hb e=>eb b o hb e) f0 f1 f3 f4 f5⟩
 self:=fun _ _ _ _ _ st h=>wpAny_pyIter_striter_wide st h
section
variable {X:Cx}{p pos:Pos}{tg:Expr}
def v9 (tl:TE):TI:=fun σ H R=>tl σ H fun v H1=>∃x,v=.str x/\R (Its x) H1
theorem uP {l:Expr}{tl:TE}(hl:PE X l tl):PI X tg l (v9 tl):=by
 intro pins s σ H R I h
 refine thn (hl pins s σ H _ I h) fun v s1 ⟨y,H1,I1,r1,q1⟩=>?_
 obtain ⟨x,e,q⟩:=q1
 subst e
 obtain ⟨t,rfl⟩:=r1
 have fin:∀b∈[s1.heap.objs.size],kU X pins H1 b:=fun b hb=>by
  have e:b=s1.heap.objs.size:=by simpa using hb
  subst e
  exact I1.fpOk (Nat.le_refl _) (I1.hok.fresh (Nat.le_refl _))
 cases ha:x.cps.all (·<128)
 ·refine wpAny_pyIter_wide ha ?_
  exact ⟨s1.heap.objs.size,[s1.heap.objs.size],_,_,H1,rfl,I1.kept (t':=s1.toks) fun b o e=>Heap.get?_push_of_some _ e,om x t _,⟨_,Heap.get?_push_size _ rfl,rfl,rfl⟩,fin,q⟩
 ·refine wpAny_pyIter_ascii ha ?_
  exact ⟨s1.heap.objs.size,[s1.heap.objs.size],_,_,H1,rfl,I1.kept (t':=s1.toks) fun b o e=>Heap.get?_push_of_some _ e,mN x t _,⟨_,Heap.get?_push_size _ rfl,rfl,rfl⟩,fin,q⟩
end
def Itz (K:PySem.W.Frag) (a b:Addr):It :=
  ⟨fun i H=>∃xs ys x y,SqL K H a xs/\SqL K H b ys/\xs[i]?=some x/\ys[i]?=some y,
   fun i H x H'=>∃p u v,x=.ref p/\H p=none/\(∀xs,SqL K H a xs->xs[i]?=some u)/\(∀ys,SqL K H b ys->ys[i]?=some v)/\H'=upd H p (.tup [u,v]),
   fun i H=>∃xs ys,SqL K H a xs/\SqL K H b ys/\(xs.length<=i∨ys.length<=i)⟩
theorem qJ {P:Program}{w:World}{K:PySem.W.Frag}{es:List Expr}{kx:Nat}{tpos:Pos}(a b z TI TO i1 i2:Addr) (D:ZipApart z TI TO i1 i2 a b) :
  qD P w K (.Tuple es kx tpos) (Itz K a b) [z,TI,TO,i1,i2] z (fun i h=>IsZip h z TI TO .none/\IsPair h TI (.ref i1) (.ref i2)/\(∃a b,IsPair h TO a b)/\h.IsListIter i1 a i/\h.IsListIter i2 b i) where
 mem:=by simp
 obj:=fun i h st c hc=>by
  obtain ⟨hz,hTI,⟨u,v,hTO⟩,h1,h2⟩:=st
  simp only [List.mem_cons,List.not_mem_nil,or_false] at hc
  rcases hc with rfl | rfl | rfl | rfl | rfl
  ·exact ⟨_,hz,fun v z=>by cases z⟩
  ·exact ⟨_,hTI,fun v z=>by cases z⟩
  ·exact ⟨_,hTO,fun v z=>by cases z⟩
  ·obtain ⟨o,e,c,d⟩:=h1
   exact ⟨o,e,fun v z=>by rw [d] at z; cases z⟩
  ·obtain ⟨o,e,c,d⟩:=h2
   exact ⟨o,e,fun v z=>by rw [d] at z; cases z⟩
 keep:=fun i h h' st k=>by
  obtain ⟨hz,hTI,⟨u,v,hTO⟩,h1,h2⟩:=st
  exact ⟨k z (by simp) _ hz,k TI (by simp) _ hTI,⟨u,v,k TO (by simp) _ hTO⟩,h1.at fun o e=>k i1 (by simp) o e,h2.at fun o e=>k i2 (by simp) o e⟩
 item:=by
  intro X hP hw hK hc i pins s σ H E I hf st hg
  subst hP hw hK
  obtain ⟨hz,hTI,⟨u0,v0,hTO⟩,h1,h2⟩:=st
  obtain ⟨xs,ys,x,y,hqx,hqy,hx,hy⟩:=hg
  obtain ⟨its,rx,px,zx⟩:=I.list hqx
  obtain ⟨jts,ry,py,zy⟩:=I.list hqy
  obtain ⟨u,hu,ru⟩:=rx.get hx
  obtain ⟨v,hv,rv⟩:=ry.get hy
  refine wpAny_pyNext_zip_item D hz hTI hTO h1 h2 px.isList py.isList (x:=u) (y:=v) (by simpa using hu) (by simpa using hv) fun h' a1 a2 a3 a4 a5 a6 hk=>?_
  refine ⟨_,rfl,wpAny_letOwnedTupleGo_zip (s:={ s with heap:=h' }) a1 fun h2' hz2 hs2=>?_⟩
  have hs2':Heap.SameBut z h' h2':=hs2
  have nsz:s.heap.objs.size≠z:=Nat.ne_of_gt (Heap.lt_size hz)
  have nsTO:s.heap.objs.size≠TO:=Nat.ne_of_gt (Heap.lt_size hTO)
  have nsTI:s.heap.objs.size≠TI:=Nat.ne_of_gt (Heap.lt_size hTI)
  have nsi1:s.heap.objs.size≠i1:=by obtain ⟨o,ho,_⟩:=h1; exact Nat.ne_of_gt (Heap.lt_size ho)
  have nsi2:s.heap.objs.size≠i2:=by obtain ⟨o,ho,_⟩:=h2; exact Nat.ne_of_gt (Heap.lt_size ho)
  have ht2:IsPair h2' s.heap.objs.size u v:=hs2'.extBut _ _ nsz a5
  have I2:Inv X pins σ (upd H s.heap.objs.size (.tup [x,y])) { s with heap:=h2',toks:=s.toks }:=by
   refine I.turnedNew (ch:=[z,TI,TO,i1,i2]) hf (fun c o hc q=>?_) ⟨_,ht2⟩ (fun _ z=>nomatch z) ⟨by show 2<=sizeLine; decide,[u,v],.cons ru (.cons rv .nil),⟨_,ht2,rfl,_,rfl⟩⟩
   have n1:c≠z:=fun q=>hc (by simp [q])
   exact hs2'.extBut _ _ n1 (hk c o n1 (fun q=>hc (by simp [q])) (fun q=>hc (by simp [q])) (fun q=>hc (by simp [q])) q)
  refine ⟨.ref s.heap.objs.size,_,I2,rfl,⟨_,x,y,rfl,I.fresh,fun zs hz=>by rw [I.list_inj hz hqx]; exact hx,fun zs hz=>by rw [I.list_inj hz hqy]; exact hy,rfl⟩,⟨hz2,hs2'.extBut _ _ D.TIz (hk _ _ D.TIz D.TITO D.TIi1 D.TIi2 hTI),⟨_,_,hs2'.extBut _ _ D.TOz a2⟩,a3.at fun o e=>hs2'.extBut _ _ D.i1z e,a4.at fun o e=>hs2'.extBut _ _ D.i2z e⟩,fun c hc=>?_⟩
  have hcn:=(hf c hc).1
  simp only [List.mem_cons,List.not_mem_nil,or_false] at hc
  have ne:c≠s.heap.objs.size:=by
   rcases hc with rfl | rfl | rfl | rfl | rfl
   ·exact nsz.symm
   ·exact nsTI.symm
   ·exact nsTO.symm
   ·exact nsi1.symm
   ·exact nsi2.symm
  rw [aj ne]; exact hcn
 done:=by
  intro X hP hw hK hc i pins s σ H E I hf st hg
  subst hP hw hK
  obtain ⟨hz,hTI,⟨u0,v0,hTO⟩,h1,h2⟩:=st
  obtain ⟨xs,ys,hqx,hqy,hend⟩:=hg
  obtain ⟨its,rx,px,zx⟩:=I.list hqx
  obtain ⟨jts,ry,py,zy⟩:=I.list hqy
  have lx:=rx.length
  have ly:=ry.length
  refine wpAny_pyNext_zip_end (I.ok.hd hc) D hz hTI hTO h1 h2 px.isList py.isList (by rcases hend with q | q; exact .inl (by simp; omega); exact .inr (by simp; omega)) fun h' hk=>⟨rfl,?_⟩
  have tr:∀c q,H c=some q->c∉[z,TI,TO,i1,i2]:=fun c q e m=>by rw [(hf c m).1] at e; cases e
  have kk:∀c o,c∉[z,TI,TO,i1,i2]->s.heap.get? c=some o->h'.get? c=some o:=fun c o hc q=>hk c o (fun q=>hc (by simp [q])) (fun q=>hc (by simp [q])) (fun q=>hc (by simp [q])) (fun q=>hc (by simp [q])) q
  refine I.step (g':=s.gens) (d':=s.drawn) (t':=s.toks) (ch:=[z,TI,TO,i1,i2]) (fun c hc=>?_) (fun c o _ _ hc e _=>kk c o hc e) (fun c o _ _ hc e _=>⟨o.slots,kk c o hc e⟩) (fun _ _ _ _ n=>n) (fun c o hc e=>⟨o,kk c o hc e⟩) (fun _ _ e=>e) (fun _ _ _ e=>e) (fun c ps e=>⟨#[],by rw [e]; simp⟩) (fun m hm=>?_) (fun c q e=>?_) I.bare
  ·obtain ⟨f0,f1,f2,f3,f4,f5⟩:=hf c hc
   exact ⟨f3,f1,f4,f5⟩
  ·obtain ⟨q,es',ep,ho,r⟩:=hm
   exact ⟨q,es',ep,kk _ q (fun z=>(hf _ z).2.1 rfl) ho,r⟩
  ·refine (I.hok c q e).stay (fun d v hd q'=>kk d v ?_ q') (fun _ q=>q) fun _ _ q=>q
   rcases hd with z | z
   ·subst z; exact tr _ _ e
   ·exact tr _ _ z
 self:=fun _ _ _ _ _ st h=>wpAny_pyIter_zip st.1 h
section
variable {X:Cx}{p pos:Pos}{es:List Expr}{kx:Nat}{tpos:Pos}
end
end L2
end

section
set_option Elab.async false
set_option linter.all false
set_option maxRecDepth 100000
namespace L2
open PySem PySem.Spec PyProof.Rows
open Sem (wp)
section
variable {prog:Program}{w:World}{A:Around}{E:Value->Shared->Prop}{s:Shared}
theorem dw {it t:Addr}{i:Nat}{items:Array Value}{x:Value}{Q:Value->Shared->Prop}(st:s.heap.IsTupleIter it t i) (tt:s.heap.IsTuple t items) (hx:items[i]?=some x)
  (k:∀h',h'.IsTupleIter it t (i+1)->Heap.SameBut it s.heap h'->Q x { s with heap:=h' }):wpAny (model prog w) A (Builtin.SmallTypes.nextOf (.ref it)) Q E s:=by
 obtain ⟨oi,gi,ci,di⟩:=id st
 obtain ⟨ot,gt,_,nt,dt⟩:=tt
 unfold Builtin.SmallTypes.nextOf
 refine wpAny_bind (wpAny_callSpecial?_slot (name:=Str.ofString "__next__") st.typeIs F.slot_tuple_iterator_next
  (wpAny_call_entry F.slot_tuple_iterator_next st.typeIs F.entry_tuple_iterator_next ?_ (F.args_tuple_iterator_next_1 _)))
 show wpAny _ _ (field (.ref it) 0 >>= _) _ _ s
 refine wpAny_bind (wpAny_field gi di (x:=.ref t) rfl ?_)
 show wpAny _ _ (if (Value.ref t == Value.none)=true then _ else _) _ _ s
 rw [if_neg (show ¬((Value.ref t == Value.none)=true) from Bool.false_ne_true)]
 show wpAny _ _ (field (.ref it) 1 >>= _) _ _ s
 refine wpAny_bind (wpAny_field gi di (x:=.int i 0) rfl ?_)
 show wpAny _ _ (seqItems? (.ref t) >>= _) _ _ s
 refine wpAny_bind (wpAny_seqItems gt dt ?_)
 simp only [Int.toNat_natCast,hx]
 refine wpAny_bind (wpAny_setField gi di (by simp) (wpAny_pure ⟨x,rfl,wpAny_pure (k _ ?_ (Heap.SameBut.update ..))⟩))
 exact ⟨_,Heap.get?_update_self _ gi (Obj.isFreed_of_fields (Obj.data_mapFields di _)),(Obj.cls_mapFields ..).trans ci,by
  rw [Obj.data_mapFields di]; simp [rawInt]⟩
theorem hU {it t:Addr}{i:Nat}{items:Array Value}{Q:Value->Shared->Prop}(hh:A.handled=none) (st:s.heap.IsTupleIter it t i) (tt:s.heap.IsTuple t items) (hx:items[i]?=none)
  (k:∀h' e,Heap.ExtBut it s.heap h'->(∃o,h'.get? e=some o/\o.cls=.type "StopIteration")->E (.ref e) { s with heap:=h' }):wpAny (model prog w) A (Builtin.SmallTypes.nextOf (.ref it)) Q E s:=by
 obtain ⟨oi,gi,ci,di⟩:=id st
 obtain ⟨ot,gt,_,nt,dt⟩:=tt
 unfold Builtin.SmallTypes.nextOf
 refine wpAny_bind (wpAny_callSpecial?_slot (name:=Str.ofString "__next__") st.typeIs F.slot_tuple_iterator_next
  (wpAny_call_entry F.slot_tuple_iterator_next st.typeIs F.entry_tuple_iterator_next ?_ (F.args_tuple_iterator_next_1 _)))
 show wpAny _ _ (field (.ref it) 0 >>= _) _ _ s
 refine wpAny_bind (wpAny_field gi di (x:=.ref t) rfl ?_)
 show wpAny _ _ (if (Value.ref t == Value.none)=true then _ else _) _ _ s
 rw [if_neg (show ¬((Value.ref t == Value.none)=true) from Bool.false_ne_true)]
 show wpAny _ _ (field (.ref it) 1 >>= _) _ _ s
 refine wpAny_bind (wpAny_field gi di (x:=.int i 0) rfl ?_)
 show wpAny _ _ (seqItems? (.ref t) >>= _) _ _ s
 refine wpAny_bind (wpAny_seqItems gt dt ?_)
 simp only [Int.toNat_natCast,hx]
 refine wpAny_bind (wpAny_rule (wpAny_bind (wpAny_setField gi di (by simp) ?_)))
 show wpAny _ _ (newExc (.type "StopIteration") [] >>= _) _ _ _
 refine wpAny_bind ?_
 simp only [newExc,newTuple]
 refine wpAny_bind (wpAny_newObj_type ?_ (by size_fits))
 refine wpAny_bind (m:=firstArgMember _ _) (wpAny_of_eq (a:=Value.none) (by first | rfl | (simp only [firstArgMember]; rfl)) ?_)
 refine wpAny_newObj_type ?_ (by size_fits)
 simp only [raiseNew]
 refine wpAny_bind (wpAny_handled ?_)
 first | rw [show A.in1.handled=none from hh] | rw [hh]
 refine wpAny_bind (wpAny_pure (wpAny_throw ?_))
 exact k _ _ (((Heap.SameBut.update ..).extBut.push _).push _) ⟨_,Heap.get?_push_size _ rfl,rfl⟩
theorem nZ {z TI TO i1 i2 l1 l2:Addr}{k1 k2:Nat}{xs ys:Array Value}{x y a b:Value}{Q:Value->Shared->Prop}(D:ZipApart z TI TO i1 i2 l1 l2)
  (gz:IsZip s.heap z TI TO .none) (gI:IsPair s.heap TI (.ref i1) (.ref i2)) (gO:IsPair s.heap TO a b)
  (g1:s.heap.IsTupleIter i1 l1 k1) (g2:s.heap.IsTupleIter i2 l2 k2) (t1:s.heap.IsTuple l1 xs) (t2:s.heap.IsTuple l2 ys) (hx:xs[k1]?=some x) (hy:ys[k2]?=some y)
  (k:∀h',IsZip h' z TI TO (rawInt s.heap.objs.size)->IsPair h' TO x y->h'.IsTupleIter i1 l1 (k1+1)->h'.IsTupleIter i2 l2 (k2+1)->IsPair h' s.heap.objs.size x y->h'.objs.size=s.heap.objs.size+1 ->
   (∀c o,c≠z->c≠TO->c≠i1->c≠i2->s.heap.get? c=some o->h'.get? c=some o)->Q (.ref s.heap.objs.size) { s with heap:=h' }) :
  wpAny (model prog w) A (Builtin.«zip.__next__» ⟨[.ref z],[]⟩) (fun fin s'=>∃v,fin=.done (.ret v)/\Q v s') E s:=by
 show wpAny _ _ (field (.ref z) 2 >>= _) _ _ _
 refine wpAny_bind (wpAny_field gz rfl (x:=.bool false) rfl ?_)
 show wpAny _ _ (field (.ref z) 3 >>= _) _ _ _
 refine wpAny_bind (wpAny_field gz rfl (x:=.ref TI) rfl ?_)
 refine wpAny_bind (wpAny_seqItems gI rfl ?_)
 show wpAny _ _ (Builtin.SmallTypes.ownedTupleIsFree (.ref z) >>= _) _ _ _
 refine wpAny_bind ?_
 unfold Builtin.SmallTypes.ownedTupleIsFree
 refine wpAny_bind (wpAny_field gz rfl (x:=.none) rfl (wpAny_pure ?_))
 simp only [if_true]
 refine wpAny_bind (wpAny_rule ?_)
 refine wpAny_bind (wpAny_field gz rfl (x:=.ref TO) rfl ?_)
 refine wpAny_bind (wpAny_setField_rec gz (by simp) fun m₁ gz₁ u₁=>?_)
 replace gz₁:IsZip m₁ z TI TO .ellipsis:=gz₁
 refine wpAny_bind ?_
 simp only [List.zipIdx_cons,List.zipIdx_nil,List.forIn_cons,List.forIn_nil]
 refine wpAny_bind (wpAny_bind (wpAny_onRaise ?_))
 show wpAny _ _ (Builtin.SmallTypes.nextOf (.ref i1) >>= _) _ _ _
 refine wpAny_bind (dw (g1.extBut u₁.extBut D.i1z) (t1.extBut u₁.extBut D.l1z) hx fun m₂ g1₂ u₂=>wpAny_pure ?_)
 have gO₂:IsPair m₂ TO a b:=u₂.extBut _ _ D.TOi1 (u₁.extBut _ _ D.TOz gO)
 refine wpAny_bind (wpAny_seqItems gO₂ rfl ?_)
 refine wpAny_bind (wpAny_updateSeq_pair gO₂ fun m₃ gO₃ u₃=>?_)
 replace gO₃:IsPair m₃ TO x b:=gO₃
 refine wpAny_bind (wpAny_letGo (wpAny_pure ?_))
 refine wpAny_bind (wpAny_bind (wpAny_onRaise ?_))
 show wpAny _ _ (Builtin.SmallTypes.nextOf (.ref i2) >>= _) _ _ _
 refine wpAny_bind (dw (((g2.extBut u₁.extBut D.i2z).extBut u₂.extBut D.i12.symm).extBut u₃.extBut D.TOi2.symm)
  (((t2.extBut u₁.extBut D.l2z).extBut u₂.extBut D.l2i1).extBut u₃.extBut D.l2TO) hy fun m₄ g2₄ u₄=>wpAny_pure ?_)
 have gO₄:IsPair m₄ TO x b:=u₄.extBut _ _ D.TOi2 gO₃
 refine wpAny_bind (wpAny_seqItems gO₄ rfl ?_)
 refine wpAny_bind (wpAny_updateSeq_pair gO₄ fun m₅ gO₅ u₅=>?_)
 replace gO₅:IsPair m₅ TO x y:=gO₅
 refine wpAny_bind (wpAny_letGo (wpAny_pure (wpAny_pure ?_)))
 refine wpAny_bind (wpAny_seqItems gO₅ rfl ?_)
 refine wpAny_bind (wpAny_newTuple ?_)
 have esz:m₅.objs.size=s.heap.objs.size:=by rw [u₅.1,u₄.1,u₃.1,u₂.1,u₁.1]
 have gz₅:IsZip m₅ z TI TO .ellipsis:=u₅.extBut _ _ D.TOz.symm (u₄.extBut _ _ D.i2z.symm (u₃.extBut _ _ D.TOz.symm (u₂.extBut _ _ D.i1z.symm gz₁)))
 have kp₅:∀c o,c≠z->c≠TO->c≠i1->c≠i2->s.heap.get? c=some o->m₅.get? c=some o:=fun c o c1 c2 c3 c4 e =>
  u₅.extBut _ _ c2 (u₄.extBut _ _ c4 (u₃.extBut _ _ c2 (u₂.extBut _ _ c3 (u₁.extBut _ _ c1 e))))
 have g1₅:m₅.IsTupleIter i1 l1 (k1+1):=((g1₂.extBut u₃.extBut D.TOi1.symm).extBut u₄.extBut D.i12).extBut u₅.extBut D.TOi1.symm
 have g2₅:m₅.IsTupleIter i2 l2 (k2+1):=g2₄.extBut u₅.extBut D.TOi2.symm
 have zlt:z<m₅.objs.size:=Heap.lt_size gz₅
 show wpAny _ _ (Builtin.SmallTypes.ownedTupleHandOut (.ref z) (.ref m₅.objs.size) >>= _) _ _ _
 refine wpAny_bind ?_
 unfold Builtin.SmallTypes.ownedTupleHandOut
 have gz₆:IsZip (m₅.push { cls:=.type "tuple",data:=.seq #[x,y] }) z TI TO .ellipsis:=Heap.get?_push_of_some _ gz₅
 refine wpAny_bind (wpAny_setField_rec gz₆ (by simp) fun m₇ gz₇ u₇=>?_)
 replace gz₇:IsZip m₇ z TI TO (rawInt m₅.objs.size):=gz₇
 refine wpAny_setField_rec gz₇ (by simp) fun m₈ gz₈ u₈=>?_
 replace gz₈:IsZip m₈ z TI TO (rawInt m₅.objs.size):=gz₈
 have up:∀c o,c≠z->m₅.get? c=some o->m₈.get? c=some o:=fun c o c1 e=>u₈.extBut _ _ c1 (u₇.extBut _ _ c1 (Heap.get?_push_of_some _ e))
 have gT₈:IsPair m₈ m₅.objs.size x y:=u₈.extBut _ _ (Nat.ne_of_gt zlt) (u₇.extBut _ _ (Nat.ne_of_gt zlt) (Heap.get?_push_size _ rfl))
 have ez8:m₈.objs.size=m₅.objs.size+1:=by rw [u₈.1,u₇.1,Heap.size_push]
 rw [esz] at gz₈ gT₈ ez8
 refine wpAny_pure ⟨_,rfl,?_⟩
 show Q (.ref m₅.objs.size) _
 rw [esz]
 refine k m₈ gz₈ (up _ _ D.TOz gO₅) ?_ ?_ gT₈ ez8 fun c o c1 c2 c3 c4 e=>up c o c1 (kp₅ c o c1 c2 c3 c4 e)
 ·obtain ⟨o,e,r⟩:=g1₅
  exact ⟨o,up _ o D.i1z e,r⟩
 ·obtain ⟨o,e,r⟩:=g2₅
  exact ⟨o,up _ o D.i2z e,r⟩
theorem qE {z TI TO i1 i2 l1 l2:Addr}{k1 k2:Nat}{xs ys:Array Value}{a b:Value}{Q:Fin->Shared->Prop}(hh:A.handled=none) (D:ZipApart z TI TO i1 i2 l1 l2)
  (gz:IsZip s.heap z TI TO .none) (gI:IsPair s.heap TI (.ref i1) (.ref i2)) (gO:IsPair s.heap TO a b)
  (g1:s.heap.IsTupleIter i1 l1 k1) (g2:s.heap.IsTupleIter i2 l2 k2) (t1:s.heap.IsTuple l1 xs) (t2:s.heap.IsTuple l2 ys) (fin:xs[k1]?=none∨ys[k2]?=none)
  (k:∀h' e,(∀c o,c≠z->c≠TO->c≠i1->c≠i2->s.heap.get? c=some o->h'.get? c=some o)->(∃o,h'.get? e=some o/\o.cls=.type "StopIteration")->E (.ref e) { s with heap:=h' }) :
  wpAny (model prog w) A (Builtin.«zip.__next__» ⟨[.ref z],[]⟩) Q E s:=by
 show wpAny _ _ (field (.ref z) 2 >>= _) _ _ _
 refine wpAny_bind (wpAny_field gz rfl (x:=.bool false) rfl ?_)
 show wpAny _ _ (field (.ref z) 3 >>= _) _ _ _
 refine wpAny_bind (wpAny_field gz rfl (x:=.ref TI) rfl ?_)
 refine wpAny_bind (wpAny_seqItems gI rfl ?_)
 show wpAny _ _ (Builtin.SmallTypes.ownedTupleIsFree (.ref z) >>= _) _ _ _
 refine wpAny_bind ?_
 unfold Builtin.SmallTypes.ownedTupleIsFree
 refine wpAny_bind (wpAny_field gz rfl (x:=.none) rfl (wpAny_pure ?_))
 simp only [if_true]
 refine wpAny_bind (wpAny_rule ?_)
 refine wpAny_bind (wpAny_field gz rfl (x:=.ref TO) rfl ?_)
 refine wpAny_bind (wpAny_setField_rec gz (by simp) fun m₁ gz₁ u₁=>?_)
 replace gz₁:IsZip m₁ z TI TO .ellipsis:=gz₁
 refine wpAny_bind ?_
 simp only [List.zipIdx_cons,List.zipIdx_nil,List.forIn_cons,List.forIn_nil]
 refine wpAny_bind (wpAny_bind (wpAny_onRaise ?_))
 show wpAny _ _ (Builtin.SmallTypes.nextOf (.ref i1) >>= _) _ _ _
 cases hx:xs[k1]? with
 | none =>
  refine wpAny_bind (hU hh (g1.extBut u₁.extBut D.i1z) (t1.extBut u₁.extBut D.l1z) hx fun m₂ e u₂ he=>?_)
  obtain ⟨oe,ge,ce⟩:=he
  have gz₂:IsZip m₂ z TI TO .ellipsis:=u₂ _ _ D.i1z.symm gz₁
  have nez:e≠z:=fun q=>by subst q; rw [gz₂] at ge; cases ge; simp at ce
  refine wpAny_setField_rec gz₂ (by simp) fun m₃ _ u₃=>k m₃ e (fun c o c1 _ c3 _ q=>u₃.extBut _ _ c1 (u₂ _ _ c3 (u₁.extBut _ _ c1 q))) ⟨oe,u₃.extBut _ _ nez ge,ce⟩
 | some x =>
  have hy:ys[k2]?=none:=by rcases fin with q | q; rw [hx] at q; cases q; exact q
  refine wpAny_bind (dw (g1.extBut u₁.extBut D.i1z) (t1.extBut u₁.extBut D.l1z) hx fun m₂ g1₂ u₂=>wpAny_pure ?_)
  have gO₂:IsPair m₂ TO a b:=u₂.extBut _ _ D.TOi1 (u₁.extBut _ _ D.TOz gO)
  refine wpAny_bind (wpAny_seqItems gO₂ rfl ?_)
  refine wpAny_bind (wpAny_updateSeq_pair gO₂ fun m₃ gO₃ u₃=>?_)
  refine wpAny_bind (wpAny_letGo (wpAny_pure ?_))
  refine wpAny_bind (wpAny_bind (wpAny_onRaise ?_))
  show wpAny _ _ (Builtin.SmallTypes.nextOf (.ref i2) >>= _) _ _ _
  refine wpAny_bind (hU hh (((g2.extBut u₁.extBut D.i2z).extBut u₂.extBut D.i12.symm).extBut u₃.extBut D.TOi2.symm)
   (((t2.extBut u₁.extBut D.l2z).extBut u₂.extBut D.l2i1).extBut u₃.extBut D.l2TO) hy fun m₄ e u₄ he=>?_)
  obtain ⟨oe,ge,ce⟩:=he
  have gz₄:IsZip m₄ z TI TO .ellipsis:=u₄ _ _ D.i2z.symm (u₃.extBut _ _ D.TOz.symm (u₂.extBut _ _ D.i1z.symm gz₁))
  have nez:e≠z:=fun q=>by subst q; rw [gz₄] at ge; cases ge; simp at ce
  refine wpAny_setField_rec gz₄ (by simp) fun m₅ _ u₅=>k m₅ e (fun c o c1 c2 c3 c4 q=>u₅.extBut _ _ c1 (u₄ _ _ c4 (u₃.extBut _ _ c2 (u₂.extBut _ _ c3 (u₁.extBut _ _ c1 q))))) ⟨oe,u₅.extBut _ _ nez ge,ce⟩
theorem jI {z TI TO i1 i2 l1 l2:Addr}{k1 k2:Nat}{xs ys:Array Value}{x y a b:Value}{Q:Option Value->Shared->Prop}(D:ZipApart z TI TO i1 i2 l1 l2)
  (gz:IsZip s.heap z TI TO .none) (gI:IsPair s.heap TI (.ref i1) (.ref i2)) (gO:IsPair s.heap TO a b)
  (g1:s.heap.IsTupleIter i1 l1 k1) (g2:s.heap.IsTupleIter i2 l2 k2) (t1:s.heap.IsTuple l1 xs) (t2:s.heap.IsTuple l2 ys) (hx:xs[k1]?=some x) (hy:ys[k2]?=some y)
  (k:∀h',IsZip h' z TI TO (rawInt s.heap.objs.size)->IsPair h' TO x y->h'.IsTupleIter i1 l1 (k1+1)->h'.IsTupleIter i2 l2 (k2+1)->IsPair h' s.heap.objs.size x y->h'.objs.size=s.heap.objs.size+1 ->
   (∀c o,c≠z->c≠TO->c≠i1->c≠i2->s.heap.get? c=some o->h'.get? c=some o)->Q (some (.ref s.heap.objs.size)) { s with heap:=h' }) :
  wpAny (model prog w) A (pyNext (.ref z)) Q E s:=by
 have hT:s.TypeIs (.ref z) "zip":=⟨_,gz,rfl⟩
 unfold pyNext
 exact wpAny_bind (wpAny_attempt (wpAny_callSpecial?_slot (name:=Str.ofString "__next__") hT F.slot_zip_next
  (wpAny_call_entry F.slot_zip_next hT F.entry_zip_next
   (nZ D gz gI gO g1 g2 t1 t2 hx hy fun h' a1 a2 a3 a4 a5 a6 a7=>wpAny_pure (k h' a1 a2 a3 a4 a5 a6 a7)) (F.args_zip_next_1 _))))
theorem ko {z TI TO i1 i2 l1 l2:Addr}{k1 k2:Nat}{xs ys:Array Value}{a b:Value}{Q:Option Value->Shared->Prop}(hh:A.handled=none) (D:ZipApart z TI TO i1 i2 l1 l2)
  (gz:IsZip s.heap z TI TO .none) (gI:IsPair s.heap TI (.ref i1) (.ref i2)) (gO:IsPair s.heap TO a b)
  (g1:s.heap.IsTupleIter i1 l1 k1) (g2:s.heap.IsTupleIter i2 l2 k2) (t1:s.heap.IsTuple l1 xs) (t2:s.heap.IsTuple l2 ys) (fin:xs[k1]?=none∨ys[k2]?=none)
  (k:∀h',(∀c o,c≠z->c≠TO->c≠i1->c≠i2->s.heap.get? c=some o->h'.get? c=some o)->Q none { s with heap:=h' }):wpAny (model prog w) A (pyNext (.ref z)) Q E s:=by
 have hT:s.TypeIs (.ref z) "zip":=⟨_,gz,rfl⟩
 unfold pyNext
 refine wpAny_bind (wpAny_attempt (wpAny_callSpecial?_slot (name:=Str.ofString "__next__") hT F.slot_zip_next
  (wpAny_call_entry F.slot_zip_next hT F.entry_zip_next (qE hh D gz gI gO g1 g2 t1 t2 fin fun h' e kp he=>?_) (F.args_zip_next_1 _))))
 obtain ⟨o,ho,hc⟩:=he
 refine wpAny_bind (wpAny_isInstance (T:="StopIteration") (b:=true) ⟨o,ho,hc⟩ isSubtype_stop ?_)
 exact wpAny_pure (k _ kp)
end
abbrev zT1 (h:Heap) (l1:Addr):Heap:=h.push { cls:=.type "tuple_iterator",data:=.fields #[.ref l1,.int 0 0] }
abbrev zT2 (h:Heap) (l1 l2:Addr):Heap:=(zT1 h l1).push { cls:=.type "tuple_iterator",data:=.fields #[.ref l2,.int 0 0] }
abbrev zT3 (h:Heap) (l1 l2:Addr):Heap:=(zT2 h l1 l2).push { cls:=.type "tuple",data:=.seq #[.ref h.objs.size,.ref (zT1 h l1).objs.size] }
abbrev zT4 (h:Heap) (l1 l2:Addr):Heap:=(zT3 h l1 l2).push { cls:=.type "tuple",data:=.seq #[.none,.none] }
abbrev zT5 (h:Heap) (l1 l2:Addr):Heap:=(zT4 h l1 l2).push { cls:=.type "zip",data:=.fields #[.none,.bool false,.bool false,.ref (zT2 h l1 l2).objs.size,.ref (zT3 h l1 l2).objs.size] }
theorem nq (l1 l2:Addr) (xs ys:Array Value) :
  Meets (Builtin.«zip.__new__» ⟨[.type "zip",.ref l1,.ref l2],[]⟩) (fun _ R s=>s.heap.IsTuple l1 xs/\s.heap.IsTuple l2 ys /\
   R (.ok (.ret (.ref (zT4 s.heap l1 l2).objs.size))) { s with heap:=zT5 s.heap l1 l2 }) :=
 .of_wp fun prog w A R s h=>by
  obtain ⟨hp,g,d,tk,os⟩:=s; obtain ⟨q1,q2,h⟩:=h
  have hsub:=sub_zip
  have T1:Heap.IsTuple (Shared.heap ⟨hp,g,d,tk,os⟩) l1 xs:=q1
  have T2:Heap.IsTuple (Shared.heap ⟨hp.push { cls:=.type "tuple_iterator",data:=.fields #[.ref l1,.int 0 0] },g,d,tk,os⟩) l2 ys:=Heap.IsTuple.push q2 _
  wp_walk using wpAny_pyIter_tuple T1,wpAny_pyIter_tuple T2
  exact ⟨_,rfl,h⟩
section
variable {prog:Program}{w:World}{A:Around}{E:Value->Shared->Prop}{s:Shared}
theorem qa {l1 l2:Addr}{xs ys:Array Value}{Q:Value->Shared->Prop}(t1:s.heap.IsTuple l1 xs) (t2:s.heap.IsTuple l2 ys)
  (k:∀h',IsZip h' (s.heap.objs.size+4) (s.heap.objs.size+2) (s.heap.objs.size+3) .none->IsPair h' (s.heap.objs.size+2) (.ref s.heap.objs.size) (.ref (s.heap.objs.size+1)) ->
   IsPair h' (s.heap.objs.size+3) .none .none->h'.IsTupleIter s.heap.objs.size l1 0->h'.IsTupleIter (s.heap.objs.size+1) l2 0->(∀c o,s.heap.get? c=some o->h'.get? c=some o)->Q (.ref (s.heap.objs.size+4)) { s with heap:=h' }) :
  wpAny (model prog w) A (call (.type "zip") [.ref l1,.ref l2]) Q E s:=by
 refine callType_new F.called_zip (by decide) (F.typeCall_zip_2 _ _) (F.newCall_zip_2 _ _) (fun obj=>F.args_object_init_3 obj _ _) F.entry_zip_new
  (nq l1 l2 xs ys) ⟨t1,t2,?_⟩
 have z1:(zT1 s.heap l1).objs.size=s.heap.objs.size+1:=Heap.size_push ..
 have z2:(zT2 s.heap l1 l2).objs.size=s.heap.objs.size+2:=by rw [Heap.size_push,z1]
 have z3:(zT3 s.heap l1 l2).objs.size=s.heap.objs.size+3:=by rw [Heap.size_push,z2]
 have z4:(zT4 s.heap l1 l2).objs.size=s.heap.objs.size+4:=by rw [Heap.size_push,z3]
 have g5:(zT5 s.heap l1 l2).get? (zT4 s.heap l1 l2).objs.size=some _:=Heap.get?_push_size _ rfl
 have g4:(zT5 s.heap l1 l2).get? (zT3 s.heap l1 l2).objs.size=some _:=Heap.get?_push_of_some _ (Heap.get?_push_size _ rfl)
 have g3:(zT5 s.heap l1 l2).get? (zT2 s.heap l1 l2).objs.size=some _:=Heap.get?_push_of_some _ (Heap.get?_push_of_some _ (Heap.get?_push_size _ rfl))
 have g2:(zT5 s.heap l1 l2).get? (zT1 s.heap l1).objs.size=some _:=Heap.get?_push_of_some _ (Heap.get?_push_of_some _ (Heap.get?_push_of_some _ (Heap.get?_push_size _ rfl)))
 have g1:(zT5 s.heap l1 l2).get? s.heap.objs.size=some _:=Heap.get?_push_of_some _ (Heap.get?_push_of_some _ (Heap.get?_push_of_some _ (Heap.get?_push_of_some _ (Heap.get?_push_size _ rfl))))
 show _/\_
 rw [z2,z3,z4] at g5
 rw [z1,z2] at g3
 rw [z3] at g4
 rw [z1] at g2
 rw [z4]
 exact ⟨⟨_,g5,rfl⟩,k _ g5 g3 g4 ⟨_,g1,rfl,rfl⟩ ⟨_,g2,rfl,rfl⟩ fun c o x =>
  Heap.get?_push_of_some _ (Heap.get?_push_of_some _ (Heap.get?_push_of_some _ (Heap.get?_push_of_some _ (Heap.get?_push_of_some _ x))))⟩
end
def vm (K:PySem.W.Frag) (a b:Addr):It :=
  ⟨fun i H=>∃xs ys x y,SqT K H a xs/\SqT K H b ys/\xs[i]?=some x/\ys[i]?=some y,
   fun i H x H'=>∃p u v,x=.ref p/\H p=none/\(∀xs,SqT K H a xs->xs[i]?=some u)/\(∀ys,SqT K H b ys->ys[i]?=some v)/\H'=upd H p (.tup [u,v]),
   fun i H=>∃xs ys,SqT K H a xs/\SqT K H b ys/\(xs.length<=i∨ys.length<=i)⟩
theorem ol {P:Program}{w:World}{K:PySem.W.Frag}{es:List Expr}{kx:Nat}{tpos:Pos}(a b z TI TO i1 i2:Addr) (D:ZipApart z TI TO i1 i2 a b) :
  qD P w K (.Tuple es kx tpos) (vm K a b) [z,TI,TO,i1,i2] z (fun i h=>IsZip h z TI TO .none/\IsPair h TI (.ref i1) (.ref i2)/\(∃a b,IsPair h TO a b)/\h.IsTupleIter i1 a i/\h.IsTupleIter i2 b i) where
 mem:=by simp
 obj:=fun i h st c hc=>by
  obtain ⟨hz,hTI,⟨u,v,hTO⟩,h1,h2⟩:=st
  simp only [List.mem_cons,List.not_mem_nil,or_false] at hc
  rcases hc with rfl | rfl | rfl | rfl | rfl
  ·exact ⟨_,hz,fun v z=>by cases z⟩
  ·exact ⟨_,hTI,fun v z=>by cases z⟩
  ·exact ⟨_,hTO,fun v z=>by cases z⟩
  ·obtain ⟨o,e,c,d⟩:=h1
   exact ⟨o,e,fun v z=>by rw [d] at z; cases z⟩
  ·obtain ⟨o,e,c,d⟩:=h2
   exact ⟨o,e,fun v z=>by rw [d] at z; cases z⟩
 keep:=fun i h h' st k=>by
  obtain ⟨hz,hTI,⟨u,v,hTO⟩,⟨o1,e1,r1⟩,⟨o2,e2,r2⟩⟩:=st
  exact ⟨k z (by simp) _ hz,k TI (by simp) _ hTI,⟨u,v,k TO (by simp) _ hTO⟩,⟨o1,k i1 (by simp) o1 e1,r1⟩,⟨o2,k i2 (by simp) o2 e2,r2⟩⟩
 item:=by
  intro X hP hw hK hc i pins s σ H E I hf st hg
  subst hP hw hK
  obtain ⟨hz,hTI,⟨u0,v0,hTO⟩,h1,h2⟩:=st
  obtain ⟨xs,ys,x,y,hqx,hqy,hx,hy⟩:=hg
  obtain ⟨its,rx,px,zx⟩:=I.tuple hqx
  obtain ⟨jts,ry,py,zy⟩:=I.tuple hqy
  obtain ⟨u,hu,ru⟩:=rx.get hx
  obtain ⟨v,hv,rv⟩:=ry.get hy
  refine jI D hz hTI hTO h1 h2 (xs:=its.toArray) (ys:=jts.toArray) px py (x:=u) (y:=v) (by simpa using hu) (by simpa using hv) fun h' a1 a2 a3 a4 a5 a6 hk=>?_
  refine ⟨_,rfl,wpAny_letOwnedTupleGo_zip (s:={ s with heap:=h' }) a1 fun h2' hz2 hs2=>?_⟩
  have hs2':Heap.SameBut z h' h2':=hs2
  have nsz:s.heap.objs.size≠z:=Nat.ne_of_gt (Heap.lt_size hz)
  have nsTO:s.heap.objs.size≠TO:=Nat.ne_of_gt (Heap.lt_size hTO)
  have nsTI:s.heap.objs.size≠TI:=Nat.ne_of_gt (Heap.lt_size hTI)
  have nsi1:s.heap.objs.size≠i1:=by obtain ⟨o,ho,_⟩:=h1; exact Nat.ne_of_gt (Heap.lt_size ho)
  have nsi2:s.heap.objs.size≠i2:=by obtain ⟨o,ho,_⟩:=h2; exact Nat.ne_of_gt (Heap.lt_size ho)
  have ht2:IsPair h2' s.heap.objs.size u v:=hs2'.extBut _ _ nsz a5
  have I2:Inv X pins σ (upd H s.heap.objs.size (.tup [x,y])) { s with heap:=h2',toks:=s.toks }:=by
   refine I.turnedNew (ch:=[z,TI,TO,i1,i2]) hf (fun c o hc q=>?_) ⟨_,ht2⟩ (fun _ z=>nomatch z) ⟨by show 2<=sizeLine; decide,[u,v],.cons ru (.cons rv .nil),⟨_,ht2,rfl,_,rfl⟩⟩
   have n1:c≠z:=fun q=>hc (by simp [q])
   exact hs2'.extBut _ _ n1 (hk c o n1 (fun q=>hc (by simp [q])) (fun q=>hc (by simp [q])) (fun q=>hc (by simp [q])) q)
  have a3':h2'.IsTupleIter i1 a (i+1):=by obtain ⟨o,e,r⟩:=a3; exact ⟨o,hs2'.extBut _ _ D.i1z e,r⟩
  have a4':h2'.IsTupleIter i2 b (i+1):=by obtain ⟨o,e,r⟩:=a4; exact ⟨o,hs2'.extBut _ _ D.i2z e,r⟩
  refine ⟨.ref s.heap.objs.size,_,I2,rfl,⟨_,x,y,rfl,I.fresh,fun zs hz=>by rw [I.tuple_inj hz hqx]; exact hx,fun zs hz=>by rw [I.tuple_inj hz hqy]; exact hy,rfl⟩,⟨hz2,hs2'.extBut _ _ D.TIz (hk _ _ D.TIz D.TITO D.TIi1 D.TIi2 hTI),⟨_,_,hs2'.extBut _ _ D.TOz a2⟩,a3',a4'⟩,fun c hc=>?_⟩
  have hcn:=(hf c hc).1
  simp only [List.mem_cons,List.not_mem_nil,or_false] at hc
  have ne:c≠s.heap.objs.size:=by
   rcases hc with rfl | rfl | rfl | rfl | rfl
   ·exact nsz.symm
   ·exact nsTI.symm
   ·exact nsTO.symm
   ·exact nsi1.symm
   ·exact nsi2.symm
  rw [aj ne]; exact hcn
 done:=by
  intro X hP hw hK hc i pins s σ H E I hf st hg
  subst hP hw hK
  obtain ⟨hz,hTI,⟨u0,v0,hTO⟩,h1,h2⟩:=st
  obtain ⟨xs,ys,hqx,hqy,hend⟩:=hg
  obtain ⟨its,rx,px,zx⟩:=I.tuple hqx
  obtain ⟨jts,ry,py,zy⟩:=I.tuple hqy
  have lx:=rx.length
  have ly:=ry.length
  refine ko (I.ok.hd hc) D hz hTI hTO h1 h2 (xs:=its.toArray) (ys:=jts.toArray) px py (by rcases hend with q | q; exact .inl (by simp; omega); exact .inr (by simp; omega)) fun h' hk=>⟨rfl,?_⟩
  have tr:∀c q,H c=some q->c∉[z,TI,TO,i1,i2]:=fun c q e m=>by rw [(hf c m).1] at e; cases e
  have kk:∀c o,c∉[z,TI,TO,i1,i2]->s.heap.get? c=some o->h'.get? c=some o:=fun c o hc q=>hk c o (fun q=>hc (by simp [q])) (fun q=>hc (by simp [q])) (fun q=>hc (by simp [q])) (fun q=>hc (by simp [q])) q
  refine I.step (g':=s.gens) (d':=s.drawn) (t':=s.toks) (ch:=[z,TI,TO,i1,i2]) (fun c hc=>?_) (fun c o _ _ hc e _=>kk c o hc e) (fun c o _ _ hc e _=>⟨o.slots,kk c o hc e⟩) (fun _ _ _ _ n=>n) (fun c o hc e=>⟨o,kk c o hc e⟩) (fun _ _ e=>e) (fun _ _ _ e=>e) (fun c ps e=>⟨#[],by rw [e]; simp⟩) (fun m hm=>?_) (fun c q e=>?_) I.bare
  ·obtain ⟨f0,f1,f2,f3,f4,f5⟩:=hf c hc
   exact ⟨f3,f1,f4,f5⟩
  ·obtain ⟨q,es',ep,ho,r⟩:=hm
   exact ⟨q,es',ep,kk _ q (fun z=>(hf _ z).2.1 rfl) ho,r⟩
  ·refine (I.hok c q e).stay (fun d v hd q'=>kk d v ?_ q') (fun _ q=>q) fun _ _ q=>q
   rcases hd with z | z
   ·subst z; exact tr _ _ e
   ·exact tr _ _ z
 self:=fun _ _ _ _ _ st h=>wpAny_pyIter_zip st.1 h
section
variable {X:Cx}{p pos:Pos}{es:List Expr}{kx:Nat}{tpos:Pos}
def pO (K:PySem.W.Frag) (ta:TA):TI:=fun σ H R=>ta σ H fun vs H1=>∃a b,vs=[.ref a,.ref b]/\(((∃xs,SqL K H1 a xs)/\(∃ys,SqL K H1 b ys)/\R (Itz K a b) H1)∨((∃xs,SqT K H1 a xs)/\(∃ys,SqT K H1 b ys)/\R (vm K a b) H1))
theorem lz {a b:Expr}{ta:TA}(hg:Gl X "zip") (hm:X.mg "zip"=none) (ha:PA X [a,b] ta) (hs:starEach [a,b] X.env=[(false,eval a X.env),(false,eval b X.env)]:=by rfl) (hs2:starEach [b] X.env=[(false,eval b X.env)]:=by rfl) :
  PI X (.Tuple es kx tpos) (.Call (.Name "zip" p) [a,b] [] pos) (pO X.K ta):=by
 intro pins s σ H R I h
 refine Call_ (i0 I hg hm boot_zip (PyProof.Rows.callWith_type1 (thn (ha pos pins s σ H _ I h) fun us s1 ⟨vs,H1,I1,r1,q1⟩=>?_) (by rw [hs,hs2]) (by rw [hs2]; rfl)))
 obtain ⟨l1,l2,e,q⟩:=q1
 subst e
 obtain ⟨u,v,rfl,ru,rv⟩:=qH r1
 cases ru
 cases rv
 have fin:∀b∈[s1.heap.objs.size+4,s1.heap.objs.size+2,s1.heap.objs.size+3,s1.heap.objs.size,s1.heap.objs.size+1],kU X pins H1 b:=fun b hb=>by
  have hb':s1.heap.objs.size<=b:=by
   simp only [List.mem_cons,List.not_mem_nil,or_false] at hb
   rcases hb with rfl | rfl | rfl | rfl | rfl <;> omega
  exact I1.fpOk hb' (I1.hok.fresh hb')
 rcases q with ⟨⟨xs,hx⟩,⟨ys,hy⟩,q⟩ | ⟨⟨xs,hx⟩,⟨ys,hy⟩,q⟩
 ·obtain ⟨its,rx,px,zx⟩:=I1.list hx
  obtain ⟨jts,ry,py,zy⟩:=I1.list hy
  obtain ⟨o1,n1,e1,_⟩:=id px
  obtain ⟨o2,n2,e2,_⟩:=id py
  refine call_zip_2 px.isList py.isList fun h' a1 a2 a3 a4 a5 a6 hk=>?_
  refine wpAny_pyIter_zip (s:={ s1 with heap:=h' }) a1 ?_
  have hk':∀b o,s1.heap.get? b=some o->h'.get? b=some o:=hk
  have I2:Inv X pins σ H1 { s1 with heap:=h' }:=I1.kept (t':=s1.toks) hk'
  exact ⟨_,_,_,_,H1,rfl,I2,qJ l1 l2 _ _ _ _ _ (zipApart_new (Heap.lt_size e1) (Heap.lt_size e2)),⟨a1,a2,⟨_,_,a3⟩,a4,a5⟩,fin,q⟩
 ·obtain ⟨its,rx,px,zx⟩:=I1.tuple hx
  obtain ⟨jts,ry,py,zy⟩:=I1.tuple hy
  obtain ⟨o1,e1,_⟩:=id px
  obtain ⟨o2,e2,_⟩:=id py
  refine qa (xs:=its.toArray) (ys:=jts.toArray) px py fun h' a1 a2 a3 a4 a5 hk=>?_
  refine wpAny_pyIter_zip (s:={ s1 with heap:=h' }) a1 ?_
  have hk':∀b o,s1.heap.get? b=some o->h'.get? b=some o:=hk
  have I2:Inv X pins σ H1 { s1 with heap:=h' }:=I1.kept (t':=s1.toks) hk'
  exact ⟨_,_,_,_,H1,rfl,I2,ol l1 l2 _ _ _ _ _ (zipApart_new (Heap.lt_size e1) (Heap.lt_size e2)),⟨a1,a2,⟨_,_,a3⟩,a4,a5⟩,fin,q⟩
end
end L2
end

section
set_option Elab.async false
set_option linter.all false
set_option maxRecDepth 100000
namespace L2
open PySem PySem.Spec PyProof.Rows
open Sem (wp)
inductive DT where
 | k (a:Key)
 | t (l:List DT)
 | s (l:List DT)
mutual
def vd:(x y:DT)->Decidable (x=y)
 | .k a,.k b=>if h:a=b then Decidable.isTrue (by rw [h]) else Decidable.isFalse fun e=>h (by injection e)
 | .t l,.t m=>match decDTs l m with
  | Decidable.isTrue h=>Decidable.isTrue (by rw [h])
  | Decidable.isFalse h=>Decidable.isFalse fun e=>h (by injection e)
 | .s l,.s m=>match decDTs l m with
  | Decidable.isTrue h=>Decidable.isTrue (by rw [h])
  | Decidable.isFalse h=>Decidable.isFalse fun e=>h (by injection e)
 | .k _,.t _=>Decidable.isFalse nofun
 | .k _,.s _=>Decidable.isFalse nofun
 | .t _,.k _=>Decidable.isFalse nofun
 | .t _,.s _=>Decidable.isFalse nofun
 | .s _,.k _=>Decidable.isFalse nofun
 | .s _,.t _=>Decidable.isFalse nofun
def decDTs:(x y:List DT)->Decidable (x=y)
 | [],[]=>Decidable.isTrue rfl
 | [],_::_=>Decidable.isFalse nofun
 | _::_,[]=>Decidable.isFalse nofun
 | a::l,b::m=>match vd a b with
  | Decidable.isTrue h=>match decDTs l m with
   | Decidable.isTrue h'=>Decidable.isTrue (by rw [h,h'])
   | Decidable.isFalse h'=>Decidable.isFalse fun e=>h' (by injection e)
  | Decidable.isFalse h=>Decidable.isFalse fun e=>h (by injection e)
end
instance:DecidableEq DT:=vd
mutual
def DT.depth:DT->Nat
 | .k _=>0
 | .t l=>DT.depths l+1
 | .s l=>DT.depths l+1
def DT.depths:List DT->Nat
 | []=>0
 | a::r=>max (DT.depth a) (DT.depths r)
end
mutual
def DAt (h:Heap):DT->Value->Prop
 | .k a,v=>bf a v=true
 | .t l,v=>∃a items,v=.ref a/\h.IsTuple a items/\DAts h l items.toList
 | .s l,v=>∃a items,v=.ref a/\h.IsList a items/\DAts h l items.toList
def DAts (h:Heap):List DT->List Value->Prop
 | [],vs=>vs=[]
 | k::r,vs=>∃v us,vs=v::us/\DAt h k v/\DAts h r us
end
theorem DAts.length {h:Heap}:∀{xs:List DT}{vs:List Value},DAts h xs vs->xs.length=vs.length
 | [],vs,e=>by have e':vs=[]:=e; rw [e']; rfl
 | x::xs,vs,e=>by
  obtain ⟨v,us,rfl,_,h2⟩:=e
  simp [DAts.length h2]
theorem DAts.get {h:Heap}:∀{xs:List DT}{vs:List Value}{i:Nat}{v:Value},DAts h xs vs->vs[i]?=some v->∃x,xs[i]?=some x/\DAt h x v
 | [],vs,i,v,e,q=>by have e':vs=[]:=e; subst e'; simp at q
 | x::xs,vs,i,v,e,q=>by
  obtain ⟨u,us,rfl,h1,h2⟩:=e
  cases i with
  | zero =>
   simp at q; subst q
   exact ⟨x,rfl,h1⟩
  | succ i =>
   obtain ⟨y,e1,e2⟩:=DAts.get h2 (i:=i) (v:=v) (by simpa using q)
   exact ⟨y,by simpa using e1,e2⟩
theorem DT.depths_get {l:List DT}{x:DT}{i d:Nat}(h:DT.depths l<=d) (e:l[i]?=some x):x.depth<=d:=by
 induction l generalizing i with
 | nil=>simp at e
 | cons a r ih =>
  have h':max a.depth (DT.depths r)<=d:=h
  cases i with
  | zero=>simp at e; subst e; omega
  | succ i=>exact ih (by omega) (by simpa using e)
theorem nF {h:Heap}{a:Addr}{i j:Array Value}(x:h.IsList a i) (y:h.IsList a j):i=j:=by
 obtain ⟨o,ho,_,n,hd⟩:=x
 obtain ⟨o',ho',_,n',hd'⟩:=y
 rw [ho] at ho'; cases ho'
 rw [hd] at hd'; injection hd'
theorem lF {h:Heap}{a:Addr}{i j:Array Value}(x:h.IsTuple a i) (y:h.IsTuple a j):i=j:=by
 obtain ⟨o,ho,_,n,hd⟩:=x
 obtain ⟨o',ho',_,n',hd'⟩:=y
 rw [ho] at ho'; cases ho'
 rw [hd] at hd'; injection hd'
theorem db {h:Heap}{a:Addr}{i j:Array Value}(x:h.IsList a i) (y:h.IsTuple a j):False:=by
 obtain ⟨o,ho,hc,_⟩:=x
 obtain ⟨o',ho',hc',_⟩:=y
 rw [ho] at ho'; cases ho'
 rw [hc] at hc'; simp at hc'
theorem kz {a b:Key}{v:Value}(h1:bf a v=true) (h2:bf b v=true):a=b:=by
 rcases ak h1 with ⟨i,t,rfl,rfl⟩ | ⟨i,t,rfl,rfl⟩
 ·rcases ak h2 with ⟨j,u,rfl,e⟩ | ⟨j,u,rfl,e⟩
  ·cases e; rfl
  ·cases e
 ·rcases ak h2 with ⟨j,u,rfl,e⟩ | ⟨j,u,rfl,e⟩
  ·cases e
  ·cases e; rfl
theorem cK {a:Key}{b:Addr}(h:bf a (.ref b)=true):False:=by
 rcases ak h with ⟨_,_,_,e⟩ | ⟨_,_,_,e⟩ <;> cases e
theorem DAt.inj {h:Heap}:∀(d:Nat) {x y:DT}{v:Value},x.depth<=d->DAt h x v->DAt h y v->x=y:=by
 have key:∀(d:Nat) (ih:∀{x y:DT}{v:Value},x.depth<=d->DAt h x v->DAt h y v->x=y) (xs ys:List DT) (vs:List Value),DT.depths xs<=d->DAts h xs vs->DAts h ys vs->xs=ys:=by
  intro d ih xs
  induction xs with
  | nil =>
   intro ys vs _ hx hy
   have hx':vs=[]:=hx
   subst hx'
   cases ys with
   | nil=>rfl
   | cons y ys=>obtain ⟨_,_,e,_⟩:=hy; cases e
  | cons x xs ihl =>
   intro ys vs hd hx hy
   obtain ⟨v,us,rfl,hx1,hx2⟩:=hx
   cases ys with
   | nil=>have hy':v::us=[]:=hy; cases hy'
   | cons y ys =>
    obtain ⟨v',us',e,hy1,hy2⟩:=hy
    cases e
    have hd':max x.depth (DT.depths xs)<=d:=hd
    rw [ih (by omega) hx1 hy1,ihl ys us (by omega) hx2 hy2]
 intro d
 induction d with
 | zero =>
  intro x y v hd hx hy
  cases x with
  | t l=>exact absurd hd (by show ¬(DT.depths l+1<=0); omega)
  | s l=>exact absurd hd (by show ¬(DT.depths l+1<=0); omega)
  | k a =>
   cases y with
   | k b=>rw [kz hx hy]
   | t l=>obtain ⟨b,_,rfl,_⟩:=hy; exact (cK hx).elim
   | s l=>obtain ⟨b,_,rfl,_⟩:=hy; exact (cK hx).elim
 | succ d ih =>
  intro x y v hd hx hy
  cases x with
  | k a =>
   cases y with
   | k b=>rw [kz hx hy]
   | t l=>obtain ⟨b,_,rfl,_⟩:=hy; exact (cK hx).elim
   | s l=>obtain ⟨b,_,rfl,_⟩:=hy; exact (cK hx).elim
  | t l =>
   obtain ⟨a,i,rfl,hi,hx⟩:=hx
   cases y with
   | k b=>exact (cK hy).elim
   | t m =>
    obtain ⟨a',j,e,hj,hy⟩:=hy
    cases e
    rw [lF hj hi] at hy
    rw [key d (fun h1=>ih h1) l m i.toList (by have:DT.depths l+1<=d+1:=hd; omega) hx hy]
   | s m =>
    obtain ⟨a',j,e,hj,hy⟩:=hy
    cases e
    exact (db hj hi).elim
  | s l =>
   obtain ⟨a,i,rfl,hi,hx⟩:=hx
   cases y with
   | k b=>exact (cK hy).elim
   | s m =>
    obtain ⟨a',j,e,hj,hy⟩:=hy
    cases e
    rw [nF hj hi] at hy
    rw [key d (fun h1=>ih h1) l m i.toList (by have:DT.depths l+1<=d+1:=hd; omega) hx hy]
   | t m =>
    obtain ⟨a',j,e,hj,hy⟩:=hy
    cases e
    exact (db hi hj).elim
theorem bH {l m:List DT}(hl:l.length=m.length):((List.range l.length).all fun j=>decide (l[j]?=m[j]?))=decide (l=m):=by
 by_cases e:l=m
 ·subst e; simp
 ·rw [decide_eq_false e]
  rw [List.all_eq_false]
  apply Classical.byContradiction
  intro h
  apply e
  apply List.ext_getElem?
  intro i
  by_cases hi:i<l.length
  ·apply Classical.byContradiction
   intro hne
   exact h ⟨i,List.mem_range.mpr hi,by simpa using hne⟩
  ·rw [List.getElem?_eq_none (by omega),List.getElem?_eq_none (by omega)]
section
variable {s:Shared}
theorem u_:∀(d:Nat) {A:Around}{x y:DT}{u v:Value},x.depth<=d->y.depth<=d->A.units+d<cLine->DAt s.heap x u->DAt s.heap y v->SeqAt.EqAt A s u v (decide (x=y)):=by
 have leaves:∀{A:Around}{a b:Key}{u v:Value},bf a u=true->bf b v=true->SeqAt.EqAt A s u v (decide (DT.k a=DT.k b)):=by
  intro A a b u v h1 h2
  have hd:decide (DT.k a=DT.k b)=decide (a=b):=by
   by_cases e:a=b
   ·subst e; simp
   ·have:¬(DT.k a=DT.k b):=fun z=>e (by injection z)
    rw [decide_eq_false this,decide_eq_false e]
  rw [hd]
  rcases ak h1 with ⟨i,t,rfl,rfl⟩ | ⟨i,t,rfl,rfl⟩
  ·rcases ak h2 with ⟨j,u,rfl,rfl⟩ | ⟨j,u,rfl,rfl⟩
   ·rw [my]; exact SeqAt.EqAt.int_int i t j u
   ·rw [mx]; exact SeqAt.EqAt.int_str i t j u
  ·rcases ak h2 with ⟨j,u,rfl,rfl⟩ | ⟨j,u,rfl,rfl⟩
   ·rw [mw]; exact SeqAt.EqAt.str_int i t j u
   ·rw [mv]
    have:=SeqAt.EqAt.str_str (A:=A) (s:=s) i t j u
    rwa [show (i == j)=decide (i=j) from by by_cases e:i=j <;> simp [e]] at this
 have kt:∀{A:Around}{a:Key}{u:Value}{b:Addr}{items:Array Value},A.units<cLine->bf a u=true->s.heap.IsTuple b items->SeqAt.EqAt A s u (.ref b) false/\SeqAt.EqAt A s (.ref b) u false:=by
  intro A a u b items hu h1 ht
  rcases ak h1 with ⟨i,t,rfl,rfl⟩ | ⟨i,t,rfl,rfl⟩
  ·exact ⟨SeqAt.EqAt.int_tuple i t ht hu,SeqAt.EqAt.tuple_int i t ht hu⟩
  ·exact ⟨SeqAt.EqAt.str_tuple i t ht hu,SeqAt.EqAt.tuple_str i t ht hu⟩
 have kl:∀{A:Around}{a:Key}{u:Value}{b:Addr}{items:Array Value},A.units<cLine->bf a u=true->s.heap.IsList b items->SeqAt.EqAt A s u (.ref b) false/\SeqAt.EqAt A s (.ref b) u false:=by
  intro A a u b items hu h1 ht
  rcases ak h1 with ⟨i,t,rfl,rfl⟩ | ⟨i,t,rfl,rfl⟩
  ·exact ⟨SeqAt.EqAt.int_list i t ht hu,SeqAt.EqAt.list_int i t ht hu⟩
  ·exact ⟨SeqAt.EqAt.str_list i t ht hu,SeqAt.EqAt.list_str i t ht hu⟩
 intro d
 induction d with
 | zero =>
  intro A x y u v hdx hdy hu hx hy
  cases x with
  | t l=>exact absurd hdx (by show ¬(DT.depths l+1<=0); omega)
  | s l=>exact absurd hdx (by show ¬(DT.depths l+1<=0); omega)
  | k a =>
   cases y with
   | t l=>exact absurd hdy (by show ¬(DT.depths l+1<=0); omega)
   | s l=>exact absurd hdy (by show ¬(DT.depths l+1<=0); omega)
   | k b=>exact leaves hx hy
 | succ d ih =>
  intro A x y u v hdx hdy hu hx hy
  have items:∀{l m:List DT}{i j:Array Value},DT.depths l<=d->DT.depths m<=d->DAts s.heap l i.toList->DAts s.heap m j.toList->∀n (h1:n<i.size) (h2:n<j.size),SeqAt.EqAt A.in1 s i[n] j[n] (decide (l[n]?=m[n]?)):=by
   intro l m i j hl hm hi hj n h1 h2
   obtain ⟨x,ex,hx⟩:=hi.get (i:=n) (v:=i[n]) (by simp [h1])
   obtain ⟨y,ey,hy⟩:=hj.get (i:=n) (v:=j[n]) (by simp [h2])
   rw [ex,ey]
   have hd:decide ((some x:Option DT)=some y)=decide (x=y):=by
    by_cases e:x=y
    ·subst e; simp
    ·rw [decide_eq_false e,decide_eq_false fun z=>e (Option.some.inj z)]
   rw [hd]
   exact ih (DT.depths_get hl ex) (DT.depths_get hm ey) (by show A.units+1+d<cLine; omega) hx hy
  cases x with
  | k a =>
   cases y with
   | k b=>exact leaves hx hy
   | t l =>
    obtain ⟨b,i,rfl,hi,_⟩:=hy
    rw [decide_eq_false (by intro z; cases z)]
    exact (kt (by omega) hx hi).1
   | s l =>
    obtain ⟨b,i,rfl,hi,_⟩:=hy
    rw [decide_eq_false (by intro z; cases z)]
    exact (kl (by omega) hx hi).1
  | t l =>
   have hl:DT.depths l<=d:=by have:DT.depths l+1<=d+1:=hdx; omega
   have hx0:=hx
   obtain ⟨a,i,rfl,hi,hx⟩:=hx
   cases y with
   | k b =>
    rw [decide_eq_false (by intro z; cases z)]
    exact (kt (by omega) hy hi).2
   | s m =>
    obtain ⟨b,j,rfl,hj,_⟩:=hy
    rw [decide_eq_false (by intro z; cases z)]
    exact SeqAt.EqAt.tuple_list hi hj (by omega)
   | t m =>
    have hm:DT.depths m<=d:=by have:DT.depths m+1<=d+1:=hdy; omega
    have hy0:=hy
    obtain ⟨b,j,rfl,hj,hy⟩:=hy
    by_cases hab:a=b
    ·subst hab
     have e:DT.t l=DT.t m:=DAt.inj _ (Nat.le_refl _) hx0 hy0
     rw [decide_eq_true e]
     exact SeqAt.EqAt.same _
    ·have r:=SeqAt.RcAt.tuples (A:=A) hi hj (by omega) (items hl hm hx hy)
     have li:=hx.length
     have lj:=hy.length
     simp only [Array.length_toList] at li lj
     have q:((List.range (min i.size j.size)).all (fun n=>decide (l[n]?=m[n]?)) && i.size == j.size)=decide (DT.t l=DT.t m):=by
      by_cases e:l.length=m.length
      ·have e1:i.size=j.size:=by omega
       rw [<-e1,Nat.min_self,<-li,bH e]
       by_cases e2:l=m
       ·subst e2; simp
       ·have:¬(DT.t l=DT.t m):=fun z=>e2 (by injection z)
        rw [decide_eq_false this,decide_eq_false e2]; rfl
      ·have e1:(i.size == j.size)=false:=by simp; omega
       have:¬(DT.t l=DT.t m):=fun z=>e (by injection z with z; rw [z])
       rw [e1,decide_eq_false this,Bool.and_false]
     rw [q] at r
     exact .of_refs hab r
  | s l =>
   have hl:DT.depths l<=d:=by have:DT.depths l+1<=d+1:=hdx; omega
   have hx0:=hx
   obtain ⟨a,i,rfl,hi,hx⟩:=hx
   cases y with
   | k b =>
    rw [decide_eq_false (by intro z; cases z)]
    exact (kl (by omega) hy hi).2
   | t m =>
    obtain ⟨b,j,rfl,hj,_⟩:=hy
    rw [decide_eq_false (by intro z; cases z)]
    exact SeqAt.EqAt.list_tuple hi hj (by omega)
   | s m =>
    have hm:DT.depths m<=d:=by have:DT.depths m+1<=d+1:=hdy; omega
    have hy0:=hy
    obtain ⟨b,j,rfl,hj,hy⟩:=hy
    by_cases hab:a=b
    ·subst hab
     have e:DT.s l=DT.s m:=DAt.inj _ (Nat.le_refl _) hx0 hy0
     rw [decide_eq_true e]
     exact SeqAt.EqAt.same _
    ·have li:=hx.length
     have lj:=hy.length
     simp only [Array.length_toList] at li lj
     by_cases e:l.length=m.length
     ·have r:=SeqAt.RcAt.lists (A:=A) hi hj (by omega) (by omega) (items hl hm hx hy)
      rw [<-li,bH e] at r
      have q:decide (l=m)=decide (DT.s l=DT.s m):=by
       by_cases e2:l=m
       ·subst e2; simp
       ·have:¬(DT.s l=DT.s m):=fun z=>e2 (by injection z)
        rw [decide_eq_false this,decide_eq_false e2]
      rw [q] at r
      exact .of_refs hab r
     ·have:¬(DT.s l=DT.s m):=fun z=>e (by injection z with z; rw [z])
      rw [decide_eq_false this]
      exact .of_refs hab (SeqAt.RcAt.lists_lengths hi hj (by simp; omega) (by omega))
end
end L2
end

section
set_option Elab.async false
set_option linter.all false
set_option maxRecDepth 100000
namespace L2
open PySem PySem.Spec PyProof.Rows
open Sem (wp)
theorem rX (a b:Key):decide (DT.k a=DT.k b)=decide (a=b):=by
 by_cases e:a=b
 ·subst e; simp
 ·rw [decide_eq_false e,decide_eq_false fun z=>e (by injection z)]
theorem va (l m:List DT):decide (DT.t l=DT.t m)=decide (l=m):=by
 by_cases e:l=m
 ·subst e; simp
 ·rw [decide_eq_false e,decide_eq_false fun z=>e (by injection z)]
theorem vb (l m:List DT):decide (DT.s l=DT.s m)=decide (l=m):=by
 by_cases e:l=m
 ·subst e; simp
 ·rw [decide_eq_false e,decide_eq_false fun z=>e (by injection z)]
theorem rW (x y:DT):decide ((some x:Option DT)=some y)=decide (x=y):=by
 by_cases e:x=y
 ·subst e; simp
 ·rw [decide_eq_false e,decide_eq_false fun z=>e (Option.some.inj z)]
section
variable {A:Around}{s:Shared}
theorem gD {d:Nat}(hu:A.units+1+d<cLine) {l m:List DT}{i j:Array Value}(hl:DT.depths l<=d) (hm:DT.depths m<=d) (hi:DAts s.heap l i.toList) (hj:DAts s.heap m j.toList) :
  ∀n (h1:n<i.size) (h2:n<j.size),SeqAt.EqAt A.in1 s i[n] j[n] (decide (l[n]?=m[n]?)):=by
 intro n h1 h2
 obtain ⟨x,ex,hx⟩:=hi.get (i:=n) (v:=i[n]) (by simp [h1])
 obtain ⟨y,ey,hy⟩:=hj.get (i:=n) (v:=j[n]) (by simp [h2])
 rw [ex,ey,rW]
 exact u_ d (DT.depths_get hl ex) (DT.depths_get hm ey) hu hx hy
theorem oo {l m:List DT}{i j:Array Value}(hi:DAts s.heap l i.toList) (hj:DAts s.heap m j.toList):((List.range (min i.size j.size)).all (fun n=>decide (l[n]?=m[n]?)) && i.size == j.size)=decide (l=m):=by
 have li:=hi.length
 have lj:=hj.length
 simp only [Array.length_toList] at li lj
 by_cases e:l.length=m.length
 ·have e1:i.size=j.size:=by omega
  rw [<-e1,Nat.min_self,<-li,bH e]
  simp
 ·have e1:(i.size == j.size)=false:=by simp; omega
  rw [e1,decide_eq_false fun z=>e (by rw [z]),Bool.and_false]
theorem vM {x y:DT}{u v:Value}(dx:x.depth<=8) (dy:y.depth<=8) (hu:A.units+16<cLine) (hx:DAt s.heap x u) (hy:DAt s.heap y v):SeqAt.RcAt A s u v (decide (x=y)):=by
 cases x with
 | k a =>
  rcases ak (show bf a u=true from hx) with ⟨i,t,rfl,rfl⟩ | ⟨i,t,rfl,rfl⟩
  ·cases y with
   | k b =>
    rw [rX]
    rcases ak (show bf b v=true from hy) with ⟨j,t',rfl,rfl⟩ | ⟨j,t',rfl,rfl⟩
    ·rw [my]; exact SeqAt.RcAt.int_int i t j t'
    ·rw [mx]; exact SeqAt.RcAt.int_str i t j t'
   | t m=>obtain ⟨b,j,rfl,hj,_⟩:=hy; rw [decide_eq_false (by intro z; cases z)]; exact SeqAt.RcAt.int_tuple i t hj (by omega)
   | s m=>obtain ⟨b,j,rfl,hj,_⟩:=hy; rw [decide_eq_false (by intro z; cases z)]; exact SeqAt.RcAt.int_list i t hj (by omega)
  ·cases y with
   | k b =>
    rw [rX]
    rcases ak (show bf b v=true from hy) with ⟨j,t',rfl,rfl⟩ | ⟨j,t',rfl,rfl⟩
    ·rw [mw]; exact SeqAt.RcAt.str_int i t j t'
    ·rw [mv]
     have:=SeqAt.RcAt.str_str (A:=A) (s:=s) i t j t'
     rwa [show (i == j)=decide (i=j) from by by_cases e:i=j <;> simp [e]] at this
   | t m=>obtain ⟨b,j,rfl,hj,_⟩:=hy; rw [decide_eq_false (by intro z; cases z)]; exact SeqAt.RcAt.str_tuple i t hj (by omega)
   | s m=>obtain ⟨b,j,rfl,hj,_⟩:=hy; rw [decide_eq_false (by intro z; cases z)]; exact SeqAt.RcAt.str_list i t hj (by omega)
 | t l =>
  obtain ⟨a,i,rfl,hi,hx⟩:=hx
  have dl:DT.depths l<=7:=by have:DT.depths l+1<=8:=dx; omega
  cases y with
  | k b =>
   rw [decide_eq_false (by intro z; cases z)]
   rcases ak (show bf b v=true from hy) with ⟨j,t',rfl,rfl⟩ | ⟨j,t',rfl,rfl⟩
   ·exact SeqAt.RcAt.tuple_int j t' hi (by omega)
   ·exact SeqAt.RcAt.tuple_str j t' hi (by omega)
  | t m =>
   obtain ⟨b,j,rfl,hj,hy⟩:=hy
   have dm:DT.depths m<=7:=by have:DT.depths m+1<=8:=dy; omega
   have r:=SeqAt.RcAt.tuples (A:=A) hi hj (by omega) (gD (by omega) dl dm hx hy)
   rw [oo hx hy] at r
   rw [va]; exact r
  | s m=>obtain ⟨b,j,rfl,hj,_⟩:=hy; rw [decide_eq_false (by intro z; cases z)]; exact SeqAt.RcAt.tuple_list hi hj (by omega)
 | s l =>
  obtain ⟨a,i,rfl,hi,hx⟩:=hx
  have dl:DT.depths l<=7:=by have:DT.depths l+1<=8:=dx; omega
  cases y with
  | k b =>
   rw [decide_eq_false (by intro z; cases z)]
   rcases ak (show bf b v=true from hy) with ⟨j,t',rfl,rfl⟩ | ⟨j,t',rfl,rfl⟩
   ·exact SeqAt.RcAt.list_int j t' hi (by omega)
   ·exact SeqAt.RcAt.list_str j t' hi (by omega)
  | t m=>obtain ⟨b,j,rfl,hj,_⟩:=hy; rw [decide_eq_false (by intro z; cases z)]; exact SeqAt.RcAt.list_tuple hi hj (by omega)
  | s m =>
   obtain ⟨b,j,rfl,hj,hy⟩:=hy
   have dm:DT.depths m<=7:=by have:DT.depths m+1<=8:=dy; omega
   have li:=hx.length
   have lj:=hy.length
   simp only [Array.length_toList] at li lj
   rw [vb]
   by_cases e:l.length=m.length
   ·have r:=SeqAt.RcAt.lists (A:=A) hi hj (by omega) (by omega) (gD (by omega) dl dm hx hy)
    rw [<-li,bH e] at r
    exact r
   ·rw [decide_eq_false fun z=>e (by rw [z])]
    exact SeqAt.RcAt.lists_lengths hi hj (by simp; omega) (by omega)
theorem vN {x y:DT}{u v:Value}(dx:x.depth<=8) (dy:y.depth<=8) (hu:A.units+16<cLine) (hx:DAt s.heap x u) (hy:DAt s.heap y v):SeqAt.RcNeAt A s u v (!decide (x=y)):=by
 cases x with
 | k a =>
  rcases ak (show bf a u=true from hx) with ⟨i,t,rfl,rfl⟩ | ⟨i,t,rfl,rfl⟩
  ·cases y with
   | k b =>
    rw [rX]
    rcases ak (show bf b v=true from hy) with ⟨j,t',rfl,rfl⟩ | ⟨j,t',rfl,rfl⟩
    ·rw [my]; exact SeqAt.RcNeAt.int_int i t j t'
    ·rw [mx]; exact SeqAt.RcNeAt.int_str i t j t'
   | t m=>obtain ⟨b,j,rfl,hj,_⟩:=hy; rw [decide_eq_false (by intro z; cases z)]; exact SeqAt.RcNeAt.int_tuple i t hj (by omega)
   | s m=>obtain ⟨b,j,rfl,hj,_⟩:=hy; rw [decide_eq_false (by intro z; cases z)]; exact SeqAt.RcNeAt.int_list i t hj (by omega)
  ·cases y with
   | k b =>
    rw [rX]
    rcases ak (show bf b v=true from hy) with ⟨j,t',rfl,rfl⟩ | ⟨j,t',rfl,rfl⟩
    ·rw [mw]; exact SeqAt.RcNeAt.str_int i t j t'
    ·rw [mv]
     have:=SeqAt.RcNeAt.str_str (A:=A) (s:=s) i t j t'
     rwa [show (i == j)=decide (i=j) from by by_cases e:i=j <;> simp [e]] at this
   | t m=>obtain ⟨b,j,rfl,hj,_⟩:=hy; rw [decide_eq_false (by intro z; cases z)]; exact SeqAt.RcNeAt.str_tuple i t hj (by omega)
   | s m=>obtain ⟨b,j,rfl,hj,_⟩:=hy; rw [decide_eq_false (by intro z; cases z)]; exact SeqAt.RcNeAt.str_list i t hj (by omega)
 | t l =>
  obtain ⟨a,i,rfl,hi,hx⟩:=hx
  have dl:DT.depths l<=7:=by have:DT.depths l+1<=8:=dx; omega
  cases y with
  | k b =>
   rw [decide_eq_false (by intro z; cases z)]
   rcases ak (show bf b v=true from hy) with ⟨j,t',rfl,rfl⟩ | ⟨j,t',rfl,rfl⟩
   ·exact SeqAt.RcNeAt.tuple_int j t' hi (by omega)
   ·exact SeqAt.RcNeAt.tuple_str j t' hi (by omega)
  | t m =>
   obtain ⟨b,j,rfl,hj,hy⟩:=hy
   have dm:DT.depths m<=7:=by have:DT.depths m+1<=8:=dy; omega
   have r:=SeqAt.RcNeAt.tuples (A:=A) hi hj (by omega) (gD (by omega) dl dm hx hy)
   rw [oo hx hy] at r
   rw [va]; exact r
  | s m=>obtain ⟨b,j,rfl,hj,_⟩:=hy; rw [decide_eq_false (by intro z; cases z)]; exact SeqAt.RcNeAt.tuple_list hi hj (by omega)
 | s l =>
  obtain ⟨a,i,rfl,hi,hx⟩:=hx
  have dl:DT.depths l<=7:=by have:DT.depths l+1<=8:=dx; omega
  cases y with
  | k b =>
   rw [decide_eq_false (by intro z; cases z)]
   rcases ak (show bf b v=true from hy) with ⟨j,t',rfl,rfl⟩ | ⟨j,t',rfl,rfl⟩
   ·exact SeqAt.RcNeAt.list_int j t' hi (by omega)
   ·exact SeqAt.RcNeAt.list_str j t' hi (by omega)
  | t m=>obtain ⟨b,j,rfl,hj,_⟩:=hy; rw [decide_eq_false (by intro z; cases z)]; exact SeqAt.RcNeAt.list_tuple hi hj (by omega)
  | s m =>
   obtain ⟨b,j,rfl,hj,hy⟩:=hy
   have dm:DT.depths m<=7:=by have:DT.depths m+1<=8:=dy; omega
   have li:=hx.length
   have lj:=hy.length
   simp only [Array.length_toList] at li lj
   rw [vb]
   by_cases e:l.length=m.length
   ·have r:=SeqAt.RcNeAt.lists (A:=A) hi hj (by omega) (by omega) (gD (by omega) dl dm hx hy)
    rw [<-li,bH e] at r
    exact r
   ·rw [decide_eq_false fun z=>e (by rw [z])]
    exact SeqAt.RcNeAt.lists_lengths hi hj (by simp; omega) (by omega)
end
mutual
def DIn (K:PySem.W.Frag) (H:Hp):DT->V->Prop
 | .k a,v=>v=kV a
 | .t l,v=>∃b xs,v=.ref b/\SqT K H b xs/\DIns K H l xs
 | .s l,v=>∃b xs,v=.ref b/\SqL K H b xs/\DIns K H l xs
def DIns (K:PySem.W.Frag) (H:Hp):List DT->List V->Prop
 | [],vs=>vs=[]
 | k::r,vs=>∃v us,vs=v::us/\DIn K H k v/\DIns K H r us
end
section
variable {X:Cx}{pins:List (Addr×Obj)}{σ:St}{H:Hp}{s:Shared}
theorem ii (I:Inv X pins σ H s):∀(d:Nat) {k:DT}{v:V}{u:Value},k.depth<=d->DIn X.K H k v->RelV v u->DAt s.heap k u:=by
 have key:∀(d:Nat) (ih:∀{k:DT}{v:V}{u:Value},k.depth<=d->DIn X.K H k v->RelV v u->DAt s.heap k u) (ks:List DT) (vs:List V) (us:List Value),DT.depths ks<=d->DIns X.K H ks vs->Vals vs us->DAts s.heap ks us:=by
  intro d ih ks
  induction ks with
  | nil =>
   intro vs us _ hx r
   have e:vs=[]:=hx
   subst e
   cases r
   rfl
  | cons k ks ihl =>
   intro vs us hd hx r
   obtain ⟨v,vs',rfl,h1,h2⟩:=hx
   cases r with
   | @cons _ u _ us' r1 r2 =>
    have hd':max k.depth (DT.depths ks)<=d:=hd
    exact ⟨u,us',rfl,ih (by omega) h1 r1,ihl vs' us' (by omega) h2 r2⟩
 intro d
 induction d with
 | zero =>
  intro k v u hd hx r
  cases k with
  | t l=>exact absurd hd (by show ¬(DT.depths l+1<=0); omega)
  | s l=>exact absurd hd (by show ¬(DT.depths l+1<=0); omega)
  | k b =>
   have e:v=kV b:=hx
   subst e
   exact gq (P:=X.prog) (w:=X.w) r
 | succ d ih =>
  intro k v u hd hx r
  cases k with
  | k b =>
   have e:v=kV b:=hx
   subst e
   exact gq (P:=X.prog) (w:=X.w) r
  | t l =>
   obtain ⟨b,xs,rfl,hb,hi⟩:=hx
   cases (show u=Value.ref b from r)
   obtain ⟨its,rv,ht,_⟩:=I.tuple hb
   exact ⟨b,its.toArray,rfl,ht,by simpa using key d (fun h1=>ih h1) l xs its (by have:DT.depths l+1<=d+1:=hd; omega) hi rv⟩
  | s l =>
   obtain ⟨b,xs,rfl,hb,hi⟩:=hx
   cases (show u=Value.ref b from r)
   obtain ⟨its,rv,ht,_⟩:=I.list hb
   exact ⟨b,its.toArray,rfl,ht.isList,by simpa using key d (fun h1=>ih h1) l xs its (by have:DT.depths l+1<=d+1:=hd; omega) hi rv⟩
theorem ig (I:Inv X pins σ H s):∀{ks:List DT}{vs:List V}{us:List Value},DT.depths ks<=8->DIns X.K H ks vs->Vals vs us->DAts s.heap ks us
 | [],vs,us,_,hx,r=>by
  have e:vs=[]:=hx
  subst e
  cases r
  rfl
 | k::ks,vs,us,hd,hx,r=>by
  obtain ⟨v,vs',rfl,h1,h2⟩:=hx
  cases r with
  | @cons _ u _ us' r1 r2 =>
   have hd':max k.depth (DT.depths ks)<=8:=hd
   exact ⟨u,us',rfl,ii I 8 (by omega) h1 r1,ig I (by omega) h2 r2⟩
end
def oW (K:PySem.W.Frag):R2:=fun x y H Q=>∃d e:DT,DIn K H d x/\DIn K H e y/\d.depth<=8/\e.depth<=8/\Q (.bl (decide (d=e))) H
def uG (K:PySem.W.Frag):R2:=fun x y H Q=>∃d e:DT,DIn K H d x/\DIn K H e y/\d.depth<=8/\e.depth<=8/\Q (.bl (!decide (d=e))) H
section
variable {X:Cx}
theorem da (hu:X.A.units+16<cLine):OpR X (compareOp .Eq) (oW X.K):=by
 intro pins s σ H x y v u Q I rx ry h
 obtain ⟨d,e,hx,hy,dx,dy,q⟩:=h
 exact vM dx dy hu (ii I 8 dx hx rx) (ii I 8 dy hy ry) X.prog X.w X.xe _ ⟨.bl _,H,I,rfl,q⟩
theorem ph (hu:X.A.units+16<cLine):OpR X (compareOp .NotEq) (uG X.K):=by
 intro pins s σ H x y v u Q I rx ry h
 obtain ⟨d,e,hx,hy,dx,dy,q⟩:=h
 exact vN dx dy hu (ii I 8 dx hx rx) (ii I 8 dy hy ry) X.prog X.w X.xe _ ⟨.bl _,H,I,rfl,q⟩
def sA (K:PySem.W.Frag) (neg:Bool):R2:=fun x y H Q=>∃(d:DT) (ds:List DT) (p:Addr) (xs:List V),DIn K H d x/\y=.ref p/\(SqL K H p xs∨SqT K H p xs)/\DIns K H ds xs/\d.depth<=8/\DT.depths ds<=8/\Q (.bl (if neg then !decide (d∈ds) else decide (d∈ds))) H
open Classical in
theorem io {h:Heap}{d:DT}(d8:d.depth<=8):∀{ds:List DT}{us:List Value},DAts h ds us->DT.depths ds<=8->us.any (fun u=>@decide (DAt h d u) (propDecidable _))=decide (d∈ds)
 | [],us,e,_=>by
  have e':us=[]:=e
  subst e'
  rfl
 | x::ds,us,e,hd=>by
  obtain ⟨u,us',rfl,h1,h2⟩:=e
  have hd':max x.depth (DT.depths ds)<=8:=hd
  rw [List.any_cons,io d8 h2 (by omega)]
  by_cases q:d=x
  ·subst q
   simp [h1]
  ·have n:¬DAt h d u:=fun z=>q (DAt.inj 8 d8 z h1)
   simp [n,q]
open Classical in
theorem kq {A:Around}{s:Shared}{d:DT}{v:Value}(d8:d.depth<=8) (hu:A.units+8<cLine) (hd:DAt s.heap d v):∀{ds:List DT}{us:List Value},DAts s.heap ds us->DT.depths ds<=8->∀u∈us,SeqAt.EqAt A s u v (@decide (DAt s.heap d u) (propDecidable _))
 | [],us,e,_,u,hm=>by
  have e':us=[]:=e
  subst e'
  cases hm
 | x::ds,us,e,h8,u,hm=>by
  obtain ⟨u',us',rfl,h1,h2⟩:=e
  have h8':max x.depth (DT.depths ds)<=8:=h8
  rcases List.mem_cons.mp hm with rfl | hm
  ·have q:=u_ 8 (A:=A) (by omega) d8 hu h1 hd
   by_cases z:x=d
   ·subst z
    rw [decide_eq_true h1]
    rwa [decide_eq_true rfl] at q
   ·have n:¬DAt s.heap d u:=fun w=>z (DAt.inj 8 d8 w h1).symm
    rw [decide_eq_false n]
    rwa [decide_eq_false z] at q
  ·exact kq d8 hu hd h2 (by omega) u hm
theorem sE (hu:X.A.units+16<cLine):OpR X (compareOp .In) (sA X.K false):=by
 intro pins s σ H x y v u Q I rx ry h
 obtain ⟨d,ds,p,xs,hx,rfl,hq,hds,d8,ds8,q⟩:=h
 cases ry
 have hd:=ii I 8 d8 hx rx
 have hu':X.A.in1.units+8<cLine:=by show X.A.units+1+8<cLine; omega
 rcases hq with hq | hq
 ·obtain ⟨its,r,pl,hz⟩:=I.list hq
  have hi:=ig I ds8 hds r
  refine SeqAt.in_listAt _ pl.isList (fun w hw=>kq d8 hu' hd hi ds8 w (by simpa using hw)) ⟨.bl _,H,I,rfl,?_⟩
  rw [List.any_toArray,io d8 hi ds8]
  exact q
 ·obtain ⟨its,r,pl,hz⟩:=I.tuple hq
  have hi:=ig I ds8 hds r
  refine SeqAt.in_tupleAt _ pl (fun w hw=>kq d8 hu' hd hi ds8 w (by simpa using hw)) ⟨.bl _,H,I,rfl,?_⟩
  rw [List.any_toArray,io d8 hi ds8]
  exact q
theorem hJ (hu:X.A.units+16<cLine):OpR X (compareOp .NotIn) (sA X.K true):=by
 intro pins s σ H x y v u Q I rx ry h
 obtain ⟨d,ds,p,xs,hx,rfl,hq,hds,d8,ds8,q⟩:=h
 cases ry
 have hd:=ii I 8 d8 hx rx
 have hu':X.A.in1.units+8<cLine:=by show X.A.units+1+8<cLine; omega
 rcases hq with hq | hq
 ·obtain ⟨its,r,pl,hz⟩:=I.list hq
  have hi:=ig I ds8 hds r
  refine SeqAt.notIn_listAt _ pl.isList (fun w hw=>kq d8 hu' hd hi ds8 w (by simpa using hw)) ⟨.bl _,H,I,rfl,?_⟩
  rw [List.any_toArray,io d8 hi ds8]
  exact q
 ·obtain ⟨its,r,pl,hz⟩:=I.tuple hq
  have hi:=ig I ds8 hds r
  refine SeqAt.notIn_tupleAt _ pl (fun w hw=>kq d8 hu' hd hi ds8 w (by simpa using hw)) ⟨.bl _,H,I,rfl,?_⟩
  rw [List.any_toArray,io d8 hi ds8]
  exact q
end
end L2
end

section
set_option Elab.async false
set_option linter.all false
set_option maxRecDepth 100000
namespace L2
open PySem PySem.Spec PyProof.Rows
open Sem (wp)
def p_ (z:Str) (lo hi:Option Int):Str:=⟨((z.cps.toList.drop (HT.sIx z.length 0 lo)).take (HT.sIx z.length z.length hi-HT.sIx z.length 0 lo)).toArray⟩
theorem sliceRange_one (a b:Nat):sliceRange (a:Int) (b:Int) 1=(List.range (b-a)).map (fun k=>a+k):=by
 unfold sliceRange
 simp only [show (1:Int) > 0 from by decide,if_true]
 by_cases h:(a:Int)<(b:Int)
 ·have e:(if (a:Int)<(b:Int) then ((b:Int)-a+1-1) / 1 else 0).toNat=b-a:=by rw [if_pos h]; omega
  rw [e]
  exact List.map_congr_left fun k _=>by omega
 ·have e:(if (a:Int)<(b:Int) then ((b:Int)-a+1-1) / 1 else 0).toNat=b-a:=by rw [if_neg h]; omega
  rw [e]
  exact List.map_congr_left fun k _=>by omega
theorem mF (v:Option Int) (n d:Nat):(match v with | none=>(d:Int) | some i=>max 0 (min (if i<0 then i+(n:Int) else i) (n:Int)))=((HT.sIx n d v:Nat):Int):=by
 cases v with
 | none=>rfl
 | some i =>
  rw [<-HT.clip_eq i n d]
  dsimp only
  by_cases h:i<0
  ·rw [if_pos h,if_pos h]; omega
  ·rw [if_neg h,if_neg h]; omega
theorem fR (lo hi:Option Int) (n:Nat):Builtin.Str.strSliceIndices lo hi 1 n=(List.range (HT.sIx n n hi-HT.sIx n 0 lo)).map (fun k=>HT.sIx n 0 lo+k):=by
 have e1:=mF lo n 0
 have e2:=mF hi n n
 rw [<-sliceRange_one,<-e1,<-e2]
 unfold Builtin.Str.strSliceIndices
 simp only [show (1:Int) > 0 from by decide,if_true]
 cases lo <;> cases hi <;> rfl
theorem oJ (z:Str) (lo hi:Option Int):Txt.slice z lo hi=p_ z lo hi:=by
 have ha:HT.sIx z.length 0 lo<=z.length:=HT.sIx_le _ _ (Nat.zero_le _) _
 have hb:HT.sIx z.length z.length hi<=z.length:=HT.sIx_le _ _ (Nat.le_refl _) _
 have hlen:z.cps.toList.length=z.length:=by simp [Str.length]
 have pick:(Builtin.Str.strSliceIndices lo hi 1 z.length).filterMap (z.cps[·]?)=(z.cps.toList.drop (HT.sIx z.length 0 lo)).take (HT.sIx z.length z.length hi-HT.sIx z.length 0 lo):=by
  rw [fR]
  generalize HT.sIx z.length 0 lo=a at *
  generalize HT.sIx z.length z.length hi=b at *
  have h:=StrLaws.picks z.cps.toList (b-a) a (by omega)
  simpa using h
 unfold Txt.slice
 by_cases h:((1:Int) == 1 && (Builtin.Str.strSliceIndices lo hi 1 z.length).length == z.length)=true
 ·rw [if_pos h]
  have hl:(Builtin.Str.strSliceIndices lo hi 1 z.length).length=z.length:=by simpa using h
  rw [fR,List.length_map,List.length_range] at hl
  unfold p_
  have a0:HT.sIx z.length 0 lo=0:=by omega
  have bn:HT.sIx z.length z.length hi-HT.sIx z.length 0 lo=z.cps.toList.length:=by omega
  rw [bn,a0,List.drop_zero,List.take_length]
 ·rw [if_neg h]
  unfold p_
  rw [pick]
section
variable {X:Cx}
def vp:V->Option Int->Option Int->Hp->VK->Prop:=fun x lo hi H Q=>∃z,x=.str z/\z.length<=sizeLine/\Q (.str (p_ z lo hi)) H
theorem oK:SlR X vp:=by
 intro pins s σ H x v vl vu lo hi sl Q I rx hs pl pu h
 obtain ⟨z,rfl,hz,q⟩:=h
 obtain ⟨t,rfl⟩:=rx
 rw [<-oJ] at q
 refine ⟨"str",_,F.slot_str_getitem.lookup,typeIs_str _ _ _,?_⟩
 obtain ⟨o,ho,hc,hd⟩:=hs
 have fin:∀(l u:Option (Int×Tok)),vl=partValue l->vu=partValue u->lo=l.map (·.1)->hi=u.map (·.1)->wpAny (model X.prog X.w) X.A (getItem (.str z t) (.ref sl)) (EP X pins σ Q) X.xe s:=by
  rintro l u rfl rfl rfl rfl
  refine wpAny_getItem_str_slice (l:=l) (u:=u) (st:=none) ⟨o,ho,hc,hd⟩ rfl (post_val_or_str ⟨Nat.le_trans (Txt.slice_le z _ _) hz,fun t' k=>⟨.str _,H,I.tok _,⟨_,rfl⟩,q⟩⟩)
 cases pl with
 | none =>
  cases pu with
  | none=>exact fin none none rfl rfl rfl rfl
  | int j u=>exact fin none (some (j,u)) rfl rfl rfl rfl
 | int i t' =>
  cases pu with
  | none=>exact fin (some (i,t')) none rfl rfl rfl rfl
  | int j u=>exact fin (some (i,t')) (some (j,u)) rfl rfl rfl rfl
def uH (K:PySem.W.Frag):V->List V->Hp->VK->Prop:=fun x vs H Q=>∃z p ys,x=.str z/\vs=[.ref p]/\SqL K H p (ys.map V.str)/\(ys.map (·.length)).sum+ys.length * z.length<=16777216/\Q (.str (Txt.join z ys)) H
theorem tz {ys:List Str}:∀{us:List Value},Vals (ys.map V.str) us->StrsAre us ys:=by
 induction ys with
 | nil=>intro us r; cases r; exact .nil
 | cons y ys ih =>
  intro us r
  cases r with
  | cons r1 r2 =>
   obtain ⟨t,rfl⟩:=r1
   exact .cons _ _ (ih r2)
theorem t8:MtM X "str.join" (uH X.K):=by
 intro pins s σ H x vs v us Q I rx rv h
 obtain ⟨z,p,ys,rfl,rfl,hq,hz,q⟩:=h
 obtain ⟨t,rfl⟩:=rx
 obtain ⟨u,rfl,ru⟩:=rv.one
 cases ru
 obtain ⟨its,r,pl,_⟩:=I.list hq
 exact join_list pl.isList (by simpa using tz r) hz fun t' k=>⟨.str _,H,I.tok _,⟨_,rfl⟩,q⟩
end
end L2
end

section
set_option Elab.async false
set_option linter.all false
set_option maxRecDepth 100000
namespace L2
open PySem PySem.Spec PyProof.Rows
open Sem (wp)
section
variable {X:Cx}
def TyX (K:PySem.W.Frag) (H:Hp) (x:V) (t:Value):Prop:=TyOf K H x t∨(∃a xs,x=.ref a/\t=.type "tuple"/\SqT K H a xs)∨(∃a xs,x=.ref a/\t=.type "list"/\SqL K H a xs)
theorem nE {pins:List (Addr×Obj)}{σ:St}{H:Hp}{s:Shared}{A:Around}{E:Value->Shared->Prop}{Q:Value->Shared->Prop}{c:Value}{b:Bool}{x:V}{u t:Value}(I:Inv X pins σ H s) (rx:RelV x u) (ty:TyX X.K H x t) (e:PySem.W.kitOne X.K t c=some b) (h:∀tk,Q (.bool b) { s with toks:=tk }) :
  wpAny (model X.prog X.w) A (call (.builtin "isinstance") [u,c]) Q E s:=by
 rcases ty with ty | ⟨a,xs,rfl,rfl,q⟩ | ⟨a,xs,rfl,rfl,q⟩
 ·exact pJ I rx ty e h
 ·cases (show u=Value.ref a from rx)
  obtain ⟨its,rv,p,hz⟩:=I.tuple q
  obtain ⟨o,h1,h2,_⟩:=p
  exact PySem.W.kia_one PySem.W.kitx_tuple I.kIn ⟨o,h1,h2⟩ e (fun z=>nomatch z) h
 ·cases (show u=Value.ref a from rx)
  obtain ⟨its,rv,p,hz⟩:=I.list q
  obtain ⟨o,n,h1,h2,_⟩:=p
  exact PySem.W.kia_one PySem.W.kitx_list I.kIn ⟨o,h1,h2⟩ e (fun z=>nomatch z) h
theorem ay:CallR X (.builtin "isinstance") (fun xs H Q=>∃x c t b,xs=[x,.ty c]/\TyX X.K H x t/\PySem.W.kitOne X.K t (.type c)=some b/\Q (.bl b) H):=by
 intro pins s σ H xs us Q I r h
 obtain ⟨x,c,t,b,rfl,ty,hk,q⟩:=h
 obtain ⟨u,v,rfl,ru,rv⟩:=qH r
 cases (show v=Value.type c from rv)
 exact nE I ru ty hk fun tk=>⟨.bl b,H,I.tok _,rfl,q⟩
theorem qj {bs:List Bool}{us:List Value}(r:Vals (bs.map V.bl) us) {i:Nat}{v:Value}(h:us[i]?=some v):v=.bool ((bs[i]?).getD false)/\i<bs.length:=by
 have hi:i<us.length:=(List.getElem?_eq_some_iff.mp h).1
 have hl:=r.length
 rw [List.length_map] at hl
 have hb:i<bs.length:=by omega
 obtain ⟨u,hu,ru⟩:=r.get (i:=i) (x:=V.bl bs[i]) (by simp [hb])
 rw [h] at hu
 cases hu
 refine ⟨?_,hb⟩
 rw [List.getElem?_eq_getElem hb]
 exact ru
theorem kO (bs:List Bool):((List.range bs.length).all fun i=>(bs[i]?).getD false)=bs.all id:=by
 induction bs with
 | nil=>rfl
 | cons b bs ih =>
  rw [List.length_cons,List.range_succ_eq_map,List.all_cons,List.all_map,List.all_cons,<-ih]
  rfl
theorem kN (bs:List Bool):((List.range bs.length).any fun i=>(bs[i]?).getD false)=bs.any id:=by
 induction bs with
 | nil=>rfl
 | cons b bs ih =>
  rw [List.length_cons,List.range_succ_eq_map,List.any_cons,List.any_map,List.any_cons,<-ih]
  rfl
theorem ik (hc:X.calm=true):CallR X (.builtin "all") (fun xs H Q=>∃(p:Addr) (bs:List Bool),xs=[.ref p]/\SqL X.K H p (bs.map V.bl)/\Q (.bl (bs.all id)) H):=by
 intro pins s σ H xs us Q I r h
 obtain ⟨p,bs,rfl,hq,q⟩:=h
 obtain ⟨u,rfl,ru⟩:=jW r
 cases ru
 obtain ⟨its,rv,pl,hz⟩:=I.list hq
 obtain ⟨o,n,ho,_⟩:=id pl
 have hl:=rv.length
 rw [List.length_map] at hl
 refine call_all_walk (wpAny_pyIter_list pl.isList ?_)
 refine ⟨s.heap.objs.size,_,_,_,_,_,fun i=>(bs[i]?).getD false,rfl,Walks.list (prog:=X.prog) (w:=X.w) (A:=X.A.in1) (I.ok.hd hc) s.heap.objs.size p (Nat.ne_of_lt (Heap.lt_size ho)) its.toArray,⟨⟨_,Heap.get?_push_size _ rfl,rfl,rfl⟩,pl.isList.push _⟩,?_,?_⟩
 ·intro i v s' Q' E' hv hq'
  obtain ⟨e,_⟩:=qj rv (i:=i) (v:=v) (by simpa using hv)
  rw [e]
  exact wpAny_truthy_bool hq'
 ·intro h' tk hk
  have I':Inv X pins σ H { s with heap:=h',toks:=tk }:=I.kept fun b o e=>hk b o (by simp; exact Nat.ne_of_lt (Heap.lt_size e)) (Heap.get?_push_of_some _ e)
  rw [List.size_toArray,<-hl,kO]
  exact ⟨.bl _,H,I',rfl,q⟩
theorem lO (hc:X.calm=true):CallR X (.builtin "any") (fun xs H Q=>∃(p:Addr) (bs:List Bool),xs=[.ref p]/\SqL X.K H p (bs.map V.bl)/\Q (.bl (bs.any id)) H):=by
 intro pins s σ H xs us Q I r h
 obtain ⟨p,bs,rfl,hq,q⟩:=h
 obtain ⟨u,rfl,ru⟩:=jW r
 cases ru
 obtain ⟨its,rv,pl,hz⟩:=I.list hq
 obtain ⟨o,n,ho,_⟩:=id pl
 have hl:=rv.length
 rw [List.length_map] at hl
 refine call_any_walk (wpAny_pyIter_list pl.isList ?_)
 refine ⟨s.heap.objs.size,_,_,_,_,_,fun i=>(bs[i]?).getD false,rfl,Walks.list (prog:=X.prog) (w:=X.w) (A:=X.A.in1) (I.ok.hd hc) s.heap.objs.size p (Nat.ne_of_lt (Heap.lt_size ho)) its.toArray,⟨⟨_,Heap.get?_push_size _ rfl,rfl,rfl⟩,pl.isList.push _⟩,?_,?_⟩
 ·intro i v s' Q' E' hv hq'
  obtain ⟨e,_⟩:=qj rv (i:=i) (v:=v) (by simpa using hv)
  rw [e]
  exact wpAny_truthy_bool hq'
 ·intro h' tk hk
  have I':Inv X pins σ H { s with heap:=h',toks:=tk }:=I.kept fun b o e=>hk b o (by simp; exact Nat.ne_of_lt (Heap.lt_size e)) (Heap.get?_push_of_some _ e)
  rw [List.size_toArray,<-hl,kN]
  exact ⟨.bl _,H,I',rfl,q⟩
theorem nk:OpR X (compareOp .In) (fun x y H Q=>∃c j,x=.str ⟨#[c]⟩/\y=.str j/\Q (.bl (decide (c∈j.cps.toList))) H):=by
 intro pins s σ H x y v u Q I rx ry h
 obtain ⟨c,j,rfl,rfl,q⟩:=h
 rw [<-StrLaws.found_one] at q
 exact pk pins s σ H _ _ v u Q I rx ry ⟨_,_,rfl,rfl,q⟩
theorem iN (hc:X.calm=true):CallR X (.type "list") (fun xs H Q=>∃(d:Addr) (kvs:List (Key×V)),xs=[.ref d]/\Rd H d (.dK kvs)/\∀l,H l=none->Q (.ref l) (upd H l (.lst (kvs.map fun kv=>kV kv.1)))):=by
 intro pins s σ H xs us Q I r h
 obtain ⟨d,kvs,rfl,hd,q⟩:=h
 obtain ⟨u,rfl,ru⟩:=jW r
 cases ru
 obtain ⟨z,hsys,vs,rel,dd⟩:=kD I.hok hd
 obtain ⟨ep,hat⟩:=dd.dictAt
 have hl:=rel.length
 refine PySem.W.kdl_call (PySem.W.kdl_dict (knd:=aG X.prog X.w) (kvs:=vs) (ep:=ep) hsys) (I.ok.hd hc) hat (by rw [<-hl]; exact z) fun h' tk acc c hk hD hacc=>?_
 have hv:Vals (kvs.map fun kv=>kV kv.1) acc.toList:=by
  obtain ⟨hn,hP⟩:=hacc
  have key:∀(a:List Value) (ks:List (Key×V)) (ws:List (Key×Value)),KV ks ws->a.length=ws.length->(∀(j:Nat) (v:Value),a[j]?=some v->∃k x,ws[j]?=some (k,x)/\(aG X.prog X.w).is k v=true)->Vals (ks.map fun kv=>kV kv.1) a:=by
   intro a ks ws rl
   induction rl generalizing a with
   | nil=>intro ha _; cases a with
    | nil=>exact .nil
    | cons _ _=>cases ha
   | @cons p w' ps ws' hp _ ih =>
    intro ha hj
    cases a with
    | nil=>cases ha
    | cons v a =>
     obtain ⟨k,x,e,hk⟩:=hj 0 v rfl
     have e':w'=(k,x):=by simpa using e
     refine .cons ?_ (ih a (by simpa using ha) fun j v hv=>by simpa using hj (j+1) v (by simpa using hv))
     have ek:p.1=k:=by rw [hp.1,e']
     show RelV (kV p.1) v
     rw [ek]
     rcases ak (show bf k v=true from hk) with ⟨i,t,rfl,rfl⟩ | ⟨i,t,rfl,rfl⟩
     ·exact ⟨t,rfl⟩
     ·exact ⟨t,rfl⟩
  exact key acc.toList kvs vs rel (by rw [Array.length_toList]; exact hn) fun j v hv=>hP j v (by rw [<-Array.getElem?_toList]; exact hv)
 refine ⟨.ref s.heap.objs.size,_,I.laid (o:=.lst (kvs.map fun kv=>kV kv.1)) hk (Nat.le_refl _) ⟨by rw [List.length_map]; exact z,acc.toList,c,hv,by rw [Array.toArray_toList]; exact hD⟩,rfl,q _ I.fresh⟩
end
section
variable {prog:Program}{w:World}{K:Type} [DecidableEq K] {knd:HeapKind prog w K}{A:Around}{E:Value->Shared->Prop}{s:Shared}
theorem iC {d a:Addr}{xs:List (K×Addr×Value)}{k:K}{v:Value}{Q:Value->Shared->Prop}(hu:knd.room A) (hkey:knd.is s.heap k a) (hm:s.heap.DictOfH knd d xs)
  (there:∀p,atKey xs k=some p->Q p.2 { s with toks:=s.toks+knd.draws k })
  (new:atKey xs k=none->∀h',h'.DictOfH knd d (xs++[(k,a,v)])->Heap.SameBut d s.heap h'->Q v { s with heap:=h',toks:=s.toks+knd.draws k })
  (hsz:xs.length<=sizeLine):wpAny (model prog w) A (dictSetDefault d (.ref a) v) Q E s:=by
 obtain ⟨o,es,ep,ho,hc,hd,he,his,hn⟩:=hm
 unfold dictSetDefault
 try with_reducible refine wpAny_holding ?_
 refine wpAny_bind (knd.pyHash hu hkey ?_)
 refine wpAny_bind (wpAny_dictFind_heap (s:={ s with toks:=s.toks+knd.draws k }) hu hkey ho hd he his hn ?_ ?_)
 ·intro hno
  have hnot:k∉xs.map (·.1):=not_mem_keys_of_get hno
  refine wpAny_bind (wpAny_rule (wpAny_bind (wpAny_updateDictKeys (hz:=by have e:=size_of_entries he; omega) (s:={ s with toks:=s.toks+knd.draws k }) ho hd (wpAny_pure (new (atKey_none_of_get hno) _ ⟨_,_,ep+1,Heap.get?_update_self _ ho (Obj.isFreed_of_dict (Obj.data_mapDictKeys hd _)),
   hc.mapDictKeys _,Obj.data_mapDictKeys hd _,?_,?_,?_⟩ (Heap.SameBut.update ..))))))
  ·simp [he,entryOfKey]
  ·intro x hx
   rcases List.mem_append.mp hx with hx | hx
   ·exact knd.keeps (his x hx) ho hd (Heap.SameBut.update ..)
   ·simp only [List.mem_singleton] at hx
    subst hx
    exact knd.keeps hkey ho hd (Heap.SameBut.update ..)
  ·rw [List.map_append,List.nodup_append]
   refine ⟨hn,by simp,?_⟩
   intro x hx y hy
   simp only [List.map_cons,List.map_nil,List.mem_singleton] at hy
   subst hy
   exact fun e=>hnot (e ▸ hx)
 ·intro j p hj
  refine wpAny_bind (wpAny_dictEntries (s:={ s with toks:=s.toks+knd.draws k }) ho hd ?_)
  rw [entry_at he j,hj]
  exact wpAny_bind (wpAny_rule (wpAny_pure (there p (atKey_of_get hn hj))))
theorem fG (knd:HeapKind prog w K) (d a:Addr) (hd:(d == sysModules)=false) (dflt:Value) :
  MeetsIn prog w (Builtin.«dict.setdefault» ⟨[.ref d,.ref a,dflt],[]⟩) (fun A R s=>knd.room A.in1/\∃k xs,knd.is s.heap k a/\s.heap.DictOfH knd d xs/\xs.length<=sizeLine /\
   (∀p,atKey xs k=some p->R (.ok (.ret p.2)) { s with toks:=s.toks+knd.draws k }) /\
   (atKey xs k=none->∀h',h'.DictOfH knd d (xs++[(k,a,dflt)])->Heap.SameBut d s.heap h'->R (.ok (.ret dflt)) { s with heap:=h',toks:=s.toks+knd.draws k })) :=
 .of_wp fun A R s ⟨hu,k,xs,hkey,hm,hz,h1,h2⟩=>by
  unfold Builtin.«dict.setdefault»
  refine wpAny_bind ?_
  unfold Builtin.Dict.keyAndDefault
  refine wpAny_bind (wpAny_notOrdered_dict hm.typeIs ?_)
  show wpAny _ _ (pure (d,Value.ref a,some dflt)) _ _ s
  refine wpAny_pure ?_
  show wpAny _ _ (if (d == sysModules)=true then _ else (dictSetDefault d (.ref a) dflt >>= _)) _ _ s
  rw [if_neg (by rw [hd]; exact Bool.false_ne_true)]
  exact wpAny_bind (iC hu hkey hm (fun p hp=>wpAny_pure ⟨p.2,rfl,h1 p hp⟩) (fun hn h' hm' hs'=>wpAny_pure ⟨dflt,rfl,h2 hn h' hm' hs'⟩) hz)
end
section
variable {X:Cx}
def oU:V->List V->Hp->VK->Prop:=fun x vs H Q=>∃(d b:Addr) (kvs:List (TK×V)) (k:TK) (z:V),x=.ref d/\vs=[.ref b,z]/\H d=some (.dT kvs)/\TKAt H k (.ref b)/\k.depth<=8/\kvs.length<sizeLine /\
 (∀v,cP kvs k=some v->Q v H)/\(cP kvs k=none->Q z (upd H d (.dT (kvs++[(k,z)]))))
theorem pB (hu:X.A.units+16<cLine):MtM X "dict.setdefault" oU:=by
 intro pins s σ H x vs v us Q I rx rv h
 obtain ⟨d,b,kvs,k,z,rfl,rfl,hd,hb,h8,hz,q1,q2⟩:=h
 cases rx
 obtain ⟨u,v,rfl,ru,rz⟩:=rv.two
 cases ru
 obtain ⟨_,hsys,xs,rel,dd⟩:=u8 I.hok I.kIn hd
 have hl:kvs.length=xs.length:=Paired.length rel
 refine call_meetsIn PySem.F.slot_dict_setdefault dd.typeIs PySem.F.entry_dict_setdefault (PySem.F.args_dict_setdefault_3 _ _ _) (fG (bR X.prog X.w) d b hsys v)
  ⟨cE hu,k,xs,pE I.hok I.kIn (TKAt.c 8 h8 hb) h8,dd,by omega,fun p hp=>?_,fun hn h' dd' hs=>?_⟩
 ·have e:=rel.val k
  rw [hp] at e
  cases e2:cP kvs k with
  | none=>rw [e2] at e; exact e.elim
  | some y =>
   rw [e2] at e
   exact ⟨y,H,I.tok _,e,q1 y e2⟩
 ·have e:=rel.val k
  rw [hn] at e
  have e2:cP kvs k=none:=by
   cases e2:cP kvs k with
   | none=>rfl
   | some y=>rw [e2] at e; exact e.elim
  obtain ⟨o,es,ep,hq,h2,h3,h4,_,h5⟩:=dd'
  refine ⟨z,_,lM (ob:=.dT (kvs++[(k,z)])) I (by rw [hd]; exact True.intro) hs ⟨o,hq⟩ ⟨by rw [List.length_append,List.length_singleton]; omega,hsys,_,KT.keeps (kvs:=kvs++[(k,z)]) (xs:=xs++[(k,b,v)]) (Paired.snoc rel ⟨rfl,TKAt.c 8 h8 hb,h8,rz⟩) fun c ys ec=>?_,o,es,ep,hq,h2,h3,h4,h5⟩,rz,q2 e2⟩
  rw [aj (uX ec hd (fun z=>nomatch z))]
  exact ec
end
end L2
end

section
set_option Elab.async false
set_option linter.all false
set_option maxRecDepth 100000
namespace L2
open PySem PySem.Spec PyProof.Rows
open Sem (wp)
theorem dY:entryFor table "dict.update.loop"=some Builtin.«dict.update.loop»:=entryFor_of_fast (by kernel_rfl)
theorem bB:plainId "dict.update.loop"=true:=by decide +kernel
theorem kn:typeLookup (.type "list") "keys"=pure none:=am_miss_of_fast (by decide +kernel)
section
variable {prog:Program}{w:World}{A:Around}{E:Value->Shared->Prop}{s:Shared}
theorem pC {a:Addr}{o:Obj}{xs:Array Value}{k:Nat}{Q:Option Value->Shared->Prop}(hx:s.heap.get? a=some o) (hc:o.cls=.type "list") (hdat:o.data=.seq xs k) (hd:o.dict=none) (hA:A.handled=none)
  (h:∀h' tk,(∀b ob,s.heap.get? b=some ob->h'.get? b=some ob)->Q none { s with heap:=h',toks:=tk }):wpAny (model prog w) A (getAttr? (.ref a) "keys") Q E s:=by
 obtain ⟨c,dct,dat,sl⟩:=o
 simp only at hc hdat hd
 subst hc hdat hd
 obtain ⟨hp,g,d,tk,os⟩:=s
 have hT:∀tk',(⟨hp,g,d,tk',os⟩:Shared).TypeIs (.ref a) "list":=fun _=>⟨_,hx,rfl⟩
 have f1:=sub_AttributeError
 have f3:=F.slot_list_getattribute.lookup
 have f4:=F.slot_list_getattribute.bind (.ref a)
 have f5:=am_list_getattr_none
 unfold getAttr? getAttrBy? getAttrBy
 repeat (any_goals (first | assumption | exact hT _ | ((with_reducible show wpAny _ _ (call (Value.builtin "list.__getattribute__") _ _) _ _ _); refine call_meets F.slot_list_getattribute (hT _) am_entry_list_getattribute (F.args_list_getattribute_2 _ _) (meets_getattribute_miss_list a xs k sl "keys" _ kn (by decide +kernel) (by decide +kernel)) ⟨hx,hA,fun h' tk' e hx'=>?_⟩) | wp_step))
 obtain ⟨t',u',he⟩:=hx'.there
 show wpAny _ _ (getattributeRaised _ _ _ _ _ _ _) _ _ _
 unfold getattributeRaised hookOrError attributeErrorLeaves
 repeat (any_goals (first | assumption | wp_step))
 all_goals first | exact h _ _ hx'.keeps | trace_state
def PairAt (h:Heap) (u:Value) (kv:Key×Value):Prop:=∃t ku,u=.ref t/\h.IsTuple t #[ku,kv.2]/\bf kv.1 ku=true
theorem m5 {κ:Type} [DecidableEq κ] (kvs:List (κ×Value)) (k:κ) (v:Value):(stored kvs k v).length<=kvs.length+1:=by
 unfold stored
 split
 ·rw [List.length_map]; omega
 ·rw [List.length_append,List.length_singleton]; exact Nat.le_refl _
theorem qI {R:Result->Shared->Prop}(hh:A.handled=none) {D it l:Addr}{items:Array Value}{ps:List (Key×Value)}(hDi:D≠it) (hli:l≠it) (hlD:l≠D) (hps:ps.length=items.size) :
  ∀(n i:Nat) (s:Shared) (acc:List (Key×Value)),items.size-i=n->i<=items.size->acc.length+(items.size-i)<=sizeLine->s.heap.IsListIter it l i->s.heap.IsList l items->s.heap.DictOf (aG prog w) D acc ->
   (∀(j:Nat) (u:Value) (kv:Key×Value),items[j]?=some u->ps[j]?=some kv->PairAt s.heap u kv) ->
   (∀h' tk,h'.DictOf (aG prog w) D (merged acc (ps.drop i))->(∀b o,b≠D->b≠it->s.heap.get? b=some o->h'.get? b=some o)->R (.ok (.ret .none)) { s with heap:=h',toks:=tk }) ->
   codeAny (model prog w) A (.builtin "dict.update.loop" ⟨[.ref D,.ref it,rawInt i,.none],[]⟩) R s:=by
 intro n
 induction n with
 | zero =>
  intro i s acc hn hi hz hit hl hD hp hR
  have e:i=items.size:=by omega
  subst e
  refine codeAny_builtin dY ?_
  rw [Around.under_plainId bB _]
  show wpAny _ A.in1 (pyNext (.ref it) >>= _) _ _ s
  refine wpAny_bind (wpAny_pyNext_list_end hh hit hl (by simp) fun h' eb=>?_)
  show wpAny _ _ (Builtin.Dict.addKeywords D [] >>= _) _ _ _
  refine wpAny_bind (wpAny_pure (wpAny_pure ?_))
  have hD':h'.DictOf (aG prog w) D acc:=hD.extBut eb hDi
  have q:=hR h' s.toks (by rw [List.drop_of_length_le (by omega)]; exact hD') fun b o _ hb e=>eb b o hb e
  exact q
 | succ n ih =>
  intro i s acc hn hi hz hit hl hD hp hR
  have hlt:i<items.size:=by omega
  refine codeAny_builtin dY ?_
  rw [Around.under_plainId bB _]
  show wpAny _ A.in1 (pyNext (.ref it) >>= _) _ _ s
  have hu:items[i]?=some items[i]:=by simp [hlt]
  have hk:ps[i]?=some ps[i]:=List.getElem?_eq_getElem (by omega)
  obtain ⟨t,ku,eu,ht,hku⟩:=hp i _ _ hu hk
  refine wpAny_bind (wpAny_pyNext_list_item hit hl (x:=items[i]) hu fun h1 hit1 hs1=>?_)
  rw [eu]
  have hs1':Heap.SameBut it s.heap h1:=hs1
  have nt:t≠it:=by
   rintro rfl
   obtain ⟨o,ho,hc,_⟩:=ht
   obtain ⟨o',ho',hc',_⟩:=hit
   rw [ho] at ho'; cases ho'
   rw [hc] at hc'; simp at hc'
  have ht1:h1.IsTuple t #[ku,ps[i].2]:=ht.extBut hs1'.extBut nt
  have hT1:Shared.TypeIs { s with heap:=h1 } (.ref t) "tuple":=ht1.typeIs (s:={ s with heap:=h1 })
  obtain ⟨ot,got,hct,nt',hdt⟩:=id ht1
  refine wpAny_bind (wpAny_holding ?_)
  refine wpAny_bind (wpAny_tryCatch ?_)
  unfold Builtin.Dict.pairItems
  refine wpAny_bind (wpAny_typeOf hT1 ?_)
  rw [if_pos (by decide)]
  refine wpAny_bind (wpAny_seqItems got hdt (wpAny_pure ?_))
  show wpAny _ _ (holding [ku,ps[i].2] (dictSet D ku ps[i].2)) _ _ _
  have hD1:h1.DictOf (aG prog w) D acc:=hD.extBut hs1'.extBut hDi
  refine wpAny_holding (wpAny_dictSet_pairs (knd:=aG prog w) (k:=ps[i].1) hku hD1 (fun h2 hD2 hs2=>?_) (by omega))
  have hs2':Heap.SameBut D h1 h2:=hs2
  show wpAny _ _ (again _) _ _ _
  refine wpAny_pure ⟨plainId_quiet bB _,?_⟩
  have hl1:h1.IsList l items:=hl.extBut hs1'.extBut hli
  have kp:∀b o,b≠D->b≠it->s.heap.get? b=some o->h2.get? b=some o:=fun b o h1 h2 e=>hs2'.extBut b o h1 (hs1'.extBut b o h2 e)
  refine ih (i+1) _ (stored acc ps[i].1 ps[i].2) (by omega) hlt (by have:=m5 acc ps[i].1 ps[i].2; omega) (hit1.extBut hs2'.extBut (Ne.symm hDi)) (hl1.extBut hs2'.extBut hlD) hD2 (fun j u kv h1 h2=>?_) fun h' tk hD' kp'=>?_
  ·obtain ⟨t2,ku2,e2,ht2,hk2⟩:=hp j u kv h1 h2
   have n1:t2≠it:=by
    rintro rfl
    obtain ⟨o,ho,hc,_⟩:=ht2
    obtain ⟨o',ho',hc',_⟩:=hit
    rw [ho] at ho'; cases ho'
    rw [hc] at hc'; simp at hc'
   have n2:t2≠D:=by
    rintro rfl
    obtain ⟨o,ho,hc,_⟩:=ht2
    obtain ⟨o',_,_,ho',hc',_⟩:=hD
    rw [ho] at ho'; cases ho'
    have:=hc'.1
    rw [hc] at this; simp at this
   obtain ⟨o,ho,r⟩:=ht2
   exact ⟨t2,ku2,e2,⟨o,kp _ o n2 n1 ho,r⟩,hk2⟩
  ·refine hR h' tk ?_ fun b o h1 h2 e=>kp' b o h1 h2 (kp b o h1 h2 e)
   have ed:ps.drop i=ps[i]::ps.drop (i+1):=List.drop_eq_getElem_cons (by omega)
   rw [ed]
   exact hD'
theorem ij {l:Addr}{o:Obj}{items:Array Value}{n:Nat}{ps:List (Key×Value)}{Q:Value->Shared->Prop}(hh:A.handled=none) (ho:s.heap.get? l=some o) (hc:o.cls=.type "list") (hdt:o.data=.seq items n) (hod:o.dict=none)
  (hps:ps.length=items.size) (hp:∀(j:Nat) (u:Value) (kv:Key×Value),items[j]?=some u->ps[j]?=some kv->PairAt s.heap u kv) (hz:items.size<=sizeLine)
  (h:∀h' tk,h'.DictOf (aG prog w) s.heap.objs.size (merged [] ps)->(∀b o,s.heap.get? b=some o->h'.get? b=some o)->Q (.ref s.heap.objs.size) { s with heap:=h',toks:=tk }) :
  wpAny (model prog w) A (call (.type "dict") [.ref l]) Q E s:=by
 refine callType_codes (Q₁:=fun obj s₁=>obj=.ref s.heap.objs.size/\s₁={ s with heap:=s.heap.push { cls:=.type "dict",data:=.dict #[] } }) F.kt_called_dict (F.kt_typeCall_dict_1 _) F.entry_dict_init (kt_code_dict_new _ ⟨rfl,rfl⟩) ?_
 rintro obj s₁ ⟨rfl,rfl⟩
 have hnew:(s.heap.push { cls:=.type "dict",data:=.dict #[] }).DictOf (aG prog w) s.heap.objs.size []:=Heap.DictOf.new s.heap
 have ho1:(s.heap.push { cls:=.type "dict",data:=.dict #[] }).get? l=some o:=Heap.get?_push_of_some _ ho
 have hlt:l<s.heap.objs.size:=Heap.lt_size ho
 refine ⟨hnew.typeIs,F.args_dict_init_2 _ _,?_⟩
 unfold Builtin.«dict.__init__»
 refine wpAny_bind ?_
 unfold Builtin.Dict.selfAndRest
 refine wpAny_bind (wpAny_notOrdered_dict hnew.typeIs ?_)
 show wpAny _ _ (pure (s.heap.objs.size,[Value.ref l])) _ _ _
 refine wpAny_pure ?_
 show wpAny _ _ (Builtin.Dict.updateFrom "dict.__init__" s.heap.objs.size (.ref l) [] .none) _ _ _
 unfold Builtin.Dict.updateFrom
 have hTl:Shared.TypeIs { s with heap:=s.heap.push { cls:=.type "dict",data:=.dict #[] } } (.ref l) "list":=⟨o,ho1,hc⟩
 refine wpAny_bind (wpAny_typeOf hTl ?_)
 rw [if_pos (by decide)]
 refine wpAny_bind (pC ho1 hc hdt hod hh fun h1 tk1 k1=>?_)
 have k1':∀b ob,(s.heap.push { cls:=.type "dict",data:=.dict #[] }).get? b=some ob->h1.get? b=some ob:=k1
 rw [if_pos (by rfl:(none:Option Value).isNone=true)]
 refine wpAny_bind (wpAny_rule ?_)
 have hl1:h1.IsList l items:=⟨o,k1' _ _ ho1,hc,n,hdt⟩
 refine wpAny_bind (wpAny_pyIter_list (s:={ s with heap:=h1,toks:=tk1 }) hl1 ?_)
 have hD1:h1.DictOf (aG prog w) s.heap.objs.size []:=by
  obtain ⟨od,es,ep,g,r⟩:=hnew
  exact ⟨od,es,ep,k1' _ _ g,r⟩
 have hDlt:s.heap.objs.size<h1.objs.size:=by
  obtain ⟨od,es,ep,g,r⟩:=hD1
  exact Heap.lt_size g
 refine wpAny_pure ⟨plainId_quiet bB _,?_⟩
 refine qI (A:=A.in1) (prog:=prog) (w:=w) hh (D:=s.heap.objs.size) (it:=h1.objs.size) (l:=l) (items:=items) (ps:=ps) (Nat.ne_of_lt hDlt) (Nat.ne_of_lt (Nat.lt_trans hlt hDlt)) (Nat.ne_of_lt hlt) hps items.size 0 _ [] (Nat.sub_zero _) (Nat.zero_le _) (by rw [List.length_nil]; omega)
  ⟨_,Heap.get?_push_size _ rfl,rfl,rfl⟩ (hl1.push _) (hD1.push _) (fun j u kv a b=>?_) fun h' tk hD' kp=>?_
 ·obtain ⟨t,ku,e,ht,hk⟩:=hp j u kv a b
  obtain ⟨ot,g,r⟩:=ht
  exact ⟨t,ku,e,⟨ot,Heap.get?_push_of_some _ (k1' _ _ (Heap.get?_push_of_some _ g)),r⟩,hk⟩
 ·rw [List.drop_zero] at hD'
  refine ⟨rfl,h h' tk hD' fun b ob e=>kp b ob (Nat.ne_of_lt (Heap.lt_size e)) (Nat.ne_of_lt (Nat.lt_trans (Heap.lt_size e) hDlt)) (Heap.get?_push_of_some _ (k1' _ _ (Heap.get?_push_of_some _ e)))⟩
end
section
variable {X:Cx}
theorem kI (hc:X.calm=true):CallR X (.type "dict") (fun xs H Q=>∃(l:Addr) (ts:List Addr) (kvs:List (Key×V)),xs=[.ref l]/\SqL X.K H l (ts.map V.ref)/\ts.length=kvs.length /\
  (∀(j:Nat) (t:Addr) (kv:Key×V),ts[j]?=some t->kvs[j]?=some kv->H t=some (.tup [kV kv.1,kv.2]))/\∀p,H p=none->Q (.ref p) (upd H p (.dK (dX [] kvs)))):=by
 intro pins s σ H xs us Q I r h
 obtain ⟨l,ts,kvs,rfl,hl,hlen,ht,q⟩:=h
 obtain ⟨u,rfl,ru⟩:=jW r
 cases ru
 obtain ⟨its,rv,⟨o,n,ho,hcl,hod,hdt⟩,hz⟩:=I.list hl
 have key:∀(ts:List Addr) (kvs:List (Key×V)),ts.length=kvs.length->(∀(j:Nat) (t:Addr) (kv:Key×V),ts[j]?=some t->kvs[j]?=some kv->H t=some (.tup [kV kv.1,kv.2]))->∃ps:List (Key×Value),KV kvs ps/\∀(j:Nat) (t:Addr) (kv:Key×Value),ts[j]?=some t->ps[j]?=some kv->PairAt s.heap (.ref t) kv:=by
  intro ts
  induction ts with
  | nil =>
   intro kvs hl _
   cases kvs with
   | nil=>exact ⟨[],.nil,fun j t kv e=>by simp at e⟩
   | cons _ _=>cases hl
  | cons t ts ih =>
   intro kvs hl ht
   cases kvs with
   | nil=>cases hl
   | cons kv kvs =>
    obtain ⟨ps,r1,r2⟩:=ih kvs (by simpa using hl) fun j t' kv' a b=>ht (j+1) t' kv' (by simpa using a) (by simpa using b)
    obtain ⟨_,itt,rt,p⟩:=(show ObjOk X.prog X.w X.K H s.heap t (.tup [kV kv.1,kv.2]) from I.hok t _ (ht 0 t kv rfl rfl))
    obtain ⟨a,b,e,ra,rb⟩:=rt.two
    subst e
    refine ⟨(kv.1,b)::ps,.cons ⟨rfl,rb⟩ r1,fun j t' kv' h1 h2=>?_⟩
    cases j with
    | zero =>
     simp at h1 h2
     subst h1 h2
     exact ⟨t,a,rfl,p,gq (P:=X.prog) (w:=X.w) ra⟩
    | succ j=>exact r2 j t' kv' (by simpa using h1) (by simpa using h2)
 obtain ⟨ps,rel,pa⟩:=key ts kvs hlen ht
 have hl1:=rv.length
 rw [List.length_map] at hl1
 have hl2:=rel.length
 refine ij (prog:=X.prog) (w:=X.w) (ps:=ps) (I.ok.hd hc) ho hcl hdt hod (by rw [List.size_toArray]; omega) (fun j u kv a b=>?_) (by rw [List.size_toArray,<-hl1]; rw [List.length_map] at hz; exact hz) fun h' tk hD kp=>?_
 ·have a':its[j]?=some u:=by simpa using a
  have hj:j<ts.length:=by
   have:=(List.getElem?_eq_some_iff.mp a').1
   omega
  obtain ⟨u',e1,r1⟩:=rv.get (i:=j) (x:=V.ref ts[j]) (by simp [hj])
  rw [a'] at e1
  cases e1
  cases (show u=Value.ref ts[j] from r1)
  exact pa j ts[j] kv (by simp [hj]) b
 ·have hm:(dX [] kvs).length<=sizeLine:=by
   have h1:=eZ kvs []
   rw [List.length_nil] at h1
   rw [List.length_map] at hz
   omega
  exact ⟨.ref s.heap.objs.size,_,I.laid (o:=.dK (dX [] kvs)) kp (Nat.le_refl _) (sK hm (beq_eq_false_iff_ne.mpr (Ne.symm (Nat.ne_of_lt I.big))) (rel.merge .nil) hD),rfl,q _ I.fresh⟩
end
end L2
end

section
set_option Elab.async false
set_option linter.all false
set_option maxRecDepth 100000
namespace L2
open PySem PySem.Spec PyProof.Rows
open Sem (wp)
abbrev cF:R2:=rI0 fun i j=>.int (i+j)
abbrev gX:R2:=rI CMul fun i j=>.int (i * j)
abbrev eW:R2:=rI (fun _ j=>0<j) fun i j=>.int (i % j)
abbrev tP:R2:=rI wl fun i j=>.int (i / j)
abbrev uF:R2:=rI wk fun i j=>.int (i ^ j.toNat)
abbrev vF:R2:=rI0 fun i j=>.bl (decide (i<j))
abbrev wn:R2:=rI0 fun i j=>.bl (decide (i<=j))
abbrev vH:R2:=rI0 fun i j=>.bl (decide (j<i))
abbrev wq:R2:=rI0 fun i j=>.bl (decide (j<=i))
abbrev uL:R2:=fun x y H Q=>∃i j,x=.str i/\y=.str j/\i.length+j.length<=sizeLine/\Q (.str (i++j)) H
abbrev wo:R2:=fun x y H Q=>∃c j,x=.str ⟨#[c]⟩/\y=.str j/\Q (.bl (decide (c∈j.cps.toList))) H
abbrev uK:R2:=fun x y H Q=>∃b,y=.bl b/\Q (.bl (decide (x=.bl b))) H
abbrev iK (K:PySem.W.Frag):List V->Hp->VK->Prop:=fun xs H Q=>∃x c t b,xs=[x,.ty c]/\TyX K H x t/\PySem.W.kitOne K t (.type c)=some b/\Q (.bl b) H
abbrev v7 (K:PySem.W.Frag):List V->Hp->VK->Prop:=fun xs H Q=>∃(p:Addr) (bs:List Bool),xs=[.ref p]/\SqL K H p (bs.map V.bl)/\Q (.bl (bs.all id)) H
abbrev wt (K:PySem.W.Frag):List V->Hp->VK->Prop:=fun xs H Q=>∃(p:Addr) (bs:List Bool),xs=[.ref p]/\SqL K H p (bs.map V.bl)/\Q (.bl (bs.any id)) H
abbrev tQ (K:PySem.W.Frag):List V->Hp->VK->Prop:=fun xs H Q=>∃(l:Addr) (ts:List Addr) (kvs:List (Key×V)),xs=[.ref l]/\SqL K H l (ts.map V.ref)/\ts.length=kvs.length /\
  (∀(j:Nat) (t:Addr) (kv:Key×V),ts[j]?=some t->kvs[j]?=some kv->H t=some (.tup [kV kv.1,kv.2]))/\∀p,H p=none->Q (.ref p) (upd H p (.dK (dX [] kvs)))
abbrev bu (K:PySem.W.Frag):List V->Hp->VK->Prop:=fun xs H Q =>
 (∃p ys,xs=[.ref p]/\(SqL K H p ys∨SqT K H p ys)/\∀l,H l=none->Q (.ref l) (upd H l (.lst ys))) ∨
 (∃(d:Addr) (kvs:List (Key×V)),xs=[.ref d]/\Rd H d (.dK kvs)/\∀l,H l=none->Q (.ref l) (upd H l (.lst (kvs.map fun kv=>kV kv.1))))
abbrev fS (K:PySem.W.Frag):List V->Hp->VK->Prop:=fun xs H Q =>
 (∃p ys,xs=[.ref p]/\(SqL K H p ys∨SqT K H p ys)/\Q (.int ys.length) H)∨(∃z,xs=[.str z]/\z.length<=sizeLine/\Q (.int z.length) H)
theorem aw:bootBuiltins "isinstance"=some (.builtin "isinstance"):=by decide +kernel
theorem i9:bootBuiltins "list"=some (.type "list"):=by decide +kernel
theorem lP:bootBuiltins "tuple"=some (.type "tuple"):=by decide +kernel
theorem nQ:bootBuiltins "dict"=some (.type "dict"):=by decide +kernel
theorem nR:bootBuiltins "bool"=some (.type "bool"):=by decide +kernel
theorem qi:bootBuiltins "int"=some (.type "int"):=by decide +kernel
theorem qh:bootBuiltins "str"=some (.type "str"):=by decide +kernel
section
variable {X:Cx}{p pos:Pos}
theorem qb:CallR X (.builtin "len") (fS X.K):=call_len_seq.or kH
theorem nP (hc:X.calm=true):CallR X (.type "list") (bu X.K):=call_list_of.or (iN hc)
theorem c_:OpR X (compareOp .Is) uK:=by
 intro pins s σ H x y v u Q I rx ry h
 obtain ⟨b,rfl,q⟩:=h
 cases (show u=Value.bool b from ry)
 have key:∀k:Bool,k=decide (x=.bl b)->EP X pins σ Q (.bool k) s:=fun k e=>⟨.bl k,H,I,rfl,by rw [e]; exact q⟩
 cases x with
 | non=>cases (show v=Value.none from rx); exact wpAny_pure (key _ rfl)
 | bl a =>
  cases (show v=Value.bool a from rx)
  refine wpAny_pure (key _ ?_)
  cases a <;> cases b <;> rfl
 | int i=>obtain ⟨t,rfl⟩:=rx; exact wpAny_pure (key _ rfl)
 | str i=>obtain ⟨t,rfl⟩:=rx; exact wpAny_pure (key _ rfl)
 | byt i=>obtain ⟨t,rfl⟩:=rx; exact wpAny_pure (key _ rfl)
 | flt i=>obtain ⟨t,rfl⟩:=rx; exact wpAny_pure (key _ rfl)
 | ref a=>cases (show v=Value.ref a from rx); exact wpAny_pure (key _ rfl)
 | ty n=>cases (show v=Value.type n from rx); exact wpAny_pure (key _ rfl)
theorem fE (hg:Gl X "bool") (hm:X.mg "bool"=none):PE X (.Name "bool" pos) (tC (.ty "bool")):=fF hg hm nR rfl
theorem cI (hg:Gl X "int") (hm:X.mg "int"=none):PE X (.Name "int" pos) (tC (.ty "int")):=fF hg hm qi rfl
theorem cH (hg:Gl X "str") (hm:X.mg "str"=none):PE X (.Name "str" pos) (tC (.ty "str")):=fF hg hm qh rfl
theorem bU (hg:Gl X "list") (hm:X.mg "list"=none):PE X (.Name "list" pos) (tC (.ty "list")):=fF hg hm i9 rfl
theorem bw (hg:Gl X "tuple") (hm:X.mg "tuple"=none):PE X (.Name "tuple" pos) (tC (.ty "tuple")):=fF hg hm lP rfl
end
def Gc (mg:Str->Option Value) (x:Str) (v:V):Prop:=∃u,mg x=some u/\RelV v u
theorem kh {X:Cx}{x:Str}{v:V}{pos:Pos}(hg:Gl X x) (h:Gc X.mg x v) (hd:(x == ("__debug__":Str))=false:=by decide):PE X (.Name x pos) (tC v):=by
 obtain ⟨u,hm,r⟩:=h
 exact g9 hg hm r hd
structure Def (P:Program) (w:World) (K:PySem.W.Frag) (mg:Str->Option Value) (base:Heap) (x:Str) (ps:List Str) (k:Nat) (sp:Sp):Prop where
 ex:∃f fd,gy P w K mg base CX0 k f fd ps sp/\mg x=some (.ref f)/\PySem.W.keepIn K (.ref f)=true/\Binds K fd ps []
structure New (P:Program) (w:World) (K:PySem.W.Frag) (mg:Str->Option Value) (base:Heap) (x:Str) (C:Addr) (ps:List Str) (k:Nat) (sp:Sp):Prop where
 ex:∃f fd,gy P w K mg base CX0 k f fd ps sp/\mg x=some (.ref C)/\Mk K C f/\Binds K fd ps []
structure Mth (P:Program) (w:World) (K:PySem.W.Frag) (mg:Str->Option Value) (base:Heap) (C:Addr) (m:Str) (ps:List Str) (k:Nat) (sp:Sp):Prop where
 ex:∃f fd,gy P w K mg base CX0 k f fd ps sp/\Cls K C/\ur K C m f/\Binds K fd ps []
section
variable {X:Cx}{k:Nat}{ps:List Str}{sp:Sp}{x m:Str}{C:Addr}{p pos apos:Pos}{o e:Expr}{es:List Expr}{t:TA}{ta:TE}
theorem rC (D:Def X.prog X.w X.K X.mg X.base x ps k sp) (hr:Room k X.A) (hg:Gl X x) (ha:PA X (e::es) t) (hdb:(x == ("__debug__":Str))=false:=by decide)
  (he:starEach (e::es) X.env=(false,eval e X.env)::starEach es X.env:=by rfl) (hpl:(backTo pos (starEach es X.env)).any (·.1)=false:=by rfl) :
  PE X (.Call (.Name x p) (e::es) [] pos) (av sp [] E0 t):=by
 obtain ⟨f,fd,F,hm,hk,hb⟩:=D.ex
 exact tX F hr hg hm hk hb .nil rE ha hdb he hpl
theorem uT (D:New X.prog X.w X.K X.mg X.base x C ps k sp) (hr:Room (k+1) X.A) (hg:Gl X x) (ha:PA X (e::es) t) (hdb:(x == ("__debug__":Str))=false:=by decide)
  (he:starEach (e::es) X.env=(false,eval e X.env)::starEach es X.env:=by rfl) (hpl:(backTo pos (starEach es X.env)).any (·.1)=false:=by rfl) :
  PE X (.Call (.Name x p) (e::es) [] pos) (tq C sp [] E0 t):=by
 obtain ⟨f,fd,F,hm,M,hb⟩:=D.ex
 exact tV M F hr hg hm hb .nil rE ha hdb he hpl
theorem uU {pl:Sem Bool}(M:Mth X.prog X.w X.K X.mg X.base C m ps k sp) (hr:Room k X.A) (he:PE X o ta) (ha:PA X (e::es) t)
  (hst:starEach (e::es) X.env=(false,eval e X.env)::starEach es X.env:=by rfl) (hpl:(backTo pos (starEach es X.env)).any (·.1)=false:=by rfl)
  (ht:eval (.Call (.Attribute o m apos) (e::es) [] pos) X.env=(do
   let ov <- eval o X.env
   standAt apos.atName
   let (f,first) <- holding [ov] (getMethod ov m pl)
   callWith pos f first (backTo pos (starEach (e::es) X.env)) (backToKw pos (keywordEach [] X.env))):=by rfl) :
  PE X (.Call (.Attribute o m apos) (e::es) [] pos) (eO C m sp [] E0 ta t):=by
 obtain ⟨f,fd,F,c,hm,hb⟩:=M.ex
 exact tU he c hm F hr hb .nil rE ha hst hpl ht
theorem tT {pl:Sem Bool}(M:Mth X.prog X.w X.K X.mg X.base C m ps k sp) (hr:Room k X.A) (he:PE X o ta)
  (ht:eval (.Call (.Attribute o m apos) [] [] pos) X.env=(do
   let ov <- eval o X.env
   standAt apos.atName
   let (f,first) <- holding [ov] (getMethod ov m pl)
   callWith pos f first (backTo pos (starEach [] X.env)) (backToKw pos (keywordEach [] X.env))):=by rfl) :
  PE X (.Call (.Attribute o m apos) [] [] pos) (eO C m sp [] E0 ta ao):=by
 obtain ⟨f,fd,F,c,hm,hb⟩:=M.ex
 exact rq he c hm F hr hb .nil rE ht
end
def v_ (K:PySem.W.Frag) (tl:TE):TI:=fun σ H R=>tl σ H fun x H1=>∃a,x=.ref a/\(((∃xs,SqL K H1 a xs)/\R (Itl K a) H1)∨((∃xs,SqT K H1 a xs)/\R (Itt K a) H1))
theorem uQ {X:Cx}{tg l:Expr}{tl:TE}(hl:PE X l tl):PI X tg l (v_ X.K tl):=by
 intro pins s σ H R I h
 refine thn (hl pins s σ H _ I h) fun v s1 ⟨x,H1,I1,r1,q1⟩=>?_
 obtain ⟨a,e,q⟩:=q1
 subst e
 cases r1
 have fin:∀b∈[s1.heap.objs.size],kU X pins H1 b:=fun b hb=>by
  have e:b=s1.heap.objs.size:=by simpa using hb
  subst e
  exact I1.fpOk (Nat.le_refl _) (I1.hok.fresh (Nat.le_refl _))
 rcases q with ⟨⟨xs,hq⟩,q⟩ | ⟨⟨xs,hq⟩,q⟩
 ·obtain ⟨its,rv,p,hz⟩:=I1.list hq
  refine wpAny_pyIter_list p.isList ?_
  exact ⟨s1.heap.objs.size,[s1.heap.objs.size],_,_,H1,rfl,I1.kept (t':=s1.toks) fun b o e=>Heap.get?_push_of_some _ e,jY a _,⟨_,Heap.get?_push_size _ rfl,rfl,rfl⟩,fin,q⟩
 ·obtain ⟨its,rv,p,hz⟩:=I1.tuple hq
  refine wpAny_pyIter_tuple p ?_
  exact ⟨s1.heap.objs.size,[s1.heap.objs.size],_,_,H1,rfl,I1.kept (t':=s1.toks) fun b o e=>Heap.get?_push_of_some _ e,mL a _,⟨_,Heap.get?_push_size _ rfl,rfl,rfl⟩,fin,q⟩
end L2
end

section
set_option Elab.async false
set_option linter.all false
set_option maxRecDepth 100000
namespace L2
open PySem PySem.Spec PyProof.Rows
theorem e_ {K:PySem.W.Frag}{a:Addr}{xs:List V}{g:TG}{tb:TS}{D:eE}{σ:St}{H:Hp}(Pv:Nat->St->Hp->Prop) (h0:Pv 0 σ H) (hl:∀i σ H,i<=xs.length->Pv i σ H->SqL K H a xs)
  (hs:∀i x σ H p,xs[i]?=some x->Pv i σ H->H p=none->g (.ref p) σ (upd H p (.tup [.int i,x])) fun σ2 H2=>tb { D with nx:=Pv (i+1),ct:=Pv (i+1),bk:=D.nx } σ2 H2) (hd:∀σ H,Pv xs.length σ H->D.nx σ H) :
  ∃W:Nat->Nat->St->Hp->Prop,(∃m,W 0 m σ H)/\∀i m σ H,W i m σ H ->
   ((Ite K a).stop i H/\D.nx σ H)∨((Ite K a).go i H/\∃N:St->Hp->Prop,(∀σ' H',N σ' H'->∃m',m'<m/\W (i+1) m' σ' H')/\∀x H',(Ite K a).yld i H x H'->g x σ H' fun σ2 H2=>tb { D with nx:=N,ct:=N,bk:=D.nx } σ2 H2):=by
 refine ⟨fun i m σ H=>m=xs.length-i/\i<=xs.length/\Pv i σ H,⟨xs.length,by simp,Nat.zero_le _,h0⟩,?_⟩
 rintro i m σ H ⟨rfl,hi,p⟩
 have q:=hl i σ H hi p
 by_cases hlt:i<xs.length
 ·refine .inr ⟨⟨xs,xs[i],q,by simp [hlt]⟩,Pv (i+1),fun σ' H' p'=>⟨xs.length-(i+1),by omega,rfl,hlt,p'⟩,fun x H' y=>?_⟩
  obtain ⟨t,v,rfl,hn,hv,rfl⟩:=y
  exact hs i v σ H t (hv xs q) p hn
 ·have e:i=xs.length:=by omega
  subst e
  exact .inl ⟨⟨xs,q,Nat.le_refl _⟩,hd σ H p⟩
def Wc (n:Nat) (Pv:Nat->List V->Hp->Prop):Nat->Nat->List V->Hp->Prop:=fun i m vs H=>m=n-i/\i<=n/\Pv i vs H
theorem nxt {n i:Nat}{Pv:Nat->List V->Hp->Prop}{vs:List V}{H:Hp}(hi:i<n) (p:Pv (i+1) vs H):∃m',m'<n-i/\Wc n Pv (i+1) m' vs H:=⟨n-(i+1),by omega,rfl,hi,p⟩
abbrev dU (k:Nat) (fi:List Nat) (σ:St) (J:It) (g:TG) (tc:TT) (te:TE) (H1:Hp) (l:Addr) (Q:Hp->Prop):Prop :=
 ∃W:Nat->Nat->List V->Hp->Prop,(∃m,W 0 m [] (upd H1 l (.lst [])))/\∀i m vs H2,W i m vs H2->H2 l=some (.lst vs) /\
  ((J.stop i H2/\Q H2)∨(J.go i H2/\∀x H3,J.yld i H2 x H3->g x (bG k fi σ) H3 fun σ2 H4=>tc σ2 H4 fun b H5 =>
   if b=true then te σ2 H5 fun v H6=>H6 l=some (.lst vs)/\vs.length<sizeLine/\∃m',m'<m/\W (i+1) m' (vs++[v]) (upd H6 l (.lst (vs++[v]))) else ∃m',m'<m/\W (i+1) m' vs H5))
theorem jO {k:Nat}{fi:List Nat}{J:It}{g:TG}{tc:TT}{te:TE}{σ:St}{H1:Hp}{Q:Hp->Prop}{l:Addr}(n:Nat) (Pv:Nat->List V->Hp->Prop) (h0:Pv 0 [] (upd H1 l (.lst [])))
  (hl:∀i vs H,i<=n->Pv i vs H->H l=some (.lst vs)) (hgo:∀i vs H,i<n->Pv i vs H->J.go i H) (hst:∀vs H,Pv n vs H->J.stop n H/\Q H)
  (hs:∀i vs H x H3,i<n->Pv i vs H->J.yld i H x H3->g x (bG k fi σ) H3 fun σ2 H4=>tc σ2 H4 fun b H5 =>
   if b=true then te σ2 H5 fun v H6=>H6 l=some (.lst vs)/\vs.length<sizeLine/\∃m',m'<n-i/\Wc n Pv (i+1) m' (vs++[v]) (upd H6 l (.lst (vs++[v]))) else ∃m',m'<n-i/\Wc n Pv (i+1) m' vs H5) :
  dU k fi σ J g tc te H1 l Q:=by
 refine ⟨Wc n Pv,⟨n,by simp [Wc],Nat.zero_le _,h0⟩,?_⟩
 rintro i m vs H ⟨rfl,hi,p⟩
 refine ⟨hl i vs H hi p,?_⟩
 by_cases hlt:i<n
 ·exact .inr ⟨hgo i vs H hlt p,fun x H3 y=>hs i vs H x H3 hlt p y⟩
 ·have e:i=n:=by omega
  subst e
  exact .inl (hst vs H p)
section
variable {K:PySem.W.Frag}{k:Nat}{fi:List Nat}{g:TG}{tc:TT}{te:TE}{σ:St}{H1:Hp}{Q:Hp->Prop}{l:Addr}
theorem cM {a:Addr}{xs:List V}(Pv:Nat->List V->Hp->Prop) (h0:Pv 0 [] (upd H1 l (.lst [])))
  (hl:∀i vs H,i<=xs.length->Pv i vs H->H l=some (.lst vs)/\SqL K H a xs) (hd:∀vs H,Pv xs.length vs H->Q H)
  (hs:∀i vs H x,xs[i]?=some x->i<xs.length->Pv i vs H->g x (bG k fi σ) H fun σ2 H4=>tc σ2 H4 fun b H5 =>
   if b=true then te σ2 H5 fun v H6=>H6 l=some (.lst vs)/\vs.length<sizeLine/\∃m',m'<xs.length-i/\Wc xs.length Pv (i+1) m' (vs++[v]) (upd H6 l (.lst (vs++[v]))) else ∃m',m'<xs.length-i/\Wc xs.length Pv (i+1) m' vs H5) :
  dU k fi σ (Itl K a) g tc te H1 l Q:=by
 refine jO xs.length Pv h0 (fun i vs H hi p=>(hl i vs H hi p).1) (fun i vs H hi p=>⟨xs,xs[i],(hl i vs H (Nat.le_of_lt hi) p).2,by simp [hi]⟩) (fun vs H p=>⟨⟨xs,(hl _ vs H (Nat.le_refl _) p).2,Nat.le_refl _⟩,hd vs H p⟩) fun i vs H x H3 hi p y=>?_
 obtain ⟨rfl,y⟩:=y
 exact hs i vs _ x (y xs (hl i vs _ (Nat.le_of_lt hi) p).2) hi p
theorem nL {lo:Int}{n:Nat}(Pv:Nat->List V->Hp->Prop) (h0:Pv 0 [] (upd H1 l (.lst [])))
  (hl:∀i vs H,i<=n->Pv i vs H->H l=some (.lst vs)) (hd:∀vs H,Pv n vs H->Q H)
  (hs:∀i vs H,i<n->Pv i vs H->g (.int (lo+i)) (bG k fi σ) H fun σ2 H4=>tc σ2 H4 fun b H5 =>
   if b=true then te σ2 H5 fun v H6=>H6 l=some (.lst vs)/\vs.length<sizeLine/\∃m',m'<n-i/\Wc n Pv (i+1) m' (vs++[v]) (upd H6 l (.lst (vs++[v]))) else ∃m',m'<n-i/\Wc n Pv (i+1) m' vs H5) :
  dU k fi σ (Itr lo n) g tc te H1 l Q:=by
 refine jO n Pv h0 hl (fun i vs H hi p=>hi) (fun vs H p=>⟨Nat.le_refl _,hd vs H p⟩) fun i vs H x H3 hi p y=>?_
 obtain ⟨rfl,rfl⟩:=y
 exact hs i vs _ hi p
theorem r8 {x:Str}(Pv:Nat->List V->Hp->Prop) (h0:Pv 0 [] (upd H1 l (.lst [])))
  (hl:∀i vs H,i<=x.cps.size->Pv i vs H->H l=some (.lst vs)) (hd:∀vs H,Pv x.cps.size vs H->Q H)
  (hs:∀i vs H c,x.cps[i]?=some c->i<x.cps.size->Pv i vs H->g (.str ⟨#[c]⟩) (bG k fi σ) H fun σ2 H4=>tc σ2 H4 fun b H5 =>
   if b=true then te σ2 H5 fun v H6=>H6 l=some (.lst vs)/\vs.length<sizeLine/\∃m',m'<x.cps.size-i/\Wc x.cps.size Pv (i+1) m' (vs++[v]) (upd H6 l (.lst (vs++[v]))) else ∃m',m'<x.cps.size-i/\Wc x.cps.size Pv (i+1) m' vs H5) :
  dU k fi σ (Its x) g tc te H1 l Q:=by
 refine jO x.cps.size Pv h0 hl (fun i vs H hi p=>hi) (fun vs H p=>⟨Nat.le_refl _,hd vs H p⟩) fun i vs H y H3 hi p yl=>?_
 obtain ⟨rfl,c,hc,rfl⟩:=yl
 exact hs i vs _ c hc hi p
end
theorem gN {j:Nat}{x:V}{σ:St}{H:Hp}{Q:St->Hp->Prop}(h:Q (σ.set j (some x)) H):am j x σ H Q:=h
theorem um {σ:St}{H:Hp}{A B:Hp->Prop}(h:A H):qA σ H (fun b H5=>if b=true then A H5 else B H5):=by
 show (if (true:Bool)=true then A H else B H)
 exact h
end L2
end

section
set_option Elab.async false
set_option linter.all false
set_option maxRecDepth 100000
namespace L2
open PySem PySem.Spec PyProof.Rows
theorem Obj.mapF {o:Obj}{vs:Array Value}(hd:o.data=.fields vs) (f:Array Value->Array Value):o.mapFields f={ o with data:=.fields (f vs) }:=by
 obtain ⟨c,d,dt,sl⟩:=o
 cases hd
 rfl
structure vT (fs:List Addr) (e:Addr) (T:Option Addr) (h h':Heap):Prop where
 keep:∀b o,h.get? b=some o->b≠e->some b≠T->b∉fs->h'.get? b=some o
 slot:∀b o,h.get? b=some o->b≠e->some b≠T->b∈fs->∃sl,h'.get? b=some { o with slots:=sl }
 there:∀b o,h.get? b=some o->∃o',h'.get? b=some o'
def Trc (n:Nat) (h:Heap) (e:Addr) (vs:Array Value) (T:Option Addr):Prop :=
 (vs[1]?=some .none/\T=none)∨∃t oT ts,T=some t/\vs[1]?=some (.ref t)/\n<=t/\t≠e/\h.get? t=some oT/\oT.data=.fields ts/\ts[3]?=some .none
section
variable {M:Model}{A:Around}{E:Value->Shared->Prop}{s:Shared}{base:Heap}{env:Env}{outer:List Env}{L e:Addr}{oe:Obj}{vs:Array Value}{Q:Unit->Shared->Prop}
end
end L2
end

section
set_option Elab.async false
set_option linter.all false
set_option maxRecDepth 100000
namespace L2
open PySem PySem.Spec PyProof.Rows
def cg (a C:Addr) (od:Option Addr):Heap->Prop:=fun h=>∃vs,h.get? a=some { cls:=.ref C,dict:=od,data:=.fields vs }/\1<vs.size
def aW (a C:Addr) (od:Option Addr):Heap->Prop:=fun h=>∃vs,h.get? a=some { cls:=.ref C,dict:=od,data:=.fields vs }/\vs[1]?=some .none
theorem ie {P:Program}{w:World}{K:PySem.W.Frag}{H:Hp}{h:Heap}{a C:Addr}{od:Option Addr}{vs:Array Value}(e:h.get? a=some { cls:=.ref C,dict:=od,data:=.fields vs }) (z:1<vs.size):ObjOk P w K H h a (.ext (cg a C od)) :=
 ⟨⟨vs,e,z⟩,⟨_,e⟩,fun _ _ ⟨us,q,y⟩ k=>⟨us,k _ q,y⟩⟩
theorem dD {P:Program}{w:World}{K:PySem.W.Frag}{H:Hp}{h:Heap}{a C:Addr}{od:Option Addr}{vs:Array Value}(e:h.get? a=some { cls:=.ref C,dict:=od,data:=.fields vs }) (z:vs[1]?=some .none):ObjOk P w K H h a (.ext (aW a C od)) :=
 ⟨⟨vs,e,z⟩,⟨_,e⟩,fun _ _ ⟨us,q,y⟩ k=>⟨us,k _ q,y⟩⟩
structure Flown (n:Nat) (h:Heap) (H:Hp) (a C:Addr) (od:Option Addr):Prop where
 trk:H a=some (.ext (cg a C od))
 new:n<=a
 tr:∃vs T,h.get? a=some { cls:=.ref C,dict:=od,data:=.fields vs }/\1<vs.size/\Trc n h a vs T/\∀t,T=some t->H t=none
theorem Flown.mono {n n':Nat}{h:Heap}{H:Hp}{a C:Addr}{od:Option Addr}(x:Flown n h H a C od) (l:n'<=n):Flown n' h H a C od :=
 ⟨x.trk,Nat.le_trans l x.new,let ⟨vs,T,e,z,tr,f⟩:=x.tr; ⟨vs,T,e,z,by
  rcases tr with q | ⟨t,oT,ts,q1,q2,q3,q4⟩
  ·exact .inl q
  ·exact .inr ⟨t,oT,ts,q1,q2,Nat.le_trans l q3,q4⟩,f⟩⟩
theorem rK {P:Program}{w:World}{K:PySem.W.Frag}{H:Hp}{h h':Heap}{fs:List Addr}{a C:Addr}{od T:Option Addr}{vs':Array Value}(ok:HOk P w K H h) (ha:H a=some (.ext (cg a C od))) (hT:∀t,T=some t->H t=none) (hfs:∀b∈fs,H b=none)
  (fl:vT fs a T h h') (e':h'.get? a=some { cls:=.ref C,dict:=od,data:=.fields vs' }) (z:1<vs'.size):HOk P w K H h':=fun b u q=>by
 by_cases hb:b=a
 ·subst hb; rw [ha] at q; cases q; exact ie e' z
 ·have go:∀c o v,H c=some v->c≠a->h.get? c=some o->h'.get? c=some o:=fun c o v hc na g =>
   fl.keep c o g na (fun z=>by rw [hT c z.symm] at hc; cases hc) fun z=>by rw [hfs c z] at hc; cases hc
  refine (ok b u q).stay (fun c o hc g=>?_) (fun _ r=>r) fun _ _ r=>r
  rcases hc with rfl | hc
  ·exact go c o u q hb g
  ·exact go c o _ hc (fun z=>by rw [z,ha] at hc; cases hc) g
structure jR (X:Cx) (pins:List (Addr×Obj)) (n:Nat):Prop where
 s0:X.s₀.heap.objs.size<=n
 loc:X.env.locals<n
 cell:∀x c,X.env.cells.lookup x=some c->c<n
 pin:∀p∈X.pn++pins,p.1<n
theorem Inv.young {X:Cx}{pins:List (Addr×Obj)}{σ:St}{H:Hp}{s:Shared}(I:Inv X pins σ H s):jR X pins s.heap.objs.size :=
 ⟨I.sz,I.lt,fun x c e=>let ⟨_,_,q,_⟩:=I.cell x c e; Heap.lt_size q,fun p hp=>Heap.lt_size (I.pin p hp).1⟩
section
variable {X:Cx}{pins:List (Addr×Obj)}{σ:St}{H:Hp}{s:Shared}{n:Nat}{a C:Addr}{od:Option Addr}
def CX1 (P:Program) (w:World) (K:PySem.W.Frag):CXT:=fun outer H s E e s'=>∃a C od H',e=.ref a/\s'.os=s.os/\AllBare s'.gens/\Un (frs outer) [] H H' s.heap s'.heap/\HOk P w K H' s'.heap/\Flown s.heap.objs.size s'.heap H' a C od/\E (.ref C) (some a) H'
end
end L2
end

section
set_option Elab.async false
set_option linter.all false
set_option maxRecDepth 100000
namespace L2
open PySem PySem.Spec PyProof.Rows
abbrev veTail:List Value:=[.type "ValueError",.type "Exception",.type "BaseException",.type "object"]
inductive OverVE:List Value->Prop
 | base:OverVE veTail
 | own {a:Addr}{r:List Value}:OverVE r->OverVE (.ref a::r)
theorem OverVE.has {l:List Value}(x:OverVE l) {n:String}{b:Bool}(e:veTail.contains (.type n)=b):l.contains (.type n)=b:=by
 induction x with
 | base=>exact e
 | own _ ih=>rw [List.contains_cons,ih]; rfl
section
variable {prog:Program}{w:World}{A:Around}{E:Value->Shared->Prop}{h:Heap}{g:Array GenState}{d:Drawn}{t:Nat}{os:OsState}
variable {nm q:Str}{C N:Addr}{bs bm:List Value}{hdct:Bool}{sn:List Str}{sub:List Value}{ab:Bool}{col:Option Bool}{dd:Option Addr}{k0 k1 k2 k3 k5:Option Value}
theorem oh {M:Model}(hv:OverVE bm) {us:List Value}{Q:Unit->Shared->Prop}(hC:h.get? C=some (excClassObj nm q C N bs bm hdct sn sub ab col dd k0 k1 k2 k3 k5 "ValueError.__new__"))
  (hq:Q () ⟨h,g,d,t,os⟩):wpAny M A (checkBuiltinCall "ValueError.__new__" ⟨.ref C::us,[]⟩) Q E ⟨h,g,d,t,os⟩:=by
 have G:=PySem.F.excBase_ValueError
 have c1:(Value.ref C::bm).contains (.type "ValueError")=true:=by rw [List.contains_cons,hv.has (b:=true) (by decide +kernel)]; rfl
 have c2:=G.noStar
 simp only [checkBuiltinCall,G.newKind,G.newSplit,G.newRow]
 repeat (first | refine wpAny_loadPart_at hC ?_ | (refine wpAny_isSubtype_exc hC ?_; rw [c1]) | refine wpAny_staticBase_exc hC ?_ | refine wpAny_madeBy_exc hC ?_ | simp only [bne_self_eq_false,Bool.false_eq_true,if_false] | wp_step)
 exact hq
theorem uv {R:Result->Shared->Prop}(hv:OverVE bm) {us:List Value}(hC:h.get? C=some (excClassObj nm q C N bs bm hdct sn sub ab col dd k0 k1 k2 k3 k5 "ValueError.__new__")) (hz:us.length<=sizeLine)
  (hq:R (.ok (.ret (.ref (h.objs.size+1)))) ⟨(h.push { cls:=.type "tuple",data:=.seq us.toArray }).push { cls:=.ref C,data:=.fields #[.ref h.objs.size,.none,.none,.none,.bool false,.none] },g,d,t,os⟩) :
  codeAny (model prog w) A (.builtin "ValueError.__new__" ⟨.ref C::us,[]⟩) R ⟨h,g,d,t,os⟩:=by
 have G:=PySem.F.excBase_ValueError
 have c0:=G.ends
 have c1:(Value.ref C::bm).contains (.type "ValueError")=true:=by rw [List.contains_cons,hv.has (b:=true) (by decide +kernel)]; rfl
 have c2:(Value.ref C::bm).contains (.type "AttributeError")=false:=by rw [List.contains_cons,hv.has (b:=false) (by decide +kernel)]; rfl
 have c3:(Value.ref C::bm).contains (.type "NameError")=false:=by rw [List.contains_cons,hv.has (b:=false) (by decide +kernel)]; rfl
 refine codeAny_builtinAt G.entry ?_
 unfold Builtin.«BaseException.__new__»
 refine PySem.wpAt_bind ?_
 show PySem.wpAt _ _ _ (stack >>= _) _ _ _
 refine PySem.wpAt_bind (PySem.wpAt_stack fun p below=>PySem.wpAt_of_wpAny ?_)
 wp_walk
 refine PySem.wpAt_of_wpAny ?_
 rw [G.owner]
 repeat (first | with_reducible refine wpAny_madeHere_exc G.canon hC ?_ | with_reducible refine wpAny_loadPart_at hC ?_ | (with_reducible refine wpAny_isSubtype_exc hC ?_; first | rw [c1] | rw [c2] | rw [c3]) | wp_step)
 show R _ _
 rw [Heap.size_push]
 exact hq
theorem sQ (hv:OverVE bm) {us:List Value}{fI:Addr}{oI:Obj}{Q:Fin->Shared->Prop}(hC:h.get? C=some (excClassObj nm q C N bs bm hdct sn sub ab col dd k0 k1 k2 k3 k5 "ValueError.__new__"))
  (hi:PySem.W.Looks (model prog w) h (typeLookup (.ref C) "__init__") (some (.ref fI))) (hfI:h.get? fI=some oI) (hfc:oI.cls=.type "function") (hz:us.length<=sizeLine)
  (hq:∀h',(∀b o,h.get? b=some o->h'.get? b=some o)->h'.objs.size=h.objs.size+2->h'.get? (h.objs.size+1)=some { cls:=.ref C,data:=.fields #[.ref h.objs.size,.none,.none,.none,.bool false,.none] } ->
   wpAny (model prog w) A (call (.ref fI) (.ref (h.objs.size+1)::us)) (fun r s'=>r=.none/\Q (.done (.ret (.ref (h.objs.size+1)))) s') E ⟨h',g,d,t,os⟩) :
  wpAny (model prog w) A (Builtin.«type.__call__» ⟨.ref C::us,[]⟩) Q E ⟨h,g,d,t,os⟩:=by
 repeat (first | with_reducible refine wpAny_loadPart_at hC ?_ | with_reducible refine wpAny_madeBy_exc hC ?_ | wp_step)
 refine codeAny_call_builtin_code (Code.quiet_builtin _ PySem.F.excBase_ValueError.quiet) (oh hv hC (uv hv hC hz ?_))
 show wpAny _ _ _ _ _ _
 have kp:∀b o,h.get? b=some o->((h.push { cls:=.type "tuple",data:=.seq us.toArray }).push { cls:=.ref C,data:=.fields #[.ref h.objs.size,.none,.none,.none,.bool false,.none] }).get? b=some o :=
  fun b o e=>Heap.get?_push_of_some _ (Heap.get?_push_of_some _ e)
 have C1:=kp _ _ hC
 have gt:((h.push { cls:=.type "tuple",data:=.seq us.toArray }).push { cls:=.ref C,data:=.fields #[.ref h.objs.size,.none,.none,.none,.bool false,.none] }).get? (h.objs.size+1)
  =some { cls:=.ref C,data:=.fields #[.ref h.objs.size,.none,.none,.none,.bool false,.none] }:=by heap_get
 have cC:(Value.ref C::bm).contains (.ref C)=true:=by simp
 unfold isInstance
 repeat (first | with_reducible refine wpAny_loadPart_at gt ?_ | (with_reducible refine wpAny_isSubtype_exc C1 ?_; rw [cC]) | wp_step)
 show wpAny _ _ (typeLookup (.ref C) _) _ _ _
 refine hi _ _ _ _ kp ?_
 refine wpAny_holding (wpAny_bind ?_)
 unfold bindSpecial
 refine wpAny_bind (wpAny_typeOf (T:="function") ⟨_,kp _ _ hfI,hfc⟩ ?_)
 rw [if_pos (by decide)]
 refine wpAny_pure (wpAny_bind (wpAny_mono (hq _ kp (by rw [Heap.size_push,Heap.size_push]) gt) (fun r s' hr=>?_) fun _ _ x=>x))
 obtain ⟨rfl,hQ⟩:=hr
 wp_walk
 exact hQ
theorem uw (hv:OverVE bm) {us:List Value}{fI:Addr}{oI:Obj}{Q:Value->Shared->Prop}(hC:h.get? C=some (excClassObj nm q C N bs bm hdct sn sub ab col dd k0 k1 k2 k3 k5 "ValueError.__new__"))
  (hi:PySem.W.Looks (model prog w) h (typeLookup (.ref C) "__init__") (some (.ref fI))) (hfI:h.get? fI=some oI) (hfc:oI.cls=.type "function") (hz:us.length<=sizeLine)
  (hq:∀h',(∀b o,h.get? b=some o->h'.get? b=some o)->h'.objs.size=h.objs.size+2->h'.get? (h.objs.size+1)=some { cls:=.ref C,data:=.fields #[.ref h.objs.size,.none,.none,.none,.bool false,.none] } ->
   wpAny (model prog w) (A.under (.builtin "type.__call__" ⟨.ref C::us,[]⟩)) (call (.ref fI) (.ref (h.objs.size+1)::us)) (fun r s'=>r=.none/\Q (.ref (h.objs.size+1)) s') E ⟨h',g,d,t,os⟩) :
  wpAny (model prog w) A (call (.ref C) us) Q E ⟨h,g,d,t,os⟩:=by
 have f1:=tc_lookup
 have f2:=tc_bind (.ref C)
 have hT:(⟨h,g,d,t,os⟩:Shared).TypeIs (.ref C) "type":=⟨_,hC,rfl⟩
 refine wpAny_call (codeAny_of_tree ?_)
 show wpAny _ _ (callAny (.ref C) _) _ _ _
 repeat (any_goals (first | assumption | with_reducible refine wpAny_loadPart_at hC ?_ | wp_step))
 exact ⟨rfl,codeAny_call_builtin_at (Code.quiet_builtin _ (by decide +kernel)) entry_typeCall (wpAny_check_type_call_sub hC (sQ hv hC hi hfI hfc hz fun h' a1 a2 a3=>hq h' a1 a2 a3))⟩
end
end L2
end

section
set_option Elab.async false
set_option linter.all false
set_option maxRecDepth 100000
namespace L2
open PySem PySem.Spec PyProof.Rows
structure XCls (K:PySem.W.Frag) (C:Addr):Prop where
 obj:∃nm q N bs bm sn sub ab col dd k0 k1 k2 k3 k5,K.lookup C=some (excClassObj nm q C N bs bm true sn sub ab col dd k0 k1 k2 k3 k5 "ValueError.__new__")/\OverVE bm
 sa:PySem.W.findIn K (.ref C) "__setattr__"=some (some (.builtin "object.__setattr__"))
 ga:PySem.W.findIn K (.ref C) "__getattribute__"=some (some (.builtin "BaseException.__getattribute__"))
 gx:PySem.W.findIn K (.ref C) "__getattr__"=some none
theorem XCls.cd {K:PySem.W.Frag}{C:Addr}(c:XCls K C):∃cd,PySem.W.clsIn K C=some cd/\OverVE cd.mro/\cd.hasDict=true:=by
 obtain ⟨nm,q,N,bs,bm,sn,sub,ab,col,dd,k0,k1,k2,k3,k5,e,v⟩:=c.obj
 exact ⟨_,by unfold PySem.W.clsIn; rw [e],.own v,rfl⟩
theorem OverVE.ne {l:List Value}(x:OverVE l):l.isEmpty=false:=by cases x <;> rfl
theorem lm (self:Value) {l:List Value}(x:OverVE l):refuseLoop self "__setattr__" l=pure ():=by
 induction x with
 | base=>exact PySem.F.store_ValueError.passes self
 | own _ ih=>rw [refuseLoop_ref]; exact ih
section
variable {prog:Program}{w:World}{A:Around}{E:Value->Shared->Prop}{s:Shared}{K:PySem.W.Frag}{x C:Addr}{od:Option Addr}{vs:Array Value}{name:Str}{v:Value}
open PySem.W
theorem sR {M:Model}{h:Heap}{cd:ClassData}(X:K.In h) (hc:clsIn K C=some cd) (hv:OverVE cd.mro) {n:String}(hn:veTail.contains (.type n)=true):Looks M h (isSubtype (.ref C) (.type n)) true :=
 looks_mroIn X (by unfold mroIn; rw [hc,Option.bind_some,if_neg (by rw [hv.ne]; decide),hv.has hn])
theorem uu {M:Model}{h:Heap}(hx:h.get? x=some { cls:=.ref C,dict:=od,data:=.fields vs }):Looks M h (typeOf (.ref x)) (.ref C):=(Looks.ld hx).andThen .now
theorem oj {us:List Value}{Q:Value->Shared->Prop}(X:K.In s.heap) (c:XCls K C) (hx:s.heap.get? x=some { cls:=.ref C,dict:=od,data:=.fields vs }) (hz:us.length<=sizeLine) (h0:0<vs.size)
  (h:∀h',(∀b o,b≠x->s.heap.get? b=some o->h'.get? b=some o)->h'.get? x=some { cls:=.ref C,dict:=od,data:=.fields (vs.setIfInBounds 0 (.ref s.heap.objs.size)) }->Q .none { s with heap:=h' }) :
  wpAny (model prog w) A (call (.builtin "ValueError.__init__") (.ref x::us)) Q E s:=by
 obtain ⟨nm,q,N,bs,bm,sn,sub,ab,col,dd,k0,k1,k2,k3,k5,e,hv⟩:=c.obj
 have G:=PySem.F.excBase_ValueError
 have hC:=X _ _ e
 have c1:(Value.ref C::bm).contains (.type "ValueError")=true:=by rw [List.contains_cons,hv.has (b:=true) (by decide +kernel)]; rfl
 have c2:=G.noStar
 obtain ⟨hh,g,d,t,os⟩:=s
 dsimp only at hx hC
 refine wpAny_call (codeAny_call_builtin G.init.plain G.initEntry ?_)
 have ck:∀(Q':Unit->Shared->Prop),Q' () ⟨hh,g,d,t,os⟩->wpAny (model prog w) A.in1 (checkBuiltinCall "ValueError.__init__" ⟨.ref x::us,[]⟩) Q' (fun e s'=>match (Except.error e:Result) with | .ok (.ret v)=>Q v s' | .ok _=>False | .error e=>E e s') ⟨hh,g,d,t,os⟩:=fun Q' hq=>by
  simp only [checkBuiltinCall,G.initKind,G.initSplit,G.initRow]
  repeat (first | with_reducible refine wpAny_loadPart_at hx ?_ | with_reducible refine wpAny_loadPart_at hC ?_ | (with_reducible refine wpAny_isSubtype_exc hC ?_; rw [c1]) | wp_step)
  refine wpAny_onRaise ?_
  rw [show ∀(a b:String) (n:Nat),Bind.check ⟨.positional,"*","ValueError",.self,[⟨"args",.varPos,false⟩]⟩ a b n (List.map (fun y=>y.fst) ({ pos:=Value.ref x::us }:Args).kw)=pure () from fun a b n=>check_star_args _ _ _ _ _ _]
  exact wpAny_pure hq
 refine ck _ ?_
 unfold Builtin.«BaseException.__init__»
 have hx1:(hh.push { cls:=.type "tuple",data:=.seq us.toArray }).get? x=some { cls:=.ref C,dict:=od,data:=.fields vs }:=Heap.get?_push_of_some _ hx
 obtain ⟨v0,e0⟩:∃v0,vs[0]?=some v0:=⟨vs[0],by simp [h0]⟩
 wp_walk
 rw [e0]
 have fin:Q .none ⟨(hh.push { cls:=.type "tuple",data:=.seq us.toArray }).update x (Obj.mapFields (·.setIfInBounds 0 (.ref hh.objs.size))),g,d,t,os⟩:=by
  refine h _ (fun b o nb e=>?_) ?_
  ·rw [Heap.get?_update_other _ _ (Ne.symm nb)]; exact Heap.get?_push_of_some _ e
  ·rw [Heap.get?_update_self _ hx1 rfl]; rfl
 refine wpAny_pure (wpAny_bind (wpAny_setField hx1 rfl h0 ?_))
 cases v0 <;> first | exact wpAny_letGo (wpAny_pure fin) | exact wpAny_pure (wpAny_pure fin)
theorem lY {h:Heap}{dx:Addr}{odx:Obj}(hx:h.get? x=some { cls:=.ref C,dict:=some dx,data:=.fields vs }) (hd:h.get? dx=some odx):InstAt h x { cls:=.ref C,dict:=some dx,data:=.fields vs } C (some odx):=⟨hx,rfl,rfl,hd⟩
theorem kW {h:Heap}(hx:h.get? x=some { cls:=.ref C,dict:=none,data:=.fields vs }):InstAt h x { cls:=.ref C,dict:=none,data:=.fields vs } C none:=⟨hx,rfl,rfl,True.intro⟩
theorem vW {R:Result->Shared->Prop}{ox:Obj}{od:Option Obj}{tk:Tok}(X:K.In s.heap) (c:XCls K C) (I:InstAt s.heap x ox C od) (ht:takerIn K C name=some none)
  (h:∀b,wpAny (model prog w) A.in1 (Builtin.ObjectAttr.storeInOwnDict (.ref x) (.ref C) (.str name tk) name v b) (fun fin s'=>match fin with | .done f=>R (.ok f) s' | .again c'=>c'.quiet=true/\codeAny (model prog w) A c' R s') (fun e s'=>R (.error e) s') s) :
  codeAny (model prog w) A (.call (.builtin "object.__setattr__") ⟨[.ref x,.str name tk,v],[]⟩) R s:=by
 have SF:=PySem.F.store_object
 obtain ⟨cd,hc,hv,_⟩:=c.cd
 have sub:Looks (model prog w) s.heap (isInstance (.ref x) (.type "object")) true:=I.type.andThen (sR X hc hv (by decide +kernel))
 refine codeAny_call_builtin SF.slot.plain SF.entry (@check_slot (model prog w) _ _ s "object.__setattr__" "object" "__setattr__" (.ref x) [.str name tk,v] [] _ SF.kind SF.split sub (SF.args (.ref x) (.str name tk) v) ?_)
 obtain ⟨attr,ha,hr⟩:=Option.bind_eq_some_iff.mp ht
 have hm:Looks (model prog w) s.heap (mroOf (.ref C)) cd.mro:=(looks_clsIn X hc).andThen .now
 have L3:Looks (model prog w) s.heap (Builtin.ObjectAttr.storeTaker? attr) none:=by
  cases attr with
  | none=>exact .now
  | some a =>
   obtain ⟨b,hb,e⟩:=Option.map_eq_some_iff.mp hr
   refine (looks_takesIn X hb).andThen ?_
   cases b with
   | true=>cases e
   | false=>exact .now
 rw [osa_eq,refuse_eq]
 refine wpAny_bind (wpAny_bind (I.type.here (wpAny_bind (hm.here ?_))))
 rw [lm _ hv]
 refine wpAny_pure (wpAny_bind (I.type.here (wpAny_bind ((looks_findIn X ha).here (wpAny_bind (L3.here ?_))))))
 exact h _
theorem n_ {Q:Unit->Shared->Prop}(X:K.In s.heap) (c:XCls K C) (hx:s.heap.get? x=some { cls:=.ref C,dict:=none,data:=.fields vs }) (ht:takerIn K C name=some none)
  (h:∀h' tk,(∀b o,b≠x->s.heap.get? b=some o->h'.get? b=some o)->h'.get? x=some { cls:=.ref C,dict:=some s.heap.objs.size,data:=.fields vs } ->
   h'.Ns1 s.heap.objs.size (fun y=>if y=name then some v else none)->Q () { s with heap:=h',toks:=tk }) :
  wpAny (model prog w) A (setAttr (.ref x) name v) Q E s:=by
 obtain ⟨cd,hc,_,hd⟩:=c.cd
 have I:=kW hx
 refine set_plain X I c.sa (vW (s:={ s with toks:=s.toks+1 }) X c I ht fun b=>?_)
 obtain ⟨hh,g,d,t,os⟩:=s
 dsimp only at hx I X
 have hx1:(hh.push { cls:=.type "dict",data:=.dict #[] }).get? x=some { cls:=.ref C,dict:=none,data:=.fields vs }:=Heap.get?_push_of_some _ hx
 have xs:x≠hh.objs.size:=Nat.ne_of_lt (Heap.lt_size hx)
 refine wpAny_bind (wpAny_pure (wpAny_bind (wpAny_bind (wpAny_loadPart hx (wpAny_bind ((looks_clsIn X hc).here ?_))))))
 rw [hd]
 refine wpAny_bind (wpAny_alloc' (wpAny_bind (wpAny_update' hx1 ?_)))
 refine wpAny_pure ?_
 have gd:((hh.push { cls:=.type "dict",data:=.dict #[] }).update x fun o=>{ o with dict:=some hh.objs.size }).get? hh.objs.size=some { cls:=.type "dict",data:=.dict #[] } :=
  (Heap.get?_update_other _ _ xs).trans (Heap.get?_push_at rfl rfl)
 have nd:((hh.push { cls:=.type "dict",data:=.dict #[] }).update x fun o=>{ o with dict:=some hh.objs.size }).Ns hh.objs.size (fun _=>none):=⟨_,#[],_,gd,rfl,fun e he=>absurd he (by simp),fun _=>rfl⟩
 show wpAny _ _ (Builtin.ObjectAttr.storeInDict hh.objs.size (.str name _) name v) _ _ _
 unfold Builtin.ObjectAttr.storeInDict Builtin.ObjectAttr.newKeyGuard
 refine wpAny_bind (wpAny_pure (wpAny_bind (wpAny_nsSet1 (Heap.Ns1.of_empty nd) fun h' hn' hs=>?_)))
 obtain ⟨oD,esD,epD,hoD,hdD,hcD⟩:=hn'.count (Within.cons name v Within.nil)
 refine wpAny_bind (wpAny_lookBehind hoD (by rw [hdD]; exact pastItsLine_dict (Nat.le_trans hcD (by rw [List.length_cons,List.length_nil,sizeLine_eq]; omega))) ?_)
 refine wpAny_pure (h h' _ (fun b o nb e=>?_) ?_ hn')
 ·exact (hs.2 b (Nat.ne_of_lt (Heap.lt_size e))).trans ((Heap.get?_update_other _ _ (Ne.symm nb)).trans (Heap.get?_push_of_some _ e))
 ·exact (hs.2 x xs).trans (Heap.get?_update_self _ hx1 rfl)
theorem n8 {Q:Unit->Shared->Prop}{dx:Addr}{mA:Str->Option Value}{ns:List Str}(X:K.In s.heap) (c:XCls K C) (hx:s.heap.get? x=some { cls:=.ref C,dict:=some dx,data:=.fields vs }) (hn:s.heap.Ns1 dx mA)
  (hw:Within mA ns) (hz:ns.length<sizeLine) (ht:takerIn K C name=some none)
  (h:∀h' tk,(∀b o,b≠dx->s.heap.get? b=some o->h'.get? b=some o)->h'.Ns1 dx (fun y=>if y=name then some v else mA y)->Q () { s with heap:=h',toks:=tk }) :
  wpAny (model prog w) A (setAttr (.ref x) name v) Q E s:=by
 obtain ⟨cd,hc,_,hd⟩:=c.cd
 obtain ⟨odx,ho,_⟩:=hZ hn
 have I:=lY hx ho
 refine set_plain X I c.sa (vW (s:={ s with toks:=s.toks+1 }) X c I ht fun b=>?_)
 obtain ⟨hh,g,d,t,os⟩:=s
 dsimp only at hx I X hn
 refine wpAny_bind (wpAny_pure (wpAny_bind (wpAny_bind (wpAny_loadPart hx (wpAny_bind ((looks_clsIn X hc).here ?_))))))
 rw [hd]
 refine wpAny_pure (a:=some dx) ?_
 show wpAny _ _ (Builtin.ObjectAttr.storeInDict dx (.str name _) name v) _ _ _
 unfold Builtin.ObjectAttr.storeInDict Builtin.ObjectAttr.newKeyGuard
 refine wpAny_bind (wpAny_pure (wpAny_bind (wpAny_nsSet1 hn fun h' hn' hs=>?_)))
 obtain ⟨oD,esD,epD,hoD,hdD,hcD⟩:=hn'.count (Within.cons name v hw)
 refine wpAny_bind (wpAny_lookBehind hoD (by rw [hdD]; exact pastItsLine_dict (Nat.le_trans hcD (by rw [List.length_cons]; omega))) ?_)
 exact wpAny_pure (h h' _ (fun b o nb e=>(hs.2 b nb).trans e) hn')
theorem wm {Q:Value->Shared->Prop}{dx:Addr}{mA:Str->Option Value}{expr:Bool}(X:K.In s.heap) (c:XCls K C) (hx:s.heap.get? x=some { cls:=.ref C,dict:=some dx,data:=.fields vs }) (hn:s.heap.Ns1 dx mA)
  (ha:findIn K (.ref C) name=some none) (hv:mA name=some v) (hh:handedIn v=true) (h:Q v { s with toks:=s.toks+1 }):wpAny (model prog w) A (getAttr (.ref x) name expr) Q E s:=by
 obtain ⟨cd,hc,hve,hd⟩:=c.cd
 obtain ⟨odx,ho,hl⟩:=hZ hn
 have I:=lY hx ho
 have G:=PySem.F.attrBase_ValueError
 obtain ⟨hp,g,d,t,os⟩:=s
 dsimp only at hx I X
 have L0:=I.type (M:=model prog w)
 have L1:=looks_findIn (M:=model prog w) X c.ga
 have L2:=looks_findIn (M:=model prog w) X c.gx
 have hf:findObj K C (some odx) name=some (.value v):=findObj_own (by unfold hasDictIn; rw [hc]; exact hd) ha rfl (by rw [hl,hv])
 have L3:=looks_find (M:=model prog w) X I hf
 have sub:Looks (model prog w) hp (isInstance (.ref x) (.type "BaseException")) true:=L0.andThen (sR X hc hve (by decide +kernel))
 unfold getAttr getAttrBy
 refine wpAny_bind (wpAny_mkText (wpAny_holding (wpAny_bind (L0.at (wpAny_bind (L1.at ?_))))))
 have ne:(onTheHeap (Value.ref C) && Value.builtin "BaseException.__getattribute__" == Value.builtin "object.__getattribute__")=false:=by
  rw [show (Value.builtin "BaseException.__getattribute__" == Value.builtin "object.__getattribute__")=false from by decide +kernel,Bool.and_false]
 dsimp only
 rw [ne,if_neg (by decide)]
 have hb:Looks (model prog w) hp (hookBefore (.ref C)) none:=L2
 refine wpAny_bind (hb.at (wpAny_bind (wpAny_attempt (wpAny_holding ?_))))
 unfold callGetattribute
 rw [show (expr && onTheHeap (Value.builtin "BaseException.__getattribute__"))=false from Bool.and_false _,if_neg (by decide)]
 unfold boundAndCalled
 rw [G.ga.bind]
 refine wpAny_bind (wpAny_pure ?_)
 show wpAny _ _ (call (.builtin "BaseException.__getattribute__") [.ref x,.str name _]) _ _ _
 refine wpAny_call (codeAny_call_builtin G.ga.plain PySem.F.entry_bexc_ga ?_)
 refine @check_slot (model prog w) _ _ _ "BaseException.__getattribute__" "BaseException" "__getattribute__" (.ref x) [.str name _] [] _ (by decide +kernel) (by decide +kernel) sub (PySem.F.args_bexc_ga _ _) ?_
 unfold Builtin.«object.__getattribute__»
 refine wpAny_bind (wpAny_pure (wpAny_bind (wpAny_pure (wpAny_bind (L0.at (wpAny_bind (L3.at ?_)))))))
 refine wpAny_pure ?_
 show wpAny _ _ (handedOut v) _ _ _
 rw [handedOut_of hh]; exact wpAny_pure h
end
end L2
end

section
set_option Elab.async false
set_option linter.all false
set_option maxRecDepth 100000
namespace L2
open PySem PySem.Spec PyProof.Rows
theorem upd_id {H:Hp}{a:Addr}{o:HO}(e:H a=some o):upd H a o=H:=by
 funext b; unfold upd; split
 ·rename_i q; rw [q,e]
 ·rfl
def cX (d:Addr) (fs:List (Str×V)):Heap->Prop:=fun h=>∃mA,h.Ns1 d mA/\∀f,RelO (fs.lookup f) (mA f)
theorem lX {P:Program}{w:World}{K:PySem.W.Frag}{H:Hp}{h:Heap}{d:Addr}{fs:List (Str×V)}{mA:Str->Option Value}(n:h.Ns1 d mA) (r:∀f,RelO (fs.lookup f) (mA f)):ObjOk P w K H h d (.ext (cX d fs)):=by
 refine ⟨⟨mA,n,r⟩,?_,fun h1 h2 ⟨m,⟨o,es,ep,e,q⟩,z⟩ k=>⟨m,⟨o,es,ep,k _ e,q⟩,z⟩⟩
 obtain ⟨o,es,ep,e,_⟩:=n
 exact ⟨o,e⟩
structure vj (K:PySem.W.Frag) (T:Addr):Prop where
 rd:PySem.W.readsIn K T (.type "type")=true
 fi:PySem.W.findCls K (.ref T) (.type "type") "__init__"=some (.val (.builtin "ValueError.__init__"))
 ga:PySem.W.specialIn K (.ref T) "__getattribute__"=some (some (.builtin "type.__getattribute__"))
section
variable {X:Cx}{pins:List (Addr×Obj)}{σ:St}{H:Hp}{s:Shared}{a C:Addr}{od:Option Addr}
theorem Inv.exc (I:Inv X pins σ H s) (e:H a=some (.ext (cg a C od))):∃vs,s.heap.get? a=some { cls:=.ref C,dict:=od,data:=.fields vs }/\1<vs.size:=(I.hok a _ e).1
theorem Inv.excN (I:Inv X pins σ H s) (e:H a=some (.ext (aW a C od))):∃vs,s.heap.get? a=some { cls:=.ref C,dict:=od,data:=.fields vs }/\vs[1]?=some .none:=(I.hok a _ e).1
def sw (K:PySem.W.Frag) (t:TA):TE:=fun σ H Q=>t σ H fun vs H1=>∃a C od us,vs=.ref a::us/\H1 a=some (.ext (aW a C od))/\XCls K C/\us.length<=sizeLine/\Q .non H1
theorem rD {T:Addr}{x:Str}{p apos pos:Pos}{e:Expr}{es:List Expr}{t:TA}{pl:Sem Bool}(B:vj X.K T) (hg:Gl X x) (hm:X.mg x=some (.ref T)) (ha:PA X (e::es) t) (hdb:(x == ("__debug__":Str))=false:=by decide)
  (hst:starEach (e::es) X.env=(false,eval e X.env)::starEach es X.env:=by rfl) (hpl:(backTo pos (starEach es X.env)).any (·.1)=false:=by rfl)
  (ht:eval (.Call (.Attribute (.Name x p) "__init__" apos) (e::es) [] pos) X.env=(do
   let ov <- eval (.Name x p) X.env
   standAt apos.atName
   let (f,first) <- holding [ov] (getMethod ov "__init__" pl)
   callWith pos f first (backTo pos (starEach (e::es) X.env)) (backToKw pos (keywordEach [] X.env))):=by rfl) :
  PE X (.Call (.Attribute (.Name x p) "__init__" apos) (e::es) [] pos) (sw X.K t):=by
 intro pins s σ H Q I h
 refine PySem.W.methodCall_KW (pl:=pl) (dz I hg hm ?_ hdb) ht
 refine PySem.W.method_cls I.kIn B.ga (PySem.W.cls_value I.kIn B.rd B.fi rfl ?_)
 refine callWith_builtin1 (thn (ha pos pins _ σ H _ (I.tok _) h) fun us s1 ⟨vs,H1,I1,r,a,C,od,us',ev,e1,c,hz,q⟩=>?_) hst hpl
 subst ev
 cases r with
 | cons ra rr =>
  obtain rfl:=(show _=Value.ref a from ra)
  obtain ⟨ws,ew,e1'⟩:=I1.excN e1
  have h0:0<ws.size:=Nat.lt_of_lt_of_le Nat.zero_lt_one (Nat.le_of_lt (Array.getElem?_eq_some_iff.mp e1').1)
  refine oj I1.kIn c ew (by rw [<-rr.length]; exact hz) h0 fun h' kp gx=>⟨.non,H1,?_,rfl,q⟩
  have z:=I1.write (x:=a) (e:=a) (o:=.ext (aW a C od)) (h':=h') (t':=s1.toks) (by rw [e1]; exact True.intro) (.inl rfl) (fun b u nb g=>kp b u nb g) ⟨_,gx⟩ (dD gx (by rw [Array.getElem?_setIfInBounds_ne (by decide)]; exact e1'))
  rw [upd_id e1] at z
  exact z
def tE (K:PySem.W.Frag) (ta tv:TE) (f:Str):TS:=fun D σ H=>tv σ H fun y H1=>ta σ H1 fun x H2=>∃a C,x=.ref a/\XCls K C/\NoAttr K C f /\
  ((H2 a=some (.ext (aW a C none))/\∀d,H2 d=none->d≠a->D.nx σ (upd (upd H2 d (.ext (cX d [(f,y)]))) a (.ext (aW a C (some d))))) ∨
   (∃d fs,H2 a=some (.ext (aW a C (some d)))/\H2 d=some (.ext (cX d fs))/\fs.length<1000/\D.nx σ (upd H2 d (.ext (cX d (cv f y fs))))))
theorem o6 {o value:Expr}{f:Str}{pos pos':Pos}{ta tv:TE}(ha:PE X o ta) (hv:PE X value tv) (hs:swapsWith value (some (.Attribute o f pos')) pos.line X.env=pure false):PS X (.Assign [.Attribute o f pos'] value pos) (tE X.K ta tv f):=by
 intro pins s σ H D I h
 refine plainObj_wpAny_Assign_Attribute (thn (hv pins s σ H _ I h) fun u s1 ⟨y,H1,I1,ry,q⟩=>thn (ha pins s1 σ H1 _ I1 q) fun ov s2 ⟨x,H2,I2,rx,a,C,ex,c,n,q2⟩=>?_) hs
 subst ex
 obtain rfl:ov=Value.ref a:=rx
 rcases q2 with ⟨e,q2⟩ | ⟨d,fs,e,ed,hl,q2⟩
 ·obtain ⟨vs,g,g1⟩:=I2.excN e
  refine n_ I2.kIn c g n.taker fun h' tk kp gx gd=>?_
  have nd:s2.heap.objs.size≠a:=Nat.ne_of_gt (Heap.lt_size g)
  have hn:H2 s2.heap.objs.size=none:=I2.hok.fresh (Nat.le_refl _)
  have other:∀b u,H2 b=some u->(∀φ,u≠.ext φ)->b≠a:=fun b u z nz w'=>nz _ (by rw [w',e] at z; exact (Option.some.inj z).symm)
  have nw:∀b,b≠a->b≠s2.heap.objs.size->upd (upd H2 s2.heap.objs.size (.ext (cX s2.heap.objs.size [(f,y)]))) a (.ext (aW a C (some s2.heap.objs.size))) b=H2 b:=fun b h1 h2=>by rw [aj h1,aj h2]
  have fr:∀b u,H2 b=some u->b≠s2.heap.objs.size:=fun b u z w'=>by rw [w',hn] at z; cases z
  have un:Un X.fs [] H2 (upd (upd H2 s2.heap.objs.size (.ext (cX s2.heap.objs.size [(f,y)]))) a (.ext (aW a C (some s2.heap.objs.size)))) s2.heap h':=by
   have na:∀b,H2 b=none->b≠a:=fun b z w'=>by rw [w',e] at z; cases z
   refine ⟨fun b o z zn _ _=>kp b o (na b zn) z,fun b o z zn _ _=>⟨o.slots,kp b o (na b zn) z⟩,fun b o z zn _=>by rw [nw b (na b zn) (Nat.ne_of_lt (Heap.lt_size z))]; exact zn,fun b o z _=>?_,
    fun b xs z=>by rw [nw b (other b _ z (by intro φ w'; cases w')) (fr b _ z)]; exact z,fun b ob u z=>by rw [nw b (other b _ z (by intro φ w'; cases w')) (fr b _ z)]; exact z,
    fun b ps z=>⟨#[],by rw [nw b (other b _ z (by intro φ w'; cases w')) (fr b _ z),z]; simp⟩⟩
   by_cases hb:b=a
   ·rw [hb]; exact ⟨_,gx⟩
   ·exact ⟨o,kp b o hb z⟩
  have ok:HOk X.prog X.w X.K (upd (upd H2 s2.heap.objs.size (.ext (cX s2.heap.objs.size [(f,y)]))) a (.ext (aW a C (some s2.heap.objs.size)))) h':=fun b u z=>by
   by_cases hb:b=a
   ·subst hb; rw [aa] at z; cases z; exact dD gx g1
   ·by_cases hd:b=s2.heap.objs.size
    ·subst hd
     rw [aj hb,aa] at z; cases z
     refine lX gd fun g'=>?_
     show RelO (List.lookup g' [(f,y)]) _
     by_cases q:g'=f
     ·rw [q,if_pos rfl]; simp [List.lookup]; exact ry
     ·rw [if_neg q]
      have:(g' == f)=false:=beq_eq_false_iff_ne.mpr q
      simp only [List.lookup,this]
      exact True.intro
    ·rw [nw b hb hd] at z
     refine (I2.hok b u z).stay (fun c' v hc z'=>kp c' v ?_ z') (fun c' z'=>by rw [nw c' (other c' _ z' (by intro φ w'; cases w')) (fr c' _ z')]; exact z') fun c' xs z'=>by rw [nw c' (other c' _ z' (by intro φ w'; cases w')) (fr c' _ z')]; exact z'
     rcases hc with rfl | hc
     ·exact hb
     ·exact other c' _ hc (by intro φ w'; cases w')
  exact ⟨σ,_,I2.un (t':=tk) un ok,q2 _ hn nd⟩
 ·obtain ⟨vs,g,g1⟩:=I2.excN e
  obtain ⟨mA,nA,rA⟩:=(I2.hok d _ ed).1
  have wi:PySem.Within mA (fs.map (·.1)):=fun g' hg=>by
   have r:=rA g'
   cases q:fs.lookup g' with
   | none=>rw [q] at r; exact absurd (RelO.none_of r) hg
   | some y'=>exact List.mem_map.mpr ⟨(g',y'),PySem.mem_of_lookup q,rfl⟩
  refine n8 I2.kIn c g nA wi (by rw [List.length_map,sizeLine_eq]; omega) n.taker fun h' tk kp gd=>?_
  have hd':∃o,h'.get? d=some o:=let ⟨o,_,_,e',_⟩:=gd; ⟨o,e'⟩
  refine ⟨σ,_,I2.write (x:=d) (e:=d) (h':=h') (t':=tk) (by rw [ed]; exact True.intro) (.inl rfl) (fun b u nb z=>kp b u nb z) hd' (lX gd fun g'=>?_),q2⟩
  rw [bh]
  by_cases q:g'=f
  ·rw [if_pos q,if_pos q]; exact ry
  ·rw [if_neg q,if_neg q]; exact rA g'
def tj (K:PySem.W.Frag) (ta:TE) (f:Str):TE:=fun σ H Q=>ta σ H fun x H1=>∃a C d fs v,x=.ref a/\H1 a=some (.ext (cg a C (some d)))/\H1 d=some (.ext (cX d fs))/\XCls K C/\NoAttr K C f/\fs.lookup f=some v/\Q v H1
theorem o9 {e:Expr}{f:Str}{pos:Pos}{ta:TE}(he:PE X e ta) (hb:attributeBase e f X.env (eval e X.env)=eval e X.env):PE X (.Attribute e f pos) (tj X.K ta f):=by
 intro pins s σ H Q I h
 refine qk hb (thn (he pins s σ H _ I h) fun u s1 ⟨x,H1,I1,rx,a,C,d,fs,v,ex,ea,ed,c,n,l,q⟩=>?_)
 subst ex
 obtain rfl:u=Value.ref a:=rx
 obtain ⟨vs,g,_⟩:=I1.exc ea
 obtain ⟨mA,nA,rA⟩:=(I1.hok d _ ed).1
 obtain ⟨u',hu,ru⟩:=RelO.some_of (v:=v) (o:=mA f) (by rw [<-l]; exact rA f)
 exact wm I1.kIn c g nA n hu (kB ru) ⟨v,H1,I1.tok _,ru,q⟩
end
end L2
end

section
set_option Elab.async false
set_option linter.all false
set_option maxRecDepth 100000
namespace L2
open PySem PySem.Spec PyProof.Rows
section
variable {M:Model}{A:Around}{E:Value->Shared->Prop}{s:Shared}{env:Env}{nm q:Str}{C N a:Addr}{bs bm:List Value}{hdct:Bool}{sn:List Str}{sub:List Value}{ab:Bool}{col:Option Bool}{dd od:Option Addr}{k0 k1 k2 k3 k5:Option Value}{newId:String}{vs:Array Value}
theorem og {x:Sem Value}{Q:Flow->Shared->Prop}(hv:OverVE bm) (hh:A.handled=none)
  (h:wpAny M A x (fun v s1=>∃a od vs,v=.ref a/\s1.heap.get? C=some (excClassObj nm q C N bs bm hdct sn sub ab col dd k0 k1 k2 k3 k5 newId)/\s1.heap.get? a=some { cls:=.ref C,dict:=od,data:=.fields vs }/\vs[1]?=some .none/\E (.ref a) s1) E s) :
  wpAny M A (raiseStmt env (some x) none) Q E s:=by
 have cB:(Value.ref C::bm).contains (.type "BaseException")=true:=by rw [List.contains_cons,hv.has (b:=true) (by decide +kernel)]; rfl
 unfold raiseStmt
 refine wpAny_bind (wpAny_mono h (fun v s1 h1=>?_) fun _ _ y=>y)
 obtain ⟨a,od,vs,rfl,hC,ha,h0,hE⟩:=h1
 obtain ⟨hp,g,d,tk,os⟩:=s1
 repeat (first | with_reducible refine wpAny_field ha rfl h0 ?_ | with_reducible refine wpAny_loadPart_at ha ?_ | with_reducible refine wpAny_loadPart_at hC ?_ | (with_reducible refine wpAny_isSubtype_exc hC ?_; rw [cB]) | wp_step)
 exact wpAny_raiseNew_none hh hE
end
section
variable {X:Cx}{pins:List (Addr×Obj)}{σ:St}{H:Hp}{s:Shared}{C f:Addr}{k:Nat}{fd:FuncData}{ps:List Str}{sp:Sp}
theorem oM {us:List Value}{vs:List V}{QH:Hp->Prop}(c:XCls X.K C) (hi:PySem.W.findIn X.K (.ref C) "__init__"=some (some (.ref f))) (hf:PySem.W.isFn X.K (.ref f)=true)
  (F:gy X.prog X.w X.K X.mg X.base CX0 k f fd ps sp) (hr:Room (k+1) X.A) (hb:Binds X.K fd ps []) (I:Inv X pins σ H s) (r:Vals vs us) (hz:us.length<=sizeLine)
  (h:sp (.ref (s.heap.objs.size+1)::vs) (upd H (s.heap.objs.size+1) (.ext (aW (s.heap.objs.size+1) C none))) (fun v H2=>v=.non/\QH H2) E0) {E:Value->Shared->Prop} :
  wpAny (model X.prog X.w) X.A (call (.ref C) us) (fun u s'=>u=.ref (s.heap.objs.size+1)/\∃H2,Inv X pins σ H2 s'/\QH H2) E s:=by
 obtain ⟨nm,q,N,bs,bm,sn,sub,ab,col,dd,k0,k1,k2,k3,k5,e,hv⟩:=c.obj
 have KI:=I.kIn
 obtain ⟨oI,hoI,hcI⟩:∃oI,X.K.lookup f=some oI/\oI.cls=.type "function":=by
  obtain ⟨o,ho,e⟩:=Option.map_eq_some_iff.mp (beq_iff_eq.mp hf)
  exact ⟨o,ho,e⟩
 obtain ⟨hh,g,d,t,os⟩:=s
 refine uw (q:=q) (h:=hh) hv (KI _ _ e) (PySem.W.looks_findIn KI hi) (KI _ _ hoI) hcI hz fun h' kp z gx=>?_
 dsimp only at h I
 have I2:=I.laid (a:=hh.objs.size+1) (o:=.ext (aW (hh.objs.size+1) C none)) (h':=h') (t':=t) kp (Nat.le_succ _) (dD gx rfl)
 have r2:Vals (V.ref (hh.objs.size+1)::vs) (Value.ref (hh.objs.size+1)::us):=.cons rfl r
 have hl:((Value.ref (hh.objs.size+1)::us)++[]).length=ps.length:=by rw [List.append_nil,<-r2.length]; exact F.len _ _ _ _ h
 have bd:=hb _ (Value.ref (hh.objs.size+1)::us) I2.kIn hl
 rw [List.append_nil] at bd
 refine wpAny_call (codeAny_mono (F.run _ X.stack _ _ ⟨Value.ref (hh.objs.size+1)::us,[]⟩ (Value.ref (hh.objs.size+1)::us) _ _ E0 (hr.make C us []) (I2.env0.make C us []) bd r2 h) fun res s' hq=>?_)
 cases res with
 | error e=>exact hq.elim
 | ok fl =>
  cases fl with
  | ret u =>
   obtain ⟨v,H',I3,rv,ev,q3⟩:=I2.after hq
   subst ev
   exact ⟨rv,rfl,H',I3,q3⟩
  | next=>exact False.elim hq
  | brk=>exact False.elim hq
  | cont=>exact False.elim hq
end
end L2
end

section
set_option Elab.async false
set_option linter.all false
set_option maxRecDepth 100000
namespace L2
open PySem PySem.Spec PyProof.Rows
abbrev Cx.hnd (X:Cx) (v:Value):Cx:={ X with A:=X.A.mark (some v),calm:=false,xe:=fun _ _=>False }
section
variable {X:Cx}{pins:List (Addr×Obj)}{σ:St}{H:Hp}{s:Shared}{n:Nat}{a C:Addr}{od:Option Addr}{v:Value}
theorem Inv.hnd (I:Inv X pins σ H s) (v:Value):Inv (X.hnd v) pins σ H s :=
 ⟨⟨I.ok.mod,I.ok.kind,I.ok.glob,I.ok.blt,I.ok.above,I.ok.inj,I.ok.has,I.ok.cab,(fun z=>nomatch z),I.ok.frames,I.ok.stk,I.ok.exf,I.ok.bs,I.ok.bsz,I.ok.noex,I.ok.exfs,I.ok.funs,I.ok.frf⟩,I.os,I.bare,I.base,I.loc,I.cell,I.free,I.freeC,I.pin,I.hok,I.len⟩
theorem Inv.unhnd (I':Inv (X.hnd v) pins σ H s) (ok:X.Ok):Inv X pins σ H s:=⟨ok,I'.os,I'.bare,I'.base,I'.loc,I'.cell,I'.free,I'.freeC,I'.pin,I'.hok,I'.len⟩
theorem sS {M:Model}{A:Around}{Q:Unit->Shared->Prop}{E:Value->Shared->Prop}(I:Inv X pins σ H s) (y:jR X pins n) (fl:Flown n s.heap H a C od) (h:∀s',Inv X pins σ H s'->Flown n s'.heap H a C od->Q () s') :
  wpAny M A (setFlight (.ref a) none) Q E s:=by
 obtain ⟨vs,T,e,z,tr,fT⟩:=fl.tr
 unfold setFlight
 rcases tr with ⟨h1,rfl⟩ | ⟨t,oT,ts,rfl,h1,ny,hta,hT,hdT,h3⟩
 ·refine wpAny_bind (wpAny_field e rfl h1 ?_)
  rw [if_neg (by decide)]
  exact wpAny_pure (h s I fl)
 ·refine wpAny_bind (wpAny_field e rfl h1 ?_)
  rw [if_pos (show (Value.ref t != Value.none)=true from by simp)]
  refine wpAny_setField hT hdT (Array.getElem?_eq_some_iff.mp h3).1 ?_
  have kp:∀b o,b≠t->s.heap.get? b=some o->(s.heap.update t (Obj.mapFields (·.setIfInBounds 3 ((none:Option Addr).elim Value.none fun f=>rawInt f)))).get? b=some o:=fun b o nb g=>by
   rw [Heap.get?_update_other _ _ (Ne.symm nb)]; exact g
  have hz3:=(Array.getElem?_eq_some_iff.mp h3).1
  refine h _ (I.turned (t':=s.toks) (it:=t) kp (fT t rfl) (fun q=>absurd ny (Nat.not_le_of_lt (q ▸ y.loc))) (.inr (Nat.le_trans y.s0 ny)) (fun x c g q=>absurd ny (Nat.not_le_of_lt (q ▸ y.cell x c g))) (fun p hp q=>absurd ny (Nat.not_le_of_lt (q ▸ y.pin p hp))))
   ⟨fl.trk,fl.new,vs,some t,kp a _ (Ne.symm hta) e,z,.inr ⟨t,_,_,rfl,h1,ny,hta,Heap.get?_update_self _ hT (Obj.isFreed_of_fields (Obj.data_mapFields hdT _)),Obj.data_mapFields hdT _,by simp [hz3]⟩,fT⟩
theorem jM {M:Model}{A:Around}{E:Value->Shared->Prop}{i:Nat}{x:Str}{pos:Pos}{Q:Unit->Shared->Prop}(I:Inv X pins σ H s) (hN:X.N.Nodup) (hi:X.N[i]?=some x) (hx:X.env.scope.names.lookup x=some .local)
  (h:∀s',Inv X pins (σ.set i none) H s'->Q () s'):wpAny M A (do bindName X.env x .none; unbindBehindTheSuite X.env x pos) Q E s:=by
 obtain ⟨m,hn,hl⟩:=id I.loc
 have hcls:(X.env.scope.kind == .class || (X.env.scope.kind == .module && X.env.locals != X.env.globals))=false:=by rw [I.ok.kind]; rfl
 have hiσ:i<σ.length:=by rw [I.len]; exact (List.getElem?_eq_some_iff.mp hi).1
 have cne:=I.cne
 refine wpAny_nameGoes_keeps hx hn hcls fun h' v hn' hs=>?_
 obtain ⟨oL,_,_,hoL,_⟩:=id hn
 have tracked:HOk X.prog X.w X.K H h':=fun b ob e=>by
  refine (I.hok b ob e).stay (fun c w' hc q=>(hs.2 c ?_).trans q) (fun _ q=>q) fun _ _ q=>q
  rintro rfl
  rcases hc with rfl | hc
  ·rw [I.free] at e; cases e
  ·rw [I.free] at hc; cases hc
 refine h _ ⟨I.ok,I.os,I.bare,⟨fun b o e n hb hx=>?_,fun b o e n hb hx=>?_,I.base.free,fun b o e hx=>?_,I.base.tups,I.base.frzs,I.base.tbls⟩,⟨_,hn',fun j y v' e1 e2 e3=>?_⟩,fun y c e=>?_,I.free,I.freeC,fun p hp=>?_,tracked,by simpa using I.len⟩
 ·exact (hs.2 b (Nat.ne_of_lt (Nat.lt_of_lt_of_le (Heap.lt_size e) I.ok.above))).trans (I.base.keep b o e n hb hx)
 ·obtain ⟨sl,e1⟩:=I.base.slot b o e n hb hx
  exact ⟨sl,(hs.2 b (Nat.ne_of_lt (Nat.lt_of_lt_of_le (Heap.lt_size e) I.ok.above))).trans e1⟩
 ·obtain ⟨o',e1⟩:=I.base.there b o e hx
  exact ⟨o',(hs.2 b (Nat.ne_of_lt (Nat.lt_of_lt_of_le (Heap.lt_size e) I.ok.above))).trans e1⟩
 ·by_cases hj:j=i
  ·subst hj
   rw [List.getElem?_set_self hiσ] at e2
   cases e2
  ·rw [List.getElem?_set_ne (Ne.symm hj)] at e2
   obtain ⟨u',r',q⟩:=hl j y v' e1 e2 e3
   refine ⟨u',r',?_⟩
   rcases q with ⟨k,e⟩ | ⟨k,c,e,z⟩
   ·refine .inl ⟨k,?_⟩
    have:y≠x:=fun e=>hj (jH hN e1 (e ▸ hi))
    simp [this,e]
   ·exact .inr ⟨k,c,e,z.sameBut hs (cne y c e)⟩
 ·obtain ⟨w',z⟩:=I.cell y c e
  exact ⟨w',z.sameBut hs (cne y c e)⟩
 ·obtain ⟨e,n,ne,nf,d⟩:=I.pin p hp
  exact ⟨(hs.2 p.1 ne).trans e,n,ne,nf,d⟩
def XE (X:Cx) (pins:List (Addr×Obj)) (σ:St) (W:XK) (e:Value) (s':Shared):Prop:=∃n a C od H',e=.ref a/\jR X pins n/\Inv X pins σ H' s'/\Flown n s'.heap H' a C od/\W (.ref C) (some a) H'
def XS (X:Cx) (pins:List (Addr×Obj)) (W:St->XK) (e:Value) (s':Shared):Prop:=∃n a C od σ' H',e=.ref a/\jR X pins n/\Inv X pins σ' H' s'/\Flown n s'.heap H' a C od/\W σ' (.ref C) (some a) H'
def PEX (X:Cx) (e:Expr) (t:XK->TE):Prop:=∀(pins:List (Addr×Obj)) (s:Shared) (σ:St) (H:Hp) (Q:VK) (W:XK),Inv X pins σ H s->t W σ H Q->wpAny (model X.prog X.w) X.A (eval e X.env) (EP X pins σ Q) (XE X pins σ W) s
def PH (X:Cx) (hs:List ExceptHandler) (t:eE->St->XK):Prop:=∀(pins:List (Addr×Obj)) (n:Nat) (s:Shared) (σ:St) (H:Hp) (D:eE) (a C:Addr) (od:Option Addr),Inv X pins σ H s->jR X pins n->Flown n s.heap H a C od->t D σ (.ref C) (some a) H ->
 wpAny (model X.prog X.w) X.A (handleBy (.ref a) X.env hs) (SP X pins D) X.xe s
def vX (tb:(St->XK)->TS) (th:eE->St->XK):TS:=fun D σ H=>tb (th D) D σ H
def uy (te:XK->TE) (i:Nat):(St->XK)->TS:=fun W D σ H=>te (W σ) σ H fun v H1=>D.nx (σ.set i (some v)) H1
def oE (te:XK->TE):(St->XK)->TS:=fun W D σ H=>te (W σ) σ H fun _ H1=>D.nx σ H1
def vC (tc:TT) (ta tb:(St->XK)->TS):(St->XK)->TS:=fun W=>c8 tc (ta W) (tb W)
def vA (t:TS):(St->XK)->TS:=fun _=>t
def PX1 (X:Cx) (b:Stmt) (t:(St->XK)->TS):Prop:=∀(pins:List (Addr×Obj)) (s:Shared) (σ:St) (H:Hp) (D:eE) (W:St->XK),Inv X pins σ H s->t W D σ H->wpAny (model X.prog X.w) X.A (exec b X.env) (SP X pins D) (XS X pins W) s
theorem XE.xs {e:Value}{W:St->XK}(h:XE X pins σ (W σ) e s):XS X pins W e s:=let ⟨n,a,C,od,H',ea,y,I,fl,q⟩:=h; ⟨n,a,C,od,σ,H',ea,y,I,fl,q⟩
theorem uN {e:Expr}{te:XK->TE}{x:Str}{i:Nat}{np pos:Pos}(hN:X.N.Nodup) (hi:X.N[i]?=some x) (hx:Loc X.env.scope x) (he:PEX X e te)
  (hs:swapsWith e (some (.Name x np)) pos.line X.env=pure false:=by rfl) (hf:X.fn x=true∨X.env.scope.names.lookup x=some .local:=by first | exact .inl rfl | exact .inr rfl | assumption) :
  PX1 X (.Assign [.Name x np] e pos) (uy te i):=by
 intro pins s σ H D W I h
 refine wpAny_Assign_Name (wpAny_mono (he pins s σ H _ (W σ) I h) (fun v s1 ⟨y,H1,I1,r1,q1⟩=>?_) fun _ _ z=>z.xs) hs
 exact gA I1 hN hi hx r1 (fun s2 I2=>⟨_,H1,I2,q1⟩) hf
theorem oZ {e:Expr}{te:XK->TE}{pos:Pos}(he:PEX X e te) (hs:swapsWith e none pos.line X.env=pure false:=by rfl):PX1 X (.Expr e pos) (oE te):=by
 intro pins s σ H D W I h
 exact wpAny_Expr_any (wpAny_mono (he pins s σ H _ (W σ) I h) (fun v s1 ⟨x,H1,I1,r1,q1⟩=>⟨σ,H1,I1,q1⟩) fun _ _ z=>z.xs) I.quiet hs
section
variable {f:Addr}{k:Nat}{fd:FuncData}{ps:List Str}{sp:Sp}{x:Str}{p pos:Pos}{e:Expr}{es:List Expr}{t:TA}
theorem XE.of {W:XK}{ev:Value}{H1:Hp}{s1 s':Shared}(I1:Inv X pins σ H1 s1) (h:CX1 X.prog X.w X.K X.stack H1 s1 W ev s'):XE X pins σ W ev s':=by
 obtain ⟨a,C,od,H',ea,os,bare,un,hok,fl,q⟩:=h
 exact ⟨_,a,C,od,H',ea,I1.young,I1.call' (ch:=[]) os un hok bare (fun b z=>absurd z (by simp)),fl,q⟩
theorem rp (F:gy X.prog X.w X.K X.mg X.base (CX1 X.prog X.w X.K) k f fd ps sp) (hr:Room k X.A) (hg:Gl X x) (hm:X.mg x=some (.ref f)) (hk:PySem.W.keepIn X.K (.ref f)=true) (hb:Binds X.K fd ps [])
  (ha:PA X.nox (e::es) t) (hdb:(x == ("__debug__":Str))=false:=by decide) (he:starEach (e::es) X.env=(false,eval e X.env)::starEach es X.env:=by rfl) (hpl:(backTo pos (starEach es X.env)).any (·.1)=false:=by rfl) :
  PEX X (.Call (.Name x p) (e::es) [] pos) (fun W=>av sp [] W t):=by
 intro pins s σ H Q W I h
 refine wpAny_Call_Name_kw (dz I hg hm ?_ hdb)
 refine PySem.W.callWith_K (h₀:=X.base) I.ok.mod.kin hk (wpAny_mono (ha pos pins s σ H _ (I.wish _) h) (fun us s1 ⟨vs,H1,I1',r,q⟩=>⟨I1'.kIn,?_⟩) fun _ _ z=>False.elim z) he hpl
 have I1:=I1'.unwish
 dsimp only at q
 rw [List.append_nil] at q
 have hl:(us++[]).length=ps.length:=by rw [List.append_nil,<-r.length]; exact F.len _ _ _ _ q
 have bd:=hb s1 us I1.kIn hl
 rw [List.append_nil] at bd
 refine wpAny_call (codeAny_mono (F.run X.A X.stack s1 H1 ⟨us,[]⟩ us vs Q W hr I1.env0 bd r q) fun res s' hq=>?_)
 cases res with
 | error ev=>exact XE.of I1 hq
 | ok fl =>
  cases fl with
  | ret u=>exact I1.after hq
  | next=>exact False.elim hq
  | brk=>exact False.elim hq
  | cont=>exact False.elim hq
end
section
variable {cn nme:Str}{Dc:Addr}{np hpos:Pos}{b0:Stmt}{suite:List Stmt}{rest:List ExceptHandler}{th:TS}{tr:eE->St->XK}{i:Nat}
def vZ (K:PySem.W.Frag) (Dc:Addr) (i:Nat) (th:TS) (tr:eE->St->XK):eE->St->XK:=fun D σ cls oa H=>∃C a b,cls=.ref C/\oa=some a/\PySem.W.exmOne K (.ref C) (.ref Dc)=some b /\
 if b=true then th { nx:=fun σ' H'=>D.nx (σ'.set i none) H',rt:=D.rt,bk:=fun σ' H'=>D.bk (σ'.set i none) H',ct:=fun σ' H'=>D.ct (σ'.set i none) H' } (σ.set i (some (.ref a))) H else tr D σ cls oa H
def vY:eE->St->XK:=fun _ _ _ _ _=>False
theorem uR:PH X [] vY:=fun _ _ _ _ _ _ _ _ _ _ _ _ h=>h.elim
theorem vI (hN:X.N.Nodup) (hi:X.N[i]?=some nme) (hx:X.env.scope.names.lookup nme=some .local) (hg:Gl X cn) (hm:X.mg cn=some (.ref Dc)) (hsu:∀a:Addr,PSs (X.hnd (.ref a)) (b0::suite) th) (hre:PH X rest tr)
  (hdb:(cn == ("__debug__":Str))=false:=by decide):PH X (.ExceptHandler (some (.Name cn np)) (some nme) (b0::suite) hpos::rest) (vZ X.K Dc i th tr):=by
 intro pins n s σ H D a C od I y fl ⟨C',a',b,e1,e2,ex,h⟩
 cases e1; cases e2
 obtain ⟨vs,g,_⟩:=I.exc fl.trk
 refine wpAny_handleBy_cons (codeAny_handlers_test ?_) (by intro q; cases q)
 refine dz (X:=X.hnd (.ref a)) (I.hnd (.ref a)) hg hm ?_ hdb
 refine (PySem.W.exm_one (M:=model X.prog X.w) I.kIn (uu g) ex).here ?_
 cases b with
 | false=>exact hre pins n s σ H D a C od I y fl h
 | true =>
  refine codeAny_handlers_suite_as (sS I y fl fun s1 I1 fl1=>?_)
  refine gA (X:=X) I1 hN hi (.inl hx) (v:=.ref a) (u:=.ref a) rfl (fun s2 I2=>?_) (.inr hx)
  refine wpAny_mono (hsu a pins s2 _ H _ (I2.hnd (.ref a)) h) (fun f s3 q3=>?_) fun _ _ z=>False.elim z
  cases f with
  | next=>obtain ⟨σ',H',I3,q⟩:=q3; exact jM (I3.unhnd I.ok) hN hi hx fun s4 I4=>⟨_,H',I4,q⟩
  | brk=>obtain ⟨σ',H',I3,q⟩:=q3; exact jM (I3.unhnd I.ok) hN hi hx fun s4 I4=>⟨_,H',I4,q⟩
  | cont=>obtain ⟨σ',H',I3,q⟩:=q3; exact jM (I3.unhnd I.ok) hN hi hx fun s4 I4=>⟨_,H',I4,q⟩
  | ret u=>obtain ⟨v,σ',H',I3,rv,q⟩:=q3; exact jM (I3.unhnd I.ok) hN hi hx fun s4 I4=>⟨v,_,H',I4,rv,q⟩
end
end
end L2
end

section
set_option Elab.async false
set_option linter.all false
set_option maxRecDepth 100000
namespace L2
open PySem PySem.Spec PyProof.Rows
structure vn (P:Program) (w:World) (K:PySem.W.Frag) (mg:Str->Option Value) (base:Heap) (x:Str) (ps:List Str) (k:Nat) (sp:Sp):Prop where
 ex:∃f fd,gy P w K mg base (CX1 P w K) k f fd ps sp/\mg x=some (.ref f)/\PySem.W.keepIn K (.ref f)=true/\Binds K fd ps []
structure wz (P:Program) (w:World) (K:PySem.W.Frag) (mg:Str->Option Value) (base:Heap) (x:Str) (C:Addr) (ps:List Str) (k:Nat) (sp:Sp):Prop where
 ex:∃f fd,gy P w K mg base (CX1 P w K) k f fd ps sp/\mg x=some (.ref C)/\Mk K C f/\Binds K fd ps []
structure vQ (P:Program) (w:World) (K:PySem.W.Frag) (mg:Str->Option Value) (base:Heap) (x:Str) (C:Addr) (ps:List Str) (k:Nat) (sp:Sp):Prop where
 ex:∃f fd,gy P w K mg base CX0 k f fd ps sp/\mg x=some (.ref C)/\XCls K C/\PySem.W.findIn K (.ref C) "__init__"=some (some (.ref f))/\PySem.W.isFn K (.ref f)=true/\PySem.W.keepIn K (.ref C)=true/\Binds K fd ps []
section
variable {X:Cx}{k:Nat}{ps:List Str}{sp:Sp}{E:XK}{x:Str}{C:Addr}{p pos np cpos:Pos}{e:Expr}{es:List Expr}{t:TA}{st:Stmt}{ts:TS}
theorem o8 (D:vn X.prog X.w X.K X.mg X.base x ps k sp) (hr:Room k X.A) (hg:Gl X x) (ha:PA X.nox (e::es) t) (hdb:(x == ("__debug__":Str))=false:=by decide)
  (he:starEach (e::es) X.env=(false,eval e X.env)::starEach es X.env:=by rfl) (hpl:(backTo pos (starEach es X.env)).any (·.1)=false:=by rfl) :
  PEX X (.Call (.Name x p) (e::es) [] pos) (fun W=>av sp [] W t):=by
 obtain ⟨f,fd,F,hm,hk,hb⟩:=D.ex
 exact rp F hr hg hm hk hb ha hdb he hpl
end
section
variable {P:Program}{w:World}{K:PySem.W.Frag}{mg:Str->Option Value}{base:Heap}
theorem Fun.okX {x qual:Str}{st:Stmt}{f:Addr}{fd:FuncData}{N ps:List Str}{k:Nat}{sp:Sp}(F:Fun K x qual st f fd) (S:bN N ps (az st)) (len:∀vs H Q E,sp vs H Q E->vs.length=ps.length)
  (hbody:∀(cdv:Value) (A:Around) (outer:List Env) (s:Shared) (H:Hp) (vs:List V) (Q:VK) (E:XK),Room k (A.deeper (envOfC qual (az st) s.heap.objs.size f cdv))->sp vs H Q E ->
   ∃t,PSs (qC (CX1 P w K) P w K mg base N qual (az st) f cdv A outer s H E) (bM st) t/\t { nx:=fun _ H'=>Q .non H',rt:=Q } (start N vs) H):gy P w K mg base (CX1 P w K) (k+1) f fd ps sp:=by
 obtain ⟨oc,od,kV,doc,pm,an,cdv,ct,osl,rfl,lk,hcd⟩:=F.ex
 refine u6 lk hcd S len fun A outer s H vs Q E hr hsp=>?_
 exact hbody cdv A outer s H vs Q E hr hsp
end
end L2
namespace L2
open PySem PySem.W
theorem u7 {K:Frag}{C D:Addr}{b:Bool}(h1:subIn K (.ref D) (.type "BaseException")=some true) (h2:isClsIn K D=true) (h3:typeIn K (.ref D)=some (.type "type")) (h4:subIn K (.ref C) (.ref D)=some b):exmOne K (.ref C) (.ref D)=some b:=by
 have h2':(clsIn K D).isSome=true:=h2
 unfold exmOne
 rw [h1,if_pos (by decide)]
 show (if ((clsIn K D).isSome && typeIn K (.ref D) == some (.type "type"))=true then subIn K (.ref C) (.ref D) else none)=some b
 rw [if_pos (by rw [h2',h3]; decide)]
 exact h4
end L2
end

section
set_option Elab.async false
set_option linter.all false
set_option maxRecDepth 100000
namespace L2
open PySem PySem.Spec PyProof.Rows
section
variable {X:Cx}
end
end L2
end

section
set_option Elab.async false
set_option linter.all false
set_option maxRecDepth 100000
namespace L2
open PySem PySem.Spec PyProof.Rows
section
variable {X:Cx}{k:Nat}{ps:List Str}{sp:Sp}{x:Str}{C:Addr}{p pos:Pos}{e:Expr}{es:List Expr}{t:TA}
end
end L2
end

section
set_option Elab.async false
set_option linter.all false
set_option maxRecDepth 100000
namespace L2
open PySem PySem.Spec PyProof.Rows
section
variable {X:Cx}
end
end L2
end

section
set_option Elab.async false
set_option linter.all false
set_option maxRecDepth 100000
namespace L2
open PySem PySem.Spec PyProof.Rows
section
variable {X:Cx}{o i value:Expr}{pos pos':Pos}{td ty tv:TE}
end
end L2
end

section
set_option Elab.async false
set_option linter.all false
set_option maxRecDepth 100000
namespace L2
open PySem PySem.Spec PyProof.Rows
def vE (K:PySem.W.Frag):R2:=fun x y H Q=>∃(p q:Addr) (l m:List Bool),x=.ref p/\y=.ref q/\SqL K H p (l.map V.bl)/\SqL K H q (m.map V.bl)/\Q (.bl (!decide (l=m))) H
theorem nS {l m:List Bool}(hl:l.length=m.length):((List.range l.length).all fun j=>decide (l[j]?=m[j]?))=decide (l=m):=by
 by_cases e:l=m
 ·subst e; simp
 ·rw [decide_eq_false e,List.all_eq_false]
  apply Classical.byContradiction
  intro h
  refine e (List.ext_getElem? fun i=>?_)
  rcases Nat.lt_or_ge i l.length with hi | hi
  ·apply Classical.byContradiction
   intro hne
   exact h ⟨i,List.mem_range.mpr hi,by simpa using hne⟩
  ·rw [List.getElem?_eq_none (by omega),List.getElem?_eq_none (by omega)]
section
variable {X:Cx}
theorem se {A:Around}{s:Shared}{l m:List Bool}{i j:List Value}(hi:Vals (l.map V.bl) i) (hj:Vals (m.map V.bl) j):∀n (h1:n<i.toArray.size) (h2:n<j.toArray.size),SeqAt.EqAt A s i.toArray[n] j.toArray[n] (decide (l[n]?=m[n]?)):=by
 intro n h1 h2
 have get:∀{l:List Bool}{i:List Value}(hi:Vals (l.map V.bl) i) (h:n<i.toArray.size),∃b,l[n]?=some b/\i.toArray[n]=.bool b:=by
  intro l i hi h
  obtain ⟨e,q⟩:=qj hi (i:=n) (v:=i.toArray[n]) (by simp)
  have hl:=hi.length
  rw [List.length_map] at hl
  have hn:n<l.length:=by rw [hl]; simpa using h
  refine ⟨l[n],List.getElem?_eq_getElem hn,?_⟩
  rw [e,List.getElem?_eq_getElem hn]
  rfl
 obtain ⟨b,e1,e2⟩:=get hi h1
 obtain ⟨c,e3,e4⟩:=get hj h2
 rw [e1,e2,e3,e4]
 have:=SeqAt.EqAt.bool_bool (A:=A) (s:=s) b c
 rwa [show (b == c)=decide (some b=some c) by cases b <;> cases c <;> rfl] at this
theorem uW (hu:X.A.units+16<cLine):OpR X (compareOp .NotEq) (vE X.K):=by
 intro pins s σ H x y v u Q I rx ry h
 obtain ⟨p,q,l,m,rfl,rfl,hp,hq,k⟩:=h
 cases rx
 cases ry
 obtain ⟨i,ri,pi,_⟩:=I.list hp
 obtain ⟨j,rj,pj,_⟩:=I.list hq
 have li:=ri.length
 have lj:=rj.length
 rw [List.length_map] at li lj
 by_cases e:l.length=m.length
 ·have r:=SeqAt.RcNeAt.lists (A:=X.A) pi.isList pj.isList (by simp; omega) (by omega) (se ri rj)
  rw [List.size_toArray,<-li,nS e] at r
  exact r X.prog X.w X.xe _ ⟨.bl _,H,I,rfl,k⟩
 ·have ne:¬l=m:=fun z=>e (by rw [z])
  have r:=SeqAt.RcNeAt.lists_lengths (A:=X.A) pi.isList pj.isList (by simp; omega) (by omega)
  rw [decide_eq_false ne] at k
  exact r X.prog X.w X.xe _ ⟨.bl _,H,I,rfl,k⟩
end
end L2
end

section
set_option Elab.async false
set_option linter.all false
set_option maxRecDepth 100000
namespace L2
open PySem PySem.Spec PyProof.Rows
section
variable {X:Cx}{pins:List (Addr×Obj)}{σ:St}{H:Hp}{s:Shared}{k:Nat}{f C:Addr}{fd:FuncData}{ps:List Str}{sp:Sp}
def jh (C:Addr) (sp:Sp) (t:TA):(St->XK)->TS:=fun W _ σ H=>t σ H fun vs H1=>vs.length<=sizeLine/\∀a,H1 a=none ->
 sp (.ref a::vs) (upd H1 a (.ext (aW a C none))) (fun v H2=>v=.non/\∃od,H2 a=some (.ext (aW a C od))/\W σ (.ref C) (some a) (upd H2 a (.ext (cg a C od)))) E0
theorem rh {x:Str}{np cpos pos:Pos}{e:Expr}{es:List Expr}{t:TA}(c:XCls X.K C) (hi:PySem.W.findIn X.K (.ref C) "__init__"=some (some (.ref f))) (hf:PySem.W.isFn X.K (.ref f)=true) (kp:PySem.W.keepIn X.K (.ref C)=true)
  (F:gy X.prog X.w X.K X.mg X.base CX0 k f fd ps sp) (hr:Room (k+1) X.A) (hb:Binds X.K fd ps []) (hc:X.calm=true) (hg:Gl X x) (hm:X.mg x=some (.ref C)) (ha:PA X.nox (e::es) t) (hdb:(x == ("__debug__":Str))=false:=by decide)
  (he:starEach (e::es) X.env=(false,eval e X.env)::starEach es X.env:=by rfl) (hpl:(backTo cpos (starEach es X.env)).any (·.1)=false:=by rfl) :
  PX1 X (.Raise (some (.Call (.Name x np) (e::es) [] cpos)) none pos) (jh C sp t):=by
 intro pins s σ H D W I h
 obtain ⟨nm,q,N,bs,bm,sn,sub,ab,col,dd,k0,k1,k2,k3,k5,eC,hv⟩:=c.obj
 rw [arm_exec_Raise]
 simp only [evalOpt,Option.map]
 refine wpAny_bind (wpAny_standAt (og (C:=C) (nm:=nm) (q:=q) (N:=N) (bs:=bs) (bm:=bm) (hdct:=true) (sn:=sn) (sub:=sub) (ab:=ab) (col:=col) (dd:=dd) (k0:=k0) (k1:=k1) (k2:=k2) (k3:=k3) (k5:=k5) (newId:="ValueError.__new__") hv (I.ok.hd hc) ?_))
 refine wpAny_bind (wpAny_mono (Q:=fun v s1=>∃a od vs,v=.ref a/\s1.heap.get? C=some (excClassObj nm q C N bs bm true sn sub ab col dd k0 k1 k2 k3 k5 "ValueError.__new__")/\s1.heap.get? a=some { cls:=.ref C,dict:=od,data:=.fields vs }/\vs[1]?=some .none/\XS X pins W (.ref a) s1) ?_ (fun v s3 h3=>wpAny_bind (wpAny_standAt (wpAny_pure h3))) fun _ _ y=>y)
 refine wpAny_Call_Name_kw (dz I hg hm ?_ hdb)
 refine PySem.W.callWith_K (h₀:=X.base) I.ok.mod.kin kp (wpAny_mono (ha cpos pins s σ H _ (I.wish _) h) (fun us s1 ⟨vs,H1,I1',r,hz,q1⟩=>⟨I1'.kIn,?_⟩) fun _ _ z=>False.elim z) he hpl
 have I1:=I1'.unwish
 refine wpAny_mono (oM (E:=XS X pins W) c hi hf F hr hb I1 r (by rw [<-r.length]; exact hz) (q1 (s1.heap.objs.size+1) (I1.hok.fresh (Nat.le_succ _)))) (fun u s2 ⟨eu,H2,I2,od,e2,q2⟩=>?_) fun _ _ z=>z
 obtain ⟨ws,gw,gw1⟩:=I2.excN e2
 refine ⟨s1.heap.objs.size+1,od,ws,eu,I2.kIn _ _ eC,gw,gw1,?_⟩
 have w1:1<ws.size:=(Array.getElem?_eq_some_iff.mp gw1).1
 have I3:=I2.write (x:=s1.heap.objs.size+1) (e:=s1.heap.objs.size+1) (o:=.ext (cg (s1.heap.objs.size+1) C od)) (h':=s2.heap) (t':=s2.toks) (by rw [e2]; exact True.intro) (.inl rfl) (fun b u _ g=>g) ⟨_,gw⟩ (ie gw w1)
 exact ⟨s1.heap.objs.size,_,C,od,σ,_,rfl,I1.young,I3,⟨aa,Nat.le_succ _,ws,none,gw,w1,.inl ⟨gw1,rfl⟩,fun t z=>by cases z⟩,q2⟩
theorem oX {x:Str}{np cpos pos:Pos}{e:Expr}{es:List Expr}{t:TA}(D:vQ X.prog X.w X.K X.mg X.base x C ps k sp) (hr:Room (k+1) X.A) (hc:X.calm=true) (hg:Gl X x) (ha:PA X.nox (e::es) t) (hdb:(x == ("__debug__":Str))=false:=by decide)
  (he:starEach (e::es) X.env=(false,eval e X.env)::starEach es X.env:=by rfl) (hpl:(backTo cpos (starEach es X.env)).any (·.1)=false:=by rfl) :
  PX1 X (.Raise (some (.Call (.Name x np) (e::es) [] cpos)) none pos) (jh C sp t):=by
 obtain ⟨f,fd,F,hm,c,hi,hf,kp,hb⟩:=D.ex
 exact rh c hi hf kp F hr hb hc hg hm ha hdb he hpl
end
end L2
end

section
set_option Elab.async false
set_option linter.all false
set_option maxRecDepth 100000
namespace L2
open PySem PySem.Spec PyProof.Rows
section
variable {prog:Program}{w:World}{A:Around}{E:Value->Shared->Prop}{s:Shared}{K:PySem.W.Frag}{x C:Addr}{ox:Obj}{odo:Option Obj}
open PySem.W
theorem sT {Q:Option Value->Shared->Prop}(X:K.In s.heap) (c:XCls K C) (I:InstAt s.heap x ox C odo) (hf:findObj K C odo "__class__"=some (.bind (.builtin "getset_descriptor.__get__") (.builtin "object.__class__")))
  (hm:mroIn K C (.type "object")=some true) (h:Q (some (.ref C)) { s with toks:=s.toks+1 }):wpAny (model prog w) A (getAttr? (.ref x) "__class__") Q E s:=by
 obtain ⟨cd,hc,hve,hd⟩:=c.cd
 have G:=PySem.F.attrBase_ValueError
 obtain ⟨hp,g,d,t,os⟩:=s
 dsimp only at I X
 have L0:=I.type (M:=model prog w)
 have L1:=looks_findIn (M:=model prog w) X c.ga
 have L2:=looks_findIn (M:=model prog w) X c.gx
 have L3:=looks_find (M:=model prog w) X I hf
 have sub:Looks (model prog w) hp (isInstance (.ref x) (.type "BaseException")) true:=L0.andThen (sR X hc hve (by decide +kernel))
 unfold getAttr? getAttrBy? getAttrBy
 refine wpAny_bind (wpAny_mkText (wpAny_bind (wpAny_attempt (wpAny_holding (wpAny_bind (L0.at (wpAny_bind (L1.at ?_))))))))
 have ne:(onTheHeap (Value.ref C) && Value.builtin "BaseException.__getattribute__" == Value.builtin "object.__getattribute__")=false:=by
  rw [show (Value.builtin "BaseException.__getattribute__" == Value.builtin "object.__getattribute__")=false from by decide +kernel,Bool.and_false]
 dsimp only
 rw [ne,if_neg (by decide)]
 have hb:Looks (model prog w) hp (hookBefore (.ref C)) none:=L2
 refine wpAny_bind (hb.at (wpAny_bind (wpAny_attempt (wpAny_holding ?_))))
 unfold callGetattribute
 rw [show (false && onTheHeap (Value.builtin "BaseException.__getattribute__"))=false from rfl,if_neg (by decide)]
 unfold boundAndCalled
 rw [G.ga.bind]
 refine wpAny_bind (wpAny_pure ?_)
 show wpAny _ _ (call (.builtin "BaseException.__getattribute__") [.ref x,.str "__class__" _]) _ _ _
 refine wpAny_call (codeAny_call_builtin G.ga.plain PySem.F.entry_bexc_ga ?_)
 refine @check_slot (model prog w) _ _ _ "BaseException.__getattribute__" "BaseException" "__getattribute__" (.ref x) [.str "__class__" _] [] _ (by decide +kernel) (by decide +kernel) sub (PySem.F.args_bexc_ga _ _) ?_
 unfold Builtin.«object.__getattribute__»
 refine wpAny_bind (wpAny_pure (wpAny_bind (wpAny_pure (wpAny_bind (L0.at (wpAny_bind (L3.at ?_)))))))
 show wpAny _ _ (Builtin.ObjectAttr.bindTo (.builtin "getset_descriptor.__get__") (.builtin "object.__class__") (.ref x) (.ref C)) _ _ _
 unfold Builtin.ObjectAttr.bindTo
 show wpAny _ _ (holding [Value.builtin "object.__class__"] (call (.builtin "getset_descriptor.__get__") [.builtin "object.__class__",.ref x,.ref C]) >>= ret) _ _ _
 refine wpAny_bind (wpAny_holding (wpAny_call (class_get (ox:=ox) (od:=odo) X I hm ?_)))
 show wpAny _ _ (ret (Value.ref C)) _ _ _
 refine wpAny_pure ?_
 show wpAny _ _ (handedOut (Value.ref C)) _ _ _
 rw [handedOut_of (by rfl)]
 exact wpAny_pure (wpAny_pure h)
theorem lI (hc:(clsIn K C).isSome=true) (ha:findIn K (.ref C) "__class__"=some (some (.builtin "object.__class__"))) (hn:specialIn K (.builtin "object.__class__") "__get__"=some (some (.builtin "getset_descriptor.__get__"))) (htk:takesIn K (.builtin "object.__class__")=some true) :
  findObj K C odo "__class__"=some (.bind (.builtin "getset_descriptor.__get__") (.builtin "object.__class__")):=by
 cases odo with
 | some o=>exact findObj_data hc ha hn htk
 | none =>
  obtain ⟨cd,hc⟩:=Option.isSome_iff_exists.mp hc
  unfold findObj
  rw [hc,Option.bind_some,ha,Option.bind_some]
  simp [hn,htk]
structure ExK (K:Frag) (C:Addr):Prop where
 cls:XCls K C
 ha:findIn K (.ref C) "__class__"=some (some (.builtin "object.__class__"))
 hn:specialIn K (.builtin "object.__class__") "__get__"=some (some (.builtin "getset_descriptor.__get__"))
 htk:takesIn K (.builtin "object.__class__")=some true
 hm:mroIn K C (.type "object")=some true
theorem mt (k:ExK K C):KitX K (.ref x) (.ref C) (fun h=>∃ox odo,InstAt h x ox C odo):=by
 obtain ⟨nm,q,N,bs,bm,sn,sub,ab,col,dd,k0,k1,k2,k3,k5,eC,hv⟩:=k.cls.obj
 obtain ⟨cd,hc,hve,hd⟩:=k.cls.cd
 refine ⟨fun _ _ _ ⟨_,_,I⟩=>I.type,fun M h X _=>?_,fun h tp dd its n sl X htp=>?_,fun X ⟨_,_,I⟩ q=>sT X k.cls I (lI (by rw [hc]; rfl) k.ha k.hn k.htk) k.hm q⟩
 ·intro A' Q' E' s' kk q
  unfold isType loadHead
  exact wpAny_bind (wpAny_loadPart (kk _ _ (X _ _ eC)) (wpAny_pure q))
 ·refine Bool.eq_false_iff.mpr fun q=>?_
  have e:C=tp:=Value.ref.inj (beq_iff_eq.mp q)
  subst e
  have z:=(X _ _ eC).symm.trans htp
  simp [excClassObj] at z
end
def vG (K:PySem.W.Frag):List V->Hp->VK->Prop:=fun xs H Q=>∃(a C:Addr) (od:Option Addr) (c:V) (u:Value) (b:Bool),xs=[.ref a,c]/\((∃d,c=.ref d/\u=.ref d)∨∃n,c=.ty n/\u=.type n)/\H a=some (.ext (cg a C od)) /\
 (od=none∨∃d fs,od=some d/\H d=some (.ext (cX d fs)))/\ExK K C/\PySem.W.kitOne K (.ref C) u=some b/\Q (.bl b) H
theorem mH {X:Cx}:CallR X (.builtin "isinstance") (vG X.K):=by
 intro pins s σ H xs us Q I r h
 obtain ⟨a,C,od,c,u,b,rfl,hc,ha,hd,k,e,q⟩:=h
 obtain ⟨v1,v2,rfl,r1,r2⟩:=qH r
 cases r1
 have e2:v2=u:=by
  rcases hc with ⟨d,rfl,rfl⟩ | ⟨n,rfl,rfl⟩
  ·exact r2
  ·exact r2
 subst e2
 obtain ⟨vs,g,_⟩:=I.exc ha
 have inst:∃ox odo,PySem.W.InstAt s.heap a ox C odo:=by
  rcases hd with rfl | ⟨d,fs,rfl,hdd⟩
  ·exact ⟨_,_,kW g⟩
  ·obtain ⟨_,⟨o,ho⟩,_⟩:=(show ObjOk X.prog X.w X.K H s.heap d (.ext (cX d fs)) from I.hok d _ hdd)
   exact ⟨_,_,lY g ho⟩
 exact PySem.W.kia_one (mt k) I.kIn inst e (fun z=>nomatch z) fun tk=>⟨.bl b,H,I.tok _,rfl,q⟩
end L2
end

section
set_option Elab.async false
set_option linter.all false
set_option maxRecDepth 100000
namespace L2
open PySem PySem.Spec PyProof.Rows
section
variable {prog:Program}{w:World}{A:Around}{E:Value->Shared->Prop}{h:Heap}{g:Array GenState}{d:Drawn}{t:Nat}{os:OsState}
variable {nm q:Str}{C N:Addr}{bs bm:List Value}{hdct:Bool}{sn:List Str}{sub:List Value}{ab:Bool}{col:Option Bool}{dd:Option Addr}{k0 k1 k2 k3 k5:Option Value}
theorem qF (hv:OverVE bm) {us:List Value}{Q:Fin->Shared->Prop}(hC:h.get? C=some (excClassObj nm q C N bs bm hdct sn sub ab col dd k0 k1 k2 k3 k5 "ValueError.__new__"))
  (hi:PySem.W.Looks (model prog w) h (typeLookup (.ref C) "__init__") (some (.builtin "ValueError.__init__"))) (hz:us.length<=sizeLine)
  (hq:∀h',(∀b o,h.get? b=some o->h'.get? b=some o)->h'.objs.size=h.objs.size+2->h'.get? (h.objs.size+1)=some { cls:=.ref C,data:=.fields #[.ref h.objs.size,.none,.none,.none,.bool false,.none] } ->
   wpAny (model prog w) A (call (.builtin "ValueError.__init__") (.ref (h.objs.size+1)::us)) (fun r s'=>r=.none/\Q (.done (.ret (.ref (h.objs.size+1)))) s') E ⟨h',g,d,t,os⟩) :
  wpAny (model prog w) A (Builtin.«type.__call__» ⟨.ref C::us,[]⟩) Q E ⟨h,g,d,t,os⟩:=by
 repeat (first | with_reducible refine wpAny_loadPart_at hC ?_ | with_reducible refine wpAny_madeBy_exc hC ?_ | wp_step)
 refine codeAny_call_builtin_code (Code.quiet_builtin _ PySem.F.excBase_ValueError.quiet) (oh hv hC (uv hv hC hz ?_))
 show wpAny _ _ _ _ _ _
 have kp:∀b o,h.get? b=some o->((h.push { cls:=.type "tuple",data:=.seq us.toArray }).push { cls:=.ref C,data:=.fields #[.ref h.objs.size,.none,.none,.none,.bool false,.none] }).get? b=some o :=
  fun b o e=>Heap.get?_push_of_some _ (Heap.get?_push_of_some _ e)
 have C1:=kp _ _ hC
 have gt:((h.push { cls:=.type "tuple",data:=.seq us.toArray }).push { cls:=.ref C,data:=.fields #[.ref h.objs.size,.none,.none,.none,.bool false,.none] }).get? (h.objs.size+1)
  =some { cls:=.ref C,data:=.fields #[.ref h.objs.size,.none,.none,.none,.bool false,.none] }:=by heap_get
 have cC:(Value.ref C::bm).contains (.ref C)=true:=by simp
 unfold isInstance
 repeat (first | with_reducible refine wpAny_loadPart_at gt ?_ | (with_reducible refine wpAny_isSubtype_exc C1 ?_; rw [cC]) | wp_step)
 show wpAny _ _ (typeLookup (.ref C) _) _ _ _
 refine hi _ _ _ _ kp ?_
 refine wpAny_holding (wpAny_bind ?_)
 rw [PySem.F.excBase_ValueError.init.bind]
 refine wpAny_pure (wpAny_bind (wpAny_mono (hq _ kp (by rw [Heap.size_push,Heap.size_push]) gt) (fun r s' hr=>?_) fun _ _ x=>x))
 obtain ⟨rfl,hQ⟩:=hr
 wp_walk
 exact hQ
theorem sU (hv:OverVE bm) {us:List Value}{Q:Value->Shared->Prop}(hC:h.get? C=some (excClassObj nm q C N bs bm hdct sn sub ab col dd k0 k1 k2 k3 k5 "ValueError.__new__"))
  (hi:PySem.W.Looks (model prog w) h (typeLookup (.ref C) "__init__") (some (.builtin "ValueError.__init__"))) (hz:us.length<=sizeLine)
  (hq:∀h',(∀b o,h.get? b=some o->h'.get? b=some o)->h'.objs.size=h.objs.size+2->h'.get? (h.objs.size+1)=some { cls:=.ref C,data:=.fields #[.ref h.objs.size,.none,.none,.none,.bool false,.none] } ->
   wpAny (model prog w) (A.under (.builtin "type.__call__" ⟨.ref C::us,[]⟩)) (call (.builtin "ValueError.__init__") (.ref (h.objs.size+1)::us)) (fun r s'=>r=.none/\Q (.ref (h.objs.size+1)) s') E ⟨h',g,d,t,os⟩) :
  wpAny (model prog w) A (call (.ref C) us) Q E ⟨h,g,d,t,os⟩:=by
 have f1:=tc_lookup
 have f2:=tc_bind (.ref C)
 have hT:(⟨h,g,d,t,os⟩:Shared).TypeIs (.ref C) "type":=⟨_,hC,rfl⟩
 refine wpAny_call (codeAny_of_tree ?_)
 show wpAny _ _ (callAny (.ref C) _) _ _ _
 repeat (any_goals (first | assumption | with_reducible refine wpAny_loadPart_at hC ?_ | wp_step))
 exact ⟨rfl,codeAny_call_builtin_at (Code.quiet_builtin _ (by decide +kernel)) entry_typeCall (wpAny_check_type_call_sub hC (qF hv hC hi hz fun h' a1 a2 a3=>hq h' a1 a2 a3))⟩
end
section
variable {X:Cx}{pins:List (Addr×Obj)}{σ:St}{H:Hp}{s:Shared}{C:Addr}
theorem m_ {us:List Value}(c:XCls X.K C) (hi:PySem.W.findIn X.K (.ref C) "__init__"=some (some (.builtin "ValueError.__init__"))) (I:Inv X pins σ H s) (hz:us.length<=sizeLine) {E:Value->Shared->Prop} :
  wpAny (model X.prog X.w) X.A (call (.ref C) us) (fun u s'=>u=.ref (s.heap.objs.size+1)/\Inv X pins σ (upd H (s.heap.objs.size+1) (.ext (aW (s.heap.objs.size+1) C none))) s') E s:=by
 obtain ⟨nm,q,N,bs,bm,sn,sub,ab,col,dd,k0,k1,k2,k3,k5,e,hv⟩:=c.obj
 have KI:=I.kIn
 obtain ⟨hh,g,d,t,os⟩:=s
 refine sU (q:=q) (h:=hh) hv (KI _ _ e) (PySem.W.looks_findIn KI hi) hz fun h' kp z gx=>?_
 have I2:=I.laid (a:=hh.objs.size+1) (o:=.ext (aW (hh.objs.size+1) C none)) (h':=h') (t':=t) kp (Nat.le_succ _) (dD gx rfl)
 refine oj (s:=⟨h',g,d,t,os⟩) (od:=none) I2.kIn c gx hz (Nat.succ_pos 5) fun h2 kk g2=>⟨rfl,rfl,?_⟩
 have I3:=I2.write (x:=hh.objs.size+1) (e:=hh.objs.size+1) (o:=.ext (aW (hh.objs.size+1) C none)) (h':=h2) (t':=t) (by rw [aa]; exact True.intro) (.inl rfl) (fun b u nb q=>kk b u nb q) ⟨_,g2⟩ (dD g2 (by rfl))
 rw [fm] at I3
 exact I3
def jg (C:Addr) (t:TA):(St->XK)->TS:=fun W _ σ H=>t σ H fun vs H1=>vs.length<=sizeLine/\∀a,H1 a=none->W σ (.ref C) (some a) (upd H1 a (.ext (cg a C none)))
theorem oY {x:Str}{np cpos pos:Pos}{e:Expr}{es:List Expr}{t:TA}(c:XCls X.K C) (hi:PySem.W.findIn X.K (.ref C) "__init__"=some (some (.builtin "ValueError.__init__"))) (kp:PySem.W.keepIn X.K (.ref C)=true)
  (hc:X.calm=true) (hg:Gl X x) (hm:X.mg x=some (.ref C)) (ha:PA X.nox (e::es) t) (hdb:(x == ("__debug__":Str))=false:=by decide)
  (he:starEach (e::es) X.env=(false,eval e X.env)::starEach es X.env:=by rfl) (hpl:(backTo cpos (starEach es X.env)).any (·.1)=false:=by rfl) :
  PX1 X (.Raise (some (.Call (.Name x np) (e::es) [] cpos)) none pos) (jg C t):=by
 intro pins s σ H D W I h
 obtain ⟨nm,q,N,bs,bm,sn,sub,ab,col,dd,k0,k1,k2,k3,k5,eC,hv⟩:=c.obj
 rw [arm_exec_Raise]
 simp only [evalOpt,Option.map]
 refine wpAny_bind (wpAny_standAt (og (C:=C) (nm:=nm) (q:=q) (N:=N) (bs:=bs) (bm:=bm) (hdct:=true) (sn:=sn) (sub:=sub) (ab:=ab) (col:=col) (dd:=dd) (k0:=k0) (k1:=k1) (k2:=k2) (k3:=k3) (k5:=k5) (newId:="ValueError.__new__") hv (I.ok.hd hc) ?_))
 refine wpAny_bind (wpAny_mono (Q:=fun v s1=>∃a od vs,v=.ref a/\s1.heap.get? C=some (excClassObj nm q C N bs bm true sn sub ab col dd k0 k1 k2 k3 k5 "ValueError.__new__")/\s1.heap.get? a=some { cls:=.ref C,dict:=od,data:=.fields vs }/\vs[1]?=some .none/\XS X pins W (.ref a) s1) ?_ (fun v s3 h3=>wpAny_bind (wpAny_standAt (wpAny_pure h3))) fun _ _ y=>y)
 refine wpAny_Call_Name_kw (dz I hg hm ?_ hdb)
 refine PySem.W.callWith_K (h₀:=X.base) I.ok.mod.kin kp (wpAny_mono (ha cpos pins s σ H _ (I.wish _) h) (fun us s1 ⟨vs,H1,I1',r,hz,q1⟩=>⟨I1'.kIn,?_⟩) fun _ _ z=>False.elim z) he hpl
 have I1:=I1'.unwish
 refine wpAny_mono (m_ (us:=us) (E:=XS X pins W) c hi I1 (by rw [<-r.length]; exact hz)) (fun u s2 ⟨eu,I2⟩=>?_) fun _ _ z=>z
 have q2:=q1 (s1.heap.objs.size+1) (I1.hok.fresh (Nat.le_succ _))
 have e2:upd H1 (s1.heap.objs.size+1) (.ext (aW (s1.heap.objs.size+1) C none)) (s1.heap.objs.size+1)=some (.ext (aW (s1.heap.objs.size+1) C none)):=aa
 obtain ⟨ws,gw,gw1⟩:=I2.excN e2
 refine ⟨s1.heap.objs.size+1,none,ws,eu,I2.kIn _ _ eC,gw,gw1,?_⟩
 have w1:1<ws.size:=(Array.getElem?_eq_some_iff.mp gw1).1
 have I3:=I2.write (x:=s1.heap.objs.size+1) (e:=s1.heap.objs.size+1) (o:=.ext (cg (s1.heap.objs.size+1) C none)) (h':=s2.heap) (t':=s2.toks) (by rw [e2]; exact True.intro) (.inl rfl) (fun b u _ g=>g) ⟨_,gw⟩ (ie gw w1)
 rw [fm] at I3
 exact ⟨s1.heap.objs.size,_,C,none,σ,_,rfl,I1.young,I3,⟨aa,Nat.le_succ _,ws,none,gw,w1,.inl ⟨gw1,rfl⟩,fun t z=>by cases z⟩,q2⟩
end
end L2
end

section
set_option Elab.async false
set_option linter.all false
set_option maxRecDepth 100000
namespace L2
open PySem PySem.Spec PyProof.Rows
section
variable {X:Cx}
def uz (t u:(St->XK)->TS):(St->XK)->TS:=fun W=>aB (t W) (u W)
end
end L2
end

section
set_option Elab.async false
set_option linter.all false
set_option maxRecDepth 100000
namespace L2
open PySem PySem.Spec PyProof.Rows PySem.W
structure XO (K:Frag) (C:Addr) (bm:List Value):Prop where
 ex:∃nm q N bs sn sub ab col dd k0 k1 k2 k3 k5,K.lookup C=some (excClassObj nm q C N bs bm true sn sub ab col dd k0 k1 k2 k3 k5 "ValueError.__new__")
structure XG (K:Frag):Prop where
 hn:specialIn K (.builtin "object.__class__") "__get__"=some (some (.builtin "getset_descriptor.__get__"))
 htk:takesIn K (.builtin "object.__class__")=some true
structure XX (K:Frag) (mg:Str->Option Value) (x:Str) (C Ct:Addr):Prop where
 g:mg x=some (.ref C)
 o:XO K C (.ref Ct::veTail)
 sa:findIn K (.ref C) "__setattr__"=some (some (.builtin "object.__setattr__"))
 ga:findIn K (.ref C) "__getattribute__"=some (some (.builtin "BaseException.__getattribute__"))
 gx:findIn K (.ref C) "__getattr__"=some none
 kp:keepIn K (.ref C)=true
 cl:findIn K (.ref C) "__class__"=some (some (.builtin "object.__class__"))
section
variable {K:Frag}{mg:Str->Option Value}{x y:Str}{C D Ct:Addr}{bm:List Value}
theorem XO.cls (h:XO K C bm):∃cd,clsIn K C=some cd/\cd.mro=.ref C::bm:=by
 obtain ⟨nm,q,N,bs,sn,sub,ab,col,dd,k0,k1,k2,k3,k5,e⟩:=h.ex
 exact ⟨_,by unfold clsIn; rw [e],rfl⟩
theorem XO.ty (h:XO K C bm):typeIn K (.ref C)=some (.type "type"):=by
 obtain ⟨nm,q,N,bs,sn,sub,ab,col,dd,k0,k1,k2,k3,k5,e⟩:=h.ex
 show (K.lookup C).map (·.cls)=_
 rw [e]; rfl
theorem XO.sub (h:XO K C bm) (v:Value):subIn K (.ref C) v=some ((Value.ref C::bm).contains v):=by
 obtain ⟨cd,e,m⟩:=h.cls
 unfold subIn mroIn
 dsimp only
 rw [e]
 show (if cd.mro.isEmpty then none else some (cd.mro.contains v))=_
 rw [m]; rfl
theorem XO.kitC (h:XO K C bm) {bd:List Value}(g:XO K D bd):kitCls K (.ref C) (.ref D)=some ((Value.ref C::bm).contains (.ref D)):=by
 obtain ⟨cd,e,m⟩:=g.cls
 unfold kitCls
 dsimp only
 rw [e,g.ty,if_pos (show ((some cd).isSome && some (Value.type "type") == some (Value.type "type"))=true by show (some (Value.type "type") == some (Value.type "type"))=true; decide)]
 exact h.sub _
theorem eg (a b:Addr):((Value.ref a) == (Value.ref b))=decide (b=a):=by
 by_cases e:b=a
 ·subst e; simp
 ·rw [decide_eq_false e]
  exact beq_false_of_ne fun z=>e (by injection z with z; exact z.symm)
theorem sq (a:Addr):veTail.contains (Value.ref a)=false:=rfl
theorem XX.cls (h:XX K mg x C Ct):XCls K C:=by
 obtain ⟨nm,q,N,bs,sn,sub,ab,col,dd,k0,k1,k2,k3,k5,e⟩:=h.o.ex
 exact ⟨⟨nm,q,N,bs,_,sn,sub,ab,col,dd,k0,k1,k2,k3,k5,e,.own .base⟩,h.sa,h.ga,h.gx⟩
theorem XX.exk (h:XX K mg x C Ct) (g:XG K):ExK K C:=by
 refine ⟨h.cls,h.cl,g.hn,g.htk,?_⟩
 have:=h.o.sub (.type "object")
 exact this
theorem XX.is (h:XX K mg x C Ct) (g:XX K mg y D Ct) (nt:D≠Ct):kitOne K (.ref C) (.ref D)=some (decide (D=C)):=by
 unfold kitOne
 by_cases e:D=C
 ·subst e; rw [if_pos (by simp),decide_eq_true rfl]
 ·rw [if_neg (by rw [eg,decide_eq_false e]; decide),h.o.kitC g.o,decide_eq_false e,List.contains_cons,List.contains_cons,sq]
  have h1:((Value.ref D) == (Value.ref C))=false:=by rw [eg]; exact decide_eq_false fun z=>e z.symm
  have h2:((Value.ref D) == (Value.ref Ct))=false:=by rw [eg]; exact decide_eq_false fun z=>nt z.symm
  rw [h1,h2]; rfl
theorem XX.ve (h:XX K mg x C Ct):kitOne K (.ref C) (.type "ValueError")=some true:=by
 unfold kitOne
 rw [if_neg (fun z=>by cases z)]
 unfold kitCls
 dsimp only
 rw [if_pos (by decide +kernel)]
 exact h.o.sub _
theorem XO.exm (h:XO K C bm) {bd:List Value}(g:XO K D bd) (b:bd.contains (.type "BaseException")=true):exmOne K (.ref C) (.ref D)=some ((Value.ref C::bm).contains (.ref D)):=by
 unfold exmOne
 rw [g.sub,List.contains_cons,b,if_pos (by simp)]
 exact h.kitC g
theorem XX.exm (h:XX K mg x C Ct) (g:XX K mg y D Ct) (nt:D≠Ct):exmOne K (.ref C) (.ref D)=some (decide (D=C)):=by
 have h2:((Value.ref D) == (Value.ref Ct))=false:=by rw [eg]; exact decide_eq_false fun z=>nt z.symm
 rw [h.o.exm g.o rfl,List.contains_cons,List.contains_cons,sq,h2,eg]
 by_cases e:C=D
 ·subst e; simp
 ·rw [decide_eq_false e,decide_eq_false fun z=>e z.symm]; rfl
end
structure XNo (K:Frag) (mg:Str->Option Value) (x:Str) (C:Addr):Prop where
 g:mg x=some (.ref C)
 cls:XCls K C
 hi:findIn K (.ref C) "__init__"=some (some (.builtin "ValueError.__init__"))
 kp:keepIn K (.ref C)=true
theorem r_:bootBuiltins "ValueError"=some (.type "ValueError"):=by decide +kernel
end L2
end

section
set_option Elab.async false
set_option linter.all false
set_option maxRecDepth 100000
namespace L2
open PySem PySem.Spec PyProof.Rows
structure qz (n:Nat) (h:Heap) (H:Hp) (a C:Addr) (od:Option Addr) (L:Addr):Prop where
 trk:H a=some (.ext (cg a C od))
 new:n<=a
 tr:∃vs t oT ts,h.get? a=some { cls:=.ref C,dict:=od,data:=.fields vs }/\vs[1]?=some (.ref t)/\n<=t/\t≠a/\h.get? t=some oT/\oT.data=.fields ts/\ts[3]?=some (rawInt L)/\H t=none
section
variable {M:Model}{A:Around}{E:Value->Shared->Prop}{s:Shared}{base:Heap}{env:Env}{outer:List Env}{L e:Addr}{oe:Obj}{vs:Array Value}{Q:Unit->Shared->Prop}
theorem n6 {head:Value}{hadNext:Bool}(hfr:A.frames=some (env::outer)) (hl:s.heap.FunFrames base (env::outer)) (hf:env.frame=some L)
  (he:s.heap.get? e=some oe) (hd:oe.data=.fields vs) (hsz:1<vs.size)
  (h:∀h' vs' oT ts,vT (frs (env::outer)) e none s.heap h'->h'.get? e=some { oe with data:=.fields vs' }->vs'[1]?=some (.ref s.heap.objs.size) ->
   h'.get? s.heap.objs.size=some oT->oT.data=.fields ts->ts[3]?=some (rawInt L)->Q () { s with heap:=h' }) :
  wpAny M A (do let fr <- frameOf env; let pl <- entryPlaceOf L hadNext; let nw <- EntryCells.newEntry head fr .none (rawInt L) .none pl; setField (.ref e) 1 nw) Q E s:=by
 have nfr:e∉frs (env::outer):=fun z=>by
  obtain ⟨_,o,q1,q2⟩:=hl.mem z
  rw [he] at q1; cases q1; exact q2 vs hd
 refine wpAny_bind (wpAny_frameOf_fun hfr hl hf fun h1 so=>wpAny_bind (wpAny_entryPlaceOf fun pl hpl=>?_))
 unfold EntryCells.newEntry newFields
 refine wpAny_bind (wpAny_newObj_type ?_ (hpl.sizeOk5 _ _ _ _ _))
 generalize hN:({ cls:=.type "traceback",dict:=none,data:=.fields ([head,.ref L,.none,rawInt L,.none]++(if pl.isEmpty then List.replicate 6 Value.none else pl)).toArray }:Obj)=oN
 have dN:oN.data=.fields ([head,.ref L,.none,rawInt L,.none]++(if pl.isEmpty then List.replicate 6 Value.none else pl)).toArray:=by rw [<-hN]
 have fN:oN.isFreed=false:=by rw [<-hN]; rfl
 have e1:h1.get? e=some oe:=(so.2.1 e nfr).trans he
 have e2:=Heap.get?_push_of_some (h:=h1) oN e1
 have z1:h1.objs.size=s.heap.objs.size:=so.1
 refine wpAny_setField e2 hd hsz ?_
 have ne:h1.objs.size≠e:=Nat.ne_of_gt (Heap.lt_size e1)
 have d3:=Obj.data_mapFields hd (·.setIfInBounds 1 (Value.ref h1.objs.size))
 have e3:=Heap.get?_update_self (Obj.mapFields (·.setIfInBounds 1 (Value.ref h1.objs.size))) e2 (Obj.isFreed_of_fields d3)
 have t3:((h1.push oN).update e (Obj.mapFields (·.setIfInBounds 1 (Value.ref h1.objs.size)))).get? h1.objs.size=some oN:=(Heap.get?_update_other (h1.push oN) _ (Ne.symm ne)).trans (Heap.get?_push_size h1 fN)
 have oth:∀b o,b≠e->h1.get? b=some o->((h1.push oN).update e (Obj.mapFields (·.setIfInBounds 1 (Value.ref h1.objs.size)))).get? b=some o:=fun b o nb q=>by
  rw [Heap.get?_update_other _ _ (Ne.symm nb)]
  exact Heap.get?_push_of_some _ q
 have e4:((h1.push oN).update e (Obj.mapFields (·.setIfInBounds 1 (Value.ref h1.objs.size)))).get? e=some { oe with data:=.fields (vs.setIfInBounds 1 (Value.ref h1.objs.size)) }:=by
  rw [e3,Obj.mapF hd]
 refine h _ _ _ _ ⟨fun b o q nb _ nf=>oth b o nb ((so.2.1 b nf).trans q),fun b o q nb _ nf=>?_,fun b o q=>?_⟩ e4 ?_ (by rw [<-z1]; exact t3) dN ?_
 ·obtain ⟨sl,q1⟩:=so.2.2 b o q
  exact ⟨sl,oth b _ nb q1⟩
 ·by_cases nb:b=e
  ·rw [nb]; exact ⟨_,e4⟩
  ·obtain ⟨sl,q1⟩:=so.2.2 b o q
   exact ⟨_,oth b _ nb q1⟩
 ·rw [<-z1]; simp [hsz]
 ·simp
theorem sP {n:Nat}{T:Option Addr}(hfr:A.frames=some (env::outer)) (hl:s.heap.FunFrames base (env::outer)) (hf:env.frame=some L)
  (he:s.heap.get? e=some oe) (hd:oe.data=.fields vs) (ht:Trc n s.heap e vs T)
  (h:∀h' vs' oT ts,vT (frs (env::outer)) e T s.heap h'->h'.get? e=some { oe with data:=.fields vs' }->vs'[1]?=some (.ref s.heap.objs.size) ->
   h'.get? s.heap.objs.size=some oT->oT.data=.fields ts->ts[3]?=some (rawInt L)->Q () { s with heap:=h' }):wpAny M A (noteFrame (.ref e) env) Q E s:=by
 unfold noteFrame
 simp only [hf]
 rcases ht with ⟨h1,rfl⟩ | ⟨t,oT,ts,rfl,h1,_,hte,hT,hdT,h3⟩
 ·refine wpAny_bind (wpAny_field he hd h1 ?_)
  rw [if_neg (by decide)]
  exact n6 hfr hl hf he hd (Array.getElem?_eq_some_iff.mp h1).1 h
 ·refine wpAny_bind (wpAny_field he hd h1 ?_)
  rw [if_pos (show (Value.ref t != Value.none)=true from by simp)]
  refine wpAny_bind (wpAny_field hT hdT h3 ?_)
  rw [if_neg (show ¬((Value.none == rawInt L)=true) from by simp [rawInt])]
  refine wpAny_bind (wpAny_setField hT hdT (Array.getElem?_eq_some_iff.mp h3).1 ?_)
  have oth:∀b,b≠t->(s.heap.update t (Obj.mapFields (·.setIfInBounds 3 Value.none))).get? b=s.heap.get? b:=fun b hb=>Heap.get?_update_other _ _ (Ne.symm hb)
  have tt:=Heap.get?_update_self (Obj.mapFields (·.setIfInBounds 3 Value.none)) hT (Obj.isFreed_of_fields (Obj.data_mapFields hdT _))
  have nrec:∀b o,s.heap.get? b=some o->(∀ws,o.data≠.fields ws)->b≠t:=fun b o hb hnf q=>by
   rw [q,hT] at hb; cases hb; exact hnf ts hdT
  have sz:(s.heap.update t (Obj.mapFields (·.setIfInBounds 3 Value.none))).objs.size=s.heap.objs.size:=Heap.size_after_update ..
  refine n6 (s:={ s with heap:=s.heap.update t (Obj.mapFields (·.setIfInBounds 3 Value.none)) }) hfr (hl.of_keeps fun b o hb hnf=>⟨o,(oth b (nrec b o hb hnf)).trans hb,rfl⟩) hf ((oth e (Ne.symm hte)).trans he) hd (Array.getElem?_eq_some_iff.mp h1).1 ?_
  intro h' vs' oT' ts' fl q1 q2 q3 q4 q5
  rw [sz] at q2 q3
  refine h h' vs' oT' ts' ⟨fun b o q nb nt nf=>fl.keep b o ((oth b fun z=>nt (by rw [z])).trans q) nb (by simp) nf,fun b o q nb nt nf=>fl.slot b o ((oth b fun z=>nt (by rw [z])).trans q) nb (by simp) nf,fun b o q=>?_⟩ q1 q2 q3 q4 q5
  by_cases hb:b=t
  ·rw [hb]; exact fl.there t _ tt
  ·exact fl.there b o ((oth b hb).trans q)
end
section
variable {X:Cx}{pins:List (Addr×Obj)}{σ:St}{H:Hp}{s:Shared}{n:Nat}{a C:Addr}{od:Option Addr}
def Fly (X:Cx) (n:Nat) (h:Heap) (H:Hp) (a C:Addr) (od:Option Addr):Prop:=Flown n h H a C od∨qz n h H a C od X.env.locals
theorem si {M:Model}{Q:Unit->Shared->Prop}{E:Value->Shared->Prop}(I:Inv X pins σ H s) (y:jR X pins n) (st:X.stack=X.env::X.outer) (sf:X.env.frame=some X.env.locals) (fl:Fly X n s.heap H a C od)
  (h:∀s',Inv X pins σ H s'->qz n s'.heap H a C od X.env.locals->Q () s'):wpAny M X.A (noteFrame (.ref a) X.env) Q E s:=by
 rcases fl with fl | fl
 ·obtain ⟨vs,T,e,z,tr,fT⟩:=fl.tr
  have hsk:=I.stack
  rw [st] at hsk
  refine sP (n:=n) (base:=X.base) (by rw [I.ok.frames,st]) hsk sf e rfl tr fun h' vs' oT ts fw q1 q2 q3 q4 q5=>?_
  have z':1<vs'.size:=(Array.getElem?_eq_some_iff.mp q2).1
  have hfs:∀b∈frs (X.env::X.outer),H b=none:=fun b hb=>I.stkFree b (by rw [st]; exact hb)
  have ok':=rK I.hok fl.trk fT hfs fw q1 z'
  have nT:∀t,T=some t->n<=t:=fun t ht=>by
   rcases tr with ⟨_,q⟩ | ⟨t',_,_,q,_,l,_⟩
   ·rw [q] at ht; cases ht
   ·rw [q] at ht; cases ht; exact l
  have inC:∀b,b≠X.env.locals->b∉X.fs->b∉frs (X.env::X.outer):=fun b h1 h2 hb=>by
   unfold frs at hb
   rw [List.filterMap_cons,sf] at hb
   exact (List.mem_cons.mp hb).elim h1 h2
  have notA:∀b,H b=none->b≠a:=fun b hb q=>by rw [q,fl.trk] at hb; cases hb
  obtain ⟨m0,⟨oL,esL,epL,hoL,rL⟩,_⟩:=id I.loc
  have hLin:X.env.locals∈frs (X.env::X.outer):=by unfold frs; rw [List.filterMap_cons,sf]; exact List.mem_cons_self
  have hLT:some X.env.locals≠T:=fun q=>absurd (nT _ q.symm) (Nat.not_le_of_lt y.loc)
  obtain ⟨slL,hL'⟩:=fw.slot _ oL hoL (notA _ I.free) hLT hLin
  refine h _ (I.step (g':=s.gens) (d':=s.drawn) (t':=s.toks) (ch:=T.toList) (fun b hb=>?_) (fun b o hL hf hc g hn=>?_) (fun b o hL hf hc g hn=>?_) (fun b o _ _ hn=>hn) (fun b o _ g=>fw.there b o g)
   (fun _ _ g=>g) (fun _ _ _ g=>g) (fun b ps g=>⟨#[],by rw [g]; simp⟩) (fun m hm=>?_) ok' I.bare) ⟨fl.trk,fl.new,vs',s.heap.objs.size,oT,ts,q1,q2,?_,?_,q3,q4,q5,?_⟩
  ·have hT:T=some b:=by cases T with
    | none=>simp at hb
    | some t=>simp at hb; rw [hb]
   have ny:=nT b hT
   exact ⟨.inr (Nat.le_trans y.s0 ny),fun q=>absurd ny (Nat.not_le_of_lt (q ▸ y.loc)),fun x c g q=>absurd ny (Nat.not_le_of_lt (q ▸ y.cell x c g)),fun p hp q=>absurd ny (Nat.not_le_of_lt (q ▸ y.pin p hp))⟩
  ·exact fw.keep b o g (notA b hn) (fun q=>hc (by rw [<-q]; simp)) (inC b hL hf)
  ·refine fw.slot b o g (notA b hn) (fun q=>hc (by rw [<-q]; simp)) ?_
   unfold frs
   rw [List.filterMap_cons,sf]
   exact List.mem_cons_of_mem _ hf
  ·obtain ⟨o',es',ep',ho',r'⟩:=hm
   rw [hoL] at ho'; cases ho'
   exact ⟨_,es',ep',hL',r'⟩
  ·exact Nat.le_trans (Nat.le_trans fl.new (Nat.le_of_lt (Heap.lt_size e))) (Nat.le_refl _)
  ·exact Nat.ne_of_gt (Heap.lt_size e)
  ·exact I.hok.fresh (Nat.le_refl _)
 ·obtain ⟨vs,t,oT,ts,e,h1,ny,hta,hT,hdT,h3,nt⟩:=fl.tr
  unfold noteFrame
  simp only [sf]
  refine wpAny_bind (wpAny_field e rfl h1 ?_)
  rw [if_pos (show (Value.ref t != Value.none)=true from by simp)]
  refine wpAny_bind (wpAny_field hT hdT h3 ?_)
  rw [if_pos (show (rawInt X.env.locals == rawInt X.env.locals)=true from by simp)]
  exact wpAny_pure (h s I fl)
theorem sj {M:Model}{A:Around}{Q:Unit->Shared->Prop}{E:Value->Shared->Prop}{L:Addr}(fr:Option Addr) (I:Inv X pins σ H s) (y:jR X pins n) (fl:qz n s.heap H a C od L)
  (h:∀s' vs t oT ts,Inv X pins σ H s'->s'.heap.get? a=some { cls:=.ref C,dict:=od,data:=.fields vs }->vs[1]?=some (.ref t)->n<=t->t≠a->s'.heap.get? t=some oT->oT.data=.fields ts->ts[3]?=some (fr.elim Value.none fun f=>rawInt f)->H t=none->Q () s') :
  wpAny M A (setFlight (.ref a) fr) Q E s:=by
 obtain ⟨vs,t,oT,ts,e,h1,ny,hta,hT,hdT,h3,nt⟩:=fl.tr
 unfold setFlight
 refine wpAny_bind (wpAny_field e rfl h1 ?_)
 rw [if_pos (show (Value.ref t != Value.none)=true from by simp)]
 refine wpAny_setField hT hdT (Array.getElem?_eq_some_iff.mp h3).1 ?_
 have kp:∀b o,b≠t->s.heap.get? b=some o->(s.heap.update t (Obj.mapFields (·.setIfInBounds 3 (fr.elim Value.none fun f=>rawInt f)))).get? b=some o:=fun b o nb g=>by
  rw [Heap.get?_update_other _ _ (Ne.symm nb)]; exact g
 have hz3:=(Array.getElem?_eq_some_iff.mp h3).1
 exact h _ vs t _ _ (I.turned (t':=s.toks) (it:=t) kp nt (fun q=>absurd ny (Nat.not_le_of_lt (q ▸ y.loc))) (.inr (Nat.le_trans y.s0 ny)) (fun x c g q=>absurd ny (Nat.not_le_of_lt (q ▸ y.cell x c g))) (fun p hp q=>absurd ny (Nat.not_le_of_lt (q ▸ y.pin p hp))))
  (kp a _ (Ne.symm hta) e) h1 ny hta (Heap.get?_update_self _ hT (Obj.isFreed_of_fields (Obj.data_mapFields hdT _))) (Obj.data_mapFields hdT _) (by simp [hz3]) nt
theorem n5 {M:Model}{Q:Unit->Shared->Prop}{E:Value->Shared->Prop}(I:Inv X pins σ H s) (y:jR X pins n) (st:X.stack=X.env::X.outer) (sf:X.env.frame=some X.env.locals) (fl:Fly X n s.heap H a C od)
  (h:∀s',Inv X pins σ H s'->Flown n s'.heap H a C od->Q () s'):wpAny M X.A (noteFrame (.ref a) X.env) (fun _ s'=>wpAny M X.A (setFlight (.ref a) none) Q E s') E s:=by
 refine si I y st sf fl fun s1 I1 f1=>sj none I1 y f1 fun s2 vs t oT ts I2 q1 q2 q3 q4 q5 q6 q7 q8=>h s2 I2 ⟨f1.trk,f1.new,vs,some t,q1,(Array.getElem?_eq_some_iff.mp q2).1,.inr ⟨t,oT,ts,rfl,q2,q3,q4,q5,q6,q7⟩,fun t' ht=>by cases ht; exact q8⟩
def XS2 (X:Cx) (pins:List (Addr×Obj)) (W:St->XK) (e:Value) (s':Shared):Prop:=∃n a C od σ' H',e=.ref a/\jR X pins n/\Inv X pins σ' H' s'/\Fly X n s'.heap H' a C od/\W σ' (.ref C) (some a) H'
theorem XS.two {W:St->XK}{e:Value}{s':Shared}(h:XS X pins W e s'):XS2 X pins W e s':=let ⟨n,a,C,od,σ',H',ea,y,I,fl,q⟩:=h; ⟨n,a,C,od,σ',H',ea,y,I,.inl fl,q⟩
theorem mJ {W:St->XK}{M:Model}(st:X.stack=X.env::X.outer) (sf:X.env.frame=some X.env.locals):PassesOwn M X.A X.env (XS2 X pins W):=by
 rintro e s' ⟨n,a,C,od,σ',H',rfl,y,I,fl,q⟩
 refine si I y st sf fl fun s1 I1 f1=>?_
 obtain ⟨vs,t,oT,ts,e1,h1,ny,hta,hT,hdT,h3,nt⟩:=id f1.tr
 refine wpAny_bind (wpAny_field e1 rfl h1 ?_)
 rw [if_neg (show ¬((Value.ref t == Value.none)=true) from by simp)]
 rw [sf]
 exact sj (some X.env.locals) I1 y f1 fun s2 vs t oT ts I2 q1 q2 q3 q4 q5 q6 q7 q8=>⟨n,a,C,od,σ',H',rfl,y,I2,.inr ⟨f1.trk,f1.new,vs,t,oT,ts,q1,q2,q3,q4,q5,q6,q7,q8⟩,q⟩
end
end L2
end

section
set_option Elab.async false
set_option linter.all false
set_option maxRecDepth 100000
namespace L2
open PySem PySem.Spec PyProof.Rows
def PY (X:Cx) (b:List Stmt) (t:(St->XK)->TS):Prop:=∀(pins:List (Addr×Obj)) (s:Shared) (σ:St) (H:Hp) (D:eE) (W:St->XK),Inv X pins σ H s->t W D σ H->wpAny (model X.prog X.w) X.A (execs b X.env) (SP X pins D) (XS2 X pins W) s
def PY1 (X:Cx) (b:Stmt) (t:(St->XK)->TS):Prop:=∀(pins:List (Addr×Obj)) (s:Shared) (σ:St) (H:Hp) (D:eE) (W:St->XK),Inv X pins σ H s->t W D σ H->wpAny (model X.prog X.w) X.A (exec b X.env) (SP X pins D) (XS2 X pins W) s
section
variable {X:Cx}{pins:List (Addr×Obj)}{σ:St}{H:Hp}{s:Shared}{t u:(St->XK)->TS}{b:Stmt}{bs:List Stmt}{pos:Pos}
theorem py1 (h:PX1 X b t):PY1 X b t:=fun pins s σ H D W I q=>wpAny_mono (h pins s σ H D W I q) (fun _ _ z=>z) fun _ _ z=>z.two
theorem fV (h:PY1 X b t):PY X [b] t:=by
 intro pins s σ H D W I q
 refine wpAny_execs_cons (wpAny_mono (h pins s σ H D W I q) (fun f s1 q=>?_) fun _ _ y=>y)
 cases f with
 | next=>exact wpAny_execs_nil q
 | ret v=>exact q
 | brk=>exact q
 | cont=>exact q
theorem tR (h:PY1 X b t) (hs:PY X bs u):PY X (b::bs) (uz t u):=by
 intro pins s σ H D W I q
 refine wpAny_execs_cons (wpAny_mono (h pins s σ H _ W I q) (fun f s1 q=>?_) fun _ _ y=>y)
 cases f with
 | next=>obtain ⟨σ1,H1,I1,q1⟩:=q; exact hs pins s1 σ1 H1 D W I1 q1
 | ret v=>exact q
 | brk=>exact q
 | cont=>exact q
theorem sB:PY X [] (vA aR):=fun _ _ σ H _ _ I h=>wpAny_execs_nil ⟨σ,H,I,h⟩
theorem uM {c:Expr}{a b:List Stmt}{tc:TT}{ta tb:(St->XK)->TS}(hc:PT X.nox c tc) (ha:PY X a ta) (hb:PY X b tb):PY1 X (.If c a b pos) (vC tc ta tb):=by
 intro pins s σ H D W I h
 refine wpAny_If (wpAny_mono (hc pins s σ H _ (I.wish _) h) (fun d s1 ⟨H1,I1,q1⟩=>?_) fun _ _ z=>False.elim z)
 cases d with
 | true=>exact ha pins s1 σ H1 D W I1.unwish q1
 | false=>exact hb pins s1 σ H1 D W I1.unwish q1
def tu (wi:TI) (g:TG) (tb:(St->XK)->TS):(St->XK)->TS:=fun W=>ft wi g (tb W)
theorem XS2.unpinned {pl:List (Addr×Obj)}{W:St->XK}{e:Value}{s':Shared}(h:XS2 X (pins++pl) W e s'):XS2 X pins W e s':=by
 obtain ⟨n,a,C,od,σ',H',ea,y,I,fl,q⟩:=h
 exact ⟨n,a,C,od,σ',H',ea,⟨y.s0,y.loc,y.cell,fun p hp=>y.pin p (by rcases List.mem_append.mp hp with z | z; exact List.mem_append_left _ z; exact List.mem_append_right _ (List.mem_append_left _ z))⟩,I.unpinned,fl,q⟩
theorem sC {tg iter:Expr}{body:List Stmt}{wi:TI}{g:TG}{tb:(St->XK)->TS}(hc:X.calm=true) (hi:PI X.nox tg iter wi) (hg:PG X.nox tg g) (hb:PY X body tb)
  (hs:∀x,foldedSetIterable iter X.env x=pure x:=by intro _; rfl) (st:X.stack=X.env::X.outer:=by rfl) (sf:X.env.frame=some X.env.locals:=by rfl):PY1 X (.For tg iter body [] pos) (tu wi g tb):=by
 intro pins s σ H D E I h
 have hp:PassesOwn (model X.prog X.w) X.A X.env (XS2 X pins E):=mJ st sf
 refine wpAny_For (wpAny_mono (hi pins s σ H _ (I.wish _) h) (fun v s1 h1=>wpAny_mono h1 (fun itv s2 h2=>?_) fun _ _ z=>False.elim z) fun _ _ z=>False.elim z) hs
 obtain ⟨it,fp,tn,J,H2,e,I2',T,st2,f2',W,⟨m0,w0⟩,turn⟩:=h2
 subst e
 have I2:=I2'.unwish
 have f2:∀b∈fp,kU X pins H2 b:=f2'
 have stat:∀{H':Hp},(∀b∈fp,H' b=none)->∀b∈fp,kU X pins H' b:=fun hn b hb=>⟨hn b hb,(f2 b hb).2⟩
 refine codeAny_forLoop_any (fun n s'=>∃i σ' H',Inv X pins σ' H' s'/\tn i s'.heap/\(∀b∈fp,H' b=none)/\W i n σ' H') ?_ m0 ⟨0,σ,H2,I2,st2,fun b hb=>(f2 b hb).1,w0⟩
 rintro n s3 ⟨i,σ3,H3,I3,st3,fr3,w3⟩
 rcases turn i n σ3 H3 w3 with ⟨stop,qn⟩ | ⟨go,N,hN,step⟩
 ·refine wpAny_passesOwn hp (wpAny_mono (T.done X rfl rfl rfl hc i pins s3 σ3 H3 _ I3 (stat fr3) st3 stop) (fun r s4 ⟨hr,I4⟩=>?_) fun _ _ z=>z)
  subst hr
  exact wpAny_execs_nil ⟨σ3,H3,I4,qn⟩
 ·refine wpAny_passesOwn hp (wpAny_mono (T.item X rfl rfl rfl hc i pins s3 σ3 H3 _ I3 (stat fr3) st3 go) (fun r s4 ⟨u,hr,h4⟩=>?_) fun _ _ z=>z)
  subst hr
  refine wpAny_passesOwn hp (wpAny_mono h4 (fun _ s5 ⟨x,H5,I5,r5,y5,st5,fr5⟩=>?_) fun _ _ z=>z)
  have I5':=I5.pinned (stat fr5) (T.obj _ _ st5)
  refine wpAny_passesOwn hp (wpAny_mono (hg _ s5 σ3 H5 x u _ (I5'.wish _) r5 (step x H5 y5)) (fun _ s6 ⟨σ6,H6,I6,q6⟩=>?_) fun _ _ z=>False.elim z)
  refine wpAny_passesOwn hp (wpAny_mono (hb _ s6 σ6 H6 _ E I6.unwish q6) (fun f s7 q7=>?_) fun _ _ z=>z.unpinned)
  have again:∀{σ7:St}{H7:Hp},Inv X (pins++iV fp s5.heap) σ7 H7 s7->N σ7 H7->∃m,m<n/\∃i σ' H',Inv X pins σ' H' s7/\tn i s7.heap/\(∀b∈fp,H' b=none)/\W i m σ' H':=fun {σ7 H7} I7 n7=>by
   obtain ⟨m',hm,w7⟩:=hN σ7 H7 n7
   refine ⟨m',hm,i+1,σ7,H7,I7.unpinned,T.keep _ _ _ st5 fun b hb o e=>(I7.pin (b,o) (List.mem_append_right _ (List.mem_append_right _ (bV hb e)))).1,fun b hb=>?_,w7⟩
   obtain ⟨o,e,d⟩:=T.obj _ _ st5 b hb
   exact (I7.pin (b,o) (List.mem_append_right _ (List.mem_append_right _ (bV hb e)))).2.1
  cases f with
  | next=>obtain ⟨σ7,H7,I7,n7⟩:=q7; exact again I7 n7
  | cont=>obtain ⟨σ7,H7,I7,n7⟩:=q7; exact again I7 n7
  | brk=>obtain ⟨σ7,H7,I7,q7⟩:=q7; exact ⟨σ7,H7,I7.unpinned,q7⟩
  | ret v=>obtain ⟨x7,σ7,H7,I7,r7,q7⟩:=q7; exact ⟨x7,σ7,H7,I7.unpinned,r7,q7⟩
theorem tS {body:List Stmt}{h0:ExceptHandler}{hs:List ExceptHandler}{tb:(St->XK)->TS}{th:eE->St->XK}(hb:PY X body tb) (hh:PH X (h0::hs) th) (st:X.stack=X.env::X.outer:=by rfl) (sf:X.env.frame=some X.env.locals:=by rfl) :
  PS X (.Try body (h0::hs) [] [] pos) (vX tb th):=by
 intro pins s σ H D I h
 refine wpAny_Try_except (wpAny_mono (hb pins s σ H D (th D) I h) (fun f s1 q=>?_) fun e s1 ⟨n,a,C,od,σ',H',ea,y,I',fl,q⟩=>?_)
 ·cases f with
  | next=>exact wpAny_execs_nil q
  | ret v=>exact q
  | brk=>exact q
  | cont=>exact q
 ·subst ea
  exact n5 I' y st sf fl fun s2 I2 fl2=>hh pins _ s2 σ' H' D a C od I2 y fl2 q
end
theorem o5 {P:Program}{w:World}{K:PySem.W.Frag}{mg:Str->Option Value}{base:Heap}{N:List Str}{qual:Str}{scope:Scope}{f:Addr}{cd:Value}{A:Around}{outer:List Env}{s0:Shared}{H0:Hp}{E:XK}{b:List Stmt}{t:(St->XK)->TS}
  (h:PY (qC (CX1 P w K) P w K mg base N qual scope f cd A outer s0 H0 E) b t):PSs (qC (CX1 P w K) P w K mg base N qual scope f cd A outer s0 H0 E) b (t fun _=>E):=by
 intro pins s σ H D I q
 refine wpAny_mono (h pins s σ H D (fun _=>E) I q) (fun _ _ z=>z) fun e s' ⟨n,a,C,od,σ',H',ea,y,I',fl,q⟩=>?_
 subst ea
 show wpAny _ _ _ _ _ _
 unfold leaving
 exact wpAny_bind (n5 I' y rfl rfl fl fun s'' I'' fl''=>⟨a,C,od,H',rfl,I''.os,I''.bare,I''.base,I''.hok,fl''.mono y.s0,q⟩)
end L2
end

section
set_option Elab.async false
set_option linter.all false
set_option maxRecDepth 100000
namespace L2
open PySem PySem.Spec PyProof.Rows
structure wA (P:Program) (w:World) (K:PySem.W.Frag) (mg:Str->Option Value) (base:Heap) (C:Addr) (m:Str) (ps:List Str) (k:Nat) (sp:Sp):Prop where
 ex:∃f fd,gy P w K mg base (CX1 P w K) k f fd ps sp/\Cls K C/\ur K C m f/\Binds K fd ps []
section
variable {X:Cx}{k:Nat}{ps:List Str}{sp:Sp}{x m:Str}{C:Addr}{p pos apos:Pos}{o e:Expr}{es:List Expr}{t:TA}{ta:TE}
end
end L2
end

section
set_option Elab.async false
set_option linter.all false
set_option maxRecDepth 100000
namespace L2
open PySem PySem.Spec PyProof.Rows
def tgN:Expr->List Str
 | .Name x _=>[x]
 | .Tuple es _ _=>es.filterMap fun e=>match e with | .Name x _=>some x | _=>none
 | _=>[]
theorem bK {X:Cx}{b:List Stmt}{t:TS}{D:eE}{σ:St}{H:Hp}(r:t D σ H) (p:PSs X b t):∃t,PSs X b t/\t D σ H:=⟨t,p,r⟩
section
variable {X:Cx}{k k0:Nat}{ps:List Str}{sp:Sp}{x m:Str}{C:Addr}{p pos apos:Pos}{o e a b:Expr}{es:List Expr}{t:TA}{ta tb te:TE}
theorem qf (hr:Room k0 X.A) (D:Def X.prog X.w X.K X.mg X.base x ps k sp) (ha:PA X (e::es) t) (hk:k<=k0:=by decide) (hg:Gl X x:=by rfl) (hdb:(x == ("__debug__":Str))=false:=by decide)
  (he:starEach (e::es) X.env=(false,eval e X.env)::starEach es X.env:=by rfl) (hpl:(backTo pos (starEach es X.env)).any (·.1)=false:=by rfl) :
  PE X (.Call (.Name x p) (e::es) [] pos) (av sp [] E0 t):=rC D (hr.mono hk) hg ha hdb he hpl
theorem qm {pl:Sem Bool}(hr:Room k0 X.A) (M:Mth X.prog X.w X.K X.mg X.base C m ps k sp) (he:PE X o ta) (ha:PA X (e::es) t) (hk:k<=k0:=by decide)
  (hst:starEach (e::es) X.env=(false,eval e X.env)::starEach es X.env:=by rfl) (hpl:(backTo pos (starEach es X.env)).any (·.1)=false:=by rfl)
  (ht:eval (.Call (.Attribute o m apos) (e::es) [] pos) X.env=(do
   let ov <- eval o X.env
   standAt apos.atName
   let (f,first) <- holding [ov] (getMethod ov m pl)
   callWith pos f first (backTo pos (starEach (e::es) X.env)) (backToKw pos (keywordEach [] X.env))):=by rfl) :
  PE X (.Call (.Attribute o m apos) (e::es) [] pos) (eO C m sp [] E0 ta t):=uU (pl:=pl) M (hr.mono hk) he ha hst hpl ht
theorem qm0 {pl:Sem Bool}(hr:Room k0 X.A) (M:Mth X.prog X.w X.K X.mg X.base C m ps k sp) (he:PE X o ta) (hk:k<=k0:=by decide)
  (ht:eval (.Call (.Attribute o m apos) [] [] pos) X.env=(do
   let ov <- eval o X.env
   standAt apos.atName
   let (f,first) <- holding [ov] (getMethod ov m pl)
   callWith pos f first (backTo pos (starEach [] X.env)) (backToKw pos (keywordEach [] X.env))):=by rfl) :
  PE X (.Call (.Attribute o m apos) [] [] pos) (eO C m sp [] E0 ta ao):=tT (pl:=pl) M (hr.mono hk) he ht
theorem xl (ha:PE X a ta) (hb:PE X b tb) (hs:uq b:=by exact fun _ _=>rfl):PE X (.Subscript a b pos) (tOp (eG X.K) ta tb):=rB ix_list ha hb hs
theorem xt (ha:PE X a ta) (hb:PE X b tb) (hs:uq b:=by exact fun _ _=>rfl):PE X (.Subscript a b pos) (tOp (tN X.K) ta tb):=rB ix_tup ha hb hs
theorem xq (ha:PE X a ta) (hb:PE X b tb) (hs:uq b:=by exact fun _ _=>rfl):PE X (.Subscript a b pos) (tOp (rIx X.K) ta tb):=rB u4 ha hb hs
theorem xs' (ha:PE X a ta) (hb:PE X b tb) (hs:uq b:=by exact fun _ _=>rfl):PE X (.Subscript a b pos) (tOp uI ta tb):=rB sG ha hb hs
theorem tcm {op:CmpOp}{r:R2}(ho:OpR X (compareOp op) r) (ha:PE X a ta) (hb:PE X b tb) (hm:behindInMarks op b=false:=by exact sF _):PT X (.Compare a [op] [b] pos) (aI (tOp r ta tb)):=o0 ho ha hb hm
theorem ecm {op:CmpOp}{r:R2}(ho:OpR X (compareOp op) r) (ha:PE X a ta) (hb:PE X b tb) (hm:behindInMarks op b=false:=by exact sF _):PE X (.Compare a [op] [b] pos) (tOp r ta tb):=pb ho ha hb hm
theorem tci {op:CmpOp}{r:R2}(ho:OpR X (compareOp op) r) (ha:PE X a ta) (hb:PE X b tb) (hm:behindInMarks op b=false:=by with_unfolding_all rfl):PT X (.Compare a [op] [b] pos) (aI (tOp r ta tb)):=o0 ho ha hb hm
theorem eci {op:CmpOp}{r:R2}(ho:OpR X (compareOp op) r) (ha:PE X a ta) (hb:PE X b tb) (hm:behindInMarks op b=false:=by with_unfolding_all rfl):PE X (.Compare a [op] [b] pos) (tOp r ta tb):=pb ho ha hb hm
theorem qB {id:String}{r:List V->Hp->VK->Prop}(hc:CallR X (.builtin id) r) (hm:X.mg x=none) (hv:bootBuiltins x=some (.builtin id)) (ha:PA X (e::es) t) (hg:Gl X x:=by rfl) (hn:x≠"__name__":=by decide) (hdb:(x == ("__debug__":Str))=false:=by decide)
  (he:starEach (e::es) X.env=(false,eval e X.env)::starEach es X.env:=by rfl) (hpl:(backTo pos (starEach es X.env)).any (·.1)=false:=by rfl):PE X (.Call (.Name x p) (e::es) [] pos) (tCB r t):=mm hc hg hm hv ha hn hdb he hpl
theorem qL (hc:X.calm=true) (hm:X.mg "list"=none) (ha:PA X (e::es) t) (hg:Gl X "list":=by rfl)
  (he:starEach (e::es) X.env=(false,eval e X.env)::starEach es X.env:=by rfl) (hpl:(backTo pos (starEach es X.env)).any (·.1)=false:=by rfl):PE X (.Call (.Name "list" p) (e::es) [] pos) (tCB (bu X.K) t):=ki (nP hc) hg hm i9 ha (by decide) (by decide) he hpl
theorem ql (hm:X.mg "len"=none) (ha:PA X (e::es) t) (hg:Gl X "len":=by rfl)
  (he:starEach (e::es) X.env=(false,eval e X.env)::starEach es X.env:=by rfl) (hpl:(backTo pos (starEach es X.env)).any (·.1)=false:=by rfl):PE X (.Call (.Name "len" p) (e::es) [] pos) (tCB (fS X.K) t):=mm qb hg hm PySem.boot_len ha (by decide) (by decide) he hpl
theorem qs (i:Nat) {pos':Pos}(hN:X.N.Nodup) (he:PE X e te) (hi:X.N[i]?=some x:=by rfl) (hx:Loc X.env.scope x:=by first | exact Or.inl rfl | exact Or.inr rfl) (hs:swapsWith e (some (.Name x pos')) pos.line X.env=pure false:=by rfl) (hf:X.fn x=true∨X.env.scope.names.lookup x=some .local:=by first | exact .inl rfl | exact .inr rfl | assumption) :
  PS X (.Assign [.Name x pos'] e pos) (ba te (am i)):=uO hN hi hx he hs hf
theorem gn (i:Nat) (hN:X.N.Nodup) (hi:X.N[i]?=some x:=by rfl) (hx:Loc X.env.scope x:=by first | exact Or.inl rfl | exact Or.inr rfl) (hf:X.fn x=true∨X.env.scope.names.lookup x=some .local:=by first | exact .inl rfl | exact .inr rfl | assumption):PG X (.Name x pos) (am i):=o7 hN hi hx hf
theorem gc (i:Nat) (hN:X.N.Nodup:=by exact of_decide_eq_true (by with_unfolding_all rfl)) (hi:X.N[i]?=some x:=by rfl) (hx:Loc X.env.scope x:=by exact Or.inl rfl) (hf:X.fn x=true∨X.env.scope.names.lookup x=some .local:=by first | exact .inl rfl | exact .inr rfl | assumption):PG X (.Name x pos) (am i):=o7 hN hi hx hf
theorem a1 (ha:PE X a ta) (hs:starEach [a] X.env=(false,eval a X.env)::starEach [] X.env:=by rfl):PA X [a] (ac ta ao):=aL ha bZ hs
theorem a2 (ha:PE X a ta) (hb:PE X b tb) (hs:starEach [a,b] X.env=(false,eval a X.env)::starEach [b] X.env:=by rfl) (hs2:starEach [b] X.env=(false,eval b X.env)::starEach [] X.env:=by rfl):PA X [a,b] (ac ta (ac tb ao)):=aL ha (aL hb bZ hs2) hs
theorem a3 {c:Expr}{tc:TE}(ha:PE X a ta) (hb:PE X b tb) (hc:PE X c tc) (hs:starEach [a,b,c] X.env=(false,eval a X.env)::starEach [b,c] X.env:=by rfl) (hs1:starEach [b,c] X.env=(false,eval b X.env)::starEach [c] X.env:=by rfl) (hs2:starEach [c] X.env=(false,eval c X.env)::starEach [] X.env:=by rfl):PA X [a,b,c] (ac ta (ac tb (ac tc ao))):=aL ha (a2 hb hc hs1 hs2) hs
variable {elt iter tg:Expr}{ifs:List Expr}{scope:Scope}{fi:List Nat}{wi:TI}{g:TG}{tc:TT}
theorem qc (hi:PI X tg iter wi) (ho:vv k g)
  (h:∀C cl s₀ H₀ ex pn,PG (cN X (tgN tg++fi.map fun i=>X.N.getD i "") scope C cl s₀ H₀ ex pn) tg g/\PIf (cN X (tgN tg++fi.map fun i=>X.N.getD i "") scope C cl s₀ H₀ ex pn) ifs tc/\PE (cN X (tgN tg++fi.map fun i=>X.N.getD i "") scope C cl s₀ H₀ ex pn) elt te)
  (hS:jP X.env.scope scope k (tgN tg++fi.map fun i=>X.N.getD i "") X.N fi=true:=by with_unfolding_all rfl) (hc:X.calm=true:=by rfl)
  (hs:∀x,foldedSetIterable iter X.env x=pure x:=by intro _; rfl):PE X (.ListComp elt [⟨tg,iter,ifs,0⟩] scope pos) (gm k fi wi g tc te) :=
 tW hS hc hi (fun _ _ _ _ _ _=>(h _ _ _ _ _ _).1) ho (fun _ _ _ _ _ _=>(h _ _ _ _ _ _).2.1) (fun _ _ _ _ _ _=>(h _ _ _ _ _ _).2.2) hs
end
end L2
end

section
set_option Elab.async false
set_option linter.all false
set_option maxRecDepth 100000
namespace L2
open PySem PySem.Spec PyProof.Rows
def uJ (K:PySem.W.Frag):List V->Hp->VK->Prop:=fun xs H Q=>∃(a C t:Addr) (od:Option Addr) (Ds:List Addr) (b:Bool),xs=[.ref a,.ref t]/\H t=some (.tup (Ds.map V.ref))/\H a=some (.ext (cg a C od)) /\
 (od=none∨∃d fs,od=some d/\H d=some (.ext (cX d fs)))/\ExK K C/\PySem.W.kitAny K (.ref C) (Ds.map Value.ref)=some b/\Q (.bl b) H
theorem jU:∀{Ds:List Addr}{us:List Value},Vals (Ds.map V.ref) us->us=Ds.map Value.ref
 | [],_,h=>by cases h; rfl
 | d::ds,_,h=>by
  cases h with
  | cons h1 h2 =>
   have:=jU h2
   rw [this]
   cases (show _=Value.ref d from h1)
   rfl
theorem qg {X:Cx}:CallR X (.builtin "isinstance") (uJ X.K):=by
 intro pins s σ H xs us Q I r h
 obtain ⟨a,C,t,od,Ds,b,rfl,ht,ha,hd,k,e,q⟩:=h
 obtain ⟨v1,v2,rfl,r1,r2⟩:=qH r
 cases r1
 cases r2
 obtain ⟨vs,g,_⟩:=I.exc ha
 have inst:∃ox odo,PySem.W.InstAt s.heap a ox C odo:=by
  rcases hd with rfl | ⟨d,fs,rfl,hdd⟩
  ·exact ⟨_,_,kW g⟩
  ·obtain ⟨_,⟨o,ho⟩,_⟩:=(show ObjOk X.prog X.w X.K H s.heap d (.ext (cX d fs)) from I.hok d _ hdd)
   exact ⟨_,_,lY g ho⟩
 obtain ⟨its,rv,⟨o,ho,hc,n,hs⟩,_⟩:=I.tuple (SqT.of ht)
 rw [jU rv] at hs
 obtain ⟨oc,od',dt,sl⟩:=o
 cases hc
 cases hs
 exact PySem.W.kia_tup (mt k) I.kIn inst ho e (fun z=>nomatch z) fun tk=>⟨.bl b,H,I.tok _,rfl,q⟩
theorem ky {K:PySem.W.Frag}{t:Value}:∀{cs:List Value},(∀c∈cs,PySem.W.kitOne K t c=some false)->PySem.W.kitAny K t cs=some false
 | [],_=>rfl
 | c::r,h=>by
  unfold PySem.W.kitAny
  rw [h c List.mem_cons_self]
  exact ky fun d hd=>h d (List.mem_cons_of_mem _ hd)
end L2
end

section
set_option Elab.async false
set_option linter.all false
namespace L2
open PySem PySem.Spec PyProof.Rows
end L2
end
set_option Elab.async false
set_option linter.all false
set_option maxRecDepth 100000
set_option maxHeartbeats 4000000
namespace Mum
open PySem PySem.Spec PyProof.Rows L2
def j7 (K:PySem.W.Frag) :TS :=
 aB (c8 (aI (tOp wq (af 0) (tOp uF (tC (.int 10)) (tC (.int 18))))) (bj (af 0)) (aR))
 (aB (ba (tOp eW (tOp cF (tOp cF (tOp gX (tOp eW (af 0) (tC (.int 1000000007))) (tC (.int 69069))) (tOp gX (af 1) (tC (.int 40503)))) (tC (.int 977))) (tC (.int 2147483629))) (am 2))
 (aB (ba (tOp eW (tOp cF (tOp cF (tOp gX (af 2) (af 2)) (tOp gX (af 1) (tC (.int 7919)))) (tOp eW (af 0) (tC (.int 65537)))) (tC (.int 2147483587))) (am 3))
 (aB (ba (tOp eW (tOp cF (tOp cF (tOp gX (af 3) (af 3)) (tOp gX (af 2) (tC (.int 31)))) (tC (.int 5))) (tC (.int 2147483563))) (am 4))
 (bj (tOp cF (tOp gX (tOp cF (tOp gX (af 2) (tC (.int 2147483659))) (af 3)) (tC (.int 2147483693))) (af 4))))))
def kR:List Str:=["cell","at","one","two","three"]
def mQ (K:PySem.W.Frag) :TS :=
 aB (ba (tCB (bu K) (ac (tSl (tM K) (af 0) (dg) (gj (tC (.int 12)))) ao)) (am 1))
 (aB (ft (nG K (ac (tSl (tM K) (af 0) (gj (tC (.int 12))) (gj (tC (.int 63)))) ao)) (lG K 2 (bc (am 2) (bc (am 3) (lH)))) (ba (tOp cF (tOp (eG K) (af 1) (tOp eW (af 2) (tC (.int 12)))) (af 3)) (ua (af 1) (tOp eW (af 2) (tC (.int 12))) lr)))
 (bj (eP (ac (af 1) (ac (tC (.int 0)) (ac (tC (.int 0)) ao))))))
def nV:List Str:=["script","cells","k","cell"]
def mS (K:PySem.W.Frag) :TS :=
 aB (ba (tC (.int 0)) (ua (af 0) (tC (.int 2)) lr))
 (bj (af 0))
def nX:List Str:=["pen"]
def mP (K:PySem.W.Frag) (sp_law_spread:Sp):TS :=
 aB (c8 (aI (tOp vF (tOp (eG K) (af 0) (tC (.int 2))) (af 1))) (aB (ba (tOp (eG K) (af 0) (tC (.int 1))) (am 2))
 (aB (ba (tC (.int 0)) (am 3))
 (aB (c8 (aI (tOp vF (af 2) (tCB (fS K) (ac (tOp (eG K) (af 0) (tC (.int 0))) ao)))) (ba (tOp (eG K) (tOp (eG K) (af 0) (tC (.int 0))) (af 2)) (am 3)) (c8 (aI (tOp vH (tCB (fS K) (ac (tOp (eG K) (af 0) (tC (.int 0))) ao)) (tC (.int 0)))) (ba (tOp eW (tOp (eG K) (tOp (eG K) (af 0) (tC (.int 0))) (tOp eW (tOp cF (tOp gX (af 2) (tC (.int 5))) (tC (.int 3))) (tCB (fS K) (ac (tOp (eG K) (af 0) (tC (.int 0))) ao)))) (tOp cF (tOp uF (tC (.int 10)) (tC (.int 17))) (af 2))) (am 3)) (aR)))
 (aB (ba (tOp cF (af 2) (tC (.int 1))) (ua (af 0) (tC (.int 1)) lr))
 (ba (av sp_law_spread [] E0 (ac (af 3) (ac (af 2) ao))) (ua (af 0) (tC (.int 2)) lr)))))) (aR))
 (aB (ba (tOp eW (tOp (eG K) (af 0) (tC (.int 2))) (af 1)) (am 4))
 (aB (ba (tOp tP (tOp (eG K) (af 0) (tC (.int 2))) (af 1)) (ua (af 0) (tC (.int 2)) lr))
 (bj (af 4))))
def nU:List Str:=["pen","many","at","cell","found"]
def kZ (K:PySem.W.Frag) (sp_law_take:Sp):TS :=
 aB (ba (tC (.str "abcdefghijklmnopqrstuvwxyz")) (am 2))
 (aB (ba (tBM K "str" (uH K) (tC (.str "")) (ac (gm 1 [2,0] (pP (ac (tC (.int 7)) ao)) (am 0) (qA) (tOp uI (af 1) (av sp_law_take [] E0 (ac (af 2) (ac (tC (.int 26)) ao))))) ao)) (am 3))
 (aB (ba (av sp_law_take [] E0 (ac (af 0) (ac (tC (.int 3)) ao))) (am 4))
 (aB (ba (av sp_law_take [] E0 (ac (af 0) (ac (tC (.int 26)) ao))) (am 5))
 (aB (ba (av sp_law_take [] E0 (ac (af 0) (ac (tC (.int 8)) ao))) (am 6))
 (aB (ba (eP (ao)) (am 7))
 (aB (ft (pP (ac (af 1) ao)) (am 8) (aB (ba (tOp uI (af 2) (tOp eW (tOp cF (af 5) (tOp gX (tC (.int 3)) (af 8))) (tC (.int 26)))) (am 9))
 (aB (ba (tSl vp (af 3) (dg) (gj (tOp eW (tOp cF (af 6) (tOp gX (af 8) (tOp eW (af 4) (tC (.int 2))))) (tC (.int 8))))) (am 10))
 (aB (ba (tOp (eG K) (eP (ac (tC (.int 0)) (ac (tCB (fS K) (ac (af 10) ao)) (ac (tOp tP (tCB (fS K) (ac (af 10) ao)) (tC (.int 2))) ao)))) (af 4)) (am 11))
 (cQ (tBM K "list" ej (af 7) (ac (tOp uL (tOp uL (tSl vp (af 10) (dg) (gj (af 11))) (af 9)) (tSl vp (af 10) (gj (af 11)) (dg))) ao)))))))
 (bj (af 7))))))))
def lT:List Str:=["pen","many","letters","base","way","turn","size","found","k","sign","part","at"]
def oz (K:PySem.W.Frag) :TS :=
 c8 (aI (tOp (sA K true) (af 1) (af 0))) (cQ (tBM K "list" ej (af 0) (ac (af 1) ao))) (aR)
def qt:List Str:=["doors","door"]
def gb (K:PySem.W.Frag) (sp_law_take:Sp) (sp_law_put:Sp):TS :=
 aB (ba (eP (ao)) (am 5))
 (aB (ba (av sp_law_take [] E0 (ac (af 0) (ac (tC (.int 2)) ao))) (am 6))
 (aB (ft (nG K (ac (af 3) ao)) (lG K 2 (bc (am 7) (bc (am 8) (lH)))) (aB (ft (pP (ac (tOp (eG K) (eP (ac (tC (.int 0)) (ac (tC (.int 1)) (ac (tC (.int 1)) (ac (tC (.int 2)) ao))))) (av sp_law_take [] E0 (ac (af 0) (ac (tC (.int 4)) ao)))) ao)) (am 9) (aB (ba (d4 (ac (tC (.str "say")) (ac (tOp (eG K) (af 2) (av sp_law_take [] E0 (ac (af 0) (ac (tCB (fS K) (ac (af 2) ao)) ao)))) ao))) (am 10))
 (cQ (av sp_law_put [] E0 (ac (af 5) (ac (d4 (ac (af 8) (ac (af 10) (ac (tOp (eG K) (af 3) (av sp_law_take [] E0 (ac (af 0) (ac (tCB (fS K) (ac (af 3) ao)) ao)))) ao)))) ao))))))
 (aB (ft (cc K (af 1)) (am 11) (ft (pP (ac (tOp (eG K) (eP (ac (af 4) (ac (tC (.int 1)) (ac (tC (.int 1)) (ac (tC (.int 2)) ao))))) (av sp_law_take [] E0 (ac (af 0) (ac (tC (.int 4)) ao)))) ao)) (am 9) (cQ (av sp_law_put [] E0 (ac (af 5) (ac (d4 (ac (af 8) (ac (d4 (ac (tC (.str "ask")) (ac (af 11) ao))) (ac (tOp (eG K) (af 3) (av sp_law_take [] E0 (ac (af 0) (ac (tCB (fS K) (ac (af 3) ao)) ao)))) ao)))) ao))))))
 (aB (ba (tOp (eG K) (eP (ac (tSl (tM K) (af 3) (gj (tOp cF (af 7) (tC (.int 1)))) (dg)) (ac (tSl (tM K) (af 3) (dg) (gj (af 7))) ao))) (af 6)) (am 12))
 (c8 (qR (aI (tOp (uG K) (af 12) (eP (ao)))) (aI (tOp rEq (av sp_law_take [] E0 (ac (af 0) (ac (tC (.int 3)) ao))) (tC (.int 0))))) (cQ (av sp_law_put [] E0 (ac (af 5) (ac (d4 (ac (af 8) (ac (d4 (ac (tC (.str "still")) ao)) (ac (tOp (rIx K) (af 12) (av sp_law_take [] E0 (ac (af 0) (ac (tCB (fS K) (ac (af 12) ao)) ao)))) ao)))) ao)))) (aR))))))
 (bj (af 5))))
def gr:List Str:=["pen","asks","says","rooms","full","doors","down","k","room","turn","sign","ask","later"]
def k4 (K:PySem.W.Frag) (sp_law_draw_doors:Sp) (sp_law_names:Sp) (sp_law_take:Sp) (sp_law_anew:Sp):TS :=
 aB (cQ (av sp_law_anew [] E0 (ac (af 0) ao)))
 (aB (ba (av sp_law_names [] E0 (ac (af 0) (ac (tC (.int 8)) ao))) (am 3))
 (aB (ba (tSl (tM K) (af 3) (dg) (gj (tOp cF (tC (.int 1)) (tOp (eG K) (eP (ac (tC (.int 0)) (ac (tC (.int 1)) (ac (tC (.int 1)) (ac (tC (.int 2)) (ac (tC (.int 2)) (ac (tC (.int 3)) ao))))))) (av sp_law_take [] E0 (ac (af 0) (ac (tC (.int 6)) ao))))))) (am 4))
 (aB (ba (tSl (tM K) (af 3) (gj (tC (.int 4))) (gj (tOp cF (tC (.int 5)) (tOp (eG K) (eP (ac (tC (.int 0)) (ac (tC (.int 1)) (ac (tC (.int 1)) (ac (tC (.int 2)) (ac (tC (.int 2)) (ac (tC (.int 3)) ao))))))) (av sp_law_take [] E0 (ac (af 0) (ac (tC (.int 6)) ao))))))) (am 5))
 (aB (ba (av sp_law_names [] E0 (ac (af 0) (ac (tOp cF (tC (.int 1)) (av sp_law_take [] E0 (ac (af 0) (ac (af 1) ao)))) ao))) (am 6))
 (aB (ba (av sp_law_draw_doors [] E0 (ac (af 0) (ac (af 4) (ac (af 5) (ac (af 6) (ac (af 2) ao)))))) (am 7))
 (bj (d4 (ac (af 4) (ac (af 5) (ac (af 6) (ac (af 7) ao)))))))))))
def lU:List Str:=["pen","most","full","words","asks","says","rooms","doors"]
def jf (K:PySem.W.Frag) (C_Machine:Addr) (sp_Machine_init:Sp):TS :=
 bj (tq C_Machine sp_Machine_init [] E0 (ac (tCB (bu K) (ac (tOp (rIx K) (af 0) (tC (.int 0))) ao)) (ac (tCB (bu K) (ac (tOp (rIx K) (af 0) (tC (.int 1))) ao)) (ac (tCB (bu K) (ac (tOp (rIx K) (af 0) (tC (.int 2))) ao)) (ac (tCB (bu K) (ac (tOp (rIx K) (af 0) (tC (.int 3))) ao)) ao)))))
def jT:List Str:=["told"]
def fo (K:PySem.W.Frag) (sp_law_same:Sp):TS :=
 aB (c8 (tB (vB (af 1))) (bj (vB (af 0))) (aR))
 (aB (c8 (aI (tOp uK (af 1) (tC (.bl true)))) (bj (tOp uK (af 0) (tC (.bl true)))) (aR))
 (aB (c8 (aI (tOp uK (af 1) (tC (.bl false)))) (bj (tOp uK (af 0) (tC (.bl false)))) (aR))
 (aB (c8 (tB (tCB (iK K) (ac (af 1) (ac (tC (.ty "int")) ao)))) (bj (mZ (tCB (iK K) (ac (af 0) (ac (tC (.ty "int")) ao))) (mZ (uA (tCB (iK K) (ac (af 0) (ac (tC (.ty "bool")) ao)))) (tOp (oW K) (af 0) (af 1))))) (aR))
 (aB (c8 (tB (tCB (iK K) (ac (af 1) (ac (tC (.ty "str")) ao)))) (bj (mZ (tCB (iK K) (ac (af 0) (ac (tC (.ty "str")) ao))) (tOp (oW K) (af 0) (af 1)))) (aR))
 (aB (c8 (tOr (aI (tOp rNe (tCB (iK K) (ac (af 1) (ac (tC (.ty "tuple")) ao))) (tCB (iK K) (ac (af 0) (ac (tC (.ty "tuple")) ao))))) (aI (tOp rNe (tCB (iK K) (ac (af 1) (ac (tC (.ty "list")) ao))) (tCB (iK K) (ac (af 0) (ac (tC (.ty "list")) ao)))))) (bj (tC (.bl false))) (aR))
 (aB (c8 (aI (tOp rNe (tCB (fS K) (ac (af 0) ao)) (tCB (fS K) (ac (af 1) ao)))) (bj (tC (.bl false))) (aR))
 (aB (ft (pO K (ac (af 0) (ac (af 1) ao))) (lG K 2 (bc (am 2) (bc (am 3) (lH)))) (c8 (qN (tB (av sp_law_same [] E0 (ac (af 2) (ac (af 3) ao))))) (bj (tC (.bl false))) (aR)))
 (bj (tC (.bl true))))))))))
def i_:List Str:=["found","due","one","other"]
def oA (K:PySem.W.Frag) :TS :=
 bj (mZ (tOp rNe (af 0) (tC (.str ""))) (mZ (tOp wn (tCB (fS K) (ac (af 0) ao)) (tC (.int 8))) (tCB (v7 K) (ac (gm 1 [] (v9 (af 0)) (am 0) (qA) (tOp wo (af 0) (tC (.str "abcdefghijklmnopqrstuvwxyz")))) ao))))
def qw:List Str:=["text"]
def oB (K:PySem.W.Frag) :TS :=
 aB (ba (l9) (am 1))
 (aB (ft (cc K (af 0)) (am 2) (m8 (af 1) (af 2) (tC (.bl true))))
 (bj (af 1)))
def qx:List Str:=["things","keys","thing"]
def eK (K:PySem.W.Frag) (sp_is_name:Sp) (sp_as_keys:Sp):TS :=
 aB (c8 (aI (tOp rEq (tCB (fS K) (ac (af 0) ao)) (tC (.int 0)))) (bj (tC (.int 0))) (aR))
 (aB (ba (av sp_as_keys [] E0 (ac (af 2) ao)) (am 3))
 (aB (ft (nG K (ac (af 0) ao)) (lG K 2 (bc (am 4) (bc (am 5) (lH)))) (aB (c8 (tOr (aI (tOp rEq (af 4) (af 1))) (tOr (tB (vo K (af 5) (af 3))) (qN (tB (av sp_is_name [] E0 (ac (af 5) ao)))))) (bj (af 4)) (aR))
 (m8 (af 3) (af 5) (tC (.bl true)))))
 (bj (tC .non))))
def fb:List Str:=["names","most","taken","ahead","number","name"]
def j9 (K:PySem.W.Frag) (a_STILL:Addr):TS :=
 bj (tOp vq (tOp vq (gm 1 [] (cc K (af 0)) (am 0) (qA) (d4 (ac (tC (.str "ask")) (ac (af 0) ao)))) (gm 1 [] (cc K (af 1)) (am 0) (qA) (d4 (ac (tC (.str "say")) (ac (af 0) ao))))) (eP (ac (tC (.ref a_STILL)) ao)))
def kT:List Str:=["asks","says"]
def eL (K:PySem.W.Frag) (sp_as_keys:Sp):TS :=
 aB (ba (av sp_as_keys [] E0 (ac (af 1) ao)) (am 3))
 (aB (ba (oF) (am 4))
 (aB (ft (nG K (ac (af 0) ao)) (lG K 2 (bc (am 5) (bc (am 6) (lH)))) (aB (c8 (tOr (aI (tOp rEq (af 5) (tC (.int 2000)))) (tB (vo K (af 6) (af 4)))) (bj (af 5)) (aR))
 (aB (c8 (tOr (tB (jo K (tOp (rIx K) (af 6) (tC (.int 0))) (af 3))) (tOr (aI (tOp (sA K true) (tOp (rIx K) (af 6) (tC (.int 1))) (af 2))) (tB (jo K (tOp (rIx K) (af 6) (tC (.int 2))) (af 3))))) (bj (af 5)) (aR))
 (m8 (af 4) (af 6) (tC (.bl true))))))
 (bj (tC .non))))
def fc:List Str:=["doors","rooms","signs","own_rooms","ahead","number","door"]
def cx (K:PySem.W.Frag) :TS :=
 aB (ba (oF) (am 1))
 (aB (ft (cc K (af 0)) (lG K 3 (bc (am 2) (bc (am 3) (bc (am 4) (lH))))) (cQ (tBM K "list" ej (tBM K "dict" oU (af 1) (ac (d4 (ac (af 2) (ac (af 3) ao))) (ac (eP (ao)) ao))) (ac (af 4) ao))))
 (bj (af 1)))
def cz:List Str:=["doors","goals","start","sign","goal"]
def iE (K:PySem.W.Frag) (a_STILL:Addr):TS :=
 aB (ba (l9) (am 2))
 (aB (ba (eP (ac (af 1) ao)) (am 3))
 (aB (oC (aI (tOp vH (tCB (fS K) (ac (af 3) ao)) (tC (.int 0)))) (aB (ba (v3 K "list" v6 (af 3)) (am 4))
 (ft (v_ K (l_ K (af 0) (d4 (ac (af 4) (ac (tC (.ref a_STILL)) ao))) (d4 (ao)))) (am 5) (c8 (tB (jo K (af 5) (af 2))) (aB (m8 (af 2) (af 5) (tC (.bl true)))
 (cQ (tBM K "list" ej (af 3) (ac (af 5) ao)))) (aR)))))
 (bj (af 2))))
def iO:List Str:=["goals","room","led","waiting","here","goal"]
def fq (K:PySem.W.Frag) :TS :=
 aB (ft (nG K (ac (af 0) ao)) (lG K 2 (bc (am 2) (bc (am 3) (lH)))) (c8 (tB (vo K (af 3) (qQ K (af 1) (af 3)))) (bj (af 2)) (aR)))
 (bj (tC .non))
def fP:List Str:=["rooms","led","number","room"]
def kY (K:PySem.W.Frag) :TS :=
 c8 (tB (qM (af 1))) (sv) (aR)
def lS:List Str:=["part","number"]
def j5 (K:PySem.W.Frag) (sp_need_none:Sp) (sp_first_wrong_door:Sp) (sp_door_signs:Sp) (sp_first_wrong_name:Sp):TS :=
 aB (cQ (av sp_need_none [] E0 (ac (tC (.str "asks")) (ac (av sp_first_wrong_name [] E0 (ac (af 0) (ac (tC (.int 4)) (ac (eP (ao)) ao)))) ao))))
 (aB (cQ (av sp_need_none [] E0 (ac (tC (.str "says")) (ac (av sp_first_wrong_name [] E0 (ac (af 1) (ac (tC (.int 4)) (ac (af 0) ao)))) ao))))
 (aB (cQ (av sp_need_none [] E0 (ac (tC (.str "rooms")) (ac (av sp_first_wrong_name [] E0 (ac (af 2) (ac (tC (.int 150)) (ac (eP (ao)) ao)))) ao))))
 (cQ (av sp_need_none [] E0 (ac (tC (.str "doors")) (ac (av sp_first_wrong_door [] E0 (ac (af 3) (ac (af 2) (ac (av sp_door_signs [] E0 (ac (af 0) (ac (af 1) ao))) ao)))) ao))))))
def kQ:List Str:=["asks","says","rooms","doors"]
def gh (K:PySem.W.Frag) :TS :=
 aB (ba (l9) (am 2))
 (aB (ft (cc K (af 0)) (am 3) (m8 (af 2) (af 3) (eP (ao))))
 (aB (ft (cc K (af 1)) (am 4) (cQ (tBM K "list" ej (qQ K (af 2) (tOp (rIx K) (af 4) (tC (.int 0)))) (ac (af 4) ao))))
 (bj (af 2))))
def gv:List Str:=["rooms","doors","leaving","room","door"]
def gf (K:PySem.W.Frag) :TS :=
 bj (tCB (v7 K) (ac (gm 1 [] (cc K (af 0)) (am 0) (qA) (tOp rEq (tOp (rIx K) (tOp (rIx K) (af 0) (tC (.int 1))) (tC (.int 0))) (tC (.str "ask")))) ao))
def gu:List Str:=["doors"]
def eN (K:PySem.W.Frag) (sp_need_none:Sp) (sp_first_led_round:Sp) (sp_led_by_still:Sp) (sp_goals_by_start_and_sign:Sp) (sp_as_keys:Sp) (sp_has_asks_alone:Sp) (sp_doors_by_start:Sp) (sp_need_parts:Sp):TS :=
 aB (cQ (av sp_need_parts [] E0 (ac (af 1) (ac (af 2) (ac (af 3) (ac (af 4) ao))))))
 (aB (qV K (af 0) (tCB (bu K) (ac (af 1) ao)) "own_asks")
 (aB (qV K (af 0) (tCB (bu K) (ac (af 2) ao)) "own_says")
 (aB (qV K (af 0) (tCB (bu K) (ac (af 3) ao)) "own_rooms")
 (aB (qV K (af 0) (tCB (bu K) (ac (af 4) ao)) "own_doors")
 (aB (qV K (af 0) (av sp_doors_by_start [] E0 (ac (af 3) (ac (af 4) ao))) "leaving")
 (aB (qV K (af 0) (av sp_as_keys [] E0 (ac (gm 1 [0] (cc K (af 3)) (am 0) (tB (av sp_has_asks_alone [] E0 (ac (qQ K (qO K (af 1) "leaving") (af 0)) ao))) (af 0)) ao)) "quiet")
 (aB (qV K (af 0) (av sp_goals_by_start_and_sign [] E0 (ac (af 4) ao)) "sign_goals")
 (aB (qV K (af 0) (tCB (tQ K) (ac (gm 1 [0] (cc K (af 3)) (am 0) (qA) (d4 (ac (af 0) (ac (av sp_led_by_still [] E0 (ac (qO K (af 1) "sign_goals") (ac (af 0) ao))) ao)))) ao)) "still_led")
 (cQ (av sp_need_none [] E0 (ac (tC (.str "still")) (ac (av sp_first_led_round [] E0 (ac (af 3) (ac (qO K (af 0) "still_led") ao))) ao))))))))))))
def ff:List Str:=["self","asks","says","rooms","doors"]
section
variable {P:Program}{w:World}{K:PySem.W.Frag}{mg:Str->Option Value}{base:Heap}
end
def ExB (p:Addr) (H H':Hp):Prop:=∀b o,H b=some o->b≠p->H' b=some o
theorem ExB.refl (p:Addr) (H:Hp):ExB p H H:=fun _ _ h _=>h
theorem ExB.trans {p:Addr}{H H1 H2:Hp}(a:ExB p H H1) (b:ExB p H1 H2):ExB p H H2:=fun c o h n=>b c o (a c o h n) n
theorem Same.exB {p:Addr}{H H':Hp}(a:Same H H'):ExB p H H':=fun b o h _=>a b o h
theorem ExB.upd (p:Addr) (H:Hp) (o:HO):ExB p H (upd H p o):=fun b u h n=>by rw [aj n]; exact h
theorem Same.new {H:Hp}{a:Addr}{o:HO}(h:H a=none):Same H (upd H a o):=fun b u e=>by rw [aj (ah e h)]; exact e
theorem ExB.free {p:Addr}{H H':Hp}(e:ExB p H H') {u:HO}(hp:H' p=some u) {l:Addr}(h:H' l=none):H l=none:=by
 cases q:H l with
 | none=>rfl
 | some o =>
  by_cases z:l=p
  ·subst z; rw [hp] at h; cases h
  ·rw [e l o q z] at h; cases h
theorem kp {H:Hp}{a b:Addr}{o x:HO}(h:H b=some o) (n:H a=none):upd H a x b=some o:=by rw [aj (ah h n)]; exact h
structure PenAt (H:Hp) (p c:Addr) (at_ rest:Int) (ns:List Int):Prop where
 pen:H p=some (.lst [.ref c,.int at_,.int rest])
 cells:H c=some (.lst (ns.map V.int))
 at0:0<=at_
 rest0:0<=rest
theorem PenAt.ne {H:Hp}{p c:Addr}{a r:Int}{ns:List Int}(h:PenAt H p c a r ns):c≠p:=by
 intro e
 have h1:=h.pen
 have h2:=h.cells
 rw [e,h1] at h2
 injection h2 with h2
 injection h2 with h2
 cases ns with
 | nil=>cases h2
 | cons n ns=>injection h2 with h2; cases h2
def Pen (H:Hp) (p c:Addr):Prop:=∃a r ns,PenAt H p c a r ns
theorem Pen.ex {H H':Hp}{p c:Addr}(h:Pen H p c) (e:Same H H'):Pen H' p c:=by
 obtain ⟨a,r,ns,h1,h2,h3,h4⟩:=h
 exact ⟨a,r,ns,e _ _ h1,e _ _ h2,h3,h4⟩
theorem Pen.pen {H:Hp}{p c:Addr}(h:Pen H p c):∃o,H p=some o:=by
 obtain ⟨a,r,ns,h1,_⟩:=h
 exact ⟨_,h1⟩
theorem Pen.cell {H:Hp}{p c:Addr}(h:Pen H p c):∃o,H c=some o:=by
 obtain ⟨a,r,ns,_,h1,_⟩:=h
 exact ⟨_,h1⟩
theorem Pen.upd {H:Hp}{p c l:Addr}{o:HO}(h:Pen H p c) (h1:p≠l) (h2:c≠l):Pen (upd H l o) p c:=by
 obtain ⟨a,r,ns,g1,g2,g3,g4⟩:=h
 exact ⟨a,r,ns,by rw [aj h1]; exact g1,by rw [aj h2]; exact g2,g3,g4⟩
theorem Pen.nep {H:Hp}{p c l:Addr}(h:Pen H p c) (hl:H l=none):p≠l:=let ⟨_,e⟩:=h.pen; ah e hl
theorem Pen.nec {H:Hp}{p c l:Addr}(h:Pen H p c) (hl:H l=none):c≠l:=let ⟨_,e⟩:=h.cell; ah e hl
theorem ExB.new {p:Addr}{H:Hp}{a:Addr}{o:HO}(h:H a=none):ExB p H (L2.upd H a o):=fun b u e _=>by rw [aj (ah e h)]; exact e
def gP:Sp:=fun vs H Q _=>∃c a:Int,vs=[.int c,.int a]/\0<=a/\∀r:Int,0<=r->Q (.int r) H
theorem jQ {i j:Int}(h1:-(2 ^ 64)<j) (h2:j<2 ^ 64):CMul i j:=.inr ⟨h1,h2⟩
theorem oP {K:PySem.W.Frag}{vs:List V}{H:Hp}{Q:VK}{E:XK}(h:gP vs H Q E):j7 K { nx:=fun _ H'=>Q .non H',rt:=Q } (start kR vs) H:=by
 obtain ⟨c,a,rfl,ha,k⟩:=h
 refine ⟨_,rfl,_,_,rfl,rfl,⟨by decide,by decide,by decide⟩,_,_,rfl,rfl,_,rfl,?_⟩
 refine pI (fun h=>?_) (fun _=>?_)
 ·refine ⟨_,rfl,k _ ?_⟩
  have:=of_decide_eq_true h
  have e:((10:Int) ^ (18:Int).toNat)=1000000000000000000:=by decide
  omega
 ·have one:∀z:Int,0<=z % 2147483629/\z % 2147483629<2147483629:=fun z=>⟨Int.emod_nonneg _ (by decide),Int.emod_lt_of_pos _ (by decide)⟩
  have two:∀z:Int,0<=z % 2147483587/\z % 2147483587<2147483587:=fun z=>⟨Int.emod_nonneg _ (by decide),Int.emod_lt_of_pos _ (by decide)⟩
  have three:∀z:Int,0<=z % 2147483563/\z % 2147483563<2147483563:=fun z=>⟨Int.emod_nonneg _ (by decide),Int.emod_lt_of_pos _ (by decide)⟩
  refine ⟨_,rfl,_,_,rfl,rfl,(by show (0:Int)<1000000007; decide),_,_,rfl,rfl,jQ (by decide) (by decide),_,rfl,_,_,rfl,rfl,jQ (by decide) (by decide),_,_,rfl,rfl,_,_,rfl,rfl,_,_,rfl,rfl,(by show (0:Int)<2147483629; decide),?_⟩
  generalize hz1:(c % 1000000007 * 69069+a * 40503+977)=z1
  obtain ⟨o1,o2⟩:=one z1
  generalize z1 % 2147483629=o at o1 o2 ⊢
  refine ⟨_,rfl,_,rfl,_,_,rfl,rfl,jQ (by omega) (by omega),_,rfl,_,_,rfl,rfl,jQ (by decide) (by decide),_,_,rfl,rfl,_,rfl,_,_,rfl,rfl,(by show (0:Int)<65537; decide),_,_,rfl,rfl,_,_,rfl,rfl,(by show (0:Int)<2147483587; decide),?_⟩
  generalize hz2:(o * o+a * 7919+c % 65537)=z2
  obtain ⟨p1,p2⟩:=two z2
  generalize z2 % 2147483587=q at p1 p2 ⊢
  refine ⟨_,rfl,_,rfl,_,_,rfl,rfl,jQ (by omega) (by omega),_,rfl,_,_,rfl,rfl,jQ (by decide) (by decide),_,_,rfl,rfl,_,_,rfl,rfl,_,_,rfl,rfl,(by show (0:Int)<2147483563; decide),?_⟩
  generalize hz3:(q * q+o * 31+5)=z3
  obtain ⟨r1,r2⟩:=three z3
  generalize z3 % 2147483563=r at r1 r2 ⊢
  refine ⟨_,rfl,_,_,rfl,rfl,jQ (by decide) (by decide),_,rfl,_,_,rfl,rfl,_,_,rfl,rfl,jQ (by decide) (by decide),_,rfl,_,_,rfl,rfl,k _ ?_⟩
  omega
def ll:Sp:=fun vs H Q _=>∃p c,vs=[.ref p]/\Pen H p c/\∀H',Pen H' p c->ExB p H H'->Q (.ref p) H'
theorem tL {K:PySem.W.Frag}{vs:List V}{H:Hp}{Q:VK}{E:XK}(h:ll vs H Q E):mS K { nx:=fun _ H'=>Q .non H',rt:=Q } (start nX vs) H:=by
 obtain ⟨p,c,rfl,⟨a,r,ns,h⟩,k⟩:=h
 refine ⟨_,rfl,p,_,_,_,rfl,rfl,h.pen,rfl,_,rfl,k _ ⟨a,0,ns,aa,?_,h.at0,Int.le_refl 0⟩ (ExB.upd _ _ _)⟩
 rw [aj h.ne]; exact h.cells
theorem qo {ns:List Int}{a:Int}(h0:0<=a) (h1:a<ns.length):∃z,atI (ns.map V.int) a=some (.int z):=by
 obtain ⟨n,rfl⟩:=Int.eq_ofNat_of_zero_le h0
 have hn:n<ns.length:=by omega
 exact ⟨ns[n],dH (by simp [hn])⟩
@[irreducible] def bJ:Sp:=fun vs H Q _=>∃(p c:Addr) (m:Int),vs=[.ref p,.int m]/\Pen H p c/\0<m/\m<1073741824/\∀(r:Int) (H':Hp),0<=r->r<m->Pen H' p c->ExB p H H'->Q (.int r) H'
theorem bF {H:Hp}{Q:VK}{E:XK}{p c:Addr}{m:Int}(hp:Pen H p c) (m0:0<m) (m1:m<1073741824) (k:∀(r:Int) (H':Hp),0<=r->r<m->Pen H' p c->ExB p H H'->Q (.int r) H'):bJ [.ref p,.int m] H Q E:=by
 unfold bJ
 exact ⟨p,c,m,rfl,hp,m0,m1,k⟩
theorem tF {K:PySem.W.Frag}{vs:List V}{H:Hp}{Q:VK}{E:XK}(h:bJ vs H Q E):mP K gP { nx:=fun _ H'=>Q .non H',rt:=Q } (start nU vs) H:=by
 unfold bJ at h
 obtain ⟨p,c,m,rfl,⟨a,r,ns,h⟩,hm,hm2,k⟩:=h
 have fin:∀(H':Hp) (a' r':Int) (x y:Option V),PenAt H' p c a' r' ns->ExB p H H' ->
   (aB (ba (tOp eW (tOp (eG K) (af 0) (tC (.int 2))) (af 1)) (am 4)) (aB (ba (tOp tP (tOp (eG K) (af 0) (tC (.int 2))) (af 1)) (ua (af 0) (tC (.int 2)) lr)) (bj (af 4))))
    { nx:=fun _ H'=>Q .non H',rt:=Q } [some (.ref p),some (.int m),x,y,none] H':=by
  intro H' a' r' x y h' ex
  refine ⟨_,rfl,p,_,2,_,rfl,rfl,SqL.of h'.pen,rfl,_,rfl,_,_,rfl,rfl,hm,?_⟩
  refine ⟨_,rfl,p,_,2,_,rfl,rfl,SqL.of h'.pen,rfl,_,rfl,_,_,rfl,rfl,⟨hm,hm2⟩,_,rfl,p,_,_,_,rfl,rfl,h'.pen,rfl,?_⟩
  refine ⟨_,rfl,k _ _ (Int.emod_nonneg _ (by omega)) (Int.emod_lt_of_pos _ hm) ⟨a',_,ns,aa,?_,h'.at0,Int.ediv_nonneg h'.rest0 (by omega)⟩ (ex.trans (ExB.upd _ _ _))⟩
  rw [aj h'.ne]; exact h'.cells
 refine ⟨_,rfl,p,_,2,_,rfl,rfl,SqL.of h.pen,rfl,_,rfl,_,_,rfl,rfl,_,rfl,?_⟩
 refine pI (fun h1=>?_) (fun h1=>?_)
 ·-- at=pen[1]; cell=0; if at<len(pen[0])
  refine ⟨_,rfl,p,_,1,_,rfl,rfl,SqL.of h.pen,rfl,?_⟩
  have la:(V.int ((ns.map V.int).length:Nat))=V.int (ns.length:Nat):=by rw [List.length_map]
  refine ⟨_,rfl,_,rfl,p,_,0,_,rfl,rfl,SqL.of h.pen,rfl,.inl ⟨c,_,rfl,.inl (SqL.of h.cells),_,_,rfl,la,_,rfl,?_⟩⟩
  refine pI (fun h2=>?_) (fun h2=>?_)
  ·obtain ⟨z,hz⟩:=qo (ns:=ns) h.at0 (of_decide_eq_true h2)
   refine ⟨_,rfl,p,_,0,_,rfl,rfl,SqL.of h.pen,rfl,_,rfl,c,_,_,_,rfl,rfl,SqL.of h.cells,hz,?_⟩
   refine ⟨_,rfl,_,_,rfl,rfl,_,rfl,p,_,_,_,rfl,rfl,h.pen,rfl,?_⟩
   refine ⟨_,rfl,_,rfl,_,_,rfl,h.at0,fun q hq=>⟨_,rfl,p,_,_,_,rfl,rfl,aa,rfl,?_⟩⟩
   rw [fm]
   refine fin _ (a+1) q _ _ ⟨aa,by rw [aj h.ne]; exact h.cells,by have:=h.at0; omega,hq⟩ (ExB.upd _ _ _)
  ·refine ⟨_,rfl,p,_,0,_,rfl,rfl,SqL.of h.pen,rfl,.inl ⟨c,_,rfl,.inl (SqL.of h.cells),_,_,la,rfl,_,rfl,?_⟩⟩
   refine pI (fun h3=>?_) (fun h3=>?_)
   ·have hl:(0:Int)<ns.length:=of_decide_eq_true h3
    obtain ⟨z,hz⟩:=qo (ns:=ns) (a:=(a * 5+3) % (ns.length:Int)) (Int.emod_nonneg _ (by omega)) (Int.emod_lt_of_pos _ hl)
    refine ⟨_,rfl,p,_,0,_,rfl,rfl,SqL.of h.pen,rfl,_,rfl,_,_,rfl,rfl,jQ (by decide) (by decide),_,_,rfl,rfl,_,rfl,p,_,0,_,rfl,rfl,SqL.of h.pen,rfl,.inl ⟨c,_,rfl,.inl (SqL.of h.cells),_,_,rfl,la,hl,c,_,_,_,rfl,rfl,SqL.of h.cells,hz,?_⟩⟩
    refine ⟨_,_,rfl,rfl,⟨by decide,by decide,by decide⟩,_,rfl,_,_,rfl,rfl,_,_,rfl,rfl,?_,?_⟩
    ·have e:((10:Int) ^ (17:Int).toNat)=100000000000000000:=by decide
     have:=h.at0
     show (0:Int)<10 ^ (17:Int).toNat+a
     omega
    refine ⟨_,rfl,_,_,rfl,rfl,_,rfl,p,_,_,_,rfl,rfl,h.pen,rfl,?_⟩
    refine ⟨_,rfl,_,rfl,_,_,rfl,h.at0,fun q hq=>⟨_,rfl,p,_,_,_,rfl,rfl,aa,rfl,?_⟩⟩
    rw [fm]
    refine fin _ (a+1) q _ _ ⟨aa,by rw [aj h.ne]; exact h.cells,by have:=h.at0; omega,hq⟩ (ExB.upd _ _ _)
   ·refine ⟨_,rfl,_,_,rfl,rfl,_,rfl,p,_,_,_,rfl,rfl,h.pen,rfl,?_⟩
    refine ⟨_,rfl,_,rfl,_,_,rfl,h.at0,fun q hq=>⟨_,rfl,p,_,_,_,rfl,rfl,aa,rfl,?_⟩⟩
    rw [fm]
    refine fin _ (a+1) q _ _ ⟨aa,by rw [aj h.ne]; exact h.cells,by have:=h.at0; omega,hq⟩ (ExB.upd _ _ _)
 ·exact fin H a r _ _ h (ExB.refl _ _)
def lg (K:PySem.W.Frag):Sp:=fun vs H Q _=>∃(a:Addr) (ns:List Int),vs=[.ref a]/\SqL K H a (ns.map V.int)/\ns.length<=63/\∀(p c:Addr) (H':Hp),H p=none->Pen H' p c->Same H H'->Q (.ref p) H'
theorem kF (ns:List Int) (lo hi:Option Int):∃ms:List Int,i7 (ns.map V.int) lo hi=ms.map V.int/\ms.length=(i7 (ns.map V.int) lo hi).length:=by
 refine ⟨(ns.drop (HT.sIx (ns.map V.int).length 0 lo)).take (HT.sIx (ns.map V.int).length (ns.map V.int).length hi-HT.sIx (ns.map V.int).length 0 lo),?_,?_⟩
 ·unfold i7; rw [List.map_take,List.map_drop]
 ·unfold i7; rw [List.length_take,List.length_take,List.length_drop,List.length_drop,List.length_map]
theorem tH {K:PySem.W.Frag}{vs:List V}{H:Hp}{Q:VK}{E:XK}(h:lg K vs H Q E):mQ K { nx:=fun _ H'=>Q .non H',rt:=Q } (start nV vs) H:=by
 obtain ⟨a,ns,rfl,hs,hn,k⟩:=h
 obtain ⟨c0,e0,l0⟩:=kF ns none (some 12)
 obtain ⟨c1,e1,l1⟩:=kF ns (some 12) (some 63)
 have hlen:c1≠[]->c0.length=12:=by
  intro hne
  have hc1:0<c1.length:=by cases c1 with | nil=>exact absurd rfl hne | cons _ _=>simp
  rw [l1] at hc1
  rw [l0]
  unfold i7 at hc1 ⊢
  rw [List.length_take,List.length_drop,List.length_map] at hc1
  rw [List.length_take,List.length_drop,List.length_map]
  have s1:HT.sIx ns.length 0 (some 12)=min 12 ns.length:=HT.sIx_nat _ _ 12
  have s2:HT.sIx ns.length ns.length (some 12)=min 12 ns.length:=HT.sIx_nat _ _ 12
  rw [HT.sIx_none,s2]
  rw [s1] at hc1
  omega
 refine ⟨_,rfl,_,rfl,a,_,rfl,hs,fun q hq=>.inl ⟨q,_,rfl,.inl (SqL.of aa),fun c hc=>?_⟩⟩
 rw [e0] at hc ⊢
 have hcH:H c=none:=by
  have:c≠q:=fun z=>by subst z; rw [aa] at hc; cases hc
  rw [aj this] at hc; exact hc
 have hS:Same H (upd (upd H q (.lst (c0.map V.int))) c (.lst (c0.map V.int))):=(Same.new hq).trans (Same.new hc)
 refine ⟨_,rfl,_,rfl,_,rfl,a,_,rfl,hS.seq hs,fun r hr=>⟨r,rfl,⟨_,SqL.of aa⟩,?_⟩⟩
 rw [e1]
 have hcr:c≠r:=ah aa hr
 refine e_ (xs:=c1.map V.int) (fun i σ H'=>∃(ms:List Int) (x y:Option V),σ=[some (.ref a),some (.ref c),x,y]/\H' c=some (.lst (ms.map V.int))/\ms.length=c0.length/\H' r=some (.lst (c1.map V.int))/\Same H H')
  ⟨c0,none,none,rfl,kp aa hr,rfl,aa,hS.trans (Same.new hr)⟩ (fun i σ H' _ ⟨ms,x,y,_,_,_,h,_⟩=>SqL.of h) ?_ ?_
 ·rintro i x σ H' t hi ⟨ms,u,v,rfl,hcell,hml,hr',hS'⟩ ht
  have hi':i<c1.length:=by
   have:=(List.getElem?_eq_some_iff.mp hi).1
   rwa [List.length_map] at this
  have h12:=hlen (fun z=>by rw [z] at hi'; simp at hi')
  obtain ⟨z,rfl⟩:∃z,x=V.int z:=by
   rw [List.getElem?_map,List.getElem?_eq_getElem hi'] at hi
   exact ⟨_,(Option.some.inj hi).symm⟩
  have hcell1:upd H' t (.tup [.int i,.int z]) c=some (.lst (ms.map V.int)):=kp hcell ht
  have hidx:(i:Int) % 12=((i % 12:Nat):Int):=by omega
  have hlt:i % 12<ms.length:=by omega
  refine ⟨t,_,rfl,SqT.of aa,rfl,_,_,rfl,_,_,rfl,rfl,?_⟩
  have hat:atI (ms.map V.int) ((i:Int) % 12)=some (.int ms[i % 12]):=by rw [hidx]; exact dH (by simp [hlt])
  refine ⟨_,rfl,_,rfl,_,_,rfl,rfl,(by show (0:Int)<12; decide),c,_,_,_,rfl,rfl,SqL.of hcell1,hat,_,rfl,_,_,rfl,rfl,_,rfl,_,rfl,_,_,rfl,rfl,(by show (0:Int)<12; decide),c,_,_,i % 12,rfl,rfl,hcell1,?_,?_⟩
  ·rw [hidx]
   unfold ixN
   rw [if_pos (by omega),if_pos (by rw [List.length_map]; omega)]
   rw [Int.toNat_natCast]
  ·refine ⟨ms.set (i % 12) (ms[i % 12]+z),_,_,rfl,?_,by rw [List.length_set]; exact hml,?_,?_⟩
   ·rw [aa,List.map_set]
   ·rw [aj hcr.symm]; exact kp hr' ht
   ·intro b o e
    rw [aj (ah e hcH)]
    exact kp (hS' b o e) ht
 ·rintro σ H' ⟨ms,x,y,rfl,hcell,hml,hr',hS'⟩
  refine ⟨_,rfl,(by show 3<=sizeLine; decide),fun p hp=>k p c _ (hS'.free hp) ⟨0,0,ms,aa,kp hcell hp,Int.le_refl _,Int.le_refl _⟩ (hS'.trans (Same.new hp))⟩
def mq (c:Nat):Prop:=97<=c/\c<=122
structure IsName (w:Str):Prop where
 lo:1<=w.length
 hi:w.length<=8
 al:∀c∈w.cps.toList,mq c
theorem qr:∀n:Nat,n<26->(("abcdefghijklmnopqrstuvwxyz":Str).cps.toList)[n]?=some (97+n):=by decide +kernel
theorem qq:("abcdefghijklmnopqrstuvwxyz":Str).length<=sizeLine:=by decide +kernel
theorem sO {r:Int}(h0:0<=r) (h1:r<26):atI (("abcdefghijklmnopqrstuvwxyz":Str).cps.toList) r=some (97+r.toNat):=by
 obtain ⟨n,rfl⟩:=Int.eq_ofNat_of_zero_le h0
 rw [Int.toNat_natCast]
 exact dH (qr n (by omega))
theorem jK (cs:List Nat):∀acc:Array Nat,((cs.map fun c=>(⟨#[c]⟩:Str)).foldl (fun acc p=>acc++("":Str).cps++p.cps) acc).toList=acc.toList++cs:=by
 have e:("":Str).cps=#[]:=by decide +kernel
 induction cs with
 | nil=>intro acc; simp
 | cons c cs ih =>
  intro acc
  rw [List.map_cons,List.foldl_cons,ih,e]
  simp
theorem nD (cs:List Nat):(Txt.join "" (cs.map fun c=>(⟨#[c]⟩:Str))).cps.toList=cs:=by
 unfold Txt.join Builtin.Str.glued
 cases cs with
 | nil=>rfl
 | cons c cs =>
  rw [List.map_cons]
  show ((cs.map fun c=>(⟨#[c]⟩:Str)).foldl (fun acc p=>acc++("":Str).cps++p.cps) #[c]).toList=_
  rw [jK]
  rfl
theorem tD {a b:Str}(h:a.cps.toList=b.cps.toList):a=b:=by
 cases a with | mk x=>cases b with | mk y=>exact congrArg Str.mk (Array.toList_inj.mp h)
theorem bI (a:Str):a.length=a.cps.toList.length:=by simp [Str.length]
theorem lR (a b:Str):(a++b).cps.toList=a.cps.toList++b.cps.toList:=by
 show (a.cps++b.cps).toList=_
 simp
theorem sM (z:Str) (m:Nat):(p_ z none (some (m:Int))).cps.toList=z.cps.toList.take m:=by
 unfold p_
 rw [HT.sIx_none,HT.sIx_nat,List.drop_zero,Nat.sub_zero,bI]
 show List.take _ _=_
 rw [List.take_eq_take_iff]
 omega
theorem rY (z:Str) (m:Nat):(p_ z (some (m:Int)) none).cps.toList=z.cps.toList.drop m:=by
 unfold p_
 rw [HT.sIx_none,HT.sIx_nat,bI]
 show List.take _ _=_
 rw [List.take_of_length_le (by rw [List.length_drop]; omega)]
 by_cases h:m<=z.cps.toList.length
 ·rw [Nat.min_eq_left h]
 ·rw [Nat.min_eq_right (by omega),List.drop_length,List.drop_of_length_le (by omega)]
def dW (way size k:Nat):Nat:=(size+k * (way % 2)) % 8
def wAt (way m:Nat):Nat:=if way=0 then 0 else if way=1 then m else m / 2
def iD (b:List Nat) (way turn size k:Nat):List Nat :=
 (b.take (dW way size k)).take (wAt way (dW way size k))++[97+(turn+3 * k) % 26]++(b.take (dW way size k)).drop (wAt way (dW way size k))
def sk (b:List Nat) (way turn size k:Nat):Str:=⟨(iD b way turn size k).toArray⟩
theorem gF {b:List Nat}(hb:b.length=7) (way turn size k:Nat):(iD b way turn size k).length=dW way size k+1:=by
 have h8:dW way size k<8:=Nat.mod_lt _ (by decide)
 unfold iD
 rw [List.length_append,List.length_append,List.length_take,List.length_drop,List.length_take,hb]
 have:wAt way (dW way size k)<=dW way size k:=by unfold wAt; split; omega; split; omega; omega
 simp
 omega
theorem sV {b:List Nat}(hb:b.length=7) (hl:∀c∈b,mq c) (way turn size k:Nat):IsName (sk b way turn size k):=by
 have h8:dW way size k<8:=Nat.mod_lt _ (by decide)
 have hlen:=gF hb way turn size k
 have e:(sk b way turn size k).cps.toList=iD b way turn size k:=by simp [sk]
 refine ⟨?_,?_,?_⟩
 ·rw [bI,e]; omega
 ·rw [bI,e]; omega
 ·rw [e]
  intro c hc
  unfold iD at hc
  rcases List.mem_append.mp hc with hc | hc
  ·rcases List.mem_append.mp hc with hc | hc
   ·exact hl c (List.mem_of_mem_take (List.mem_of_mem_take hc))
   ·have:c=97+(turn+3 * k) % 26:=by simpa using hc
    subst this
    have:(turn+3 * k) % 26<26:=Nat.mod_lt _ (by decide)
    exact ⟨by omega,by omega⟩
  ·exact hl c (List.mem_of_mem_take (List.mem_of_mem_drop hc))
theorem qG {b:List Nat}(hb:b.length=7) {way turn size:Nat}(hw:way<3) {j k:Nat}(hj:j<26) (hk:k<26) (h:sk b way turn size j=sk b way turn size k):j=k:=by
 have h8:∀i,dW way size i<8:=fun i=>Nat.mod_lt _ (by decide)
 have e:iD b way turn size j=iD b way turn size k:=by
  have:=congrArg (fun s=>Str.cps s |>.toList) h
  simpa [sk] using this
 have el:dW way size j=dW way size k:=by
  have:=congrArg List.length e
  rw [gF hb,gF hb] at this
  omega
 have key:97+(turn+3 * j) % 26=97+(turn+3 * k) % 26:=by
  have hat:∀i,wAt way (dW way size i)<=dW way size i:=fun i=>by unfold wAt; split; omega; split; omega; omega
  have get:∀i,(iD b way turn size i)[wAt way (dW way size i)]?=some (97+(turn+3 * i) % 26):=by
   intro i
   unfold iD
   have hl:((b.take (dW way size i)).take (wAt way (dW way size i))).length=wAt way (dW way size i):=by
    rw [List.length_take,List.length_take,hb]
    have:=h8 i
    have:=hat i
    omega
   rw [List.append_assoc,List.getElem?_append_right (by omega),hl,Nat.sub_self]
   rfl
  have g1:=get j
  have g2:=get k
  rw [e,el] at g1
  rw [g1] at g2
  exact Option.some.inj g2
 omega
def cY (ws:List Str):Prop:=ws.Nodup/\∀w∈ws,IsName w
def dZ (b:List Nat) (way turn size n:Nat):List Str:=(List.range n).map (sk b way turn size)
theorem mK {b:List Nat}(hb:b.length=7) (hl:∀c∈b,mq c) {way turn size n:Nat}(hw:way<3) (hn:n<=26):cY (dZ b way turn size n):=by
 refine ⟨?_,fun w hm=>?_⟩
 ·unfold dZ
  rw [List.nodup_iff_pairwise_ne,List.pairwise_map]
  refine (List.nodup_range (n:=n)).imp_of_mem ?_
  intro j k hj hk hne h
  exact hne (qG hb hw (by have:=List.mem_range.mp hj; omega) (by have:=List.mem_range.mp hk; omega) h)
 ·obtain ⟨k,_,rfl⟩:=List.mem_map.mp hm
  exact sV hb hl _ _ _ _
def gB:Sp:=fun vs H Q _=>∃(p c:Addr) (n:Nat),vs=[.ref p,.int n]/\Pen H p c/\n<=26 /\
 ∀(l:Addr) (ws:List Str) (H':Hp),cY ws->ws.length=n->H l=none->H' l=some (.lst (ws.map V.str))->Pen H' p c->ExB p H H'->Q (.ref l) H'
theorem q0 {K:PySem.W.Frag}{vs:List V}{H:Hp}{Q:VK}{E:XK}(h:gB vs H Q E):kZ K bJ { nx:=fun _ H'=>Q .non H',rt:=Q } (start lT vs) H:=by
 obtain ⟨p,c,n,rfl,hp,hn,k⟩:=h
 refine ⟨rfl,7,rfl,by decide,by decide,fun l hl=>?_⟩
 refine nL (lo:=0) (n:=Int.toNat 7) (fun i vs H'=>∃cs:List Nat,vs=cs.map (fun c=>V.str ⟨#[c]⟩)/\cs.length=i/\(∀c∈cs,mq c)/\Pen H' p c/\ExB p H H'/\H' l=some (.lst vs))
  ⟨[],rfl,rfl,(fun _ h=>nomatch h),hp.ex (Same.new hl),ExB.new hl,aa⟩ (fun i vs H' _ ⟨_,_,_,_,_,_,h⟩=>h) ?_ ?_
 rotate_left
 ·rintro i vs H' hi ⟨cs,rfl,hlen,hlet,hp',hex,hl'⟩
  have hlp:=hp.nep hl
  have hlc:=hp.nec hl
  refine gN (um ?_)
  refine ⟨_,rfl,_,rfl,bF hp' (by decide) (by decide) fun r H2 h0 h1 hp2 hex2=>⟨_,r,_,rfl,rfl,qq,sO h0 h1,?_⟩⟩
  have hl2:=hex2 l _ hl' hlp.symm
  refine ⟨hl2,by rw [List.length_map,hlen]; exact aA (by omega),nxt hi ⟨cs++[97+r.toNat],by rw [List.map_append]; rfl,by rw [List.length_append,hlen]; rfl,?_,hp2.upd hlp hlc,?_,aa⟩⟩
  ·intro x hc
   rcases List.mem_append.mp hc with hc | hc
   ·exact hlet x hc
   ·have:x=97+r.toNat:=by simpa using hc
    subst this
    exact ⟨by omega,by omega⟩
  ·intro b o' e nb
   rw [aj (ah e hl)]
   exact hex2 b o' (hex b o' e nb) nb
 ·rintro vs H1 ⟨cs,rfl,hlen,hlet,hp1,hex1,hl1⟩
  refine ⟨"",l,cs.map fun c=>(⟨#[c]⟩:Str),rfl,rfl,SqL.of (by rw [hl1,List.map_map]; rfl),?_,?_⟩
  ·have e0:("":Str).length=0:=by decide +kernel
   rw [e0,Nat.mul_zero,List.map_map]
   have:∀cs:List Nat,(cs.map ((fun x=>Str.length x) ∘ fun c=>(⟨#[c]⟩:Str))).sum=cs.length:=by
    intro cs
    induction cs with
    | nil=>rfl
    | cons c cs ih=>rw [List.map_cons,List.sum_cons,ih,List.length_cons]; show 1+_=_; omega
   rw [this,hlen]; decide
  refine ⟨_,rfl,bF hp1 (by decide) (by decide) fun way H2 w0 w1 hp2 hex2=>?_⟩
  refine ⟨_,rfl,bF hp2 (by decide) (by decide) fun turn H3 t0 t1 hp3 hex3=>?_⟩
  refine ⟨_,rfl,bF hp3 (by decide) (by decide) fun size H4 s0 s1 hp4 hex4=>?_⟩
  have ex4:ExB p H H4:=((hex1.trans hex2).trans hex3).trans hex4
  obtain ⟨wy,rfl⟩:=Int.eq_ofNat_of_zero_le w0
  obtain ⟨tn,rfl⟩:=Int.eq_ofNat_of_zero_le t0
  obtain ⟨sz,rfl⟩:=Int.eq_ofNat_of_zero_le s0
  have hb:=nD cs
  generalize Txt.join "" (cs.map fun c=>(⟨#[c]⟩:Str))=base at hb ⊢
  refine ⟨(by show 0<=sizeLine; decide),fun f hf=>?_⟩
  obtain ⟨op,hop⟩:=hp4.pen
  have hfH:H f=none:=ex4.free hop hf
  have hfp:=hp.nep hfH
  have hfc:=hp.nec hfH
  refine ⟨_,rfl,n,rfl,by omega,by omega,ib (lo:=0) (n:=((n:Int)).toNat) (fun i σ H'=>∃(a b c' d:Option V),σ=[some (.ref p),some (.int n),some (.str "abcdefghijklmnopqrstuvwxyz"),some (.str base),some (.int wy),some (.int tn),some (.int sz),some (.ref f),a,b,c',d] /\
   Pen H' p c/\ExB p H H'/\H' f=some (.lst ((dZ cs wy tn sz i).map V.str)))
   ⟨_,_,_,_,rfl,hp4.upd hfp hfc,ex4.trans (ExB.new hf),aa⟩ ?_ ?_⟩
  ·rintro i σ H' hi ⟨a,b,c',d,rfl,hp',hex',hf'⟩
   have hi':i<n:=by omega
   have hwy:wy<3:=by omega
   have e26:((tn:Int)+3 * (0+(i:Int))) % 26=(((tn+3 * i) % 26:Nat):Int):=by omega
   refine ⟨_,rfl,_,rfl,_,rfl,_,_,rfl,rfl,.inl ⟨by decide,by decide⟩,_,_,rfl,rfl,_,_,rfl,rfl,(by show (0:Int)<26; decide),_,_,_,rfl,rfl,qq,sO (Int.emod_nonneg _ (by decide)) (Int.emod_lt_of_pos _ (by decide)),?_⟩
   have blen:base.length<=sizeLine:=by rw [bI,hb,hlen]; decide
   have e8:((sz:Int)+(0+(i:Int)) * ((wy:Int) % 2)) % 8=((dW wy sz i:Nat):Int):=by
    unfold dW
    have:wy=0∨wy=1∨wy=2:=by omega
    rcases this with rfl | rfl | rfl <;> simp <;> omega
   refine ⟨_,rfl,_,rfl,_,rfl,_,rfl,_,_,rfl,rfl,(by show (0:Int)<2; decide),_,_,rfl,rfl,.inr ⟨by omega,by omega⟩,_,_,rfl,rfl,_,_,rfl,rfl,(by show (0:Int)<8; decide),_,rfl,base,rfl,blen,?_⟩
   rw [e8]
   have hpart:=sM base (dW wy sz i)
   rw [hb] at hpart
   generalize p_ base none (some ((dW wy sz i:Nat):Int))=part at hpart ⊢
   have h8:dW wy sz i<8:=Nat.mod_lt _ (by decide)
   have plen:part.length=dW wy sz i:=by rw [bI,hpart,List.length_take,hlen]; omega
   have pz:part.length<=sizeLine:=by rw [plen]; exact Nat.le_of_lt (aA (by omega))
   refine ⟨_,rfl,.inr ⟨part,rfl,pz,_,rfl,.inr ⟨part,rfl,pz,_,_,rfl,rfl,⟨by decide,by decide⟩,(by show 3<=sizeLine; decide),fun q hq=>?_⟩⟩⟩
   have hqH:H q=none:=by
    obtain ⟨op',hop'⟩:=hp'.pen
    exact hex'.free hop' hq
   have hat:atI [V.int 0,V.int (part.length:Nat),V.int ((part.length:Int) / 2)] (wy:Int)=some (.int (wAt wy (dW wy sz i):Nat)):=by
    rw [plen]
    have:wy=0∨wy=1∨wy=2:=by omega
    rcases this with rfl | rfl | rfl
    ·rfl
    ·rfl
    ·show some (V.int (((dW 2 sz i:Nat):Int) / 2))=some (V.int ((wAt 2 (dW 2 sz i):Nat):Int))
     have:wAt 2 (dW 2 sz i)=dW 2 sz i / 2:=rfl
     rw [this]
     congr 2
   refine ⟨_,rfl,q,_,_,_,rfl,rfl,SqL.of aa,hat,?_⟩
   have hf2:upd H' q (.lst [V.int 0,V.int (part.length:Nat),V.int ((part.length:Int) / 2)]) f=some (.lst ((dZ cs wy tn sz i).map V.str)):=kp hf' hq
   have c1:=sM part (wAt wy (dW wy sz i))
   have c2:=rY part (wAt wy (dW wy sz i))
   have l1:(p_ part none (some ((wAt wy (dW wy sz i):Nat):Int))).length<=8:=by rw [bI,c1,List.length_take,hpart,List.length_take,hlen]; omega
   have l2:(p_ part (some ((wAt wy (dW wy sz i):Nat):Int)) none).length<=8:=by rw [bI,c2,List.length_drop,hpart,List.length_take,hlen]; omega
   refine ⟨_,rfl,.inl ⟨rfl,_,SqL.of hf2⟩,_,rfl,_,rfl,_,rfl,part,rfl,pz,_,rfl,_,_,rfl,rfl,?_,_,rfl,_,rfl,_,rfl,part,rfl,pz,_,_,rfl,rfl,?_,f,_,_,rfl,rfl,hf2,?_,?_⟩
   ·have:Str.length ⟨#[97+(((tn:Int)+3 * (0+(i:Int))) % 26).toNat]⟩=1:=rfl
    rw [this]
    exact Nat.le_of_lt (aA (by omega))
   ·rw [bI,lR,List.length_append,<-bI,<-bI]
    have:Str.length ⟨#[97+(((tn:Int)+3 * (0+(i:Int))) % 26).toNat]⟩=1:=rfl
    rw [this]
    exact Nat.le_of_lt (aA (by omega))
   ·rw [List.length_map]
    unfold dZ
    rw [List.length_map,List.length_range]
    exact aA (by omega)
   ·refine ⟨_,_,_,_,rfl,(hp'.upd (hp.nep hqH) (hp.nec hqH)).upd hfp hfc,?_,?_⟩
    ·intro b' o' e nb
     rw [aj (ah e hfH)]
     exact kp (hex' b' o' e nb) hq
    ·rw [aa]
     unfold dZ
     rw [List.range_succ,List.map_append,List.map_append]
     congr 3
     show [V.str _]=[V.str _]
     congr 2
     refine tD ?_
     rw [lR,lR,c1,c2,hpart,e26,Int.toNat_natCast]
     simp [sk,iD]
  ·rintro σ H' ⟨a,b,c',d,rfl,hp',hex',hf'⟩
   have en:((n:Int)).toNat=n:=by omega
   rw [en] at hf'
   exact ⟨_,rfl,k f _ H' (mK hlen hlet (by omega) hn) (by unfold dZ; rw [List.length_map,List.length_range]) hfH hf' hp' hex'⟩
structure au where
 a:Str
 sg:List Str
 b:Str
deriving DecidableEq
def SignAt (H:Hp) (s:Addr) (sg:List Str):Prop:=H s=some (.tup (sg.map V.str))
def DoorAt (H:Hp) (t:Addr) (d:au):Prop:=∃s,H t=some (.tup [.str d.a,.ref s,.str d.b])/\SignAt H s d.sg
def KT0 (H H':Hp):Prop:=∀b xs,H b=some (.tup xs)->H' b=some (.tup xs)
theorem DoorAt.kt {H H':Hp}{t:Addr}{d:au}(k:KT0 H H') (h:DoorAt H t d):DoorAt H' t d:=by
 obtain ⟨s,h1,h2⟩:=h
 exact ⟨s,k _ _ h1,k _ _ h2⟩
theorem ExB.kt {p:Addr}{H H':Hp}{xs:List V}(e:ExB p H H') (hp:H p=some (.lst xs)):KT0 H H':=fun b ys h=>e b _ h (fun z=>by rw [z,hp] at h; cases h)
theorem Same.kt {H H':Hp}(e:Same H H'):KT0 H H':=fun b ys h=>e b _ h
theorem KT0.trans {H H1 H2:Hp}(a:KT0 H H1) (b:KT0 H1 H2):KT0 H H2:=fun x xs h=>b x xs (a x xs h)
theorem mr {H:Hp}{l:Addr}{xs:List V}{o:HO}(h:H l=some (.lst xs)):KT0 H (upd H l o):=fun b ys e=>by
 rw [aj (fun z=>by rw [z,h] at e; cases e)]; exact e
abbrev Doors (H:Hp) (ts:List Addr) (ds:List au):Prop:=Paired (DoorAt H) ts ds
theorem Paired.get {α β:Type}{R:α->β->Prop}:∀{xs:List α}{ys:List β}{i:Nat}{y:β},Paired R xs ys->ys[i]?=some y->∃x,xs[i]?=some x/\R x y
 | _,_,i,y,.nil,h=>by simp at h
 | _,_,0,y,.cons r t,h=>by simp at h; subst h; exact ⟨_,rfl,r⟩
 | _,_,i+1,y,.cons r t,h=>by
  simp at h
  obtain ⟨x,h1,h2⟩:=Paired.get t h
  exact ⟨x,by simpa using h1,h2⟩
theorem Paired.getL {α β:Type}{R:α->β->Prop}:∀{xs:List α}{ys:List β}{i:Nat}{x:α},Paired R xs ys->xs[i]?=some x->∃y,ys[i]?=some y/\R x y
 | _,_,i,y,.nil,h=>by simp at h
 | _,_,0,y,.cons r t,h=>by simp at h; subst h; exact ⟨_,rfl,r⟩
 | _,_,i+1,y,.cons r t,h=>by
  simp at h
  obtain ⟨x,h1,h2⟩:=Paired.getL t h
  exact ⟨x,by simpa using h1,h2⟩
theorem Doors.kt {H H':Hp}{ts:List Addr}{ds:List au}(k:KT0 H H') (h:Doors H ts ds):Doors H' ts ds:=Paired.mapP h fun _ _ r=>r.kt k
theorem upd_id {H:Hp}{a:Addr}{o:HO}(h:H a=some o):upd H a o=H:=by
 funext b
 by_cases e:b=a
 ·subst e; rw [aa,h]
 ·rw [aj e]
def sDT (x:Str):DT:=.k (.inr x)
def dDT (d:au):DT:=.t [sDT d.a,.t (d.sg.map sDT),sDT d.b]
theorem gS {x y:Str}(h:sDT x=sDT y):x=y:=by
 unfold sDT at h
 injection h with h
 injection h
theorem b_:∀{x y:List Str},x.map sDT=y.map sDT->x=y
 | [],[],_=>rfl
 | [],_::_,h=>by cases h
 | _::_,[],h=>by cases h
 | a::x,b::y,h=>by
  rw [List.map_cons,List.map_cons] at h
  injection h with h1 h2
  rw [gS h1,b_ h2]
theorem uh {x y:au}(h:dDT x=dDT y):x=y:=by
 unfold dDT at h
 injection h with h
 injection h with h1 h
 injection h with h2 h
 injection h with h3 h
 injection h2 with h2
 cases x; cases y
 simp only at *
 rw [gS h1,b_ h2,gS h3]
theorem cU (xs:List Str):DT.depths (xs.map sDT)=0:=by
 induction xs with
 | nil=>rfl
 | cons x xs ih=>rw [List.map_cons]; show max (DT.depth (sDT x)) (DT.depths _)=0; rw [ih]; rfl
theorem lL (d:au):(dDT d).depth=2:=by
 show DT.depths [sDT d.a,.t (d.sg.map sDT),sDT d.b]+1=2
 show max (DT.depth (sDT d.a)) (max (DT.depths (d.sg.map sDT)+1) (max (DT.depth (sDT d.b)) 0))+1=2
 rw [cU]
 rfl
theorem pW (ds:List au):DT.depths (ds.map dDT)<=8:=by
 induction ds with
 | nil=>exact Nat.zero_le _
 | cons x xs ih=>rw [List.map_cons]; show max (DT.depth (dDT x)) (DT.depths _)<=8; rw [lL]; omega
theorem kE {K:PySem.W.Frag}{H:Hp}:∀xs:List Str,DIns K H (xs.map sDT) (xs.map V.str)
 | []=>by show DIns K H [] []; unfold DIns; rfl
 | x::xs=>by
  rw [List.map_cons,List.map_cons]
  unfold DIns
  refine ⟨_,_,rfl,?_,kE xs⟩
  unfold sDT DIn
  rfl
theorem nK {K:PySem.W.Frag}{H:Hp}(x:Str):DIn K H (sDT x) (.str x):=by unfold sDT DIn; rfl
theorem cW {K:PySem.W.Frag}{H:Hp}{s:Addr}{sg:List Str}(h:SqT K H s (sg.map V.str)):DIn K H (.t (sg.map sDT)) (.ref s):=by
 unfold DIn
 exact ⟨s,_,rfl,h,kE _⟩
theorem DoorAt.dIn {K:PySem.W.Frag}{H:Hp}{t:Addr}{d:au}(h:DoorAt H t d):DIn K H (dDT d) (.ref t):=by
 obtain ⟨s,h1,h2⟩:=h
 unfold dDT
 unfold DIn
 refine ⟨t,_,rfl,SqT.of h1,?_⟩
 unfold DIns
 refine ⟨_,_,rfl,nK _,?_⟩
 unfold DIns
 refine ⟨_,_,rfl,cW (SqT.of h2),?_⟩
 unfold DIns
 refine ⟨_,_,rfl,nK _,?_⟩
 unfold DIns
 rfl
theorem Doors.dIns {K:PySem.W.Frag}{H:Hp}:∀{ts:List Addr}{ds:List au},Doors H ts ds->DIns K H (ds.map dDT) (ts.map V.ref)
 | _,_,.nil=>by show DIns K H [] []; unfold DIns; rfl
 | _,_,.cons r t=>by
  rw [List.map_cons,List.map_cons]
  unfold DIns
  exact ⟨_,_,rfl,r.dIn,Doors.dIns t⟩
theorem mem_dDT {d:au}{ds:List au}:dDT d∈ds.map dDT↔d∈ds:=by
 constructor
 ·intro h
  obtain ⟨x,hx,e⟩:=List.mem_map.mp h
  rw [<-uh e]; exact hx
 ·exact List.mem_map_of_mem
def mh (ds:List au) (d:au):List au:=if d∈ds then ds else ds++[d]
@[irreducible] def eR:Sp:=fun vs H Q _=>∃(l t:Addr) (ts:List Addr) (ds:List au) (d:au),vs=[.ref l,.ref t]/\H l=some (.lst (ts.map V.ref))/\Doors H ts ds/\DoorAt H t d/\ds.length<=1000 /\
 ∀ts':List Addr,Doors H ts' (mh ds d)->Q .non (upd H l (.lst (ts'.map V.ref)))
theorem uD {K:PySem.W.Frag}{vs:List V}{H:Hp}{Q:VK}{E:XK}(h:eR vs H Q E):oz K { nx:=fun _ H'=>Q .non H',rt:=Q } (start qt vs) H:=by
 unfold eR at h
 obtain ⟨l,t,ts,ds,d,rfl,hl,hd,ht,hz,k⟩:=h
 refine ⟨_,rfl,_,rfl,dDT d,ds.map dDT,l,_,ht.dIn,rfl,.inl (SqL.of hl),hd.dIns,by rw [lL]; decide,pW ds,_,rfl,?_⟩
 by_cases hm:d∈ds
 ·rw [if_pos rfl,decide_eq_true (mem_dDT.mpr hm)]
  refine bp ?_
  have:=k ts (by unfold mh; rw [if_pos hm]; exact hd)
  rw [upd_id hl] at this
  exact this
 ·rw [if_pos rfl,decide_eq_false (fun z=>hm (mem_dDT.mp z))]
  refine cb ?_
  refine ⟨_,rfl,.inl ⟨rfl,_,SqL.of hl⟩,_,rfl,l,_,_,rfl,rfl,hl,?_,?_⟩
  ·rw [List.length_map,Paired.length hd]
   exact aA hz
  ·have:=k (ts++[t]) (by unfold mh; rw [if_neg hm]; exact Paired.snoc hd ht)
   rw [List.map_append] at this
   exact this
structure DI (R:au->Prop) (H0:Hp) (p c l:Addr) (m:Nat) (H:Hp):Prop where
 pen:Pen H p c
 ds:∃ts ds,H l=some (.lst (ts.map V.ref))/\Doors H ts ds/\ds.Nodup/\(∀d∈ds,R d)/\ds.length<=m
 ex:ExB p H0 H
 fr:H0 l=none
 pl:p≠l
 cl:c≠l
section
variable {R:au->Prop}{H0 H H':Hp}{p c l:Addr}{m:Nat}
theorem Pen.lst {H:Hp}{p c:Addr}(h:Pen H p c):∃xs,H p=some (.lst xs):=by
 obtain ⟨a,r,ns,h1,_⟩:=h
 exact ⟨_,h1⟩
theorem DI.took (h:DI R H0 p c l m H) (hp:Pen H' p c) (e:ExB p H H'):DI R H0 p c l m H':=by
 obtain ⟨ts,ds,h1,h2,h3⟩:=h.ds
 obtain ⟨xs,hx⟩:=h.pen.lst
 exact ⟨hp,⟨ts,ds,e _ _ h1 h.pl.symm,h2.kt (e.kt hx),h3⟩,h.ex.trans e,h.fr,h.pl,h.cl⟩
theorem DI.new (h:DI R H0 p c l m H) {q:Addr}{o:HO}(hq:H q=none):DI R H0 p c l m (upd H q o) :=
 h.took (h.pen.ex (Same.new hq)) (ExB.new hq)
theorem DI.up (h:DI R H0 p c l m H) {n:Nat}(hn:m<=n):DI R H0 p c l n H:=by
 obtain ⟨ts,ds,h1,h2,h3,h4,h5⟩:=h.ds
 exact ⟨h.pen,⟨ts,ds,h1,h2,h3,h4,Nat.le_trans h5 hn⟩,h.ex,h.fr,h.pl,h.cl⟩
theorem DI.put (h:DI R H0 p c l m H) {t:Addr}{d:au}{Q:VK}{E:XK}(ht:DoorAt H t d) (hR:R d) (hm:m<=1000) (k:∀H',DI R H0 p c l (m+1) H'->Q .non H'):eR [.ref l,.ref t] H Q E:=by
 obtain ⟨ts,ds,h1,h2,h3,h4,h5⟩:=h.ds
 unfold eR
 refine ⟨l,t,ts,ds,d,rfl,h1,h2,ht,Nat.le_trans h5 hm,fun ts' h'=>k _ ⟨h.pen.upd h.pl h.cl,⟨ts',mh ds d,aa,h'.kt (mr h1),?_,?_,?_⟩,?_,h.fr,h.pl,h.cl⟩⟩
 ·unfold mh
  split
  ·exact h3
  ·next hn =>
   rw [List.nodup_append]
   refine ⟨h3,by simp,?_⟩
   intro a ha b hb e
   have:b=d:=by simpa using hb
   subst this
   exact hn (e ▸ ha)
 ·intro x hx
  unfold mh at hx
  split at hx
  ·exact h4 x hx
  ·rcases List.mem_append.mp hx with hx | hx
   ·exact h4 x hx
   ·have:x=d:=by simpa using hx
    rw [this]; exact hR
 ·unfold mh
  split
  ·omega
  ·rw [List.length_append]; show ds.length+1<=m+1; omega
 ·intro b o e n
  rw [aj (ah e h.fr)]
  exact h.ex b o e n
end
theorem Pen.ne_strs {H:Hp}{p c a:Addr}{ws:List Str}(hp:Pen H p c) (ha:H a=some (.lst (ws.map V.str))):a≠p:=by
 intro e
 obtain ⟨x,y,ns,h1,_⟩:=hp
 rw [e,h1] at ha
 injection ha with ha
 injection ha with ha
 cases ws with
 | nil=>cases ha
 | cons w ws=>injection ha with ha; cases ha
theorem jy {K:PySem.W.Frag}{r:R2}(hr:∀x y H Q,eG K x y H Q->r x y H Q) {σ:L2.St}{H:Hp}{Q:VK}{p c a:Addr}{j:Nat}{ws:List Str}(h0:σ[0]?=some (some (.ref p))) (hj:σ[j]?=some (some (.ref a))) (hp:Pen H p c)
  (ha:H a=some (.lst (ws.map V.str))) (hne:ws≠[]) (hlen:ws.length<=1000) (k:∀w∈ws,∀H',Pen H' p c->ExB p H H'->Q (.str w) H') :
  ∃v,σ[j]?=some (some v)/\∃v0,σ[0]?=some (some v0)/\∃v1,σ[j]?=some (some v1)/\fS K [v1] H fun y H1=>bJ [v0,y] H1 (fun y H2=>r v y H2 Q) E0:=by
 have hl:0<ws.length:=by cases ws with | nil=>exact absurd rfl hne | cons _ _=>simp
 have la:(V.int ((ws.map V.str).length:Nat))=V.int (ws.length:Nat):=by rw [List.length_map]
 have hpa:=hp.ne_strs ha
 have fin:∀(x:Int) (H':Hp),0<=x->x<(ws.length:Int)->Pen H' p c->ExB p H H'->eG K (.ref a) (.int x) H' Q:=by
  intro x H' x0 x1 hp' ex
  obtain ⟨n,rfl⟩:=Int.eq_ofNat_of_zero_le x0
  have hn:n<ws.length:=by omega
  exact ⟨a,_,(n:Int),.str ws[n],rfl,rfl,SqL.of (ex _ _ ha hpa),dH (by simp [hn]),k _ (List.getElem_mem hn) H' hp' ex⟩
 exact ⟨_,hj,_,h0,_,hj,.inl ⟨a,_,rfl,.inl (SqL.of ha),by rw [la]; exact bF hp (by omega) (by omega) fun x H' x0 x1 hp' ex=>hr _ _ _ _ (fin x H' x0 x1 hp' ex)⟩⟩
def Up (up:Bool) (rooms:List Str) (a b:Str):Prop:=∃i j:Nat,rooms[i]?=some a/\rooms[j]?=some b/\(if up=true then i<j else j<i)
structure GoodDoor (asks says rooms:List Str) (up:Bool) (d:au):Prop where
 a:d.a∈rooms
 b:d.b∈rooms
 sg:(∃w∈asks,d.sg=[("ask":Str),w])∨(∃w∈says,d.sg=[("say":Str),w])∨(d.sg=[("still":Str)]/\Up up rooms d.a d.b)
def stillSg:List Str:=[("still":Str)]
structure qy (asks says rooms:List Str) (d:au):Prop where
 a:d.a∈rooms
 b:d.b∈rooms
 sg:(∃w∈asks,d.sg=[("ask":Str),w])∨(∃w∈says,d.sg=[("say":Str),w])∨d.sg=stillSg
theorem GoodDoor.d {asks says rooms:List Str}{up:Bool}{d:au}(h:GoodDoor asks says rooms up d):qy asks says rooms d:=⟨h.a,h.b,h.sg.imp id (Or.imp id And.left)⟩
inductive Reach (ds:List au) (a:Str):Str->Prop
 | one {b:Str}(h:(⟨a,stillSg,b⟩:au)∈ds):Reach ds a b
 | step {b c:Str}(r:Reach ds a b) (h:(⟨b,stillSg,c⟩:au)∈ds):Reach ds a c
theorem pS {rooms:List Str}(nd:rooms.Nodup) {i j:Nat}{a:Str}(hi:rooms[i]?=some a) (hj:rooms[j]?=some a):i=j:=by
 obtain ⟨h1,e1⟩:=List.getElem?_eq_some_iff.mp hi
 obtain ⟨h2,e2⟩:=List.getElem?_eq_some_iff.mp hj
 have pw:=List.pairwise_iff_getElem.mp nd
 rcases Nat.lt_trichotomy i j with h | h | h
 ·exact absurd (e1.trans e2.symm) (pw i j h1 h2 h)
 ·exact h
 ·exact absurd (e2.trans e1.symm) (pw j i h2 h1 h)
theorem Up.trans {up:Bool}{rooms:List Str}(nd:rooms.Nodup) {a b c:Str}(h1:Up up rooms a b) (h2:Up up rooms b c):Up up rooms a c:=by
 obtain ⟨i,j,e1,e2,h⟩:=h1
 obtain ⟨j',k,e3,e4,h'⟩:=h2
 have:=pS nd e2 e3
 subst this
 refine ⟨i,k,e1,e4,?_⟩
 cases up
 ·simp at h h' ⊢; omega
 ·simp at h h' ⊢; omega
theorem Up.irr {up:Bool}{rooms:List Str}(nd:rooms.Nodup) {a:Str}(h:Up up rooms a a):False:=by
 obtain ⟨i,j,e1,e2,h⟩:=h
 have:=pS nd e1 e2
 subst this
 cases up
 ·simp at h
 ·simp at h
theorem l6 {asks says rooms:List Str}{ds:List au}{up:Bool}(nd:rooms.Nodup) (m:∀d∈ds,GoodDoor asks says rooms up d) {a b:Str}(h:Reach ds a b):Up up rooms a b:=by
 have edge:∀{a b:Str},(⟨a,stillSg,b⟩:au)∈ds->Up up rooms a b:=by
  intro a b h
  rcases (m _ h).sg with ⟨w,_,e⟩ | ⟨w,_,e⟩ | ⟨_,e⟩
  ·cases e
  ·cases e
  ·exact e
 induction h with
 | one h=>exact edge h
 | step r h ih=>exact ih.trans nd (edge h)
def bS:Sp:=fun vs H Q _=>∃(p c l1 l2 l3:Addr) (asks says rooms:List Str) (full:Int),vs=[.ref p,.ref l1,.ref l2,.ref l3,.int full]/\Pen H p c /\
 H l1=some (.lst (asks.map V.str))/\H l2=some (.lst (says.map V.str))/\H l3=some (.lst (rooms.map V.str))/\asks.length<=4/\says≠[]/\says.length<=4/\rooms≠[]/\rooms.length<=26/\0<=full/\full<=2 /\
 ∀(l:Addr) (ts:List Addr) (ds:List au) (up:Bool) (H':Hp),H l=none->H' l=some (.lst (ts.map V.ref))->Doors H' ts ds->ds.Nodup->(∀d∈ds,GoodDoor asks says rooms up d)->ds.length<=600->Pen H' p c->ExB p H H'->Q (.ref l) H'
theorem at4 {x r:Int}(x0:0<=x) (x2:x<=2) (r0:0<=r) (r4:r<4):∃j:Int,atI [V.int x,.int 1,.int 1,.int 2] r=some (.int j)/\0<=j/\j<=2:=by
 have:r=0∨r=1∨r=2∨r=3:=by omega
 rcases this with rfl | rfl | rfl | rfl
 ·exact ⟨x,rfl,x0,x2⟩
 ·exact ⟨1,rfl,by decide,by decide⟩
 ·exact ⟨1,rfl,by decide,by decide⟩
 ·exact ⟨2,rfl,by decide,by decide⟩
theorem p9 (ws:List Str) (k:Nat):i7 (ws.map V.str) (some (k:Int)) none=(ws.drop k).map V.str:=by
 unfold i7
 rw [HT.sIx_none,HT.sIx_nat,List.length_map,List.take_of_length_le (by rw [List.length_drop,List.length_map]; omega),List.map_drop]
 by_cases h:k<=ws.length
 ·rw [Nat.min_eq_left h]
 ·rw [Nat.min_eq_right (by omega),List.drop_of_length_le (by simp),List.drop_of_length_le (by rw [List.length_map]; omega)]
theorem p8 (ws:List Str) (k:Nat):i7 (ws.map V.str) none (some (k:Int))=(ws.take k).map V.str:=by
 unfold i7
 rw [HT.sIx_none,HT.sIx_nat,List.length_map,List.drop_zero,Nat.sub_zero,List.map_take,List.take_eq_take_iff,List.length_map]
 omega
theorem jN {K:PySem.W.Frag}{H:Hp}{a:Addr}{ws:List Str}(h:SqL K H a (ws.map V.str)):DIn K H (.s (ws.map sDT)) (.ref a):=by
 unfold DIn
 exact ⟨a,_,rfl,h,kE _⟩
theorem ug {K:PySem.W.Frag}{H:Hp}{a:Addr}(h:SqL K H a []):DIn K H (.s []) (.ref a):=by
 unfold DIn
 refine ⟨a,_,rfl,h,?_⟩
 unfold DIns
 rfl
theorem jC {K:PySem.W.Frag}{vs:List V}{H:Hp}{Q:VK}{E:XK}(h:bS vs H Q E):gb K bJ eR { nx:=fun _ H'=>Q .non H',rt:=Q } (start gr vs) H:=by
 obtain ⟨p,c,l1,l2,l3,asks,says,rooms,full,rfl,hp,h1,h2,h3,ha,hs0,hs,hr0,hr,f0,f2,k⟩:=h
 have n1:=hp.ne_strs h1
 have n2:=hp.ne_strs h2
 have n3:=hp.ne_strs h3
 refine ⟨(by show 0<=sizeLine; decide),fun l hl=>?_⟩
 have hpl:=hp.nep hl
 have hcl:=hp.nec hl
 refine ⟨_,rfl,bF (hp.ex (Same.new hl)) (by decide) (by decide) fun dn H1 d0 d1 hp1 ex1=>?_⟩
 generalize hG:GoodDoor asks says rooms (decide (dn=0))=G
 have base:DI G H p c l 0 H1:=⟨hp1,⟨[],[],ex1 _ _ aa hpl.symm,.nil,List.nodup_nil,by simp,Nat.zero_le _⟩,(ExB.new hl).trans ex1,hl,hpl,hcl⟩
 refine ⟨_,rfl,l3,rfl,⟨_,SqL.of (base.ex _ _ h3 n3)⟩,?_⟩
 refine e_ (xs:=rooms.map V.str) (fun i σ H'=>∃a7 a8 a9 a10 a11 a12:Option V,σ=[some (.ref p),some (.ref l1),some (.ref l2),some (.ref l3),some (.int full),some (.ref l),some (.int dn),a7,a8,a9,a10,a11,a12]/\DI G H p c l (11 * i) H')
  ⟨_,_,_,_,_,_,rfl,base⟩ (fun i σ H' _ ⟨_,_,_,_,_,_,_,D⟩=>SqL.of (D.ex _ _ h3 n3)) ?_ ?_
 ·rintro i x σ H' t hi ⟨a7,a8,a9,a10,a11,a12,rfl,D⟩ ht
  obtain ⟨room,hroom,rfl⟩:∃room,rooms[i]?=some room/\x=V.str room:=by
   rw [List.getElem?_map] at hi
   cases q:rooms[i]? with
   | none=>rw [q] at hi; cases hi
   | some r=>rw [q] at hi; exact ⟨r,rfl,(Option.some.inj hi).symm⟩
  have hiL:i<rooms.length:=(List.getElem?_eq_some_iff.mp hroom).1
  have hmem:room∈rooms:=List.mem_of_getElem? hroom
  refine ⟨t,_,rfl,SqT.of aa,rfl,_,_,rfl,_,_,rfl,rfl,?_⟩
  have D1:=D.new ht (o:=.tup [.int i,.str room])
  refine ⟨(by show 4<=sizeLine; decide),fun q hq=>⟨_,rfl,bF (D1.new hq).pen (by decide) (by decide) fun r H2 r0 r1 hp2 ex2=>?_⟩⟩
  obtain ⟨j,hj,j0,j2⟩:=at4 (x:=0) (by decide) (by decide) r0 r1
  have D2:=(D1.new hq).took hp2 ex2
  refine ⟨q,_,_,_,rfl,rfl,SqL.of (ex2 q _ aa (D1.pen.nep hq).symm),hj,j,rfl,by omega,by omega,?_⟩
  refine ib (lo:=0) (n:=j.toNat) (fun i' σ H''=>∃a9 a10:Option V,σ=[some (.ref p),some (.ref l1),some (.ref l2),some (.ref l3),some (.int full),some (.ref l),some (.int dn),some (.int i),some (.str room),a9,a10,a11,a12]/\DI G H p c l (11 * i+i') H'')
   ⟨_,_,rfl,D2⟩ ?_ ?_
  ·rintro i' σ H3 hi' ⟨a9,a10,rfl,D3⟩
   refine jy (fun _ _ _ _ h=>h) rfl rfl D3.pen (D3.ex _ _ h2 n2) hs0 (by omega) fun w hw H4 hp4 ex4=>?_
   have D4:=D3.took hp4 ex4
   refine ⟨(by show 2<=sizeLine; decide),fun sg hsg=>?_⟩
   have D5:=D4.new hsg (o:=.tup [.str "say",.str w])
   refine ⟨_,rfl,_,rfl,_,rfl,jy (fun _ _ _ _ h=>h) rfl rfl D5.pen (D5.ex _ _ h3 n3) hr0 (by omega) fun w2 hw2 H6 hp6 ex6=>?_⟩
   have D6:=D5.took hp6 ex6
   refine ⟨(by show 3<=sizeLine; decide),fun dr hdr=>?_⟩
   have D7:=D6.new hdr (o:=.tup [.str room,.ref sg,.str w2])
   have hsg6:H6 sg=some (.tup [.str "say",.str w]):=ex6 _ _ aa (D4.pen.nep hsg).symm
   refine D7.put (d:=⟨room,["say",w],w2⟩) ⟨sg,aa,kp hsg6 hdr⟩ ?_ (by omega) fun H8 D8=>⟨_,_,rfl,D8⟩
   rw [<-hG]
   exact ⟨hmem,hw2,.inr (.inl ⟨w,hw,rfl⟩)⟩
  rintro σ H3 ⟨a9,a10,rfl,D3'⟩
  have D3:DI G H p c l (11 * i+2) H3:=D3'.up (by omega)
  clear D3'
  refine ⟨_,rfl,l1,rfl,⟨_,SqL.of (D3.ex _ _ h1 n1)⟩,?_⟩
  refine aV (xs:=asks.map V.str) (fun i' σ H''=>∃a9 a11:Option V,σ=[some (.ref p),some (.ref l1),some (.ref l2),some (.ref l3),some (.int full),some (.ref l),some (.int dn),some (.int i),some (.str room),a9,a10,a11,a12]/\DI G H p c l (11 * i+2+2 * i') H'')
   ⟨_,_,rfl,D3⟩ (fun i σ H' _ ⟨_,_,_,D⟩=>SqL.of (D.ex _ _ h1 n1)) ?_ ?_
  ·rintro i' x σ H4 hi' ⟨a9,a11,rfl,D4⟩
   obtain ⟨ask,hask,rfl⟩:∃ask,asks[i']?=some ask/\x=V.str ask:=by
    rw [List.getElem?_map] at hi'
    cases q:asks[i']? with
    | none=>rw [q] at hi'; cases hi'
    | some r=>rw [q] at hi'; exact ⟨r,rfl,(Option.some.inj hi').symm⟩
   have hi2:i'<asks.length:=(List.getElem?_eq_some_iff.mp hask).1
   have hm2:ask∈asks:=List.mem_of_getElem? hask
   refine ⟨_,rfl,(by show 4<=sizeLine; decide),fun q hq=>⟨_,rfl,bF (D4.new hq).pen (by decide) (by decide) fun r H5 r0 r1 hp5 ex5=>?_⟩⟩
   obtain ⟨j,hj,j0,j2⟩:=at4 f0 f2 r0 r1
   have D5:=(D4.new hq).took hp5 ex5
   refine ⟨q,_,_,_,rfl,rfl,SqL.of (ex5 q _ aa (D4.pen.nep hq).symm),hj,j,rfl,by omega,by omega,?_⟩
   refine ib (lo:=0) (n:=j.toNat) (fun i'' σ H''=>∃a9:Option V,σ=[some (.ref p),some (.ref l1),some (.ref l2),some (.ref l3),some (.int full),some (.ref l),some (.int dn),some (.int i),some (.str room),a9,a10,some (.str ask),a12]/\DI G H p c l (11 * i+2+2 * i'+i'') H'')
    ⟨_,rfl,D5⟩ ?_ ?_
   ·rintro i'' σ H6 hi'' ⟨a9,rfl,D6⟩
    refine ⟨_,rfl,_,rfl,_,rfl,(by show 2<=sizeLine; decide),fun sg hsg=>?_⟩
    have D7:=D6.new hsg (o:=.tup [.str "ask",.str ask])
    refine jy (fun _ _ _ _ h=>h) rfl rfl D7.pen (D7.ex _ _ h3 n3) hr0 (by omega) fun w2 hw2 H8 hp8 ex8=>?_
    have D8:=D7.took hp8 ex8
    refine ⟨(by show 3<=sizeLine; decide),fun dr hdr=>?_⟩
    have D9:=D8.new hdr (o:=.tup [.str room,.ref sg,.str w2])
    have hsg8:H8 sg=some (.tup [.str "ask",.str ask]):=ex8 _ _ aa (D6.pen.nep hsg).symm
    refine D9.put (d:=⟨room,["ask",ask],w2⟩) ⟨sg,aa,kp hsg8 hdr⟩ ?_ (by omega) fun H8 D8=>⟨_,rfl,D8⟩
    rw [<-hG]
    exact ⟨hmem,hw2,.inl ⟨ask,hm2,rfl⟩⟩
   ·rintro σ H6 ⟨a9,rfl,D6⟩
    exact ⟨_,_,rfl,D6.up (by omega)⟩
  rintro σ H4 ⟨a9,a11,rfl,D4'⟩
  have D4:DI G H p c l (11 * i+10) H4:=D4'.up (by rw [List.length_map]; omega)
  clear D4'
  have hnext:∀(H9:Hp) (a12:Option V),DI G H p c l (11 * i+11) H9->∃a7 a8 a9' a10' a11' a12':Option V,[some (.ref p),some (.ref l1),some (.ref l2),some (.ref l3),some (.int full),some (.ref l),some (.int dn),some (.int i),some (.str room),a9,a10,a11,a12] =
    [some (.ref p),some (.ref l1),some (.ref l2),some (.ref l3),some (.int full),some (.ref l),some (.int dn),a7,a8,a9',a10',a11',a12']/\DI G H p c l (11 * (i+1)) H9:=fun H9 a12 D9=>⟨_,_,_,_,_,_,rfl,D9.up (by omega)⟩
  refine ⟨_,rfl,_,rfl,_,_,rfl,rfl,_,rfl,l3,_,rfl,SqL.of (D4.ex _ _ h3 n3),fun q1 hq1=>?_⟩
  have D5:=D4.new hq1 (o:=.lst (i7 (rooms.map V.str) (some ((i:Int)+1)) none))
  refine ⟨_,rfl,_,rfl,_,rfl,l3,_,rfl,SqL.of (D5.ex _ _ h3 n3),fun q2 hq2=>?_⟩
  have e1:i7 (rooms.map V.str) (some ((i:Int)+1)) none=(rooms.drop (i+1)).map V.str:=p9 rooms (i+1)
  rw [p8]
  have D6:=D5.new hq2 (o:=.lst ((rooms.take i).map V.str))
  refine ⟨(by show 2<=sizeLine; decide),fun q3 hq3=>?_⟩
  have D7:=D6.new hq3 (o:=.lst [.ref q1,.ref q2])
  obtain ⟨lt,q,hq,hlt,hgood⟩:∃(lt:List Str) (q:Addr),atI [V.ref q1,.ref q2] dn=some (.ref q) /\
    upd (upd (upd H4 q1 (.lst (i7 (rooms.map V.str) (some ((i:Int)+1)) none))) q2 (.lst ((rooms.take i).map V.str))) q3 (.lst [.ref q1,.ref q2]) q=some (.lst (lt.map V.str))/\lt.length<=26 /\
    ∀w∈lt,w∈rooms/\Up (decide (dn=0)) rooms room w:=by
   have:dn=0∨dn=1:=by omega
   rcases this with rfl | rfl
   ·refine ⟨rooms.drop (i+1),q1,rfl,?_,by rw [List.length_drop]; omega,fun w hw=>⟨List.mem_of_mem_drop hw,?_⟩⟩
    ·refine (kp (kp aa hq2) hq3).trans ?_
     rw [e1]
    ·obtain ⟨n,hn⟩:=List.getElem?_of_mem hw
     rw [List.getElem?_drop] at hn
     exact ⟨i,i+1+n,hroom,hn,by rw [if_pos (by decide)]; omega⟩
   ·refine ⟨rooms.take i,q2,rfl,?_,by rw [List.length_take]; omega,fun w hw=>⟨List.mem_of_mem_take hw,?_⟩⟩
    ·exact kp aa hq3
    ·obtain ⟨n,hn⟩:=List.getElem?_of_mem hw
     have hnl:n<i:=by
      have:=(List.getElem?_eq_some_iff.mp hn).1
      rw [List.length_take] at this
      omega
     rw [List.getElem?_take_of_lt hnl] at hn
     exact ⟨i,n,hroom,hn,by rw [if_neg (by decide)]; omega⟩
  refine ⟨_,rfl,q3,_,_,_,rfl,rfl,SqL.of aa,hq,?_⟩
  generalize upd (upd (upd H4 q1 (.lst (i7 (rooms.map V.str) (some ((i:Int)+1)) none))) q2 (.lst ((rooms.take i).map V.str))) q3 (.lst [.ref q1,.ref q2])=H7 at D7 hlt ⊢
  refine ⟨_,rfl,(by show 0<=sizeLine; decide),fun e he=>⟨.s (lt.map sDT),.s [],jN (SqL.of (kp hlt he)),ug (SqL.of aa),?_,by decide,_,rfl,?_⟩⟩
  ·show DT.depths (lt.map sDT)+1<=8
   rw [cU]; decide
  have D8:=D7.new he (o:=.lst [])
  by_cases hz:lt=[]
  ·have ez:(!decide (DT.s (lt.map sDT)=DT.s []))=false:=by rw [hz,decide_eq_true (by rfl)]; rfl
   rw [ez]
   exact bp (bp (hnext _ _ (D8.up (by omega))))
  ·have ez:(!decide (DT.s (lt.map sDT)=DT.s []))=true:=by
    rw [decide_eq_false (fun z=>hz (b_ (y:=[]) (by injection z)))]; rfl
   rw [ez]
   refine cb ?_
   refine ⟨_,rfl,bF D8.pen (by decide) (by decide) fun r H9 r0 r1 hp9 ex9=>⟨rfl,_,rfl,?_⟩⟩
   have D9:=D8.took hp9 ex9
   refine pI (fun _=>?_) (fun _=>hnext _ _ (D9.up (by omega)))
   refine ⟨_,rfl,_,rfl,(by show 1<=sizeLine; decide),fun sg hsg=>?_⟩
   have D10:=D9.new hsg (o:=.tup [.str "still"])
   have hlt10:upd H9 sg (.tup [.str "still"]) q=some (.lst (lt.map V.str)):=kp (ex9 _ _ (kp hlt he) (D8.pen.ne_strs (kp hlt he))) hsg
   refine jy (fun _ _ _ _ h=>.inl h) rfl rfl D10.pen hlt10 hz (by omega) fun w2 hw2 H11 hp11 ex11=>?_
   have D11:=D10.took hp11 ex11
   refine ⟨(by show 3<=sizeLine; decide),fun dr hdr=>?_⟩
   have D12:=D11.new hdr (o:=.tup [.str room,.ref sg,.str w2])
   have hsg11:H11 sg=some (.tup [.str "still"]):=ex11 _ _ aa (D9.pen.nep hsg).symm
   refine D12.put (d:=⟨room,[("still":Str)],w2⟩) ⟨sg,aa,kp hsg11 hdr⟩ ?_ (by omega) fun H13 D13=>hnext _ _ D13
   rw [<-hG]
   exact ⟨hmem,(hgood.2 w2 hw2).1,.inr (.inr ⟨rfl,(hgood.2 w2 hw2).2⟩)⟩
 ·rintro σ H' ⟨a7,a8,a9,a10,a11,a12,rfl,D⟩
  obtain ⟨ts,ds,g1,g2,g3,g4,g5⟩:=D.ds
  rw [List.length_map] at g5
  rw [<-hG] at g4
  exact ⟨_,rfl,k l ts ds _ H' hl g1 g2 g3 g4 (by omega) D.pen D.ex⟩
structure ModelOk (asks says rooms:List Str) (ds:List au):Prop where
 okA:cY asks
 okS:cY says
 apart:∀w∈says,w∉asks
 okR:cY rooms
 asks0:asks≠[]
 says0:says≠[]
 rooms0:rooms≠[]
 asks4:asks.length<=4
 says4:says.length<=4
 rooms26:rooms.length<=150
 nodup:ds.Nodup
 good:∀d∈ds,qy asks says rooms d
 few:ds.length<=1000
 noround:∀r,¬Reach ds r r
structure Told (H:Hp) (t l1 l2 l3 l4:Addr) (ts:List Addr) (asks says rooms:List Str) (ds:List au):Prop where
 t:H t=some (.tup [.ref l1,.ref l2,.ref l3,.ref l4])
 a1:H l1=some (.lst (asks.map V.str))
 a2:H l2=some (.lst (says.map V.str))
 a3:H l3=some (.lst (rooms.map V.str))
 a4:H l4=some (.lst (ts.map V.ref))
 ds:Doors H ts ds
theorem Pen.ne_refs {H:Hp}{p c a:Addr}{ts:List Addr}(hp:Pen H p c) (ha:H a=some (.lst (ts.map V.ref))):a≠p:=by
 intro e
 obtain ⟨x,y,ns,h1,_⟩:=hp
 rw [e,h1] at ha
 injection ha with ha
 injection ha with ha
 cases ts with
 | nil=>cases ha
 | cons w ws =>
  injection ha with _ ha
  cases ws with
  | nil=>cases ha
  | cons w ws=>injection ha with ha; cases ha
theorem Told.ex {H H':Hp}{p c t l1 l2 l3 l4:Addr}{ts:List Addr}{asks says rooms:List Str}{ds:List au}(h:Told H t l1 l2 l3 l4 ts asks says rooms ds) (hp:Pen H p c) (e:ExB p H H'):Told H' t l1 l2 l3 l4 ts asks says rooms ds:=by
 obtain ⟨xs,hx⟩:=hp.lst
 exact ⟨e.kt hx _ _ h.t,e _ _ h.a1 (hp.ne_strs h.a1),e _ _ h.a2 (hp.ne_strs h.a2),e _ _ h.a3 (hp.ne_strs h.a3),e _ _ h.a4 (hp.ne_refs h.a4),h.ds.kt (e.kt hx)⟩
theorem Told.same {H H':Hp}{t l1 l2 l3 l4:Addr}{ts:List Addr}{asks says rooms:List Str}{ds:List au}(h:Told H t l1 l2 l3 l4 ts asks says rooms ds) (e:Same H H'):Told H' t l1 l2 l3 l4 ts asks says rooms ds :=
 ⟨e _ _ h.t,e _ _ h.a1,e _ _ h.a2,e _ _ h.a3,e _ _ h.a4,h.ds.kt (Same.kt e)⟩
def jr:Sp:=fun vs H Q _=>∃(p c:Addr) (most full:Int),vs=[.ref p,.int most,.int full]/\Pen H p c/\0<most/\most<=25/\0<=full/\full<=2 /\
 ∀(t l1 l2 l3 l4:Addr) (ts:List Addr) (asks says rooms:List Str) (ds:List au) (H':Hp),Told H' t l1 l2 l3 l4 ts asks says rooms ds->ModelOk asks says rooms ds->rooms.length<=most.toNat->ds.length<=600->Pen H' p c->ExB p H H'->Q (.ref t) H'
theorem at6 {r:Int}(r0:0<=r) (r6:r<6):∃n:Nat,atI [V.int 0,.int 1,.int 1,.int 2,.int 2,.int 3] r=some (.int n)/\n<=3:=by
 have:r=0∨r=1∨r=2∨r=3∨r=4∨r=5:=by omega
 rcases this with rfl | rfl | rfl | rfl | rfl | rfl
 ·exact ⟨0,rfl,by decide⟩
 ·exact ⟨1,rfl,by decide⟩
 ·exact ⟨1,rfl,by decide⟩
 ·exact ⟨2,rfl,by decide⟩
 ·exact ⟨2,rfl,by decide⟩
 ·exact ⟨3,rfl,by decide⟩
theorem rZ {ws:List Str}(hw:ws.length=8) {n:Nat}(hn:n<=3):i7 (ws.map V.str) (some 4) (some (5+(n:Int)))=((ws.drop 4).take (1+n)).map V.str:=by
 unfold i7
 have s1:HT.sIx (ws.map V.str).length 0 (some 4)=min 4 (ws.map V.str).length:=HT.sIx_nat _ _ 4
 have s2:HT.sIx (ws.map V.str).length (ws.map V.str).length (some (5+(n:Int)))=min (5+n) (ws.map V.str).length:=HT.sIx_nat _ _ (5+n)
 rw [s1,s2,List.length_map,hw,List.map_take,List.map_drop]
 have e1:min 4 8=4:=by decide
 have e2:min (5+n) 8-4=1+n:=by omega
 rw [e1,e2]
theorem q_ {K:PySem.W.Frag}{vs:List V}{H:Hp}{Q:VK}{E:XK}(h:jr vs H Q E):k4 K bS gB bJ ll { nx:=fun _ H'=>Q .non H',rt:=Q } (start lU vs) H:=by
 obtain ⟨p,c,most,full,rfl,hp,m0,m1,f0,f2,k⟩:=h
 refine ⟨_,rfl,p,c,rfl,hp,fun H1 hp1 ex1=>?_⟩
 refine ⟨_,rfl,p,c,8,rfl,hp1,by decide,fun lw ws H2 ok len fr hl hp2 ex2=>?_⟩
 have e2:=ex1.trans ex2
 have nw:=hp2.ne_strs hl
 refine ⟨_,rfl,(by show 6<=sizeLine; decide),fun q hq=>⟨_,rfl,bF (hp2.ex (Same.new hq)) (by decide) (by decide) fun r H3 r0 r1 hp3 ex3=>?_⟩⟩
 obtain ⟨n,hn,n3⟩:=at6 r0 r1
 have hl3:H3 lw=some (.lst (ws.map V.str)):=ex3 _ _ (kp hl hq) nw
 refine ⟨q,_,_,_,rfl,rfl,SqL.of (ex3 _ _ aa (hp2.nep hq).symm),hn,_,_,rfl,rfl,_,rfl,lw,_,rfl,SqL.of hl3,fun l1 hl1=>?_⟩
 have ea:i7 (ws.map V.str) none (some (1+(n:Int)))=(ws.take (1+n)).map V.str:=p8 ws (1+n)
 rw [ea]
 have e3:ExB p H H3:=e2.trans ((ExB.new hq).trans ex3)
 have hp4:Pen (upd H3 l1 (.lst ((ws.take (1+n)).map V.str))) p c:=hp3.ex (Same.new hl1)
 have e4:ExB p H (upd H3 l1 (.lst ((ws.take (1+n)).map V.str))):=e3.trans (ExB.new hl1)
 have hl4:upd H3 l1 (.lst ((ws.take (1+n)).map V.str)) lw=some (.lst (ws.map V.str)):=kp hl3 hl1
 have ha4:upd H3 l1 (.lst ((ws.take (1+n)).map V.str)) l1=some (.lst ((ws.take (1+n)).map V.str)):=aa
 generalize upd H3 l1 (.lst ((ws.take (1+n)).map V.str))=H4 at hp4 e4 hl4 ha4 ⊢
 refine ⟨_,rfl,_,rfl,(by show 6<=sizeLine; decide),fun q hq=>⟨_,rfl,bF (hp4.ex (Same.new hq)) (by decide) (by decide) fun r H5 r0 r1 hp5 ex5=>?_⟩⟩
 obtain ⟨m,hm,m3⟩:=at6 r0 r1
 have hl5:H5 lw=some (.lst (ws.map V.str)):=ex5 _ _ (kp hl4 hq) nw
 have ha5:H5 l1=some (.lst ((ws.take (1+n)).map V.str)):=ex5 _ _ (kp ha4 hq) (hp4.ne_strs ha4)
 refine ⟨q,_,_,_,rfl,rfl,SqL.of (ex5 _ _ aa (hp4.nep hq).symm),hm,_,_,rfl,rfl,_,rfl,lw,_,rfl,SqL.of hl5,fun l2 hl2=>?_⟩
 rw [rZ len m3]
 have e5:ExB p H H5:=e4.trans ((ExB.new hq).trans ex5)
 have hp6:Pen (upd H5 l2 (.lst (((ws.drop 4).take (1+m)).map V.str))) p c:=hp5.ex (Same.new hl2)
 have e6:ExB p H (upd H5 l2 (.lst (((ws.drop 4).take (1+m)).map V.str))):=e5.trans (ExB.new hl2)
 have ha6:upd H5 l2 (.lst (((ws.drop 4).take (1+m)).map V.str)) l1=some (.lst ((ws.take (1+n)).map V.str)):=kp ha5 hl2
 have hb6:upd H5 l2 (.lst (((ws.drop 4).take (1+m)).map V.str)) l2=some (.lst (((ws.drop 4).take (1+m)).map V.str)):=aa
 generalize upd H5 l2 (.lst (((ws.drop 4).take (1+m)).map V.str))=H6 at hp6 e6 ha6 hb6 ⊢
 refine ⟨_,rfl,_,rfl,_,rfl,bF hp6 m0 (by omega) fun r H7 r0 r1 hp7 ex7=>?_⟩
 obtain ⟨rn,rfl⟩:=Int.eq_ofNat_of_zero_le r0
 have ha7:=ex7 _ _ ha6 (hp6.ne_strs ha6)
 have hb7:=ex7 _ _ hb6 (hp6.ne_strs hb6)
 refine ⟨_,_,rfl,rfl,p,c,1+rn,rfl,hp7,by omega,fun l3 rooms H8 okr lenr fr3 hl3' hp8 ex8=>?_⟩
 have ha8:=ex8 _ _ ha7 (hp7.ne_strs ha7)
 have hb8:=ex8 _ _ hb7 (hp7.ne_strs hb7)
 have hs0:(ws.drop 4).take (1+m)≠[]:=by
  intro z
  have:=congrArg List.length z
  rw [List.length_take,List.length_drop,len] at this
  simp at this
 have ha0:ws.take (1+n)≠[]:=by
  intro z
  have:=congrArg List.length z
  rw [List.length_take,len] at this
  simp at this
 have hr0:rooms≠[]:=by
  intro z
  rw [z] at lenr
  simp at lenr
  omega
 refine ⟨_,rfl,_,rfl,_,rfl,_,rfl,_,rfl,p,c,l1,l2,l3,_,_,rooms,full,rfl,hp8,ha8,hb8,hl3',by rw [List.length_take]; omega,hs0,by rw [List.length_take]; omega,hr0,by omega,f0,f2,fun l4 ts ds up H9 fr4 hl4' hds nod good few hp9 ex9=>?_⟩
 have ha9:=ex9 _ _ ha8 (hp8.ne_strs ha8)
 have hb9:=ex9 _ _ hb8 (hp8.ne_strs hb8)
 have hc9:=ex9 _ _ hl3' (hp8.ne_strs hl3')
 refine ⟨_,rfl,_,rfl,_,rfl,_,rfl,(by show 4<=sizeLine; decide),fun t ht=>k t l1 l2 l3 l4 ts _ _ rooms ds _ ⟨aa,kp ha9 ht,kp hb9 ht,kp hc9 ht,kp hl4' ht,hds.kt (Same.kt (Same.new ht))⟩ ?_ ?_ few (hp9.ex (Same.new ht)) ?_⟩
 ·refine ⟨⟨?_,fun w h=>ok.2 w (List.mem_of_mem_take h)⟩,⟨?_,fun w h=>ok.2 w (List.mem_of_mem_drop (List.mem_of_mem_take h))⟩,?_,okr,ha0,hs0,hr0,by rw [List.length_take]; omega,by rw [List.length_take]; omega,by omega,nod,fun d hd=>(good d hd).d,by omega,fun r z=>(l6 okr.1 good z).irr okr.1⟩
  ·exact ok.1.sublist (List.take_sublist _ _)
  ·exact ok.1.sublist ((List.take_sublist _ _).trans (List.drop_sublist _ _))
  ·intro w h1 h2
   have h3:w∈ws.drop 4:=List.mem_of_mem_take h1
   have h4:w∈ws.take 4:=by
    have:ws.take (1+n)=(ws.take 4).take (1+n):=by rw [List.take_take]; congr 1; omega
    rw [this] at h2
    exact List.mem_of_mem_take h2
   have:=ok.1
   rw [<-List.take_append_drop 4 ws,List.nodup_append] at this
   exact this.2.2 w h4 w h3 rfl
 ·omega
 ·exact (((e6.trans ex7).trans ex8).trans ex9).trans (ExB.new ht)
theorem aS {ws:List Str}{i:Nat}{x:V}(h:(ws.map V.str)[i]?=some x):∃w,ws[i]?=some w/\x=.str w:=by
 rw [List.getElem?_map] at h
 cases q:ws[i]? with
 | none=>rw [q] at h; cases h
 | some r=>rw [q] at h; exact ⟨r,rfl,(Option.some.inj h).symm⟩
theorem aq {α:Type}{ws:List α}{i:Nat}{w:α}(h:ws[i]?=some w):ws.take (i+1)=ws.take i++[w]:=by
 obtain ⟨hi,rfl⟩:=List.getElem?_eq_some_iff.mp h
 rw [List.take_succ_eq_append_getElem hi]
def jJ (w:Str):Bool:=!decide (w=("":Str)) && (decide (w.length<=8) && w.cps.toList.all fun c=>decide (c∈("abcdefghijklmnopqrstuvwxyz":Str).cps.toList))
theorem IsName.b {w:Str}(h:IsName w):jJ w=true:=by
 unfold jJ
 have h1:¬(w=("":Str)):=fun e=>by
  have:=h.lo
  rw [e] at this
  exact absurd this (by decide +kernel)
 rw [decide_eq_false h1,decide_eq_true h.hi,Bool.not_false,Bool.true_and,Bool.true_and,List.all_eq_true]
 intro c hc
 obtain ⟨c1,c2⟩:=h.al c hc
 refine decide_eq_true ?_
 have:=qr (c-97) (by omega)
 have e:97+(c-97)=c:=by omega
 rw [e] at this
 exact List.mem_of_getElem? this
@[irreducible] def sp_is_name:Sp:=fun vs H Q _=>∃w:Str,vs=[.str w]/\w.length<=1000/\∀H',Same H H'->Q (.bl (jJ w)) H'
theorem ni {K:PySem.W.Frag}{vs:List V}{H:Hp}{Q:VK}{E:XK}(h:sp_is_name vs H Q E):oA K { nx:=fun _ H'=>Q .non H',rt:=Q } (start qw vs) H:=by
 unfold sp_is_name at h
 obtain ⟨w,rfl,hz,k⟩:=h
 refine ⟨_,rfl,rfl,_,rfl,?_⟩
 have ed:(!decide (V.str w=V.str ("":Str)))=!decide (w=("":Str)):=by
  congr 1
  by_cases e:w=("":Str)
  ·rw [decide_eq_true e,decide_eq_true (by rw [e])]
  ·rw [decide_eq_false e,decide_eq_false (fun z=>e (by injection z))]
 rw [ed]
 refine pI (fun h1=>?_) (fun h1=>?_)
 ·refine ⟨_,rfl,.inr ⟨w,rfl,Nat.le_of_lt (aA hz),_,_,rfl,rfl,_,rfl,?_⟩⟩
  refine pI (fun h2=>?_) (fun h2=>?_)
  ·refine ⟨_,rfl,w,rfl,fun l hl=>?_⟩
   refine r8 (fun i vs H'=>vs=((w.cps.toList.take i).map fun c=>V.bl (decide (c∈("abcdefghijklmnopqrstuvwxyz":Str).cps.toList)))/\Same H H'/\H' l=some (.lst vs))
    ⟨rfl,Same.new hl,aa⟩ (fun i vs H' _ h=>h.2.2) ?_ ?_
   ·rintro vs H' ⟨rfl,hS,hl'⟩
    refine ⟨l,w.cps.toList.map fun c=>decide (c∈("abcdefghijklmnopqrstuvwxyz":Str).cps.toList),rfl,SqL.of ?_,?_⟩
    ·rw [hl',List.map_map]
     have:w.cps.toList.take w.cps.size=w.cps.toList:=by
      rw [List.take_of_length_le]; simp
     rw [this]
     rfl
    ·have:=k H' hS
     have h2':decide (w.length<=8)=true:=decide_eq_true (by have:=of_decide_eq_true h2; omega)
     unfold jJ at this
     rw [h1,h2',Bool.true_and,Bool.true_and] at this
     rw [List.all_map]
     exact this
   ·rintro i vs H' c hc hi ⟨rfl,hS,hl'⟩
    refine gN (um ?_)
    refine ⟨_,rfl,c,_,rfl,rfl,hl',?_,nxt hi ⟨?_,?_,aa⟩⟩
    ·rw [List.length_map,List.length_take]
     have:w.length=w.cps.toList.length:=bI w
     exact aA (by omega)
    ·rw [aq (by rw [<-hc]; simp),List.map_append]
     rfl
    ·intro b o e
     rw [aj (ah e hl)]
     exact hS b o e
  ·have:=k H (Same.refl H)
   have h2':decide (w.length<=8)=false:=decide_eq_false (fun z=>h2 (decide_eq_true (by omega)))
   unfold jJ at this
   rw [h1,h2',Bool.true_and,Bool.false_and] at this
   exact this
 ·have:=k H (Same.refl H)
  unfold jJ at this
  rw [Bool.eq_false_iff.mpr h1,Bool.false_and] at this
  exact this
def aD (ws:List Str):List (Key×V):=ws.foldl (fun acc w=>fX acc (.inr w) (.bl true)) []
theorem bz (ws:List Str) (w:Str):aD (ws++[w])=fX (aD ws) (.inr w) (.bl true):=by
 unfold aD
 rw [List.foldl_append]
 rfl
theorem me {κ:Type} [DecidableEq κ] (kvs:List (κ×V)) (k:κ) (v:V):(fX kvs k v).length<=kvs.length+1:=by
 unfold fX
 split
 ·rw [List.length_map]; omega
 ·rw [List.length_append]; exact Nat.le_refl _
theorem eJ {α:Type}(P:List α->Prop) (h0:P []) (hs:∀ws w,P ws->P (ws++[w])) (ws:List α):P ws:=by
 have:∀n (ws:List α),ws.length=n->P ws:=by
  intro n
  induction n with
  | zero=>intro ws h; rw [List.length_eq_zero_iff.mp h]; exact h0
  | succ n ih =>
   intro ws h
   have hne:ws≠[]:=fun z=>by rw [z] at h; cases h
   rw [<-List.dropLast_concat_getLast hne]
   exact hs _ _ (ih _ (by rw [List.length_dropLast,h]; rfl))
 exact this _ ws rfl
theorem fJ (ws:List Str):(aD ws).length<=ws.length:=by
 refine eJ (fun ws=>(aD ws).length<=ws.length) (Nat.le_refl _) (fun ws w h=>?_) ws
 show (aD (ws++[w])).length<=(ws++[w]).length
 rw [bz,List.length_append]
 have:=me (aD ws) (.inr w) (.bl true)
 show _<=ws.length+1
 omega
theorem i6 (ws:List Str) (x:Str):cP (aD ws) (.inr x)=if x∈ws then some (.bl true) else none:=by
 refine eJ (fun ws=>cP (aD ws) (.inr x)=if x∈ws then some (.bl true) else none) rfl (fun ws w h=>?_) ws
 show cP (aD (ws++[w])) (.inr x)=_
 rw [bz,lZ,h]
 by_cases e:x=w
 ·subst e
  rw [if_pos rfl,if_pos (by simp)]
 ·have e1:¬((Sum.inr x:Key)=.inr w):=fun z=>e (by injection z)
  rw [if_neg e1]
  by_cases m:x∈ws
  ·rw [if_pos m,if_pos (List.mem_append_left _ m)]
  ·rw [if_neg m,if_neg (fun z=>by rcases List.mem_append.mp z with z | z; exact m z; exact e (by simpa using z))]
theorem dA (ws:List Str) (x:Str):(cP (aD ws) (.inr x)).isSome=decide (x∈ws):=by
 rw [i6]
 by_cases m:x∈ws
 ·rw [if_pos m,decide_eq_true m]; rfl
 ·rw [if_neg m,decide_eq_false m]; rfl
@[irreducible] def sp_as_keys (K:PySem.W.Frag):Sp:=fun vs H Q _=>∃(l:Addr) (ws:List Str),vs=[.ref l]/\SqL K H l (ws.map V.str)/\ws.length<=1000/\∀d,H d=none->Q (.ref d) (upd H d (.dK (aD ws)))
theorem nj {K:PySem.W.Frag}{vs:List V}{H:Hp}{Q:VK}{E:XK}(h:sp_as_keys K vs H Q E):oB K { nx:=fun _ H'=>Q .non H',rt:=Q } (start qx vs) H:=by
 unfold sp_as_keys at h
 obtain ⟨l,ws,rfl,hl,hz,k⟩:=h
 refine fun d hd=>?_
 have key:∀kvs,SqL K (upd H d (.dK kvs)) l (ws.map V.str):=fun kvs=>(Same.new hd).seq hl
 refine ⟨_,rfl,l,rfl,⟨_,key _⟩,?_⟩
 refine aV (xs:=ws.map V.str) (fun i σ H'=>∃x,σ=[some (.ref l),some (.ref d),x]/\H'=upd H d (.dK (aD (ws.take i)))) ⟨_,rfl,rfl⟩ (fun i σ H' _ ⟨_,_,e⟩=>by rw [e]; exact key _) ?_ ?_
 ·rintro i x σ H' hi ⟨y,rfl,rfl⟩
  obtain ⟨w,hw,rfl⟩:=aS hi
  have hlen:(aD (ws.take i)).length<sizeLine:=aA (Nat.le_trans (fJ _) (by rw [List.length_take]; omega))
  refine ⟨_,rfl,_,rfl,d,_,rfl,.inl ⟨_,.inr w,aa,rfl,hlen,rfl⟩,_,rfl,?_⟩
  rw [fm,aq hw,bz]
 ·rintro σ H' ⟨x,rfl,rfl⟩
  rw [List.length_map,List.take_length]
  exact ⟨_,rfl,k d hd⟩
def fwn (most:Nat):Nat->List Str->List Str->Option Nat
 | _,_,[]=>none
 | i,ahead,n::ns=>if i=most∨n∈ahead∨jJ n=false then some i else fwn most (i+1) (ahead++[n]) ns
def aM (names:List Str) (most:Nat) (taken:List Str):Option Nat:=if names=[] then some 0 else fwn most 0 taken names
def oV:Option Nat->V
 | none=>.non
 | some i=>.int i
def sp_first_wrong_name (K:PySem.W.Frag):Sp:=fun vs H Q _=>∃(l t:Addr) (names taken:List Str) (most:Nat),vs=[.ref l,.int most,.ref t]/\SqL K H l (names.map V.str)/\SqL K H t (taken.map V.str)/\names.length+taken.length<=1000 /\
 (∀w∈names,w.length<=1000)/\∀H',Same H H'->Q (oV (aM names most taken)) H'
theorem il {K:PySem.W.Frag}{H:Hp}{Q:VK}{E:XK}{l:Addr}{ws:List Str}(hl:SqL K H l (ws.map V.str)) (hz:ws.length<=1000) (k:∀d,H d=none->Q (.ref d) (upd H d (.dK (aD ws)))):sp_as_keys K [.ref l] H Q E:=by
 unfold sp_as_keys
 exact ⟨l,ws,rfl,hl,hz,k⟩
theorem pK {H:Hp}{Q:VK}{E:XK}{w:Str}(hz:w.length<=1000) (k:∀H',Same H H'->Q (.bl (jJ w)) H'):sp_is_name [.str w] H Q E:=by
 unfold sp_is_name
 exact ⟨w,rfl,hz,k⟩
theorem eh {K:PySem.W.Frag}{vs:List V}{H:Hp}{Q:VK}{E:XK}(h:sp_first_wrong_name K vs H Q E):eK K sp_is_name (sp_as_keys K) { nx:=fun _ H'=>Q .non H',rt:=Q } (start fb vs) H:=by
 obtain ⟨l,t,names,taken,most,rfl,hl,ht,hz,hw,k⟩:=h
 refine ⟨_,rfl,.inl ⟨l,_,rfl,.inl hl,rfl,_,rfl,?_⟩⟩
 by_cases h0:names=[]
 ·subst h0
  refine cb ?_
  have:=k H (Same.refl H)
  exact this
 have e0:decide (V.int ((names.map V.str).length:Nat)=V.int 0)=false:=decide_eq_false (fun z=>h0 (by
  injection z with z
  rw [List.length_map] at z
  exact List.length_eq_zero_iff.mp (by omega)))
 rw [e0]
 refine bp ?_
 have hk:∀H',Same H H'->Q (oV (fwn most 0 taken names)) H':=by
  unfold aM at k
  rw [if_neg h0] at k
  exact k
 refine ⟨_,rfl,il ht (by omega) fun d hd=>?_⟩
 refine ⟨_,rfl,l,rfl,⟨_,(Same.new hd).seq hl⟩,?_⟩
 refine e_ (xs:=names.map V.str) (fun i σ H'=>∃x y,σ=[some (.ref l),some (.int most),some (.ref t),some (.ref d),x,y]/\Same H H'/\H' d=some (.dK (aD (taken++names.take i)))/\fwn most i (taken++names.take i) (names.drop i)=fwn most 0 taken names)
  ⟨_,_,rfl,Same.new hd,by rw [List.take_zero,List.append_nil]; exact aa,by rw [List.take_zero,List.append_nil,List.drop_zero]⟩ (fun i σ H' _ ⟨_,_,_,hS,_⟩=>hS.seq hl) ?_ ?_
 ·rintro i x σ H' q hi ⟨x4,x5,rfl,hS,hd',hf⟩ hq
  obtain ⟨w,hw',rfl⟩:=aS hi
  have hil:i<names.length:=(List.getElem?_eq_some_iff.mp hw').1
  have ed:names.drop i=w::names.drop (i+1):=by
   rw [List.drop_eq_getElem_cons hil]
   congr 1
   exact (List.getElem?_eq_some_iff.mp hw').2
  rw [ed] at hf
  have hd2:upd H' q (.tup [.int i,.str w]) d=some (.dK (aD (taken++names.take i))):=kp hd' hq
  have hS2:Same H (upd H' q (.tup [.int i,.str w])):=hS.trans (Same.new hq)
  have hww:w.length<=1000:=hw w (List.mem_of_getElem? hw')
  refine ⟨q,_,rfl,SqT.of aa,rfl,_,_,rfl,_,_,rfl,rfl,?_⟩
  generalize upd H' q (.tup [.int i,.str w])=H2 at hd2 hS2 ⊢
  refine ⟨_,rfl,_,rfl,rfl,_,rfl,?_⟩
  by_cases c1:i=most
  ·have e1:decide (V.int (i:Nat)=V.int (most:Nat))=true:=decide_eq_true (by rw [c1])
   rw [e1]
   refine cb (cb ?_)
   refine ⟨_,rfl,?_⟩
   have:=hk H2 hS2
   rw [<-hf] at this
   unfold fwn at this
   rw [if_pos (.inl c1)] at this
   exact this
  have e1:decide (V.int (i:Nat)=V.int (most:Nat))=false:=decide_eq_false (fun z=>c1 (by injection z with z; omega))
  rw [e1]
  refine bp ?_
  refine ⟨_,rfl,_,rfl,d,_,rfl,.inl ⟨_,.inr w,.inl hd2,rfl,rfl⟩,_,rfl,?_⟩
  rw [dA]
  by_cases c2:w∈taken++names.take i
  ·rw [decide_eq_true c2]
   refine cb (cb ?_)
   refine ⟨_,rfl,?_⟩
   have:=hk H2 hS2
   rw [<-hf] at this
   unfold fwn at this
   rw [if_pos (.inr (.inl c2))] at this
   exact this
  rw [decide_eq_false c2]
  refine bp ?_
  refine ⟨_,rfl,pK hww fun H3 hS3=>⟨_,rfl,?_⟩⟩
  have hd3:=hS3 _ _ hd2
  cases c3:jJ w with
  | false =>
   refine cb ?_
   refine ⟨_,rfl,?_⟩
   have:=hk H3 (hS2.trans hS3)
   rw [<-hf] at this
   unfold fwn at this
   rw [if_pos (.inr (.inr c3))] at this
   exact this
  | true =>
   refine bp ?_
   have hlen:(aD (taken++names.take i)).length<sizeLine:=aA (Nat.le_trans (fJ _) (by rw [List.length_append,List.length_take]; omega))
   refine ⟨_,rfl,_,rfl,d,_,rfl,.inl ⟨_,.inr w,hd3,rfl,hlen,rfl⟩,_,_,rfl,?_,?_,?_⟩
   ·intro b o e
    rw [aj (ah e hd)]
    exact hS3 _ _ (hS2 _ _ e)
   ·rw [aa,aq hw',<-List.append_assoc,bz]
   ·rw [<-hf,aq hw',<-List.append_assoc]
    conv=>rhs; unfold fwn
    rw [if_neg]
    rintro (z | z | z)
    ·exact c1 z
    ·exact c2 z
    ·rw [c3] at z; cases z
 ·rintro σ H' ⟨x,y,rfl,hS,_,hf⟩
  rw [List.length_map,List.drop_length] at hf
  have:=hk H' hS
  rw [<-hf] at this
  exact this
theorem mB {most:Nat}:∀(ns ahead:List Str) (i:Nat),i+ns.length<=most->(ahead++ns).Nodup->(∀w∈ns,IsName w)->fwn most i ahead ns=none
 | [],_,_,_,_,_=>rfl
 | n::ns,ahead,i,h1,h2,h3=>by
  rw [List.length_cons] at h1
  unfold fwn
  rw [if_neg]
  ·refine mB ns (ahead++[n]) (i+1) (by omega) (by rw [List.append_assoc]; exact h2) fun w hw=>h3 w (List.mem_cons_of_mem _ hw)
  ·rintro (z | z | z)
   ·omega
   ·rw [List.nodup_append] at h2
    exact h2.2.2 n z n (List.mem_cons_self) rfl
   ·rw [(h3 n List.mem_cons_self).b] at z; cases z
theorem cf {most:Nat}{ns taken:List Str}(h0:ns≠[]) (h1:ns.length<=most) (h2:(taken++ns).Nodup) (h3:∀w∈ns,IsName w):aM ns most taken=none:=by
 unfold aM
 rw [if_neg h0]
 exact mB ns taken 0 (by omega) h2 h3
theorem bX {n:Nat}(h:n<=9000):n<sizeLine:=Nat.lt_of_le_of_lt h (by decide)
def sTK (x:Str):TK:=.k (.inr x)
def gTK (sg:List Str):TK:=.t (sg.map sTK)
def dTK (d:au):TK:=.t [sTK d.a,gTK d.sg,sTK d.b]
theorem jx {x y:Str}(h:sTK x=sTK y):x=y:=by
 unfold sTK at h
 injection h with h
 injection h
theorem hW:∀{x y:List Str},x.map sTK=y.map sTK->x=y
 | [],[],_=>rfl
 | [],_::_,h=>by cases h
 | _::_,[],h=>by cases h
 | a::x,b::y,h=>by
  rw [List.map_cons,List.map_cons] at h
  injection h with h1 h2
  rw [jx h1,hW h2]
theorem pT {x y:List Str}(h:gTK x=gTK y):x=y:=by
 unfold gTK at h
 injection h with h
 exact hW h
theorem uf {x y:au}(h:dTK x=dTK y):x=y:=by
 unfold dTK at h
 injection h with h
 injection h with h1 h
 injection h with h2 h
 injection h with h3 h
 cases x; cases y
 simp only at *
 rw [jx h1,pT h2,jx h3]
theorem mO (xs:List Str):TK.depths (xs.map sTK)=0:=by
 induction xs with
 | nil=>rfl
 | cons x xs ih=>rw [List.map_cons]; show max (TK.depth (sTK x)) (TK.depths _)=0; rw [ih]; rfl
theorem jZ (sg:List Str):(gTK sg).depth=1:=by
 show TK.depths (sg.map sTK)+1=1
 rw [mO]
theorem j1 (d:au):(dTK d).depth=2:=by
 show max (TK.depth (sTK d.a)) (max (TK.depth (gTK d.sg)) (max (TK.depth (sTK d.b)) 0))+1=2
 rw [jZ]
 rfl
theorem ou {H:Hp}:∀xs:List Str,TKAts H (xs.map sTK) (xs.map V.str)
 | []=>by show TKAts H [] []; unfold TKAts; rfl
 | x::xs=>by
  rw [List.map_cons,List.map_cons]
  unfold TKAts
  refine ⟨_,_,rfl,?_,ou xs⟩
  unfold sTK TKAt
  rfl
theorem l7 {H:Hp}(x:Str):TKAt H (sTK x) (.str x):=by unfold sTK TKAt; rfl
theorem SignAt.tk {H:Hp}{s:Addr}{sg:List Str}(h:SignAt H s sg):TKAt H (gTK sg) (.ref s):=by
 unfold gTK TKAt
 exact ⟨s,_,rfl,h,ou _⟩
theorem DoorAt.tk {H:Hp}{t:Addr}{d:au}(h:DoorAt H t d):TKAt H (dTK d) (.ref t):=by
 obtain ⟨s,h1,h2⟩:=h
 unfold dTK TKAt
 refine ⟨t,_,rfl,h1,?_⟩
 unfold TKAts
 refine ⟨_,_,rfl,l7 _,?_⟩
 unfold TKAts
 refine ⟨_,_,rfl,SignAt.tk h2,?_⟩
 unfold TKAts
 refine ⟨_,_,rfl,l7 _,?_⟩
 unfold TKAts
 rfl
section
variable {κ:Type} [DecidableEq κ]
def gp (ks:List κ):List (κ×V):=ks.foldl (fun acc k=>fX acc k (.bl true)) []
theorem fK (ws:List κ) (w:κ):gp (ws++[w])=fX (gp ws) w (.bl true):=by
 unfold gp
 rw [List.foldl_append]
 rfl
theorem pD (ws:List κ):(gp ws).length<=ws.length:=by
 refine eJ (fun ws=>(gp ws).length<=ws.length) (Nat.le_refl _) (fun ws w h=>?_) ws
 show (gp (ws++[w])).length<=(ws++[w]).length
 rw [fK,List.length_append]
 have:=me (gp ws) w (.bl true)
 show _<=ws.length+1
 omega
theorem rJ (ws:List κ) (x:κ):(cP (gp ws) x).isSome=decide (x∈ws):=by
 refine eJ (fun ws=>(cP (gp ws) x).isSome=decide (x∈ws)) rfl (fun ws w h=>?_) ws
 show (cP (gp (ws++[w])) x).isSome=_
 rw [fK,lZ]
 by_cases e:x=w
 ·subst e
  rw [if_pos rfl,decide_eq_true (by simp)]
  rfl
 ·rw [if_neg e,h]
  by_cases m:x∈ws
  ·rw [decide_eq_true m,decide_eq_true (List.mem_append_left _ m)]
  ·rw [decide_eq_false m,decide_eq_false (fun z=>by rcases List.mem_append.mp z with z | z; exact m z; exact e (by simpa using z))]
end
theorem mem_dTK {d:au}{ds:List au}:dTK d∈ds.map dTK↔d∈ds:=by
 constructor
 ·intro h
  obtain ⟨x,hx,e⟩:=List.mem_map.mp h
  rw [<-uf e]; exact hx
 ·exact List.mem_map_of_mem
def ip (K:PySem.W.Frag) (H:Hp) (v:V) (sg:List Str):Prop:=∃s,v=.ref s/\SqT K H s (sg.map V.str)
theorem Same.sqT {K:PySem.W.Frag}{H H':Hp}{a:Addr}{xs:List V}(e:Same H H') (h:SqT K H a xs):SqT K H' a xs:=by
 rcases h with (h | ⟨o,h⟩) | h
 ·exact .inl (.inl (e _ _ h))
 ·exact .inl (.inr ⟨o,e _ _ h⟩)
 ·exact .inr h
theorem Signs.same {K:PySem.W.Frag}{H H':Hp}(e:Same H H') {xs:List V}{sgs:List (List Str)}(h:Paired (ip K H) xs sgs):Paired (ip K H') xs sgs :=
 Paired.mapP h fun _ _ ⟨s,h1,h2⟩=>⟨s,h1,Same.sqT e h2⟩
def gDT (sg:List Str):DT:=.t (sg.map sDT)
theorem pU {x y:List Str}(h:gDT x=gDT y):x=y:=by
 unfold gDT at h
 injection h with h
 exact b_ h
theorem fM (sg:List Str):(gDT sg).depth=1:=by
 show DT.depths (sg.map sDT)+1=1
 rw [cU]
theorem pV (sgs:List (List Str)):DT.depths (sgs.map gDT)<=8:=by
 induction sgs with
 | nil=>exact Nat.zero_le _
 | cons x xs ih=>rw [List.map_cons]; show max (DT.depth (gDT x)) (DT.depths _)<=8; rw [fM]; omega
theorem Signs.dIns {K:PySem.W.Frag}{H:Hp}:∀{xs:List V}{sgs:List (List Str)},Paired (ip K H) xs sgs->DIns K H (sgs.map gDT) xs
 | _,_,.nil=>by show DIns K H [] []; unfold DIns; rfl
 | _,_,.cons ⟨s,e,r⟩ t=>by
  rw [List.map_cons]
  unfold DIns
  refine ⟨_,_,rfl,?_,Signs.dIns t⟩
  rw [e]
  exact cW r
theorem mem_gDT {d:List Str}{ds:List (List Str)}:gDT d∈ds.map gDT↔d∈ds:=by
 constructor
 ·intro h
  obtain ⟨x,hx,e⟩:=List.mem_map.mp h
  rw [<-pU e]; exact hx
 ·exact List.mem_map_of_mem
theorem Paired.app {α β:Type}{R:α->β->Prop}:∀{a:List α}{b:List β}{c:List α}{d:List β},Paired R a b->Paired R c d->Paired R (a++c) (b++d)
 | _,_,_,_,.nil,h=>h
 | _,_,_,_,.cons r t,h=>.cons r (Paired.app t h)
def cy (w:Str):List Str:=[("ask":Str),w]
def vD (w:Str):List Str:=[("say":Str),w]
def dE (asks says:List Str):List (List Str):=asks.map cy++says.map vD++[stillSg]
theorem iS {K:PySem.W.Frag}{kw:Str}{σ:L2.St}{H:Hp}{a l:Addr}{ws:List Str}{Q:Hp->Prop}(ha:H a=some (.lst (ws.map V.str))) (hl:H l=none) (hz:ws.length<=1000)
  (k:∀(xs:List V) (H':Hp),Paired (ip K H') xs (ws.map fun w=>[kw,w])->Same H H'->H' l=some (.lst xs)->Q H') :
  dU 1 [] σ (Itl K a) (am 0) qA (d4 (ac (tC (.str kw)) (ac (af 0) ao))) H l Q:=by
 refine cM (xs:=ws.map V.str) (fun i vs H'=>Paired (ip K H') vs ((ws.take i).map fun w=>[kw,w])/\Same H H'/\H' l=some (.lst vs))
  ⟨.nil,Same.new hl,aa⟩ (fun i vs H' _ ⟨_,hS,h'⟩=>⟨h',SqL.of (hS _ _ ha)⟩) ?_ ?_
 ·rintro vs H' ⟨h1,h2,h3⟩
  rw [List.length_map,List.take_length] at h1
  exact k vs H' h1 h2 h3
 ·rintro i vs H' x hx hi ⟨h1,h2,h3⟩
  obtain ⟨w,hw,rfl⟩:=aS hx
  refine gN (um ?_)
  refine ⟨_,rfl,(by show 2<=sizeLine; decide),fun t ht=>⟨kp h3 ht,?_,nxt hi ⟨?_,?_,aa⟩⟩⟩
  ·rw [Paired.length h1,List.length_map,List.length_take]; exact aA (by omega)
  ·rw [aq hw,List.map_append]
   have hS2:KT0 (upd H' t (.tup [.str kw,.str w])) (upd (upd H' t (.tup [.str kw,.str w])) l (.lst (vs++[.ref t]))):=mr (kp h3 ht)
   have hS3:KT0 H' (upd (upd H' t (.tup [.str kw,.str w])) l (.lst (vs++[.ref t]))):=(Same.kt (Same.new ht)).trans hS2
   refine Paired.app (Paired.mapP h1 fun v sg ⟨s,e1,e2⟩=>⟨s,e1,?_⟩) (.cons ⟨t,rfl,SqT.of (hS2 _ _ aa)⟩ .nil)
   rcases e2 with (e2 | ⟨o,e2⟩) | e2
   ·exact .inl (.inl (hS3 _ _ e2))
   ·refine .inl (.inr ⟨o,?_⟩)
    rw [aj (fun z=>by rw [z,h3] at e2; cases e2)]
    exact kp e2 ht
   ·exact .inr e2
  ·intro b o e
   rw [aj (ah e hl)]
   exact kp (h2 _ _ e) ht
def sp_door_signs (K:PySem.W.Frag):Sp:=fun vs H Q _=>∃(l1 l2:Addr) (asks says:List Str),vs=[.ref l1,.ref l2]/\H l1=some (.lst (asks.map V.str))/\H l2=some (.lst (says.map V.str))/\asks.length<=100/\says.length<=100 /\
 ∀(l:Addr) (xs:List V) (H':Hp),Paired (ip K H') xs (dE asks says)->Same H H'->H' l=some (.lst xs)->Q (.ref l) H'
theorem jD {K:PySem.W.Frag}{st:Addr}(hst:∀H,SqT K H st (stillSg.map V.str)) {vs:List V}{H:Hp}{Q:VK}{E:XK}(h:sp_door_signs K vs H Q E):j9 K st { nx:=fun _ H'=>Q .non H',rt:=Q } (start kT vs) H:=by
 obtain ⟨l1,l2,asks,says,rfl,h1,h2,z1,z2,k⟩:=h
 refine ⟨_,rfl,l1,rfl,⟨_,SqL.of h1⟩,fun a ha=>?_⟩
 refine iS h1 ha (by omega) fun xs1 H1 p1 s1 g1=>?_
 refine ⟨_,rfl,l2,rfl,⟨_,SqL.of (s1 _ _ h2)⟩,fun b hb=>?_⟩
 refine iS (s1 _ _ h2) hb (by omega) fun xs2 H2 p2 s2 g2=>?_
 have len1:xs1.length<=100:=by rw [Paired.length p1,List.length_map]; exact z1
 have len2:xs2.length<=100:=by rw [Paired.length p2,List.length_map]; exact z2
 refine ⟨a,b,xs1,xs2,rfl,rfl,s2 _ _ g1,g2,Nat.le_of_lt (aA (by omega)),fun c hc=>?_⟩
 refine ⟨(by show 1<=sizeLine; decide),fun d hd=>?_⟩
 refine ⟨c,d,_,_,rfl,rfl,kp aa hd,aa,?_,fun e he=>k e _ _ ?_ ?_ aa⟩
 ·rw [List.length_append]
  show _+1<=sizeLine
  exact Nat.le_of_lt (aA (by omega))
 ·have sx:Same H2 (upd (upd (upd H2 c (.lst (xs1++xs2))) d (.lst [.ref st])) e (.lst (xs1++xs2++[.ref st]))):=((Same.new hc).trans (Same.new hd)).trans (Same.new he)
  exact Paired.app (Paired.app (Signs.same (s2.trans sx) p1) (Signs.same sx p2)) (.cons ⟨st,rfl,hst _⟩ .nil)
 ·exact (((s1.trans s2).trans (Same.new hc)).trans (Same.new hd)).trans (Same.new he)
def fwd (rooms:List Str) (sgs:List (List Str)):Nat->List au->List au->Option Nat
 | _,_,[]=>none
 | i,ahead,d::ds=>if i=2000∨d∈ahead∨d.a∉rooms∨d.sg∉sgs∨d.b∉rooms then some i else fwd rooms sgs (i+1) (ahead++[d]) ds
def sp_first_wrong_door (K:PySem.W.Frag):Sp:=fun vs H Q _=>∃(l l3 sl:Addr) (ts:List Addr) (ds:List au) (rooms:List Str) (xs:List V) (sgs:List (List Str)),vs=[.ref l,.ref l3,.ref sl]/\H l=some (.lst (ts.map V.ref))/\Doors H ts ds /\
 H l3=some (.lst (rooms.map V.str))/\rooms.length<=1000/\H sl=some (.lst xs)/\Paired (ip K H) xs sgs/\ds.length<=9000/\∀H',Same H H'->Q (oV (fwd rooms sgs 0 [] ds)) H'
theorem dS {ws:List Addr}{i:Nat}{x:V}(h:(ws.map V.ref)[i]?=some x):∃w,ws[i]?=some w/\x=.ref w:=by
 rw [List.getElem?_map] at h
 cases q:ws[i]? with
 | none=>rw [q] at h; cases h
 | some r=>rw [q] at h; exact ⟨r,rfl,(Option.some.inj h).symm⟩
theorem ei {K:PySem.W.Frag}{vs:List V}{H:Hp}{Q:VK}{E:XK}(h:sp_first_wrong_door K vs H Q E):eL K (sp_as_keys K) { nx:=fun _ H'=>Q .non H',rt:=Q } (start fc vs) H:=by
 obtain ⟨l,l3,sl,ts,ds,rooms,xs,sgs,rfl,hl,hds,h3,hr,hsl,hsg,hz,k⟩:=h
 refine ⟨_,rfl,il (SqL.of h3) hr fun d hd=>?_⟩
 refine fun e he=>?_
 have hS0:Same H (upd (upd H d (.dK (aD rooms))) e (.dT [])):=(Same.new hd).trans (Same.new he)
 have heH:H e=none:=(Same.new hd).free he
 refine ⟨_,rfl,l,rfl,⟨_,SqL.of (hS0 _ _ hl)⟩,?_⟩
 refine e_ (xs:=ts.map V.ref) (fun i σ H'=>∃x y,σ=[some (.ref l),some (.ref l3),some (.ref sl),some (.ref d),some (.ref e),x,y]/\Same H H'/\H' d=some (.dK (aD rooms))/\H' e=some (.dT (gp ((ds.take i).map dTK)))/\fwd rooms sgs i (ds.take i) (ds.drop i)=fwd rooms sgs 0 [] ds)
  ⟨_,_,rfl,hS0,kp aa he,aa,rfl⟩ (fun i σ H' _ ⟨_,_,_,hS,_⟩=>SqL.of (hS _ _ hl)) ?_ ?_
 ·rintro i x σ H' q hi ⟨x5,x6,rfl,hS,hd',he',hf⟩ hq
  obtain ⟨t,ht,rfl⟩:=dS hi
  obtain ⟨dr,hdr,hat⟩:=Paired.getL hds ht
  have hil:i<ds.length:=(List.getElem?_eq_some_iff.mp hdr).1
  have ed:ds.drop i=dr::ds.drop (i+1):=by
   rw [List.drop_eq_getElem_cons hil]
   congr 1
   exact (List.getElem?_eq_some_iff.mp hdr).2
  rw [ed] at hf
  have hS2:Same H (upd H' q (.tup [.int i,.ref t])):=hS.trans (Same.new hq)
  have hd2:upd H' q (.tup [.int i,.ref t]) d=_:=kp hd' hq
  have he2:upd H' q (.tup [.int i,.ref t]) e=_:=kp he' hq
  refine ⟨q,_,rfl,SqT.of aa,rfl,_,_,rfl,_,_,rfl,rfl,?_⟩
  generalize upd H' q (.tup [.int i,.ref t])=H2 at hd2 he2 hS2 ⊢
  have hat2:=hat.kt (Same.kt hS2)
  have hin:nY K H2 (dTK dr) (.ref t):=TKAt.isIn 8 (by rw [j1]; decide) hat2.tk
  have hd8:(dTK dr).depth<=8:=by rw [j1]; decide
  obtain ⟨s,ht2,hs2⟩:=hat2
  have bad:(i=2000∨dr∈ds.take i∨dr.a∉rooms∨dr.sg∉sgs∨dr.b∉rooms)->Q (.int i) H2:=by
   intro c
   have:=k H2 hS2
   rw [<-hf] at this
   unfold fwd at this
   rw [if_pos c] at this
   exact this
  refine ⟨_,rfl,rfl,_,rfl,?_⟩
  by_cases c1:i=2000
  ·have e1:decide (V.int (i:Nat)=V.int 2000)=true:=decide_eq_true (by rw [c1]; rfl)
   rw [e1]
   exact cb (cb ⟨_,rfl,bad (.inl c1)⟩)
  have e1:decide (V.int (i:Nat)=V.int 2000)=false:=decide_eq_false (fun z=>c1 (by injection z with z; omega))
  rw [e1]
  refine bp ?_
  refine ⟨_,rfl,_,rfl,e,_,rfl,.inr ⟨_,dTK dr,t,.inl he2,rfl,hin,hd8,rfl⟩,_,rfl,?_⟩
  rw [rJ]
  by_cases c2:dr∈ds.take i
  ·rw [decide_eq_true (mem_dTK.mpr c2)]
   exact cb ⟨_,rfl,bad (.inr (.inl c2))⟩
  rw [decide_eq_false (fun z=>c2 (mem_dTK.mp z))]
  refine bp ?_
  refine ⟨_,rfl,.inr (.inl ⟨t,_,0,_,rfl,rfl,SqT.of ht2,rfl,_,rfl,d,_,rfl,.inl ⟨_,.inr dr.a,.inl hd2,rfl,rfl⟩,_,rfl,?_⟩)⟩
  rw [dA]
  by_cases c3:dr.a∈rooms
  rotate_left
  ·rw [decide_eq_false c3]
   exact cb (cb ⟨_,rfl,bad (.inr (.inr (.inl c3)))⟩)
  rw [decide_eq_true c3]
  refine bp ?_
  refine ⟨_,rfl,.inr (.inl ⟨t,_,1,_,rfl,rfl,SqT.of ht2,rfl,_,rfl,gDT dr.sg,sgs.map gDT,sl,xs,cW (SqT.of hs2),rfl,.inl (SqL.of (hS2 _ _ hsl)),Signs.dIns (Signs.same hS2 hsg),by rw [fM]; decide,pV _,_,rfl,?_⟩)⟩
  rw [if_pos rfl]
  by_cases c4:dr.sg∈sgs
  rotate_left
  ·rw [decide_eq_false (fun z=>c4 (mem_gDT.mp z))]
   exact cb (cb ⟨_,rfl,bad (.inr (.inr (.inr (.inl c4))))⟩)
  rw [decide_eq_true (mem_gDT.mpr c4)]
  refine bp ?_
  refine ⟨_,rfl,.inr (.inl ⟨t,_,2,_,rfl,rfl,SqT.of ht2,rfl,_,rfl,d,_,rfl,.inl ⟨_,.inr dr.b,.inl hd2,rfl,rfl⟩,_,rfl,?_⟩)⟩
  rw [dA]
  by_cases c5:dr.b∈rooms
  rotate_left
  ·rw [decide_eq_false c5]
   exact cb ⟨_,rfl,bad (.inr (.inr (.inr (.inr c5))))⟩
  rw [decide_eq_true c5]
  refine bp ?_
  have hlen:(gp ((ds.take i).map dTK)).length<sizeLine:=bX (Nat.le_trans (pD _) (by rw [List.length_map,List.length_take]; omega))
  refine ⟨_,rfl,_,rfl,e,_,rfl,.inr ⟨_,dTK dr,t,he2,rfl,DoorAt.tk ⟨s,ht2,hs2⟩,hd8,hlen,rfl⟩,_,_,rfl,?_,?_,?_,?_⟩
  ·intro b o q
   rw [aj (ah q heH)]
   exact hS2 _ _ q
  ·rw [aj (fun z=>by rw [z,he2] at hd2; cases hd2)]; exact hd2
  ·rw [aa,aq hdr,List.map_append]
   exact congrArg (fun z=>some (HO.dT z)) (fK _ _).symm
  ·rw [<-hf,aq hdr]
   conv=>rhs; unfold fwd
   rw [if_neg]
   rintro (z | z | z | z | z)
   ·exact c1 z
   ·exact c2 z
   ·exact z c3
   ·exact z c4
   ·exact z c5
 ·rintro σ H' ⟨x,y,rfl,hS,_,_,hf⟩
  have:=k H' hS
  rw [<-hf,List.length_map,Paired.length hds,List.drop_length] at this
  exact this
theorem mC {rooms:List Str}{sgs:List (List Str)}:∀(ds ahead:List au) (i:Nat),i+ds.length<=2000->(ahead++ds).Nodup->(∀d∈ds,d.a∈rooms/\d.sg∈sgs/\d.b∈rooms)->fwd rooms sgs i ahead ds=none
 | [],_,_,_,_,_=>rfl
 | n::ns,ahead,i,h1,h2,h3=>by
  rw [List.length_cons] at h1
  unfold fwd
  rw [if_neg]
  ·refine mC ns (ahead++[n]) (i+1) (by omega) (by rw [List.append_assoc]; exact h2) fun w hw=>h3 w (List.mem_cons_of_mem _ hw)
  ·have:=h3 n List.mem_cons_self
   rintro (z | z | z | z | z)
   ·omega
   ·rw [List.nodup_append] at h2
    exact h2.2.2 n z n (List.mem_cons_self) rfl
   ·exact z this.1
   ·exact z this.2.1
   ·exact z this.2.2
def sp_need_none:Sp:=fun vs H Q _=>∃x:V,vs=[x,.non]/\Q .non H
theorem kf {K:PySem.W.Frag}{vs:List V}{H:Hp}{Q:VK}{E:XK}(h:sp_need_none vs H Q E):kY K { nx:=fun _ H'=>Q .non H',rt:=Q } (start lS vs) H:=by
 obtain ⟨x,rfl,k⟩:=h
 refine ⟨_,rfl,_,rfl,?_⟩
 have e:(!decide (V.non=V.non))=false:=by rw [decide_eq_true rfl]; rfl
 rw [e]
 exact bp k
structure Lists (H:Hp) (l1 l2 l3 l4:Addr) (ts:List Addr) (asks says rooms:List Str) (ds:List au):Prop where
 a1:H l1=some (.lst (asks.map V.str))
 a2:H l2=some (.lst (says.map V.str))
 a3:H l3=some (.lst (rooms.map V.str))
 a4:H l4=some (.lst (ts.map V.ref))
 ds:Doors H ts ds
theorem Lists.same {H H':Hp}{l1 l2 l3 l4:Addr}{ts:List Addr}{asks says rooms:List Str}{ds:List au}(h:Lists H l1 l2 l3 l4 ts asks says rooms ds) (e:Same H H'):Lists H' l1 l2 l3 l4 ts asks says rooms ds :=
 ⟨e _ _ h.a1,e _ _ h.a2,e _ _ h.a3,e _ _ h.a4,h.ds.kt (Same.kt e)⟩
def sp_need_parts:Sp:=fun vs H Q _=>∃(l1 l2 l3 l4:Addr) (ts:List Addr) (asks says rooms:List Str) (ds:List au),vs=[.ref l1,.ref l2,.ref l3,.ref l4]/\Lists H l1 l2 l3 l4 ts asks says rooms ds/\ModelOk asks says rooms ds /\
 ∀H',Same H H'->Q .non H'
theorem ModelOk.signs {asks says rooms:List Str}{ds:List au}(m:ModelOk asks says rooms ds):∀d∈ds,d.a∈rooms/\d.sg∈dE asks says/\d.b∈rooms:=by
 intro d hd
 have g:=m.good d hd
 refine ⟨g.a,?_,g.b⟩
 unfold dE
 rcases g.sg with ⟨w,hw,e⟩ | ⟨w,hw,e⟩ | e
 ·rw [e]; exact List.mem_append_left _ (List.mem_append_left _ (List.mem_map.mpr ⟨w,hw,rfl⟩))
 ·rw [e]; exact List.mem_append_left _ (List.mem_append_right _ (List.mem_map.mpr ⟨w,hw,rfl⟩))
 ·rw [e]; exact List.mem_append_right _ (by simp [stillSg])
theorem hV {ws:List Str}(h:cY ws):∀w∈ws,w.length<=1000:=fun w hw=>Nat.le_trans (h.2 w hw).hi (by decide)
theorem jA {K:PySem.W.Frag}{vs:List V}{H:Hp}{Q:VK}{E:XK}(h:sp_need_parts vs H Q E):j5 K sp_need_none (sp_first_wrong_door K) (sp_door_signs K) (sp_first_wrong_name K) { nx:=fun _ H'=>Q .non H',rt:=Q } (start kQ vs) H:=by
 obtain ⟨l1,l2,l3,l4,ts,asks,says,rooms,ds,rfl,L,m,k⟩:=h
 have w1:aM asks 4 []=none:=cf m.asks0 m.asks4 m.okA.1 m.okA.2
 have w2:aM says 4 asks=none:=cf m.says0 m.says4 (by
  rw [List.nodup_append]
  exact ⟨m.okA.1,m.okS.1,fun a ha b hb e=>m.apart b hb (e ▸ ha)⟩) m.okS.2
 have w3:aM rooms 150 []=none:=cf m.rooms0 (by have:=m.rooms26; omega) m.okR.1 m.okR.2
 have w4:fwd rooms (dE asks says) 0 [] ds=none:=mC ds [] 0 (by have:=m.few; omega) m.nodup m.signs
 have z1:=m.asks4
 have z2:=m.says4
 have z3:=m.rooms26
 have z4:=m.few
 refine ⟨_,rfl,(by show 0<=sizeLine; decide),fun e he=>⟨l1,e,asks,[],4,rfl,SqL.of (kp L.a1 he),SqL.of aa,by simp; omega,hV m.okA,fun H1 s1=>?_⟩⟩
 rw [w1]
 refine ⟨_,rfl,?_⟩
 have S1:=(Same.new he).trans s1
 refine ⟨_,rfl,_,rfl,l2,l1,says,asks,4,rfl,SqL.of (S1 _ _ L.a2),SqL.of (S1 _ _ L.a1),by omega,hV m.okS,fun H2 s2=>?_⟩
 rw [w2]
 refine ⟨_,rfl,?_⟩
 have S2:=S1.trans s2
 refine ⟨_,rfl,(by show 0<=sizeLine; decide),fun e he=>⟨l3,e,rooms,[],150,rfl,SqL.of (kp (S2 _ _ L.a3) he),SqL.of aa,by simp; omega,hV m.okR,fun H3 s3=>?_⟩⟩
 rw [w3]
 refine ⟨_,rfl,?_⟩
 have S3:=(S2.trans (Same.new he)).trans s3
 refine ⟨_,rfl,_,rfl,_,rfl,_,rfl,l1,l2,asks,says,rfl,S3 _ _ L.a1,S3 _ _ L.a2,by omega,by omega,fun sl xs H4 hx s4 hsl=>?_⟩
 have S4:=S3.trans s4
 have L4:=L.same S4
 refine ⟨l4,l3,sl,ts,ds,rooms,xs,dE asks says,rfl,L4.a4,L4.ds,L4.a3,by omega,hsl,hx,by omega,fun H5 s5=>?_⟩
 rw [w4]
 exact ⟨_,rfl,k H5 (S4.trans s5)⟩
section
variable {κ ι:Type} [DecidableEq κ] {e:ι->κ}
def cO (e:ι->κ) (ps:List (ι×Addr)):List (κ×V):=ps.map fun x=>(e x.1,V.ref x.2)
theorem fH (inj:∀x y,e x=e y->x=y) {i:ι}:∀{ps:List (ι×Addr)},i∉ps.map (·.1)->cP (cO e ps) (e i)=none
 | [],_=>rfl
 | x::ps,h=>by
  rw [List.map_cons,List.mem_cons] at h
  show cP ((e x.1,V.ref x.2)::cO e ps) (e i)=none
  rw [a_ (fun z=>h (.inl (inj _ _ z).symm))]
  exact fH inj (fun z=>h (.inr z))
theorem bx (inj:∀x y,e x=e y->x=y) {i:ι}{a:Addr}:∀{ps:List (ι×Addr)},(ps.map (·.1)).Nodup->(i,a)∈ps->cP (cO e ps) (e i)=some (.ref a)
 | [],_,h=>by cases h
 | x::ps,nd,h=>by
  rw [List.map_cons,List.nodup_cons] at nd
  show cP ((e x.1,V.ref x.2)::cO e ps) (e i)=_
  rcases List.mem_cons.mp h with h | h
  ·rw [<-h]; exact bg rfl
  ·rw [a_ (fun z=>nd.1 (by rw [inj _ _ z]; exact List.mem_map.mpr ⟨_,h,rfl⟩))]
   exact bx inj nd.2 h
theorem kr (ps:List (ι×Addr)) (i:ι) (a:Addr):cO e (ps++[(i,a)])=cO e ps++[(e i,.ref a)]:=by
 unfold cO
 rw [List.map_append]
 rfl
end
structure DL {ι:Type}(H0 H:Hp) (d:Addr) (ps:List (ι×Addr)):Prop where
 nd:(ps.map (·.1)).Nodup
 na:(ps.map (·.2)).Nodup
 fr:∀x∈ps,H0 x.2=none
 frd:H0 d=none
 ned:∀x∈ps,x.2≠d
 same:Same H0 H
theorem DL.snoc {ι:Type}{H0 H H':Hp}{d:Addr}{ps:List (ι×Addr)}{i:ι}{a:Addr}(h:DL H0 H d ps) (hi:i∉ps.map (·.1)) (ha:∀x∈ps,x.2≠a) (fr:H0 a=none) (nd:a≠d) (s:Same H0 H'):DL H0 H' d (ps++[(i,a)]):=by
 refine ⟨?_,?_,?_,h.frd,?_,s⟩
 ·rw [List.map_append,List.nodup_append]
  refine ⟨h.nd,by simp,fun x hx y hy e=>?_⟩
  have:y=i:=by simpa using hy
  exact hi (by rw [<-this,<-e]; exact hx)
 ·rw [List.map_append,List.nodup_append]
  refine ⟨h.na,by simp,fun x hx y hy e=>?_⟩
  have:y=a:=by simpa using hy
  obtain ⟨z,hz,rfl⟩:=List.mem_map.mp hx
  exact ha z hz (e.trans this)
 ·intro x hx
  rcases List.mem_append.mp hx with hx | hx
  ·exact h.fr x hx
  ·have:x=(i,a):=by simpa using hx
   rw [this]; exact fr
 ·intro x hx
  rcases List.mem_append.mp hx with hx | hx
  ·exact h.ned x hx
  ·have:x=(i,a):=by simpa using hx
   rw [this]; exact nd
theorem t7 {ι:Type}:∀{ps:List (ι×Addr)},(ps.map (·.2)).Nodup->∀{x y:ι×Addr},x∈ps->y∈ps->x.2=y.2->x=y
 | [],_,x,_,h,_,_=>by cases h
 | p::ps,nd,x,y,hx,hy,e=>by
  rw [List.map_cons,List.nodup_cons] at nd
  rcases List.mem_cons.mp hx with hx' | hx' <;> rcases List.mem_cons.mp hy with hy' | hy'
  ·rw [hx',hy']
  ·exact absurd (List.mem_map.mpr ⟨y,hy',by rw [<-e,hx']⟩) nd.1
  ·exact absurd (List.mem_map.mpr ⟨x,hx',by rw [e,hy']⟩) nd.1
  ·exact t7 nd.2 hx' hy' e
theorem dB:∀x y:Str,(Sum.inr x:Key)=Sum.inr y->x=y:=fun x y h=>by injection h
def aJ (ds:List au) (r:Str):List au:=ds.filter fun d=>decide (d.a=r)
def sp_doors_by_start:Sp:=fun vs H Q _=>∃(l3 l4:Addr) (ts:List Addr) (rooms:List Str) (ds:List au),vs=[.ref l3,.ref l4]/\H l3=some (.lst (rooms.map V.str))/\H l4=some (.lst (ts.map V.ref))/\Doors H ts ds /\
 rooms.Nodup/\rooms.length<=1000/\ds.length<=9000/\(∀d∈ds,d.a∈rooms) /\
 ∀(d:Addr) (ps:List (Str×Addr)) (H':Hp),ps.map (·.1)=rooms->H' d=some (.dK (cO Sum.inr ps))->(∀x∈ps,∃us,H' x.2=some (.lst (us.map V.ref))/\Doors H' us (aJ ds x.1))->Same H H'->Q (.ref d) H'
theorem fD {K:PySem.W.Frag}{vs:List V}{H:Hp}{Q:VK}{E:XK}(h:sp_doors_by_start vs H Q E):gh K { nx:=fun _ H'=>Q .non H',rt:=Q } (start gv vs) H:=by
 obtain ⟨l3,l4,ts,rooms,ds,rfl,h3,h4,hds,nod,hz,hz2,hin,k⟩:=h
 refine fun d hd=>?_
 refine ⟨_,rfl,l3,rfl,⟨_,SqL.of (kp h3 hd)⟩,?_⟩
 refine aV (xs:=rooms.map V.str) (fun i σ H'=>∃x y,σ=[some (.ref l3),some (.ref l4),some (.ref d),x,y]/\∃ps:List (Str×Addr),ps.map (·.1)=rooms.take i/\H' d=some (.dK (cO Sum.inr ps))/\DL H H' d ps/\∀x∈ps,H' x.2=some (.lst []))
  ⟨_,_,rfl,[],rfl,aa,⟨by simp,by simp,by simp,hd,by simp,Same.new hd⟩,by simp⟩ (fun i σ H' _ ⟨_,_,_,_,_,_,D,_⟩=>SqL.of (D.same _ _ h3)) ?_ ?_
 ·rintro i x σ H' hi ⟨x3,x4,rfl,ps,hps,hd',D,hls⟩
  obtain ⟨w,hw,rfl⟩:=aS hi
  have hnew:w∉ps.map (·.1):=by
   rw [hps]
   intro z
   have:=nod
   rw [<-List.take_append_drop (i+1) rooms,aq hw,List.nodup_append] at this
   have:=this.1
   rw [List.nodup_append] at this
   exact this.2.2 w z w (by simp) rfl
  refine ⟨(by show 0<=sizeLine; decide),fun a ha=>?_⟩
  have hlen:(cO (Sum.inr:Str->Key) ps).length<sizeLine:=aA (by
   unfold cO
   rw [List.length_map,<-List.length_map (f:=(·.1)) (as:=ps),hps,List.length_take]; omega)
  have haH:H a=none:=D.same.free ha
  have nda:a≠d:=(ah hd' ha).symm
  have hneA:∀x∈ps,x.2≠a:=fun x hx=>ah (hls x hx) ha
  refine ⟨_,rfl,_,rfl,d,_,rfl,.inl ⟨_,.inr w,kp hd' ha,rfl,hlen,rfl⟩,_,_,rfl,ps++[(w,a)],?_,?_,?_,?_⟩
  ·rw [List.map_append,hps,aq hw]; rfl
  ·rw [aa,jE _ (fH dB hnew),kr]
  ·refine D.snoc hnew hneA haH nda ?_
   intro b o q
   rw [aj (ah q hd)]
   exact kp (D.same _ _ q) ha
  ·intro x hx
   rcases List.mem_append.mp hx with hx | hx
   ·rw [aj (D.ned x hx)]
    exact kp (hls x hx) ha
   ·have:x=(w,a):=by simpa using hx
    rw [this,aj nda]
    exact aa
 ·rintro σ H1 ⟨x3,x4,rfl,ps,hps,hd1,D1,hls⟩
  rw [List.length_map,List.take_length] at hps
  refine ⟨_,rfl,l4,rfl,⟨_,SqL.of (D1.same _ _ h4)⟩,?_⟩
  refine aV (xs:=ts.map V.ref) (fun i σ H'=>∃x4,σ=[some (.ref l3),some (.ref l4),some (.ref d),x3,x4]/\H' d=some (.dK (cO Sum.inr ps))/\DL H H' d ps/\∀x∈ps,∃us,H' x.2=some (.lst (us.map V.ref))/\Doors H' us (aJ (ds.take i) x.1))
   ⟨_,rfl,hd1,D1,fun x hx=>⟨[],hls x hx,.nil⟩⟩ (fun i σ H' _ ⟨_,_,_,D,_⟩=>SqL.of (D.same _ _ h4)) ?_ ?_
  ·rintro i x σ H' hi ⟨x4,rfl,hd',D,hls⟩
   obtain ⟨t,ht,rfl⟩:=dS hi
   obtain ⟨dr,hdr,hat⟩:=Paired.getL hds ht
   have hat':=hat.kt (Same.kt D.same)
   have hat2:=hat'
   obtain ⟨s,ht2,hs2⟩:=hat'
   have hmem:dr.a∈ps.map (·.1):=by rw [hps]; exact hin dr (List.mem_of_getElem? hdr)
   obtain ⟨⟨r,a⟩,hra,er⟩:=List.mem_map.mp hmem
   obtain rfl:r=dr.a:=er
   obtain ⟨us,hus,hdo⟩:=hls _ hra
   have hil:i<ds.length:=(List.getElem?_eq_some_iff.mp hdr).1
   have hlu:us.length<=9000:=by
    rw [Paired.length hdo]
    refine Nat.le_trans (List.length_filter_le _ _) ?_
    rw [List.length_take]; omega
   have KT:KT0 H' (upd H' a (.lst (us.map V.ref++[.ref t]))):=mr hus
   refine ⟨_,rfl,_,rfl,.inr (.inl ⟨t,_,0,_,rfl,rfl,SqT.of ht2,rfl,d,.ref a,rfl,.inl ⟨_,.inr dr.a,.inl hd',rfl,(bx dB D.nd hra).symm⟩,.inl ⟨rfl,_,SqL.of hus⟩,_,rfl,a,_,_,rfl,rfl,hus,?_,_,rfl,?_,?_,?_⟩)⟩
   ·rw [List.length_map]; exact bX hlu
   ·rw [aj (D.ned _ hra).symm]; exact hd'
   ·refine ⟨D.nd,D.na,D.fr,D.frd,D.ned,fun b o q=>?_⟩
    rw [aj (ah q (D.fr _ hra))]
    exact D.same _ _ q
   ·intro x hx
    have hfl:∀r',aJ (ds.take (i+1)) r'=aJ (ds.take i) r'++(if dr.a=r' then [dr] else []):=by
     intro r'
     unfold aJ
     rw [aq hdr,List.filter_append]
     congr 1
     by_cases c:dr.a=r'
     ·rw [if_pos c]; simp [c]
     ·rw [if_neg c]; simp [c]
    by_cases c:x.2=a
    ·have ex:=t7 D.na hx hra c
     subst ex
     refine ⟨us++[t],?_,?_⟩
     ·show upd H' a _ a=_
      rw [aa,List.map_append]; rfl
     ·rw [hfl]
      show Doors _ _ (aJ (ds.take i) dr.a++(if dr.a=dr.a then [dr] else []))
      rw [if_pos rfl]
      exact Paired.app (hdo.kt KT) (.cons (hat2.kt KT) .nil)
    ·obtain ⟨us',h1,h2⟩:=hls x hx
     have hne:¬(dr.a=x.1):=fun z=>by
      have e1:=bx (e:=(Sum.inr:Str->Key)) dB D.nd hra
      have e2:=bx (e:=(Sum.inr:Str->Key)) (i:=x.1) (a:=x.2) dB D.nd hx
      rw [<-z,e1] at e2
      injection e2 with e2
      injection e2 with e2
      exact c e2.symm
     refine ⟨us',by rw [aj c]; exact h1,?_⟩
     rw [hfl,if_neg hne,List.append_nil]
     exact h2.kt KT
  ·rintro σ H' ⟨x4,rfl,hd',D,hls⟩
   rw [List.length_map,Paired.length hds,List.take_length] at hls
   exact ⟨_,rfl,k d ps H' hps hd' hls D.same⟩
def pL (d:au):Bool:=match d.sg with
 | s::_=>decide (s=("ask":Str))
 | []=>false
def sp_has_asks_alone:Sp:=fun vs H Q _=>∃(a:Addr) (us:List Addr) (ds:List au),vs=[.ref a]/\H a=some (.lst (us.map V.ref))/\Doors H us ds/\ds.length<=9000/\(∀d∈ds,d.sg≠[])/\∀H',Same H H'->Q (.bl (ds.all pL)) H'
theorem fC {K:PySem.W.Frag}{vs:List V}{H:Hp}{Q:VK}{E:XK}(h:sp_has_asks_alone vs H Q E):gf K { nx:=fun _ H'=>Q .non H',rt:=Q } (start gu vs) H:=by
 obtain ⟨a,us,ds,rfl,ha,hds,hz,hne,k⟩:=h
 refine ⟨_,rfl,a,rfl,⟨_,SqL.of ha⟩,fun l hl=>?_⟩
 refine cM (xs:=us.map V.ref) (fun i vs H'=>vs=(ds.take i).map (fun d=>V.bl (pL d))/\Same H H'/\H' l=some (.lst vs))
  ⟨rfl,Same.new hl,aa⟩ (fun i vs H' _ ⟨_,hS,h'⟩=>⟨h',SqL.of (hS _ _ ha)⟩) ?_ ?_
 ·rintro vs H' ⟨rfl,hS,h'⟩
  rw [List.length_map,Paired.length hds,List.take_length] at h'
  refine ⟨l,ds.map pL,rfl,SqL.of (by rw [h',List.map_map]; rfl),?_⟩
  rw [List.all_map]
  exact k H' hS
 ·rintro i vs H' x hx hi ⟨rfl,hS,h'⟩
  obtain ⟨t,ht,rfl⟩:=dS hx
  obtain ⟨dr,hdr,hat⟩:=Paired.getL hds ht
  obtain ⟨s,ht2,hs2⟩:=hat.kt (Same.kt hS)
  have hmem:=List.mem_of_getElem? hdr
  obtain ⟨s0,rest,hsg⟩:∃s0 rest,dr.sg=s0::rest:=by
   cases q:dr.sg with
   | nil=>exact absurd q (hne dr hmem)
   | cons x y=>exact ⟨x,y,rfl⟩
  unfold SignAt at hs2
  rw [hsg] at hs2
  refine gN (um ?_)
  refine ⟨_,rfl,.inr (.inl ⟨t,_,1,_,rfl,rfl,SqT.of ht2,rfl,.inr (.inl ⟨s,_,0,.str s0,rfl,rfl,SqT.of hs2,dH (j:=0) rfl,rfl,h',?_,nxt hi ⟨?_,?_,aa⟩⟩)⟩)⟩
  ·rw [List.length_map,List.length_take]; exact bX (by omega)
  ·rw [aq hdr,List.map_append]
   congr 1
   show [V.bl _]=[V.bl _]
   congr 2
   unfold pL
   rw [hsg]
   show decide (V.str s0=V.str _)=decide (s0=_)
   by_cases c:s0=("ask":Str)
   ·rw [decide_eq_true c,decide_eq_true (by rw [c])]
   ·rw [decide_eq_false c,decide_eq_false (fun z=>c (by injection z))]
  ·intro b o e
   rw [aj (ah e hl)]
   exact hS _ _ e
def sgk (x:Str×List Str):TK:=.t [sTK x.1,gTK x.2]
theorem cS:∀x y:Str×List Str,sgk x=sgk y->x=y:=by
 intro x y h
 unfold sgk at h
 injection h with h
 injection h with h1 h
 injection h with h2 h
 cases x; cases y
 simp only at *
 rw [jx h1,pT h2]
theorem eT (x:Str×List Str):(sgk x).depth<=8:=by
 show max (TK.depth (sTK x.1)) (max (TK.depth (gTK x.2)) 0)+1<=8
 rw [jZ]
 show max 0 (max 1 0)+1<=8
 decide
def aF (ds:List au) (x:Str×List Str):List Str:=(ds.filter fun d=>decide (d.a=x.1/\d.sg=x.2)).map (·.b)
theorem kC (ds:List au) (d:au) (x:Str×List Str):aF (ds++[d]) x=aF ds x++(if (d.a,d.sg)=x then [d.b] else []):=by
 unfold aF
 rw [List.filter_append,List.map_append]
 congr 1
 by_cases c:(d.a,d.sg)=x
 ·subst c
  simp
 ·rw [if_neg c]
  have:¬(d.a=x.1/\d.sg=x.2):=fun z=>c (by cases x; simp only at z; rw [z.1,z.2])
  simp [List.filter_cons]
  intro h1 h2
  exact this ⟨h1,h2⟩
theorem eD {ds:List au}{x:Str×List Str}(h:∀d∈ds,(d.a,d.sg)≠x):aF ds x=[]:=by
 unfold aF
 rw [List.map_eq_nil_iff,List.filter_eq_nil_iff]
 intro d hd
 have:¬(d.a=x.1/\d.sg=x.2):=fun z=>h d hd (by cases x; simp only at z; rw [z.1,z.2])
 simp
 intro h1 h2
 exact this ⟨h1,h2⟩
theorem mem_goalsOf {ds:List au}{x:Str×List Str}{b:Str}:b∈aF ds x↔(⟨x.1,x.2,b⟩:au)∈ds:=by
 unfold aF
 rw [List.mem_map]
 constructor
 ·rintro ⟨d,hd,rfl⟩
  rw [List.mem_filter] at hd
  obtain ⟨h1,h2⟩:=hd
  obtain ⟨h3,h4⟩:=of_decide_eq_true h2
  cases d
  simp only at h3 h4
  rw [<-h3,<-h4]; exact h1
 ·intro h
  exact ⟨_,List.mem_filter.mpr ⟨h,decide_eq_true ⟨rfl,rfl⟩⟩,rfl⟩
structure GoalsAt (H:Hp) (g:Addr) (ps:List ((Str×List Str)×Addr)) (ds:List au):Prop where
 nd:(ps.map (·.1)).Nodup
 g:H g=some (.dT (cO sgk ps))
 ls:∀x∈ps,H x.2=some (.lst ((aF ds x.1).map V.str))
 all:∀d∈ds,(d.a,d.sg)∈ps.map (·.1)
theorem GoalsAt.same {H H':Hp}{g:Addr}{ps:List ((Str×List Str)×Addr)}{ds:List au}(h:GoalsAt H g ps ds) (s:Same H H'):GoalsAt H' g ps ds:=⟨h.nd,s _ _ h.g,fun x hx=>s _ _ (h.ls x hx),h.all⟩
def ju:Sp:=fun vs H Q _=>∃(l4:Addr) (ts:List Addr) (ds:List au),vs=[.ref l4]/\H l4=some (.lst (ts.map V.ref))/\Doors H ts ds/\ds.length<=9000 /\
 ∀(g:Addr) (ps:List ((Str×List Str)×Addr)) (H':Hp),GoalsAt H' g ps ds->Same H H'->Q (.ref g) H'
theorem cu {K:PySem.W.Frag}{vs:List V}{H:Hp}{Q:VK}{E:XK}(h:ju vs H Q E):cx K { nx:=fun _ H'=>Q .non H',rt:=Q } (start cz vs) H:=by
 obtain ⟨l4,ts,ds,rfl,h4,hds,hz,k⟩:=h
 refine fun g hg=>?_
 refine ⟨_,rfl,l4,rfl,⟨_,SqL.of (kp h4 hg)⟩,?_⟩
 refine aV (xs:=ts.map V.ref) (fun i σ H'=>∃x y z,σ=[some (.ref l4),some (.ref g),x,y,z]/\∃ps:List ((Str×List Str)×Addr),DL H H' g ps/\H' g=some (.dT (cO sgk ps))/\ps.length<=i/\(∀x∈ps,H' x.2=some (.lst ((aF (ds.take i) x.1).map V.str)))/\∀d∈ds.take i,(d.a,d.sg)∈ps.map (·.1))
  ⟨_,_,_,rfl,[],⟨by simp,by simp,by simp,hg,by simp,Same.new hg⟩,aa,by simp,by simp,by simp⟩ (fun i σ H' _ ⟨_,_,_,_,_,D,_⟩=>SqL.of (D.same _ _ h4)) ?_ ?_
 ·rintro i x σ H' hi ⟨x2,x3,x4,rfl,ps,D,hg',hlen,hls,hall⟩
  obtain ⟨t,ht,rfl⟩:=dS hi
  obtain ⟨dr,hdr,hat⟩:=Paired.getL hds ht
  have hil:i<ds.length:=(List.getElem?_eq_some_iff.mp hdr).1
  obtain ⟨s,ht2,hs2⟩:=hat.kt (Same.kt D.same)
  refine ⟨t,_,rfl,SqT.of ht2,rfl,_,_,rfl,_,_,rfl,_,_,rfl,rfl,?_⟩
  refine ⟨_,rfl,.inr (.inr (.inl ⟨rfl,.inr ⟨_,hg'⟩⟩)),_,rfl,_,rfl,(by show 2<=sizeLine; decide),fun kt hkt=>⟨(by show 0<=sizeLine; decide),fun nl hnl=>?_⟩⟩
  have S2:Same H' (upd (upd H' kt (.tup [.str dr.a,.ref s])) nl (.lst [])):=(Same.new hkt).trans (Same.new hnl)
  have hkt2:upd (upd H' kt (.tup [.str dr.a,.ref s])) nl (.lst []) kt=some (.tup [.str dr.a,.ref s]):=kp aa hnl
  have hnl2:upd (upd H' kt (.tup [.str dr.a,.ref s])) nl (.lst []) nl=some (.lst []):=aa
  have hnlH':H' nl=none:=(Same.new hkt).free hnl
  generalize upd (upd H' kt (.tup [.str dr.a,.ref s])) nl (.lst [])=H2 at S2 hkt2 hnl2 ⊢
  have htk:TKAt H2 (sgk (dr.a,dr.sg)) (.ref kt):=by
   unfold sgk TKAt
   refine ⟨kt,_,rfl,hkt2,?_⟩
   unfold TKAts
   refine ⟨_,_,rfl,l7 _,?_⟩
   unfold TKAts
   refine ⟨_,_,rfl,SignAt.tk (S2 _ _ hs2),?_⟩
   unfold TKAts
   rfl
  have hlk:(cO sgk ps).length<sizeLine:=bX (by unfold cO; rw [List.length_map]; omega)
  have hgo:∀x,aF (ds.take (i+1)) x=aF (ds.take i) x++(if (dr.a,dr.sg)=x then [dr.b] else []):=fun x=>by rw [aq hdr,kC]
  have hgl:∀x,(aF (ds.take i) x).length<=9000:=fun x=>by
   unfold aF
   rw [List.length_map]
   refine Nat.le_trans (List.length_filter_le _ _) ?_
   rw [List.length_take]; omega
  refine ⟨g,kt,_,sgk (dr.a,dr.sg),.ref nl,rfl,rfl,S2 _ _ hg',htk,eT _,hlk,fun v hv=>?_,fun hv=>?_⟩
  ·-- there already
   have hmem:(dr.a,dr.sg)∈ps.map (·.1):=by
    refine Classical.byContradiction fun z=>?_
    rw [fH cS z] at hv
    cases hv
   obtain ⟨⟨r,a⟩,hra,er⟩:=List.mem_map.mp hmem
   obtain rfl:r=(dr.a,dr.sg):=er
   rw [bx cS D.nd hra] at hv
   injection hv with hv
   subst hv
   have hla:=S2 _ _ (hls _ hra)
   refine ⟨.inl ⟨rfl,_,SqL.of hla⟩,_,rfl,a,_,_,rfl,rfl,hla,by rw [List.length_map]; exact bX (hgl _),_,_,_,rfl,ps,⟨D.nd,D.na,D.fr,D.frd,D.ned,fun b o q=>?_⟩,?_,by omega,?_,?_⟩
   ·rw [aj (ah q (D.fr _ hra))]
    exact S2 _ _ (D.same _ _ q)
   ·rw [aj (D.ned _ hra).symm]; exact S2 _ _ hg'
   ·intro x hx
    by_cases c:x.2=a
    ·have ex:=t7 D.na hx hra c
     subst ex
     show upd H2 a _ a=_
     rw [aa,hgo,if_pos rfl,List.map_append]; rfl
    ·have hne:¬((dr.a,dr.sg)=x.1):=fun z=>by
      have e1:=bx (e:=sgk) cS D.nd hra
      have e2:=bx (e:=sgk) (i:=x.1) (a:=x.2) cS D.nd hx
      rw [<-z,e1] at e2
      injection e2 with e2
      injection e2 with e2
      exact c e2.symm
     rw [aj c,hgo,if_neg hne,List.append_nil]
     exact S2 _ _ (hls x hx)
   ·intro d hd
    rw [aq hdr] at hd
    rcases List.mem_append.mp hd with hd | hd
    ·exact hall d hd
    ·have:d=dr:=by simpa using hd
     rw [this]; exact hmem
  ·-- a new list
   have hnew:(dr.a,dr.sg)∉ps.map (·.1):=by
    intro z
    obtain ⟨⟨r,a⟩,hra,er⟩:=List.mem_map.mp z
    obtain rfl:r=(dr.a,dr.sg):=er
    rw [bx cS D.nd hra] at hv
    cases hv
   have hgne:nl≠g:=(ah hg' hnlH').symm
   have hnl3:upd H2 g (.dT (cO sgk ps++[(sgk (dr.a,dr.sg),.ref nl)])) nl=some (.lst []):=by rw [aj hgne]; exact hnl2
   refine ⟨.inl ⟨rfl,_,SqL.of hnl3⟩,_,rfl,nl,_,_,rfl,rfl,hnl3,(by show 0<sizeLine; decide),_,_,_,rfl,ps++[((dr.a,dr.sg),nl)],?_,?_,?_,?_,?_⟩
   ·refine D.snoc hnew (fun x hx=>ah (hls x hx) hnlH') (D.same.free hnlH') hgne ?_
    intro b o q
    rw [aj (ah q (D.same.free hnlH')),aj (ah q hg)]
    exact S2 _ _ (D.same _ _ q)
   ·rw [aj hgne.symm,aa,kr]
   ·rw [List.length_append]; show _+1<=_; omega
   ·intro x hx
    rcases List.mem_append.mp hx with hx | hx
    ·have hne:¬((dr.a,dr.sg)=x.1):=fun z=>hnew (by rw [z]; exact List.mem_map.mpr ⟨x,hx,rfl⟩)
     rw [aj (ah (hls x hx) hnlH'),aj (D.ned x hx),hgo,if_neg hne,List.append_nil]
     exact S2 _ _ (hls x hx)
    ·have:x=((dr.a,dr.sg),nl):=by simpa using hx
     subst this
     have hnil:aF (ds.take i) (dr.a,dr.sg)=[]:=eD fun d hd z=>hnew (by rw [<-z]; exact hall d hd)
     show upd _ nl _ nl=_
     rw [aa,hgo,if_pos rfl,hnil]
     rfl
   ·intro d hd
    rw [List.map_append]
    rw [aq hdr] at hd
    rcases List.mem_append.mp hd with hd | hd
    ·exact List.mem_append_left _ (hall d hd)
    ·have:d=dr:=by simpa using hd
     rw [this]; exact List.mem_append_right _ (by simp)
 ·rintro σ H' ⟨x2,x3,x4,rfl,ps,D,hg',hlen,hls,hall⟩
  rw [List.length_map,Paired.length hds,List.take_length] at hls hall
  exact ⟨_,rfl,k g ps H' ⟨D.nd,hg',hls,hall⟩ D.same⟩
theorem gC:∀{L R:List Str},L.Nodup->(∀y∈L,y∈R)->L.length<=R.length
 | [],_,_,_=>Nat.zero_le _
 | x::L,R,nd,h=>by
  rw [List.nodup_cons] at nd
  have hx:=h x List.mem_cons_self
  have:=gC (L:=L) (R:=R.erase x) nd.2 fun y hy=>(List.mem_erase_of_ne (fun e:y=x=>nd.1 (by rw [<-e]; exact hy))).mpr (h y (List.mem_cons_of_mem _ hy))
  rw [List.length_erase_of_mem hx] at this
  have:0<R.length:=List.length_pos_of_mem hx
  rw [List.length_cons]
  omega
theorem Reach.in_ {ds:List au}{a b:Str}{rooms:List Str}(hr:∀d∈ds,d.b∈rooms) (h:Reach ds a b):b∈rooms:=by
 cases h with
 | one h=>exact hr _ h
 | step r h=>exact hr _ h
def oH:Sp:=fun vs H Q _=>∃(g:Addr) (room:Str) (ps:List ((Str×List Str)×Addr)) (ds:List au) (rooms:List Str),vs=[.ref g,.str room]/\GoalsAt H g ps ds/\(∀d∈ds,d.b∈rooms)/\rooms.length<=1000 /\
 ∀(d:Addr) (L:List Str) (H':Hp),H' d=some (.dK (aD L))->L.Nodup->(∀w,w∈L↔Reach ds room w)->H d=none->Same H H'->Q (.ref d) H'
structure Led (H0 H:Hp) (ds:List au) (room:Str) (d w:Addr) (L W:List Str) (open_:Str->Prop):Prop where
 d:H d=some (.dK (aD L))
 w:H w=some (.lst (W.map V.str))
 same:Same H0 H
 nd:L.Nodup
 sound:∀y∈L,Reach ds room y
 wait:∀y∈W,y=room∨y∈L
 closed:∀y,(y=room∨y∈L)->y∉W->¬open_ y->∀c∈aF ds (y,stillSg),c∈L
theorem gW {K:PySem.W.Frag}{st:Addr}(hst:∀H,SqT K H st (stillSg.map V.str)) {vs:List V}{H:Hp}{Q:VK}{E:XK}(h:oH vs H Q E):iE K st { nx:=fun _ H'=>Q .non H',rt:=Q } (start iO vs) H:=by
 obtain ⟨g,room,ps,ds,rooms,rfl,G,hin,hz,k⟩:=h
 refine fun d hd=>?_
 refine ⟨_,rfl,(by show 1<=sizeLine; decide),fun w hw=>?_⟩
 have hwH:H w=none:=(Same.new hd).free hw
 have hdw:d≠w:=ah aa hw
 refine ⟨fun m σ H'=>∃(L W:List Str) (x y:Option V),σ=[some (.ref g),some (.str room),some (.ref d),some (.ref w),x,y]/\Led H H' ds room d w L W (fun _=>False)/\m=2 * (rooms.length-L.length)+W.length/\m<=2 * rooms.length+1,
  ⟨_,[],[room],_,_,rfl,⟨kp aa hw,aa,(Same.new hd).trans (Same.new hw),List.nodup_nil,by simp,by simp,?_⟩,rfl,Nat.le_refl _⟩,?_⟩
 ·intro y hy hn
  rcases hy with rfl | hy
  ·simp at hn
  ·cases hy
 rintro m σ H1 ⟨L,W,x4,x5,rfl,D,rfl,hbound⟩
 have lenL:∀{L':List Str},L'.Nodup->(∀y∈L',Reach ds room y)->L'.length<=rooms.length:=fun nd sd=>gC nd fun y hy=>(sd y hy).in_ hin
 refine ⟨_,rfl,.inl ⟨w,_,rfl,.inl (SqL.of D.w),_,_,rfl,rfl,_,rfl,?_⟩⟩
 refine pI (fun hpos=>?_) (fun hpos=>?_)
 ·have hne:W≠[]:=by
   intro z
   rw [z] at hpos
   exact absurd (of_decide_eq_true hpos) (by decide)
  obtain ⟨W',here,rfl⟩:∃W' here,W=W'++[here]:=⟨W.dropLast,W.getLast hne,(List.dropLast_concat_getLast hne).symm⟩
  have hhere:here=room∨here∈L:=D.wait here (by simp)
  refine ⟨fun σ' H'=>∃(L' W2:List Str) (x y:Option V),σ'=[some (.ref g),some (.str room),some (.ref d),some (.ref w),x,y]/\Led H H' ds room d w L' W2 (fun _=>False)/\2 * (rooms.length-L'.length)+W2.length<2 * (rooms.length-L.length)+(W'++[here]).length,
   fun σ' H' ⟨L',W2,x,y,e,D',hm⟩=>⟨_,hm,L',W2,x,y,e,D',rfl,by omega⟩,?_⟩
  have hlast:((W'++[here]).map V.str)[((W'++[here]).map V.str).length-1]?=some (.str here):=by simp
  have hdrop:((W'++[here]).map V.str).dropLast=W'.map V.str:=by rw [List.map_append]; simp
  refine ⟨_,rfl,.inl ⟨rfl,_,SqL.of D.w⟩,w,_,_,rfl,rfl,D.w,hlast,?_⟩
  rw [hdrop]
  have hd1:upd H1 w (.lst (W'.map V.str)) d=some (.dK (aD L)):=by rw [aj hdw]; exact D.d
  have hw1:upd H1 w (.lst (W'.map V.str)) w=some (.lst (W'.map V.str)):=aa
  have S1:Same H (upd H1 w (.lst (W'.map V.str))):=fun b o q=>by rw [aj (ah q hwH)]; exact D.same _ _ q
  generalize upd H1 w (.lst (W'.map V.str))=H2 at hd1 hw1 S1 ⊢
  have G2:=G.same S1
  refine ⟨_,rfl,g,rfl,.inr ⟨_,.inl G2.g⟩,_,rfl,(by show 2<=sizeLine; decide),fun kt hkt=>⟨(by show 0<=sizeLine; decide),fun et het=>⟨cP (cO sgk ps) (sgk (here,stillSg)),.inr ⟨_,sgk (here,stillSg),kt,.inl ?_,rfl,?_,eT _,rfl⟩,?_⟩⟩⟩
  ·exact kp (kp G2.g hkt) het
  ·unfold sgk nY
   refine ⟨kt,_,rfl,SqT.of (kp aa het),?_⟩
   unfold TKIns
   refine ⟨_,_,rfl,?_,?_⟩
   ·unfold sTK nY; rfl
   unfold TKIns
   refine ⟨_,_,rfl,?_,?_⟩
   ·unfold gTK nY
    refine ⟨st,_,rfl,hst _,?_⟩
    unfold stillSg
    show TKIns K _ [sTK _] [V.str _]
    unfold TKIns
    refine ⟨_,_,rfl,?_,?_⟩
    ·unfold sTK nY; rfl
    unfold TKIns; rfl
   unfold TKIns; rfl
  have S3:Same H2 (upd (upd H2 kt (.tup [.str here,.ref st])) et (.tup [])):=(Same.new hkt).trans (Same.new het)
  have het3:upd (upd H2 kt (.tup [.str here,.ref st])) et (.tup []) et=some (.tup []):=aa
  generalize upd (upd H2 kt (.tup [.str here,.ref st])) et (.tup [])=H3 at S3 het3 ⊢
  have D3:Led H H3 ds room d w L W' (fun y=>y=here):=⟨S3 _ _ hd1,S3 _ _ hw1,S1.trans S3,D.nd,D.sound,fun y hy=>D.wait y (List.mem_append_left _ hy),fun y hy hn ho=>D.closed y hy (fun z=>by rcases List.mem_append.mp z with z | z; exact hn z; exact ho (by simpa using z)) (fun z=>z)⟩
  have hm3:2 * (rooms.length-L.length)+W'.length<2 * (rooms.length-L.length)+(W'++[here]).length:=by rw [List.length_append]; show _<_+(_+1); omega
  have fin:∀(H4:Hp) (L' W2:List Str) (x y:Option V),Led H H4 ds room d w L' W2 (fun y=>y=here)->(∀c∈aF ds (here,stillSg),c∈L')->2 * (rooms.length-L'.length)+W2.length<2 * (rooms.length-L.length)+(W'++[here]).length ->
    ∃(L' W2:List Str) (x' y':Option V),[some (V.ref g),some (.str room),some (.ref d),some (.ref w),x,y]=[some (.ref g),some (.str room),some (.ref d),some (.ref w),x',y']/\Led H H4 ds room d w L' W2 (fun _=>False)/\2 * (rooms.length-L'.length)+W2.length<2 * (rooms.length-L.length)+(W'++[here]).length:=by
   intro H4 L' W2 x y D4 hc hm
   refine ⟨L',W2,x,y,rfl,⟨D4.d,D4.w,D4.same,D4.nd,D4.sound,D4.wait,fun y hy hn _=>?_⟩,hm⟩
   by_cases e:y=here
   ·rw [e]; exact hc
   ·exact D4.closed y hy hn e
  by_cases hmem:(here,stillSg)∈ps.map (·.1)
  ·obtain ⟨⟨r,a⟩,hra,er⟩:=List.mem_map.mp hmem
   obtain rfl:r=(here,stillSg):=er
   rw [bx cS G.nd hra]
   have hla:=G.ls _ hra
   refine ⟨a,rfl,.inl ⟨⟨_,SqL.of ((S1.trans S3) _ _ hla)⟩,?_⟩⟩
   refine aV (xs:=(aF ds (here,stillSg)).map V.str) (fun j σ H'=>∃(L' W2:List Str) (y:Option V),σ=[some (.ref g),some (.str room),some (.ref d),some (.ref w),some (.str here),y]/\Led H H' ds room d w L' W2 (fun y=>y=here)/\(here=room∨here∈L')/\(∀c∈(aF ds (here,stillSg)).take j,c∈L') /\
     2 * (rooms.length-L'.length)+W2.length<2 * (rooms.length-L.length)+(W'++[here]).length)
    ⟨L,W',_,rfl,D3,hhere,by simp,hm3⟩ (fun j σ H' _ ⟨_,_,_,_,D',_⟩=>SqL.of (D'.same _ _ hla)) ?_ ?_
   ·rintro j x σ H4 hj ⟨L',W2,y,rfl,D4,hh,hc,hm⟩
    obtain ⟨goal,hgoal,rfl⟩:=aS hj
    have hedge:(⟨here,stillSg,goal⟩:au)∈ds:=mem_goalsOf.mp (List.mem_of_getElem? hgoal)
    have hreach:Reach ds room goal:=by
     rcases hh with hh | hh
     ·rw [hh] at hedge; exact .one hedge
     ·exact .step (D4.sound _ hh) hedge
    have hlen':=lenL D4.nd D4.sound
    refine ⟨_,rfl,_,rfl,d,_,rfl,.inl ⟨_,.inr goal,.inl D4.d,rfl,rfl⟩,_,rfl,?_⟩
    rw [dA]
    by_cases c:goal∈L'
    ·rw [decide_eq_true c]
     refine bp ⟨L',W2,_,rfl,D4,hh,?_,hm⟩
     intro c' hc'
     rw [aq hgoal] at hc'
     rcases List.mem_append.mp hc' with h | h
     ·exact hc c' h
     ·have:c'=goal:=by simpa using h
      rw [this]; exact c
    ·rw [decide_eq_false c]
     refine cb ?_
     have nd':(L'++[goal]).Nodup:=by
      rw [List.nodup_append]
      refine ⟨D4.nd,by simp,fun a ha b hb e=>?_⟩
      have:b=goal:=by simpa using hb
      exact c (by rw [<-this,<-e]; exact ha)
     have sd':∀y∈L'++[goal],Reach ds room y:=by
      intro y hy
      rcases List.mem_append.mp hy with hy | hy
      ·exact D4.sound y hy
      ·have:y=goal:=by simpa using hy
       rw [this]; exact hreach
     have hlen2:=lenL nd' sd'
     rw [List.length_append] at hlen2
     have hlen3:L'.length+1<=rooms.length:=hlen2
     have hWl:W2.length<=9000:=by omega
     refine ⟨_,rfl,_,rfl,d,_,rfl,.inl ⟨_,.inr goal,D4.d,rfl,aA (Nat.le_trans (fJ _) (by omega)),rfl⟩,?_⟩
     have hw5:upd H4 d (.dK (fX (aD L') (.inr goal) (.bl true))) w=some (.lst (W2.map V.str)):=by rw [aj hdw.symm]; exact D4.w
     refine ⟨_,rfl,.inl ⟨rfl,_,SqL.of hw5⟩,_,rfl,w,_,_,rfl,rfl,hw5,by rw [List.length_map]; exact bX hWl,L'++[goal],W2++[goal],_,rfl,⟨?_,?_,?_,nd',sd',?_,?_⟩,?_,?_,?_⟩
     ·rw [aj hdw,aa,bz]
     ·rw [aa,List.map_append]; rfl
     ·intro b o q
      rw [aj (ah q hwH),aj (ah q hd)]
      exact D4.same _ _ q
     ·intro y hy
      rcases List.mem_append.mp hy with hy | hy
      ·rcases D4.wait y hy with h | h
       ·exact .inl h
       ·exact .inr (List.mem_append_left _ h)
      ·exact .inr (List.mem_append_right _ hy)
     ·intro y hy hn ho c' hc'
      have hn1:y∉W2:=fun z=>hn (List.mem_append_left _ z)
      have hyg:y≠goal:=fun z=>hn (List.mem_append_right _ (by simp [z]))
      refine List.mem_append_left _ (D4.closed y ?_ hn1 ho c' hc')
      rcases hy with hy | hy
      ·exact .inl hy
      ·rcases List.mem_append.mp hy with hy | hy
       ·exact .inr hy
       ·exact absurd (by simpa using hy) hyg
     ·rcases hh with h | h
      ·exact .inl h
      ·exact .inr (List.mem_append_left _ h)
     ·intro c' hc'
      rw [aq hgoal] at hc'
      rcases List.mem_append.mp hc' with h | h
      ·exact List.mem_append_left _ (hc c' h)
      ·exact List.mem_append_right _ h
     ·rw [List.length_append,List.length_append]
      show 2 * (rooms.length-(L'.length+1))+(W2.length+1)<_
      omega
   ·rintro σ H4 ⟨L',W2,y,rfl,D4,hh,hc,hm⟩
    rw [List.length_map,List.take_length] at hc
    exact fin H4 L' W2 _ _ D4 hc hm
  ·rw [fH cS hmem]
   refine ⟨et,rfl,.inr ⟨⟨_,SqT.of het3⟩,?_⟩⟩
   have hnil:aF ds (here,stillSg)=[]:=eD fun x hx z=>hmem (by rw [<-z]; exact G.all x hx)
   refine ub (xs:=[]) (fun j σ H'=>σ=[some (.ref g),some (.str room),some (.ref d),some (.ref w),some (.str here),x5]/\H'=H3) ⟨rfl,rfl⟩ (fun j σ H' _ ⟨_,e⟩=>by rw [e]; exact SqT.of het3) (fun j x σ H' hj=>by cases hj) ?_
   rintro σ H' ⟨rfl,rfl⟩
   exact fin _ L W' _ _ D3 (by rw [hnil]; simp) hm3
 ·have hnil:W=[]:=by
   cases W with
   | nil=>rfl
   | cons a W=>exact absurd (decide_eq_true (by rw [List.length_map,List.length_cons]; omega)) hpos
  subst hnil
  refine ⟨_,rfl,k d L H1 D.d D.nd (fun w=>⟨D.sound w,fun hr=>?_⟩) hd D.same⟩
  induction hr with
  | one h=>exact D.closed room (.inl rfl) (by simp) (fun z=>z) _ (mem_goalsOf.mpr h)
  | step r h ih=>exact D.closed _ (.inr ih) (by simp) (fun z=>z) _ (mem_goalsOf.mpr h)
def sp_first_led_round:Sp:=fun vs H Q _=>∃(l3 d:Addr) (rooms:List Str) (ps:List (Str×Addr)),vs=[.ref l3,.ref d]/\H l3=some (.lst (rooms.map V.str))/\H d=some (.dK (cO Sum.inr ps))/\ps.map (·.1)=rooms/\rooms.Nodup /\
 (∀x∈ps,∃L,H x.2=some (.dK (aD L))/\x.1∉L)/\∀H',Same H H'->Q .non H'
theorem eV {K:PySem.W.Frag}{vs:List V}{H:Hp}{Q:VK}{E:XK}(h:sp_first_led_round vs H Q E):fq K { nx:=fun _ H'=>Q .non H',rt:=Q } (start fP vs) H:=by
 obtain ⟨l3,d,rooms,ps,rfl,h3,hd,hps,nod,hL,k⟩:=h
 refine ⟨_,rfl,l3,rfl,⟨_,SqL.of h3⟩,?_⟩
 refine e_ (xs:=rooms.map V.str) (fun i σ H'=>∃x y,σ=[some (.ref l3),some (.ref d),x,y]/\Same H H') ⟨_,_,rfl,Same.refl H⟩ (fun i σ H' _ ⟨_,_,_,S⟩=>SqL.of (S _ _ h3)) ?_ ?_
 ·rintro i x σ H' t hi ⟨x2,x3,rfl,S⟩ ht
  obtain ⟨w,hw,rfl⟩:=aS hi
  refine ⟨t,_,rfl,SqT.of aa,rfl,_,_,rfl,_,_,rfl,rfl,?_⟩
  have S2:Same H (upd H' t (.tup [.int i,.str w])):=S.trans (Same.new ht)
  generalize upd H' t (.tup [.int i,.str w])=H2 at S2 ⊢
  have hmem:w∈ps.map (·.1):=by rw [hps]; exact List.mem_of_getElem? hw
  obtain ⟨⟨r,a⟩,hra,er⟩:=List.mem_map.mp hmem
  obtain rfl:r=w:=er
  obtain ⟨L,hLa,hn⟩:=hL _ hra
  refine ⟨_,rfl,_,rfl,_,rfl,d,.ref a,rfl,.inl ⟨_,.inr r,.inl (S2 _ _ hd),rfl,(bx dB (by rw [hps]; exact nod) hra).symm⟩,a,_,rfl,.inl ⟨_,.inr r,.inl (S2 _ _ hLa),rfl,rfl⟩,_,rfl,?_⟩
  rw [dA,decide_eq_false hn]
  exact bp ⟨_,_,rfl,S2⟩
 ·rintro σ H' ⟨x,y,rfl,S⟩
  exact k H' S
abbrev lk (f:Str) (fs:List (Str×V)):Option V:=fs.lookup f
def fU (ds:List au) (r:Str):Bool:=(aJ ds r).all pL
structure MachAt (C:Addr) (H:Hp) (x:Addr) (asks says rooms:List Str) (ds:List au):Prop where
 at_:∃(dx:Addr) (fs:List (Str×V)) (o1 o2 o3 o4 lv qu sg sl:Addr) (ts:List Addr) (lps:List (Str×Addr)) (gps:List ((Str×List Str)×Addr)) (sps:List (Str×Addr)),
  H x=some (.ins C dx fs)/\lk "is_quiet" fs=none/\lk "goals" fs=none/\lk "led_from" fs=none/\lk "rooms" fs=none /\
  lk "own_asks" fs=some (.ref o1)/\lk "own_says" fs=some (.ref o2)/\lk "own_rooms" fs=some (.ref o3)/\lk "own_doors" fs=some (.ref o4) /\
  lk "leaving" fs=some (.ref lv)/\lk "quiet" fs=some (.ref qu)/\lk "sign_goals" fs=some (.ref sg)/\lk "still_led" fs=some (.ref sl) /\
  Lists H o1 o2 o3 o4 ts asks says rooms ds /\
  lps.map (·.1)=rooms/\H lv=some (.dK (cO Sum.inr lps))/\(∀x∈lps,∃us,H x.2=some (.lst (us.map V.ref))/\Doors H us (aJ ds x.1)) /\
  H qu=some (.dK (aD (rooms.filter (fU ds))))/\GoalsAt H sg gps ds /\
  sps.map (·.1)=rooms/\H sl=some (.dK (cO Sum.inr sps))/\(∀x∈sps,∃L,H x.2=some (.dK (aD L))/\L.Nodup/\∀w,w∈L↔Reach ds x.1 w)
 ok:ModelOk asks says rooms ds
 more:∃(dx:Addr) (fs:List (Str×V)),H x=some (.ins C dx fs)/\lk "asks" fs=none/\lk "says" fs=none/\lk "doors" fs=none/\lk "doors_from" fs=none
theorem cw (f:Str) (v:V):∀fs:List (Str×V),(cv f v fs).length<=fs.length+1
 | []=>Nat.le_refl _
 | (g,x)::r=>by
  unfold cv
  split
  ·exact Nat.le_succ _
  ·rw [List.length_cons,List.length_cons]
   have:=cw f v r
   omega
theorem iY:∀(ps qs:List (Str×Addr)),((qs++ps).map (·.1)).Nodup->dX (cO Sum.inr qs) (cO Sum.inr ps)=cO Sum.inr (qs++ps)
 | [],qs,_=>by rw [List.append_nil]; rfl
 | p::ps,qs,nd=>by
  show dX (fX (cO Sum.inr qs) (Sum.inr p.1) (.ref p.2)) (cO Sum.inr ps)=_
  have e:qs++p::ps=(qs++[p])++ps:=by simp
  rw [e] at nd ⊢
  have hnew:p.1∉qs.map (·.1):=by
   rw [List.map_append,List.map_append,List.nodup_append] at nd
   have:=nd.1
   rw [List.nodup_append] at this
   intro z
   exact this.2.2 _ z _ (by simp) rfl
  rw [jE _ (fH dB hnew)]
  have:=iY ps (qs++[p]) nd
  rw [<-this]
  have e2:cO (Sum.inr:Str->Key) (qs++[p])=cO Sum.inr qs++[(Sum.inr p.1,V.ref p.2)]:=by
   unfold cO; rw [List.map_append]; rfl
  rw [e2]
def lh (C:Addr):Sp:=fun vs H Q _=>∃(x dx l1 l2 l3 l4:Addr) (ts:List Addr) (asks says rooms:List Str) (ds:List au),vs=[.ref x,.ref l1,.ref l2,.ref l3,.ref l4]/\H x=some (.ins C dx [])/\Lists H l1 l2 l3 l4 ts asks says rooms ds/\ModelOk asks says rooms ds /\
 ∀H',MachAt C H' x asks says rooms ds->ExB x H H'->Q .non H'
theorem Lists.exI {H H':Hp}{x C dx:Addr}{fs:List (Str×V)}{l1 l2 l3 l4:Addr}{ts:List Addr}{asks says rooms:List Str}{ds:List au}(h:Lists H l1 l2 l3 l4 ts asks says rooms ds) (hx:H x=some (.ins C dx fs)) (e:ExB x H H'):Lists H' l1 l2 l3 l4 ts asks says rooms ds:=by
 have ne:∀{b:Addr}{xs:List V},H b=some (.lst xs)->b≠x:=fun hb z=>by rw [z,hx] at hb; cases hb
 exact ⟨e _ _ h.a1 (ne h.a1),e _ _ h.a2 (ne h.a2),e _ _ h.a3 (ne h.a3),e _ _ h.a4 (ne h.a4),h.ds.kt fun b xs hb=>e _ _ hb fun z=>by rw [z,hx] at hb; cases hb⟩
theorem ExB.ktI {H H':Hp}{x C dx:Addr}{fs:List (Str×V)}(e:ExB x H H') (hx:H x=some (.ins C dx fs)):KT0 H H':=fun b xs hb=>e _ _ hb fun z=>by rw [z,hx] at hb; cases hb
theorem ExB.neI {H:Hp}{x C dx:Addr}{fs:List (Str×V)}(hx:H x=some (.ins C dx fs)) {b:Addr}{xs:List V}(hb:H b=some (.lst xs)):b≠x:=fun z=>by rw [z,hx] at hb; cases hb
theorem t6 {H:Hp}{x C dx:Addr}{fs:List (Str×V)}(hx:H x=some (.ins C dx fs)) {b:Addr}{kvs:List (Key×V)}(hb:H b=some (.dK kvs)):b≠x:=fun z=>by rw [z,hx] at hb; cases hb
theorem uY {H:Hp}{x C dx:Addr}{fs:List (Str×V)}(hx:H x=some (.ins C dx fs)) {b:Addr}{kvs:List (TK×V)}(hb:H b=some (.dT kvs)):b≠x:=fun z=>by rw [z,hx] at hb; cases hb
structure MC (K:PySem.W.Frag) (C:Addr):Prop where
 cls:Cls K C
 a1:NoAttr K C "own_asks"
 a2:NoAttr K C "own_says"
 a3:NoAttr K C "own_rooms"
 a4:NoAttr K C "own_doors"
 a5:NoAttr K C "leaving"
 a6:NoAttr K C "quiet"
 a7:NoAttr K C "sign_goals"
 a8:NoAttr K C "still_led"
theorem sJ {H:Hp}{x C dx:Addr}{fs:List (Str×V)}(f:Str) (y:V) (hx:H x=some (.ins C dx fs)):∃H',H'=upd H x (.ins C dx (cv f y fs))/\H' x=some (.ins C dx (cv f y fs))/\ExB x H H' :=
 ⟨_,rfl,aa,ExB.upd _ _ _⟩
theorem ic {p:Str->Bool}{ws:List Str}{i:Nat}{w:Str}(h:ws[i]?=some w):(ws.take (i+1)).filter p=(ws.take i).filter p++(if p w=true then [w] else []):=by
 rw [aq h,List.filter_append]
 congr 1
 by_cases c:p w=true
 ·rw [if_pos c]; simp [c]
 ·rw [if_neg c]; simp [c]
theorem nC (ds:List au) (r:Str):(aJ ds r).length<=ds.length:=List.length_filter_le _ _
theorem ModelOk.sg0 {asks says rooms:List Str}{ds:List au}(m:ModelOk asks says rooms ds) {r:Str}:∀d∈aJ ds r,d.sg≠[]:=by
 intro d hd
 have:=m.good d (List.mem_filter.mp hd).1
 rcases this.sg with ⟨w,_,e⟩ | ⟨w,_,e⟩ | e <;> rw [e] <;> exact List.cons_ne_nil _ _
theorem tJ {K:PySem.W.Frag}{C:Addr}(M:MC K C) {vs:List V}{H:Hp}{Q:VK}{E:XK}(h:lh C vs H Q E) :
  eN K sp_need_none sp_first_led_round oH ju (sp_as_keys K) sp_has_asks_alone sp_doors_by_start sp_need_parts { nx:=fun _ H'=>Q .non H',rt:=Q } (start ff vs) H:=by
 obtain ⟨x,dx,l1,l2,l3,l4,ts,asks,says,rooms,ds,rfl,hx,L,m,k⟩:=h
 have z3:=m.rooms26
 have z4:=m.few
 refine ⟨_,rfl,_,rfl,_,rfl,_,rfl,l1,l2,l3,l4,ts,asks,says,rooms,ds,rfl,L,m,fun H1 S1=>?_⟩
 have hx1:=S1 _ _ hx
 have L1:=L.same S1
 have E1:ExB x H H1:=Same.exB S1
 refine ⟨_,rfl,.inl ⟨l1,_,rfl,.inl (SqL.of L1.a1),fun o1 ho1=>⟨_,rfl,x,C,dx,_,rfl,kp hx1 ho1,M.cls,M.a1,(by show 0<1000; decide),?_⟩⟩⟩
 obtain ⟨H2,e2,hx2,F2⟩:=sJ "own_asks" (.ref o1) (kp (x:=.lst (asks.map V.str)) hx1 ho1)
 rw [<-e2]
 have n1:o1≠x:=(ah hx1 ho1).symm
 have f1:=F2 _ _ aa n1
 have E2:ExB x H1 H2:=(ExB.new ho1).trans F2
 have L2':=L1.exI hx1 E2
 have len2:(cv ("own_asks":Str) (.ref o1) []).length<=1:=cw _ _ _
 clear e2 F2
 refine ⟨_,rfl,.inl ⟨l2,_,rfl,.inl (SqL.of L2'.a2),fun o2 ho2=>⟨_,rfl,x,C,dx,_,rfl,kp hx2 ho2,M.cls,M.a2,by omega,?_⟩⟩⟩
 obtain ⟨H3,e3,hx3,F3⟩:=sJ "own_says" (.ref o2) (kp (x:=.lst (says.map V.str)) hx2 ho2)
 rw [<-e3]
 have n2:o2≠x:=(ah hx2 ho2).symm
 have f2:=F3 _ _ aa n2
 have E3:ExB x H2 H3:=(ExB.new ho2).trans F3
 have L3:=L2'.exI hx2 E3
 have len3:=cw ("own_says":Str) (.ref o2) (cv ("own_asks":Str) (.ref o1) [])
 clear e3 F3
 refine ⟨_,rfl,.inl ⟨l3,_,rfl,.inl (SqL.of L3.a3),fun o3 ho3=>⟨_,rfl,x,C,dx,_,rfl,kp hx3 ho3,M.cls,M.a3,by omega,?_⟩⟩⟩
 obtain ⟨H4,e4,hx4,F4⟩:=sJ "own_rooms" (.ref o3) (kp (x:=.lst (rooms.map V.str)) hx3 ho3)
 rw [<-e4]
 have n3:o3≠x:=(ah hx3 ho3).symm
 have f3:=F4 _ _ aa n3
 have E4:ExB x H3 H4:=(ExB.new ho3).trans F4
 have L4:=L3.exI hx3 E4
 have len4:=cw ("own_rooms":Str) (.ref o3) (cv ("own_says":Str) (.ref o2) (cv ("own_asks":Str) (.ref o1) []))
 clear e4 F4
 refine ⟨_,rfl,.inl ⟨l4,_,rfl,.inl (SqL.of L4.a4),fun o4 ho4=>⟨_,rfl,x,C,dx,_,rfl,kp hx4 ho4,M.cls,M.a4,by omega,?_⟩⟩⟩
 obtain ⟨H5,e5,hx5,F5⟩:=sJ "own_doors" (.ref o4) (kp (x:=.lst (ts.map V.ref)) hx4 ho4)
 rw [<-e5]
 have n4:o4≠x:=(ah hx4 ho4).symm
 have f4:=F5 _ _ aa n4
 have E5:ExB x H4 H5:=(ExB.new ho4).trans F5
 have L5:=L4.exI hx4 E5
 generalize hfs4:cv ("own_doors":Str) (.ref o4) (cv ("own_rooms":Str) (.ref o3) (cv ("own_says":Str) (.ref o2) (cv ("own_asks":Str) (.ref o1) [])))=fs4 at hx5
 have len5:fs4.length<=4:=by
  rw [<-hfs4]
  have:=cw ("own_doors":Str) (.ref o4) (cv ("own_rooms":Str) (.ref o3) (cv ("own_says":Str) (.ref o2) (cv ("own_asks":Str) (.ref o1) [])))
  omega
 clear e5 F5
 refine ⟨_,rfl,_,rfl,l3,l4,ts,rooms,ds,rfl,L5.a3,L5.a4,L5.ds,m.okR.1,by omega,by omega,fun d hd=>(m.good d hd).a,fun lv lps H6' hlps flv' hlv' S6=>⟨_,rfl,x,C,dx,fs4,rfl,S6 _ _ hx5,M.cls,M.a5,by omega,?_⟩⟩
 obtain ⟨H6,e6,hx6,F6⟩:=sJ "leaving" (.ref lv) (S6 _ _ hx5)
 rw [<-e6]
 have E6:ExB x H5 H6:=(Same.exB S6).trans F6
 have L6:=L5.exI hx5 E6
 have flv:=F6 _ _ flv' (t6 (S6 _ _ hx5) flv')
 have hlv:∀y∈lps,∃us,H6 y.2=some (.lst (us.map V.ref))/\Doors H6 us (aJ ds y.1):=fun y hy=>by
  obtain ⟨us,g1,g2⟩:=hlv' y hy
  exact ⟨us,F6 _ _ g1 (ExB.neI (S6 _ _ hx5) g1),g2.kt (F6.ktI (S6 _ _ hx5))⟩
 have ndl:(lps.map (·.1)).Nodup:=by rw [hlps]; exact m.okR.1
 have len6:=cw ("leaving":Str) (.ref lv) fs4
 have lk5:lk "leaving" (cv ("leaving":Str) (.ref lv) fs4)=some (.ref lv):=by
  show List.lookup _ _=_
  rw [bh,if_pos rfl]
 clear e6 F6 flv' hlv'
 refine ⟨_,rfl,l3,rfl,⟨_,SqL.of L6.a3⟩,fun f hf=>?_⟩
 refine cM (xs:=rooms.map V.str) (fun i vs H'=>vs=((rooms.take i).filter (fU ds)).map V.str/\Same H6 H'/\H' f=some (.lst vs)) ⟨rfl,Same.new hf,aa⟩ (fun i vs H' _ ⟨_,S,h'⟩=>⟨h',SqL.of (S _ _ L6.a3)⟩) ?_ ?_
 rotate_left
 ·rintro i vs H' x' hx' hi ⟨rfl,S,f'⟩
  obtain ⟨r,hr,rfl⟩:=aS hx'
  obtain ⟨⟨r',a⟩,hra,er⟩:=List.mem_map.mp (show r∈lps.map (·.1) by rw [hlps]; exact List.mem_of_getElem? hr)
  obtain rfl:r'=r:=er
  obtain ⟨us,hus,hdo⟩:=hlv _ hra
  refine gN ?_
  refine ⟨_,rfl,x,C,dx,_,.ref lv,rfl,S _ _ hx6,M.cls,M.a5,lk5,_,rfl,lv,.ref a,rfl,.inl ⟨_,.inr r',.inl (S _ _ flv),rfl,(bx dB ndl hra).symm⟩,a,us,aJ ds r',rfl,S _ _ hus,hdo.kt (Same.kt S),Nat.le_trans (nC _ _) (by omega),m.sg0,fun H'' S''=>⟨_,rfl,?_⟩⟩
  have hlen:(((rooms.take i).filter (fU ds)).map V.str).length<sizeLine:=by
   rw [List.length_map]
   refine aA (Nat.le_trans (List.length_filter_le _ _) ?_)
   rw [List.length_take]; omega
  refine pI (fun hq=>?_) (fun hq=>?_)
  ·refine ⟨_,rfl,S'' _ _ f',hlen,nxt hi ⟨?_,?_,aa⟩⟩
   ·rw [ic hr,if_pos (show fU ds r'=true from hq),List.map_append]; rfl
   ·intro b o q
    rw [aj (ah q hf)]
    exact S'' _ _ (S _ _ q)
  ·refine nxt hi ⟨?_,S.trans S'',?_⟩
   ·rw [ic hr,if_neg (show ¬fU ds r'=true from hq),List.append_nil]
   ·exact S'' _ _ f'
 rintro vs H7' ⟨rfl,S7,f7⟩
 rw [List.length_map,List.take_length] at f7
 refine il (ws:=rooms.filter (fU ds)) (SqL.of f7) (Nat.le_trans (List.length_filter_le _ _) (by omega)) fun qu hqu=>⟨_,rfl,x,C,dx,_,rfl,kp (S7 _ _ hx6) hqu,M.cls,M.a6,by omega,?_⟩
 obtain ⟨H7,e7,hx7,F7⟩:=sJ "quiet" (.ref qu) (kp (x:=.dK (aD (rooms.filter (fU ds)))) (S7 _ _ hx6) hqu)
 rw [<-e7]
 have n7:qu≠x:=(ah (S7 _ _ hx6) hqu).symm
 have fqu:=F7 _ _ aa n7
 have E7:ExB x H6 H7:=((Same.exB S7).trans (ExB.new hqu)).trans F7
 have L7:=L6.exI hx6 E7
 have len7:=cw ("quiet":Str) (.ref qu) (cv ("leaving":Str) (.ref lv) fs4)
 clear e7 F7
 refine ⟨_,rfl,l4,ts,ds,rfl,L7.a4,L7.ds,by omega,fun sg gps H8' G' S8=>⟨_,rfl,x,C,dx,_,rfl,S8 _ _ hx7,M.cls,M.a7,by omega,?_⟩⟩
 obtain ⟨H8,e8,hx8,F8⟩:=sJ "sign_goals" (.ref sg) (S8 _ _ hx7)
 rw [<-e8]
 have E8:ExB x H7 H8:=(Same.exB S8).trans F8
 have L8:=L7.exI hx7 E8
 have G8:GoalsAt H8 sg gps ds:=⟨G'.nd,F8 _ _ G'.g (uY (S8 _ _ hx7) G'.g),fun y hy=>F8 _ _ (G'.ls y hy) (ExB.neI (S8 _ _ hx7) (G'.ls y hy)),G'.all⟩
 have len8:=cw ("sign_goals":Str) (.ref sg) (cv ("quiet":Str) (.ref qu) (cv ("leaving":Str) (.ref lv) fs4))
 have lk7:lk "sign_goals" (cv ("sign_goals":Str) (.ref sg) (cv ("quiet":Str) (.ref qu) (cv ("leaving":Str) (.ref lv) fs4)))=some (.ref sg):=by
  show List.lookup _ _=_
  rw [bh,if_pos rfl]
 clear e8 F8 G'
 refine ⟨_,rfl,l3,rfl,⟨_,SqL.of L8.a3⟩,fun f2' hf2=>?_⟩
 refine cM (xs:=rooms.map V.str) (fun i vs H'=>∃(us:List Addr) (pl:List (Str×Addr)),vs=us.map V.ref/\Paired (fun t (p:Str×Addr)=>H' t=some (.tup [.str p.1,.ref p.2])) us pl/\pl.map (·.1)=rooms.take i/\(∀p∈pl,∃L,H' p.2=some (.dK (aD L))/\L.Nodup/\∀w,w∈L↔Reach ds p.1 w)/\Same H8 H'/\H' f2'=some (.lst vs))
  ⟨[],[],rfl,.nil,rfl,by simp,Same.new hf2,aa⟩ (fun i vs H' _ ⟨_,_,_,_,_,_,S,h'⟩=>⟨h',SqL.of (S _ _ L8.a3)⟩) ?_ ?_
 rotate_left
 ·rintro i vs H' x' hx' hi ⟨us,pl,rfl,hpa,hpl,hle,S,f'⟩
  obtain ⟨r,hr,rfl⟩:=aS hx'
  have hilen:us.length<=150:=by
   rw [Paired.length hpa,<-List.length_map (f:=(·.1)) (as:=pl),hpl,List.length_take]; omega
  refine gN (um ?_)
  refine ⟨_,rfl,_,rfl,x,C,dx,_,.ref sg,rfl,S _ _ hx8,M.cls,M.a7,lk7,_,rfl,sg,r,gps,ds,rooms,rfl,G8.same S,fun d hd=>(m.good d hd).b,by omega,fun ld Lr H'' hld nd hLr hfr S''=>⟨(by show 2<=sizeLine; decide),fun t ht=>⟨?_,?_,nxt hi ⟨us++[t],pl++[(r,ld)],?_,?_,?_,?_,?_,aa⟩⟩⟩⟩
  ·exact kp (S'' _ _ f') ht
  ·rw [List.length_map]; exact aA (by omega)
  ·rw [List.map_append]; rfl
  ·have KT:KT0 (upd H'' t (.tup [.str r,.ref ld])) (upd (upd H'' t (.tup [.str r,.ref ld])) f2' (.lst (us.map V.ref++[.ref t]))):=mr (kp (S'' _ _ f') ht)
   exact Paired.app (Paired.mapP hpa fun t' p' e=>KT _ _ (kp (S'' _ _ e) ht)) (.cons (KT _ _ aa) .nil)
  ·rw [List.map_append,hpl,aq hr]; rfl
  ·have ned:∀{b:Addr}{kvs:List (Key×V)},upd H'' t (.tup [.str r,.ref ld]) b=some (.dK kvs)->b≠f2':=fun hb z=>by rw [z,kp (S'' _ _ f') ht] at hb; cases hb
   intro p hp
   rcases List.mem_append.mp hp with hp | hp
   ·obtain ⟨L0,g1,g2⟩:=hle p hp
    refine ⟨L0,?_,g2⟩
    have:=kp (x:=.tup [.str r,.ref ld]) (S'' _ _ g1) ht
    rw [aj (ned this)]; exact this
   ·have:p=(r,ld):=by simpa using hp
    subst this
    refine ⟨Lr,?_,nd,hLr⟩
    have:=kp (x:=.tup [.str r,.ref ld]) hld ht
    rw [aj (ned this)]; exact this
  ·intro b o q
   rw [aj (ah q hf2)]
   exact kp (S'' _ _ (S _ _ q)) ht
 rintro vs H9' ⟨us,sps,rfl,hpa,hsps,hled,S9,f9⟩
 rw [List.length_map,List.take_length] at hsps
 have nds:(sps.map (·.1)).Nodup:=by rw [hsps]; exact m.okR.1
 refine ⟨f2',us,cO Sum.inr sps,rfl,SqL.of f9,?_,?_,fun sl hsl=>⟨_,rfl,x,C,dx,_,rfl,kp (S9 _ _ hx8) hsl,M.cls,M.a8,by omega,?_⟩⟩
 ·rw [Paired.length hpa]; unfold cO; rw [List.length_map]
 ·intro j t kv hj hkv
  obtain ⟨p,hp,e⟩:=Paired.getL hpa hj
  unfold cO at hkv
  rw [List.getElem?_map,hp] at hkv
  have:=Option.some.inj hkv
  rw [<-this]
  exact e
 have emerge:dX [] (cO Sum.inr sps)=cO Sum.inr sps:=iY sps [] nds
 rw [emerge]
 obtain ⟨H9,e9,hx9,F9⟩:=sJ "still_led" (.ref sl) (kp (x:=.dK (cO Sum.inr sps)) (S9 _ _ hx8) hsl)
 rw [<-e9]
 have n9:sl≠x:=(ah (S9 _ _ hx8) hsl).symm
 have fsl:=F9 _ _ aa n9
 have E9:ExB x H8 H9:=((Same.exB S9).trans (ExB.new hsl)).trans F9
 have L9:=L8.exI hx8 E9
 have hled9:∀p∈sps,∃L,H9 p.2=some (.dK (aD L))/\L.Nodup/\∀w,w∈L↔Reach ds p.1 w:=fun p hp=>by
  obtain ⟨L0,g1,g2⟩:=hled p hp
  have g3:=kp (x:=.dK (cO Sum.inr sps)) g1 hsl
  exact ⟨L0,F9 _ _ g3 (t6 (kp (S9 _ _ hx8) hsl) g3),g2⟩
 clear e9 F9
 have lk8:lk "still_led" (cv ("still_led":Str) (.ref sl) (cv ("sign_goals":Str) (.ref sg) (cv ("quiet":Str) (.ref qu) (cv ("leaving":Str) (.ref lv) fs4))))=some (.ref sl):=by
  show List.lookup _ _=_
  rw [bh,if_pos rfl]
 refine ⟨_,rfl,_,rfl,x,C,dx,_,.ref sl,rfl,hx9,M.cls,M.a8,lk8,l3,sl,rooms,sps,rfl,L9.a3,fsl,hsps,m.okR.1,fun p hp=>?_,fun H10 S10=>⟨_,rfl,k H10 ?_ ?_⟩⟩
 ·obtain ⟨L0,g1,g2,g3⟩:=hled9 p hp
  exact ⟨L0,g1,fun z=>m.noround _ ((g3 _).mp z)⟩
 ·have X69:ExB x H6 H9:=(E7.trans E8).trans E9
  have X59:=((E6.trans E7).trans E8).trans E9
  have Y:∀{b:Addr}{o:HO},H9 b=some o->H10 b=some o:=fun h=>S10 _ _ h
  have LL:Lists H5 o1 o2 o3 o4 ts asks says rooms ds:=⟨(E3.trans (E4.trans E5)) _ _ f1 n1,(E4.trans E5) _ _ f2 n2,E5 _ _ f3 n3,f4,L5.ds⟩
  refine ⟨⟨dx,_,o1,o2,o3,o4,lv,qu,sg,sl,ts,lps,gps,sps,Y hx9,?_,?_,?_,?_,?_,?_,?_,?_,?_,?_,?_,lk8,(LL.exI hx5 X59).same S10,hlps,?_,?_,?_,?_,hsps,Y fsl,fun p hp=>?_⟩,m,⟨dx,_,Y hx9,?_,?_,?_,?_⟩⟩
  rotate_right 9
  ·exact Y (X69 _ _ flv (t6 hx6 flv))
  ·intro y hy
   obtain ⟨us',g1,g2⟩:=hlv y hy
   exact ⟨us',Y (X69 _ _ g1 (ExB.neI hx6 g1)),(g2.kt (X69.ktI hx6)).kt (Same.kt S10)⟩
  ·exact Y ((E8.trans E9) _ _ fqu n7)
  ·exact GoalsAt.same ⟨G8.nd,E9 _ _ G8.g (uY hx8 G8.g),fun y hy=>E9 _ _ (G8.ls y hy) (ExB.neI hx8 (G8.ls y hy)),G8.all⟩ S10
  ·obtain ⟨L0,g1,g2⟩:=hled9 p hp
   exact ⟨L0,Y g1,g2⟩
  all_goals (show List.lookup _ _=_; subst hfs4; repeat (rw [bh]; first | rw [if_pos rfl] | rw [if_neg (by decide +kernel)]))
  all_goals rfl
 ·exact ((((((((E1.trans E2).trans E3).trans E4).trans E5).trans E6).trans E7).trans E8).trans E9).trans (Same.exB S10)
theorem rP {K:PySem.W.Frag}{a b:Addr}{xs ys:List V}{g:TG}{tb:TS}{D:eE}{σ:L2.St}{H:Hp}(hxy:xs.length=ys.length) (Pv:Nat->L2.St->Hp->Prop) (h0:Pv 0 σ H) (hl:∀i σ H,i<=xs.length->Pv i σ H->SqT K H a xs/\SqT K H b ys)
  (hs:∀i x y σ H p,xs[i]?=some x->ys[i]?=some y->Pv i σ H->H p=none->g (.ref p) σ (upd H p (.tup [x,y])) fun σ2 H2=>tb { D with nx:=Pv (i+1),ct:=Pv (i+1),bk:=D.nx } σ2 H2) (hd:∀σ H,Pv xs.length σ H->D.nx σ H) :
  ∃W:Nat->Nat->L2.St->Hp->Prop,(∃m,W 0 m σ H)/\∀i m σ H,W i m σ H ->
   ((vm K a b).stop i H/\D.nx σ H)∨((vm K a b).go i H/\∃N:L2.St->Hp->Prop,(∀σ' H',N σ' H'->∃m',m'<m/\W (i+1) m' σ' H')/\∀x H',(vm K a b).yld i H x H'->g x σ H' fun σ2 H2=>tb { D with nx:=N,ct:=N,bk:=D.nx } σ2 H2):=by
 refine ⟨fun i m σ H=>m=xs.length-i/\i<=xs.length/\Pv i σ H,⟨xs.length,by simp,Nat.zero_le _,h0⟩,?_⟩
 rintro i m σ H ⟨rfl,hi,p⟩
 obtain ⟨q1,q2⟩:=hl i σ H hi p
 by_cases hlt:i<xs.length
 ·have hlt2:i<ys.length:=by omega
  refine .inr ⟨⟨xs,ys,xs[i],ys[i],q1,q2,by simp [hlt],by simp [hlt2]⟩,Pv (i+1),fun σ' H' p'=>⟨xs.length-(i+1),by omega,rfl,hlt,p'⟩,fun x H' y=>?_⟩
  obtain ⟨t,u,v,rfl,hn,hu,hv,rfl⟩:=y
  exact hs i u v σ H t (hu xs q1) (hv ys q2) p hn
 ·have e:i=xs.length:=by omega
  subst e
  exact .inl ⟨⟨xs,ys,q1,q2,.inl (Nat.le_refl _)⟩,hd σ H p⟩
theorem uc (a b:Str):decide (sDT a=sDT b)=decide (a=b):=by
 by_cases e:a=b
 ·rw [decide_eq_true e,decide_eq_true (by rw [e])]
 ·rw [decide_eq_false e,decide_eq_false (fun z=>e (gS z))]
theorem MachAt.by {C:Addr}{H H':Hp}{x:Addr}{asks says rooms:List Str}{ds:List au}(h:MachAt C H x asks says rooms ds)
  (hs:∀b ws,H b=some (.lst (List.map V.str ws))->H' b=some (.lst (List.map V.str ws))) (hr:∀b ts,H b=some (.lst (List.map V.ref ts))->H' b=some (.lst (List.map V.ref ts))) (ht:KT0 H H')
  (hd:∀b kvs,H b=some (.dK kvs)->H' b=some (.dK kvs)) (hT:∀b kvs,H b=some (.dT kvs)->H' b=some (.dT kvs)) (hi:∀b C dx fs,H b=some (.ins C dx fs)->H' b=some (.ins C dx fs)):MachAt C H' x asks says rooms ds:=by
 obtain ⟨dx,fs,o1,o2,o3,o4,lv,qu,sg,sl,ts,lps,gps,sps,g1,a1,a2,a3,a4,b1,b2,b3,b4,b5,b6,b7,b8,L,c1,c2,c3,c4,G,d1,d2,d3⟩:=h.at_
 refine ⟨⟨dx,fs,o1,o2,o3,o4,lv,qu,sg,sl,ts,lps,gps,sps,hi _ _ _ _ g1,a1,a2,a3,a4,b1,b2,b3,b4,b5,b6,b7,b8,⟨hs _ _ L.a1,hs _ _ L.a2,hs _ _ L.a3,hr _ _ L.a4,L.ds.kt ht⟩,c1,hd _ _ c2,fun y hy=>?_,hd _ _ c4,⟨G.nd,hT _ _ G.g,fun y hy=>hs _ _ (G.ls y hy),G.all⟩,d1,hd _ _ d2,fun y hy=>?_⟩,h.ok,by obtain ⟨dx,fs,g,r⟩:=h.more; exact ⟨dx,fs,hi _ _ _ _ g,r⟩⟩
 ·obtain ⟨us,e1,e2⟩:=c3 y hy
  exact ⟨us,hr _ _ e1,e2.kt ht⟩
 ·obtain ⟨L0,e1,e2⟩:=d3 y hy
  exact ⟨L0,hd _ _ e1,e2⟩
theorem MachAt.same {C:Addr}{H H':Hp}{x:Addr}{asks says rooms:List Str}{ds:List au}(h:MachAt C H x asks says rooms ds) (S:Same H H'):MachAt C H' x asks says rooms ds :=
 h.by (fun _ _ e=>S _ _ e) (fun _ _ e=>S _ _ e) (Same.kt S) (fun _ _ e=>S _ _ e) (fun _ _ e=>S _ _ e) (fun _ _ _ _ e=>S _ _ e)
def fA (C:Addr):Sp:=fun vs H Q _=>∃(t l1 l2 l3 l4:Addr) (ts:List Addr) (asks says rooms:List Str) (ds:List au),vs=[.ref t]/\Told H t l1 l2 l3 l4 ts asks says rooms ds/\ModelOk asks says rooms ds /\
 ∀(x:Addr) (H':Hp),MachAt C H' x asks says rooms ds->Same H H'->Q (.ref x) H'
theorem nh {K:PySem.W.Frag}{C:Addr}{vs:List V}{H:Hp}{Q:VK}{E:XK}(h:fA C vs H Q E):jf K C (lh C) { nx:=fun _ H'=>Q .non H',rt:=Q } (start jT vs) H:=by
 obtain ⟨t,l1,l2,l3,l4,ts,asks,says,rooms,ds,rfl,T,m,k⟩:=h
 refine ⟨_,rfl,.inr (.inl ⟨t,_,0,_,rfl,rfl,SqT.of T.t,rfl,.inl ⟨l1,_,rfl,.inl (SqL.of T.a1),fun m1 h1=>?_⟩⟩)⟩
 have T1:=T.same (Same.new (o:=.lst (asks.map V.str)) h1)
 refine ⟨_,rfl,.inr (.inl ⟨t,_,1,_,rfl,rfl,SqT.of T1.t,rfl,.inl ⟨l2,_,rfl,.inl (SqL.of T1.a2),fun m2 h2=>?_⟩⟩)⟩
 have T2:=T1.same (Same.new (o:=.lst (says.map V.str)) h2)
 refine ⟨_,rfl,.inr (.inl ⟨t,_,2,_,rfl,rfl,SqT.of T2.t,rfl,.inl ⟨l3,_,rfl,.inl (SqL.of T2.a3),fun m3 h3=>?_⟩⟩)⟩
 have T3:=T2.same (Same.new (o:=.lst (rooms.map V.str)) h3)
 refine ⟨_,rfl,.inr (.inl ⟨t,_,3,_,rfl,rfl,SqT.of T3.t,rfl,.inl ⟨l4,_,rfl,.inl (SqL.of T3.a4),fun m4 h4=>?_⟩⟩)⟩
 have T4:=T3.same (Same.new (o:=.lst (ts.map V.ref)) h4)
 have S4:=(((Same.new (o:=.lst (asks.map V.str)) h1).trans (Same.new (o:=.lst (says.map V.str)) h2)).trans (Same.new (o:=.lst (rooms.map V.str)) h3)).trans (Same.new (o:=.lst (ts.map V.ref)) h4)
 refine fun x dx hx hdx hne=>?_
 have S5:Same H (upd (upd (upd (upd (upd (upd H m1 (.lst (asks.map V.str))) m2 (.lst (says.map V.str))) m3 (.lst (rooms.map V.str))) m4 (.lst (ts.map V.ref))) dx (.own x)) x (.ins C dx [])) :=
  (S4.trans (Same.new hdx)).trans (Same.new (by rw [aj hne.symm]; exact hx))
 have hxx:upd (upd (upd (upd (upd H m1 (.lst (asks.map V.str))) m2 (.lst (says.map V.str))) m3 (.lst (rooms.map V.str))) m4 (.lst (ts.map V.ref))) dx (.own x) x=none:=by rw [aj hne.symm]; exact hx
 refine ⟨x,dx,m1,m2,m3,m4,ts,asks,says,rooms,ds,rfl,aa,⟨?_,?_,?_,?_,T.ds.kt (Same.kt S5)⟩,m,fun H' M ex=>⟨rfl,k x H' M fun b o q=>?_⟩⟩
 ·exact kp (kp (kp (kp (kp aa h2) h3) h4) hdx) hxx
 ·exact kp (kp (kp (kp aa h3) h4) hdx) hxx
 ·exact kp (kp (kp aa h4) hdx) hxx
 ·exact kp (kp aa hdx) hxx
 ·have hq:=S5 _ _ q
  exact ex _ _ hq (ah (S4.trans (Same.new hdx) _ _ q) hxx)
theorem mem_sDT {w:Str}{ws:List Str}:sDT w∈ws.map sDT↔w∈ws:=by
 constructor
 ·intro h
  obtain ⟨x,hx,e⟩:=List.mem_map.mp h
  rw [<-gS e]; exact hx
 ·exact List.mem_map_of_mem
def gG (K:PySem.W.Frag) :TS :=
 bj (tCB (bu K) (ac (qO K (af 0) "own_rooms") ao))
def ir:List Str:=["self"]
def eM (K:PySem.W.Frag) :TS :=
 bj (tCB (bu K) (ac (l_ K (qO K (af 0) "still_led") (af 1) (d4 (ao))) ao))
def fe:List Str:=["self","room"]
def gH (K:PySem.W.Frag) :TS :=
 bj (tCB (bu K) (ac (l_ K (qO K (af 0) "sign_goals") (d4 (ac (af 1) (ac (af 2) ao))) (d4 (ao))) ao))
def iu:List Str:=["self","room","sign"]
def iF (K:PySem.W.Frag) :TS :=
 aB (ba (tCB (bu K) (ac (af 1) ao)) (am 2))
 (aB (ba (tC (.int 0)) (am 3))
 (aB (oC (aI (tOp vF (af 3) (tCB (fS K) (ac (af 2) ao)))) (aB (ft (cc K (af 0)) (lG K 3 (bc (am 4) (bc (am 5) (bc (am 6) (lH))))) (c8 (qR (aI (tOp (oW K) (af 4) (tOp (rIx K) (af 2) (af 3)))) (qR (aI (tOp (oW K) (af 5) (d4 (ac (tC (.str "still")) ao)))) (aI (tOp (sA K true) (af 6) (af 2))))) (cQ (tBM K "list" ej (af 2) (ac (af 6) ao))) (aR)))
 (ba (tOp cF (af 3) (tC (.int 1))) (am 3))))
 (bj (af 2))))
def iP:List Str:=["doors","rooms","found","at","room","sign","other"]
def jq (C:Addr):Sp:=fun vs H Q _=>∃(x:Addr) (asks says rooms:List Str) (ds:List au),vs=[.ref x]/\MachAt C H x asks says rooms ds/\∀l,H l=none->Q (.ref l) (upd H l (.lst (rooms.map V.str)))
theorem qZ {K:PySem.W.Frag}{C:Addr}(M:MC K C) {vs:List V}{H:Hp}{Q:VK}{E:XK}(h:jq C vs H Q E):gG K { nx:=fun _ H'=>Q .non H',rt:=Q } (start ir vs) H:=by
 obtain ⟨x,asks,says,rooms,ds,rfl,h,k⟩:=h
 obtain ⟨dx,fs,o1,o2,o3,o4,lv,qu,sg,sl,ts,lps,gps,sps,g1,a1,a2,a3,a4,b1,b2,b3,b4,b5,b6,b7,b8,L,_⟩:=h.at_
 exact ⟨_,rfl,x,C,dx,fs,.ref o3,rfl,g1,M.cls,M.a3,b3,.inl ⟨o3,_,rfl,.inl (SqL.of L.a3),k⟩⟩
theorem lE:∀{L:List Str},L.Nodup->(aD L).map (fun kv=>kV kv.1)=L.map V.str:=by
 intro L
 refine eJ (fun L=>L.Nodup->(aD L).map (fun kv=>kV kv.1)=L.map V.str) (fun _=>rfl) (fun ws w ih nd=>?_) L
 rw [List.nodup_append] at nd
 have hn:cP (aD ws) (.inr w)=none:=by
  rw [i6,if_neg (fun z=>nd.2.2 w z w (by simp) rfl)]
 show (aD (ws++[w])).map _=_
 rw [bz,jE _ hn,List.map_append,ih nd.1,List.map_append]
 rfl
def ef (C:Addr):Sp:=fun vs H Q _=>∃(x:Addr) (r:Str) (asks says rooms:List Str) (ds:List au),vs=[.ref x,.str r]/\MachAt C H x asks says rooms ds/\r∈rooms /\
 ∀(l:Addr) (L:List Str) (H':Hp),H' l=some (.lst (L.map V.str))->L.Nodup->(∀w,w∈L↔Reach ds r w)->H l=none->Same H H'->Q (.ref l) H'
theorem lq {K:PySem.W.Frag}{C:Addr}(M:MC K C) {vs:List V}{H:Hp}{Q:VK}{E:XK}(h:ef C vs H Q E):eM K { nx:=fun _ H'=>Q .non H',rt:=Q } (start fe vs) H:=by
 obtain ⟨x,r,asks,says,rooms,ds,rfl,h,hr,k⟩:=h
 obtain ⟨dx,fs,o1,o2,o3,o4,lv,qu,sg,sl,ts,lps,gps,sps,g1,a1,a2,a3,a4,b1,b2,b3,b4,b5,b6,b7,b8,L,c1,c2,c3,c4,G,d1,d2,d3⟩:=h.at_
 have nod:=h.ok.okR.1
 obtain ⟨⟨r',a⟩,hra,er⟩:=List.mem_map.mp (show r∈sps.map (·.1) by rw [d1]; exact hr)
 obtain rfl:r'=r:=er
 obtain ⟨L0,e1,e2,e3⟩:=d3 _ hra
 refine ⟨_,rfl,x,C,dx,fs,.ref sl,rfl,g1,M.cls,M.a8,b8,sl,rfl,.inl ⟨_,.inl d2⟩,_,rfl,(by show 0<=sizeLine; decide),fun et het=>⟨_,.inl ⟨_,.inr r',.inl (kp d2 het),rfl,rfl⟩,?_⟩⟩
 rw [bx dB (by rw [d1]; exact nod) hra]
 refine .inr ⟨a,_,rfl,.inl (kp e1 het),fun l hl=>k l L0 _ ?_ e2 e3 ((Same.new het).free hl) ((Same.new het).trans (Same.new hl))⟩
 rw [aa,lE e2]
def gR (C:Addr):Sp:=fun vs H Q _=>∃(x s:Addr) (r:Str) (sg asks says rooms:List Str) (ds:List au),vs=[.ref x,.str r,.ref s]/\MachAt C H x asks says rooms ds/\H s=some (.tup (sg.map V.str)) /\
 ∀(l:Addr) (H':Hp),H' l=some (.lst ((aF ds (r,sg)).map V.str))->H l=none->Same H H'->Q (.ref l) H'
theorem oR {K:PySem.W.Frag}{C:Addr}(M:MC K C) {vs:List V}{H:Hp}{Q:VK}{E:XK}(h:gR C vs H Q E):gH K { nx:=fun _ H'=>Q .non H',rt:=Q } (start iu vs) H:=by
 obtain ⟨x,s,r,sgn,asks,says,rooms,ds,rfl,h,hs,k⟩:=h
 obtain ⟨dx,fs,o1,o2,o3,o4,lv,qu,sg,sl,ts,lps,gps,sps,g1,a1,a2,a3,a4,b1,b2,b3,b4,b5,b6,b7,b8,L,c1,c2,c3,c4,G,d1,d2,d3⟩:=h.at_
 have nod:=h.ok.okR.1
 refine ⟨_,rfl,x,C,dx,fs,.ref sg,rfl,g1,M.cls,M.a7,b7,sg,rfl,.inr ⟨_,.inl G.g⟩,_,rfl,_,rfl,(by show 2<=sizeLine; decide),fun kt hkt=>⟨(by show 0<=sizeLine; decide),fun et het=>⟨cP (cO sgk gps) (sgk (r,sgn)),.inr ⟨_,sgk (r,sgn),kt,.inl (kp (kp G.g hkt) het),rfl,?_,eT _,rfl⟩,?_⟩⟩⟩
 ·refine TKAt.isIn 8 (eT _) ?_
  unfold sgk TKAt
  refine ⟨kt,_,rfl,kp aa het,?_⟩
  unfold TKAts
  refine ⟨_,_,rfl,l7 _,?_⟩
  unfold TKAts
  refine ⟨_,_,rfl,SignAt.tk (kp (kp hs hkt) het),?_⟩
  unfold TKAts
  rfl
 have S2:Same H (upd (upd H kt (.tup [.str r,.ref s])) et (.tup [])):=(Same.new hkt).trans (Same.new het)
 by_cases hmem:(r,sgn)∈gps.map (·.1)
 ·obtain ⟨⟨y,a⟩,hra,er⟩:=List.mem_map.mp hmem
  obtain rfl:y=(r,sgn):=er
  rw [bx cS G.nd hra]
  exact .inl ⟨a,_,rfl,.inl (SqL.of (S2 _ _ (G.ls _ hra))),fun l hl=>k l _ aa (S2.free hl) (S2.trans (Same.new hl))⟩
 ·rw [fH cS hmem]
  have hnil:aF ds (r,sgn)=[]:=eD fun y hy z=>hmem (by rw [<-z]; exact G.all y hy)
  refine .inl ⟨et,[],rfl,.inr (SqT.of aa),fun l hl=>k l _ ?_ (S2.free hl) (S2.trans (Same.new hl))⟩
  rw [hnil]
  exact aa
def From (ds:List au) (gs:List Str) (w:Str):Prop:=∃g∈gs,w=g∨Reach ds g w
def cR (K:PySem.W.Frag):Sp:=fun vs H Q _=>∃(l4 l:Addr) (ts:List Addr) (ds:List au) (gs rooms:List Str),vs=[.ref l4,.ref l]/\H l4=some (.lst (ts.map V.ref))/\Doors H ts ds/\H l=some (.lst (gs.map V.str))/\(∀d∈ds,d.b∈rooms)/\rooms.length<=1000/\gs.length<=1000 /\
 ∀(f:Addr) (F:List Str) (H':Hp),H' f=some (.lst (F.map V.str))->(∀w,w∈F↔From ds gs w)->F.length<=2000->H f=none->Same H H'->Q (.ref f) H'
structure SO (H0 H:Hp) (ds:List au) (gs:List Str) (f:Addr) (X:List Str):Prop where
 f:H f=some (.lst ((gs++X).map V.str))
 same:Same H0 H
 nd:X.Nodup
 new:∀y∈X,y∉gs
 sound:∀y∈X,From ds gs y
theorem From.step {ds:List au}{gs:List Str}{a b:Str}(h:From ds gs a) (e:(⟨a,stillSg,b⟩:au)∈ds):From ds gs b:=by
 obtain ⟨g,hg,rfl | h⟩:=h
 ·exact ⟨_,hg,.inr (.one e)⟩
 ·exact ⟨g,hg,.inr (.step h e)⟩
theorem p4 (a b:List Str):decide (gDT a=gDT b)=decide (a=b):=by
 by_cases e:a=b
 ·rw [decide_eq_true e,decide_eq_true (by rw [e])]
 ·rw [decide_eq_false e,decide_eq_false (fun z=>e (pU z))]
theorem ln {K:PySem.W.Frag}{vs:List V}{H:Hp}{Q:VK}{E:XK}(h:cR K vs H Q E):iF K { nx:=fun _ H'=>Q .non H',rt:=Q } (start iP vs) H:=by
 obtain ⟨l4,l,ts,ds,gs,rooms,rfl,h4,hds,hl,hin,hz,hz2,k⟩:=h
 refine ⟨_,rfl,.inl ⟨l,_,rfl,.inl (SqL.of hl),fun f hf=>?_⟩⟩
 have lenX:∀{X:List Str},X.Nodup->(∀y∈X,y∉gs)->(∀y∈X,From ds gs y)->X.length<=rooms.length:=fun nd nw sd=>gC nd fun y hy=>by
  obtain ⟨g,hg,e | h⟩:=sd y hy
  ·exact absurd (by rw [e]; exact hg) (nw y hy)
  ·exact h.in_ hin
 refine ⟨fun m σ H'=>∃(X:List Str) (at_:Nat) (x y z:Option V),σ=[some (.ref l4),some (.ref l),some (.ref f),some (.int at_),x,y,z]/\SO H H' ds gs f X/\at_<=(gs++X).length/\(∀i y,i<at_->(gs++X)[i]?=some y->∀c,(⟨y,stillSg,c⟩:au)∈ds->c∈gs++X)/\m=gs.length+rooms.length-at_,
  ⟨_,[],0,_,_,_,rfl,⟨by rw [List.append_nil]; exact aa,Same.new hf,List.nodup_nil,by simp,by simp⟩,Nat.zero_le _,fun i y h=>by omega,rfl⟩,?_⟩
 rintro m σ H1 ⟨X,at_,x4,x5,x6,rfl,D,hat,hcl,rfl⟩
 have hXl:=lenX D.nd D.new D.sound
 refine ⟨_,rfl,_,rfl,.inl ⟨f,_,rfl,.inl (SqL.of D.f),_,_,rfl,rfl,_,rfl,?_⟩⟩
 refine pI (fun hlt=>?_) (fun hlt=>?_)
 ·have hlt':at_<(gs++X).length:=by
   have:=of_decide_eq_true hlt
   rw [List.length_map] at this
   omega
  have hat0:at_<gs.length+rooms.length:=by rw [List.length_append] at hlt'; omega
  generalize hhere:(gs++X)[at_]=here
  have hget:(gs++X)[at_]?=some here:=by rw [<-hhere]; exact List.getElem?_eq_getElem hlt'
  have hfrom:∀{Y:List Str}{y:Str},(∀y∈Y,From ds gs y)->y∈gs++Y->From ds gs y:=fun sd hy=>by
   rcases List.mem_append.mp hy with hy | hy
   ·exact ⟨_,hy,.inl rfl⟩
   ·exact sd _ hy
  refine ⟨fun σ' H'=>∃(X':List Str) (x y z:Option V),σ'=[some (.ref l4),some (.ref l),some (.ref f),some (.int ((at_+1:Nat):Int)),x,y,z]/\SO H H' ds gs f X'/\at_+1<=(gs++X').length/\(∀i y,i<at_+1->(gs++X')[i]?=some y->∀c,(⟨y,stillSg,c⟩:au)∈ds->c∈gs++X'),
   fun σ' H' ⟨X',x,y,z,e,D',h1,h2⟩=>⟨_,(by omega:gs.length+rooms.length-(at_+1)<gs.length+rooms.length-at_),X',at_+1,x,y,z,e,D',h1,h2,rfl⟩,?_⟩
  refine ⟨_,rfl,l4,rfl,⟨_,SqL.of (D.same _ _ h4)⟩,?_⟩
  refine aV (xs:=ts.map V.ref) (fun j σ H'=>∃(X' Y:List Str) (x y z:Option V),σ=[some (.ref l4),some (.ref l),some (.ref f),some (.int at_),x,y,z]/\X'=X++Y/\SO H H' ds gs f X'/\∀d∈ds.take j,d.a=here->d.sg=stillSg->d.b∈gs++X')
   ⟨X,[],_,_,_,rfl,by simp,D,by simp⟩ (fun j σ H' _ ⟨_,_,_,_,_,_,_,D',_⟩=>SqL.of (D'.same _ _ h4)) ?_ ?_
  ·rintro j y σ H2 hj ⟨X',Y,x4',x5',x6',rfl,rfl,D2,hdone⟩
   obtain ⟨t,ht,rfl⟩:=dS hj
   obtain ⟨dr,hdr,hatd⟩:=Paired.getL hds ht
   obtain ⟨s,ht2,hs2⟩:=hatd.kt (Same.kt D2.same)
   have hmem:=List.mem_of_getElem? hdr
   have hXl2:=lenX D2.nd D2.new D2.sound
   have hget2:(gs++(X++Y))[at_]?=some here:=by
    rw [<-List.append_assoc,List.getElem?_append_left hlt']; exact hget
   refine ⟨t,_,rfl,SqT.of ht2,rfl,_,_,rfl,_,_,rfl,_,_,rfl,rfl,?_⟩
   have nextI:∀(H3:Hp) (X3 Y3:List Str) (q4 q5 q6:Option V),X3=X++Y3->SO H H3 ds gs f X3->(∀y∈X++Y,y∈X3)->(dr.a=here->dr.sg=stillSg->dr.b∈gs++X3) ->
     ∃(X' Y:List Str) (x y z:Option V),[some (.ref l4),some (.ref l),some (.ref f),some (.int at_),q4,q5,q6]=[some (.ref l4),some (.ref l),some (.ref f),some (.int at_),x,y,z]/\X'=X++Y/\SO H H3 ds gs f X'/\∀d∈ds.take (j+1),d.a=here->d.sg=stillSg->d.b∈gs++X':=by
    intro H3 X3 Y3 q4 q5 q6 e D3 hsub hnew
    refine ⟨X3,Y3,q4,q5,q6,rfl,e,D3,fun d hd e1 e2=>?_⟩
    rw [aq hdr] at hd
    rcases List.mem_append.mp hd with hd | hd
    ·rcases List.mem_append.mp (hdone d hd e1 e2) with h | h
     ·exact List.mem_append_left _ h
     ·exact List.mem_append_right _ (hsub _ h)
    ·have:d=dr:=by simpa using hd
     subst this
     exact hnew e1 e2
   refine ⟨_,rfl,_,rfl,_,rfl,.inl ⟨f,_,_,_,rfl,rfl,SqL.of D2.f,dH (j:=at_) (by rw [List.getElem?_map,hget2]; rfl),sDT dr.a,sDT here,nK _,nK _,(by show 0<=8; decide),(by show 0<=8; decide),_,rfl,?_⟩⟩
   rw [uc]
   by_cases c1:dr.a=here
   rotate_left
   ·rw [decide_eq_false c1]
    exact bp (bp (nextI H2 _ _ _ _ _ rfl D2 (fun _ h=>h) fun e=>absurd e c1))
   rw [decide_eq_true c1]
   refine cb ?_
   refine ⟨_,rfl,(by show 1<=sizeLine; decide),fun st hst=>⟨gDT dr.sg,gDT stillSg,cW (SqT.of (kp hs2 hst)),cW (SqT.of aa),by rw [fM]; decide,by rw [fM]; decide,_,rfl,?_⟩⟩
   rw [p4]
   have D3:SO H (upd H2 st (.tup [.str "still"])) ds gs f (X++Y):=⟨kp D2.f hst,D2.same.trans (Same.new hst),D2.nd,D2.new,D2.sound⟩
   have hstS:H st=none:=D2.same.free hst
   generalize upd H2 st (.tup [.str "still"])=H3 at D3 ⊢
   by_cases c2:dr.sg=stillSg
   rotate_left
   ·rw [decide_eq_false c2]
    exact bp (bp (nextI H3 _ _ _ _ _ rfl D3 (fun _ h=>h) fun _ e=>absurd e c2))
   rw [decide_eq_true c2]
   refine cb ?_
   refine ⟨_,rfl,_,rfl,sDT dr.b,(gs++(X++Y)).map sDT,f,_,nK _,rfl,.inl (SqL.of D3.f),kE _,(by show 0<=8; decide),by rw [cU]; decide,_,rfl,?_⟩
   rw [if_pos rfl]
   by_cases c3:dr.b∈gs++(X++Y)
   ·rw [decide_eq_true (mem_sDT.mpr c3)]
    exact bp (nextI H3 _ _ _ _ _ rfl D3 (fun _ h=>h) fun _ _=>c3)
   rw [decide_eq_false (fun z=>c3 (mem_sDT.mp z))]
   refine cb ?_
   refine ⟨_,rfl,.inl ⟨rfl,_,SqL.of D3.f⟩,_,rfl,f,_,_,rfl,rfl,D3.f,by rw [List.length_map,List.length_append]; exact bX (by omega),?_⟩
   have hedge:(⟨here,stillSg,dr.b⟩:au)∈ds:=by
    have:dr=⟨here,stillSg,dr.b⟩:=by cases dr; simp only at c1 c2; rw [c1,c2]
    rw [<-this]; exact hmem
   refine nextI _ (X++(Y++[dr.b])) _ _ _ _ rfl ⟨?_,?_,?_,?_,?_⟩ ?_ ?_
   ·rw [aa]
    have:gs++(X++(Y++[dr.b]))=gs++(X++Y)++[dr.b]:=by simp
    rw [this,List.map_append (l₂:=[dr.b])]
    rfl
   ·intro b o q
    rw [aj (ah q hf)]; exact D3.same _ _ q
   ·rw [<-List.append_assoc,List.nodup_append]
    refine ⟨D3.nd,by simp,fun a ha b hb e=>?_⟩
    have:b=dr.b:=by simpa using hb
    exact c3 (List.mem_append_right _ (by rw [<-this,<-e]; exact ha))
   ·intro y hy
    rw [<-List.append_assoc] at hy
    rcases List.mem_append.mp hy with hy | hy
    ·exact D3.new y hy
    ·have:y=dr.b:=by simpa using hy
     rw [this]
     exact fun z=>c3 (List.mem_append_left _ z)
   ·intro y hy
    rw [<-List.append_assoc] at hy
    rcases List.mem_append.mp hy with hy | hy
    ·exact D3.sound y hy
    ·have:y=dr.b:=by simpa using hy
     rw [this]
     exact (hfrom D.sound (List.mem_of_getElem? hget)).step hedge
   ·intro y hy
    rw [<-List.append_assoc]
    exact List.mem_append_left _ hy
   ·intro _ _
    exact List.mem_append_right _ (by simp)
  ·rintro σ H2 ⟨X',Y,x4',x5',x6',rfl,rfl,D2,hdone⟩
   rw [List.length_map,Paired.length hds,List.take_length] at hdone
   refine ⟨_,rfl,_,_,rfl,rfl,X++Y,_,_,_,rfl,D2,?_,fun i y hi hy c hc=>?_⟩
   ·rw [<-List.append_assoc,List.length_append]; omega
   ·by_cases e:i=at_
    ·subst e
     rw [<-List.append_assoc,List.getElem?_append_left hlt',hget] at hy
     have:=Option.some.inj hy
     subst this
     exact hdone _ hc rfl rfl
    ·have hi':i<at_:=by omega
     rw [<-List.append_assoc,List.getElem?_append_left (by omega)] at hy
     have:=hcl i y hi' hy c hc
     rw [<-List.append_assoc]
     exact List.mem_append_left _ this
 ·have hend:at_=(gs++X).length:=by
   have:¬(at_<(gs++X).length):=fun z=>hlt (decide_eq_true (by rw [List.length_map]; omega))
   omega
  refine ⟨_,rfl,k f (gs++X) H1 D.f (fun w=>⟨fun hw=>?_,fun hw=>?_⟩) (by rw [List.length_append]; omega) hf D.same⟩
  ·rcases List.mem_append.mp hw with hw | hw
   ·exact ⟨_,hw,.inl rfl⟩
   ·exact D.sound _ hw
  ·have closed:∀y∈gs++X,∀c,(⟨y,stillSg,c⟩:au)∈ds->c∈gs++X:=fun y hy c hc=>by
    obtain ⟨n,hn⟩:=List.getElem?_of_mem hy
    exact hcl n y (by rw [hend]; exact (List.getElem?_eq_some_iff.mp hn).1) hn c hc
   obtain ⟨g,hg,rfl | h⟩:=hw
   ·exact List.mem_append_left _ hg
   ·induction h with
    | one e=>exact closed _ (List.mem_append_left _ hg) _ e
    | step r e ih=>exact closed _ ih _ e

theorem mf (ds:List au) (d:au):(mh ds d).length<=ds.length+1:=by
 unfold mh
 split
 ·omega
 ·rw [List.length_append]; exact Nat.le_refl _
structure TI (H0:Hp) (p c l:Addr) (asks says rooms:List Str) (m:Nat) (H:Hp):Prop where
 pen:Pen H p c
 ds:∃ts ds,H l=some (.lst (ts.map V.ref))/\Doors H ts ds/\ModelOk asks says rooms ds/\ds.length<=m
 ex:ExB p H0 H
 fr:H0 l=none
 pl:p≠l
 cl:c≠l
section
variable {H0 H H':Hp}{p c l:Addr}{asks says rooms:List Str}{m:Nat}
end

def vk (sg face Fd:List Str) (bsg:List Str) (o:Str):Prop:=(bsg=sg/\o∈face)∨(bsg=stillSg/\o∈Fd)
instance {sg face Fd bsg:List Str}{o:Str}:Decidable (vk sg face Fd bsg o):=by unfold vk; exact inferInstance
theorem dC {ds:List au}{i:Nat}{d:au}{p:au->Bool}(h:ds[i]?=some d):(ds.take (i+1)).filter p=(ds.take i).filter p++(if p d=true then [d] else []):=by
 rw [aq h,List.filter_append]
 congr 1
 by_cases c:p d=true
 ·rw [if_pos c]; simp [c]
 ·rw [if_neg c]; simp [c]


theorem rQ {K:PySem.W.Frag}{a b:Addr}{xs ys:List V}{g:TG}{tb:TS}{D:eE}{σ:L2.St}{H:Hp}(hxy:xs.length=ys.length) (Pv:Nat->L2.St->Hp->Prop) (h0:Pv 0 σ H) (hl:∀i σ H,i<=xs.length->Pv i σ H->SqL K H a xs/\SqL K H b ys)
  (hs:∀i x y σ H p,xs[i]?=some x->ys[i]?=some y->Pv i σ H->H p=none->g (.ref p) σ (upd H p (.tup [x,y])) fun σ2 H2=>tb { D with nx:=Pv (i+1),ct:=Pv (i+1),bk:=D.nx } σ2 H2) (hd:∀σ H,Pv xs.length σ H->D.nx σ H) :
  ∃W:Nat->Nat->L2.St->Hp->Prop,(∃m,W 0 m σ H)/\∀i m σ H,W i m σ H ->
   ((Itz K a b).stop i H/\D.nx σ H)∨((Itz K a b).go i H/\∃N:L2.St->Hp->Prop,(∀σ' H',N σ' H'->∃m',m'<m/\W (i+1) m' σ' H')/\∀x H',(Itz K a b).yld i H x H'->g x σ H' fun σ2 H2=>tb { D with nx:=N,ct:=N,bk:=D.nx } σ2 H2):=by
 refine ⟨fun i m σ H=>m=xs.length-i/\i<=xs.length/\Pv i σ H,⟨xs.length,by simp,Nat.zero_le _,h0⟩,?_⟩
 rintro i m σ H ⟨rfl,hi,p⟩
 obtain ⟨q1,q2⟩:=hl i σ H hi p
 by_cases hlt:i<xs.length
 ·have hlt2:i<ys.length:=by omega
  refine .inr ⟨⟨xs,ys,xs[i],ys[i],q1,q2,by simp [hlt],by simp [hlt2]⟩,Pv (i+1),fun σ' H' p'=>⟨xs.length-(i+1),by omega,rfl,hlt,p'⟩,fun x H' y=>?_⟩
  obtain ⟨t,u,v,rfl,hn,hu,hv,rfl⟩:=y
  exact hs i u v σ H t (hu xs q1) (hv ys q2) p hn
 ·have e:i=xs.length:=by omega
  subst e
  exact .inl ⟨⟨xs,ys,q1,q2,.inl (Nat.le_refl _)⟩,hd σ H p⟩
def PairAt (H:Hp) (u:Addr) (d:au):Prop:=H u=some (.tup [.str d.a,.str d.b])
theorem ud (o:Str) (L:List Str):decide (sDT o∈L.map sDT)=decide (o∈L):=by
 by_cases c:o∈L
 ·rw [decide_eq_true (mem_sDT.mpr c),decide_eq_true c]
 ·rw [decide_eq_false (fun z=>c (mem_sDT.mp z)),decide_eq_false c]
theorem SqT.same {K:PySem.W.Frag}{H H':Hp}{a:Addr}{xs:List V}(S:Same H H') (h:SqT K H a xs):SqT K H' a xs:=by
 rcases h with (h | ⟨o,h⟩) | h
 ·exact .inl (.inl (S _ _ h))
 ·exact .inl (.inr ⟨o,S _ _ h⟩)
 ·exact .inr h
theorem SqL.same {K:PySem.W.Frag}{H H':Hp}{a:Addr}{xs:List V}(S:Same H H') (h:SqL K H a xs):SqL K H' a xs:=by
 rcases h with (h | ⟨o,h⟩) | h
 ·exact .inl (.inl (S _ _ h))
 ·exact .inl (.inr ⟨o,S _ _ h⟩)
 ·exact .inr h
mutual
theorem DIn.same {K:PySem.W.Frag}{H H':Hp}(S:Same H H'):∀{d:DT}{v:V},DIn K H d v->DIn K H' d v
 | .k a,v,h=>by unfold DIn at h ⊢; exact h
 | .t l,v,h=>by
  unfold DIn at h ⊢
  obtain ⟨b,xs,e,q,r⟩:=h
  exact ⟨b,xs,e,SqT.same S q,DIns.same S r⟩
 | .s l,v,h=>by
  unfold DIn at h ⊢
  obtain ⟨b,xs,e,q,r⟩:=h
  exact ⟨b,xs,e,SqL.same S q,DIns.same S r⟩
theorem DIns.same {K:PySem.W.Frag}{H H':Hp}(S:Same H H'):∀{ds:List DT}{vs:List V},DIns K H ds vs->DIns K H' ds vs
 | [],vs,h=>by unfold DIns at h ⊢; exact h
 | d::ds,vs,h=>by
  unfold DIns at h ⊢
  obtain ⟨v,us,e,q,r⟩:=h
  exact ⟨v,us,e,DIn.same S q,DIns.same S r⟩
end
theorem DIns.get {K:PySem.W.Frag}{H:Hp}:∀{ds:List DT}{vs:List V}{i:Nat}{v:V},DIns K H ds vs->vs[i]?=some v->∃d,ds[i]?=some d/\DIn K H d v
 | [],vs,i,v,h,e=>by unfold DIns at h; subst h; simp at e
 | d::ds,vs,i,v,h,e=>by
  unfold DIns at h
  obtain ⟨v',us,rfl,q,r⟩:=h
  cases i with
  | zero=>simp at e; subst e; exact ⟨d,rfl,q⟩
  | succ i =>
   simp at e
   obtain ⟨d',h1,h2⟩:=DIns.get r e
   exact ⟨d',by simpa using h1,h2⟩
theorem DIns.len {K:PySem.W.Frag}{H:Hp}:∀{ds:List DT}{vs:List V},DIns K H ds vs->vs.length=ds.length
 | [],vs,h=>by unfold DIns at h; subst h; rfl
 | d::ds,vs,h=>by
  unfold DIns at h
  obtain ⟨v',us,rfl,q,r⟩:=h
  rw [List.length_cons,List.length_cons,DIns.len r]
theorem cL {n:Nat}:∀{ds:List DT}{i:Nat}{d:DT},DT.depths ds<=n->ds[i]?=some d->d.depth<=n
 | [],i,d,_,e=>by simp at e
 | x::ds,i,d,h,e=>by
  have h':max (DT.depth x) (DT.depths ds)<=n:=h
  cases i with
  | zero=>simp at e; subst e; omega
  | succ i=>simp at e; exact cL (by omega) e
theorem pX {l:List DT}{n:Nat}(h:(DT.t l).depth<=n+1):DT.depths l<=n:=by
 have:DT.depths l+1<=n+1:=h
 omega
theorem pY {l:List DT}{n:Nat}(h:(DT.s l).depth<=n+1):DT.depths l<=n:=by
 have:DT.depths l+1<=n+1:=h
 omega
theorem rU {l:List DT}{n:Nat}(h:(DT.t l).depth<=n):1<=n:=by
 have:DT.depths l+1<=n:=h
 omega
theorem rV {l:List DT}{n:Nat}(h:(DT.s l).depth<=n):1<=n:=by
 have:DT.depths l+1<=n:=h
 omega
def qS (K:PySem.W.Frag) (n:Nat):Sp:=fun vs H Q _=>∃(x y:V) (d e:DT),vs=[x,y]/\DIn K H d x/\DIn K H e y/\d.depth<=n/\e.depth<=n/\∀H',Same H H'->Q (.bl (decide (d=e))) H'
def qU:Sp:=fun vs H Q _=>∃a b:Bool,vs=[.bl a,.bl b]/\Q (.bl (decide (a=b))) H
def gQ (K:PySem.W.Frag) (n:Nat):Sp:=fun vs H Q E=>qS K n vs H Q E∨qU vs H Q E
inductive Kd (K:PySem.W.Frag) (H:Hp):DT->V->Prop
 | int (i:Int):Kd K H (.k (.inl i)) (.int i)
 | str (x:Str):Kd K H (.k (.inr x)) (.str x)
 | tup {a:Addr}{xs:List V}{l:List DT}(q:SqT K H a xs) (r:DIns K H l xs):Kd K H (.t l) (.ref a)
 | lst {a:Addr}{xs:List V}{l:List DT}(q:SqL K H a xs) (r:DIns K H l xs):Kd K H (.s l) (.ref a)
theorem DIn.kd {K:PySem.W.Frag}{H:Hp}:∀{d:DT}{v:V},DIn K H d v->Kd K H d v
 | .k (.inl i),v,h=>by unfold DIn at h; subst h; exact .int i
 | .k (.inr x),v,h=>by unfold DIn at h; subst h; exact .str x
 | .t l,v,h=>by
  unfold DIn at h
  obtain ⟨b,xs,rfl,q,r⟩:=h
  exact .tup q r
 | .s l,v,h=>by
  unfold DIn at h
  obtain ⟨b,xs,rfl,q,r⟩:=h
  exact .lst q r
theorem dF (c:Bool):(!decide (V.bl c=V.bl c))=false:=by rw [decide_eq_true rfl]; rfl
theorem gU {K:PySem.W.Frag}{sp:Sp}{H:Hp}{Q:VK}{x:V}{b:Addr}{t:Value}(ty:TyX K H (.ref b) t) (hi:PySem.W.kitOne K t (.type "int")=some false) (hs:PySem.W.kitOne K t (.type "str")=some false)
  (k:(aB (c8 (tOr (aI (tOp rNe (tCB (iK K) (ac (af 1) (ac (tC (.ty "tuple")) ao))) (tCB (iK K) (ac (af 0) (ac (tC (.ty "tuple")) ao))))) (aI (tOp rNe (tCB (iK K) (ac (af 1) (ac (tC (.ty "list")) ao))) (tCB (iK K) (ac (af 0) (ac (tC (.ty "list")) ao)))))) (bj (tC (.bl false))) (aR))
 (aB (c8 (aI (tOp rNe (tCB (fS K) (ac (af 0) ao)) (tCB (fS K) (ac (af 1) ao)))) (bj (tC (.bl false))) (aR))
 (aB (ft (pO K (ac (af 0) (ac (af 1) ao))) (lG K 2 (bc (am 2) (bc (am 3) (lH)))) (c8 (qN (tB (av sp [] E0 (ac (af 2) (ac (af 3) ao))))) (bj (tC (.bl false))) (aR)))
 (bj (tC (.bl true)))))) { nx:=fun _ H'=>Q .non H',rt:=Q } [some x,some (.ref b),none,none] H) :
  fo K sp { nx:=fun _ H'=>Q .non H',rt:=Q } [some x,some (.ref b),none,none] H:=by
 have e1:decide (V.ref b=V.non)=false:=decide_eq_false nofun
 have e2:∀c,decide (V.ref b=V.bl c)=false:=fun c=>decide_eq_false nofun
 refine ⟨_,rfl,_,rfl,?_⟩
 rw [e1]
 refine bp ?_
 refine ⟨_,rfl,_,rfl,_,rfl,?_⟩
 rw [e2]
 refine bp ?_
 refine ⟨_,rfl,_,rfl,_,rfl,?_⟩
 rw [e2]
 refine bp ?_
 refine ⟨_,rfl,.ref b,"int",t,false,rfl,ty,hi,_,rfl,bp ?_⟩
 refine ⟨_,rfl,.ref b,"str",t,false,rfl,ty,hs,_,rfl,bp ?_⟩
 exact k
theorem md {K:PySem.W.Frag}{n:Nat}(hn:n<=8) {sp:Sp}(hsp:∀m,n=m+1->sp=gQ K m) {vs:List V}{H:Hp}{Q:VK}{E:XK}(h:gQ K n vs H Q E):fo K sp { nx:=fun _ H'=>Q .non H',rt:=Q } (start i_ vs) H:=by
 rcases h with h | h
 rotate_left
 ·obtain ⟨a,b,rfl,k⟩:=h
  have e1:decide (V.bl b=V.non)=false:=decide_eq_false nofun
  have e2:∀c,decide (V.bl b=V.bl c)=decide (b=c):=fun c=>by cases b <;> cases c <;> rfl
  have e3:∀c,decide (V.bl a=V.bl c)=decide (a=c):=fun c=>by cases a <;> cases c <;> rfl
  refine ⟨_,rfl,_,rfl,?_⟩
  rw [e1]
  refine bp ?_
  refine ⟨_,rfl,_,rfl,_,rfl,?_⟩
  rw [e2]
  cases b with
  | true =>
   refine cb ?_
   refine ⟨_,rfl,_,rfl,?_⟩
   rw [e3]
   exact k
  | false =>
   refine bp ?_
   refine ⟨_,rfl,_,rfl,_,rfl,?_⟩
   rw [e2]
   refine cb ?_
   refine ⟨_,rfl,_,rfl,?_⟩
   rw [e3]
   exact k
 obtain ⟨x,y,d,e,rfl,hd,he,zd,ze,k⟩:=h
 have k0:=k H (Same.refl H)
 have he':=DIn.kd he
 have hd':=DIn.kd hd
 cases he' with
 | int i =>
  have e1:decide (V.int i=V.non)=false:=decide_eq_false nofun
  have e2:∀c,decide (V.int i=V.bl c)=false:=fun c=>decide_eq_false nofun
  refine ⟨_,rfl,_,rfl,?_⟩
  rw [e1]
  refine bp ?_
  refine ⟨_,rfl,_,rfl,_,rfl,?_⟩
  rw [e2]
  refine bp ?_
  refine ⟨_,rfl,_,rfl,_,rfl,?_⟩
  rw [e2]
  refine bp ?_
  refine ⟨_,rfl,.int i,"int",_,true,rfl,.inl (TyOf.int i),rfl,_,rfl,cb ?_⟩
  cases hd' with
  | int j =>
   refine ⟨_,rfl,.int j,"int",_,true,rfl,.inl (TyOf.int j),rfl,_,rfl,cb ?_⟩
   refine ⟨_,rfl,.int j,"bool",_,false,rfl,.inl (TyOf.int j),rfl,_,rfl,_,rfl,cb ?_⟩
   exact ⟨_,rfl,_,rfl,_,_,hd,he,by omega,by omega,k0⟩
  | str z =>
   refine ⟨_,rfl,.str z,"int",_,false,rfl,.inl (TyOf.str z),rfl,_,rfl,bp ?_⟩
   rw [decide_eq_false nofun] at k0
   exact k0
  | tup q r =>
   refine ⟨_,rfl,.ref _,"int",_,false,rfl,.inr (.inl ⟨_,_,rfl,rfl,q⟩),rfl,_,rfl,bp ?_⟩
   rw [decide_eq_false nofun] at k0
   exact k0
  | lst q r =>
   refine ⟨_,rfl,.ref _,"int",_,false,rfl,.inr (.inr ⟨_,_,rfl,rfl,q⟩),rfl,_,rfl,bp ?_⟩
   rw [decide_eq_false nofun] at k0
   exact k0
 | str b =>
  have e1:decide (V.str b=V.non)=false:=decide_eq_false nofun
  have e2:∀c,decide (V.str b=V.bl c)=false:=fun c=>decide_eq_false nofun
  refine ⟨_,rfl,_,rfl,?_⟩
  rw [e1]
  refine bp ?_
  refine ⟨_,rfl,_,rfl,_,rfl,?_⟩
  rw [e2]
  refine bp ?_
  refine ⟨_,rfl,_,rfl,_,rfl,?_⟩
  rw [e2]
  refine bp ?_
  refine ⟨_,rfl,.str b,"int",_,false,rfl,.inl (TyOf.str b),rfl,_,rfl,bp ?_⟩
  refine ⟨_,rfl,.str b,"str",_,true,rfl,.inl (TyOf.str b),rfl,_,rfl,cb ?_⟩
  cases hd' with
  | int j =>
   refine ⟨_,rfl,.int j,"str",_,false,rfl,.inl (TyOf.int j),rfl,_,rfl,bp ?_⟩
   rw [decide_eq_false nofun] at k0
   exact k0
  | str z =>
   refine ⟨_,rfl,.str z,"str",_,true,rfl,.inl (TyOf.str z),rfl,_,rfl,cb ?_⟩
   exact ⟨_,rfl,_,rfl,_,_,hd,he,by omega,by omega,k0⟩
  | tup q r =>
   refine ⟨_,rfl,.ref _,"str",_,false,rfl,.inr (.inl ⟨_,_,rfl,rfl,q⟩),rfl,_,rfl,bp ?_⟩
   rw [decide_eq_false nofun] at k0
   exact k0
  | lst q r =>
   refine ⟨_,rfl,.ref _,"str",_,false,rfl,.inr (.inr ⟨_,_,rfl,rfl,q⟩),rfl,_,rfl,bp ?_⟩
   rw [decide_eq_false nofun] at k0
   exact k0
 | @tup b ys le qe re =>
  have ty:TyX K H (.ref b) (.type "tuple"):=.inr (.inl ⟨_,_,rfl,rfl,qe⟩)
  refine gU ty rfl rfl ?_
  have no:∀(t:Value),TyX K H x t->PySem.W.kitOne K t (.type "tuple")=some false->¬d=.t le->(aB (c8 (tOr (aI (tOp rNe (tCB (iK K) (ac (af 1) (ac (tC (.ty "tuple")) ao))) (tCB (iK K) (ac (af 0) (ac (tC (.ty "tuple")) ao))))) (aI (tOp rNe (tCB (iK K) (ac (af 1) (ac (tC (.ty "list")) ao))) (tCB (iK K) (ac (af 0) (ac (tC (.ty "list")) ao)))))) (bj (tC (.bl false))) (aR))
 (aB (c8 (aI (tOp rNe (tCB (fS K) (ac (af 0) ao)) (tCB (fS K) (ac (af 1) ao)))) (bj (tC (.bl false))) (aR))
 (aB (ft (pO K (ac (af 0) (ac (af 1) ao))) (lG K 2 (bc (am 2) (bc (am 3) (lH)))) (c8 (qN (tB (av sp [] E0 (ac (af 2) (ac (af 3) ao))))) (bj (tC (.bl false))) (aR)))
 (bj (tC (.bl true)))))) { nx:=fun _ H'=>Q .non H',rt:=Q } [some x,some (.ref b),none,none] H:=by
   intro t tx kt ne
   refine ⟨_,rfl,.ref b,"tuple",_,true,rfl,ty,rfl,_,rfl,x,"tuple",t,false,rfl,tx,kt,rfl,_,rfl,?_⟩
   have:(!decide (V.bl true=V.bl false))=true:=rfl
   rw [this]
   refine cb (cb ?_)
   rw [decide_eq_false ne] at k0
   exact k0
  cases hd' with
  | int j=>exact no _ (.inl (TyOf.int j)) rfl nofun
  | str z=>exact no _ (.inl (TyOf.str z)) rfl nofun
  | lst q r=>exact no _ (.inr (.inr ⟨_,_,rfl,rfl,q⟩)) rfl nofun
  | @tup f xs ld qd rd =>
   clear no
   have tyd:TyX K H (.ref f) (.type "tuple"):=.inr (.inl ⟨_,_,rfl,rfl,qd⟩)
   refine ⟨_,rfl,.ref b,"tuple",_,true,rfl,ty,rfl,_,rfl,.ref f,"tuple",_,true,rfl,tyd,rfl,rfl,_,rfl,?_⟩
   rw [dF]
   refine bp ?_
   refine ⟨_,rfl,.ref b,"list",_,false,rfl,ty,rfl,_,rfl,.ref f,"list",_,false,rfl,tyd,rfl,rfl,_,rfl,?_⟩
   rw [dF]
   refine bp ?_
   refine ⟨_,rfl,.inl ⟨f,_,rfl,.inr qd,_,rfl,.inl ⟨b,_,rfl,.inr qe,rfl,_,rfl,?_⟩⟩⟩
   by_cases hl:xs.length=ys.length
   rotate_left
   ·have en:(!decide (V.int (xs.length:Nat)=V.int (ys.length:Nat)))=true:=by
     rw [decide_eq_false (fun z=>hl (by injection z with z; omega))]; rfl
    rw [en]
    refine cb ?_
    rw [decide_eq_false (fun z=>hl (by rw [DIns.len rd,DIns.len re]; injection z with z; rw [z]))] at k0
    exact k0
   have en:(!decide (V.int (xs.length:Nat)=V.int (ys.length:Nat)))=false:=by
    rw [decide_eq_true (by rw [hl])]; rfl
   rw [en]
   refine bp ?_
   obtain ⟨m,rfl⟩:∃m,n=m+1:=⟨n-1,by have:=rU zd; omega⟩
   obtain rfl:=hsp m rfl
   refine ⟨_,rfl,_,rfl,f,b,rfl,.inr ⟨⟨_,qd⟩,⟨_,qe⟩,?_⟩⟩
   refine rP (xs:=xs) (ys:=ys) hl (fun i σ H'=>∃x y,σ=[some (.ref f),some (.ref b),x,y]/\Same H H'/\ld.take i=le.take i)
    ⟨_,_,rfl,Same.refl H,rfl⟩ (fun i σ H' _ ⟨_,_,_,S,_⟩=>⟨SqT.same S qd,SqT.same S qe⟩) ?_ ?_
   ·rintro i x y σ H' p hx hy ⟨x2,x3,rfl,S,ht⟩ hp
    obtain ⟨du,hdu,du'⟩:=DIns.get rd hx
    obtain ⟨eu,heu,eu'⟩:=DIns.get re hy
    have S':=S.trans (Same.new (o:=.tup [x,y]) hp)
    refine ⟨p,_,rfl,SqT.of aa,rfl,_,_,rfl,_,_,rfl,rfl,?_⟩
    refine ⟨_,rfl,_,rfl,.inl ⟨x,y,du,eu,rfl,DIn.same S' du',DIn.same S' eu',cL (pX zd) hdu,cL (pX ze) heu,fun H'' S''=>⟨_,rfl,?_⟩⟩⟩
    by_cases c:du=eu
    ·rw [decide_eq_true c]
     refine bp ⟨_,_,rfl,S'.trans S'',?_⟩
     rw [aq hdu,aq heu,ht,c]
    ·rw [decide_eq_false c]
     refine cb ?_
     have:=k _ (S'.trans S'')
     rw [decide_eq_false (fun z=>c (by injection z with z; rw [z,heu] at hdu; exact (Option.some.inj hdu).symm))] at this
     exact this
   ·rintro σ H' ⟨x,y,rfl,S,ht⟩
    have:=k _ S
    rw [decide_eq_true (by rw [DIns.len rd,List.take_length,<-DIns.len rd,hl,DIns.len re,List.take_length] at ht; rw [ht])] at this
    exact this
 | @lst b ys le qe re =>
  have ty:TyX K H (.ref b) (.type "list"):=.inr (.inr ⟨_,_,rfl,rfl,qe⟩)
  refine gU ty rfl rfl ?_
  have no:∀(t:Value),TyX K H x t->PySem.W.kitOne K t (.type "tuple")=some false->PySem.W.kitOne K t (.type "list")=some false->¬d=.s le->(aB (c8 (tOr (aI (tOp rNe (tCB (iK K) (ac (af 1) (ac (tC (.ty "tuple")) ao))) (tCB (iK K) (ac (af 0) (ac (tC (.ty "tuple")) ao))))) (aI (tOp rNe (tCB (iK K) (ac (af 1) (ac (tC (.ty "list")) ao))) (tCB (iK K) (ac (af 0) (ac (tC (.ty "list")) ao)))))) (bj (tC (.bl false))) (aR))
 (aB (c8 (aI (tOp rNe (tCB (fS K) (ac (af 0) ao)) (tCB (fS K) (ac (af 1) ao)))) (bj (tC (.bl false))) (aR))
 (aB (ft (pO K (ac (af 0) (ac (af 1) ao))) (lG K 2 (bc (am 2) (bc (am 3) (lH)))) (c8 (qN (tB (av sp [] E0 (ac (af 2) (ac (af 3) ao))))) (bj (tC (.bl false))) (aR)))
 (bj (tC (.bl true)))))) { nx:=fun _ H'=>Q .non H',rt:=Q } [some x,some (.ref b),none,none] H:=by
   intro t tx kt kl ne
   refine ⟨_,rfl,.ref b,"tuple",_,false,rfl,ty,rfl,_,rfl,x,"tuple",t,false,rfl,tx,kt,rfl,_,rfl,?_⟩
   rw [dF]
   refine bp ?_
   refine ⟨_,rfl,.ref b,"list",_,true,rfl,ty,rfl,_,rfl,x,"list",t,false,rfl,tx,kl,rfl,_,rfl,?_⟩
   have:(!decide (V.bl true=V.bl false))=true:=rfl
   rw [this]
   refine cb ?_
   rw [decide_eq_false ne] at k0
   exact k0
  cases hd' with
  | int j=>exact no _ (.inl (TyOf.int j)) rfl rfl nofun
  | str z=>exact no _ (.inl (TyOf.str z)) rfl rfl nofun
  | tup q r =>
   refine ⟨_,rfl,.ref b,"tuple",_,false,rfl,ty,rfl,_,rfl,.ref _,"tuple",_,true,rfl,.inr (.inl ⟨_,_,rfl,rfl,q⟩),rfl,rfl,_,rfl,?_⟩
   have:(!decide (V.bl false=V.bl true))=true:=rfl
   rw [this]
   refine cb (cb ?_)
   rw [decide_eq_false nofun] at k0
   exact k0
  | @lst f xs ld qd rd =>
   clear no
   have tyd:TyX K H (.ref f) (.type "list"):=.inr (.inr ⟨_,_,rfl,rfl,qd⟩)
   refine ⟨_,rfl,.ref b,"tuple",_,false,rfl,ty,rfl,_,rfl,.ref f,"tuple",_,false,rfl,tyd,rfl,rfl,_,rfl,?_⟩
   rw [dF]
   refine bp ?_
   refine ⟨_,rfl,.ref b,"list",_,true,rfl,ty,rfl,_,rfl,.ref f,"list",_,true,rfl,tyd,rfl,rfl,_,rfl,?_⟩
   rw [dF]
   refine bp ?_
   refine ⟨_,rfl,.inl ⟨f,_,rfl,.inl qd,_,rfl,.inl ⟨b,_,rfl,.inl qe,rfl,_,rfl,?_⟩⟩⟩
   by_cases hl:xs.length=ys.length
   rotate_left
   ·have en:(!decide (V.int (xs.length:Nat)=V.int (ys.length:Nat)))=true:=by
     rw [decide_eq_false (fun z=>hl (by injection z with z; omega))]; rfl
    rw [en]
    refine cb ?_
    rw [decide_eq_false (fun z=>hl (by rw [DIns.len rd,DIns.len re]; injection z with z; rw [z]))] at k0
    exact k0
   have en:(!decide (V.int (xs.length:Nat)=V.int (ys.length:Nat)))=false:=by
    rw [decide_eq_true (by rw [hl])]; rfl
   rw [en]
   refine bp ?_
   obtain ⟨m,rfl⟩:∃m,n=m+1:=⟨n-1,by have:=rV zd; omega⟩
   obtain rfl:=hsp m rfl
   refine ⟨_,rfl,_,rfl,f,b,rfl,.inl ⟨⟨_,qd⟩,⟨_,qe⟩,?_⟩⟩
   refine rQ (xs:=xs) (ys:=ys) hl (fun i σ H'=>∃x y,σ=[some (.ref f),some (.ref b),x,y]/\Same H H'/\ld.take i=le.take i)
    ⟨_,_,rfl,Same.refl H,rfl⟩ (fun i σ H' _ ⟨_,_,_,S,_⟩=>⟨SqL.same S qd,SqL.same S qe⟩) ?_ ?_
   ·rintro i x y σ H' p hx hy ⟨x2,x3,rfl,S,ht⟩ hp
    obtain ⟨du,hdu,du'⟩:=DIns.get rd hx
    obtain ⟨eu,heu,eu'⟩:=DIns.get re hy
    have S':=S.trans (Same.new (o:=.tup [x,y]) hp)
    refine ⟨p,_,rfl,SqT.of aa,rfl,_,_,rfl,_,_,rfl,rfl,?_⟩
    refine ⟨_,rfl,_,rfl,.inl ⟨x,y,du,eu,rfl,DIn.same S' du',DIn.same S' eu',cL (pY zd) hdu,cL (pY ze) heu,fun H'' S''=>⟨_,rfl,?_⟩⟩⟩
    by_cases c:du=eu
    ·rw [decide_eq_true c]
     refine bp ⟨_,_,rfl,S'.trans S'',?_⟩
     rw [aq hdu,aq heu,ht,c]
    ·rw [decide_eq_false c]
     refine cb ?_
     have:=k _ (S'.trans S'')
     rw [decide_eq_false (fun z=>c (by injection z with z; rw [z,heu] at hdu; exact (Option.some.inj hdu).symm))] at this
     exact this
   ·rintro σ H' ⟨x,y,rfl,S,ht⟩
    have:=k _ S
    rw [decide_eq_true (by rw [DIns.len rd,List.take_length,<-DIns.len rd,hl,DIns.len re,List.take_length] at ht; rw [ht])] at this
    exact this

theorem nJ (ds:List au):DT.depths (ds.map dDT)<=2:=by
 induction ds with
 | nil=>exact Nat.zero_le _
 | cons x xs ih=>rw [List.map_cons]; show max (DT.depth (dDT x)) (DT.depths _)<=2; rw [lL]; omega



def iH (K:PySem.W.Frag) :TS :=
 bj (tCB (bu K) (ac (qO K (af 0) "own_asks") ao))
def iR:List Str:=["self"]
def iG (K:PySem.W.Frag) :TS :=
 bj (tCB (bu K) (ac (qO K (af 0) "own_says") ao))
def iQ:List Str:=["self"]
theorem sy {C x:Addr}{H:Hp}{asks says rooms:List Str}{ds:List au}(h:MachAt C H x asks says rooms ds):∃(dx:Addr) (fs:List (Str×V)) (o1 o2 lv:Addr) (lps:List (Str×Addr)),H x=some (.ins C dx fs)/\lk "asks" fs=none/\lk "says" fs=none/\lk "doors_from" fs=none/\lk "is_quiet" fs=none/\lk "own_asks" fs=some (.ref o1)/\lk "own_says" fs=some (.ref o2)/\lk "leaving" fs=some (.ref lv) /\
  H o1=some (.lst (asks.map V.str))/\H o2=some (.lst (says.map V.str))/\lps.map (·.1)=rooms/\H lv=some (.dK (cO Sum.inr lps))/\(∀x∈lps,∃us,H x.2=some (.lst (us.map V.ref))/\Doors H us (aJ ds x.1)):=by
 obtain ⟨dx,fs,o1,o2,o3,o4,lv,qu,sg,sl,ts,lps,gps,sps,g1,a1,a2,a3,a4,b1,b2,b3,b4,b5,b6,b7,b8,L,c1,c2,c3,c4,G,d1,d2,d3⟩:=h.at_
 obtain ⟨dx',fs',g1',e1,e2,e3,e4⟩:=h.more
 rw [g1] at g1'
 cases g1'
 exact ⟨dx,fs,o1,o2,lv,lps,g1,e1,e2,e4,a1,b1,b2,b5,L.a1,L.a2,c1,c2,c3⟩
def jv (C:Addr):Sp:=fun vs H Q _=>∃(x:Addr) (asks says rooms:List Str) (ds:List au),vs=[.ref x]/\MachAt C H x asks says rooms ds/\∀l,H l=none->Q (.ref l) (upd H l (.lst (asks.map V.str)))
theorem tK {K:PySem.W.Frag}{C:Addr}(M:MC K C) {vs:List V}{H:Hp}{Q:VK}{E:XK}(h:jv C vs H Q E):iH K { nx:=fun _ H'=>Q .non H',rt:=Q } (start iR vs) H:=by
 obtain ⟨x,asks,says,rooms,ds,rfl,h,k⟩:=h
 obtain ⟨dx,fs,o1,o2,lv,lps,g1,a1,a2,a3,a4,b1,b2,b3,c1,c2,_⟩:=sy h
 exact ⟨_,rfl,x,C,dx,fs,.ref o1,rfl,g1,M.cls,M.a1,b1,.inl ⟨o1,_,rfl,.inl (SqL.of c1),k⟩⟩
def lf (C:Addr):Sp:=fun vs H Q _=>∃(x:Addr) (asks says rooms:List Str) (ds:List au),vs=[.ref x]/\MachAt C H x asks says rooms ds/\∀l,H l=none->Q (.ref l) (upd H l (.lst (says.map V.str)))
theorem tG {K:PySem.W.Frag}{C:Addr}(M:MC K C) {vs:List V}{H:Hp}{Q:VK}{E:XK}(h:lf C vs H Q E):iG K { nx:=fun _ H'=>Q .non H',rt:=Q } (start iQ vs) H:=by
 obtain ⟨x,asks,says,rooms,ds,rfl,h,k⟩:=h
 obtain ⟨dx,fs,o1,o2,lv,lps,g1,a1,a2,a3,a4,b1,b2,b3,c1,c2,_⟩:=sy h
 exact ⟨_,rfl,x,C,dx,fs,.ref o2,rfl,g1,M.cls,M.a2,b2,.inl ⟨o2,_,rfl,.inl (SqL.of c2),k⟩⟩

mutual
def DR (K:PySem.W.Frag) (G:Hp):DT->V->Prop
 | .k a,v=>v=kV a
 | .t l,v=>∃b xs,v=.ref b/\SqT K G b xs/\DRs K G l xs
 | .s l,v=>∃b xs,v=.ref b/\G b=some (.lst xs)/\DRs K G l xs
def DRs (K:PySem.W.Frag) (G:Hp):List DT->List V->Prop
 | [],vs=>vs=[]
 | k::r,vs=>∃v us,vs=v::us/\DR K G k v/\DRs K G r us
end
mutual
theorem DR.same {K:PySem.W.Frag}{H H':Hp}(S:Same H H'):∀{d:DT}{v:V},DR K H d v->DR K H' d v
 | .k a,v,h=>by unfold DR at h ⊢; exact h
 | .t l,v,h=>by
  unfold DR at h ⊢
  obtain ⟨b,xs,e,q,r⟩:=h
  exact ⟨b,xs,e,SqT.same S q,DRs.same S r⟩
 | .s l,v,h=>by
  unfold DR at h ⊢
  obtain ⟨b,xs,e,q,r⟩:=h
  exact ⟨b,xs,e,S _ _ q,DRs.same S r⟩
theorem DRs.same {K:PySem.W.Frag}{H H':Hp}(S:Same H H'):∀{ds:List DT}{vs:List V},DRs K H ds vs->DRs K H' ds vs
 | [],vs,h=>by unfold DRs at h ⊢; exact h
 | d::ds,vs,h=>by
  unfold DRs at h ⊢
  obtain ⟨v,us,e,q,r⟩:=h
  exact ⟨v,us,e,DR.same S q,DRs.same S r⟩
end
mutual
theorem DR.dIn {K:PySem.W.Frag}{H:Hp}:∀{d:DT}{v:V},DR K H d v->DIn K H d v
 | .k a,v,h=>by unfold DR at h; unfold DIn; exact h
 | .t l,v,h=>by
  unfold DR at h; unfold DIn
  obtain ⟨b,xs,e,q,r⟩:=h
  exact ⟨b,xs,e,q,DRs.dIns r⟩
 | .s l,v,h=>by
  unfold DR at h; unfold DIn
  obtain ⟨b,xs,e,q,r⟩:=h
  exact ⟨b,xs,e,SqL.of q,DRs.dIns r⟩
theorem DRs.dIns {K:PySem.W.Frag}{H:Hp}:∀{ds:List DT}{vs:List V},DRs K H ds vs->DIns K H ds vs
 | [],vs,h=>by unfold DRs at h; unfold DIns; exact h
 | d::ds,vs,h=>by
  unfold DRs at h; unfold DIns
  obtain ⟨v,us,e,q,r⟩:=h
  exact ⟨v,us,e,DR.dIn q,DRs.dIns r⟩
end
structure AV where
 p:Hp->V->Prop
 mono:∀{G G':Hp}{v:V},Same G G'->p G v->p G' v
def dv (K:PySem.W.Frag) (d:DT):AV:=⟨fun G v=>DR K G d v,fun S h=>DR.same S h⟩
def bv (b:Bool):AV:=⟨fun _ v=>v=.bl b,fun _ h=>h⟩
def nv:AV:=⟨fun _ v=>v=.non,fun _ h=>h⟩
section
variable {K:PySem.W.Frag}
def RV (v:V) (z:AV):Prop:=∀G,z.p G v
theorem uB {w:Str}:RV (.str w) (dv K (sDT w)):=fun G=>by show DR K G _ _; unfold sDT DR; rfl
end
theorem at0 {α:Type}{x:α}{xs:List α}:atI (x::xs) 0=some x:=dH (j:=0) rfl
inductive Sl where
 | no
 | im (a:AV)
 | lc (n:Nat)
 | pn
inductive Ce where
 | lst (xs:List Sl)
 | dk (kvs:List (Key×Sl))
 | dt (kvs:List (TK×Sl))
 | ins (C:Addr) (fs:List (Str×Sl))
 | fk (o:Obj) (l:List (Key×V)) (kvs:List (Key×Sl))
abbrev SH:=List (Nat×Ce)
structure Mp where
 G:Hp
 H:Hp
 ad:Nat->Addr
 P:Addr->Prop
def Ok (m:Mp) (h:SH):Sl->V->Prop
 | .no,_=>True
 | .im a,v=>a.p m.G v
 | .lc n,v=>(∃c,(n,c)∈h)/\v=.ref (m.ad n)
 | .pn,v=>∃p c o,v=.ref p/\m.P p/\m.G c=some o/\Pen m.H p c
abbrev Oks (m:Mp) (h:SH):List V->List Sl->Prop:=Paired fun v x=>Ok m h x v
def wD (m:Mp) (h:SH) (a:Addr):Ce->Prop
 | .lst xs=>∃vs,m.H a=some (.lst vs)/\Oks m h vs xs
 | .dk kvs=>∃vs,m.H a=some (.dK ((kvs.map (·.1)).zip vs))/\Oks m h vs (kvs.map (·.2))
 | .dt kvs=>∃vs,m.H a=some (.dT ((kvs.map (·.1)).zip vs))/\Oks m h vs (kvs.map (·.2))
 | .ins C fs=>∃dx vs,m.H a=some (.ins C dx ((fs.map (·.1)).zip vs))/\Oks m h vs (fs.map (·.2))
 | .fk o l kvs=>m.H a=some (.frz o (.dK l))/\Paired (fun (p:Key×V) (q:Key×Sl)=>p.1=q.1/\Ok m h q.2 p.2) l kvs
structure Wf (m:Mp) (h:SH):Prop where
 s:Same m.G m.H
 p:∀a,m.P a->m.G a=none/\m.H a≠none
 c:∀n c,(n,c)∈h->m.G (m.ad n)=none/\¬m.P (m.ad n)/\wD m h (m.ad n) c
 i:∀n c n' c',(n,c)∈h->(n',c')∈h->m.ad n=m.ad n'->n=n'
 u:(h.map (·.1)).Nodup
structure Bs where
 G:Hp
 H:Hp
 P:Addr->Prop
 M:Addr->Prop
 R:Addr->Prop
 N:List (Nat×Addr)
structure Fr (B:Bs) (m:Mp) (h:SH):Prop where
 gg:Same B.G m.G
 hh:∀a o,B.H a=some o->¬B.P a->¬B.M a->m.H a=some o
 al:∀a,B.H a≠none->m.H a≠none
 fr:∀a,m.G a≠none->B.G a≠none∨B.H a=none
 pe:∀p c o,B.P p->B.G c=some o->Pen B.H p c->Pen m.H p c
 pp:∀a,B.P a↔m.P a
 ow:∀n c,(n,c)∈h->B.H (m.ad n)=none∨B.M (m.ad n)∨B.R (m.ad n)
 nd:∀n a,(n,a)∈B.N->1000<=n/\m.ad n=a/\∃c,(n,c)∈h
structure Rw (B:Bs) (s:List Sl) (h:SH) (T:List Sl) (σ:L2.St) (vs:List V) (m:Mp):Prop where
 fr:Fr B m h
 wf:Wf m h
 len:s.length=σ.length
 sl:∀(i:Nat) (x:Sl),s[i]?=some x->x=.no∨∃v,σ[i]?=some (some v)/\Ok m h x v
 tm:Oks m h vs T
def A (B:Bs) (s:List Sl) (h:SH) (T:List Sl) (σ:L2.St) (vs:List V) (H:Hp):Prop:=∃m,m.H=H/\Rw B s h T σ vs m
structure Mv (m:Mp) (h:SH) (m':Mp) (h':SH):Prop where
 gg:Same m.G m'.G
 s:Same m'.G m'.H
 hh:∀a o,m.H a=some o->¬m.P a->m'.H a=some o
 al:∀a,m.H a≠none->m'.H a≠none
 fr:∀a,m'.G a≠none->m.G a≠none∨m.H a=none
 pe:∀p c o,m.P p->m.G c=some o->Pen m.H p c->Pen m'.H p c
 pp:m'.P=m.P
 ad:∀n c,(n,c)∈h->m'.ad n=m.ad n
 nm:∀n c,(n,c)∈h->∃c',(n,c')∈h'
section
variable {B:Bs}{s:List Sl}{h:SH}{T:List Sl}{σ:L2.St}{vs:List V}{m:Mp}
theorem Rw.top {x:Sl}{v:V}(R:Rw B s h (x::T) σ (v::vs) m):Ok m h x v:=by cases R.tm with | cons q _=>exact q
def free (h:SH) (n:Nat):Prop:=n<1000/\∀c,(n,c)∉h
end
def EP (s:List Sl) (h:SH) (t:TO) (Ψ:Option Int->SH->Prop):Prop:=∀B T σ vs H Q,A B s h T σ vs H->(∀o h' H',Ψ o h'->A B s h' T σ vs H'->Q o H')->t σ H Q
abbrev imd (K:PySem.W.Frag) (d:DT):Sl:=.im (dv K d)
def lv (as:List AV):AV:=⟨fun G v=>∃a vs,v=.ref a/\G a=some (.lst vs)/\Paired (fun v (x:AV)=>x.p G v) vs as,fun S ⟨a,vs,e,h,r⟩=>⟨a,vs,e,S _ _ h,Paired.mapP r fun v x q=>x.mono S q⟩⟩
def tv (as:List AV):AV:=⟨fun G v=>∃a vs,v=.ref a/\G a=some (.tup vs)/\Paired (fun v (x:AV)=>x.p G v) vs as,fun S ⟨a,vs,e,h,r⟩=>⟨a,vs,e,S _ _ h,Paired.mapP r fun v x q=>x.mono S q⟩⟩
inductive IsV (K:PySem.W.Frag) (h:SH):Sl->Bool->List Sl->Prop
 | s {ds:List DT}:IsV K h (imd K (.s ds)) true (ds.map (imd K))
 | t {ds:List DT}:IsV K h (imd K (.t ds)) false (ds.map (imd K))
 | v {as:List AV}:IsV K h (.im (lv as)) true (as.map .im)
 | w {as:List AV}:IsV K h (.im (tv as)) false (as.map .im)
 | c {n:Nat}{xs:List Sl}(e:h.lookup n=some (.lst xs)):IsV K h (.lc n) true xs
inductive IsQ (K:PySem.W.Frag) (h:SH):Sl->Bool->List DT->Prop
 | s {ds:List DT}:IsQ K h (imd K (.s ds)) true ds
 | t {ds:List DT}:IsQ K h (imd K (.t ds)) false ds
 | c {n:Nat}{ds:List DT}(e:h.lookup n=some (.lst (ds.map (imd K)))):IsQ K h (.lc n) true ds
inductive vS (K:PySem.W.Frag) (h:SH):Sl->DT->Prop
 | d {d:DT}:vS K h (imd K d) d
 | c {n:Nat}{xs:List Sl}{ds:List DT}(e:h.lookup n=some (.lst xs)) (r:Paired (vS K h) xs ds):vS K h (.lc n) (.s ds)
inductive vV (K:PySem.W.Frag):List Sl->List DT->Prop
 | nil:vV K [] []
 | cons {d:DT}{xs:List Sl}{ds:List DT}:vV K xs ds->vV K (imd K d::xs) (d::ds)
inductive vU:List Sl->List AV->Prop
 | nil:vU [] []
 | cons {a:AV}{xs:List Sl}{as:List AV}:vU xs as->vU (.im a::xs) (a::as)
section
variable {K:PySem.W.Frag}{m:Mp}{h:SH}
end
section
variable {B:Bs}{s:List Sl}{h:SH}{T:List Sl}{σ:L2.St}{vs:List V}{m m':Mp}
end
section
variable {K:PySem.W.Frag}{s:List Sl}{h:SH}{φ:Sl->SH->Prop}{ψ:Bool->SH->Prop}{Φ:List Sl->SH->Prop}{ta tb te:TE}{i:Nat}
inductive ut:Sl->Bool->Prop
 | n:ut (.im nv) true
 | b {b:Bool}:ut (.im (bv b)) false
 | c {n:Nat}:ut (.lc n) false
 | d {K:PySem.W.Frag}{d:DT}:ut (imd K d) false
 | l {as:List AV}:ut (.im (lv as)) false
 | t {as:List AV}:ut (.im (tv as)) false
end
abbrev bas (m:Mp) (h:SH) (N:List (Nat×Addr)):Bs:=⟨m.G,m.H,m.P,fun a=>∃n c,(n,c)∈h/\m.ad n=a,fun _=>False,N⟩
def Fin (m:Mp) (h:SH) (Q:VK) (φ:Sl->SH->Prop):Prop:=∀r v h' m',φ r h'->Fr (bas m h (h.map fun p=>(p.1,m.ad p.1))) m' h'->Wf m' h'->Ok m' h' r v->Q v m'.H
def Cn (sp:Sp) (xs:List Sl) (h:SH) (φ:Sl->SH->Prop):Prop:=∀us m Q E,(∀n c,(n,c)∈h->1000<=n)->Wf m h->Oks m h us xs->Fin m h Q φ->sp us m.H Q E
def plain:Sl->Prop
 | .im _=>True
 | .pn=>True
 | _=>False
section
variable {K:PySem.W.Frag}{B:Bs}{s:List Sl}{h:SH}{T:List Sl}{σ:L2.St}{vs:List V}{φ:Sl->SH->Prop}
end
section
variable {K:PySem.W.Frag}{s:List Sl}{h:SH}{Ψ:List Sl->SH->Prop}
end
structure Src (G:Hp) (J:It) (n:Nat) (el:Nat->AV):Prop where
 go:∀i G2 H2,i<n->Same G G2->Same G2 H2->J.go i H2
 st:∀G2 H2,Same G G2->Same G2 H2->J.stop n H2
 yl:∀i (m:Mp) (h:SH) x H3,i<n->Same G m.G->Same m.G m.H->J.yld i m.H x H3->∃m3:Mp,m3.H=H3/\Mv m h m3 h/\(el i).p m3.G x
section
variable {K:PySem.W.Frag}{s:List Sl}{h:SH}{φ:Sl->SH->Prop}{Θ:Nat->(Nat->AV)->SH->Prop}{te:TE}
inductive IsF (K:PySem.W.Frag):AV->Bool->List AV->Prop
 | s {ds:List DT}:IsF K (dv K (.s ds)) true (ds.map (dv K))
 | t {ds:List DT}:IsF K (dv K (.t ds)) false (ds.map (dv K))
 | v {as:List AV}:IsF K (lv as) true as
 | w {as:List AV}:IsF K (tv as) false as
end
section
variable {K:PySem.W.Frag}{s:List Sl}{h:SH}{φ:Sl->SH->Prop}{ψ:Bool->SH->Prop}{te:TE}
end
structure AE where
 nx:List Sl->SH->Prop
 rt:Sl->SH->Prop
 bk:List Sl->SH->Prop:=fun _ _=>False
 ct:List Sl->SH->Prop:=fun _ _=>False
structure Le (De:eE) (D:AE) (B:Bs) (T:List AV) (vs:List V):Prop where
 nx:∀s h σ H,D.nx s h->A B s h (T.map .im) σ vs H->De.nx σ H
 rt:∀x h v H,D.rt x h->A B [] h [x] [] [v] H->De.rt v H
 bk:∀s h σ H,D.bk s h->A B s h (T.map .im) σ vs H->De.bk σ H
 ct:∀s h σ H,D.ct s h->A B s h (T.map .im) σ vs H->De.ct σ H
def SS (s:List Sl) (h:SH) (t:TS) (D:AE):Prop:=∀B (T:List AV) σ vs H De,(∀a,¬B.R a)->A B s h (T.map .im) σ vs H->Le De D B T vs->t De σ H
def uo (h:SH):Sl->Bool
 | .lc n=>(h.map (·.1)).contains n
 | _=>true
def ceN (h:SH):Ce->Bool
 | .lst xs=>xs.all (uo h)
 | .dk kvs=>kvs.all fun p=>uo h p.2
 | .dt kvs=>kvs.all fun p=>uo h p.2
 | .ins _ fs=>fs.all fun p=>uo h p.2
 | .fk _ _ kvs=>kvs.all fun p=>uo h p.2
structure Fg (s:List Sl) (h h':SH):Prop where
 sub:h'.Sublist h
 sl:s.all (uo h')=true
 ce:(h'.all fun p=>ceN h' p.2)=true
 lo:∀n c,(n,c)∈h->1000<=n->(n,c)∈h'
section
variable {K:PySem.W.Frag}{s:List Sl}{h:SH}{D:AE}{te:TE}{t u:TS}
end
section
variable {K:PySem.W.Frag}{s:List Sl}{h:SH}{D:AE}{te:TE}{t u:TS}{i n:Nat}
end
def spH (n:Nat) (PRE:List Sl->SH->(Sl->SH->Prop)->Prop):Sp:=fun vs H Q _=>∃xs h φ m,xs.length=n/\m.H=H/\(∀n c,(n,c)∈h->1000<=n)/\Wf m h/\Oks m h vs xs/\PRE xs h φ/\Fin m h Q φ
theorem body {n:Nat}{PRE:List Sl->SH->(Sl->SH->Prop)->Prop}{vs:List V}{H:Hp}{Q:VK}{E:XK}{t:TS}{N:List Str}(q:spH n PRE vs H Q E) (hb:∀xs h φ,PRE xs h φ->SS (xs++List.replicate (N.length-xs.length) .no) h t ⟨fun _ h'=>φ (.im nv) h',φ,fun _ _=>False,fun _ _=>False⟩) :
  t { nx:=fun _ H'=>Q .non H',rt:=Q } (start N vs) H:=by
 obtain ⟨xs,h,φ,m,_,rfl,h1,W,hx,hpre,f⟩:=q
 have hl:vs.length=xs.length:=Paired.length hx
 refine hb xs h φ hpre (bas m h (h.map fun p=>(p.1,m.ad p.1))) [] (start N vs) [] _ _ (fun _ z=>z) ⟨m,rfl,⟨.refl _,fun _ _ e _ _=>e,fun _ e=>e,fun _ e=>.inl e,fun _ _ _ _ _ e=>e,fun _=>Iff.rfl,fun n c e=>.inr (.inl ⟨n,c,e,rfl⟩),fun n a e=>?_⟩,W,by unfold L2.start; simp [hl],fun i x e=>?_,.nil⟩ ⟨?_,?_,fun _ _ _ _ z=>z.elim,fun _ _ _ _ z=>z.elim⟩
 ·obtain ⟨⟨k,c⟩,e1,e2⟩:=List.mem_map.mp e
  cases e2
  exact ⟨h1 k c e1,rfl,c,e1⟩
 ·by_cases z:i<xs.length
  ·rw [List.getElem?_append_left z] at e
   obtain ⟨v,hv,hk⟩:=Paired.get (R:=fun v x=>Ok m h x v) hx e
   refine .inr ⟨v,?_,hk⟩
   unfold L2.start
   rw [List.getElem?_append_left (by simpa [hl] using z),List.getElem?_map,hv]; rfl
  ·rw [List.getElem?_append_right (by omega)] at e
   exact .inl (List.eq_of_mem_replicate (List.mem_of_getElem? e))
 ·rintro s h' σ H' q ⟨m',rfl,R⟩
  exact f (.im nv) .non h' m' q R.fr R.wf rfl
 ·rintro x h' v H' q ⟨m',rfl,R⟩
  exact f x v h' m' q R.fr R.wf R.top
theorem mE {α:Type} [DecidableEq α] (a:α):decide (a=a)=true:=decide_eq_true rfl
section
variable {K:PySem.W.Frag}{s:List Sl}{h:SH}{φ φ':Sl->SH->Prop}{ψ ψ':Bool->SH->Prop}{ta tb te tl:TE}{g:TG}{tc:TT}{k:Nat}{fi:List Nat}
end
section
variable {K:PySem.W.Frag}
end

section
variable {K:PySem.W.Frag}{s:List Sl}{h:SH}{φ:Sl->SH->Prop}{ta tb te:TE}
end
mutual
def DT.sm:DT->Bool
 | .k _=>true
 | .t l=>decide (l.length<=1000000) && DT.sms l
 | .s l=>decide (l.length<=1000000) && DT.sms l
def DT.sms:List DT->Bool
 | []=>true
 | a::r=>DT.sm a && DT.sms r
end
section
variable {asks says rooms:List Str}{ds:List au}
end
abbrev gs (a p:Str):Str:=a++(" ":Str)++p

structure XC (K:PySem.W.Frag) (Cx:Addr):Prop where
 cls:XCls K Cx
 p:NoAttr K Cx "part"
 n:NoAttr K Cx "number"
 self:PySem.W.exmOne K (.ref Cx) (.ref Cx)=some true
structure XAt (Cx:Addr) (H:Hp) (a:Addr) (x y:V):Prop where
 at_:∃d,H a=some (.ext (cg a Cx (some d)))/\H d=some (.ext (cX d [("part",x),("number",y)]))
structure Few (asks says rooms:List Str) (ds:List au):Prop where
 a:asks.length<=100
 s:says.length<=100
 r:rooms.length<=900
 d:ds.length<=9000
 wa:∀w∈asks,w.length<=1000
 ws:∀w∈says,w.length<=1000
 wr:∀w∈rooms,w.length<=1000
section
variable {K:PySem.W.Frag}{C Cx:Addr}{H:Hp}{Q:VK}{D:eE}{l1 l2 l3 l4 m1 m2 m3 m4 hd:Addr}{ts:List Addr}{asks says rooms:List Str}{ds:List au}
end





section
variable {K:PySem.W.Frag}{H:Hp}{Q:VK}{E:XK}{l1 l2 l3 l4:Addr}{ts:List Addr}{asks says rooms:List Str}{ds:List au}
end
theorem set_map {ws:List Str}{j:Nat}{w:Str}:(ws.map V.str).set j (.str w)=(ws.set j w).map V.str:=by rw [List.map_set]


structure we (asks says rooms:List Str) (ds:List au):Prop where
 okA:cY asks
 okS:cY says
 apart:∀w∈says,w∉asks
 okR:cY rooms
 asks0:asks≠[]
 says0:says≠[]
 rooms0:rooms≠[]
 asks4:asks.length<=4
 says4:says.length<=4
 rooms26:rooms.length<=150
 nodup:ds.Nodup
 good:∀d∈ds,qy asks says rooms d
 few:ds.length<=2000
structure wB (C:Addr) (H:Hp) (x:Addr) (asks says rooms:List Str) (ds:List au):Prop where
 at_:∃(dx:Addr) (fs:List (Str×V)) (o1 o2 o3 o4 lv qu sg sl:Addr) (ts:List Addr) (lps:List (Str×Addr)) (gps:List ((Str×List Str)×Addr)) (sps:List (Str×Addr)),
  H x=some (.ins C dx fs)/\lk "is_quiet" fs=none/\lk "goals" fs=none/\lk "led_from" fs=none/\lk "rooms" fs=none /\
  lk "own_asks" fs=some (.ref o1)/\lk "own_says" fs=some (.ref o2)/\lk "own_rooms" fs=some (.ref o3)/\lk "own_doors" fs=some (.ref o4) /\
  lk "leaving" fs=some (.ref lv)/\lk "quiet" fs=some (.ref qu)/\lk "sign_goals" fs=some (.ref sg)/\lk "still_led" fs=some (.ref sl) /\
  Lists H o1 o2 o3 o4 ts asks says rooms ds /\
  lps.map (·.1)=rooms/\H lv=some (.dK (cO Sum.inr lps))/\(∀x∈lps,∃us,H x.2=some (.lst (us.map V.ref))/\Doors H us (aJ ds x.1)) /\
  H qu=some (.dK (aD (rooms.filter (fU ds))))/\GoalsAt H sg gps ds /\
  sps.map (·.1)=rooms/\H sl=some (.dK (cO Sum.inr sps))/\(∀x∈sps,∃L,H x.2=some (.dK (aD L))/\L.Nodup/\∀w,w∈L↔Reach ds x.1 w)
 more:∃(dx:Addr) (fs:List (Str×V)),H x=some (.ins C dx fs)/\lk "asks" fs=none/\lk "says" fs=none/\lk "doors" fs=none/\lk "doors_from" fs=none


def wc (ds:List au):Prop:=∀d∈ds,d.sg.length=1∨d.sg.length=2
theorem Reach.mono {ds ds':List au}(h:∀a b,(⟨a,stillSg,b⟩:au)∈ds->(⟨a,stillSg,b⟩:au)∈ds') {a b:Str}(r:Reach ds a b):Reach ds' a b:=by
 induction r with
 | one e=>exact .one (h _ _ e)
 | step _ e ih=>exact .step ih (h _ _ e)





def Sh (ws:List Str):Prop:=∀w∈ws,w.length<=1000

structure P4 (H:Hp) (p c f l1 l2 l3 l4:Addr) (ts:List Addr) (asks says rooms:List Str) (ds:List au):Prop where
 f:H f=some (.lst [.ref l1,.ref l2,.ref l3,.ref l4])
 L:Lists H l1 l2 l3 l4 ts asks says rooms ds
 pen:Pen H p c
section
variable {H H':Hp}{p c f l1 l2 l3 l4:Addr}{ts:List Addr}{asks says rooms:List Str}{ds:List au}
end
structure B4 (n:Nat) (asks says rooms:List Str) (ds:List au):Prop where
 a:asks.length<=20+n
 s:says.length<=20+n
 r:rooms.length<=160+n
 d:ds.length<=900+n
 wa:Sh asks
 ws:Sh says
 wr:Sh rooms
 g:wc ds
section
variable {K:PySem.W.Frag}{H:Hp}{a p c f l1 l2 l3 l4:Addr}{ts:List Addr}{asks says rooms:List Str}{ds:List au}{D:eE}{n:Nat}{x3 x5:Option V}
end


structure St5 (p c l3 l od:Addr) (H:Hp) (rooms order:List Str) (us:List Addr) (es:List au):Prop where
 pen:Pen H p c
 r:H l3=some (.lst (rooms.map V.str))
 o:H od=some (.lst (order.map V.str))
 l:H l=some (.lst (us.map V.ref))
 d:Doors H us es
section
variable {p c l3 l od:Addr}{H H':Hp}{rooms order:List Str}{us:List Addr}{es:List au}
end
structure wx (rooms:List Str) (ds es:List au) (n:Nat):Prop where
 m:∀x∈es,x∈ds∨(x.sg=stillSg/\x.a∈rooms/\x.b∈rooms)
 nd:ds.Nodup->es.Nodup
 z:es.length<=ds.length+n
structure Chn (n:Nat) (ρ:Nat->Str) (es:List au) (x:Option (Nat×Nat)):Prop where
 inj:∀i j,i<n->j<n->ρ i=ρ j->i=j
 mem:∀d,d∈es↔(∃k,k+1<n/\d=⟨ρ k,stillSg,ρ (k+1)⟩)∨∃o t,x=some (o,t)/\d=⟨ρ o,stillSg,ρ t⟩
 lt:∀o t,x=some (o,t)->o<n/\t<n
section
variable {n:Nat}{ρ:Nat->Str}{es:List au}{x:Option (Nat×Nat)}
end



def vz (K:PySem.W.Frag) (f g:Str):TS:=aB (cQ (sw K (ac (af 0) (ac (af 1) (ac (af 2) ao))))) (aB (tE K (af 0) (af 1) f) (tE K (af 0) (af 2) g))
def vi (a:Addr) (H H':Hp):Prop:=∀b o,H b=some o->b≠a->H' b=some o
def ma (Cx:Addr) (f g:Str):Sp:=fun vs H Q _=>∃(a:Addr) (x y:V),vs=[.ref a,x,y]/\H a=some (.ext (aW a Cx none)) /\
 ∀d H',H' a=some (.ext (aW a Cx (some d)))->H' d=some (.ext (cX d [(f,x),(g,y)]))->d≠a->vi a H H'->Q .non H'
theorem uC {K:PySem.W.Frag}{Cx:Addr}{f g n0 n1 n2:Str}(c:XCls K Cx) (nf:NoAttr K Cx f) (ng:NoAttr K Cx g) (fg:f≠g) {vs:List V}{H:Hp}{Q:VK}{E:XK}(h:ma Cx f g vs H Q E):vz K f g { nx:=fun _ H'=>Q .non H',rt:=Q } (start [n0,n1,n2] vs) H:=by
 obtain ⟨a,x,y,rfl,ha,k⟩:=h
 refine ⟨_,rfl,_,rfl,_,rfl,a,Cx,none,[x,y],rfl,ha,c,(by show 2<=sizeLine; decide),?_⟩
 refine ⟨_,rfl,_,rfl,a,Cx,rfl,c,nf,.inl ⟨ha,fun d hd nd=>?_⟩⟩
 have e1:upd (upd H d (.ext (cX d [(f,x)]))) a (.ext (aW a Cx (some d))) a=some (.ext (aW a Cx (some d))):=aa
 have e2:upd (upd H d (.ext (cX d [(f,x)]))) a (.ext (aW a Cx (some d))) d=some (.ext (cX d [(f,x)])):=by rw [aj nd,aa]
 refine ⟨_,rfl,_,rfl,a,Cx,rfl,c,ng,.inr ⟨d,_,e1,e2,(by show 1<1000; decide),?_⟩⟩
 refine k d _ (by rw [aj nd.symm]; exact e1) ?_ nd fun b o hb na=>?_
 ·rw [aa]
  have:cv g y [(f,x)]=[(f,x),(g,y)]:=by simp [cv,fg]
  rw [this]
 ·rw [aj (fun z=>by rw [z,hd] at hb; cases hb),aj na,aj (fun z=>by rw [z,hd] at hb; cases hb)]
  exact hb
structure XF (K:PySem.W.Frag) (C:Addr) (fs:List Str):Prop where
 cls:XCls K C
 no:∀f∈fs,NoAttr K C f
 self:PySem.W.exmOne K (.ref C) (.ref C)=some true
section
variable {K:PySem.W.Frag}{C:Addr}{f g:Str}{i j k m:Nat}{σ:L2.St}{H:Hp}{D:eE}{x y:V}
end
structure TkC (K:PySem.W.Frag) (Cb Cm Ct Cw:Addr):Prop where
 ex:ExK K Cm
 up:PySem.W.exmOne K (.ref Cm) (.ref Cb)=some true
 i1:PySem.W.kitOne K (.ref Cm) (.ref Cm)=some true
 i2:PySem.W.kitOne K (.ref Cm) (.type "ValueError")=some true
 i3:PySem.W.kitOne K (.ref Cm) (.ref Ct)=some false
 i4:PySem.W.kitOne K (.ref Cm) (.ref Cw)=some false
structure KdC (K:PySem.W.Frag) (Cb:Addr) (CS:Nat->Addr):Prop where
 ex:∀i,i<12->ExK K (CS i)
 up:∀i,i<12->PySem.W.exmOne K (.ref (CS i)) (.ref Cb)=some true
 is:∀i j,i<12->j<12->PySem.W.kitOne K (.ref (CS i)) (.ref (CS j))=some (decide (j=i))
 ve:∀i,i<12->PySem.W.kitOne K (.ref (CS i)) (.type "ValueError")=some true
section
variable {K:PySem.W.Frag}{Cb a:Addr}{CS:Nat->Addr}{i:Nat}{H:Hp}{D:eE}{s0 s1 s2 s3 s4:Option V}{od:Option Addr}
end
section
variable {j z:Int}{r rest:(L2.St->XK)->TS}{W:L2.St->XK}{D:eE}{σ:L2.St}{H:Hp}{C:Addr}{f g:Str}{i1 i2:Nat}{x y:V}
def vh (C:Addr) (H H':Hp) (a:Addr):Prop:=Same H H'/\∃od,H' a=some (.ext (cg a C od))/\(od=none∨∃d fs,od=some d/\H' d=some (.ext (cX d fs)))
end


structure P7 (n:Nat) (H:Hp) (p c b l1 l2 l3 l4:Addr) (ts:List Addr) (asks says rooms:List Str) (ds:List au) (bs:List V):Prop where
 pen:Pen H p c
 b:H b=some (.lst bs)
 L:Lists H l1 l2 l3 l4 ts asks says rooms ds
 za:asks.length<=n
 zs:says.length<=n
 z0:0<rooms.length
 zr:rooms.length<=30+n
 zd:ds.length<=600+n
 sa:Sh asks
 ss:Sh says
 sr:Sh rooms
 g:wc ds
section
variable {K:PySem.W.Frag}{σ:L2.St}{D:eE}{H:Hp}{p c b l l1 l2 l3 l4:Addr}{ws:List Str}{bs:List V}{I bi:Int}{j n:Nat}{ts:List Addr}{asks says rooms:List Str}{ds:List au}
end
theorem drT {K:PySem.W.Frag}{H:Hp}{a:Addr}{vs:List V}{ds:List DT}(h:H a=some (.tup vs)) (q:DRs K H ds vs):DR K H (.t ds) (.ref a):=by unfold DR; exact ⟨a,vs,rfl,SqT.of h,q⟩
theorem drN {K:PySem.W.Frag}{H:Hp}:DRs K H [] []:=by unfold DRs; rfl
theorem drC {K:PySem.W.Frag}{H:Hp}{d:DT}{v:V}{ds:List DT}{vs:List V}(h:DR K H d v) (q:DRs K H ds vs):DRs K H (d::ds) (v::vs):=by unfold DRs; exact ⟨v,vs,rfl,h,q⟩
theorem rS {K:PySem.W.Frag}{H:Hp}{w:Str}:DR K H (sDT w) (.str w):=uB (K:=K) H


section
variable {K:PySem.W.Frag}{mg:Str->Option Value}{Ct:Addr}
theorem vx {x:Str}{C:Addr}{fs:List Str}(h:XX K mg x C Ct) (nt:C≠Ct) (no:∀f∈fs,NoAttr K C f):XF K C fs:=⟨h.cls,no,by rw [h.exm h nt,decide_eq_true rfl]⟩
theorem no1 {C:Addr}{f:Str}(h:NoAttr K C f):∀g∈[f],NoAttr K C g:=fun g hg=>by
 have:g=f:=by simpa using hg
 rw [this]; exact h
theorem no2 {C:Addr}{f f':Str}(h:NoAttr K C f) (h':NoAttr K C f'):∀g∈[f,f'],NoAttr K C g:=fun g hg=>by
 rcases List.mem_cons.mp hg with e | e
 ·rw [e]; exact h
 ·exact no1 h' g e
end
def j6 (K:PySem.W.Frag) (C_Machine:Addr) (sp_Machine_says:Sp) (sp_Machine_asks:Sp) (C_NoMatch:Addr):(L2.St->XK)->TS :=
 vC (tOr (aI (tOp (uG K) (eO C_Machine "asks" sp_Machine_asks [] E0 (af 0) ao) (eO C_Machine "asks" sp_Machine_asks [] E0 (af 1) ao))) (aI (tOp (uG K) (eO C_Machine "says" sp_Machine_says [] E0 (af 0) ao) (eO C_Machine "says" sp_Machine_says [] E0 (af 1) ao)))) (jg C_NoMatch (ac (tC (.str "the asks or the says are unlike")) ao)) (vA aR)
def f8:List Str:=["M","I"]
def s_ (K:PySem.W.Frag) (C_Machine:Addr) (sp_Machine_led_from:Sp) (sp_Machine_goals:Sp):TS :=
 bj (tCB (wt K) (ac (gm 1 [0,2] (cc K (tOp vq (eP (ac (af 1) ao)) (eO C_Machine "led_from" sp_Machine_led_from [] E0 (af 0) (ac (af 1) ao)))) (am 0) (qA) (tOp vH (tCB (fS K) (ac (eO C_Machine "goals" sp_Machine_goals [] E0 (af 1) (ac (af 0) (ac (d4 (ac (tC (.str "ask")) (ac (af 2) ao))) ao))) ao)) (tC (.int 0)))) ao))
def ul:List Str:=["I","room","ask"]
def df (K:PySem.W.Frag) (C_Machine:Addr) (sp_Machine_rooms:Sp) (sp_Machine_asks:Sp) (sp_takes:Sp) (C_NoTaker:Addr) (sp_NoTaker_init:Sp):(L2.St->XK)->TS :=
 tu (cc K (eO C_Machine "rooms" sp_Machine_rooms [] E0 (af 0) ao)) (am 1) (tu (cc K (eO C_Machine "asks" sp_Machine_asks [] E0 (af 0) ao)) (am 2) (vC (qN (tB (av sp_takes [] E0 (ac (af 0) (ac (af 1) (ac (af 2) ao)))))) (jh C_NoTaker sp_NoTaker_init (ac (af 1) (ac (af 2) ao))) (vA aR)))
def dI:List Str:=["I","room","ask"]
def j4 (K:PySem.W.Frag) (sp_need_all_asks_taken:Sp) (sp_need_match:Sp):(L2.St->XK)->TS :=
 uz (oE (fun W=>av sp_need_match [] W (ac (af 0) (ac (af 1) ao))))
 (oE (fun W=>av sp_need_all_asks_taken [] W (ac (af 1) ao)))
def kP:List Str:=["M","I"]
def je (K:PySem.W.Frag) (sp_law_put:Sp) (sp_law_take:Sp) (sp_law_still_on:Sp):TS :=
 aB (ba (af 1) (lG K 4 (bc (am 2) (bc (am 3) (bc (am 4) (bc (am 5) (lH)))))))
 (aB (ba (tCB (bu K) (ac (af 5) ao)) (am 5))
 (aB (ft (cc K (af 4)) (am 6) (ft (cc K (af 2)) (am 7) (aB (ba (av sp_law_still_on [] E0 (ac (af 5) (ac (eP (ac (af 6) ao)) ao))) (am 8))
 (c8 (aI (tOp (oW K) (gm 1 [8,7] (cc K (af 5)) (am 0) (qR (aI (tOp (sA K false) (tOp (rIx K) (af 0) (tC (.int 0))) (af 1))) (aI (tOp (oW K) (tOp (rIx K) (af 0) (tC (.int 1))) (d4 (ac (tC (.str "ask")) (ac (af 2) ao)))))) (af 0)) (eP (ao)))) (aB (ba (tOp (eG K) (eP (ac (af 6) (ac (tOp (eG K) (af 4) (av sp_law_take [] E0 (ac (af 0) (ac (tCB (fS K) (ac (af 4) ao)) ao)))) ao))) (av sp_law_take [] E0 (ac (af 0) (ac (tC (.int 2)) ao)))) (am 9))
 (cQ (av sp_law_put [] E0 (ac (af 5) (ac (d4 (ac (af 6) (ac (d4 (ac (tC (.str "ask")) (ac (af 7) ao))) (ac (af 9) ao)))) ao))))) (aR)))))
 (bj (d4 (ac (af 2) (ac (af 3) (ac (af 4) (ac (af 5) ao))))))))
def jS:List Str:=["pen","told","asks","says","rooms","doors","room","ask","there","other"]
def mR (K:PySem.W.Frag) (sp_law_still_on:Sp):TS :=
 aB (ft (cc K (tOp (rIx K) (af 0) (tC (.int 2)))) (am 1) (aB (ba (av sp_law_still_on [] E0 (ac (tOp (rIx K) (af 0) (tC (.int 3))) (ac (eP (ac (af 1) ao)) ao))) (am 2))
 (ft (cc K (tOp (rIx K) (af 0) (tC (.int 0)))) (am 3) (c8 (aI (tOp (oW K) (gm 1 [2,3] (cc K (tOp (rIx K) (af 0) (tC (.int 3)))) (am 0) (qR (aI (tOp (sA K false) (tOp (rIx K) (af 0) (tC (.int 0))) (af 1))) (aI (tOp (oW K) (tOp (rIx K) (af 0) (tC (.int 1))) (d4 (ac (tC (.str "ask")) (ac (af 2) ao)))))) (af 0)) (eP (ao)))) (bj (d4 (ac (af 1) (ac (af 3) ao)))) (aR)))))
 (bj (tC .non))
def nW:List Str:=["told","room","there","ask"]
def j8 (K:PySem.W.Frag) (sp_need_taker:Sp) (C_NoTaker:Addr) (C_NoTrial:Addr) (C_NoRight:Addr) (C_NoMatch:Addr) (C_TrialError:Addr) (sp_law_machine:Sp):TS :=
 aB (ba (av sp_law_machine [] E0 (ac (af 0) ao)) (am 2))
 (aB (ba (av sp_law_machine [] E0 (ac (af 1) ao)) (am 3))
 (aB (ba (tC (.str "none")) (am 4))
 (aB (ba (eP (ao)) (am 5))
 (aB (vX (uy (fun W=>av sp_need_taker [] W (ac (af 2) (ac (af 3) ao))) 4) (vZ K C_NoTaker 6 (aB (ba (d4 (ac (tj K (af 6) "room") (ac (tj K (af 6) "ask") ao))) (am 4))
 (ba (eP (ac (tCB (vG K) (ac (af 6) (ac (tC (.ref C_TrialError)) ao))) (ac (tCB (vG K) (ac (af 6) (ac (tC (.ty "ValueError")) ao))) (ac (tCB (uJ K) (ac (af 6) (ac (d4 (ac (tC (.ref C_NoMatch)) (ac (tC (.ref C_NoRight)) (ac (tC (.ref C_NoTrial)) ao)))) ao))) ao)))) (am 5))) (vY)))
 (bj (d4 (ac (af 4) (ac (af 5) ao))))))))
def kS:List Str:=["told","some","model","made","found","kinds","e"]
def tf (K:PySem.W.Frag) (sp_law_same:Sp) (sp_law_answer:Sp) (sp_law_lack:Sp) (sp_law_take:Sp) (sp_law_willing:Sp) (sp_law_draw_doors:Sp) (sp_law_names:Sp) (sp_law_model:Sp) (sp_law_open:Sp):TS :=
 aB (ba (av sp_law_open [] E0 (ac (af 0) ao)) (am 1))
 (aB (ba (av sp_law_model [] E0 (ac (af 1) (ac (tC (.int 4)) (ac (tC (.int 0)) ao)))) (am 2))
 (aB (ba (av sp_law_names [] E0 (ac (af 1) (ac (tOp cF (tC (.int 1)) (av sp_law_take [] E0 (ac (af 1) (ac (tC (.int 5)) ao)))) ao))) (am 3))
 (aB (ba (d4 (ac (tOp (tN K) (af 2) (tC (.int 0))) (ac (tOp (tN K) (af 2) (tC (.int 1))) (ac (af 3) (ac (av sp_law_draw_doors [] E0 (ac (af 1) (ac (tOp (tN K) (af 2) (tC (.int 0))) (ac (tOp (tN K) (af 2) (tC (.int 1))) (ac (af 3) (ac (av sp_law_take [] E0 (ac (af 1) (ac (tC (.int 2)) ao))) ao)))))) ao))))) (am 4))
 (aB (c8 (aI (tOp rEq (av sp_law_take [] E0 (ac (af 1) (ac (tC (.int 2)) ao))) (tC (.int 0)))) (ba (av sp_law_willing [] E0 (ac (af 1) (ac (af 4) ao))) (am 4)) (aR))
 (aB (ft (cc K (eP (ac (af 4) (ac (af 2) (ac (af 4) ao))))) (am 5) (aB (ba (av sp_law_lack [] E0 (ac (af 5) ao)) (am 6))
 (aB (ba (av sp_law_answer [] E0 (ac (af 2) (ac (af 5) ao))) (lG K 2 (bc (am 7) (bc (am 8) (lH)))))
 (c8 (tOr (qN (tB (av sp_law_same [] E0 (ac (af 7) (ac (af 6) ao))))) (qR (tB (qM (af 6))) (aI (tOp (vE K) (af 8) (eP (ac (tC (.bl true)) (ac (tC (.bl true)) (ac (tC (.bl false)) ao)))))))) (bj (tC (.bl false))) (aR)))))
 (bj (tC (.bl true))))))))
def qv:List Str:=["script","pen","told","rooms","some","one","due","found","kinds"]
def rm:List Str:=["script"]
def Takes (ds:List au) (r a:Str):Prop:=∃h,(h=r∨Reach ds r h)/\∃b,(⟨h,cy a,b⟩:au)∈ds
open Classical in
noncomputable def takesB (ds:List au) (r a:Str):Bool:=decide (Takes ds r a)
theorem takesB_true {ds:List au}{r a:Str}:takesB ds r a=true↔Takes ds r a:=by unfold takesB; exact @decide_eq_true_iff _ (Classical.propDecidable _)
theorem j3 {ds:List au}{r a:Str}:takesB ds r a=false↔¬Takes ds r a:=by unfold takesB; exact @decide_eq_false_iff_not _ (Classical.propDecidable _)
theorem goalsOf_pos {ds:List au}{h:Str}{sg:List Str}:0<(aF ds (h,sg)).length↔∃b,(⟨h,sg,b⟩:au)∈ds:=by
 rw [List.length_pos_iff_exists_mem]
 constructor
 ·rintro ⟨b,hb⟩; exact ⟨b,mem_goalsOf.mp hb⟩
 ·rintro ⟨b,hb⟩; exact ⟨b,mem_goalsOf.mpr hb⟩
theorem oy {ds:List au}{r a:Str}{L:List Str}(hL:∀w,w∈L↔Reach ds r w):((r::L).map fun h=>decide ((0:Int)<(aF ds (h,cy a)).length)).any id=takesB ds r a:=by
 rw [Bool.eq_iff_iff,takesB_true,List.any_eq_true]
 constructor
 ·rintro ⟨b,hb,e⟩
  obtain ⟨h,hh,rfl⟩:=List.mem_map.mp hb
  have:=of_decide_eq_true e
  refine ⟨h,?_,goalsOf_pos.mp (by omega)⟩
  rcases List.mem_cons.mp hh with e | e
  ·exact .inl e
  ·exact .inr ((hL h).mp e)
 ·rintro ⟨h,hh,hb⟩
  refine ⟨true,List.mem_map.mpr ⟨h,?_,decide_eq_true (by have:=goalsOf_pos.mpr hb; omega)⟩,rfl⟩
  rcases hh with e | e
  ·rw [e]; exact List.mem_cons_self
  ·exact List.mem_cons_of_mem _ ((hL h).mpr e)
def sp_takes (C:Addr):Sp:=fun vs H Q _=>∃(x:Addr) (r a:Str) (asks says rooms:List Str) (ds:List au),vs=[.ref x,.str r,.str a]/\MachAt C H x asks says rooms ds/\r∈rooms/\∀H',Same H H'->Q (.bl (takesB ds r a)) H'
theorem qY {K:PySem.W.Frag}{C:Addr}{vs:List V}{H:Hp}{Q:VK}{E:XK}(h:sp_takes C vs H Q E):s_ K C (ef C) (gR C) { nx:=fun _ H'=>Q .non H',rt:=Q } (start ul vs) H:=by
 obtain ⟨x,r,a,asks,says,rooms,ds,rfl,M,hr,k⟩:=h
 refine ⟨_,rfl,(by show 1<=sizeLine; decide),fun l1 hl1=>?_⟩
 have S1:Same H (upd H l1 (.lst [.str r])):=Same.new hl1
 have e1:upd H l1 (.lst [.str r]) l1=some (.lst [.str r]):=aa
 generalize upd H l1 (.lst [.str r])=H1 at S1 e1 ⊢
 have M1:=M.same S1
 obtain ⟨dx,fs,o1,o2,o3,o4,lv,qu,sgA,sl,ts,lps,gps,sps,g1,a1,a2,a3,a4,_⟩:=id M1.at_
 refine ⟨_,rfl,x,dx,fs,rfl,g1,a3,_,rfl,x,r,asks,says,rooms,ds,rfl,M1,hr,fun l2 L H2 e2 nd hL _ S2=>?_⟩
 have hin:∀w∈L,w∈rooms:=fun w hw=>((hL w).mp hw).in_ fun d hd=>(M.ok.good d hd).b
 have zL:=gC nd hin
 have z3:=M.ok.rooms26
 refine ⟨l1,l2,_,_,rfl,rfl,S2 _ _ e1,e2,by rw [List.length_map]; show 1+L.length<=sizeLine; exact Nat.le_of_lt (aA (by omega)),fun l3 hl3=>?_⟩
 have eq:([.str r]++L.map V.str:List V)=(r::L).map V.str:=rfl
 rw [eq]
 have S3:Same H (upd H2 l3 (.lst ((r::L).map V.str))):=(S1.trans S2).trans (Same.new hl3)
 have e3:upd H2 l3 (.lst ((r::L).map V.str)) l3=some (.lst ((r::L).map V.str)):=aa
 generalize upd H2 l3 (.lst ((r::L).map V.str))=H3 at S3 e3 ⊢
 refine ⟨l3,rfl,⟨_,SqL.of e3⟩,fun q hq=>?_⟩
 refine cM (xs:=(r::L).map V.str) (fun i vs H'=>vs=(((r::L).take i).map fun h=>decide ((0:Int)<(aF ds (h,cy a)).length)).map V.bl/\Same H3 H'/\H' q=some (.lst vs)) ⟨rfl,Same.new hq,aa⟩ (fun i vs H' _ ⟨_,S,h⟩=>⟨h,SqL.of (S _ _ e3)⟩) ?_ ?_
 ·rintro vs H' ⟨rfl,S,h⟩
  rw [List.length_map,List.take_length] at h
  refine ⟨q,_,rfl,SqL.of h,?_⟩
  rw [oy hL]
  exact k H' (S3.trans S)
 ·rintro i vs H' y hy hi ⟨rfl,S,h⟩
  obtain ⟨w,hw,rfl⟩:=aS hy
  refine gN (um ?_)
  have M':=M.same (S3.trans S)
  obtain ⟨dx,fs,o1,o2,o3,o4,lv,qu,sgA,sl,ts,lps,gps,sps,g1,a1,a2,a3,a4,_⟩:=id M'.at_
  refine ⟨_,rfl,x,dx,fs,rfl,g1,a2,_,rfl,_,rfl,(by show 2<=sizeLine; decide),fun s hs=>?_⟩
  have S4:Same H' (upd H' s (.tup ((cy a).map V.str))):=Same.new hs
  refine ⟨x,s,w,cy a,asks,says,rooms,ds,rfl,M'.same S4,aa,fun g H5 hg _ S5=>?_⟩
  have S45:=S4.trans S5
  refine .inl ⟨g,_,rfl,.inl (SqL.of hg),_,_,rfl,rfl,S45 _ _ h,?_,?_⟩
  ·rw [List.length_map,List.length_map,List.length_take]; exact aA (by rw [List.length_cons]; omega)
  refine nxt hi ⟨?_,fun b o e=>?_,aa⟩
  ·rw [aq hw,List.map_append,List.map_append]
   show _++[V.bl (decide ((0:Int)<(((aF ds (w,cy a)).map V.str).length:Nat)))]=_
   rw [List.length_map]; rfl
  ·rw [aj (ah e hq)]; exact S45 _ _ (S _ _ e)
noncomputable def lackIn (ds:List au) (r:Str):List Str->Option (Str×Str)
 | []=>none
 | a::as=>if takesB ds r a=true then lackIn ds r as else some (r,a)
noncomputable def lack (ds:List au) (asks:List Str):List Str->Option (Str×Str)
 | []=>none
 | r::rs=>match lackIn ds r asks with
  | some x=>some x
  | none=>lack ds asks rs
theorem eA {ds:List au}{r:Str}:∀{as:List Str},(∀a∈as,takesB ds r a=true)->lackIn ds r as=none
 | [],_=>rfl
 | a::as,h=>by
  unfold lackIn
  rw [if_pos (h a List.mem_cons_self)]
  exact eA fun b hb=>h b (List.mem_cons_of_mem _ hb)
theorem h_ {ds:List au}{r a:Str}:∀{as:List Str}{j:Nat},(∀b∈as.take j,takesB ds r b=true)->as[j]?=some a->takesB ds r a=false->lackIn ds r as=some (r,a)
 | [],j,_,h,_=>by cases h
 | b::as,0,_,h,n=>by
  cases h
  unfold lackIn
  rw [if_neg (by rw [n]; decide)]
 | b::as,j+1,hb,h,n=>by
  unfold lackIn
  rw [if_pos (hb b List.mem_cons_self)]
  exact h_ (fun c hc=>hb c (List.mem_cons_of_mem _ hc)) h n
theorem h9 {ds:List au}{asks:List Str}:∀{rs:List Str},(∀r∈rs,∀a∈asks,takesB ds r a=true)->lack ds asks rs=none
 | [],_=>rfl
 | r::rs,h=>by
  unfold lack
  rw [eA (h r List.mem_cons_self)]
  exact h9 fun b hb=>h b (List.mem_cons_of_mem _ hb)
theorem lD {ds:List au}{asks:List Str}{r:Str}{x:Str×Str}:∀{rs:List Str}{i:Nat},(∀b∈rs.take i,∀a∈asks,takesB ds b a=true)->rs[i]?=some r->lackIn ds r asks=some x->lack ds asks rs=some x
 | [],i,_,h,_=>by cases h
 | b::rs,0,_,h,n=>by
  cases h
  unfold lack
  rw [n]
 | b::rs,i+1,hb,h,n=>by
  unfold lack
  rw [eA (hb b List.mem_cons_self)]
  exact lD (fun c hc=>hb c (List.mem_cons_of_mem _ hc)) h n
def XTk (Ck:Addr) (r a:Str) (H H':Hp) (e:Addr):Prop:=Same H H'/\∃d,H' e=some (.ext (cg e Ck (some d)))/\H' d=some (.ext (cX d [("room",.str r),("ask",.str a)]))
theorem ne_strs {K:PySem.W.Frag}{H:Hp}{l m:Addr}{a b:List Str}{Q:VK}(hl:H l=some (.lst (a.map V.str))) (hm:H m=some (.lst (b.map V.str))) (k:Q (.bl (!decide (a=b))) H):uG K (.ref l) (.ref m) H Q:=by
 refine ⟨.s (a.map sDT),.s (b.map sDT),jN (SqL.of hl),jN (SqL.of hm),?_,?_,?_⟩
 ·show DT.depths _+1<=8; rw [cU]; decide
 ·show DT.depths _+1<=8; rw [cU]; decide
 ·rw [decide_eq_decide.mpr (show DT.s (a.map sDT)=DT.s (b.map sDT)↔a=b from ⟨fun h=>b_ (by injection h),fun h=>by rw [h]⟩)]; exact k
def sp_need_match (C Cm:Addr):Sp:=fun vs H Q E=>∃(x y:Addr) (asks says rooms asks' says' rooms':List Str) (ds ds':List au),vs=[.ref x,.ref y]/\MachAt C H x asks says rooms ds/\MachAt C H y asks' says' rooms' ds' /\
 (asks=asks'->says=says'->∀H',Same H H'->Q .non H')/\(¬(asks=asks'/\says=says')->∀a H',vh Cm H H' a->E (.ref Cm) (some a) H')
theorem jB {K:PySem.W.Frag}{C Cm:Addr}{vs:List V}{H:Hp}{Q:VK}{E:XK}(h:sp_need_match C Cm vs H Q E):j6 K C (lf C) (jv C) Cm (fun _=>E) { nx:=fun _ H'=>Q .non H',rt:=Q } (start f8 vs) H:=by
 obtain ⟨x,y,asks,says,rooms,asks',says',rooms',ds,ds',rfl,M,N,k,kx⟩:=h
 obtain ⟨dx,fs,g1,a1,a2,_⟩:=id M.more
 obtain ⟨dy,gs,g2,b1,b2,_⟩:=id N.more
 refine ⟨_,rfl,x,dx,fs,rfl,g1,a1,x,asks,says,rooms,ds,rfl,M,fun l1 h1=>?_⟩
 have S1:Same H (upd H l1 (.lst (asks.map V.str))):=Same.new h1
 have e1:upd H l1 (.lst (asks.map V.str)) l1=some (.lst (asks.map V.str)):=aa
 generalize upd H l1 (.lst (asks.map V.str))=H1 at S1 e1 ⊢
 refine ⟨_,rfl,y,dy,gs,rfl,S1 _ _ g2,b1,y,asks',says',rooms',ds',rfl,N.same S1,fun l2 h2=>?_⟩
 have S2:Same H (upd H1 l2 (.lst (asks'.map V.str))):=S1.trans (Same.new h2)
 refine ne_strs (kp e1 h2) aa ⟨_,rfl,?_⟩
 generalize upd H1 l2 (.lst (asks'.map V.str))=H2 at S2 ⊢
 have rs:¬(asks=asks'/\says=says')->∀H3:Hp,Same H H3->(jg Cm (ac (tC (.str "the asks or the says are unlike")) ao)) (fun _=>E) { nx:=fun _ H'=>Q .non H',rt:=Q } (start f8 [.ref x,.ref y]) H3:=fun n H3 S3 =>
  ⟨(by show 1<=sizeLine; decide),fun a ha=>kx n a _ ⟨S3.trans (Same.new ha),none,aa,.inl rfl⟩⟩
 by_cases c:asks=asks'
 ·rw [decide_eq_true c]
  refine bp ?_
  refine ⟨_,rfl,x,dx,fs,rfl,S2 _ _ g1,a2,x,asks,says,rooms,ds,rfl,M.same S2,fun l3 h3=>?_⟩
  have S3:Same H (upd H2 l3 (.lst (says.map V.str))):=S2.trans (Same.new h3)
  have e3:upd H2 l3 (.lst (says.map V.str)) l3=some (.lst (says.map V.str)):=aa
  generalize upd H2 l3 (.lst (says.map V.str))=H3 at S3 e3 ⊢
  refine ⟨_,rfl,y,dy,gs,rfl,S3 _ _ g2,b2,y,asks',says',rooms',ds',rfl,N.same S3,fun l4 h4=>?_⟩
  have S4:Same H (upd H3 l4 (.lst (says'.map V.str))):=S3.trans (Same.new h4)
  refine ne_strs (kp e3 h4) aa ⟨_,rfl,?_⟩
  by_cases d:says=says'
  ·rw [decide_eq_true d]
   exact bp (k c d _ S4)
  ·rw [decide_eq_false d]
   exact cb (rs (fun z=>d z.2) _ S4)
 ·rw [decide_eq_false c]
  exact cb (cb (rs (fun z=>c z.1) _ S2))
theorem rg {Ck:Addr}{W:L2.St->XK}{D:eE}{σ:L2.St}{H:Hp}{i1 i2:Nat}{r a:Str}(h1:σ[i1]?=some (some (.str r))) (h2:σ[i2]?=some (some (.str a))) (k:∀e H',XTk Ck r a H H' e->W σ (.ref Ck) (some e) H') :
  jh Ck (ma Ck "room" "ask") (ac (af i1) (ac (af i2) ao)) W D σ H:=by
 refine ⟨_,h1,_,h2,(by show 2<=sizeLine; decide),fun e he=>⟨e,_,_,rfl,aa,fun d H' e1 e2 nd kp=>⟨rfl,some d,e1,k e _ ⟨fun b o q=>?_,d,aa,by rw [aj nd]; exact e2⟩⟩⟩⟩
 have nb:b≠e:=ah q he
 rw [aj nb]
 exact kp b o (by rw [aj nb]; exact q) nb
def ee (C Ck:Addr):Sp:=fun vs H Q E=>∃(x:Addr) (asks says rooms:List Str) (ds:List au),vs=[.ref x]/\MachAt C H x asks says rooms ds /\
 (lack ds asks rooms=none->∀H',Same H H'->Q .non H')/\∀r a,lack ds asks rooms=some (r,a)->∀e H',XTk Ck r a H H' e->E (.ref Ck) (some e) H'
theorem lp {K:PySem.W.Frag}{C Ck:Addr}{vs:List V}{H:Hp}{Q:VK}{E:XK}(h:ee C Ck vs H Q E):df K C (jq C) (jv C) (sp_takes C) Ck (ma Ck "room" "ask") (fun _=>E) { nx:=fun _ H'=>Q .non H',rt:=Q } (start dI vs) H:=by
 obtain ⟨x,asks,says,rooms,ds,rfl,M,k,kx⟩:=h
 obtain ⟨dx,fs,o1,o2,o3,o4,lv,qu,sgA,sl,ts,lps,gps,sps,g1,a1,a2,a3,a4,_⟩:=id M.at_
 refine ⟨_,rfl,x,dx,fs,rfl,g1,a4,x,asks,says,rooms,ds,rfl,M,fun l1 h1=>?_⟩
 have S1:Same H (upd H l1 (.lst (rooms.map V.str))):=Same.new h1
 have e1:upd H l1 (.lst (rooms.map V.str)) l1=some (.lst (rooms.map V.str)):=aa
 generalize upd H l1 (.lst (rooms.map V.str))=H1 at S1 e1 ⊢
 refine ⟨l1,rfl,⟨_,SqL.of e1⟩,?_⟩
 refine aV (xs:=rooms.map V.str) (fun i σ H'=>∃y z,σ=[some (.ref x),y,z]/\Same H1 H'/\∀r∈rooms.take i,∀a∈asks,takesB ds r a=true) ⟨_,_,rfl,Same.refl _,by simp⟩ (fun i σ H' _ ⟨_,_,_,S,_⟩=>SqL.of (S _ _ e1)) ?_ ?_
 ·rintro i v σ H2 hi ⟨y,z,rfl,S2,ok⟩
  obtain ⟨r,hr,rfl⟩:=aS hi
  have M2:=M.same (S1.trans S2)
  obtain ⟨dx,fs,g1,a1,_⟩:=id M2.more
  refine ⟨_,rfl,x,dx,fs,rfl,g1,a1,x,asks,says,rooms,ds,rfl,M2,fun l2 h2=>?_⟩
  have S3:Same H1 (upd H2 l2 (.lst (asks.map V.str))):=S2.trans (Same.new h2)
  have e2:upd H2 l2 (.lst (asks.map V.str)) l2=some (.lst (asks.map V.str)):=aa
  generalize upd H2 l2 (.lst (asks.map V.str))=H3 at S3 e2 ⊢
  refine ⟨l2,rfl,⟨_,SqL.of e2⟩,?_⟩
  refine aV (xs:=asks.map V.str) (fun j σ H'=>∃z,σ=[some (.ref x),some (.str r),z]/\Same H3 H'/\∀a∈asks.take j,takesB ds r a=true) ⟨_,rfl,Same.refl _,by simp⟩ (fun i σ H' _ ⟨_,_,S,_⟩=>SqL.of (S _ _ e2)) ?_ ?_
  ·rintro j v σ H4 hj ⟨z,rfl,S4,okj⟩
   obtain ⟨a,ha,rfl⟩:=aS hj
   have S14:=(S1.trans S3).trans S4
   refine ⟨_,rfl,_,rfl,_,rfl,x,r,a,asks,says,rooms,ds,rfl,M.same S14,List.mem_of_getElem? hr,fun H5 S5=>⟨_,rfl,?_⟩⟩
   cases q:takesB ds r a with
   | true =>
    refine bp ⟨_,rfl,S4.trans S5,fun b hb=>?_⟩
    rw [aq ha] at hb
    rcases List.mem_append.mp hb with hb | hb
    ·exact okj b hb
    ·have:b=a:=by simpa using hb
     rw [this]; exact q
   | false =>
    refine cb ?_
    exact rg rfl rfl fun e H' ⟨S,X⟩=>kx r a (lD ok hr (h_ okj ha q)) e H' ⟨(S14.trans S5).trans S,X⟩
  ·rintro σ H4 ⟨z,rfl,S4,okj⟩
   rw [List.length_map,List.take_length] at okj
   refine ⟨_,_,rfl,S3.trans S4,fun b hb=>?_⟩
   rw [aq hr] at hb
   rcases List.mem_append.mp hb with hb | hb
   ·exact ok b hb
   ·have:b=r:=by simpa using hb
    rw [this]; exact okj
 ·rintro σ H2 ⟨y,z,rfl,S2,ok⟩
  rw [List.length_map,List.take_length] at ok
  exact k (h9 ok) H2 (S1.trans S2)
def sp_need_taker (C Cm Ck:Addr):Sp:=fun vs H Q E=>∃(x y:Addr) (asks says rooms asks' says' rooms':List Str) (ds ds':List au),vs=[.ref x,.ref y]/\MachAt C H x asks says rooms ds/\MachAt C H y asks' says' rooms' ds' /\
 (asks=asks'->says=says'->lack ds' asks' rooms'=none->∀H',Same H H'->Q .non H')/\(¬(asks=asks'/\says=says')->∀a H',vh Cm H H' a->E (.ref Cm) (some a) H') /\
 (asks=asks'->says=says'->∀r a,lack ds' asks' rooms'=some (r,a)->∀e H',XTk Ck r a H H' e->E (.ref Ck) (some e) H')
theorem jz {K:PySem.W.Frag}{C Cm Ck:Addr}{vs:List V}{H:Hp}{Q:VK}{E:XK}(h:sp_need_taker C Cm Ck vs H Q E):j4 K (ee C Ck) (sp_need_match C Cm) (fun _=>E) { nx:=fun _ H'=>Q .non H',rt:=Q } (start kP vs) H:=by
 obtain ⟨x,y,asks,says,rooms,asks',says',rooms',ds,ds',rfl,M,N,k,km,kx⟩:=h
 refine ⟨_,rfl,_,rfl,x,y,asks,says,rooms,asks',says',rooms',ds,ds',rfl,M,N,fun e1 e2 H1 S1=>?_,km⟩
 exact ⟨_,rfl,y,asks',says',rooms',ds',rfl,N.same S1,fun e H2 S2=>k e1 e2 e H2 (S1.trans S2),fun r a e ex H' ⟨S,X⟩=>kx e1 e2 r a e ex H' ⟨S1.trans S,X⟩⟩
def sN (F:List Str) (a:Str) (d:au):Bool:=decide (d.a∈F) && decide (d.sg=cy a)
theorem gE {ds:List au}{F:List Str}{r a:Str}(hF:∀w,w∈F↔From ds [r] w):ds.filter (sN F a)=[]↔takesB ds r a=false:=by
 rw [j3,List.filter_eq_nil_iff]
 constructor
 ·rintro h ⟨w,hw,b,hb⟩
  refine h _ hb ?_
  unfold sN
  rw [decide_eq_true,decide_eq_true]
  ·rfl
  ·rfl
  ·exact (hF w).mpr ⟨r,List.mem_cons_self,hw⟩
 ·intro n d hd q
  unfold sN at q
  rw [Bool.and_eq_true] at q
  have q1:=of_decide_eq_true q.1
  have q2:=of_decide_eq_true q.2
  obtain ⟨g,hg,e⟩:=(hF _).mp q1
  have:g=r:=by simpa using hg
  subst this
  obtain ⟨x,sg,b⟩:=d
  exact n ⟨x,e,b,by rw [<-q2]; exact hd⟩
theorem mI {K:PySem.W.Frag}{σ:L2.St}{jt ja:Nat}{l4 f l:Addr}{ts:List Addr}{ds:List au}{F:List Str}{a:Str}{H1:Hp}{Q:Hp->Prop}(st:σ[jt]?=some (some (.ref f))) (sa:σ[ja]?=some (some (.str a)))
  (h4:H1 l4=some (.lst (ts.map V.ref))) (hd:Doors H1 ts ds) (hf:H1 f=some (.lst (F.map V.str))) (z:ds.length<=1000) (hl:H1 l=none)
  (k:∀(us:List Addr) (H':Hp),H' l=some (.lst (us.map V.ref))->Doors H' us (ds.filter (sN F a))->Same H1 H'->Q H') :
  dU 1 [jt,ja] σ (Itl K l4) (am 0) (qR (aI (tOp (sA K false) (tOp (rIx K) (af 0) (tC (.int 0))) (af 1))) (aI (tOp (oW K) (tOp (rIx K) (af 0) (tC (.int 1))) (d4 (ac (tC (.str "ask")) (ac (af 2) ao)))))) (af 0) H1 l Q:=by
 have cs:bG 1 [jt,ja] σ=[none,some (.ref f),some (.str a)]:=by simp [bG,st,sa]
 refine cM (xs:=ts.map V.ref) (fun i vs H'=>∃us:List Addr,vs=us.map V.ref/\Doors H' us ((ds.take i).filter (sN F a))/\Same H1 H'/\H' l=some (.lst vs))
  ⟨[],rfl,.nil,Same.new hl,aa⟩ (fun i vs H' _ ⟨_,_,_,S,h'⟩=>⟨h',SqL.of (S _ _ h4)⟩) ?_ ?_
 ·rintro vs H' ⟨us,rfl,D,S,h'⟩
  rw [List.length_map,Paired.length hd,List.take_length] at D
  exact k us H' h' D S
 ·rintro i vs H' y hy hi ⟨us,rfl,D,S,h'⟩
  obtain ⟨u,hu,rfl⟩:=dS hy
  obtain ⟨dr,hdr,hat⟩:=Paired.getL hd hu
  obtain ⟨sb,ht2,hs2⟩:=hat.kt (Same.kt S)
  have hi':i<ds.length:=(List.getElem?_eq_some_iff.mp hdr).1
  have zu:us.length<=i:=by
   have:=Paired.length D
   rw [this]
   refine Nat.le_trans (List.length_filter_le _ _) ?_
   rw [List.length_take]; omega
  rw [cs]
  refine gN ?_
  refine ⟨_,rfl,.inr (.inl ⟨u,_,0,_,rfl,rfl,SqT.of ht2,rfl,_,rfl,sDT dr.a,F.map sDT,f,_,nK _,rfl,.inl (SqL.of (S _ _ hf)),kE _,(by show 0<=8; decide),by rw [cU]; decide,_,rfl,?_⟩)⟩
  rw [if_neg Bool.false_ne_true,ud]
  by_cases c1:dr.a∈F
  rotate_left
  ·rw [decide_eq_false c1]
   refine bp (bp (nxt hi ⟨us,rfl,?_,S,h'⟩))
   rw [dC hdr,if_neg (by unfold sN; rw [decide_eq_false c1,Bool.false_and]; decide),List.append_nil]; exact D
  rw [decide_eq_true c1]
  refine cb ?_
  refine ⟨_,rfl,.inr (.inl ⟨u,_,1,_,rfl,rfl,SqT.of ht2,rfl,_,rfl,(by show 2<=sizeLine; decide),fun s hs=>?_⟩)⟩
  have S2:Same H' (upd H' s (.tup ((cy a).map V.str))):=Same.new hs
  have e2:upd H' s (.tup ((cy a).map V.str)) s=some (.tup ((cy a).map V.str)):=aa
  have e2':(.tup [.str "ask",.str a]:HO)=.tup ((cy a).map V.str):=rfl
  rw [e2']
  generalize upd H' s (.tup ((cy a).map V.str))=H2 at S2 e2 ⊢
  have D2:=D.kt (Same.kt S2)
  refine ⟨gDT dr.sg,gDT (cy a),cW (SqT.of (S2 _ _ hs2)),cW (SqT.of e2),by rw [fM]; decide,by rw [fM]; decide,_,rfl,?_⟩
  rw [p4]
  by_cases c2:dr.sg=cy a
  rotate_left
  ·rw [decide_eq_false c2]
   refine bp (nxt hi ⟨us,rfl,?_,S.trans S2,S2 _ _ h'⟩)
   rw [dC hdr,if_neg (by unfold sN; rw [decide_eq_false c2,Bool.and_false]; decide),List.append_nil]; exact D2
  rw [decide_eq_true c2]
  refine cb ?_
  have S3:Same H1 (upd H2 l (.lst (us.map V.ref++[.ref u]))):=fun b o q=>by
   rw [aj (ah q hl)]
   exact S2 _ _ (S _ _ q)
  have kt:KT0 H2 (upd H2 l (.lst (us.map V.ref++[.ref u]))):=fun b xs q=>by
   rw [aj (fun z=>by rw [z,S2 _ _ h'] at q; cases q)]; exact q
  refine ⟨_,rfl,S2 _ _ h',by rw [List.length_map]; exact aA (by omega),nxt hi ⟨us++[u],by rw [List.map_append]; rfl,?_,S3,aa⟩⟩
  rw [dC hdr,if_pos (by unfold sN; rw [decide_eq_true c1,decide_eq_true c2]; rfl)]
  exact Paired.snoc (D2.kt kt) ⟨sb,kt _ _ (S2 _ _ ht2),kt _ _ (S2 _ _ hs2)⟩
theorem mD {K:PySem.W.Frag}{H:Hp}{l q:Addr}{ts:List Addr}{ds:List au}{Q:VK}(hl:H l=some (.lst (ts.map V.ref))) (hd:Doors H ts ds) (hq:H q=some (.lst [])) (h:Q (.bl (decide (ds=[]))) H):oW K (.ref l) (.ref q) H Q:=by
 refine ⟨.s (ds.map dDT),.s [],(by unfold DIn; exact ⟨l,_,rfl,SqL.of hl,hd.dIns⟩),(by unfold DIn; exact ⟨q,_,rfl,SqL.of hq,by unfold DIns; rfl⟩),?_,(by decide),?_⟩
 ·show DT.depths _+1<=8
  have:=nJ ds
  omega
 ·rw [decide_eq_decide.mpr (show DT.s (ds.map dDT)=DT.s []↔ds=[] from ⟨fun z=>List.map_eq_nil_iff.mp (by injection z),fun z=>by rw [z]; rfl⟩)]
  exact h
def js (K:PySem.W.Frag):Sp:=fun vs H Q _=>∃(t l1 l2 l3 l4:Addr) (ts:List Addr) (asks says rooms:List Str) (ds:List au),vs=[.ref t]/\Told H t l1 l2 l3 l4 ts asks says rooms ds/\ModelOk asks says rooms ds /\
 (lack ds asks rooms=none->∀H',Same H H'->Q .non H')/\∀r a,lack ds asks rooms=some (r,a)->∀u H',H' u=some (.tup [.str r,.str a])->Same H H'->Q (.ref u) H'
theorem tI {K:PySem.W.Frag}{vs:List V}{H:Hp}{Q:VK}{E:XK}(h:js K vs H Q E):mR K (cR K) { nx:=fun _ H'=>Q .non H',rt:=Q } (start nW vs) H:=by
 obtain ⟨t,l1,l2,l3,l4,ts,asks,says,rooms,ds,rfl,T,m,k,kx⟩:=h
 have hb:∀d∈ds,d.b∈rooms:=fun d hd=>(m.good d hd).b
 have z3:=m.rooms26
 have z4:=m.few
 refine ⟨_,rfl,.inr (.inl ⟨t,_,2,_,rfl,rfl,SqT.of T.t,rfl,l3,rfl,⟨_,SqL.of T.a3⟩,?_⟩)⟩
 refine aV (xs:=rooms.map V.str) (fun i σ H'=>∃x y z,σ=[some (.ref t),x,y,z]/\Same H H'/\∀r∈rooms.take i,∀a∈asks,takesB ds r a=true) ⟨_,_,_,rfl,Same.refl _,by simp⟩ (fun i σ H' _ ⟨_,_,_,_,S,_⟩=>SqL.of (S _ _ T.a3)) ?_ ?_
 ·rintro i v σ H1 hi ⟨x,y,z,rfl,S1,ok⟩
  obtain ⟨r,hr,rfl⟩:=aS hi
  have T1:=T.same S1
  refine ⟨_,rfl,.inr (.inl ⟨t,_,3,_,rfl,rfl,SqT.of T1.t,rfl,_,rfl,(by show 1<=sizeLine; decide),fun q hq=>?_⟩)⟩
  have T2:=T1.same (Same.new (o:=.lst [.str r]) hq)
  refine ⟨l4,q,ts,ds,[r],rooms,rfl,T2.a4,T2.ds,aa,hb,by omega,by simp,fun f F H2 hf hF _ _ S2=>?_⟩
  have S12:Same H1 H2:=(Same.new hq).trans S2
  have T3:=T1.same S12
  refine ⟨_,rfl,.inr (.inl ⟨t,_,0,_,rfl,rfl,SqT.of T3.t,rfl,l1,rfl,⟨_,SqL.of T3.a1⟩,?_⟩)⟩
  refine aV (xs:=asks.map V.str) (fun j σ H'=>∃z,σ=[some (.ref t),some (.str r),some (.ref f),z]/\Same H2 H'/\∀a∈asks.take j,takesB ds r a=true) ⟨_,rfl,Same.refl _,by simp⟩ (fun i σ H' _ ⟨_,_,S,_⟩=>SqL.of (S _ _ T3.a1)) ?_ ?_
  ·rintro j v σ H4 hj ⟨z,rfl,S4,okj⟩
   obtain ⟨a,ha,rfl⟩:=aS hj
   have T4:=T3.same S4
   have f4:=S4 _ _ hf
   refine ⟨_,rfl,.inr (.inl ⟨t,_,3,_,rfl,rfl,SqT.of T4.t,rfl,l4,rfl,⟨_,SqL.of T4.a4⟩,fun l hl=>?_⟩)⟩
   refine mI (K:=K) (jt:=2) (ja:=3) rfl rfl T4.a4 T4.ds f4 z4 hl fun us H5 h5 D5 S5=>⟨(by show 0<=sizeLine; decide),fun e he=>?_⟩
   refine mD (kp h5 he) (D5.kt (Same.kt (Same.new he))) aa ⟨_,rfl,?_⟩
   have S6:Same H4 (upd H5 e (.lst [])):=S5.trans (Same.new he)
   generalize upd H5 e (.lst [])=H6 at S6 ⊢
   cases q:takesB ds r a with
   | true =>
    rw [decide_eq_false (fun z=>by rw [gE hF,q] at z; cases z)]
    refine bp ⟨_,rfl,S4.trans S6,fun b hb=>?_⟩
    rw [aq ha] at hb
    rcases List.mem_append.mp hb with hb | hb
    ·exact okj b hb
    ·have:b=a:=by simpa using hb
     rw [this]; exact q
   | false =>
    rw [decide_eq_true ((gE hF).mpr q)]
    refine cb ⟨_,rfl,_,rfl,(by show 2<=sizeLine; decide),fun u hu=>?_⟩
    exact kx r a (lD ok hr (h_ okj ha q)) u _ aa ((((S1.trans S12).trans S4).trans S6).trans (Same.new hu))
  ·rintro σ H4 ⟨z,rfl,S4,okj⟩
   rw [List.length_map,List.take_length] at okj
   refine ⟨_,_,_,rfl,(S1.trans S12).trans S4,fun b hb=>?_⟩
   rw [aq hr] at hb
   rcases List.mem_append.mp hb with hb | hb
   ·exact ok b hb
   ·have:b=r:=by simpa using hb
    rw [this]; exact okj
 ·rintro σ H2 ⟨x,y,z,rfl,S2,ok⟩
  rw [List.length_map,List.take_length] at ok
  exact k (h9 ok) H2 S2
theorem Reach.unask {ds:List au}{d:au}(n:d.sg≠stillSg) {a b:Str}(r:Reach (ds++[d]) a b):Reach ds a b:=by
 have key:∀{x y:Str},(⟨x,stillSg,y⟩:au)∈ds++[d]->(⟨x,stillSg,y⟩:au)∈ds:=fun q=>by
  rcases List.mem_append.mp q with q | q
  ·exact q
  ·have e:=List.mem_singleton.mp q
   exact absurd (by rw [<-e]) n
 induction r with
 | one q=>exact .one (key q)
 | step _ q ih=>exact .step ih (key q)
theorem Takes.mono {ds es:List au}(h:∀d∈ds,d∈es) {r a:Str}:Takes ds r a->Takes es r a:=fun ⟨w,hw,b,hb⟩=>⟨w,hw.imp id (Reach.mono fun x y=>h _),b,h _ hb⟩
theorem mem_putD {ds:List au}{d x:au}:x∈mh ds d↔x∈ds∨x=d:=by
 unfold mh
 split
 ·rename_i h; exact ⟨.inl,fun z=>z.elim id fun e=>by rw [e]; exact h⟩
 ·simp
theorem ModelOk.putOne {asks says rooms:List Str}{ds:List au}{d:au}(m:ModelOk asks says rooms ds) (g:qy asks says rooms d) (n:d.sg≠stillSg) (z:ds.length+1<=1000):ModelOk asks says rooms (mh ds d):=by
 refine ⟨m.okA,m.okS,m.apart,m.okR,m.asks0,m.says0,m.rooms0,m.asks4,m.says4,m.rooms26,?_,fun x hx=>?_,?_,fun r q=>?_⟩
 ·unfold mh
  split
  ·exact m.nodup
  ·rename_i h
   rw [List.nodup_append]
   exact ⟨m.nodup,by simp,fun a ha b hb e=>h (by rw [<-List.mem_singleton.1 hb,<-e]; exact ha)⟩
 ·rcases mem_putD.mp hx with h | h
  ·exact m.good x h
  ·rw [h]; exact g
 ·have:=mf ds d; omega
 ·refine m.noround r ?_
  unfold mh at q
  split at q
  ·exact q
  ·exact q.unask n
theorem qp (a:Str):cy a≠stillSg:=by unfold cy stillSg; intro h; injection h with _ h; cases h
structure TX (H0:Hp) (p c l:Addr) (R:List au->Prop) (H:Hp):Prop where
 pen:Pen H p c
 ds:∃ts ds,H l=some (.lst (ts.map V.ref))/\Doors H ts ds/\R ds
 ex:ExB p H0 H
 fr:H0 l=none
 pl:p≠l
 cl:c≠l
section
variable {H0 H H':Hp}{p c l:Addr}{R R':List au->Prop}
theorem TX.took (h:TX H0 p c l R H) (hp:Pen H' p c) (e:ExB p H H'):TX H0 p c l R H':=by
 obtain ⟨ts,ds,h1,h2,h3⟩:=h.ds
 obtain ⟨xs,hx⟩:=h.pen.lst
 exact ⟨hp,⟨ts,ds,e _ _ h1 h.pl.symm,h2.kt (e.kt hx),h3⟩,h.ex.trans e,h.fr,h.pl,h.cl⟩
theorem TX.same (h:TX H0 p c l R H) (S:Same H H'):TX H0 p c l R H':=h.took (h.pen.ex S) (Same.exB S)
theorem TX.imp (h:TX H0 p c l R H) (q:∀ds,R ds->R' ds):TX H0 p c l R' H:=by
 obtain ⟨ts,ds,h1,h2,h3⟩:=h.ds
 exact ⟨h.pen,⟨ts,ds,h1,h2,q _ h3⟩,h.ex,h.fr,h.pl,h.cl⟩
theorem TX.put {ts:List Addr}{ds:List au}(h:TX H0 p c l R H) (hl:∃xs,H l=some (.lst xs)) (hd:Doors H ts ds) (r:R' ds):TX H0 p c l R' (upd H l (.lst (ts.map V.ref))):=by
 obtain ⟨xs,hx⟩:=hl
 refine ⟨h.pen.upd h.pl h.cl,⟨ts,ds,aa,hd.kt fun b ys q=>?_,r⟩,fun b o q n=>?_,h.fr,h.pl,h.cl⟩
 ·rw [aj (fun z=>by rw [z,hx] at q; cases q)]; exact q
 ·rw [aj (ah q h.fr)]; exact h.ex _ _ q n
end
def WR (asks says rooms:List Str) (D:List (Str×Str)) (n:Nat) (ds:List au):Prop:=ModelOk asks says rooms ds/\ds.length<=n/\∀x∈D,Takes ds x.1 x.2
theorem WR.up {asks says rooms:List Str}{D:List (Str×Str)}{n n':Nat}{ds:List au}(h:WR asks says rooms D n ds) (z:n<=n'):WR asks says rooms D n' ds:=⟨h.1,Nat.le_trans h.2.1 z,h.2.2⟩
def fz:Sp:=fun vs H Q _=>∃(p c t l1 l2 l3 l4:Addr) (ts:List Addr) (asks says rooms:List Str) (ds:List au),vs=[.ref p,.ref t]/\Pen H p c/\Told H t l1 l2 l3 l4 ts asks says rooms ds/\ModelOk asks says rooms ds/\rooms.length<=26/\ds.length<=800 /\
 ∀(t' l4':Addr) (ts':List Addr) (ds':List au) (H':Hp),Told H' t' l1 l2 l3 l4' ts' asks says rooms ds'->ModelOk asks says rooms ds'->(∀r∈rooms,∀a∈asks,Takes ds' r a)->ds'.length<=ds.length+4 * rooms.length->Pen H' p c->ExB p H H'->Q (.ref t') H'
theorem nc {K:PySem.W.Frag}{vs:List V}{H:Hp}{Q:VK}{E:XK}(h:fz vs H Q E):je K eR bJ (cR K) { nx:=fun _ H'=>Q .non H',rt:=Q } (start jS vs) H:=by
 obtain ⟨p,c,t,l1,l2,l3,l4,ts,asks,says,rooms,ds,rfl,hp,T,m,z26,z8,k⟩:=h
 have a4:=m.asks4
 refine ⟨_,rfl,t,_,rfl,SqT.of T.t,rfl,_,_,rfl,_,_,rfl,_,_,rfl,_,_,rfl,rfl,?_⟩
 refine ⟨_,rfl,.inl ⟨l4,_,rfl,.inl (SqL.of T.a4),fun f hf=>?_⟩⟩
 have B0:TX H p c f (WR asks says rooms [] ds.length) (upd H f (.lst (ts.map V.ref))):=⟨hp.ex (Same.new hf),⟨ts,ds,aa,T.ds.kt (Same.kt (Same.new hf)),m,Nat.le_refl _,by simp⟩,ExB.new hf,hf,hp.nep hf,hp.nec hf⟩
 generalize upd H f (.lst (ts.map V.ref))=H1 at B0 ⊢
 have keep:∀{H':Hp}{R:List au->Prop},TX H p c f R H'->H' l1=some (.lst (asks.map V.str))/\H' l2=some (.lst (says.map V.str))/\H' l3=some (.lst (rooms.map V.str)):=fun B =>
  ⟨B.ex _ _ T.a1 (hp.ne_strs T.a1),B.ex _ _ T.a2 (hp.ne_strs T.a2),B.ex _ _ T.a3 (hp.ne_strs T.a3)⟩
 refine ⟨_,rfl,l3,rfl,⟨_,SqL.of (keep B0).2.2⟩,?_⟩
 refine aV (xs:=rooms.map V.str) (fun i σ H'=>∃a6 a7 a8 a9:Option V,σ=[some (.ref p),some (.ref t),some (.ref l1),some (.ref l2),some (.ref l3),some (.ref f),a6,a7,a8,a9]/\TX H p c f (WR asks says rooms ((rooms.take i).flatMap fun r=>asks.map fun a=>(r,a)) (ds.length+4 * i)) H')
  ⟨_,_,_,_,rfl,B0⟩ (fun i σ H' _ ⟨_,_,_,_,_,B⟩=>SqL.of (keep B).2.2) ?_ ?_
 ·rintro i v σ H2 hi ⟨a6,a7,a8,a9,rfl,B2⟩
  obtain ⟨r,hr,rfl⟩:=aS hi
  have hir:i<rooms.length:=(List.getElem?_eq_some_iff.mp hr).1
  have hrm:=List.mem_of_getElem? hr
  refine ⟨_,rfl,l1,rfl,⟨_,SqL.of (keep B2).1⟩,?_⟩
  refine aV (xs:=asks.map V.str) (fun j σ H'=>∃a7 a8 a9:Option V,σ=[some (.ref p),some (.ref t),some (.ref l1),some (.ref l2),some (.ref l3),some (.ref f),some (.str r),a7,a8,a9]/\TX H p c f (WR asks says rooms ((rooms.take i).flatMap (fun r=>asks.map fun a=>(r,a))++(asks.take j).map fun a=>(r,a)) (ds.length+4 * i+j)) H')
   ⟨_,_,_,rfl,B2.imp fun ds h=>by simpa using h⟩ (fun i σ H' _ ⟨_,_,_,_,B⟩=>SqL.of (keep B).1) ?_ ?_
  ·rintro j v σ H3 hj ⟨a7,a8,a9,rfl,B3⟩
   obtain ⟨a,ha,rfl⟩:=aS hj
   have hja:j<asks.length:=(List.getElem?_eq_some_iff.mp ha).1
   have ham:=List.mem_of_getElem? ha
   have fin:∀es n,WR asks says rooms ((rooms.take i).flatMap (fun r=>asks.map fun a=>(r,a))++(asks.take j).map fun a=>(r,a)) n es->Takes es r a->WR asks says rooms ((rooms.take i).flatMap (fun r=>asks.map fun a=>(r,a))++(asks.take (j+1)).map fun a=>(r,a)) n es:=fun es n w tk=>by
    refine ⟨w.1,w.2.1,fun x hx=>?_⟩
    rw [aq ha,List.map_append,<-List.append_assoc] at hx
    rcases List.mem_append.mp hx with h | h
    ·exact w.2.2 x h
    ·have:x=(r,a):=by simpa using h
     rw [this]; exact tk
   refine ⟨_,rfl,_,rfl,(by show 1<=sizeLine; decide),fun q hq=>?_⟩
   have B4:=B3.same (Same.new (o:=.lst [.str r]) hq)
   have q4:upd H3 q (.lst [.str r]) q=some (.lst [.str r]):=aa
   generalize upd H3 q (.lst [.str r])=H4 at B4 q4 ⊢
   obtain ⟨us,es,g1,g2,g3⟩:=B4.ds
   refine ⟨f,q,us,es,[r],rooms,rfl,g1,g2,q4,fun d hd=>(g3.1.good d hd).b,by omega,(by show 1<=1000; decide),fun th F H5 hth hF _ _ S5=>?_⟩
   have B5:=B4.same S5
   have f5:=S5 _ _ g1
   have d5:=g2.kt (Same.kt S5)
   refine ⟨_,rfl,f,rfl,⟨_,SqL.of f5⟩,fun l hl=>?_⟩
   refine mI (K:=K) (jt:=8) (ja:=7) rfl rfl f5 d5 hth g3.1.few hl fun vs H6 h6 D6 S6=>⟨(by show 0<=sizeLine; decide),fun e he=>?_⟩
   refine mD (kp h6 he) (D6.kt (Same.kt (Same.new he))) aa ⟨_,rfl,?_⟩
   have S7:Same H5 (upd H6 e (.lst [])):=S6.trans (Same.new he)
   generalize upd H6 e (.lst [])=H7 at S7 ⊢
   have f7:=S7 _ _ f5
   have d7:=d5.kt (Same.kt S7)
   have B7:TX H p c f (fun ds'=>ds'=es) H7:=by
    have B:=B5.same S7
    exact ⟨B.pen,⟨us,es,f7,d7,rfl⟩,B.ex,B.fr,B.pl,B.cl⟩
   cases q:takesB es r a with
   | true =>
    rw [decide_eq_false (fun z=>by rw [gE hF,q] at z; cases z)]
    exact bp ⟨_,_,_,rfl,B7.imp fun ds' e=>by rw [e]; exact fin _ _ (g3.up (by omega)) (takesB_true.mp q)⟩
   | false =>
    rw [decide_eq_true ((gE hF).mpr q)]
    refine cb ?_
    have l37:=(keep B7).2.2
    refine ⟨_,rfl,_,rfl,_,rfl,_,rfl,.inl ⟨l3,_,rfl,.inl (SqL.of l37),?_⟩⟩
    rw [List.length_map]
    refine bF B7.pen (by omega) (by omega) fun x H8 x0 x1 hp8 ex8=>?_
    obtain ⟨n,rfl⟩:=Int.eq_ofNat_of_zero_le x0
    have B8:=B7.took hp8 ex8
    obtain ⟨w,hw⟩:∃w,rooms[n]?=some w:=⟨_,List.getElem?_eq_getElem (by omega)⟩
    refine ⟨l3,_,(n:Int),.str w,rfl,rfl,SqL.of (keep B8).2.2,dH (j:=n) (by rw [List.getElem?_map,hw]; rfl),(by show 2<=sizeLine; decide),fun u hu=>?_⟩
    have B9:=B8.same (Same.new (o:=.lst [.str r,.str w]) hu)
    have u9:upd H8 u (.lst [.str r,.str w]) u=some (.lst ([r,w].map V.str)):=aa
    generalize upd H8 u (.lst [.str r,.str w])=H9 at B9 u9 ⊢
    refine ⟨_,rfl,bF B9.pen (by decide) (by decide) fun y H10 y0 y1 hp10 ex10=>?_⟩
    have B10:=B9.took hp10 ex10
    obtain ⟨g,hg,hgm⟩:∃g,atI ([r,w].map V.str) y=some (.str g)/\g∈rooms:=by
     have:y=0∨y=1:=by omega
     rcases this with rfl | rfl
     ·exact ⟨r,rfl,hrm⟩
     ·exact ⟨w,rfl,List.mem_of_getElem? hw⟩
    refine ⟨u,_,y,.str g,rfl,rfl,SqL.of (ex10 _ _ u9 (B9.pen.ne_strs u9)),hg,?_⟩
    refine ⟨_,rfl,_,rfl,_,rfl,(by show 2<=sizeLine; decide),fun s hs=>⟨_,rfl,(by show 3<=sizeLine; decide),fun d hd=>?_⟩⟩
    have S12:Same H10 (upd (upd H10 s (.tup [.str "ask",.str a])) d (.tup [.str r,.ref s,.str g])):=(Same.new hs).trans (Same.new hd)
    have at12:DoorAt (upd (upd H10 s (.tup [.str "ask",.str a])) d (.tup [.str r,.ref s,.str g])) d ⟨r,cy a,g⟩:=⟨s,aa,kp aa hd⟩
    generalize upd (upd H10 s (.tup [.str "ask",.str a])) d (.tup [.str r,.ref s,.str g])=H12 at S12 at12 ⊢
    have B12:=B10.same S12
    obtain ⟨us',es',k1,k2,rfl⟩:=id B12.ds
    have zz:=g3.2.1
    have good:qy asks says rooms ⟨r,cy a,g⟩:=⟨hrm,hgm,.inl ⟨a,ham,rfl⟩⟩
    unfold eR
    refine ⟨f,d,us',_,⟨r,cy a,g⟩,rfl,k1,k2,at12,g3.1.few,fun us2 D2=>?_⟩
    refine ⟨_,_,_,rfl,B12.put ⟨_,k1⟩ D2 (fin _ _ ⟨g3.1.putOne good (qp a) (by omega),?_,fun x hx=>(g3.2.2 x hx).mono fun y hy=>mem_putD.mpr (.inl hy)⟩ ⟨r,.inl rfl,g,mem_putD.mpr (.inr rfl)⟩)⟩
    have:=mf es' ⟨r,cy a,g⟩
    omega
  ·rintro σ H3 ⟨a7,a8,a9,rfl,B3⟩
   refine ⟨_,_,_,_,rfl,B3.imp fun es h=>?_⟩
   rw [List.length_map] at h
   refine ⟨h.1,by have:=h.2.1; omega,fun x hx=>h.2.2 x ?_⟩
   rw [aq hr,List.flatMap_append] at hx
   rw [List.take_length]
   simpa using hx
 ·rintro σ H2 ⟨a6,a7,a8,a9,rfl,B2⟩
  rw [List.length_map,List.take_length] at B2
  obtain ⟨us,es,g1,g2,g3⟩:=B2.ds
  obtain ⟨q1,q2,q3⟩:=keep B2
  refine ⟨_,rfl,_,rfl,_,rfl,_,rfl,(by show 4<=sizeLine; decide),fun t' ht'=>?_⟩
  have S3:=Same.new (o:=.tup [.ref l1,.ref l2,.ref l3,.ref f]) ht'
  exact k t' f us es _ ⟨aa,S3 _ _ q1,S3 _ _ q2,S3 _ _ q3,S3 _ _ g1,g2.kt (Same.kt S3)⟩ g3.1 (fun r hr a ha=>g3.2.2 (r,a) (List.mem_flatMap.mpr ⟨r,hr,List.mem_map.mpr ⟨a,ha,rfl⟩⟩)) g3.2.1 (B2.pen.ex S3) (B2.ex.trans (Same.exB S3))
structure AnC (K:PySem.W.Frag) (Ct Ck Cm Cr Cn:Addr):Prop where
 f:XF K Ck ["room","ask"]
 ex:ExK K Ck
 i1:PySem.W.kitOne K (.ref Ck) (.ref Ct)=some true
 i2:PySem.W.kitOne K (.ref Ck) (.type "ValueError")=some true
 i3:PySem.W.kitAny K (.ref Ck) [.ref Cm,.ref Cr,.ref Cn]=some false
def eS (C:Addr):Sp:=fun vs H Q _=>∃(t l1 l2 l3 l4 t' m1 m2 m3 m4:Addr) (ts us:List Addr) (asks says rooms rooms':List Str) (ds ds':List au),vs=[.ref t,.ref t']/\Told H t l1 l2 l3 l4 ts asks says rooms ds/\ModelOk asks says rooms ds/\Told H t' m1 m2 m3 m4 us asks says rooms' ds'/\ModelOk asks says rooms' ds' /\
 (lack ds' asks rooms'=none->∀u l H',H' u=some (.tup [.non,.ref l])->H' l=some (.lst [])->Same H H'->Q (.ref u) H') /\
 ∀r a,lack ds' asks rooms'=some (r,a)->∀u v l H',H' u=some (.tup [.ref v,.ref l])->H' v=some (.tup [.str r,.str a])->H' l=some (.lst (([true,true,false]:List Bool).map V.bl))->Same H H'->Q (.ref u) H'
theorem oS {K:PySem.W.Frag}{C Ct Ck Cm Cr Cn:Addr}(F:AnC K Ct Ck Cm Cr Cn) {vs:List V}{H:Hp}{Q:VK}{E:XK}(h:eS C vs H Q E):j8 K (sp_need_taker C Cm Ck) Ck Cn Cr Cm Ct (fA C) { nx:=fun _ H'=>Q .non H',rt:=Q } (start kS vs) H:=by
 obtain ⟨t,l1,l2,l3,l4,t',m1,m2,m3,m4,ts,us,asks,says,rooms,rooms',ds,ds',rfl,T,m,T',m',k,kx⟩:=h
 refine ⟨_,rfl,t,l1,l2,l3,l4,ts,asks,says,rooms,ds,rfl,T,m,fun x H1 M1 S1=>?_⟩
 refine ⟨_,rfl,t',m1,m2,m3,m4,us,asks,says,rooms',ds',rfl,T'.same S1,m',fun y H2 N2 S2=>?_⟩
 have M2:=M1.same S2
 refine ⟨(by show 0<=sizeLine; decide),fun l hl=>?_⟩
 have S3:Same H2 (upd H2 l (.lst [])):=Same.new hl
 have e3:upd H2 l (.lst []) l=some (.lst []):=aa
 generalize upd H2 l (.lst [])=H3 at S3 e3 ⊢
 have S13:=(S1.trans S2).trans S3
 refine ⟨_,rfl,_,rfl,x,y,asks,says,rooms,asks,says,rooms',ds,ds',rfl,M2.same S3,N2.same S3,fun _ _ lk H4 S4=>?_,fun n=>absurd ⟨rfl,rfl⟩ n,fun _ _ r a lk e H4 X4=>?_⟩
 ·refine ⟨_,rfl,_,rfl,(by show 2<=sizeLine; decide),fun u hu=>?_⟩
  exact k lk u l _ aa (kp (S4 _ _ e3) hu) ((S13.trans S4).trans (Same.new hu))
 ·obtain ⟨S4,d,ha,hd⟩:=X4
  refine ⟨Ck,e,true,rfl,rfl,F.f.self,cb ?_⟩
  refine ⟨_,rfl,e,Ck,d,_,.str r,rfl,ha,hd,F.f.cls,F.f.no _ (by simp),(by simp [List.lookup]),?_⟩
  refine ⟨_,rfl,e,Ck,d,_,.str a,rfl,ha,hd,F.f.cls,F.f.no _ (by simp),?_,(by show 2<=sizeLine; decide),fun v hv=>?_⟩
  ·have:(("ask":Str) == "room")=false:=by decide +kernel
   simp [List.lookup,this]
  have S5:Same H4 (upd H4 v (.tup [.str r,.str a])):=Same.new hv
  have e5:upd H4 v (.tup [.str r,.str a]) v=some (.tup [.str r,.str a]):=aa
  generalize upd H4 v (.tup [.str r,.str a])=H5 at S5 e5 ⊢
  have ha5:=S5 _ _ ha
  have hd5:=S5 _ _ hd
  refine ⟨_,rfl,e,Ck,some d,_,_,_,rfl,.inl ⟨_,rfl,rfl⟩,ha5,.inr ⟨d,_,rfl,hd5⟩,F.ex,F.i1,?_⟩
  refine ⟨_,rfl,e,Ck,some d,_,_,_,rfl,.inr ⟨_,rfl,rfl⟩,ha5,.inr ⟨d,_,rfl,hd5⟩,F.ex,F.i2,?_⟩
  refine ⟨_,rfl,(by show 3<=sizeLine; decide),fun w hw=>?_⟩
  have S6:Same H5 (upd H5 w (.tup [.ref Cm,.ref Cr,.ref Cn])):=Same.new hw
  refine ⟨e,Ck,w,some d,[Cm,Cr,Cn],false,rfl,aa,S6 _ _ ha5,.inr ⟨d,_,rfl,S6 _ _ hd5⟩,F.ex,F.i3,(by show 3<=sizeLine; decide),fun l2 hl2=>?_⟩
  have S7:=Same.new (o:=.lst [.bl true,.bl true,.bl false]) hl2
  have S57:=S6.trans S7
  refine ⟨_,rfl,_,rfl,(by show 2<=sizeLine; decide),fun u hu=>?_⟩
  have S8:=Same.new (o:=.tup [.ref v,.ref l2]) hu
  exact kx r a lk u v l2 _ aa (S8 _ _ (S57 _ _ e5)) (kp aa hu) ((((S13.trans S4).trans S5).trans S57).trans S8)
def jp (K:PySem.W.Frag):Sp:=fun vs H Q E=>gQ K 2 vs H Q E∨∃x,vs=[x,.non]/\Q (.bl (decide (x=.non))) H
theorem oQ {K:PySem.W.Frag}{sp:Sp}{vs:List V}{H:Hp}{Q:VK}{x:V}(h:vs=[x,.non]/\Q (.bl (decide (x=.non))) H):fo K sp { nx:=fun _ H'=>Q .non H',rt:=Q } (start i_ vs) H:=by
 obtain ⟨rfl,k⟩:=h
 refine ⟨_,rfl,_,rfl,?_⟩
 rw [decide_eq_true rfl]
 exact cb ⟨_,rfl,k⟩
def sp_law17 (K:PySem.W.Frag):Sp:=fun vs H Q _=>∃(a:Addr) (ns:List Int),vs=[.ref a]/\SqL K H a (ns.map V.int)/\ns.length<=63/\∀H',Q (.bl true) H'
abbrev u3 (K:PySem.W.Frag) (sp_law_same sp_law_answer sp_law_lack:Sp):TS :=
 aB (ft (cc K (eP (ac (af 4) (ac (af 2) (ac (af 4) ao))))) (am 5) (aB (ba (av sp_law_lack [] E0 (ac (af 5) ao)) (am 6))
 (aB (ba (av sp_law_answer [] E0 (ac (af 2) (ac (af 5) ao))) (lG K 2 (bc (am 7) (bc (am 8) (lH)))))
 (c8 (tOr (qN (tB (av sp_law_same [] E0 (ac (af 7) (ac (af 6) ao))))) (qR (tB (qM (af 6))) (aI (tOp (vE K) (af 8) (eP (ac (tC (.bl true)) (ac (tC (.bl true)) (ac (tC (.bl false)) ao)))))))) (bj (tC (.bl false))) (aR)))))
 (bj (tC (.bl true)))
theorem i5 {K:PySem.W.Frag}{C:Addr}{H:Hp}{Q:VK}{x0 x1 x3:Option V}{t l1 l2 l3 l4 t' m1 m2 m3 m4:Addr}{ts us:List Addr}{asks says rooms rooms':List Str}{ds ds':List au}(T:Told H t l1 l2 l3 l4 ts asks says rooms ds) (m:ModelOk asks says rooms ds) (T':Told H t' m1 m2 m3 m4 us asks says rooms' ds') (m':ModelOk asks says rooms' ds') (k:∀H',Q (.bl true) H') :
  u3 K (jp K) (eS C) (js K) { nx:=fun _ H'=>Q .non H',rt:=Q } [x0,x1,some (.ref t),x3,some (.ref t'),none,none,none,none] H:=by
 refine ⟨_,rfl,_,rfl,_,rfl,(by show 3<=sizeLine; decide),fun q hq=>?_⟩
 have S0:Same H (upd H q (.lst [.ref t',.ref t,.ref t'])):=Same.new hq
 have e0:upd H q (.lst [.ref t',.ref t,.ref t']) q=some (.lst [.ref t',.ref t,.ref t']):=aa
 generalize upd H q (.lst [.ref t',.ref t,.ref t'])=H1 at S0 e0 ⊢
 refine ⟨q,rfl,⟨_,SqL.of e0⟩,?_⟩
 refine aV (xs:=[.ref t',.ref t,.ref t']) (fun i σ H'=>∃a5 a6 a7 a8,σ=[x0,x1,some (.ref t),x3,some (.ref t'),a5,a6,a7,a8]/\Same H1 H') ⟨_,_,_,_,rfl,Same.refl _⟩ (fun i σ H' _ ⟨_,_,_,_,_,S⟩=>SqL.of (S _ _ e0)) ?_ ?_
 ·rintro i v σ H2 hi ⟨a5,a6,a7,a8,rfl,S2⟩
  have TT:=T.same (S0.trans S2)
  obtain ⟨o,n1,n2,n3,n4,vs,rms,es,rfl,To,mo⟩:∃o n1 n2 n3 n4 vs rms es,v=.ref o/\Told H2 o n1 n2 n3 n4 vs asks says rms es/\ModelOk asks says rms es:=by
   have T2:=T'.same (S0.trans S2)
   match i,hi with
   | 0,hi=>cases hi; exact ⟨_,_,_,_,_,_,_,_,rfl,T2,m'⟩
   | 1,hi=>cases hi; exact ⟨_,_,_,_,_,_,_,_,rfl,TT,m⟩
   | 2,hi=>cases hi; exact ⟨_,_,_,_,_,_,_,_,rfl,T2,m'⟩
   | n+3,hi=>cases hi
  refine ⟨_,rfl,o,n1,n2,n3,n4,vs,asks,says,rms,es,rfl,To,mo,fun lk H3 S3=>?_,fun r a lk u H3 hu S3=>?_⟩
  ·refine ⟨_,rfl,_,rfl,t,l1,l2,l3,l4,o,n1,n2,n3,n4,ts,vs,asks,says,rooms,rms,ds,es,rfl,TT.same S3,m,To.same S3,mo,fun _ u l H4 hu hl S4=>?_,fun r a z=>by rw [lk] at z; cases z⟩
   refine ⟨u,_,rfl,SqT.of hu,rfl,_,_,rfl,_,_,rfl,rfl,?_⟩
   refine ⟨_,rfl,_,rfl,.inr ⟨_,rfl,_,rfl,?_⟩⟩
   rw [decide_eq_true rfl]
   refine bp ⟨_,rfl,_,rfl,?_⟩
   rw [decide_eq_true rfl]
   exact bp (bp ⟨_,_,_,_,rfl,(S2.trans S3).trans S4⟩)
  ·refine ⟨_,rfl,_,rfl,t,l1,l2,l3,l4,o,n1,n2,n3,n4,ts,vs,asks,says,rooms,rms,ds,es,rfl,TT.same S3,m,To.same S3,mo,(fun z=>by rw [lk] at z; cases z),fun r' a' z w v l H4 hw hv hl S4=>?_⟩
   rw [lk] at z
   cases z
   refine ⟨w,_,rfl,SqT.of hw,rfl,_,_,rfl,_,_,rfl,rfl,?_⟩
   have dv:DR K H4 (.t [sDT r,sDT a]) (.ref v):=drT hv (drC rS (drC rS drN))
   have du:DR K H4 (.t [sDT r,sDT a]) (.ref u):=drT (S4 _ _ hu) (drC rS (drC rS drN))
   refine ⟨_,rfl,_,rfl,.inl (.inl ⟨_,_,_,_,rfl,dv.dIn,du.dIn,(by show 1<=2; decide),(by show 1<=2; decide),fun H5 S5=>⟨_,rfl,?_⟩⟩)⟩
   rw [mE]
   refine bp ⟨_,rfl,_,rfl,?_⟩
   rw [decide_eq_false (fun z=>by cases z)]
   refine cb ⟨_,rfl,(by show 3<=sizeLine; decide),fun b hb=>?_⟩
   refine ⟨l,b,_,[true,true,false],rfl,rfl,SqL.of (kp (S5 _ _ hl) hb),SqL.of aa,_,rfl,?_⟩
   rw [mE]
   exact bp ⟨_,_,_,_,rfl,(((S2.trans S3).trans S4).trans S5).trans (Same.new hb)⟩
 ·rintro σ H2 ⟨a5,a6,a7,a8,rfl,S2⟩
  exact k _
theorem rc {K:PySem.W.Frag}{C:Addr}{vs:List V}{H:Hp}{Q:VK}{E:XK}(h:sp_law17 K vs H Q E):tf K (jp K) (eS C) (js K) bJ fz bS gB jr (lg K) { nx:=fun _ H'=>Q .non H',rt:=Q } (start qv vs) H:=by
 obtain ⟨a,ns,rfl,hs,hn,k⟩:=h
 refine ⟨_,rfl,a,ns,rfl,hs,hn,fun p c H1 _ hp1 S1=>?_⟩
 refine ⟨_,rfl,p,c,4,0,rfl,hp1,by decide,by decide,by decide,by decide,fun t l1 l2 l3 l4 ts asks says rooms ds H2 T m zr zd hp2 ex2=>?_⟩
 refine ⟨_,rfl,_,rfl,bF hp2 (by decide) (by decide) fun x H3 x0 x1 hp3 ex3=>⟨_,_,rfl,rfl,?_⟩⟩
 obtain ⟨n,rfl⟩:=Int.eq_ofNat_of_zero_le x0
 unfold ao
 dsimp only
 rw [List.append_nil]
 refine ⟨p,c,1+n,by rw [Int.natCast_add]; rfl,hp3,by omega,fun l3' rooms' H4 okr lenr fr3 e4 hp4 ex4=>?_⟩
 have T4:=(T.ex hp2 ex3).ex hp3 ex4
 refine ⟨_,rfl,t,_,0,_,rfl,rfl,SqT.of T4.t,rfl,_,rfl,t,_,1,_,rfl,rfl,SqT.of T4.t,rfl,_,rfl,_,rfl,_,rfl,t,_,0,_,rfl,rfl,SqT.of T4.t,rfl,_,rfl,t,_,1,_,rfl,rfl,SqT.of T4.t,rfl,_,rfl,_,rfl,bF hp4 (by decide) (by decide) fun full H5 f0 f1 hp5 ex5=>?_⟩
 have T5:=T4.ex hp4 ex5
 have e5:=ex5 _ _ e4 (hp4.ne_strs e4)
 have r0:rooms'≠[]:=fun z=>by rw [z] at lenr; simp at lenr; omega
 try dsimp only
 try rw [List.append_nil]
 refine ⟨p,c,l1,l2,l3',asks,says,rooms',full,rfl,hp5,T5.a1,T5.a2,e5,m.asks4,m.says0,m.says4,r0,by omega,f0,by omega,fun l4' ts' ds' up H6 fr4 e6 hd6 nod good few hp6 ex6=>?_⟩
 have T6:=T5.ex hp5 ex6
 have c6:=ex6 _ _ e5 (hp5.ne_strs e5)
 have m':ModelOk asks says rooms' ds':=⟨m.okA,m.okS,m.apart,okr,m.asks0,m.says0,r0,m.asks4,m.says4,by omega,nod,fun d hd=>(good d hd).d,by omega,fun r z=>(l6 okr.1 good z).irr okr.1⟩
 refine ⟨(by show 4<=sizeLine; decide),fun t' ht'=>?_⟩
 have S7:Same H6 (upd H6 t' (.tup [.ref l1,.ref l2,.ref l3',.ref l4'])):=Same.new ht'
 have T7':Told (upd H6 t' (.tup [.ref l1,.ref l2,.ref l3',.ref l4'])) t' l1 l2 l3' l4' ts' asks says rooms' ds':=⟨aa,S7 _ _ T6.a1,S7 _ _ T6.a2,S7 _ _ c6,S7 _ _ e6,hd6.kt (Same.kt S7)⟩
 generalize upd H6 t' (.tup [.ref l1,.ref l2,.ref l3',.ref l4'])=H7 at S7 T7' ⊢
 have T7:=T6.same S7
 have hp7:=hp6.ex S7
 refine ⟨_,rfl,bF hp7 (by decide) (by decide) fun w H8 w0 w1 hp8 ex8=>⟨rfl,_,rfl,?_⟩⟩
 have T8:=T7.ex hp7 ex8
 have T8':=T7'.ex hp7 ex8
 refine pI (fun _=>?_) (fun _=>i5 T8 m T8' m' k)
 refine ⟨_,rfl,_,rfl,p,c,t',l1,l2,l3',l4',ts',asks,says,rooms',ds',rfl,hp8,T8',m',by omega,by omega,fun t2 l42 ts2 ds2 H9 T9 m9 _ _ hp9 ex9=>?_⟩
 exact i5 (T8.ex hp8 ex9) m T9 m9 k
theorem XX.upk {K:PySem.W.Frag}{mg:Str->Option Value}{x:Str}{C Ct:Addr}(h:XX K mg x C Ct) (g:XO K Ct veTail):PySem.W.kitOne K (.ref C) (.ref Ct)=some true:=by
 unfold PySem.W.kitOne
 split
 ·rfl
 ·rw [h.o.kitC g,List.contains_cons,List.contains_cons,eg,eg]; simp
theorem vg {K:PySem.W.Frag}{mg:Str->Option Value}{xk xm xr xn:Str}{Ct Cx Ck Cm Cr Cn:Addr}(hk:XX K mg xk Ck Ct) (hm:XX K mg xm Cm Ct) (hr:XX K mg xr Cr Ct) (hn:XX K mg xn Cn Ct) (xt:XO K Ct veTail) (xg:XG K) (n1:NoAttr K Ck "room") (n2:NoAttr K Ck "ask") (nd:[Ct,Cx,Ck,Cm,Cr,Cn].Nodup):AnC K Ct Ck Cm Cr Cn:=by
 have q:Ck≠Ct/\Cm≠Ct/\Cr≠Ct/\Cn≠Ct/\Cm≠Ck/\Cr≠Ck/\Cn≠Ck:=by
  refine ⟨?_,?_,?_,?_,?_,?_,?_⟩ <;> (intro e; simp [e] at nd)
 obtain ⟨q1,q2,q3,q4,q5,q6,q7⟩:=q
 refine ⟨vx hk q1 (no2 n1 n2),hk.exk xg,XX.upk hk xt,hk.ve,ky fun c hc=>?_⟩
 rcases List.mem_cons.mp hc with e | hc
 ·rw [e,hk.is hm q2,decide_eq_false q5]
 rcases List.mem_cons.mp hc with e | hc
 ·rw [e,hk.is hr q3,decide_eq_false q6]
 ·rw [List.mem_singleton.mp hc,hk.is hn q4,decide_eq_false q7]
def top (i:Nat):Stmt:=PySem.Challenge.pw_mumtrial_k17_takers.main.body.getD i (.Pass ⟨0,0,0,0⟩)
local macro_rules | `(tactic| walk_at "s")=>`(tactic| exact ⟨rfl,rfl,rfl,by decide +kernel,rfl,by decide +kernel,by decide +kernel⟩)
local macro_rules | `(tactic| walk_at "l")=>`(tactic| (intro _ _ _ _ h; first | exact len_h h | exact len_g h | (obtain ⟨_,_,rfl,_⟩:=h; rfl) | ((repeat obtain ⟨_,h⟩:=h); subst_vars; rfl)))
local macro_rules | `(tactic| walk_at "b")=>`(tactic| (intro _ _ _ _ _ _ us hl; first | (match us,hl with | [_],_=>rfl) | (match us,hl with | [_,_],_=>rfl) | (match us,hl with | [_,_,_],_=>rfl) | (match us,hl with | [_,_,_,_],_=>rfl) | (match us,hl with | [_,_,_,_,_],_=>rfl) | (match us,hl with | [],_=>rfl)))
def FnT (K:PySem.W.Frag) (x qual:Str) (st:Stmt) (f:Addr):Prop:=∃(oc:Value) (od an:Option Addr) (sl:Array (Option Value)) (kV dc pm cd ct:Value),
 K.lookup f=some ⟨oc,od,.func (PySem.W.fnOf x qual (cV st) (bM st) (az st) .none kV dc pm an cd ct),sl⟩/\PySem.W.codeIn K cd qual=true/\PySem.W.keepIn K (.ref f)=true
theorem sI {K:PySem.W.Frag}{x qual:Str}{st:Stmt}{f:Addr}{oc:Value}{od an:Option Addr}{sl:Array (Option Value)}{kV dc pm cd ct:Value}(l:K.lookup f=some ⟨oc,od,.func (PySem.W.fnOf x qual (cV st) (bM st) (az st) .none kV dc pm an cd ct),sl⟩)
  (c:PySem.W.codeIn K cd qual=true) (k:PySem.W.keepIn K (.ref f)=true):FnT K x qual st f:=⟨oc,od,an,sl,kV,dc,pm,cd,ct,l,c,k⟩
def FnG (K:PySem.W.Frag) (x:Str) (st:Stmt):Prop:=∃f,PySem.W.nsIn K mainGlobals x=some (some (.ref f))/\FnT K x x st f
theorem fnG_mk {K:PySem.W.Frag}{x:Str}{st:Stmt}{f:Addr}{oc:Value}{od an:Option Addr}{sl:Array (Option Value)}{kV dc pm cd ct:Value}(a:PySem.W.nsIn K mainGlobals x=some (some (.ref f))) (l:K.lookup f=some ⟨oc,od,.func (PySem.W.fnOf x x (cV st) (bM st) (az st) .none kV dc pm an cd ct),sl⟩)
  (c:PySem.W.codeIn K cd x=true) (k:PySem.W.keepIn K (.ref f)=true):FnG K x st:=⟨f,a,sI l c k⟩
def FnM (K:PySem.W.Frag) (C:Addr) (m qual:Str) (st:Stmt):Prop:=∃f,PySem.W.findIn K (.ref C) m=some (some (.ref f))/\PySem.W.isFn K (.ref f)=true/\FnT K m qual st f
theorem fnM_mk {K:PySem.W.Frag}{C:Addr}{m qual:Str}{st:Stmt}{f:Addr}{oc:Value}{od an:Option Addr}{sl:Array (Option Value)}{kV dc pm cd ct:Value}(a:PySem.W.findIn K (.ref C) m=some (some (.ref f))) (i:PySem.W.isFn K (.ref f)=true)
  (l:K.lookup f=some ⟨oc,od,.func (PySem.W.fnOf m qual (cV st) (bM st) (az st) .none kV dc pm an cd ct),sl⟩) (c:PySem.W.codeIn K cd qual=true) (k:PySem.W.keepIn K (.ref f)=true):FnM K C m qual st:=⟨f,a,i,sI l c k⟩
theorem FnT.fun_ {K:PySem.W.Frag}{x qual:Str}{st:Stmt}{f:Addr}(T:FnT K x qual st f):∃fd,Fun K x qual st f fd:=by
 obtain ⟨oc,od,an,sl,kV,dc,pm,cd,ct,l,c,k⟩:=T
 exact ⟨_,sH (st:=st) l c k⟩
def v4:Sp:=fun _ _ _ _=>False
theorem vL {P:Program}{w:World}{K:PySem.W.Frag}{mg:Str->Option Value}{base:Heap}{k:Nat}{f:Addr}{fd:FuncData}{ps:List Str}:gy P w K mg base CX0 k f fd ps v4:=⟨fun _ _ _ _ h=>h.elim,fun _ _ _ _ _ _ _ _ _ _ _ _ _ h=>h.elim⟩
def wb (K:PySem.W.Frag) (a:Addr) (ws:List Str):Prop:=∀H,SqT K H a (ws.map V.str)
theorem sX {K:PySem.W.Frag}{a:Addr}{ws:List Str}{o:Obj}{its:Array Value}{n:Nat}(l:K.lookup a=some o) (c:o.cls=.type "tuple") (d:o.data=.seq its n) (z:its.size<=sizeLine) (v:Vals (ws.map V.str) its.toList):wb K a ws :=
 fun _=>.inr ⟨o,its,n,l,c,d,z,v⟩
section
variable {P:Program}{w:World}{K:PySem.W.Frag}{mg:Str->Option Value}{base h:Heap}{C:Addr}{x qual:Str}{st:Stmt}{N ps:List Str}{k:Nat}{sp:Sp}
abbrev lV (ps:List Str) (sp:Sp):Prop:=∀vs H Q E,sp vs H Q E->vs.length=ps.length
abbrev iw (CX:CXT) (P:Program) (w:World) (K:PySem.W.Frag) (mg:Str->Option Value) (base:Heap) (qual:Str) (st:Stmt) (N:List Str) (k:Nat) (sp:Sp) (nox:Cx->Cx):Prop:=N.Nodup->∀(f:Addr) (cdv:Value) (A:Around) (outer:List Env) (s:Shared) (H:Hp) (vs:List V) (Q:VK) (E:XK),Room k (A.deeper (envOfC qual (az st) s.heap.objs.size f cdv))->(A.deeper (envOfC qual (az st) s.heap.objs.size f cdv)).units+16<cLine->sp vs H Q E ->
 ∃t,PSs (nox (qC CX P w K mg base N qual (az st) f cdv A outer s H E)) (bM st) t/\t { nx:=fun _ H'=>Q .non H',rt:=Q } (start N vs) H
abbrev ix (x qual:Str) (st:Stmt) (ps:List Str):Prop:=∀(kV doc pm:Value) (an:Option Addr) (cdv ct:Value) (us:List Value),us.length=ps.length->bindArgs (PySem.W.fnOf x qual (cV st) (bM st) (az st) .none kV doc pm an cdv ct) ⟨us,[]⟩=pure (ps.zip us)
theorem dG (X:K.In h) (G:h.Ns mainGlobals mg) (T:FnG K x st) (b:iw CX0 P w K mg base x st N k sp Cx.nox) (bi:ix x x st ps) (S:bN N ps (az st):=by walk_at "s") (l:lV ps sp:=by walk_at "l"):Def P w K mg base x ps (k+1) sp:=by
 obtain ⟨f,a,t⟩:=T
 obtain ⟨fd,F⟩:=t.fun_
 exact ⟨f,fd,F.ok S l fun cdv A outer s H vs Q E hr h=>b S.nd f cdv A outer s H vs Q E hr (kA hr) h,PySem.W.mg_of X G a,F.kp,F.binds bi⟩
theorem dM (cl:Cls K C) (T:FnM K C x qual st) (b:iw CX0 P w K mg base qual st N k sp Cx.nox) (bi:ix x qual st ps) (S:bN N ps (az st):=by walk_at "s") (l:lV ps sp:=by walk_at "l"):Mth P w K mg base C x ps (k+1) sp:=by
 obtain ⟨f,a,i,t⟩:=T
 obtain ⟨fd,F⟩:=t.fun_
 exact ⟨f,fd,F.ok S l fun cdv A outer s H vs Q E hr h=>b S.nd f cdv A outer s H vs Q E hr (kA hr) h,cl,⟨a,i,F.kp⟩,F.binds bi⟩
theorem dMX (cl:Cls K C) (T:FnM K C x qual st) (b:iw (CX1 P w K) P w K mg base qual st N k sp id) (bi:ix x qual st ps) (S:bN N ps (az st):=by walk_at "s") (l:lV ps sp:=by walk_at "l"):wA P w K mg base C x ps (k+1) sp:=by
 obtain ⟨f,a,i,t⟩:=T
 obtain ⟨fd,F⟩:=t.fun_
 exact ⟨f,fd,F.okX S l fun cdv A outer s H vs Q E hr h=>b S.nd f cdv A outer s H vs Q E hr (kA hr) h,cl,⟨a,i,F.kp⟩,F.binds bi⟩
theorem dN {y:Str}(cm:mg y=some (.ref C)) (mk:PySem.W.makesIn K C=true) (kc:PySem.W.keepIn K (.ref C)=true) (T:FnM K C "__init__" qual st) (b:iw CX0 P w K mg base qual st N k sp Cx.nox) (bi:ix "__init__" qual st ps) (S:bN N ps (az st):=by walk_at "s") (l:lV ps sp:=by walk_at "l"):New P w K mg base y C ps (k+1) sp:=by
 obtain ⟨f,a,i,t⟩:=T
 obtain ⟨fd,F⟩:=t.fun_
 exact ⟨f,fd,F.ok S l fun cdv A outer s H vs Q E hr h=>b S.nd f cdv A outer s H vs Q E hr (kA hr) h,cm,⟨mk,a,i,kc⟩,F.binds bi⟩
theorem dGX (X:K.In h) (G:h.Ns mainGlobals mg) (T:FnG K x st) (b:iw (CX1 P w K) P w K mg base x st N k sp id) (bi:ix x x st ps) (S:bN N ps (az st):=by walk_at "s") (l:lV ps sp:=by walk_at "l"):vn P w K mg base x ps (k+1) sp:=by
 obtain ⟨f,a,t⟩:=T
 obtain ⟨fd,F⟩:=t.fun_
 exact ⟨f,fd,F.okX S l fun cdv A outer s H vs Q E hr h=>b S.nd f cdv A outer s H vs Q E hr (kA hr) h,PySem.W.mg_of X G a,F.kp,F.binds bi⟩
theorem dNX {y:Str}(cm:mg y=some (.ref C)) (mk:PySem.W.makesIn K C=true) (kc:PySem.W.keepIn K (.ref C)=true) (T:FnM K C "__init__" qual st) (b:iw (CX1 P w K) P w K mg base qual st N k sp id) (bi:ix "__init__" qual st ps) (S:bN N ps (az st):=by walk_at "s") (l:lV ps sp:=by walk_at "l"):wz P w K mg base y C ps (k+1) sp:=by
 obtain ⟨f,a,i,t⟩:=T
 obtain ⟨fd,F⟩:=t.fun_
 exact ⟨f,fd,F.okX S l fun cdv A outer s H vs Q E hr h=>b S.nd f cdv A outer s H vs Q E hr (kA hr) h,cm,⟨mk,a,i,kc⟩,F.binds bi⟩
theorem dXN {y:Str}(cm:mg y=some (.ref C)) (xc:XCls K C) (kc:PySem.W.keepIn K (.ref C)=true) (T:FnM K C "__init__" qual st) (b:iw CX0 P w K mg base qual st N k sp Cx.nox) (bi:ix "__init__" qual st ps) (S:bN N ps (az st):=by walk_at "s") (l:lV ps sp:=by walk_at "l"):vQ P w K mg base y C ps (k+1) sp:=by
 obtain ⟨f,a,i,t⟩:=T
 obtain ⟨fd,F⟩:=t.fun_
 exact ⟨f,fd,F.ok S l fun cdv A outer s H vs Q E hr h=>b S.nd f cdv A outer s H vs Q E hr (kA hr) h,cm,xc,a,i,kc,F.binds bi⟩
end
structure Zs (mg:Str->Option Value):Prop where
 ValueError:mg "ValueError"=none
 all:mg "all"=none
 any:mg "any"=none
 bool:mg "bool"=none
 dict:mg "dict"=none
 enumerate:mg "enumerate"=none
 int:mg "int"=none
 isinstance:mg "isinstance"=none
 len:mg "len"=none
 list:mg "list"=none
 range:mg "range"=none
 str:mg "str"=none
 tuple:mg "tuple"=none
 zip:mg "zip"=none
structure Cs (K:PySem.W.Frag) (mg:Str->Option Value) (C Cx Ct a_STILL C_NoTaker C_NoMatch C_NoRight C_NoTrial:Addr):Prop where
 LETTERS:Gc mg "LETTERS" (.str "abcdefghijklmnopqrstuvwxyz")
 LONGEST_NAME:Gc mg "LONGEST_NAME" (.int 8)
 MOST_WORDS:Gc mg "MOST_WORDS" (.int 4)
 MOST_ROOMS:Gc mg "MOST_ROOMS" (.int 150)
 MOST_DOORS:Gc mg "MOST_DOORS" (.int 2000)
 STILL:Gc mg "STILL" (.ref a_STILL)
 still:wb K a_STILL stillSg
 mc:MC K C
 cm:mg "Machine"=some (.ref C)
 makes:PySem.W.makesIn K C=true
 kc:PySem.W.keepIn K (.ref C)=true
 xc:XC K Cx
 xb:vj K Ct
 NoMachine:mg "NoMachine"=some (.ref Cx)
 TrialError:mg "TrialError"=some (.ref Ct)
 kx:PySem.W.keepIn K (.ref Cx)=true
 xt:XO K Ct veTail
 xg:XG K
 x_NoMachine:XX K mg "NoMachine" Cx Ct
 nd:[Ct,Cx,C_NoTaker,C_NoMatch,C_NoRight,C_NoTrial].Nodup
 x_NoTaker:XX K mg "NoTaker" C_NoTaker Ct
 na_NoTaker_room:NoAttr K C_NoTaker "room"
 na_NoTaker_ask:NoAttr K C_NoTaker "ask"
 x_NoMatch:XX K mg "NoMatch" C_NoMatch Ct
 i_NoMatch:PySem.W.findIn K (.ref C_NoMatch) "__init__"=some (some (.builtin "ValueError.__init__"))
 x_NoRight:XX K mg "NoRight" C_NoRight Ct
 i_NoRight:PySem.W.findIn K (.ref C_NoRight) "__init__"=some (some (.builtin "ValueError.__init__"))
 x_NoTrial:XX K mg "NoTrial" C_NoTrial Ct
 na_NoTrial_way:NoAttr K C_NoTrial "way"
structure Ts (K:PySem.W.Frag) (C Cx C_NoTaker C_NoMatch C_NoRight C_NoTrial:Addr):Prop where
 f_law_spread:FnG K "_law_spread" (top 34)
 f_law_open:FnG K "_law_open" (top 35)
 f_law_anew:FnG K "_law_anew" (top 36)
 f_law_take:FnG K "_law_take" (top 37)
 f_law_names:FnG K "_law_names" (top 38)
 f_law_put:FnG K "_law_put" (top 39)
 f_law_draw_doors:FnG K "_law_draw_doors" (top 40)
 f_law_model:FnG K "_law_model" (top 41)
 f_is_name:FnG K "is_name" (top 15)
 f_as_keys:FnG K "as_keys" (top 16)
 f_first_wrong_name:FnG K "first_wrong_name" (top 17)
 f_door_signs:FnG K "door_signs" (top 18)
 f_first_wrong_door:FnG K "first_wrong_door" (top 19)
 f_goals_by_start_and_sign:FnG K "goals_by_start_and_sign" (top 20)
 f_led_by_still:FnG K "led_by_still" (top 21)
 f_first_led_round:FnG K "first_led_round" (top 22)
 f_need_none:FnG K "need_none" (top 23)
 f_need_parts:FnG K "need_parts" (top 24)
 f_doors_by_start:FnG K "doors_by_start" (top 25)
 f_has_asks_alone:FnG K "has_asks_alone" (top 26)
 f_Machine___init__:FnM K C "__init__" "Machine.__init__" (eB (top 27) 0)
 f_law_machine:FnG K "_law_machine" (top 44)
 f_law_still_on:FnG K "_law_still_on" (top 42)
 f_Machine_rooms:FnM K C "rooms" "Machine.rooms" (eB (top 27) 3)
 f_Machine_led_from:FnM K C "led_from" "Machine.led_from" (eB (top 27) 8)
 f_Machine_goals:FnM K C "goals" "Machine.goals" (eB (top 27) 7)
 f_Machine_asks:FnM K C "asks" "Machine.asks" (eB (top 27) 1)
 f_Machine_says:FnM K C "says" "Machine.says" (eB (top 27) 2)
 f_NoTaker_init:FnM K C_NoTaker "__init__" "NoTaker.__init__" (eB (top 4) 0)
 f_need_match:FnG K "need_match" (top 29)
 f_takes:FnG K "takes" (top 30)
 f_need_all_asks_taken:FnG K "need_all_asks_taken" (top 31)
 f_need_taker:FnG K "need_taker" (top 32)
 f_law_willing:FnG K "_law_willing" (top 43)
 f_law_same:FnG K "_law_same" (top 45)
 f_law_lack:FnG K "_law_lack" (top 46)
 f_law_answer:FnG K "_law_answer" (top 47)
 f_law17:FnG K "law" (top 48)
section
variable {P:Program}{w:World}{K:PySem.W.Frag}{mg:Str->Option Value}{base h:Heap}{C Cx Ct a_STILL C_NoTaker C_NoMatch C_NoRight C_NoTrial:Addr}
section
variable (P:Program) (w:World) (K:PySem.W.Frag) (mg:Str->Option Value) (C Cx Ct C_NoTaker C_NoMatch C_NoRight C_NoTrial:Addr)
abbrev dP:Prop:=∀base,Def P w K mg base "_law_spread" ["cell","at"] 1 gP
abbrev jc:Prop:=∀base,Def P w K mg base "_law_open" ["script"] 1 (lg K)
abbrev fQ:Prop:=∀base,Def P w K mg base "_law_anew" ["pen"] 1 ll
abbrev bW:Prop:=∀base,Def P w K mg base "_law_take" ["pen","many"] 2 bJ
abbrev eF:Prop:=∀base,Def P w K mg base "_law_names" ["pen","many"] 3 gB
abbrev fj:Prop:=∀base,Def P w K mg base "_law_put" ["doors","door"] 1 eR
abbrev bO:Prop:=∀base,Def P w K mg base "_law_draw_doors" ["pen","asks","says","rooms","full"] 3 bS
abbrev iy:Prop:=∀base,Def P w K mg base "_law_model" ["pen","most","full"] 4 jr
abbrev iz:Prop:=∀base,Def P w K mg base "is_name" ["text"] 1 sp_is_name
abbrev dR:Prop:=∀base,Def P w K mg base "as_keys" ["things"] 1 (sp_as_keys K)
abbrev bq:Prop:=∀base,Def P w K mg base "first_wrong_name" ["names","most","taken"] 2 (sp_first_wrong_name K)
abbrev dQ:Prop:=∀base,Def P w K mg base "door_signs" ["asks","says"] 1 (sp_door_signs K)
abbrev br:Prop:=∀base,Def P w K mg base "first_wrong_door" ["doors","rooms","signs"] 2 (sp_first_wrong_door K)
abbrev aN:Prop:=∀base,Def P w K mg base "goals_by_start_and_sign" ["doors"] 1 ju
abbrev cA:Prop:=∀base,Def P w K mg base "led_by_still" ["goals","room"] 1 oH
abbrev bA:Prop:=∀base,Def P w K mg base "first_led_round" ["rooms","led"] 1 sp_first_led_round
abbrev cZ:Prop:=∀base,Def P w K mg base "need_none" ["part","number"] 3 sp_need_none
abbrev dL:Prop:=∀base,Def P w K mg base "need_parts" ["asks","says","rooms","doors"] 4 sp_need_parts
abbrev bQ:Prop:=∀base,Def P w K mg base "doors_by_start" ["rooms","doors"] 1 sp_doors_by_start
abbrev bP:Prop:=∀base,Def P w K mg base "has_asks_alone" ["doors"] 1 sp_has_asks_alone
abbrev iB:Prop:=∀base,New P w K mg base "Machine" C ["self","asks","says","rooms","doors"] 5 (lh C)
abbrev c7:Prop:=∀base,Def P w K mg base "_law_machine" ["told"] 7 (fA C)
abbrev bD:Prop:=∀base,Def P w K mg base "_law_still_on" ["doors","rooms"] 1 (cR K)
abbrev cj:Prop:=∀base,Mth P w K mg base C "rooms" ["self"] 1 (jq C)
abbrev bt:Prop:=∀base,Mth P w K mg base C "led_from" ["self","room"] 1 (ef C)
abbrev cq:Prop:=∀base,Mth P w K mg base C "goals" ["self","room","sign"] 1 (gR C)
abbrev bE:Prop:=∀base,Mth P w K mg base C "asks" ["self"] 1 (jv C)
abbrev cD:Prop:=∀base,Mth P w K mg base C "says" ["self"] 1 (lf C)
abbrev iA:Prop:=∀base,vQ P w K mg base "NoTaker" C_NoTaker ["self","room","ask"] 2 (ma C_NoTaker "room" "ask")
abbrev dO:Prop:=∀base,vn P w K mg base "need_match" ["M","I"] 2 (sp_need_match C C_NoMatch)
abbrev lW:Prop:=∀base,Def P w K mg base "takes" ["I","room","ask"] 2 (sp_takes C)
abbrev aZ:Prop:=∀base,vn P w K mg base "need_all_asks_taken" ["I"] 4 (ee C C_NoTaker)
abbrev dJ:Prop:=∀base,vn P w K mg base "need_taker" ["M","I"] 5 (sp_need_taker C C_NoMatch C_NoTaker)
abbrev fh:Prop:=∀base,Def P w K mg base "_law_willing" ["pen","told"] 3 fz
abbrev jb:Prop:=∀base,Def P w K mg base "_law_same" ["found","due"] 3 (jp K)
abbrev jd:Prop:=∀base,Def P w K mg base "_law_lack" ["told"] 2 (js K)
abbrev f_:Prop:=∀base,Def P w K mg base "_law_answer" ["told","some"] 8 (eS C)
end
section
variable (X:K.In h) (G:h.Ns mainGlobals mg) (z:Zs mg) (c:Cs K mg C Cx Ct a_STILL C_NoTaker C_NoMatch C_NoRight C_NoTrial) (T:Ts K C Cx C_NoTaker C_NoMatch C_NoRight C_NoTrial)
include X G z c T
theorem jl :dP P w K mg:=fun base=>dG X G T.f_law_spread (fun S _ _ _ _ _ _ _ _ _ hr hu h=>bK (oP (K:=K) h) (ae (aP (tcm vK (pv 0) (aE sD ai ai)) (ag (ap (pv 0))) ar) (ae (qs 2 S (aE cJ (aE bo (aE bo (aE dq (aE cJ (pv 0) ai) ai) (aE dq (pv 1) ai)) ai) ai)) (ae (qs 3 S (aE cJ (aE bo (aE bo (aE dq (pv 2) (pv 2)) (aE dq (pv 1) ai)) (aE cJ (pv 0) ai)) ai)) (ae (qs 4 S (aE cJ (aE bo (aE bo (aE dq (pv 3) (pv 3)) (aE dq (pv 2) ai)) ai) ai)) (ag (ap (aE bo (aE dq (aE bo (aE dq (pv 2) ai) (pv 3)) ai) (pv 4))))))))) (by walk_at "b")
theorem k9 :jc P w K mg:=fun base=>dG X G T.f_law_open (fun S _ _ _ _ _ _ _ _ _ hr hu h=>bK (tH h) (ae (qs 1 S (qL rfl z.list (a1 (bT fB (pv 0) em (bY ai))))) (ae (aY PassesOwn.never rfl (g7 rfl z.enumerate (a1 (bT fB (pv 0) (bY ai) (bY ai)))) (c9 rfl (ax (gn 2 S) (ax (gn 3 S) bL))) (ag (g6 (aE bo (xl (pv 1) (aE cJ (pv 2) ai)) (pv 3)) (kg (pv 1) (aE cJ (pv 2) ai) eU)))) (ag (ap (aQ (a3 (pv 1) ai ai))))))) (by walk_at "b")
theorem lb :fQ P w K mg:=fun base=>dG X G T.f_law_anew (fun S _ _ _ _ _ _ _ _ _ hr hu h=>bK (tL (K:=K) h) (ae (g6 ai (kg (pv 0) ai eU)) (ag (ap (pv 0))))) (by walk_at "b")
theorem k6 (D_law_spread:dP P w K mg):bW P w K mg:=fun base=>dG X G T.f_law_take (fun S _ _ _ _ _ _ _ _ _ hr hu h=>bK (tF h) (ae (aP (tcm tZ (xl (pv 0) ai) (pv 1)) (ae (qs 2 S (xl (pv 0) ai)) (ae (qs 3 S ai) (ae (aP (tcm tZ (pv 2) (ql z.len (a1 (xl (pv 0) ai)))) (ag (qs 3 S (xl (xl (pv 0) ai) (pv 2)))) (ag (aP (tcm t4 (ql z.len (a1 (xl (pv 0) ai))) ai) (ag (qs 3 S (aE cJ (xl (xl (pv 0) ai) (aE cJ (aE bo (aE dq (pv 2) ai) ai) (ql z.len (a1 (xl (pv 0) ai))))) (aE bo (aE sD ai ai) (pv 2))))) ar))) (ae (g6 (aE bo (pv 2) ai) (kg (pv 0) ai eU)) (ag (g6 (qf hr (D_law_spread base) (a2 (pv 3) (pv 2))) (kg (pv 0) ai eU))))))) ar) (ae (qs 4 S (aE cJ (xl (pv 0) ai) (pv 1))) (ae (g6 (aE pq (xl (pv 0) ai) (pv 1)) (kg (pv 0) ai eU)) (ag (ap (pv 4))))))) (by walk_at "b") (l:=(fun vs H Q E h=>by unfold bJ at h; obtain ⟨_,_,_,rfl,_⟩:=h; rfl))
theorem ka (D_law_take:bW P w K mg):eF P w K mg:=fun base=>dG X G T.f_law_names (fun S _ _ _ _ _ _ _ _ _ hr hu h=>bK (q0 h) (ae (qs 2 S be) (ae (qs 3 S (kj PySem.F.plainAttrs_str PySem.F.slot_str_join PySem.F.type_str_join t8 be (a1 (qc (eX rfl z.range (a1 ai)) (bC (by decide)) fun _ _ _ _ _ _=>⟨gc 0,cT,xs' (pv 1) (qf hr (D_law_take base) (a2 (pv 2) ai))⟩)))) (ae (qs 4 S (qf hr (D_law_take base) (a2 (pv 0) ai))) (ae (qs 5 S (qf hr (D_law_take base) (a2 (pv 0) ai))) (ae (qs 6 S (qf hr (D_law_take base) (a2 (pv 0) ai))) (ae (qs 7 S (aQ bZ)) (ae (aY PassesOwn.never rfl (eX rfl z.range (a1 (pv 1))) (gn 8 S) (ae (qs 9 S (xs' (pv 2) (aE cJ (aE bo (pv 5) (aE dq ai (pv 8))) ai))) (ae (qs 10 S (bT oK (pv 3) em (bY (aE cJ (aE bo (pv 6) (aE dq (pv 8) (aE cJ (pv 4) ai))) ai)))) (ae (qs 11 S (xl (aQ (a3 ai (ql z.len (a1 (pv 10))) (aE pq (ql z.len (a1 (pv 10))) ai))) (pv 4))) (ag (aU (kj PySem.F.plainAttrs_list PySem.F.slot_list_append PySem.F.type_list_append b9 (pv 7) (a1 (aE iX (aE iX (bT oK (pv 10) em (bY (pv 11))) (pv 9)) (bT oK (pv 10) (bY (pv 11)) em)))))))))) (ag (ap (pv 7))))))))))) (by walk_at "b")
theorem mT :fj P w K mg:=fun base=>dG X G T.f_law_put (fun S _ _ _ _ _ _ _ _ _ hr hu h=>bK (uD h) (ag (aP (tci (hJ hu) (pv 1) (pv 0)) (ag (aU (kj PySem.F.plainAttrs_list PySem.F.slot_list_append PySem.F.type_list_append b9 (pv 0) (a1 (pv 1))))) ar))) (by walk_at "b") (l:=(fun vs H Q E h=>by unfold eR at h; obtain ⟨_,_,_,_,_,rfl,_⟩:=h; rfl))
theorem fu (D_law_take:bW P w K mg) (D_law_put:fj P w K mg):bO P w K mg:=fun base=>dG X G T.f_law_draw_doors (fun S _ _ _ _ _ _ _ _ _ hr hu h=>bK (jC h) (ae (qs 5 S (aQ bZ)) (ae (qs 6 S (qf hr (D_law_take base) (a2 (pv 0) ai))) (ae (aY PassesOwn.never rfl (g7 rfl z.enumerate (a1 (pv 3))) (c9 rfl (ax (gn 7 S) (ax (gn 8 S) bL))) (ae (aY PassesOwn.never rfl (eX rfl z.range (a1 (xl (aQ (aL ai (a3 ai ai ai))) (qf hr (D_law_take base) (a2 (pv 0) ai))))) (gn 9 S) (ae (qs 10 S (aO (a2 be (xl (pv 2) (qf hr (D_law_take base) (a2 (pv 0) (ql z.len (a1 (pv 2))))))))) (ag (aU (qf hr (D_law_put base) (a2 (pv 5) (aO (a3 (pv 8) (pv 10) (xl (pv 3) (qf hr (D_law_take base) (a2 (pv 0) (ql z.len (a1 (pv 3)))))))))))))) (ae (aY PassesOwn.never rfl (aK (pv 1)) (gn 11 S) (ag (aY PassesOwn.never rfl (eX rfl z.range (a1 (xl (aQ (aL (pv 4) (a3 ai ai ai))) (qf hr (D_law_take base) (a2 (pv 0) ai))))) (gn 9 S) (ag (aU (qf hr (D_law_put base) (a2 (pv 5) (aO (a3 (pv 8) (aO (a2 be (pv 11))) (xl (pv 3) (qf hr (D_law_take base) (a2 (pv 0) (ql z.len (a1 (pv 3))))))))))))))) (ae (qs 12 S (xl (aQ (a2 (bT fB (pv 3) (bY (aE bo (pv 7) ai)) em) (bT fB (pv 3) em (bY (pv 7))))) (pv 6))) (ag (aP (PW.pt (iT (tcm (ph hu) (pv 12) (aQ bZ)) (gZ (tcm nn (qf hr (D_law_take base) (a2 (pv 0) ai)) ai)))) (ag (aU (qf hr (D_law_put base) (a2 (pv 5) (aO (a3 (pv 8) (aO (a1 be)) (xq (pv 12) (qf hr (D_law_take base) (a2 (pv 0) (ql z.len (a1 (pv 12)))))))))))) ar)))))) (ag (ap (pv 5))))))) (by walk_at "b")
theorem kb (D_law_anew:fQ P w K mg) (D_law_take:bW P w K mg) (D_law_names:eF P w K mg) (D_law_draw_doors:bO P w K mg):iy P w K mg:=fun base=>dG X G T.f_law_model (fun S _ _ _ _ _ _ _ _ _ hr hu h=>bK (q_ h) (ae (aU (qf hr (D_law_anew base) (a1 (pv 0)))) (ae (qs 3 S (qf hr (D_law_names base) (a2 (pv 0) ai))) (ae (qs 4 S (bT fB (pv 3) em (bY (aE bo ai (xl (aQ (aL ai (aL ai (aL ai (a3 ai ai ai))))) (qf hr (D_law_take base) (a2 (pv 0) ai))))))) (ae (qs 5 S (bT fB (pv 3) (bY ai) (bY (aE bo ai (xl (aQ (aL ai (aL ai (aL ai (a3 ai ai ai))))) (qf hr (D_law_take base) (a2 (pv 0) ai))))))) (ae (qs 6 S (qf hr (D_law_names base) (a2 (pv 0) (aE bo ai (qf hr (D_law_take base) (a2 (pv 0) (pv 1))))))) (ae (qs 7 S (qf hr (D_law_draw_doors base) (aL (pv 0) (aL (pv 4) (a3 (pv 5) (pv 6) (pv 2)))))) (ag (ap (aO (aL (pv 4) (a3 (pv 5) (pv 6) (pv 7))))))))))))) (by walk_at "b")
theorem mU :iz P w K mg:=fun base=>dG X G T.f_is_name (fun S _ _ _ _ _ _ _ _ _ hr hu h=>bK (ni h) (ag (ap (dj (ecm iM (pv 0) be) (dj (ecm vJ (ql z.len (a1 (pv 0))) (kh rfl c.LONGEST_NAME)) (g8 (qB (ik rfl) z.all boot_all (a1 (qc (uP (pv 0)) (bC (by decide)) fun _ _ _ _ _ _=>⟨gc 0,cT,eci nk (pv 0) (kh rfl c.LETTERS)⟩))))))))) (by walk_at "b") (l:=(fun vs H Q E h=>by unfold sp_is_name at h; obtain ⟨_,rfl,_⟩:=h; rfl))
theorem mV :dR P w K mg:=fun base=>dG X G T.f_as_keys (fun S _ _ _ _ _ _ _ _ _ hr hu h=>bK (nj h) (ae (qs 1 S jF) (ae (aY PassesOwn.never rfl (aK (pv 0)) (gn 2 S) (ag (g0 hu (pv 1) (pv 2) bb rfl))) (ag (ap (pv 1)))))) (by walk_at "b") (l:=(fun vs H Q E h=>by unfold sp_as_keys at h; obtain ⟨_,_,rfl,_⟩:=h; rfl))
theorem d9 (D_is_name:iz P w K mg) (D_as_keys:dR P w K mg):bq P w K mg:=fun base=>dG X G T.f_first_wrong_name (fun S _ _ _ _ _ _ _ _ _ hr hu h=>bK (eh h) (ae (aP (tcm nn (ql z.len (a1 (pv 0))) ai) (ag (ap ai)) ar) (ae (qs 3 S (qf hr (D_as_keys base) (a1 (pv 2)))) (ae (aY PassesOwn.never rfl (g7 rfl z.enumerate (a1 (pv 0))) (c9 rfl (ax (gn 4 S) (ax (gn 5 S) bL))) (ae (aP (PW.pt (iL (tcm nn (pv 4) (pv 1)) (iL (dh (pf hu (pv 5) (pv 3))) (fW (iU (cG (qf hr (D_is_name base) (a1 (pv 5))))))))) (ag (ap (pv 4))) ar) (ag (g0 hu (pv 3) (pv 5) bb rfl)))) (ag (ap mj)))))) (by walk_at "b")
theorem jn :dQ P w K mg:=fun base=>dG X G T.f_door_signs (fun S _ _ _ _ _ _ _ _ _ hr hu h=>bK (jD c.still h) (ag (ap (aE pr (aE pr (qc (aK (pv 0)) (bC (by decide)) fun _ _ _ _ _ _=>⟨gc 0,cT,aO (a2 be (pv 0))⟩) (qc (aK (pv 1)) (bC (by decide)) fun _ _ _ _ _ _=>⟨gc 0,cT,aO (a2 be (pv 0))⟩)) (aQ (a1 (kh rfl c.STILL))))))) (by walk_at "b")
theorem d_ (D_as_keys:dR P w K mg):br P w K mg:=fun base=>dG X G T.f_first_wrong_door (fun S _ _ _ _ _ _ _ _ _ hr hu h=>bK (ei h) (ae (qs 3 S (qf hr (D_as_keys base) (a1 (pv 1)))) (ae (qs 4 S ml) (ae (aY PassesOwn.never rfl (g7 rfl z.enumerate (a1 (pv 0))) (c9 rfl (ax (gn 5 S) (ax (gn 6 S) bL))) (ae (aP (PW.pt (iL (tcm nn (pv 5) (kh rfl c.MOST_DOORS)) (fW (dh (pf hu (pv 6) (pv 4)))))) (ag (ap (pv 5))) ar) (ae (aP (PW.pt (iL (dh (g_ hu (xq (pv 6) ai) (pv 3))) (iL (tci (hJ hu) (xq (pv 6) ai) (pv 2)) (fW (dh (g_ hu (xq (pv 6) ai) (pv 3))))))) (ag (ap (pv 5))) ar) (ag (g0 hu (pv 4) (pv 6) bb rfl))))) (ag (ap mj)))))) (by walk_at "b")
theorem cr :aN P w K mg:=fun base=>dG X G T.f_goals_by_start_and_sign (fun S _ _ _ _ _ _ _ _ _ hr hu h=>bK (cu h) (ae (qs 1 S ml) (ae (aY PassesOwn.never rfl (aK (pv 0)) (c9 rfl (ax (gn 2 S) (ax (gn 3 S) (ax (gn 4 S) bL)))) (ag (aU (kj PySem.F.plainAttrs_list PySem.F.slot_list_append PySem.F.type_list_append b9 (kj PySem.F.plainAttrs_dict PySem.F.slot_dict_setdefault PySem.F.type_dict_setdefault (pB hu) (pv 1) (a2 (aO (a2 (pv 2) (pv 3))) (aQ bZ))) (a1 (pv 4)))))) (ag (ap (pv 1)))))) (by walk_at "b")
theorem gL :cA P w K mg:=fun base=>dG X G T.f_led_by_still (fun S _ _ _ _ _ _ _ _ _ hr hu h=>bK (gW c.still h) (ae (qs 2 S jF) (ae (qs 3 S (aQ (a1 (pv 1)))) (ae (mi PassesOwn.never (tcm t4 (ql z.len (a1 (pv 3))) ai) (ae (qs 4 S (uV PySem.F.plainAttrs_list PySem.F.slot_list_pop PySem.F.type_list_pop uZ (pv 3))) (ag (aY PassesOwn.never rfl (uQ (jG hu (pv 0) (aO (a2 (pv 4) (kh rfl c.STILL))) (aO bZ) ⟨rfl,rfl,rfl,rfl⟩)) (gn 5 S) (ag (aP (dh (g_ hu (pv 5) (pv 2))) (ae (g0 hu (pv 2) (pv 5) bb rfl) (ag (aU (kj PySem.F.plainAttrs_list PySem.F.slot_list_append PySem.F.type_list_append b9 (pv 3) (a1 (pv 5)))))) ar)))))) (ag (ap (pv 2))))))) (by walk_at "b")
theorem eQ :bA P w K mg:=fun base=>dG X G T.f_first_led_round (fun S _ _ _ _ _ _ _ _ _ hr hu h=>bK (eV h) (ae (aY PassesOwn.never rfl (g7 rfl z.enumerate (a1 (pv 0))) (c9 rfl (ax (gn 2 S) (ax (gn 3 S) bL))) (ag (aP (dh (pf hu (pv 3) (lA hu (pv 1) (pv 3) (fun _ _=>rfl)))) (ag (ap (pv 2))) ar))) (ag (ap mj)))) (by walk_at "b")
theorem j_ :cZ P w K mg:=fun base=>dG X G T.f_need_none (fun S _ _ _ _ _ _ _ _ _ hr hu h=>bK (kf (K:=K) h) (ag (aP (dh (pd (pv 1))) (ag (rk)) ar))) (by walk_at "b")
theorem jj (D_first_wrong_name:bq P w K mg) (D_door_signs:dQ P w K mg) (D_first_wrong_door:br P w K mg) (D_need_none:cZ P w K mg):dL P w K mg:=fun base=>dG X G T.f_need_parts (fun S _ _ _ _ _ _ _ _ _ hr hu h=>bK (jA (K:=K) h) (ae (aU (qf hr (D_need_none base) (a2 be (qf hr (D_first_wrong_name base) (a3 (pv 0) (kh rfl c.MOST_WORDS) (aQ bZ)))))) (ae (aU (qf hr (D_need_none base) (a2 be (qf hr (D_first_wrong_name base) (a3 (pv 1) (kh rfl c.MOST_WORDS) (pv 0)))))) (ae (aU (qf hr (D_need_none base) (a2 be (qf hr (D_first_wrong_name base) (a3 (pv 2) (kh rfl c.MOST_ROOMS) (aQ bZ)))))) (ag (aU (qf hr (D_need_none base) (a2 be (qf hr (D_first_wrong_door base) (a3 (pv 3) (pv 2) (qf hr (D_door_signs base) (a2 (pv 0) (pv 1))))))))))))) (by walk_at "b")
theorem fy :bQ P w K mg:=fun base=>dG X G T.f_doors_by_start (fun S _ _ _ _ _ _ _ _ _ hr hu h=>bK (fD h) (ae (qs 2 S jF) (ae (aY PassesOwn.never rfl (aK (pv 0)) (gn 3 S) (ag (g0 hu (pv 2) (pv 3) (aQ bZ) rfl))) (ae (aY PassesOwn.never rfl (aK (pv 1)) (gn 4 S) (ag (aU (kj PySem.F.plainAttrs_list PySem.F.slot_list_append PySem.F.type_list_append b9 (lA hu (pv 2) (xq (pv 4) ai) (fun _ _=>rfl)) (a1 (pv 4)))))) (ag (ap (pv 2))))))) (by walk_at "b")
theorem fx :bP P w K mg:=fun base=>dG X G T.f_has_asks_alone (fun S _ _ _ _ _ _ _ _ _ hr hu h=>bK (fC h) (ag (ap (qB (ik rfl) z.all boot_all (a1 (qc (aK (pv 0)) (bC (by decide)) fun _ _ _ _ _ _=>⟨gc 0,cT,ecm nn (xq (xq (pv 0) ai) ai) be⟩)))))) (by walk_at "b")
theorem mY (D_as_keys:dR P w K mg) (D_goals_by_start_and_sign:aN P w K mg) (D_led_by_still:cA P w K mg) (D_first_led_round:bA P w K mg) (D_need_none:cZ P w K mg) (D_need_parts:dL P w K mg) (D_doors_by_start:bQ P w K mg) (D_has_asks_alone:bP P w K mg):iB P w K mg C:=fun base=>dN c.cm c.makes c.kc T.f_Machine___init__ (fun S _ _ _ _ _ _ _ _ _ hr hu h=>bK (tJ c.mc h) (ae (aU (qf hr (D_need_parts base) (aL (pv 1) (a3 (pv 2) (pv 3) (pv 4))))) (ae (fZ (pv 0) (qL rfl z.list (a1 (pv 1))) rfl) (ae (fZ (pv 0) (qL rfl z.list (a1 (pv 2))) rfl) (ae (fZ (pv 0) (qL rfl z.list (a1 (pv 3))) rfl) (ae (fZ (pv 0) (qL rfl z.list (a1 (pv 4))) rfl) (ae (fZ (pv 0) (qf hr (D_doors_by_start base) (a2 (pv 3) (pv 4))) rfl) (ae (fZ (pv 0) (qf hr (D_as_keys base) (a1 (qc (aK (pv 3)) (bC (by decide)) fun _ _ _ _ _ _=>⟨gc 0,lu (cG (qf hr (D_has_asks_alone base) (a1 (lA hu (f6 (pv 1) rfl) (pv 0) (fun _ _=>rfl))))),pv 0⟩))) rfl) (ae (fZ (pv 0) (qf hr (D_goals_by_start_and_sign base) (a1 (pv 4))) rfl) (ae (fZ (pv 0) (ki (kI rfl) rfl z.dict nQ (a1 (qc (aK (pv 3)) (bC (by decide)) fun _ _ _ _ _ _=>⟨gc 0,cT,aO (a2 (pv 0) (qf hr (D_led_by_still base) (a2 (f6 (pv 1) rfl) (pv 0))))⟩))) rfl) (ag (aU (qf hr (D_need_none base) (a2 be (qf hr (D_first_led_round base) (a2 (pv 3) (f6 (pv 0) rfl))))))))))))))))) (by walk_at "b")
theorem iJ (D_Machine:iB P w K mg C):c7 P w K mg C:=fun base=>dG X G T.f_law_machine (fun S _ _ _ _ _ _ _ _ _ hr hu h=>bK (nh h) (ag (ap (uT (D_Machine base) (hr.mono (by decide)) rfl (aL (qL rfl z.list (a1 (xq (pv 0) ai))) (a3 (qL rfl z.list (a1 (xq (pv 0) ai))) (qL rfl z.list (a1 (xq (pv 0) ai))) (qL rfl z.list (a1 (xq (pv 0) ai))))))))) (by walk_at "b")
theorem gM :bD P w K mg:=fun base=>dG X G T.f_law_still_on (fun S _ _ _ _ _ _ _ _ _ hr hu h=>bK (ln h) (ae (qs 2 S (qL rfl z.list (a1 (pv 1)))) (ae (qs 3 S ai) (ae (mi PassesOwn.never (tcm tZ (pv 3) (ql z.len (a1 (pv 2)))) (ae (aY PassesOwn.never rfl (aK (pv 0)) (c9 rfl (ax (gn 4 S) (ax (gn 5 S) (ax (gn 6 S) bL)))) (ag (aP (PW.pt (iT (tcm (da hu) (pv 4) (xq (pv 2) (pv 3))) (iT (tcm (da hu) (pv 5) (aO (a1 be))) (gZ (tci (hJ hu) (pv 6) (pv 2)))))) (ag (aU (kj PySem.F.plainAttrs_list PySem.F.slot_list_append PySem.F.type_list_append b9 (pv 2) (a1 (pv 6))))) ar))) (ag (qs 3 S (aE bo (pv 3) ai))))) (ag (ap (pv 2))))))) (by walk_at "b")
theorem gk :cj P w K mg C:=fun base=>dM c.mc.cls T.f_Machine_rooms (fun S _ _ _ _ _ _ _ _ _ hr hu h=>bK (qZ c.mc h) (ag (ap (qL rfl z.list (a1 (f6 (pv 0) rfl)))))) (by walk_at "b")
theorem d6 :bt P w K mg C:=fun base=>dM c.mc.cls T.f_Machine_led_from (fun S _ _ _ _ _ _ _ _ _ hr hu h=>bK (lq c.mc h) (ag (ap (qL rfl z.list (a1 (jG hu (f6 (pv 0) rfl) (pv 1) (aO bZ) ⟨rfl,rfl,rfl,rfl⟩)))))) (by walk_at "b")
theorem gl :cq P w K mg C:=fun base=>dM c.mc.cls T.f_Machine_goals (fun S _ _ _ _ _ _ _ _ _ hr hu h=>bK (oR c.mc h) (ag (ap (qL rfl z.list (a1 (jG hu (f6 (pv 0) rfl) (aO (a2 (pv 1) (pv 2))) (aO bZ) ⟨rfl,rfl,rfl,rfl⟩)))))) (by walk_at "b")
theorem gK :bE P w K mg C:=fun base=>dM c.mc.cls T.f_Machine_asks (fun S _ _ _ _ _ _ _ _ _ hr hu h=>bK (tK c.mc h) (ag (ap (qL rfl z.list (a1 (f6 (pv 0) rfl)))))) (by walk_at "b")
theorem gJ :cD P w K mg C:=fun base=>dM c.mc.cls T.f_Machine_says (fun S _ _ _ _ _ _ _ _ _ hr hu h=>bK (tG c.mc h) (ag (ap (qL rfl z.list (a1 (f6 (pv 0) rfl)))))) (by walk_at "b")
theorem mW :iA P w K mg C_NoTaker:=fun base=>dXN c.x_NoTaker.g c.x_NoTaker.cls c.x_NoTaker.kp T.f_NoTaker_init (fun S _ _ _ _ _ _ _ _ _ hr hu h=>bK (uC (n0:="self") (n1:="room") (n2:="ask") c.x_NoTaker.cls c.na_NoTaker_room c.na_NoTaker_ask (by decide +kernel) h) (ae (aU (rD c.xb rfl c.TrialError (a3 (pv 0) (pv 1) (pv 2)))) (ae (o6 (pv 0) (pv 1) rfl) (ag (o6 (pv 0) (pv 2) rfl))))) (by walk_at "b")
theorem jk (M_Machine_asks:bE P w K mg C) (M_Machine_says:cD P w K mg C):dO P w K mg C C_NoMatch:=fun base=>dGX X G T.f_need_match (fun S _ _ _ _ _ _ _ _ _ hr hu h=>bK (jB h) (o5 (fV (uM (PW.pt (iL (tcm (ph hu) (qm0 hr (M_Machine_asks base) (pv 0)) (qm0 hr (M_Machine_asks base) (pv 1))) (fW (tcm (ph hu) (qm0 hr (M_Machine_says base) (pv 0)) (qm0 hr (M_Machine_says base) (pv 1)))))) (fV (py1 (oY c.x_NoMatch.cls c.i_NoMatch c.x_NoMatch.kp rfl rfl c.x_NoMatch.g (a1 be)))) sB)))) (by walk_at "b")
theorem qP (M_Machine_led_from:bt P w K mg C) (M_Machine_goals:cq P w K mg C):lW P w K mg C:=fun base=>dG X G T.f_takes (fun S _ _ _ _ _ _ _ _ _ hr hu h=>bK (qY h) (ag (ap (qB (lO rfl) z.any boot_any (a1 (qc (aK (aE pr (aQ (a1 (pv 1))) (qm hr (M_Machine_led_from base) (pv 0) (a1 (pv 1))))) (bC (by decide)) fun _ _ _ _ _ _=>⟨gc 0,cT,ecm t4 (ql z.len (a1 (qm hr (M_Machine_goals base) (pv 1) (a2 (pv 0) (aO (a2 be (pv 2))))))) ai⟩)))))) (by walk_at "b")
theorem de (M_Machine_rooms:cj P w K mg C) (M_Machine_asks:bE P w K mg C) (D_NoTaker:iA P w K mg C_NoTaker) (D_takes:lW P w K mg C):aZ P w K mg C C_NoTaker:=fun base=>dGX X G T.f_need_all_asks_taken (fun S _ _ _ _ _ _ _ _ _ hr hu h=>bK (lp h) (o5 (fV (sC rfl (aK (qm0 hr (M_Machine_rooms base) (pv 0))) (gn 1 S) (fV (sC rfl (aK (qm0 hr (M_Machine_asks base) (pv 0))) (gn 2 S) (fV (uM (iU (cG (qf hr (D_takes base) (a3 (pv 0) (pv 1) (pv 2))))) (fV (py1 (oX (D_NoTaker base) (hr.mono (by decide)) rfl rfl (a2 (pv 1) (pv 2))))) sB)))))))) (by walk_at "b")
theorem ji (D_need_match:dO P w K mg C C_NoMatch) (D_need_all_asks_taken:aZ P w K mg C C_NoTaker):dJ P w K mg C C_NoTaker C_NoMatch:=fun base=>dGX X G T.f_need_taker (fun S _ _ _ _ _ _ _ _ _ hr hu h=>bK (jz (K:=K) h) (o5 (tR (py1 (oZ (o8 (D_need_match base) (hr.mono (by decide)) rfl (a2 (pv 0) (pv 1))))) (fV (py1 (oZ (o8 (D_need_all_asks_taken base) (hr.mono (by decide)) rfl (a1 (pv 1))))))))) (by walk_at "b")
theorem iI (D_law_take:bW P w K mg) (D_law_put:fj P w K mg) (D_law_still_on:bD P w K mg):fh P w K mg:=fun base=>dG X G T.f_law_willing (fun S _ _ _ _ _ _ _ _ _ hr hu h=>bK (nc h) (ae (g6 (pv 1) (c9 rfl (ax (gn 2 S) (ax (gn 3 S) (ax (gn 4 S) (ax (gn 5 S) bL)))))) (ae (qs 5 S (qL rfl z.list (a1 (pv 5)))) (ae (aY PassesOwn.never rfl (aK (pv 4)) (gn 6 S) (ag (aY PassesOwn.never rfl (aK (pv 2)) (gn 7 S) (ae (qs 8 S (qf hr (D_law_still_on base) (a2 (pv 5) (aQ (a1 (pv 6)))))) (ag (aP (tcm (da hu) (qc (aK (pv 5)) (bC (by decide)) fun _ _ _ _ _ _=>⟨gc 0,lu (PW.pt (iT (tci (sE hu) (xq (pv 0) ai) (pv 1)) (gZ (tcm (da hu) (xq (pv 0) ai) (aO (a2 be (pv 2))))))),pv 0⟩) (aQ bZ)) (ae (qs 9 S (xl (aQ (a2 (pv 6) (xl (pv 4) (qf hr (D_law_take base) (a2 (pv 0) (ql z.len (a1 (pv 4)))))))) (qf hr (D_law_take base) (a2 (pv 0) ai)))) (ag (aU (qf hr (D_law_put base) (a2 (pv 5) (aO (a3 (pv 6) (aO (a2 be (pv 7))) (pv 9)))))))) ar)))))) (ag (ap (aO (aL (pv 2) (a3 (pv 3) (pv 4) (pv 5)))))))))) (by walk_at "b")
theorem k7:jb P w K mg:=fun base=>by
  have E0:Def P w K mg base "_law_same" ["found","due"] 0 v4:=by
   obtain ⟨f,a,t⟩:=T.f_law_same
   obtain ⟨fd,F⟩:=t.fun_
   exact ⟨f,fd,vL,PySem.W.mg_of X G a,F.kp,F.binds (ps:=["found","due"]) (by walk_at "b")⟩
  have st:∀(j:Nat) (sp:Sp),j<=8->(∀m,j=m+1->sp=(gQ K m))->Def P w K mg base "_law_same" ["found","due"] j sp->Def P w K mg base "_law_same" ["found","due"] (j+1) (gQ K j):=fun j sp hj hsp Ds=>dG X G T.f_law_same (fun S _ _ _ _ _ _ _ _ _ hr hu h=>bK (md hj hsp h) (ae (aP (dh (iW (pv 1))) (ag (ap (pc (iW (pv 0))))) ar) (ae (aP (tcm c_ (pv 1) bb) (ag (ap (ecm c_ (pv 0) bb))) ar) (ae (aP (tcm c_ (pv 1) bb) (ag (ap (ecm c_ (pv 0) bb))) ar) (ae (aP (cG (qB ay z.isinstance aw (a2 (pv 1) (cI rfl z.int)))) (ag (ap (dj (qB ay z.isinstance aw (a2 (pv 0) (cI rfl z.int))) (dj (o_ (qB ay z.isinstance aw (a2 (pv 0) (fE rfl z.bool)))) (g8 (ecm (da hu) (pv 0) (pv 1))))))) ar) (ae (aP (cG (qB ay z.isinstance aw (a2 (pv 1) (cH rfl z.str)))) (ag (ap (dj (qB ay z.isinstance aw (a2 (pv 0) (cH rfl z.str))) (g8 (ecm (da hu) (pv 0) (pv 1)))))) ar) (ae (aP (PW.pt (iL (tcm iM (qB ay z.isinstance aw (a2 (pv 1) (bw rfl z.tuple))) (qB ay z.isinstance aw (a2 (pv 0) (bw rfl z.tuple)))) (fW (tcm iM (qB ay z.isinstance aw (a2 (pv 1) (bU rfl z.list))) (qB ay z.isinstance aw (a2 (pv 0) (bU rfl z.list))))))) (ag (ap bb)) ar) (ae (aP (tcm iM (ql z.len (a1 (pv 0))) (ql z.len (a1 (pv 1)))) (ag (ap bb)) ar) (ae (aY PassesOwn.never rfl (lz rfl z.zip (a2 (pv 0) (pv 1))) (c9 rfl (ax (gn 2 S) (ax (gn 3 S) bL))) (ag (aP (iU (cG (rC Ds hr rfl (a2 (pv 2) (pv 3))))) (ag (ap bb)) ar))) (ag (ap bb))))))))))) (by walk_at "b") (l:=fun vs H Q E h=>by rcases h with h | h; (obtain ⟨_,_,_,_,rfl,_⟩:=h; rfl); (obtain ⟨_,_,rfl,_⟩:=h; rfl))
  have E1:=st 0 _ (by decide) (fun m e=>by cases e) E0
  have E2:=st 1 _ (by decide) (fun m e=>by cases e; rfl) E1
  exact dG X G T.f_law_same (fun S _ _ _ _ _ _ _ _ _ hr hu h=>by rcases h with h | ⟨_,h⟩; (exact bK (md (by decide) (fun m e=>by cases e; rfl) h) (ae (aP (dh (iW (pv 1))) (ag (ap (pc (iW (pv 0))))) ar) (ae (aP (tcm c_ (pv 1) bb) (ag (ap (ecm c_ (pv 0) bb))) ar) (ae (aP (tcm c_ (pv 1) bb) (ag (ap (ecm c_ (pv 0) bb))) ar) (ae (aP (cG (qB ay z.isinstance aw (a2 (pv 1) (cI rfl z.int)))) (ag (ap (dj (qB ay z.isinstance aw (a2 (pv 0) (cI rfl z.int))) (dj (o_ (qB ay z.isinstance aw (a2 (pv 0) (fE rfl z.bool)))) (g8 (ecm (da hu) (pv 0) (pv 1))))))) ar) (ae (aP (cG (qB ay z.isinstance aw (a2 (pv 1) (cH rfl z.str)))) (ag (ap (dj (qB ay z.isinstance aw (a2 (pv 0) (cH rfl z.str))) (g8 (ecm (da hu) (pv 0) (pv 1)))))) ar) (ae (aP (PW.pt (iL (tcm iM (qB ay z.isinstance aw (a2 (pv 1) (bw rfl z.tuple))) (qB ay z.isinstance aw (a2 (pv 0) (bw rfl z.tuple)))) (fW (tcm iM (qB ay z.isinstance aw (a2 (pv 1) (bU rfl z.list))) (qB ay z.isinstance aw (a2 (pv 0) (bU rfl z.list))))))) (ag (ap bb)) ar) (ae (aP (tcm iM (ql z.len (a1 (pv 0))) (ql z.len (a1 (pv 1)))) (ag (ap bb)) ar) (ae (aY PassesOwn.never rfl (lz rfl z.zip (a2 (pv 0) (pv 1))) (c9 rfl (ax (gn 2 S) (ax (gn 3 S) bL))) (ag (aP (iU (cG (rC E2 hr rfl (a2 (pv 2) (pv 3))))) (ag (ap bb)) ar))) (ag (ap bb))))))))))); (exact bK (oQ h) (ae (aP (dh (iW (pv 1))) (ag (ap (pc (iW (pv 0))))) ar) (ae (aP (tcm c_ (pv 1) bb) (ag (ap (ecm c_ (pv 0) bb))) ar) (ae (aP (tcm c_ (pv 1) bb) (ag (ap (ecm c_ (pv 0) bb))) ar) (ae (aP (cG (qB ay z.isinstance aw (a2 (pv 1) (cI rfl z.int)))) (ag (ap (dj (qB ay z.isinstance aw (a2 (pv 0) (cI rfl z.int))) (dj (o_ (qB ay z.isinstance aw (a2 (pv 0) (fE rfl z.bool)))) (g8 (ecm (da hu) (pv 0) (pv 1))))))) ar) (ae (aP (cG (qB ay z.isinstance aw (a2 (pv 1) (cH rfl z.str)))) (ag (ap (dj (qB ay z.isinstance aw (a2 (pv 0) (cH rfl z.str))) (g8 (ecm (da hu) (pv 0) (pv 1)))))) ar) (ae (aP (PW.pt (iL (tcm iM (qB ay z.isinstance aw (a2 (pv 1) (bw rfl z.tuple))) (qB ay z.isinstance aw (a2 (pv 0) (bw rfl z.tuple)))) (fW (tcm iM (qB ay z.isinstance aw (a2 (pv 1) (bU rfl z.list))) (qB ay z.isinstance aw (a2 (pv 0) (bU rfl z.list))))))) (ag (ap bb)) ar) (ae (aP (tcm iM (ql z.len (a1 (pv 0))) (ql z.len (a1 (pv 1)))) (ag (ap bb)) ar) (ae (aY PassesOwn.never rfl (lz rfl z.zip (a2 (pv 0) (pv 1))) (c9 rfl (ax (gn 2 S) (ax (gn 3 S) bL))) (ag (aP (iU (cG (rC E2 hr rfl (a2 (pv 2) (pv 3))))) (ag (ap bb)) ar))) (ag (ap bb)))))))))))) (by walk_at "b") (l:=fun vs H Q E h=>by rcases h with h | ⟨_,rfl,_⟩; (rcases h with h | h; (obtain ⟨_,_,_,_,rfl,_⟩:=h; rfl); (obtain ⟨_,_,rfl,_⟩:=h; rfl)); rfl)
theorem k_ (D_law_still_on:bD P w K mg):jd P w K mg:=fun base=>dG X G T.f_law_lack (fun S _ _ _ _ _ _ _ _ _ hr hu h=>bK (tI h) (ae (aY PassesOwn.never rfl (aK (xq (pv 0) ai)) (gn 1 S) (ae (qs 2 S (qf hr (D_law_still_on base) (a2 (xq (pv 0) ai) (aQ (a1 (pv 1)))))) (ag (aY PassesOwn.never rfl (aK (xq (pv 0) ai)) (gn 3 S) (ag (aP (tcm (da hu) (qc (aK (xq (pv 0) ai)) (bC (by decide)) fun _ _ _ _ _ _=>⟨gc 0,lu (PW.pt (iT (tci (sE hu) (xq (pv 0) ai) (pv 1)) (gZ (tcm (da hu) (xq (pv 0) ai) (aO (a2 be (pv 2))))))),pv 0⟩) (aQ bZ)) (ag (ap (aO (a2 (pv 1) (pv 3))))) ar)))))) (ag (ap mj)))) (by walk_at "b")
theorem jm (D_law_machine:c7 P w K mg C) (D_need_taker:dJ P w K mg C C_NoTaker C_NoMatch):f_ P w K mg C:=fun base=>dG X G T.f_law_answer (fun S _ _ _ _ _ _ _ _ _ hr hu h=>bK (oS (vg c.x_NoTaker c.x_NoMatch c.x_NoRight c.x_NoTrial c.xt c.xg c.na_NoTaker_room c.na_NoTaker_ask c.nd) h) (ae (qs 2 S (qf hr (D_law_machine base) (a1 (pv 0)))) (ae (qs 3 S (qf hr (D_law_machine base) (a1 (pv 1)))) (ae (qs 4 S be) (ae (qs 5 S (aQ bZ)) (ae (tS (fV (py1 (uN (i:=4) S rfl (Or.inl rfl) (o8 (D_need_taker base) (hr.mono (by decide)) rfl (a2 (pv 2) (pv 3)))))) (vI (i:=6) S rfl rfl rfl c.x_NoTaker.g (fun a=>ae (qs 4 S (aO (a2 (o9 (pv 6) rfl) (o9 (pv 6) rfl)))) (ag (qs 5 S (aQ (a3 (qB mH z.isinstance aw (a2 (pv 6) (g9 rfl c.TrialError rfl))) (qB mH z.isinstance aw (a2 (pv 6) (fF rfl z.ValueError r_ rfl))) (qB qg z.isinstance aw (a2 (pv 6) (aO (a3 (g9 rfl c.x_NoMatch.g rfl) (g9 rfl c.x_NoRight.g rfl) (g9 rfl c.x_NoTrial.g rfl)))))))))) uR)) (ag (ap (aO (a2 (pv 4) (pv 5))))))))))) (by walk_at "b")
end
theorem u2 (X:K.In h) (G:h.Ns mainGlobals mg) (z:Zs mg) (c:Cs K mg C Cx Ct a_STILL C_NoTaker C_NoMatch C_NoRight C_NoTrial) (T:Ts K C Cx C_NoTaker C_NoMatch C_NoRight C_NoTrial):∃f fd,mg "law"=some (.ref f)/\(∀(s:Shared) (v:Value),BindsTo s fd ⟨[v],[]⟩ [("script",v)])/\∀base:Heap,gy P w K mg base CX0 9 f fd ["script"] (sp_law17 K):=by
 have D_law_spread:dP P w K mg:=jl X G z c T
 have D_law_open:jc P w K mg:=k9 X G z c T
 have D_law_anew:fQ P w K mg:=lb X G z c T
 have D_law_take:bW P w K mg:=k6 X G z c T D_law_spread
 have D_law_names:eF P w K mg:=ka X G z c T D_law_take
 have D_law_put:fj P w K mg:=mT X G z c T
 have D_law_draw_doors:bO P w K mg:=fu X G z c T D_law_take D_law_put
 have D_law_model:iy P w K mg:=kb X G z c T D_law_anew D_law_take D_law_names D_law_draw_doors
 have D_is_name:iz P w K mg:=mU X G z c T
 have D_as_keys:dR P w K mg:=mV X G z c T
 have D_first_wrong_name:bq P w K mg:=d9 X G z c T D_is_name D_as_keys
 have D_door_signs:dQ P w K mg:=jn X G z c T
 have D_first_wrong_door:br P w K mg:=d_ X G z c T D_as_keys
 have D_goals_by_start_and_sign:aN P w K mg:=cr X G z c T
 have D_led_by_still:cA P w K mg:=gL X G z c T
 have D_first_led_round:bA P w K mg:=eQ X G z c T
 have D_need_none:cZ P w K mg:=j_ X G z c T
 have D_need_parts:dL P w K mg:=jj X G z c T D_first_wrong_name D_door_signs D_first_wrong_door D_need_none
 have D_doors_by_start:bQ P w K mg:=fy X G z c T
 have D_has_asks_alone:bP P w K mg:=fx X G z c T
 have D_Machine:iB P w K mg C:=mY X G z c T D_as_keys D_goals_by_start_and_sign D_led_by_still D_first_led_round D_need_none D_need_parts D_doors_by_start D_has_asks_alone
 have D_law_machine:c7 P w K mg C:=iJ X G z c T D_Machine
 have D_law_still_on:bD P w K mg:=gM X G z c T
 have M_Machine_rooms:cj P w K mg C:=gk X G z c T
 have M_Machine_led_from:bt P w K mg C:=d6 X G z c T
 have M_Machine_goals:cq P w K mg C:=gl X G z c T
 have M_Machine_asks:bE P w K mg C:=gK X G z c T
 have M_Machine_says:cD P w K mg C:=gJ X G z c T
 have D_NoTaker:iA P w K mg C_NoTaker:=mW X G z c T
 have D_need_match:dO P w K mg C C_NoMatch:=jk X G z c T M_Machine_asks M_Machine_says
 have D_takes:lW P w K mg C:=qP X G z c T M_Machine_led_from M_Machine_goals
 have D_need_all_asks_taken:aZ P w K mg C C_NoTaker:=de X G z c T M_Machine_rooms M_Machine_asks D_NoTaker D_takes
 have D_need_taker:dJ P w K mg C C_NoTaker C_NoMatch:=ji X G z c T D_need_match D_need_all_asks_taken
 have D_law_willing:fh P w K mg:=iI X G z c T D_law_take D_law_put D_law_still_on
 have D_law_same:jb P w K mg:=k7 X G z c T
 have D_law_lack:jd P w K mg:=k_ X G z c T D_law_still_on
 have D_law_answer:f_ P w K mg C:=jm X G z c T D_law_machine D_need_taker
 obtain ⟨f,a,t⟩:=T.f_law17
 obtain ⟨oc,od,an,sl,kV,dc,pm,cd,ct,l,c1,k1⟩:=t
 have F:=sH (st:=(top 48)) l c1 k1
 have sc:bN qv rm (az (top 48)):=by walk_at "s"
 have S:=sc.nd
 exact ⟨f,_,PySem.W.mg_of X G a,fun s v=>.of_eq rfl,fun base=>F.ok (k:=8) sc (by walk_at "l") (fun _ _ _ _ _ _ _ _ hr h=>by have hu:=kA hr; exact bK (rc (C:=C) h) (ae (qs 1 S (qf hr (D_law_open base) (a1 (pv 0)))) (ae (qs 2 S (qf hr (D_law_model base) (a3 (pv 1) ai ai))) (ae (qs 3 S (qf hr (D_law_names base) (a2 (pv 1) (aE bo ai (qf hr (D_law_take base) (a2 (pv 1) ai)))))) (ae (qs 4 S (aO (aL (xt (pv 2) ai) (a3 (xt (pv 2) ai) (pv 3) (qf hr (D_law_draw_doors base) (aL (pv 1) (aL (xt (pv 2) ai) (a3 (xt (pv 2) ai) (pv 3) (qf hr (D_law_take base) (a2 (pv 1) ai)))))))))) (ae (aP (tcm nn (qf hr (D_law_take base) (a2 (pv 1) ai)) ai) (ag (qs 4 S (qf hr (D_law_willing base) (a2 (pv 1) (pv 4))))) ar) (ae (aY PassesOwn.never rfl (aK (aQ (a3 (pv 4) (pv 2) (pv 4)))) (gn 5 S) (ae (qs 6 S (qf hr (D_law_lack base) (a1 (pv 5)))) (ae (g6 (qf hr (D_law_answer base) (a2 (pv 2) (pv 5))) (c9 rfl (ax (gn 7 S) (ax (gn 8 S) bL)))) (ag (aP (PW.pt (iL (iU (cG (qf hr (D_law_same base) (a2 (pv 7) (pv 6))))) (fW (PW.pt (iT (dh (pd (pv 6))) (gZ (tcm (uW hu) (pv 8) (aQ (a3 bb bb bb))))))))) (ag (ap bb)) ar))))) (ag (ap bb)))))))))⟩
theorem all_mk {l:PySem.W.OpenLaw}{fa:Addr}{nmX qX:Str}{NX:Addr}{bsX subX:List Value}{snX:List Str}{abX:Bool}{colX:Option Bool}{ddX:Option Addr}{k0X k1X k2X k3X k5X:Option Value}{nmT qT:Str}{NT:Addr}{bsT subT:List Value}{snT:List Str}{abT:Bool}{colT:Option Bool}{ddT:Option Addr}{k0T k1T k2T k3T k5T:Option Value}{nmY0 qY0:Str}{NY0:Addr}{bsY0 subY0:List Value}{snY0:List Str}{abY0:Bool}{colY0:Option Bool}{ddY0:Option Addr}{k0Y0 k1Y0 k2Y0 k3Y0 k5Y0:Option Value}{nmY1 qY1:Str}{NY1:Addr}{bsY1 subY1:List Value}{snY1:List Str}{abY1:Bool}{colY1:Option Bool}{ddY1:Option Addr}{k0Y1 k1Y1 k2Y1 k3Y1 k5Y1:Option Value}{nmY2 qY2:Str}{NY2:Addr}{bsY2 subY2:List Value}{snY2:List Str}{abY2:Bool}{colY2:Option Bool}{ddY2:Option Addr}{k0Y2 k1Y2 k2Y2 k3Y2 k5Y2:Option Value}{nmY3 qY3:Str}{NY3:Addr}{bsY3 subY3:List Value}{snY3:List Str}{abY3:Bool}{colY3:Option Bool}{ddY3:Option Addr}{k0Y3 k1Y3 k2Y3 k3Y3 k5Y3:Option Value}{u_LETTERS:Value}{u_LONGEST_NAME:Value}{u_MOST_WORDS:Value}{u_MOST_ROOMS:Value}{u_MOST_DOORS:Value}{o_STILL:Obj}{i_STILL:Array Value}{n_STILL:Nat}(X:K.In h) (G:h.Ns mainGlobals mg) (hfa:mg "law"=some (.ref fa))
  (aC:PySem.W.nsIn K mainGlobals "Machine"=some (some (.ref C)))
  (pg:PySem.W.plainGet K C Str.empty=true)
  (hd:PySem.W.hasDictIn K C=true)
  (po:PySem.W.plainOver K C=true)
  (sa:PySem.W.findIn K (.ref C) "__setattr__"=some (some (.builtin "object.__setattr__")))
  (mk:PySem.W.makesIn K C=true)
  (kc:PySem.W.keepIn K (.ref C)=true)
  (na1:PySem.W.findIn K (.ref C) "own_asks"=some none)
  (na2:PySem.W.findIn K (.ref C) "own_says"=some none)
  (na3:PySem.W.findIn K (.ref C) "own_rooms"=some none)
  (na4:PySem.W.findIn K (.ref C) "own_doors"=some none)
  (na5:PySem.W.findIn K (.ref C) "leaving"=some none)
  (na6:PySem.W.findIn K (.ref C) "quiet"=some none)
  (na7:PySem.W.findIn K (.ref C) "sign_goals"=some none)
  (na8:PySem.W.findIn K (.ref C) "still_led"=some none)
  (aX:PySem.W.nsIn K mainGlobals "NoMachine"=some (some (.ref Cx)))
  (aT:PySem.W.nsIn K mainGlobals "TrialError"=some (some (.ref Ct)))
  (xo:K.lookup Cx=some (excClassObj nmX qX Cx NX bsX (.ref Ct::veTail) true snX subX abX colX ddX k0X k1X k2X k3X k5X "ValueError.__new__"))
  (xsa:PySem.W.findIn K (.ref Cx) "__setattr__"=some (some (.builtin "object.__setattr__")))
  (xga:PySem.W.findIn K (.ref Cx) "__getattribute__"=some (some (.builtin "BaseException.__getattribute__")))
  (xgx:PySem.W.findIn K (.ref Cx) "__getattr__"=some none)
  (xp:PySem.W.findIn K (.ref Cx) "part"=some none)
  (xn:PySem.W.findIn K (.ref Cx) "number"=some none)
  (xs1:PySem.W.subIn K (.ref Cx) (.type "BaseException")=some true)
  (xs2:PySem.W.isClsIn K Cx=true)
  (xs3:PySem.W.typeIn K (.ref Cx)=some (.type "type"))
  (xs4:PySem.W.subIn K (.ref Cx) (.ref Cx)=some true)
  (xrd:PySem.W.readsIn K Ct (.type "type")=true)
  (xfi:PySem.W.findCls K (.ref Ct) (.type "type") "__init__"=some (.val (.builtin "ValueError.__init__")))
  (xgt:PySem.W.specialIn K (.ref Ct) "__getattribute__"=some (some (.builtin "type.__getattribute__")))
  (kx:PySem.W.keepIn K (.ref Cx)=true)
  (xcl:PySem.W.findIn K (.ref Cx) "__class__"=some (some (.builtin "object.__class__")))
  (xgn:PySem.W.specialIn K (.builtin "object.__class__") "__get__"=some (some (.builtin "getset_descriptor.__get__")))
  (xgk:PySem.W.takesIn K (.builtin "object.__class__")=some true)
  (xoT:K.lookup Ct=some (excClassObj nmT qT Ct NT bsT veTail true snT subT abT colT ddT k0T k1T k2T k3T k5T "ValueError.__new__"))
  (aXY0:PySem.W.nsIn K mainGlobals "NoTaker"=some (some (.ref C_NoTaker)))
  (xoY0:K.lookup C_NoTaker=some (excClassObj nmY0 qY0 C_NoTaker NY0 bsY0 (.ref Ct::veTail) true snY0 subY0 abY0 colY0 ddY0 k0Y0 k1Y0 k2Y0 k3Y0 k5Y0 "ValueError.__new__"))
  (xsaY0:PySem.W.findIn K (.ref C_NoTaker) "__setattr__"=some (some (.builtin "object.__setattr__")))
  (xgaY0:PySem.W.findIn K (.ref C_NoTaker) "__getattribute__"=some (some (.builtin "BaseException.__getattribute__")))
  (xgxY0:PySem.W.findIn K (.ref C_NoTaker) "__getattr__"=some none)
  (xclY0:PySem.W.findIn K (.ref C_NoTaker) "__class__"=some (some (.builtin "object.__class__")))
  (kxY0:PySem.W.keepIn K (.ref C_NoTaker)=true)
  (xf0Y0:PySem.W.findIn K (.ref C_NoTaker) "room"=some none)
  (xf1Y0:PySem.W.findIn K (.ref C_NoTaker) "ask"=some none)
  (aXY1:PySem.W.nsIn K mainGlobals "NoMatch"=some (some (.ref C_NoMatch)))
  (xoY1:K.lookup C_NoMatch=some (excClassObj nmY1 qY1 C_NoMatch NY1 bsY1 (.ref Ct::veTail) true snY1 subY1 abY1 colY1 ddY1 k0Y1 k1Y1 k2Y1 k3Y1 k5Y1 "ValueError.__new__"))
  (xsaY1:PySem.W.findIn K (.ref C_NoMatch) "__setattr__"=some (some (.builtin "object.__setattr__")))
  (xgaY1:PySem.W.findIn K (.ref C_NoMatch) "__getattribute__"=some (some (.builtin "BaseException.__getattribute__")))
  (xgxY1:PySem.W.findIn K (.ref C_NoMatch) "__getattr__"=some none)
  (xclY1:PySem.W.findIn K (.ref C_NoMatch) "__class__"=some (some (.builtin "object.__class__")))
  (kxY1:PySem.W.keepIn K (.ref C_NoMatch)=true)
  (xiY1:PySem.W.findIn K (.ref C_NoMatch) "__init__"=some (some (.builtin "ValueError.__init__")))
  (aXY2:PySem.W.nsIn K mainGlobals "NoRight"=some (some (.ref C_NoRight)))
  (xoY2:K.lookup C_NoRight=some (excClassObj nmY2 qY2 C_NoRight NY2 bsY2 (.ref Ct::veTail) true snY2 subY2 abY2 colY2 ddY2 k0Y2 k1Y2 k2Y2 k3Y2 k5Y2 "ValueError.__new__"))
  (xsaY2:PySem.W.findIn K (.ref C_NoRight) "__setattr__"=some (some (.builtin "object.__setattr__")))
  (xgaY2:PySem.W.findIn K (.ref C_NoRight) "__getattribute__"=some (some (.builtin "BaseException.__getattribute__")))
  (xgxY2:PySem.W.findIn K (.ref C_NoRight) "__getattr__"=some none)
  (xclY2:PySem.W.findIn K (.ref C_NoRight) "__class__"=some (some (.builtin "object.__class__")))
  (kxY2:PySem.W.keepIn K (.ref C_NoRight)=true)
  (xiY2:PySem.W.findIn K (.ref C_NoRight) "__init__"=some (some (.builtin "ValueError.__init__")))
  (aXY3:PySem.W.nsIn K mainGlobals "NoTrial"=some (some (.ref C_NoTrial)))
  (xoY3:K.lookup C_NoTrial=some (excClassObj nmY3 qY3 C_NoTrial NY3 bsY3 (.ref Ct::veTail) true snY3 subY3 abY3 colY3 ddY3 k0Y3 k1Y3 k2Y3 k3Y3 k5Y3 "ValueError.__new__"))
  (xsaY3:PySem.W.findIn K (.ref C_NoTrial) "__setattr__"=some (some (.builtin "object.__setattr__")))
  (xgaY3:PySem.W.findIn K (.ref C_NoTrial) "__getattribute__"=some (some (.builtin "BaseException.__getattribute__")))
  (xgxY3:PySem.W.findIn K (.ref C_NoTrial) "__getattr__"=some none)
  (xclY3:PySem.W.findIn K (.ref C_NoTrial) "__class__"=some (some (.builtin "object.__class__")))
  (kxY3:PySem.W.keepIn K (.ref C_NoTrial)=true)
  (xf0Y3:PySem.W.findIn K (.ref C_NoTrial) "way"=some none)
  (nd:[Ct,Cx,C_NoTaker,C_NoMatch,C_NoRight,C_NoTrial].Nodup)
  (z_ValueError:PySem.W.nsIn K mainGlobals "ValueError"=some none)
  (z_all:PySem.W.nsIn K mainGlobals "all"=some none)
  (z_any:PySem.W.nsIn K mainGlobals "any"=some none)
  (z_bool:PySem.W.nsIn K mainGlobals "bool"=some none)
  (z_dict:PySem.W.nsIn K mainGlobals "dict"=some none)
  (z_enumerate:PySem.W.nsIn K mainGlobals "enumerate"=some none)
  (z_int:PySem.W.nsIn K mainGlobals "int"=some none)
  (z_isinstance:PySem.W.nsIn K mainGlobals "isinstance"=some none)
  (z_len:PySem.W.nsIn K mainGlobals "len"=some none)
  (z_list:PySem.W.nsIn K mainGlobals "list"=some none)
  (z_range:PySem.W.nsIn K mainGlobals "range"=some none)
  (z_str:PySem.W.nsIn K mainGlobals "str"=some none)
  (z_tuple:PySem.W.nsIn K mainGlobals "tuple"=some none)
  (z_zip:PySem.W.nsIn K mainGlobals "zip"=some none)
  (g_LETTERS:PySem.W.nsIn K mainGlobals "LETTERS"=some (some u_LETTERS))
  (r_LETTERS:RelV (.str "abcdefghijklmnopqrstuvwxyz") u_LETTERS)
  (g_LONGEST_NAME:PySem.W.nsIn K mainGlobals "LONGEST_NAME"=some (some u_LONGEST_NAME))
  (r_LONGEST_NAME:RelV (.int 8) u_LONGEST_NAME)
  (g_MOST_WORDS:PySem.W.nsIn K mainGlobals "MOST_WORDS"=some (some u_MOST_WORDS))
  (r_MOST_WORDS:RelV (.int 4) u_MOST_WORDS)
  (g_MOST_ROOMS:PySem.W.nsIn K mainGlobals "MOST_ROOMS"=some (some u_MOST_ROOMS))
  (r_MOST_ROOMS:RelV (.int 150) u_MOST_ROOMS)
  (g_MOST_DOORS:PySem.W.nsIn K mainGlobals "MOST_DOORS"=some (some u_MOST_DOORS))
  (r_MOST_DOORS:RelV (.int 2000) u_MOST_DOORS)
  (g_STILL:PySem.W.nsIn K mainGlobals "STILL"=some (some (.ref a_STILL)))
  (l_STILL:K.lookup a_STILL=some o_STILL)
  (c_STILL:o_STILL.cls=.type "tuple")
  (d_STILL:o_STILL.data=.seq i_STILL n_STILL)
  (s_STILL:i_STILL.size<=sizeLine)
  (v_STILL:Vals (stillSg.map V.str) i_STILL.toList)
  (T:Ts K C Cx C_NoTaker C_NoMatch C_NoRight C_NoTrial)
 :∃fd:FuncData,(∀(s:Shared) (v:Value),BindsTo s fd ⟨[v],[]⟩ [("script",v)])/\∀base:Heap,K.In base->base.Ns mainGlobals mg->gy l.prog w K mg base CX0 9 fa fd ["script"] (sp_law17 K):=by
 have z:Zs mg:=⟨PySem.W.mg_none_of X G z_ValueError,PySem.W.mg_none_of X G z_all,PySem.W.mg_none_of X G z_any,PySem.W.mg_none_of X G z_bool,PySem.W.mg_none_of X G z_dict,PySem.W.mg_none_of X G z_enumerate,PySem.W.mg_none_of X G z_int,PySem.W.mg_none_of X G z_isinstance,PySem.W.mg_none_of X G z_len,PySem.W.mg_none_of X G z_list,PySem.W.mg_none_of X G z_range,PySem.W.mg_none_of X G z_str,PySem.W.mg_none_of X G z_tuple,PySem.W.mg_none_of X G z_zip⟩
 have c:Cs K mg C Cx Ct a_STILL C_NoTaker C_NoMatch C_NoRight C_NoTrial:=⟨⟨_,PySem.W.mg_of X G g_LETTERS,r_LETTERS⟩,⟨_,PySem.W.mg_of X G g_LONGEST_NAME,r_LONGEST_NAME⟩,⟨_,PySem.W.mg_of X G g_MOST_WORDS,r_MOST_WORDS⟩,⟨_,PySem.W.mg_of X G g_MOST_ROOMS,r_MOST_ROOMS⟩,⟨_,PySem.W.mg_of X G g_MOST_DOORS,r_MOST_DOORS⟩,⟨_,PySem.W.mg_of X G g_STILL,rfl⟩,sX l_STILL c_STILL d_STILL s_STILL v_STILL,⟨⟨pg,hd,po,sa⟩,na1,na2,na3,na4,na5,na6,na7,na8⟩,PySem.W.mg_of X G aC,mk,kc,⟨⟨⟨_,_,_,_,_,_,_,_,_,_,_,_,_,_,_,xo,.own .base⟩,xsa,xga,xgx⟩,xp,xn,u7 xs1 xs2 xs3 xs4⟩,⟨xrd,xfi,xgt⟩,PySem.W.mg_of X G aX,PySem.W.mg_of X G aT,kx,⟨⟨_,_,_,_,_,_,_,_,_,_,_,_,_,_,xoT⟩⟩,⟨xgn,xgk⟩,⟨PySem.W.mg_of X G aX,⟨⟨_,_,_,_,_,_,_,_,_,_,_,_,_,_,xo⟩⟩,xsa,xga,xgx,kx,xcl⟩,nd,⟨PySem.W.mg_of X G aXY0,⟨⟨_,_,_,_,_,_,_,_,_,_,_,_,_,_,xoY0⟩⟩,xsaY0,xgaY0,xgxY0,kxY0,xclY0⟩,xf0Y0,xf1Y0,⟨PySem.W.mg_of X G aXY1,⟨⟨_,_,_,_,_,_,_,_,_,_,_,_,_,_,xoY1⟩⟩,xsaY1,xgaY1,xgxY1,kxY1,xclY1⟩,xiY1,⟨PySem.W.mg_of X G aXY2,⟨⟨_,_,_,_,_,_,_,_,_,_,_,_,_,_,xoY2⟩⟩,xsaY2,xgaY2,xgxY2,kxY2,xclY2⟩,xiY2,⟨PySem.W.mg_of X G aXY3,⟨⟨_,_,_,_,_,_,_,_,_,_,_,_,_,_,xoY3⟩⟩,xsaY3,xgaY3,xgxY3,kxY3,xclY3⟩,xf0Y3⟩
 obtain ⟨f,fd,e,b,k⟩:=u2 (P:=l.prog) (w:=w) X G z c T
 have e0:=hfa.symm.trans e
 cases e0
 exact ⟨fd,b,fun base _ _=>k base⟩
end
end Mum
def PySem.W.Fast.tw3653829344687474173:Nat:=0
def PySem.W.Fast.tw142901936381899901:Nat:=0
def PySem.W.Fast.tw9328387546629988584:Nat:=0
def PySem.W.Fast.tw6751408265698365750:Nat:=0
def PySem.W.Fast.tw7114284064269154264:Nat:=0
def PySem.W.Fast.tw17466891582857590258:Nat:=0
def PySem.W.Fast.tw1751402798637616092:Nat:=0
def PySem.W.Fast.tw3882894516263487730:Nat:=0
def PySem.W.Fast.tw16152443381565703057:Nat:=0
def PySem.W.Fast.tw18022304134039158105:Nat:=0
def PySem.W.Fast.tw5628627759361810968:Nat:=0
def PySem.W.Fast.tw5839675978347522528:Nat:=0
def PySem.W.Fast.tw17115254256192527837:Nat:=0
def PySem.W.Fast.tw10099613147495690586:Nat:=0
def PySem.W.Fast.tw18349053180499125838:Nat:=0
def PySem.W.Fast.tw10965731058584052786:Nat:=0
def PySem.W.Fast.tw3708305842620491508:Nat:=0
def PySem.W.Fast.tw11590740374203267445:Nat:=0
def PySem.W.Fast.tw4748134128930414081:Nat:=0
def PySem.W.Fast.tw17515891569514024968:Nat:=0
def PySem.W.Fast.tw6863337104998202550:Nat:=0
def PySem.W.Fast.tw10476917867667421663:Nat:=0
def PySem.W.Fast.tw13074653790139652584:Nat:=0
def PySem.W.Fast.tw1666878775309009211:Nat:=0
def PySem.W.Fast.tw2870671424021603544:Nat:=0
def PySem.W.Fast.tw14026081025842289788:Nat:=0
def PySem.W.Fast.tw1912616614944932885:Nat:=0
def PySem.W.Fast.tw10614252391811290901:Nat:=0
def PySem.W.Fast.tw8343541089385720285:Nat:=0
def PySem.W.Fast.tw2769756116614570007:Nat:=0
open PySem PySem.W PyProof.Rows
set_option maxRecDepth 100000 in
set_option maxHeartbeats 0 in
theorem PySem.Challenge.cw_mumtrial_k17_takers_holds : PySem.Challenge.rw_mumtrial_k17_takers.Holds := by
 w_on; o_law; k_head; (case hw=>w_witness2)
 k_fill
 refine L2.walk_ofK (l:=PySem.Challenge.rw_mumtrial_k17_takers) (n:=63) (k:=9) (x:="script") (CX:=L2.CX0) (sp:=Mum.sp_law17) rfl (by decide) rfl ⟨rfl,by decide,by decide⟩ (fun w h Y=>PySem.W.kIn_of Y) ?F (fun _ _ a ns hl _ hS=>⟨a,ns,rfl,hS,hl,fun _=>rfl⟩) (fun _ _ _ _ z=>z)
 case F =>
  intro w mg fa h KX G hmg
  refine' Mum.all_mk KX G hmg ?aC ?pg ?hd ?po ?sa ?mk ?kc ?na1 ?na2 ?na3 ?na4 ?na5 ?na6 ?na7 ?na8 ?aX ?aT ?xo ?xsa ?xga ?xgx ?xp ?xn ?xs1 ?xs2 ?xs3 ?xs4 ?xrd ?xfi ?xgt ?kx ?xcl ?xgn ?xgk ?xoT ?aXY0 ?xoY0 ?xsaY0 ?xgaY0 ?xgxY0 ?xclY0 ?kxY0 ?xf0Y0 ?xf1Y0 ?aXY1 ?xoY1 ?xsaY1 ?xgaY1 ?xgxY1 ?xclY1 ?kxY1 ?xiY1 ?aXY2 ?xoY2 ?xsaY2 ?xgaY2 ?xgxY2 ?xclY2 ?kxY2 ?xiY2 ?aXY3 ?xoY3 ?xsaY3 ?xgaY3 ?xgxY3 ?xclY3 ?kxY3 ?xf0Y3 ?nd ?z_ValueError ?z_all ?z_any ?z_bool ?z_dict ?z_enumerate ?z_int ?z_isinstance ?z_len ?z_list ?z_range ?z_str ?z_tuple ?z_zip ?g_LETTERS ?r_LETTERS ?g_LONGEST_NAME ?r_LONGEST_NAME ?g_MOST_WORDS ?r_MOST_WORDS ?g_MOST_ROOMS ?r_MOST_ROOMS ?g_MOST_DOORS ?r_MOST_DOORS ?g_STILL ?l_STILL ?c_STILL ?d_STILL ?s_STILL ?v_STILL ?T
  (case aC | pg | hd | po | sa | mk | kc | na1 | na2 | na3 | na4 | na5 | na6 | na7 | na8 | aX | aT | xo | xsa | xga | xgx | xp | xn | xs1 | xs2 | xs3 | xs4 | xrd | xfi | xgt | kx | xcl | xgn | xgk | xoT | aXY0 | xoY0 | xsaY0 | xgaY0 | xgxY0 | xclY0 | kxY0 | xf0Y0 | xf1Y0 | aXY1 | xoY1 | xsaY1 | xgaY1 | xgxY1 | xclY1 | kxY1 | xiY1 | aXY2 | xoY2 | xsaY2 | xgaY2 | xgxY2 | xclY2 | kxY2 | xiY2 | aXY3 | xoY3 | xsaY3 | xgaY3 | xgxY3 | xclY3 | kxY3 | xf0Y3=>k_is)
  (case nd=>decide)
  (case z_ValueError | z_all | z_any | z_bool | z_dict | z_enumerate | z_int | z_isinstance | z_len | z_list | z_range | z_str | z_tuple | z_zip | g_LETTERS=>k_is)
  (case r_LETTERS=>exact ⟨_,rfl⟩)
  (case g_LONGEST_NAME=>k_is)
  (case r_LONGEST_NAME=>exact ⟨_,rfl⟩)
  (case g_MOST_WORDS=>k_is)
  (case r_MOST_WORDS=>exact ⟨_,rfl⟩)
  (case g_MOST_ROOMS=>k_is)
  (case r_MOST_ROOMS=>exact ⟨_,rfl⟩)
  (case g_MOST_DOORS=>k_is)
  (case r_MOST_DOORS=>exact ⟨_,rfl⟩)
  (case g_STILL | l_STILL=>k_is)
  (case c_STILL | d_STILL=>rfl)
  (case s_STILL=>decide)
  (case v_STILL=>exact .cons ⟨_,rfl⟩ .nil)
  (case T=>constructor <;> first | (refine' Mum.fnG_mk ?a ?l ?c ?k; (case a=>k_is); (case l=>k_is); (case c=>k_is); (case k=>k_is)) | (refine' Mum.fnM_mk ?a ?i ?l ?c ?k; (case a=>k_is); (case i=>k_is); (case l=>k_is); (case c=>k_is); (case k=>k_is)))
