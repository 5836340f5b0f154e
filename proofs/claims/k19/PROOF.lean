import PyProof.Rows.All
import Wide.All
import OpenK.AllK
import Wide.FinOn
import Lean
import PyProof.EqAt
import PyProof.EqKinds
import PyProof.TupleCall
import PyProof.NeKinds
import PyProof.DictIter
import PyProof.DictWalks
import PySem.Challenge.RW_mumtrial_k19_walks_told
section
set_option Elab.async false
set_option linter.all false
set_option maxRecDepth 100000
namespace L2
open PySem PySem.Spec PyProof.Rows
abbrev Key:=Sum Int Str
def keyIs:Key->Value->Bool
 | .inl k,v=>Value.isInt k v
 | .inr x,v=>Value.isStrOf x v
def keyH (w:World):Key->Int
 | .inl k=>hashInt k
 | .inr x=>hashStr w x
theorem keyIs_shape:∀ {k:Key} {v:Value},keyIs k v = true->(∃ i t,k = Sum.inl i/\v = Value.int i t) ∨ (∃ x t,k = Sum.inr x/\v = Value.str x t)
 | .inl i,v,h=>by
  obtain ⟨t,e⟩:=Value.isInt_shape (k:=i) (v:=v) h
  exact .inl ⟨i,t,rfl,e⟩
 | .inr x,v,h=>by
  obtain ⟨t,e⟩:=Value.isStrOf_shape (x:=x) (v:=v) h
  exact .inr ⟨x,t,rfl,e⟩
theorem keyIs_int (i:Int) (t:Tok):keyIs (.inl i) (.int i t) = true:=by simp [keyIs,Value.isInt]
theorem keyIs_str (x:Str) (t:Tok):keyIs (.inr x) (.str x t) = true:=by simp [keyIs,Value.isStrOf]
theorem key_ll (a b:Int):decide ((Sum.inl a:Key) = Sum.inl b) = (a == b):=by
 by_cases e:a = b
 ·subst e; simp
 ·have h:¬ (Sum.inl a:Key) = Sum.inl b:=fun q=>e (Sum.inl.inj q)
  rw [decide_eq_false h]
  exact (beq_eq_false_iff_ne.mpr e).symm
theorem key_rr (a b:Str):decide ((Sum.inr a:Key) = Sum.inr b) = decide (a = b):=by
 by_cases e:a = b
 ·subst e; simp
 ·have h:¬ (Sum.inr a:Key) = Sum.inr b:=fun q=>e (Sum.inr.inj q)
  rw [decide_eq_false h,decide_eq_false e]
theorem key_lr (a:Int) (b:Str):decide ((Sum.inl a:Key) = Sum.inr b) = false:=decide_eq_false (fun q=>nomatch q)
theorem key_rl (a:Str) (b:Int):decide ((Sum.inr a:Key) = Sum.inl b) = false:=decide_eq_false (fun q=>nomatch q)
def mixKind (prog:Program) (w:World):PySem.KeyKind prog w Key where
 is:=keyIs
 hash:=keyH w
 inj:=fun v a b ha hb=>by
  rcases keyIs_shape ha with ⟨i,t,rfl,rfl⟩ | ⟨x,t,rfl,rfl⟩
  ·rcases keyIs_shape hb with ⟨j,u,rfl,e⟩ | ⟨y,u,rfl,e⟩
   ·injection e with e1 _; rw [e1]
   ·exact nomatch e
  ·rcases keyIs_shape hb with ⟨j,u,rfl,e⟩ | ⟨y,u,rfl,e⟩
   ·exact nomatch e
   ·injection e with e1 _; rw [e1]
 byValue:=fun k v h=>by
  rcases keyIs_shape h with ⟨i,t,rfl,rfl⟩ | ⟨x,t,rfl,rfl⟩ <;> rfl
 pyHash:=fun hv h=>by
  rcases keyIs_shape hv with ⟨i,t,rfl,rfl⟩ | ⟨x,t,rfl,rfl⟩
  ·exact wpAny_pyHash_int h
  ·exact wpAny_pyHash_str h
 eqBool:=fun hu hv h=>by
  rcases keyIs_shape hu with ⟨i,t,rfl,rfl⟩ | ⟨x,t,rfl,rfl⟩
  ·rcases keyIs_shape hv with ⟨j,u,rfl,rfl⟩ | ⟨y,u,rfl,rfl⟩
   ·rw [key_ll] at h; exact wpAny_eqBool_int h
   ·rw [key_lr] at h; exact SeqAt.EqAt.int_str i t y u _ _ _ _ h
  ·rcases keyIs_shape hv with ⟨j,u,rfl,rfl⟩ | ⟨y,u,rfl,rfl⟩
   ·rw [key_rl] at h; exact SeqAt.EqAt.str_int x t j u _ _ _ _ h
   ·rw [key_rr] at h; exact wpAny_eqBool_str h
 «strs»:=fun k x t v h=>by
  rcases keyIs_shape h with ⟨i,u,rfl,e⟩ | ⟨y,u,rfl,e⟩
  ·exact nomatch e
  ·injection e with e1 _
   subst e1
   cases v <;> rfl
theorem mixKind_int (prog:Program) (w:World) (i:Int) (t:Tok):(mixKind prog w).is (.inl i) (.int i t) = true:=keyIs_int i t
theorem mixKind_str (prog:Program) (w:World) (x:Str) (t:Tok):(mixKind prog w).is (.inr x) (.str x t) = true:=keyIs_str x t
end L2
namespace L2
open PySem PySem.Spec PyProof.Rows
open Sem (wp)
inductive TK where
 | k (a:Key)
 | t (l:List TK)
mutual
def decTK:(x y:TK)->Decidable (x = y)
 | .k a,.k b=>if h:a = b then Decidable.isTrue (by rw [h]) else Decidable.isFalse fun e=>h (by injection e)
 | .t l,.t m=>match decTKs l m with
  | Decidable.isTrue h=>Decidable.isTrue (by rw [h])
  | Decidable.isFalse h=>Decidable.isFalse fun e=>h (by injection e)
 | .k _,.t _=>Decidable.isFalse nofun
 | .t _,.k _=>Decidable.isFalse nofun
def decTKs:(x y:List TK)->Decidable (x = y)
 | [],[]=>Decidable.isTrue rfl
 | [],_ :: _=>Decidable.isFalse nofun
 | _ :: _,[]=>Decidable.isFalse nofun
 | a :: l,b :: m=>match decTK a b with
  | Decidable.isTrue h=>match decTKs l m with
   | Decidable.isTrue h'=>Decidable.isTrue (by rw [h,h'])
   | Decidable.isFalse h'=>Decidable.isFalse fun e=>h' (by injection e)
  | Decidable.isFalse h=>Decidable.isFalse fun e=>h (by injection e)
end
instance:DecidableEq TK:=decTK
mutual
def TK.depth:TK->Nat
 | .k _=>0
 | .t l=>TK.depths l + 1
def TK.depths:List TK->Nat
 | []=>0
 | a :: r=>max (TK.depth a) (TK.depths r)
end
mutual
def TK.hash (w:World):TK->Int
 | .k a=>keyH w a
 | .t l=>reduceHash (Builtin.Tuple.tupleHashOf (TK.hashs w l))
def TK.hashs (w:World):List TK->List Int
 | []=>[]
 | a :: r=>TK.hash w a :: TK.hashs w r
end
mutual
def TK.draws:TK->Nat
 | .k _=>1
 | .t l=>TK.drawss l + 1
def TK.drawss:List TK->Nat
 | []=>0
 | a :: r=>TK.draws a + TK.drawss r
end
mutual
def TAt (h:Heap):TK->Value->Prop
 | .k a,v=>keyIs a v = true
 | .t l,v=>∃ a o items n,v = .ref a/\h.get? a = some o/\o.cls = .type "tuple"/\o.data = .seq items n/\TAts h l items.toList
def TAts (h:Heap):List TK->List Value->Prop
 | [],vs=>vs = []
 | k :: r,vs=>∃ v us,vs = v :: us/\TAt h k v/\TAts h r us
end
theorem TAt.inj {h:Heap}:∀ (d:Nat) {x y:TK} {v:Value},x.depth <= d->TAt h x v->TAt h y v->x = y:=by
 have key:∀ (d:Nat) (ih:∀ {x y:TK} {v:Value},x.depth <= d->TAt h x v->TAt h y v->x = y) (xs ys:List TK) (vs:List Value),TK.depths xs <= d->TAts h xs vs->TAts h ys vs->xs = ys:=by
  intro d ih xs
  induction xs with
  | nil =>
   intro ys vs _ hx hy
   have hx':vs = []:=hx
   subst hx'
   cases ys with
   | nil=>rfl
   | cons y ys=>obtain ⟨_,_,e,_⟩:=hy; cases e
  | cons x xs ihl =>
   intro ys vs hd hx hy
   obtain ⟨v,us,rfl,hx1,hx2⟩:=hx
   cases ys with
   | nil=>have hy':v :: us = []:=hy; cases hy'
   | cons y ys =>
    obtain ⟨v',us',e,hy1,hy2⟩:=hy
    cases e
    have hd':max x.depth (TK.depths xs) <= d:=hd
    rw [ih (by omega) hx1 hy1,ihl ys us (by omega) hx2 hy2]
 have leaf:∀ (a:Key) (l:List TK) (v:Value),TAt h (.k a) v->TAt h (.t l) v->False:=by
  intro a l v h1 h2
  obtain ⟨b,o,items,n,rfl,_⟩:=h2
  rcases keyIs_shape (show keyIs a (.ref b) = true from h1) with ⟨_,_,_,e⟩ | ⟨_,_,_,e⟩ <;> cases e
 have kk:∀ (a b:Key) (v:Value),keyIs a v = true->keyIs b v = true->a = b:=by
  intro a b v h1 h2
  rcases keyIs_shape h1 with ⟨i,t,rfl,rfl⟩ | ⟨i,t,rfl,rfl⟩
  ·rcases keyIs_shape h2 with ⟨j,u,rfl,e⟩ | ⟨j,u,rfl,e⟩
   ·cases e; rfl
   ·cases e
  ·rcases keyIs_shape h2 with ⟨j,u,rfl,e⟩ | ⟨j,u,rfl,e⟩
   ·cases e
   ·cases e; rfl
 intro d
 induction d with
 | zero =>
  intro x y v hd hx hy
  cases x with
  | t l=>exact absurd hd (by show ¬ (TK.depths l + 1 <= 0); omega)
  | k a =>
   cases y with
   | k b=>rw [kk a b v hx hy]
   | t l=>exact (leaf a l v hx hy).elim
 | succ d ih =>
  intro x y v hd hx hy
  cases x with
  | k a =>
   cases y with
   | k b=>rw [kk a b v hx hy]
   | t l=>exact (leaf a l v hx hy).elim
  | t l =>
   cases y with
   | k b=>exact (leaf b l v hy hx).elim
   | t l' =>
    obtain ⟨a,o,items,n,rfl,ho,hc,hdt,hi⟩:=hx
    obtain ⟨a',o',items',n',e,ho',hc',hdt',hi'⟩:=hy
    cases e
    rw [ho] at ho'; cases ho'
    rw [hdt] at hdt'
    injection hdt' with e1 _
    subst e1
    rw [key d (fun h1=>ih h1) l l' items.toList (by have:TK.depths l + 1 <= d + 1:=hd; omega) hi hi']
theorem TAt.mono {h h':Heap} (k:∀ a o items n,h.get? a = some o->o.cls = .type "tuple"->o.data = .seq items n->h'.get? a = some o):∀ (d:Nat) {x:TK} {v:Value},x.depth <= d->TAt h x v->TAt h' x v:=by
 have key:∀ (d:Nat) (ih:∀ {x:TK} {v:Value},x.depth <= d->TAt h x v->TAt h' x v) (xs:List TK) (vs:List Value),TK.depths xs <= d->TAts h xs vs->TAts h' xs vs:=by
  intro d ih xs
  induction xs with
  | nil=>intro vs _ hx; exact hx
  | cons x xs ihl =>
   intro vs hd hx
   obtain ⟨v,us,rfl,hx1,hx2⟩:=hx
   have hd':max x.depth (TK.depths xs) <= d:=hd
   exact ⟨v,us,rfl,ih (by omega) hx1,ihl us (by omega) hx2⟩
 intro d
 induction d with
 | zero =>
  intro x v hd hx
  cases x with
  | t l=>exact absurd hd (by show ¬ (TK.depths l + 1 <= 0); omega)
  | k a=>exact hx
 | succ d ih =>
  intro x v hd hx
  cases x with
  | k a=>exact hx
  | t l =>
   obtain ⟨a,o,items,n,rfl,ho,hc,hdt,hi⟩:=hx
   exact ⟨a,o,items,n,rfl,k a o items n ho hc hdt,hc,hdt,key d (fun h1=>ih h1) l _ (by have:TK.depths l + 1 <= d + 1:=hd; omega) hi⟩
section
variable {prog:Program} {w:World}
theorem tk_hash:∀ (d:Nat) {A:Around} {E:Value->Shared->Prop} {s:Shared} {k:TK} {v:Value} {Q:Int->Shared->Prop},k.depth <= d->A.units + d < cLine->TAt s.heap k v->Q (k.hash w) { s with toks:=s.toks + k.draws } ->
  wpAny (model prog w) A (pyHash v) Q E s:=by
 intro d
 induction d with
 | zero =>
  intro A E s k v Q hd hu hk h
  cases k with
  | t l=>exact absurd hd (by show ¬ (TK.depths l + 1 <= 0); omega)
  | k a=>exact (mixKind prog w).pyHash (k:=a) hk h
 | succ d ih =>
  intro A E s k v Q hd hu hk h
  cases k with
  | k a=>exact (mixKind prog w).pyHash (k:=a) hk h
  | t l =>
   obtain ⟨a,o,items,n,rfl,ho,hc,hdt,hi⟩:=hk
   have hT:s.TypeIs (.ref a) "tuple":=⟨o,ho,hc⟩
   have hdl:TK.depths l <= d:=by have:TK.depths l + 1 <= d + 1:=hd; omega
   unfold pyHash
   first | unfold pyHashByItsType | skip
   first | refine wpAny_bind (wpAny_cRoomFor_or (.inr (by omega)) ?_) | skip
   refine wpAny_bind (wpAny_specialOf hT F.slot_tuple_hash.lookup ?_)
   show wpAny _ _ (if (some (Value.builtin "tuple.__hash__") == some Value.none) = true then _ else _) Q E s
   rw [if_neg (by rw [beq_builtin_none]; exact Bool.false_ne_true)]
   refine wpAny_bind (wpAny_specialOf hT F.slot_tuple_hash.lookup ?_)
   show wpAny _ _ (callSpecialIfBoundUnlessNone? (.ref a) "__hash__" _ >>= _) Q E s
   refine wpAny_bind (wpAny_callSpecialIfBoundUnlessNone?_slot hT F.slot_tuple_hash (wpAny_call_entry F.slot_tuple_hash hT F.entry_tuple_hash ?_ (F.args_tuple_hash_1 _)))
   show wpAny _ _ (Builtin.Tuple.tupleItemsOf (.ref a) >>= _) _ _ s
   refine wpAny_bind (wpAny_tupleItemsOf ho hdt ?_)
   refine wpAny_bind ?_
   rw [<- Array.forIn_toList]
   refine wpAny_forIn_list _
    (fun rest (b:Array Int) s'=>∃ done left,l = done ++ left/\TAts s.heap left rest/\b.toList = TK.hashs w done/\s' = { s with toks:=s.toks + TK.drawss done })
    _ ?_ ?_ _ _ ⟨[],l,rfl,hi,rfl,rfl⟩
   ·rintro x rest b s' ⟨done,left,e,hl,hb,rfl⟩
    cases left with
    | nil=>have hl':x :: rest = []:=hl; cases hl'
    | cons k' left =>
     obtain ⟨x',rest',e',h1,h2⟩:=hl
     cases e'
     have hdk:k'.depth <= d:=by
      have gen:∀ (p:List TK),TK.depths (p ++ k' :: left) <= d->k'.depth <= d:=by
       intro p
       induction p with
       | nil=>intro hp; have hp':max k'.depth (TK.depths left) <= d:=hp; omega
       | cons q p ihp=>intro hp; have hp':max q.depth (TK.depths (p ++ k' :: left)) <= d:=hp; exact ihp (by omega)
      exact gen done (by rw [<- e]; exact hdl)
     have hs:TK.hashs w (done ++ [k']) = TK.hashs w done ++ [k'.hash w]:=by
      clear e hb
      induction done with
      | nil=>rfl
      | cons q p ihp=>show _ :: TK.hashs w (p ++ [k']) = _; rw [ihp]; rfl
     have hdr:TK.drawss (done ++ [k']) = TK.drawss done + k'.draws:=by
      clear e hb hs
      induction done with
      | nil=>show k'.draws + 0 = 0 + k'.draws; omega
      | cons q p ihp=>show q.draws + TK.drawss (p ++ [k']) = q.draws + TK.drawss p + k'.draws; rw [ihp]; omega
     refine wpAny_bind (ih (k:=k') hdk (by show A.units + 1 + d < cLine; omega) h1 ?_)
     first
      | exact wpAny_pure ⟨done ++ [k'],left,by rw [e]; simp,h2,by rw [hs]; simp [hb],by rw [hdr]; simp [Nat.add_assoc]⟩
      | exact wpAny_bind (wpAny_pure (wpAny_pure ⟨done ++ [k'],left,by rw [e]; simp,h2,by rw [hs]; simp [hb],by rw [hdr]; simp [Nat.add_assoc]⟩))
   ·rintro b s' ⟨done,left,e,hl,hb,rfl⟩
    cases left with
    | cons k' left=>obtain ⟨_,_,e',_⟩:=hl; cases e'
    | nil =>
     rw [List.append_nil] at e
     subst e
     show wpAny _ _ (retInt (Builtin.Tuple.tupleHashOf b.toList)) _ _ _
     rw [hb]
     refine wpAny_ret_mkInt ?_
     have h':Q (reduceHash (Builtin.Tuple.tupleHashOf (TK.hashs w l))) { s with toks:=s.toks + (TK.drawss l + 1) }:=h
     show wpAny _ _ (if (decide (-(2:Int) ^ 63 <= Builtin.Tuple.tupleHashOf (TK.hashs w l)) && decide (Builtin.Tuple.tupleHashOf (TK.hashs w l) < 2 ^ 63)) = true then _ else _) Q E _
     unfold reduceHash at h'
     by_cases hr:(decide (-(2:Int) ^ 63 <= Builtin.Tuple.tupleHashOf (TK.hashs w l)) && decide (Builtin.Tuple.tupleHashOf (TK.hashs w l) < 2 ^ 63)) = true
     ·rw [if_pos hr]
      rw [if_pos hr] at h'
      exact wpAny_pure (by simpa [Nat.add_assoc] using h')
     ·rw [if_neg hr]
      rw [if_neg hr] at h'
      exact wpAny_bind (wpAny_rule (wpAny_pure (by simpa [Nat.add_assoc] using h')))
theorem tk_eqTree (d:Nat) (ih:∀ {A:Around} {E:Value->Shared->Prop} {s:Shared} {x y:TK} {u v:Value} {Q:Bool->Shared->Prop},x.depth <= d->y.depth <= d->A.units + d < cLine->TAt s.heap x u->TAt s.heap y v->Q (decide (x = y)) s->wpAny (model prog w) A (eqBool u v) Q E s)
  {A:Around} {E:Value->Shared->Prop} {s:Shared} {x y:List TK} {a b:Addr} {P:Fin->Shared->Prop} {oa ob:Obj} {xs ys:Array Value} {na nb:Nat} (hx:TK.depths x <= d) (hy:TK.depths y <= d) (hu:A.units + d < cLine)
  (hoa:s.heap.get? a = some oa) (hda:oa.data = .seq xs na) (hia:TAts s.heap x xs.toList) (hob:s.heap.get? b = some ob) (hcb:ob.cls = .type "tuple") (hdb:ob.data = .seq ys nb) (hib:TAts s.heap y ys.toList)
  (h:P (.done (.ret (.bool (decide (x = y))))) s):wpAny (model prog w) A (Builtin.«tuple.__eq__» ⟨[.ref a,.ref b],[]⟩) P E s:=by
 have hTb:s.TypeIs (.ref b) "tuple":=⟨ob,hob,hcb⟩
 show wpAny _ _ (isInstance (.ref b) (.type "tuple") >>= _) _ _ s
 refine wpAny_bind (wpAny_isInstance hTb isSubtype_tuple_tuple ?_)
 simp only [Bool.not_true,Bool.false_eq_true,if_false]
 refine wpAny_bind (wpAny_tupleItemsOf hoa hda ?_)
 refine wpAny_bind (wpAny_tupleItemsOf hob hdb ?_)
 refine wpAny_bind ?_
 refine wpAny_forIn_list _
  (fun rest r s'=>r.1 = none/\s' = s/\∃ x' y' xs' ys',rest = List.zip xs' ys'/\TAts s.heap x' xs'/\TAts s.heap y' ys'/\TK.depths x' <= d/\TK.depths y' <= d/\decide (x' = y') = decide (x = y)/\(xs'.length == ys'.length) = (xs.size == ys.size))
  _ ?_ ?_ _ _ ⟨rfl,rfl,x,y,xs.toList,ys.toList,rfl,hia,hib,hx,hy,rfl,by simp⟩
 ·rintro ⟨u,v⟩ rest r s' ⟨hr,rfl,x',y',xs',ys',hz,hx',hy',dx,dy,hdec,hlen⟩
  cases x' with
  | nil =>
   have e:xs' = []:=hx'
   subst e; simp at hz
  | cons k1 x'' =>
   obtain ⟨u',xs'',rfl,h1,hx''⟩:=hx'
   cases y' with
   | nil =>
    have e:ys' = []:=hy'
    subst e; simp at hz
   | cons k2 y'' =>
    obtain ⟨v',ys'',rfl,h2,hy''⟩:=hy'
    simp only [List.zip_cons_cons,List.cons.injEq,Prod.mk.injEq] at hz
    obtain ⟨⟨rfl,rfl⟩,rfl⟩:=hz
    have dx':max k1.depth (TK.depths x'') <= d:=dx
    have dy':max k2.depth (TK.depths y'') <= d:=dy
    refine wpAny_bind (ih (x:=k1) (y:=k2) (by omega) (by omega) hu h1 h2 ?_)
    by_cases hk:k1 = k2
    ·subst hk
     rw [decide_eq_true rfl]
     simp only [Bool.not_true,Bool.false_eq_true,if_false]
     refine wpAny_pure ⟨rfl,rfl,x'',y'',xs'',ys'',rfl,hx'',hy'',by omega,by omega,?_,by simpa using hlen⟩
     rw [<- hdec]
     by_cases hxy:x'' = y''
     ·simp [hxy]
     ·simp [hxy]
    ·rw [decide_eq_false hk]
     simp only [Bool.not_false,if_true]
     have hf:decide (x = y) = false:=by rw [<- hdec]; simp [hk]
     rw [hf] at h
     exact wpAny_bind (wpAny_pure (wpAny_pure (wpAny_pure h)))
 ·rintro ⟨r1,r2⟩ s' ⟨hr,rfl,x',y',xs',ys',hz,hx',hy',dx,dy,hdec,hlen⟩
  simp only at hr
  subst hr
  refine wpAny_pure ?_
  have hfin:(xs.size == ys.size) = decide (x = y):=by
   rw [<- hdec,<- hlen]
   cases x' with
   | nil =>
    have e:xs' = []:=hx'
    subst e
    cases y' with
    | nil=>have e:ys' = []:=hy'; subst e; simp
    | cons _ _=>obtain ⟨_,_,rfl,_⟩:=hy'; simp
   | cons _ _ =>
    obtain ⟨_,_,rfl,_⟩:=hx'
    cases y' with
    | nil=>have e:ys' = []:=hy'; subst e; simp
    | cons _ _=>obtain ⟨_,_,rfl,_⟩:=hy'; simp at hz
  show P (.done (.ret (.bool (xs.size == ys.size)))) s'
  rw [hfin]; exact h
theorem tk_eq:∀ (d:Nat) {A:Around} {E:Value->Shared->Prop} {s:Shared} {x y:TK} {u v:Value} {Q:Bool->Shared->Prop},x.depth <= d->y.depth <= d->A.units + d < cLine->TAt s.heap x u->TAt s.heap y v->Q (decide (x = y)) s ->
  wpAny (model prog w) A (eqBool u v) Q E s:=by
 have mixed1:∀ {A:Around} {E:Value->Shared->Prop} {s:Shared} {a:Key} {l:List TK} {u v:Value} {Q:Bool->Shared->Prop},A.units < cLine->TAt s.heap (.k a) u->TAt s.heap (.t l) v->Q false s->wpAny (model prog w) A (eqBool u v) Q E s:=by
  intro A E s a l u v Q hu hx hy h
  obtain ⟨b,o,items,n,rfl,ho,hc,hdt,hi⟩:=hy
  have ht:s.heap.IsTuple b items:=⟨o,ho,hc,n,hdt⟩
  rcases keyIs_shape (show keyIs a u = true from hx) with ⟨i,t,rfl,rfl⟩ | ⟨i,t,rfl,rfl⟩
  ·exact SeqAt.EqAt.int_tuple i t ht hu prog w E Q h
  ·exact SeqAt.EqAt.str_tuple i t ht hu prog w E Q h
 have mixed2:∀ {A:Around} {E:Value->Shared->Prop} {s:Shared} {a:Key} {l:List TK} {u v:Value} {Q:Bool->Shared->Prop},A.units < cLine->TAt s.heap (.t l) u->TAt s.heap (.k a) v->Q false s->wpAny (model prog w) A (eqBool u v) Q E s:=by
  intro A E s a l u v Q hu hx hy h
  obtain ⟨b,o,items,n,rfl,ho,hc,hdt,hi⟩:=hx
  have ht:s.heap.IsTuple b items:=⟨o,ho,hc,n,hdt⟩
  rcases keyIs_shape (show keyIs a v = true from hy) with ⟨i,t,rfl,rfl⟩ | ⟨i,t,rfl,rfl⟩
  ·exact SeqAt.EqAt.tuple_int i t ht hu prog w E Q h
  ·exact SeqAt.EqAt.tuple_str i t ht hu prog w E Q h
 have leaves:∀ {A:Around} {E:Value->Shared->Prop} {s:Shared} {a b:Key} {u v:Value} {Q:Bool->Shared->Prop},TAt s.heap (.k a) u->TAt s.heap (.k b) v->Q (decide (TK.k a = TK.k b)) s->wpAny (model prog w) A (eqBool u v) Q E s:=by
  intro A E s a b u v Q hx hy h
  refine (mixKind prog w).eqBool (a:=a) (b:=b) hx hy ?_
  by_cases e:a = b
  ·subst e; simpa using h
  ·have:¬ (TK.k a = TK.k b):=fun z=>e (by injection z)
   rw [decide_eq_false this] at h
   rw [decide_eq_false e]; exact h
 intro d
 induction d with
 | zero =>
  intro A E s x y u v Q hdx hdy hu hx hy h
  cases x with
  | t l=>exact absurd hdx (by show ¬ (TK.depths l + 1 <= 0); omega)
  | k a =>
   cases y with
   | t l=>exact absurd hdy (by show ¬ (TK.depths l + 1 <= 0); omega)
   | k b=>exact leaves hx hy h
 | succ d ih =>
  intro A E s x y u v Q hdx hdy hu hx hy h
  cases x with
  | k a =>
   cases y with
   | k b=>exact leaves hx hy h
   | t l =>
    rw [decide_eq_false (by intro z; cases z)] at h
    exact mixed1 (by omega) hx hy h
  | t l =>
   cases y with
   | k b =>
    rw [decide_eq_false (by intro z; cases z)] at h
    exact mixed2 (by omega) hx hy h
   | t m =>
    have hl:TK.depths l <= d:=by have:TK.depths l + 1 <= d + 1:=hdx; omega
    have hm:TK.depths m <= d:=by have:TK.depths m + 1 <= d + 1:=hdy; omega
    have hx0:=hx
    have hy0:=hy
    obtain ⟨a,oa,xs,na,rfl,hoa,hca,hda,hia⟩:=hx
    obtain ⟨b,ob,ys,nb,rfl,hob,hcb,hdb,hib⟩:=hy
    have hTa:s.TypeIs (.ref a) "tuple":=⟨oa,hoa,hca⟩
    have hTb:s.TypeIs (.ref b) "tuple":=⟨ob,hob,hcb⟩
    have hd':decide (TK.t l = TK.t m) = decide (l = m):=by
     by_cases e:l = m
     ·subst e; simp
     ·have:¬ (TK.t l = TK.t m):=fun z=>e (by injection z)
      rw [decide_eq_false this,decide_eq_false e]
    unfold eqBool
    try with_reducible refine wpAny_holding ?_
    show wpAny _ _ (if (Value.ref a == Value.ref b) = true then _ else _) Q E s
    by_cases hab:(Value.ref a == Value.ref b) = true
    ·rw [if_pos hab]
     have e:a = b:=by have:=eq_of_beq hab; injection this
     subst e
     have e2:TK.t l = TK.t m:=TAt.inj _ (Nat.le_refl _) hx0 hy0
     rw [decide_eq_true e2] at h
     exact wpAny_bind (wpAny_rule (wpAny_pure h))
    ·rw [if_neg hab]
     rw [hd'] at h
     exact wpAny_bind (wpAny_richCompare_same_room (op:=.Eq) hTa hTb F.slot_tuple_eq
      (wpAny_call_entry F.slot_tuple_eq hTa F.entry_tuple_eq (tk_eqTree d (fun h1 h2 h3 h4 h5 h6=>ih h1 h2 h3 h4 h5 h6) hl hm (by show A.units + 1 + d < cLine; omega) hoa hda hia hob hcb hdb hib ⟨_,rfl,(fun e=>nomatch e),wpAny_truthy_bool h⟩) (F.args_tuple_eq_2 _ _)) (by omega))
theorem tk_quiet:∀ (d:Nat) {A:Around} {E:Value->Shared->Prop} {s:Shared} {k:TK} {v:Value} {Q:Bool->Shared->Prop},k.depth <= d->TAt s.heap k v->Q true s->wpAny (model prog w) A (eqIsQuiet d v) Q E s:=by
 intro d
 induction d with
 | zero =>
  intro A E s k v Q hd hk h
  cases k with
  | t l=>exact absurd hd (by show ¬ (TK.depths l + 1 <= 0); omega)
  | k a=>rw [eqIsQuiet_byValue _ ((mixKind prog w).byValue a v hk)]; exact wpAny_pure h
 | succ d ih =>
  intro A E s k v Q hd hk h
  cases k with
  | k a=>rw [eqIsQuiet_byValue _ ((mixKind prog w).byValue a v hk)]; exact wpAny_pure h
  | t l =>
   have hl:TK.depths l <= d:=by have:TK.depths l + 1 <= d + 1:=hd; omega
   obtain ⟨a,o,items,n,rfl,ho,hc,hdt,hi⟩:=hk
   have hT:s.TypeIs (.ref a) "tuple":=⟨o,ho,hc⟩
   unfold eqIsQuiet
   refine wpAny_bind (wpAny_specialOf hT F.slot_tuple_eq.lookup ?_)
   show wpAny _ _ (isInstance (.ref a) (.type "tuple") >>= _) _ _ s
   refine wpAny_bind (wpAny_isInstance hT isSubtype_tuple_tuple ?_)
   simp only [Bool.not_true,Bool.false_eq_true,if_false]
   refine wpAny_bind (wpAny_seqItems ho hdt ?_)
   refine wpAny_bind ?_
   show wpAny _ _ (forIn items _ _) _ _ s
   rw [<- Array.forIn_toList]
   refine wpAny_forIn_list _ (fun rest r s'=>r.1 = none/\s' = s/\∃ left,TAts s.heap left rest/\TK.depths left <= d) _ ?_ ?_ _ _ ⟨rfl,rfl,l,hi,hl⟩
   ·rintro v rest r s' ⟨hr,rfl,left,hall,hdl⟩
    cases left with
    | nil=>have e:v :: rest = []:=hall; cases e
    | cons k' left =>
     obtain ⟨v',rest',e,h1,h2⟩:=hall
     cases e
     have hdl':max k'.depth (TK.depths left) <= d:=hdl
     refine wpAny_bind (ih (k:=k') (by omega) h1 ?_)
     simp only [Bool.not_true,Bool.false_eq_true,if_false]
     exact wpAny_pure ⟨rfl,rfl,left,h2,by omega⟩
   ·rintro ⟨r1,r2⟩ s' ⟨hr,rfl,_⟩
    simp only at hr
    subst hr
    exact wpAny_pure h
def treeKind (prog:Program) (w:World):HeapKind prog w TK where
 is:=fun h k a=>TAt h k (.ref a)/\k.depth <= 8
 hash:=TK.hash w
 draws:=TK.draws
 room:=fun A=>A.units + 8 < cLine
 inj:=fun hx hy=>TAt.inj 8 hx.2 hx.1 hy.1
 keeps:=fun {h h' k a d o es ep} x ho hd hs=>⟨TAt.mono (fun b ob items n hb _ hdb=>(hs.2 b fun e=>by
  subst e
  rw [ho] at hb
  cases hb
  rw [hd] at hdb
  cases hdb).trans hb) 8 x.2 x.1,x.2⟩
 pyHash:=fun hu hk h=>tk_hash 8 hk.2 hu hk.1 h
 eqBool:=fun hu hx hy h=>tk_eq 8 hx.2 hy.2 hu hx.1 hy.1 h
 quiet:=fun hk h=>tk_quiet 8 hk.2 hk.1 h
end
end L2
namespace L2
open PySem PySem.Spec PyProof.Rows
inductive V where
 | non | bl (b:Bool) | int (i:Int) | str (x:Str) | byt (b:Array UInt8) | flt (b:UInt64) | ref (a:Addr) | ty (n:String)
 deriving DecidableEq
def RelV:V->Value->Prop
 | .non,u=>u = Value.none
 | .bl b,u=>u = Value.bool b
 | .int i,u=>∃ t,u = Value.int i t
 | .str x,u=>∃ t,u = Value.str x t
 | .byt b,u=>∃ t,u = Value.bytes b t
 | .flt b,u=>∃ t,u = Value.float b t
 | .ref a,u=>u = Value.ref a
 | .ty n,u=>u = Value.type n
abbrev Vals:List V->List Value->Prop:=Paired RelV
theorem Vals.length {xs:List V} {us:List Value} (r:Vals xs us):xs.length = us.length:=Paired.length r
theorem Vals.get:∀ {xs:List V} {us:List Value} {i:Nat} {x:V},Vals xs us->xs[i]? = some x->∃ u,us[i]? = some u/\RelV x u
 | _,_,_,_,.nil,e=>by simp at e
 | _,_,0,_,.cons r _,e=>by simp at e; subst e; exact ⟨_,rfl,r⟩
 | _,_,i + 1,x,.cons _ t,e=>by
  obtain ⟨u,h1,h2⟩:=Vals.get (i:=i) (x:=x) t (by simpa using e)
  exact ⟨u,by simpa using h1,h2⟩
theorem Vals.set {x:V} {u:Value} (r:RelV x u):∀ {xs:List V} {us:List Value} (i:Nat),Vals xs us->Vals (xs.set i x) (us.set i u)
 | _,_,_,.nil=>.nil
 | _,_,0,.cons _ t=>.cons r t
 | _,_,i + 1,.cons q t=>.cons q (Vals.set r i t)
theorem Vals.append:∀ {xs ys:List V} {us ws:List Value},Vals xs us->Vals ys ws->Vals (xs ++ ys) (us ++ ws)
 | _,_,_,_,.nil,s=>s
 | _,_,_,_,.cons r t,s=>.cons r (Vals.append t s)
theorem Vals.take:∀ {xs:List V} {us:List Value} (n:Nat),Vals xs us->Vals (xs.take n) (us.take n)
 | _,_,0,_=>.nil
 | _,_,_ + 1,.nil=>.nil
 | _,_,n + 1,.cons r t=>.cons r (Vals.take n t)
theorem Vals.drop:∀ {xs:List V} {us:List Value} (n:Nat),Vals xs us->Vals (xs.drop n) (us.drop n)
 | _,_,0,r=>r
 | _,_,_ + 1,.nil=>.nil
 | _,_,n + 1,.cons _ t=>Vals.drop n t
def RelO:Option V->Option Value->Prop
 | some v,some u=>RelV v u
 | none,none=>True
 | _,_=>False
def KV {κ:Type}:List (κ × V)->List (κ × Value)->Prop:=Paired fun (p:κ × V) (q:κ × Value)=>p.1 = q.1/\RelV p.2 q.2
def kV:Key->V
 | .inl i=>.int i
 | .inr x=>.str x
inductive HO where
 | lst (xs:List V)
 | tup (xs:List V)
 | dK (kvs:List (Key × V)) | dT (kvs:List (TK × V))
 | set (S:Int->Bool) (n:Nat)
 | ins (C dx:Addr) (fs:List (Str × V))
 | own (x:Addr)
 | xd (fs:List (Str × V))
 | met (f x:Addr)
 | rng (lo hi:Int)
 | frz (o:Obj) (u:HO)
 | tbl (ps:Array Value)
 | ext (φ:Heap->Prop)
abbrev Hp:=Addr->Option HO
mutual
def TKAt (H:Hp):TK->V->Prop
 | .k a,v=>v = kV a
 | .t l,v=>∃ b xs,v = .ref b/\H b = some (.tup xs)/\TKAts H l xs
def TKAts (H:Hp):List TK->List V->Prop
 | [],vs=>vs = []
 | k :: r,vs=>∃ v us,vs = v :: us/\TKAt H k v/\TKAts H r us
end
theorem TKAt.keeps {H H':Hp} (ht:∀ b xs,H b = some (.tup xs)->H' b = some (.tup xs)):∀ (d:Nat) {k:TK} {v:V},k.depth <= d->TKAt H k v->TKAt H' k v:=by
 have key:∀ (d:Nat) (ih:∀ {k:TK} {v:V},k.depth <= d->TKAt H k v->TKAt H' k v) (xs:List TK) (vs:List V),TK.depths xs <= d->TKAts H xs vs->TKAts H' xs vs:=by
  intro d ih xs
  induction xs with
  | nil=>intro vs _ hx; exact hx
  | cons x xs ihl =>
   intro vs hd hx
   obtain ⟨v,us,rfl,hx1,hx2⟩:=hx
   have hd':max x.depth (TK.depths xs) <= d:=hd
   exact ⟨v,us,rfl,ih (by omega) hx1,ihl us (by omega) hx2⟩
 intro d
 induction d with
 | zero =>
  intro k v hd hx
  cases k with
  | t l=>exact absurd hd (by show ¬ (TK.depths l + 1 <= 0); omega)
  | k a=>exact hx
 | succ d ih =>
  intro k v hd hx
  cases k with
  | k a=>exact hx
  | t l =>
   obtain ⟨b,xs,rfl,hb,hi⟩:=hx
   exact ⟨b,xs,rfl,ht b xs hb,key d (fun h1=>ih h1) l xs (by have:TK.depths l + 1 <= d + 1:=hd; omega) hi⟩
def upd (H:Hp) (a:Addr) (o:HO):Hp:=fun b=>if b = a then some o else H b
theorem upd_same {H:Hp} {a:Addr} {o:HO}:upd H a o a = some o:=by unfold upd; rw [if_pos rfl]
theorem upd_ne {H:Hp} {a b:Addr} {o:HO} (h:b ≠ a):upd H a o b = H b:=by unfold upd; rw [if_neg h]
theorem upd_upd {H:Hp} {a:Addr} {o u:HO}:upd (upd H a o) a u = upd H a u:=by
 funext b; unfold upd; split <;> rfl
theorem ne_of {H:Hp} {a b:Addr} {o u:HO} (h:H a = some o) (h':H b = some u) (d:o ≠ u):a ≠ b:=by
 intro e; subst e; rw [h] at h'; exact d (Option.some.inj h')
theorem ne_of_none {H:Hp} {a b:Addr} {o:HO} (h:H a = some o) (h':H b = none):a ≠ b:=by
 intro e; subst e; rw [h] at h'; cases h'
section
variable (P:Program) (w:World)
def ObjOk (H:Hp) (h:Heap) (a:Addr):HO->Prop
 | .lst xs=>xs.length <= sizeLine/\∃ (its:List Value) (n:Nat),Vals xs its/\h.get? a = some { cls:=.type "list",data:=.seq its.toArray n }
 | .tup xs=>xs.length <= sizeLine/\∃ its:List Value,Vals xs its/\IsTup h a its.toArray
 | .dK kvs=>kvs.length <= sizeLine/\(a == sysModules) = false/\∃ vs,KV kvs vs/\h.DictOf (mixKind P w) a vs
 | .dT kvs=>kvs.length <= sizeLine/\(a == sysModules) = false/\∃ xs:List (TK × Addr × Value),
   Paired (fun (p:TK × V) (q:TK × Addr × Value)=>p.1 = q.1/\TKAt H p.1 (.ref q.2.1)/\p.1.depth <= 8/\RelV p.2 q.2.2) kvs xs /\
   ∃ o es ep,h.get? a = some o/\o.ExactDict/\o.data = .dict es ep/\es.toList = xs.map (entryOfKey (treeKind P w))/\(xs.map (·.1)).Nodup
 | .set S n=>h.SetOf (intKind P w) a S n
 | .ins C dx fs=>H dx = some (.own a)/\fs.length <= 1000/\dx ≠ a/\h.get? a = some (PySem.W.instObj C dx) /\
   ∃ mA,h.Ns1 dx mA/\(∀ f,RelO (fs.lookup f) (mA f))/\PySem.Within mA (fs.map (·.1))
 | .own _=>∃ o,h.get? a = some o
 | .xd fs=>∃ mA,h.Ns1 a mA/\∀ f,RelO (fs.lookup f) (mA f)
 | .rng lo hi=>∃ t u v,h.get? a = some { cls:=.type "range",data:=.fields #[.int lo t,.int hi u,.int 1 v] }
 | .frz o u=>h.get? a = some o/\ObjOk H h a u
 | .tbl ps=>h.get? a = some { cls:=.none,data:=.fields ps }
 | .met f x=>h.get? a = some (PySem.W.methodObj (.ref f) (.ref x))
 | .ext φ=>φ h/\(∃ o,h.get? a = some o)/\∀ h1 h2:Heap,φ h1->(∀ o,h1.get? a = some o->h2.get? a = some o)->φ h2
def HOk (H:Hp) (h:Heap):Prop:=∀ a o,H a = some o->ObjOk P w H h a o
end
section
variable {P:Program} {w:World} {H H':Hp} {h h':Heap} {a:Addr} {o:HO}
theorem ObjOk.lt (x:ObjOk P w H h a o):a < h.objs.size:=by
 cases o with
 | lst xs=>obtain ⟨_,_,_,_,e⟩:=x; exact Heap.lt_size e
 | tup xs=>obtain ⟨_,_,_,p⟩:=x; exact p.lt
 | dK kvs=>obtain ⟨_,_,_,_,o,_,_,e,_⟩:=x; exact Heap.lt_size e
 | dT kvs=>obtain ⟨_,_,_,_,o,_,_,e,_⟩:=x; exact Heap.lt_size e
 | set S n=>obtain ⟨o,_,_,_,e,_⟩:=x; exact Heap.lt_size e
 | ins C dx fs=>obtain ⟨_,_,_,e,_⟩:=x; exact Heap.lt_size e
 | own y=>obtain ⟨_,e⟩:=x; exact Heap.lt_size e
 | xd fs=>obtain ⟨_,⟨_,_,_,e,_⟩,_⟩:=x; exact Heap.lt_size e
 | rng lo hi=>obtain ⟨_,_,_,e⟩:=x; exact Heap.lt_size e
 | frz ob u=>obtain ⟨e,_⟩:=x; exact Heap.lt_size e
 | tbl ps=>exact Heap.lt_size (show h.get? a = some _ from x)
 | met f y=>exact Heap.lt_size (show h.get? a = some _ from x)
 | ext φ=>obtain ⟨_,⟨_,e⟩,_⟩:=x; exact Heap.lt_size e
theorem Paired.mapP {α β:Type} {F G:α->β->Prop}:∀ {l₁:List α} {l₂:List β},Paired F l₁ l₂->(∀ a b,F a b->G a b)->Paired G l₁ l₂
 | _,_,.nil,_=>.nil
 | _,_,.cons r t,f=>.cons (f _ _ r) (Paired.mapP t f)
theorem ObjOk.stay (x:ObjOk P w H h a o) (k:∀ b u,(b = a ∨ H b = some (.own a))->h.get? b = some u->h'.get? b = some u)
  (ho:∀ b,H b = some (.own a)->H' b = some (.own a)) (ht:∀ b xs,H b = some (.tup xs)->H' b = some (.tup xs)):ObjOk P w H' h' a o:=by
 induction o with
 | lst xs=>obtain ⟨z,its,n,r,e⟩:=x; exact ⟨z,its,n,r,k _ _ (.inl rfl) e⟩
 | tup xs=>obtain ⟨z,its,r,ob,e,c⟩:=x; exact ⟨z,its,r,ob,k _ _ (.inl rfl) e,c⟩
 | dK kvs=>obtain ⟨z,y,vs,r,ob,es,ep,e,c⟩:=x; exact ⟨z,y,vs,r,ob,es,ep,k _ _ (.inl rfl) e,c⟩
 | dT kvs =>
  obtain ⟨z,y,xs,r,ob,es,ep,e,c⟩:=x
  exact ⟨z,y,xs,Paired.mapP r fun p q z=>⟨z.1,TKAt.keeps ht 8 z.2.2.1 z.2.1,z.2.2⟩,ob,es,ep,k _ _ (.inl rfl) e,c⟩
 | set S n=>obtain ⟨ob,es,ep,t,e,c⟩:=x; exact ⟨ob,es,ep,t,k _ _ (.inl rfl) e,c⟩
 | ins C dx fs =>
  obtain ⟨d,z,ne,e,mA,⟨od,es,ep,e2,c⟩,r⟩:=x
  exact ⟨ho _ d,z,ne,k _ _ (.inl rfl) e,mA,⟨od,es,ep,k _ _ (.inr d) e2,c⟩,r⟩
 | own y=>obtain ⟨ob,e⟩:=x; exact ⟨ob,k _ _ (.inl rfl) e⟩
 | xd fs=>obtain ⟨mA,⟨od,es,ep,e,c⟩,r⟩:=x; exact ⟨mA,⟨od,es,ep,k _ _ (.inl rfl) e,c⟩,r⟩
 | rng lo hi=>obtain ⟨t,u,v,e⟩:=x; exact ⟨t,u,v,k _ _ (.inl rfl) e⟩
 | frz ob u ih=>obtain ⟨e,q⟩:=x; exact ⟨k _ _ (.inl rfl) e,ih q⟩
 | tbl ps =>
  have e:h.get? a = some { cls:=.none,data:=.fields ps }:=x
  show h'.get? a = some { cls:=.none,data:=.fields ps }
  exact k a _ (.inl rfl) e
 | met f y =>
  have e:h.get? a = some (PySem.W.methodObj (.ref f) (.ref y)):=x
  show h'.get? a = some (PySem.W.methodObj (.ref f) (.ref y))
  exact k a _ (.inl rfl) e
 | ext φ=>obtain ⟨p,⟨o,e⟩,st⟩:=x; exact ⟨st _ _ p fun o q=>k _ _ (.inl rfl) q,⟨o,k _ _ (.inl rfl) e⟩,st⟩
theorem HOk.lt (x:HOk P w H h) (e:H a = some o):a < h.objs.size:=(x a o e).lt
theorem HOk.fresh (x:HOk P w H h) (e:h.objs.size <= a):H a = none:=by
 cases q:H a with
 | none=>rfl
 | some u=>exact absurd (Nat.lt_of_lt_of_le (x.lt q) e) (Nat.lt_irrefl _)
theorem HOk.kept (x:HOk P w H h) (k:∀ b u,h.get? b = some u->h'.get? b = some u):HOk P w H h':=fun a o e =>
 (x a o e).stay (fun b u _ q=>k b u q) (fun _ q=>q) fun _ _ q=>q
theorem HOk.laid (x:HOk P w H h) (k:∀ b u,h.get? b = some u->h'.get? b = some u) (hp:h.objs.size <= a) (new:ObjOk P w (upd H a o) h' a o):HOk P w (upd H a o) h':=fun b u e=>by
 have hn:=x.fresh hp
 by_cases hb:b = a
 ·subst hb; rw [upd_same] at e; cases e; exact new
 ·rw [upd_ne hb] at e
  exact (x b u e).stay (fun c v _ q=>k c v q) (fun c q=>by rw [upd_ne (ne_of_none q hn)]; exact q) fun c xs q=>by rw [upd_ne (ne_of_none q hn)]; exact q
end
def Rd (H:Hp) (a:Addr) (u:HO):Prop:=H a = some u ∨ ∃ o,H a = some (.frz o u)
theorem Rd.ok {P:Program} {w:World} {H:Hp} {h:Heap} {a:Addr} {u:HO} (r:Rd H a u) (x:HOk P w H h):ObjOk P w H h a u:=by
 rcases r with r | ⟨o,r⟩
 ·exact x a u r
 ·obtain ⟨_,q⟩:=x a _ r
  exact q
def Mut:Option HO->Prop
 | some (.lst _)=>True
 | some (.dK _)=>True
 | some (.dT _)=>True
 | some (.set _ _)=>True
 | some (.ins _ _ _)=>True
 | some (.ext _)=>True
 | _=>False
section
variable {P:Program} {w:World} {H:Hp} {h h':Heap} {x e:Addr} {o':HO}
theorem HOk.write (ok:HOk P w H h) (mu:Mut (H x)) (he:e = x ∨ H e = some (.own x)) (k:∀ b u,b ≠ e->h.get? b = some u->h'.get? b = some u) (heo:∃ u,h'.get? e = some u)
  (new:ObjOk P w (upd H x o') h' x o'):HOk P w (upd H x o') h':=fun b u q=>by
 have nown:∀ c y,H c = some (.own y)->c ≠ x:=fun c y r z=>by subst z; rw [r] at mu; exact mu
 have ntup:∀ c xs,H c = some (.tup xs)->c ≠ x:=fun c xs r z=>by subst z; rw [r] at mu; exact mu
 by_cases hb:b = x
 ·subst hb; rw [upd_same] at q; cases q; exact new
 ·rw [upd_ne hb] at q
  by_cases hbe:b = e
  ·have q':H b = some (.own x):=by
    rcases he with z | z
    ·exact absurd (hbe.trans z) hb
    ·rw [hbe]; exact z
   rw [q] at q'; cases q'
   obtain ⟨v,hv⟩:=heo
   exact ⟨v,by rw [hbe]; exact hv⟩
  ·refine (ok b u q).stay (fun c v hc r=>k c v ?_ r) (fun c r=>by rw [upd_ne (nown c b r)]; exact r) fun c xs r=>by rw [upd_ne (ntup c xs r)]; exact r
   rcases hc with rfl | hc
   ·exact hbe
   ·rintro rfl
    rcases he with z | z
    ·exact nown c b hc z
    ·rw [hc] at z; cases z; exact hb rfl
end
structure Un (fs ex:List Addr) (H H':Hp) (h h':Heap):Prop where
 keep:∀ b o,h.get? b = some o->H b = none->b ∉ fs->b ∉ ex->h'.get? b = some o
 slot:∀ b o,h.get? b = some o->H b = none->b ∈ fs->b ∉ ex->∃ sl,h'.get? b = some { o with slots:=sl }
 free:∀ b o,h.get? b = some o->H b = none->b ∉ ex->H' b = none
 there:∀ b o,h.get? b = some o->b ∉ ex->∃ o',h'.get? b = some o'
 tups:∀ b xs,H b = some (.tup xs)->H' b = some (.tup xs)
 frzs:∀ b o u,H b = some (.frz o u)->H' b = some (.frz o u)
 tbls:∀ b ps,H b = some (.tbl ps)->∃ more,H' b = some (.tbl (ps ++ more))
section
variable {fs fs' ex ex':List Addr} {H H1 H2:Hp} {h h1 h2 h':Heap} {a x e:Addr} {o:HO}
theorem Un.any (u:Un fs ex H H1 h h1) {b:Addr} {ob:Obj} (q:h.get? b = some ob) (n:H b = none) (hx:b ∉ ex):∃ sl,h1.get? b = some { ob with slots:=sl }:=by
 by_cases hb:b ∈ fs
 ·exact u.slot b ob q n hb hx
 ·exact ⟨ob.slots,u.keep b ob q n hb hx⟩
theorem Un.kept (k:∀ b u,h.get? b = some u->h'.get? b = some u):Un fs ex H H h h' :=
 ⟨fun b ob q _ _ _=>k b ob q,fun b ob q _ _ _=>⟨ob.slots,k b ob q⟩,fun _ _ _ n _=>n,fun b ob q _=>⟨ob,k b ob q⟩,fun _ _ q=>q,fun _ _ _ q=>q,fun _ ps q=>⟨#[],by rw [q]; simp⟩⟩
theorem Un.refl:Un fs ex H H h h:=Un.kept fun _ _ q=>q
theorem Un.laid (k:∀ b u,h.get? b = some u->h'.get? b = some u) (hp:h.objs.size <= a) (hn:H a = none):Un fs ex H (upd H a o) h h' where
 keep:=fun b u q _ _ _=>k b u q
 slot:=fun b u q _ _ _=>⟨u.slots,k b u q⟩
 free:=fun b u q n _=>by rw [upd_ne (Nat.ne_of_lt (Nat.lt_of_lt_of_le (Heap.lt_size q) hp))]; exact n
 there:=fun b u q _=>⟨u,k b u q⟩
 tups:=fun b xs q=>by rw [upd_ne (ne_of_none q hn)]; exact q
 frzs:=fun b u xs q=>by rw [upd_ne (ne_of_none q hn)]; exact q
 tbls:=fun b ps q=>⟨#[],by rw [upd_ne (ne_of_none q hn),q]; simp⟩
theorem Un.write (mu:Mut (H x)) (he:e = x ∨ H e = some (.own x)) (k:∀ b u,b ≠ e->h.get? b = some u->h'.get? b = some u) (heo:∃ u,h'.get? e = some u):Un fs ex H (upd H x o) h h':=by
 have hx:∀ b,H b = none->b ≠ x:=fun b n z=>by subst z; rw [n] at mu; exact mu
 have hb:∀ b,H b = none->b ≠ e:=fun b n z=>by
  subst z
  rcases he with r | r
  ·exact hx b n r
  ·rw [n] at r; cases r
 have hm:∀ b u,H b = some u->¬ Mut (some u)->b ≠ x:=fun b u q nm z=>by subst z; rw [q] at mu; exact nm mu
 refine ⟨fun b u q n _ _=>k b u (hb b n) q,fun b u q n _ _=>⟨u.slots,k b u (hb b n) q⟩,fun b u q n _=>by rw [upd_ne (hx b n)]; exact n,fun b u q _=>?_,
  fun b xs q=>by rw [upd_ne (hm b _ q fun z=>z)]; exact q,fun b u xs q=>by rw [upd_ne (hm b _ q fun z=>z)]; exact q,fun b ps q=>⟨#[],by rw [upd_ne (hm b _ q fun z=>z),q]; simp⟩⟩
 by_cases hbe:b = e
 ·subst hbe; exact heo
 ·exact ⟨u,k b u hbe q⟩
end
def trk (h:Heap) (H:Hp):List Addr:=(List.range h.objs.size).filter fun a=>(H a).isSome
def hidT (h:Heap) (H:Hp):Heap:=PySem.W.hideAll h (trk h H)
theorem hidT_size (h:Heap) (H:Hp):(hidT h H).objs.size = h.objs.size:=PySem.W.hideAll_size _ _
theorem hidT_get {h:Heap} {H:Hp} {b:Addr} {o:Obj} (e:h.get? b = some o) (n:H b = none):(hidT h H).get? b = some o :=
 PySem.W.hideAll_get _ e fun hm=>by
  have q:(H b).isSome = true:=(List.mem_filter.mp hm).2
  rw [n] at q; simp at q
theorem of_hidT {h:Heap} {H:Hp} {b:Addr} {o:Obj} (e:(hidT h H).get? b = some o):h.get? b = some o/\H b = none:=by
 have e':h.get? b = some o:=PySem.W.of_hideAll (trk h H) e
 refine ⟨e',?_⟩
 cases q:H b with
 | none=>rfl
 | some x =>
  have hm:b ∈ trk h H:=List.mem_filter.mpr ⟨List.mem_range.mpr (Heap.lt_size e'),by simp [q]⟩
  have z:(hidT h H).get? b = none:=PySem.W.hideAll_none (trk h H) hm
  rw [z] at e; cases e
def allNews (g h:Heap) (L:Addr):List (Addr × Obj):=(List.range h.objs.size).filterMap fun a=>if a = L ∨ (g.get? a).isSome = true then none else (h.get? a).map fun o=>(a,o)
def rest (g h:Heap) (L d:Addr):List (Addr × Obj):=(allNews g h L).filter fun p=>decide (p.1 ≠ d)
end L2
namespace L2
open PySem PySem.Spec PyProof.Rows
structure Mod (K:PySem.W.Frag) (mg:Str->Option Value) (base:Heap):Prop where
 kin:K.In base
 glob:base.Ns mainGlobals mg
 blt:∃ mb,base.Ns builtinsNs mb/\∀ x:Str,x ≠ "__name__"->mb x = bootBuiltins x
 nolimit:base.NoLimit
structure Cx where
 prog:Program
 w:World
 K:PySem.W.Frag
 mg:Str->Option Value
 base:Heap
 A:Around
 N:List Str
 s₀:Shared
 H₀:Hp
 env:Env
 outer:List Env
 stack:List Env
 ex:List Addr
 fn:Str->Bool
 calm:Bool
 pn:List (Addr × Obj)
 xe:Value->Shared->Prop
def frs (l:List Env):List Addr:=l.filterMap (·.frame)
abbrev Cx.fs (X:Cx):List Addr:=frs X.outer
def Vis (sc:Scope) (x:Str):Prop:=sc.names.lookup x = some .local ∨ sc.names.lookup x = some .cell ∨ sc.names.lookup x = some .free
def Loc (sc:Scope) (x:Str):Prop:=sc.names.lookup x = some .local ∨ sc.names.lookup x = some .cell
def Look (env:Env) (h:Heap) (m:Str->Option Value) (x:Str) (u:Value):Prop :=
 (env.kindOf x = some .local/\m x = some u) ∨ ((env.kindOf x = some .cell ∨ env.kindOf x = some .free)/\∃ c,env.cells.lookup x = some c/\h.IsCell c (some u))
structure Cx.Ok (X:Cx):Prop where
 mod:Mod X.K X.mg X.base
 kind:X.env.scope.kind = .function
 glob:X.env.globals = mainGlobals
 blt:X.env.builtins = builtinsNs
 above:X.s₀.heap.objs.size <= X.env.locals
 inj:∀ x y c,X.env.cells.lookup x = some c->X.env.cells.lookup y = some c->x = y
 has:∀ x,(X.env.kindOf x = some .cell ∨ X.env.kindOf x = some .free)->∃ c,X.env.cells.lookup x = some c
 cab:∀ x c,X.fn x = true->X.env.cells.lookup x = some c->X.s₀.heap.objs.size <= c
 hd:X.calm = true->X.A.handled = none
 frames:X.A.frames = some X.stack
 stk:X.stack = X.outer ∨ (X.stack = X.env :: X.outer/\X.env.frame = some X.env.locals)
 exf:∀ b ∈ X.ex,b ≠ X.env.locals/\∀ x c,X.env.cells.lookup x = some c->c ≠ b
 bs:∀ b o,X.base.get? b = some o->X.s₀.heap.get? b = some o/\X.H₀ b = none
 bsz:X.base.objs.size <= X.s₀.heap.objs.size
 noex:∀ b o,X.base.get? b = some o->b ∉ X.ex
 exfs:∀ b ∈ X.ex,b ∉ X.fs
 funs:X.s₀.heap.FunFrames X.base X.outer
 frf:∀ b ∈ X.fs,X.H₀ b = none
structure Inv (X:Cx) (pins:List (Addr × Obj)) (σ:List (Option V)) (H:Hp) (s:Shared):Prop where
 ok:X.Ok
 os:s.os = X.s₀.os
 bare:AllBare s.gens
 base:Un X.fs X.ex X.H₀ H X.s₀.heap s.heap
 loc:∃ m,s.heap.Ns X.env.locals m/\∀ (i:Nat) (x:Str) (v:V),X.N[i]? = some x->σ[i]? = some (some v)->Vis X.env.scope x->∃ u,RelV v u/\Look X.env s.heap m x u
 cell:∀ x c,X.env.cells.lookup x = some c->∃ v,s.heap.IsCell c v
 free:H X.env.locals = none
 freeC:∀ x c,X.env.cells.lookup x = some c->H c = none
 pin:∀ p ∈ X.pn ++ pins,s.heap.get? p.1 = some p.2/\H p.1 = none/\p.1 ≠ X.env.locals/\p.1 ∉ X.fs/\∀ v,p.2.data ≠ .cell v
 hok:HOk X.prog X.w H s.heap
 len:σ.length = X.N.length
section
variable {X:Cx} {pins:List (Addr × Obj)} {σ:List (Option V)} {H H':Hp} {s:Shared} {h':Heap}
theorem Cx.Ok.nofr (ok:X.Ok) {b:Addr} {o:Obj} (e:X.base.get? b = some o):b ∉ X.fs:=fun hb=>by
 have:=(ok.funs.mem hb).1
 rw [e] at this; cases this
theorem Inv.bs (I:Inv X pins σ H s):∀ b o,X.base.get? b = some o->s.heap.get? b = some o/\H b = none:=fun b o e =>
 ⟨I.base.keep b o (I.ok.bs b o e).1 (I.ok.bs b o e).2 (I.ok.nofr e) (I.ok.noex b o e),I.base.free b o (I.ok.bs b o e).1 (I.ok.bs b o e).2 (I.ok.noex b o e)⟩
theorem Inv.bk (I:Inv X pins σ H s):∀ b o,X.base.get? b = some o->s.heap.get? b = some o:=fun b o e=>(I.bs b o e).1
theorem Inv.mod (I:Inv X pins σ H s):Mod X.K X.mg X.base:=I.ok.mod
theorem Inv.kIn (I:Inv X pins σ H s):X.K.In s.heap:=I.ok.mod.kin.keeps I.bk
theorem Inv.fr (I:Inv X pins σ H s):∃ m,Fr X.base X.env.locals s.heap m :=
 let ⟨m,hn,_⟩:=I.loc
 ⟨m,hn,I.bk,Nat.le_trans I.ok.bsz I.ok.above⟩
theorem Inv.lt (I:Inv X pins σ H s):X.env.locals < s.heap.objs.size:=let ⟨_,hn,_⟩:=I.loc; hn.lt
theorem Inv.sz (I:Inv X pins σ H s):X.s₀.heap.objs.size <= s.heap.objs.size:=Nat.le_trans I.ok.above (Nat.le_of_lt I.lt)
theorem Inv.nofs (I:Inv X pins σ H s) {a:Addr} (h:s.heap.objs.size <= a):a ∉ X.fs:=fun hb=>by
 obtain ⟨_,o,ho,_⟩:=I.ok.funs.mem hb
 exact absurd (Nat.lt_of_lt_of_le (Heap.lt_size ho) (Nat.le_trans I.sz h)) (Nat.lt_irrefl _)
theorem Inv.cne (I:Inv X pins σ H s):∀ x c,X.env.cells.lookup x = some c->c ≠ X.env.locals:=fun x c e z=>by
 obtain ⟨v,o,ho,hd⟩:=I.cell x c e
 obtain ⟨m,⟨o',es,ep,ho',hd',_⟩,_⟩:=I.loc
 rw [z,ho'] at ho; cases ho; rw [hd'] at hd; cases hd
theorem Inv.funs (I:Inv X pins σ H s):s.heap.FunFrames X.base X.outer:=by
 have all:∀ (l:List Env),(∀ b ∈ frs l,b ∈ X.fs)->X.s₀.heap.FunFrames X.base l->s.heap.FunFrames X.base l:=by
  intro l
  induction l with
  | nil=>intro _ _; trivial
  | cons env r ih =>
   intro hs hl
   obtain ⟨hk,⟨L,o,hf,hn,ho,hd⟩,hr⟩:=hl
   have hL:L ∈ X.fs:=hs L (by unfold frs; rw [List.filterMap_cons,hf]; exact List.mem_cons_self)
   obtain ⟨sl,e⟩:=I.base.slot L o ho (I.ok.frf L hL) hL fun z=>I.ok.exfs L z hL
   exact ⟨hk,⟨L,_,hf,hn,e,hd⟩,ih (fun b hb=>hs b (by unfold frs; rw [List.filterMap_cons,hf]; exact List.mem_cons_of_mem _ hb)) hr⟩
 exact all X.outer (fun _ hb=>hb) I.ok.funs
theorem Inv.stack (I:Inv X pins σ H s):s.heap.FunFrames X.base X.stack:=by
 rcases I.ok.stk with e | ⟨e,hf⟩
 ·rw [e]; exact I.funs
 ·rw [e]
  obtain ⟨m,hn,_⟩:=I.loc
  refine .cons (by rw [I.ok.kind]; decide) hf hn ?_ I.funs
  exact Heap.get?_none_of_le (Nat.le_trans I.ok.bsz I.ok.above)
theorem Inv.stkSub (I:Inv X pins σ H s):∀ b ∈ frs X.stack,b ∈ X.env.locals :: X.fs:=fun b hb=>by
 rcases I.ok.stk with e | ⟨e,hf⟩
 ·rw [e] at hb; exact List.mem_cons_of_mem _ hb
 ·rw [e] at hb
  unfold frs at hb
  rw [List.filterMap_cons,hf] at hb
  exact hb
theorem Inv.stkFree (I:Inv X pins σ H s):∀ b ∈ frs X.stack,H b = none:=fun b hb=>by
 rcases List.mem_cons.mp (I.stkSub b hb) with e | hb
 ·rw [e]; exact I.free
 ·obtain ⟨_,o,ho,_⟩:=I.ok.funs.mem hb
  exact I.base.free b o ho (I.ok.frf b hb) fun z=>I.ok.exfs b z hb
theorem Inv.step {g':Array GenState} {t':Nat} {d':Drawn} {ch:List Addr} (I:Inv X pins σ H s)
  (hch:∀ b ∈ ch,(b ∈ X.ex ∨ X.s₀.heap.objs.size <= b)/\b ≠ X.env.locals/\(∀ x c,X.env.cells.lookup x = some c->c ≠ b)/\∀ p ∈ X.pn ++ pins,p.1 ≠ b)
  (keep:∀ b o,b ≠ X.env.locals->b ∉ X.fs->b ∉ ch->s.heap.get? b = some o->H b = none->h'.get? b = some o)
  (slot:∀ b o,b ≠ X.env.locals->b ∈ X.fs->b ∉ ch->s.heap.get? b = some o->H b = none->∃ sl,h'.get? b = some { o with slots:=sl }) (free:∀ b o,b ∉ ch->s.heap.get? b = some o->H b = none->H' b = none)
  (there:∀ b o,b ∉ ch->s.heap.get? b = some o->∃ o',h'.get? b = some o')
  (tups:∀ b xs,H b = some (.tup xs)->H' b = some (.tup xs)) (frzs:∀ b o u,H b = some (.frz o u)->H' b = some (.frz o u)) (tbls:∀ b ps,H b = some (.tbl ps)->∃ more,H' b = some (.tbl (ps ++ more)))
  (ns:∀ m,s.heap.Ns X.env.locals m->h'.Ns X.env.locals m) (hok:HOk X.prog X.w H' h') (hg:AllBare g') :
  Inv X pins σ H' { s with heap:=h',gens:=g',drawn:=d',toks:=t' }:=by
 have neL:∀ b o,X.s₀.heap.get? b = some o->b ≠ X.env.locals:=fun b o e=>Nat.ne_of_lt (Nat.lt_of_lt_of_le (Heap.lt_size e) I.ok.above)
 have neC:∀ b o,X.s₀.heap.get? b = some o->b ∉ X.ex->b ∉ ch:=fun b o e hx hb=>by
  rcases (hch b hb).1 with z | z
  ·exact hx z
  ·exact absurd (Nat.lt_of_lt_of_le (Heap.lt_size e) z) (Nat.lt_irrefl _)
 have cellK:∀ x c,X.env.cells.lookup x = some c->∀ v,s.heap.IsCell c v->h'.IsCell c v:=fun x c e v ⟨o,ho,hd⟩=>by
  have nch:c ∉ ch:=fun z=>(hch c z).2.2.1 x c e rfl
  by_cases hc:c ∈ X.fs
  ·obtain ⟨sl,q⟩:=slot c o (I.cne x c e) hc nch ho (I.freeC x c e)
   exact ⟨_,q,hd⟩
  ·exact ⟨o,keep c o (I.cne x c e) hc nch ho (I.freeC x c e),hd⟩
 refine ⟨I.ok,I.os,hg,⟨fun b o e n hb hx=>?_,fun b o e n hb hx=>?_,fun b o e n hx=>?_,fun b o e hx=>?_,fun b xs e=>tups b xs (I.base.tups b xs e),fun b o xs e=>frzs b o xs (I.base.frzs b o xs e),fun b ps e=>?_⟩,?_,fun x c e=>?_,?_,fun x c e=>?_,fun p hp=>?_,hok,I.len⟩
 ·exact keep b o (neL b o e) hb (neC b o e hx) (I.base.keep b o e n hb hx) (I.base.free b o e n hx)
 ·obtain ⟨sl,e1⟩:=I.base.slot b o e n hb hx
  obtain ⟨sl',e2⟩:=slot b _ (neL b o e) hb (neC b o e hx) e1 (I.base.free b o e n hx)
  exact ⟨sl',e2⟩
 ·obtain ⟨o',e1⟩:=I.base.there b o e hx
  exact free b o' (neC b o e hx) e1 (I.base.free b o e n hx)
 ·obtain ⟨o',e1⟩:=I.base.there b o e hx
  exact there b o' (neC b o e hx) e1
 ·obtain ⟨m1,e1⟩:=I.base.tbls b ps e
  obtain ⟨m2,e2⟩:=tbls b _ e1
  exact ⟨m1 ++ m2,by rw [e2,Array.append_assoc]⟩
 ·obtain ⟨m,hn,hl⟩:=I.loc
  refine ⟨m,ns m hn,fun i x v e1 e2 e3=>?_⟩
  obtain ⟨u,r,l⟩:=hl i x v e1 e2 e3
  refine ⟨u,r,?_⟩
  rcases l with l | ⟨k,c,e,z⟩
  ·exact .inl l
  ·exact .inr ⟨k,c,e,cellK x c e _ z⟩
 ·obtain ⟨v,z⟩:=I.cell x c e
  exact ⟨v,cellK x c e v z⟩
 ·obtain ⟨m,⟨o,_,_,ho,_⟩,_⟩:=I.loc
  exact free _ o (fun z=>(hch _ z).2.1 rfl) ho I.free
 ·obtain ⟨v,o,ho,hd⟩:=I.cell x c e
  exact free c o (fun z=>(hch c z).2.2.1 x c e rfl) ho (I.freeC x c e)
 ·obtain ⟨e,n,ne,nf,d⟩:=I.pin p hp
  have nch:p.1 ∉ ch:=fun z=>(hch p.1 z).2.2.2 p hp rfl
  exact ⟨keep p.1 p.2 ne nf nch e n,free p.1 p.2 nch e n,ne,nf,d⟩
theorem Inv.un {t':Nat} (I:Inv X pins σ H s) (u:Un X.fs [] H H' s.heap h') (hok:HOk X.prog X.w H' h'):Inv X pins σ H' { s with heap:=h',toks:=t' }:=by
 obtain ⟨m,⟨o,es,ep,ho,r⟩,_⟩:=id I.loc
 obtain ⟨sl,hL⟩:=u.any ho I.free (by simp)
 exact I.step (g':=s.gens) (d':=s.drawn) (ch:=[]) (fun _ z=>nomatch z) (fun b o _ hb _ e n=>u.keep b o e n hb (by simp)) (fun b o _ hb _ e n=>u.slot b o e n hb (by simp)) (fun b o _ e n=>u.free b o e n (by simp)) (fun b o _ e=>u.there b o e (by simp)) u.tups u.frzs u.tbls (fun m' hm=>by
  obtain ⟨o',es',ep',ho',r'⟩:=hm
  rw [ho] at ho'; cases ho'
  exact ⟨_,es',ep',hL,r'⟩) hok I.bare
theorem Inv.call {g':Array GenState} {t':Nat} {d':Drawn} {ch:List Addr} (I:Inv X pins σ H s) (u:Un (frs X.stack) ch H H' s.heap h') (hok:HOk X.prog X.w H' h') (hg:AllBare g')
  (hch:∀ b ∈ ch,(b ∈ X.ex ∨ X.s₀.heap.objs.size <= b)/\b ≠ X.env.locals/\(∀ x c,X.env.cells.lookup x = some c->c ≠ b)/\∀ p ∈ X.pn ++ pins,p.1 ≠ b) :
  Inv X pins σ H' { s with heap:=h',gens:=g',drawn:=d',toks:=t' }:=by
 obtain ⟨m,⟨o,es,ep,ho,r⟩,_⟩:=id I.loc
 obtain ⟨sl,hL⟩:=u.any ho I.free fun z=>(hch _ z).2.1 rfl
 exact I.step (ch:=ch) hch (fun b o hL hb hc e n=>u.keep b o e n (fun z=>(List.mem_cons.mp (I.stkSub b z)).elim hL hb) hc) (fun b o _ _ hc e n=>u.any e n hc) (fun b o hc e n=>u.free b o e n hc) (fun b o hc e=>u.there b o e hc) u.tups u.frzs u.tbls (fun m' hm=>by
  obtain ⟨o',es',ep',ho',r'⟩:=hm
  rw [ho] at ho'; cases ho'
  exact ⟨_,es',ep',hL,r'⟩) hok hg
theorem Inv.turned {t':Nat} {it:Addr} (I:Inv X pins σ H s) (k:∀ b o,b ≠ it->s.heap.get? b = some o->h'.get? b = some o) (hn:H it = none) (hL:it ≠ X.env.locals)
  (h1:it ∈ X.ex ∨ X.s₀.heap.objs.size <= it) (h2:∀ x c,X.env.cells.lookup x = some c->c ≠ it) (h3:∀ p ∈ X.pn ++ pins,p.1 ≠ it):Inv X pins σ H { s with heap:=h',toks:=t' }:=by
 have nit:∀ b u,H b = some u->b ≠ it:=fun b u e z=>by rw [z,hn] at e; cases e
 refine I.step (g':=s.gens) (d':=s.drawn) (ch:=[it]) (fun b hb=>?_) (fun b o _ _ hc e _=>k b o (fun z=>hc (by simp [z])) e) (fun b o _ _ hc e _=>⟨o.slots,k b o (fun z=>hc (by simp [z])) e⟩) (fun _ _ _ _ n=>n)
  (fun b o hc e=>⟨o,k b o (fun z=>hc (by simp [z])) e⟩) (fun _ _ e=>e) (fun _ _ _ e=>e) (fun b ps e=>⟨#[],by rw [e]; simp⟩) (fun m hm=>?_) (fun b u e=>?_) I.bare
 ·have e:b = it:=by simpa using hb
  subst e
  exact ⟨h1,hL,h2,h3⟩
 ·obtain ⟨o,es,ep,ho,r⟩:=hm
  exact ⟨o,es,ep,k _ o (Ne.symm hL) ho,r⟩
 ·refine (I.hok b u e).stay (fun c v hc q=>k c v ?_ q) (fun _ q=>q) fun _ _ q=>q
  rcases hc with z | z
  ·rw [z]; exact nit b u e
  ·exact nit c _ z
theorem Inv.tok (I:Inv X pins σ H s) (t:Nat):Inv X pins σ H { s with toks:=t }:=I.un (h':=s.heap) (t':=t) Un.refl I.hok
theorem Inv.kept {t':Nat} (I:Inv X pins σ H s) (k:∀ b u,s.heap.get? b = some u->h'.get? b = some u):Inv X pins σ H { s with heap:=h',toks:=t' }:=I.un (Un.kept k) (I.hok.kept k)
theorem Inv.laid {a:Addr} {o:HO} {t':Nat} (I:Inv X pins σ H s) (k:∀ b u,s.heap.get? b = some u->h'.get? b = some u) (hp:s.heap.objs.size <= a) (new:ObjOk X.prog X.w (upd H a o) h' a o) :
  Inv X pins σ (upd H a o) { s with heap:=h',toks:=t' }:=I.un (Un.laid k hp (I.hok.fresh hp)) (I.hok.laid k hp new)
theorem Inv.write {x e:Addr} {o:HO} {t':Nat} (I:Inv X pins σ H s) (mu:Mut (H x)) (he:e = x ∨ H e = some (.own x)) (k:∀ b u,b ≠ e->s.heap.get? b = some u->h'.get? b = some u) (heo:∃ u,h'.get? e = some u)
  (new:ObjOk X.prog X.w (upd H x o) h' x o):Inv X pins σ (upd H x o) { s with heap:=h',toks:=t' }:=I.un (Un.write mu he k heo) (I.hok.write mu he k heo new)
theorem Inv.weak {σ':List (Option V)} (I:Inv X pins σ H s) (hl:σ'.length = σ.length) (w:∀ (i:Nat) v,σ'[i]? = some (some v)->σ[i]? = some (some v)):Inv X pins σ' H s :=
 ⟨I.ok,I.os,I.bare,I.base,let ⟨m,hn,hl'⟩:=I.loc; ⟨m,hn,fun i x v e1 e2 e3=>hl' i x v e1 (w i v e2) e3⟩,I.cell,I.free,I.freeC,I.pin,I.hok,hl.trans I.len⟩
theorem Inv.pins_of {pins':List (Addr × Obj)} (I:Inv X pins σ H s) (h:∀ p ∈ pins',s.heap.get? p.1 = some p.2/\H p.1 = none/\p.1 ≠ X.env.locals/\p.1 ∉ X.fs/\∀ v,p.2.data ≠ .cell v):Inv X pins' σ H s :=
 ⟨I.ok,I.os,I.bare,I.base,I.loc,I.cell,I.free,I.freeC,fun p hp=>(List.mem_append.mp hp).elim (fun z=>I.pin p (List.mem_append_left _ z)) (h p),I.hok,I.len⟩
theorem nodup_ix {N:List Str} (hN:N.Nodup) {i j:Nat} {x:Str} (a:N[i]? = some x) (b:N[j]? = some x):i = j:=by
 obtain ⟨h1,e1⟩:=List.getElem?_eq_some_iff.mp a
 obtain ⟨h2,e2⟩:=List.getElem?_eq_some_iff.mp b
 exact (List.getElem_inj hN).mp (e1.trans e2.symm)
theorem store_ok2 {M:Model} {A:Around} {E:Value->Shared->Prop} {i:Nat} {x:Str} {v:V} {u:Value} {Q:Unit->Shared->Prop} (I:Inv X pins σ H s) (hN:X.N.Nodup) (hi:X.N[i]? = some x) (hx:Loc X.env.scope x) (r:RelV v u)
  (h:∀ s',Inv X pins (σ.set i (some v)) H s'->(∃ a,Heap.SameBut a s.heap s'.heap/\(a = X.env.locals ∨ X.env.cells.lookup x = some a))->Q () s') (hf:X.fn x = true ∨ X.env.scope.names.lookup x = some .local:=by first | exact .inl rfl | exact .inr rfl | assumption):wpAny M A (storeName X.env x u) Q E s:=by
 obtain ⟨m,hn,hl⟩:=id I.loc
 have hcls:(X.env.scope.kind == .class || (X.env.scope.kind == .module && X.env.locals != X.env.globals)) = false:=by rw [I.ok.kind]; rfl
 have hiσ:i < σ.length:=by rw [I.len]; exact (List.getElem?_eq_some_iff.mp hi).1
 have cne:=I.cne
 have tracked:∀ {a:Addr} {h':Heap},(∃ o,s.heap.get? a = some o/\H a = none)->Heap.SameBut a s.heap h'->HOk X.prog X.w H h':=fun {a h'} ha hs b ob e=>by
  obtain ⟨_,_,hfree⟩:=ha
  refine (I.hok b ob e).stay (fun c w' hc q=>(hs.2 c ?_).trans q) (fun _ q=>q) fun _ _ q=>q
  rintro rfl
  rcases hc with rfl | hc
  ·rw [hfree] at e; cases e
  ·rw [hfree] at hc; cases hc
 rcases hx with hk | hk
 ·refine wpAny_storeName_local hk hn (fun h' hn' hs=>?_) hcls
  obtain ⟨oL,_,_,hoL,_⟩:=id hn
  refine h _ ⟨I.ok,I.os,I.bare,⟨fun b o e n hb hx=>?_,fun b o e n hb hx=>?_,I.base.free,fun b o e hx=>?_,I.base.tups,I.base.frzs,I.base.tbls⟩,⟨_,hn',fun j y v' e1 e2 e3=>?_⟩,fun y c e=>?_,I.free,I.freeC,fun p hp=>?_,tracked ⟨oL,hoL,I.free⟩ hs,by simpa using I.len⟩ ⟨_,hs,.inl rfl⟩
  ·exact (hs.2 b (Nat.ne_of_lt (Nat.lt_of_lt_of_le (Heap.lt_size e) I.ok.above))).trans (I.base.keep b o e n hb hx)
  ·obtain ⟨sl,e1⟩:=I.base.slot b o e n hb hx
   exact ⟨sl,(hs.2 b (Nat.ne_of_lt (Nat.lt_of_lt_of_le (Heap.lt_size e) I.ok.above))).trans e1⟩
  ·obtain ⟨o',e1⟩:=I.base.there b o e hx
   exact ⟨o',(hs.2 b (Nat.ne_of_lt (Nat.lt_of_lt_of_le (Heap.lt_size e) I.ok.above))).trans e1⟩
  ·by_cases hj:j = i
   ·subst hj
    rw [hi] at e1; cases e1
    rw [List.getElem?_set_self hiσ] at e2
    cases e2
    exact ⟨u,r,.inl ⟨hk,by simp⟩⟩
   ·rw [List.getElem?_set_ne (Ne.symm hj)] at e2
    obtain ⟨u',r',q⟩:=hl j y v' e1 e2 e3
    refine ⟨u',r',?_⟩
    rcases q with ⟨k,e⟩ | ⟨k,c,e,z⟩
    ·refine .inl ⟨k,?_⟩
     have:y ≠ x:=fun e=>hj (nodup_ix hN e1 (e ▸ hi))
     simp [this,e]
    ·exact .inr ⟨k,c,e,z.sameBut hs (cne y c e)⟩
  ·obtain ⟨w',z⟩:=I.cell y c e
   exact ⟨w',z.sameBut hs (cne y c e)⟩
  ·obtain ⟨e,n,ne,nf,d⟩:=I.pin p hp
   exact ⟨(hs.2 p.1 ne).trans e,n,ne,nf,d⟩
 ·have hfn:X.fn x = true:=by
   rcases hf with z | z
   ·exact z
   ·rw [z] at hk; cases hk
  obtain ⟨c,hc⟩:=I.ok.has x (.inl hk)
  obtain ⟨w',z⟩:=I.cell x c hc
  refine wpAny_storeName_cell I.ok.kind hk hc z (fun h' hc' hs=>?_)
  obtain ⟨oc,hoc,hocd⟩:=id z
  refine h { s with heap:=h' } ⟨I.ok,I.os,I.bare,⟨fun b o e n hb hx=>?_,fun b o e n hb hx=>?_,I.base.free,fun b o e hx=>?_,I.base.tups,I.base.frzs,I.base.tbls⟩,⟨m,hn.sameBut hs (Ne.symm (cne x c hc)),fun j y v' e1 e2 e3=>?_⟩,fun y c' e=>?_,I.free,I.freeC,fun p hp=>?_,tracked ⟨oc,hoc,I.freeC x c hc⟩ hs,by simpa using I.len⟩ ⟨c,hs,.inr hc⟩
  ·exact (hs.2 b (Nat.ne_of_lt (Nat.lt_of_lt_of_le (Heap.lt_size e) (I.ok.cab x c hfn hc)))).trans (I.base.keep b o e n hb hx)
  ·obtain ⟨sl,e1⟩:=I.base.slot b o e n hb hx
   exact ⟨sl,(hs.2 b (Nat.ne_of_lt (Nat.lt_of_lt_of_le (Heap.lt_size e) (I.ok.cab x c hfn hc)))).trans e1⟩
  ·obtain ⟨o',e1⟩:=I.base.there b o e hx
   exact ⟨o',(hs.2 b (Nat.ne_of_lt (Nat.lt_of_lt_of_le (Heap.lt_size e) (I.ok.cab x c hfn hc)))).trans e1⟩
  ·by_cases hj:j = i
   ·subst hj
    rw [hi] at e1; cases e1
    rw [List.getElem?_set_self hiσ] at e2
    cases e2
    exact ⟨u,r,.inr ⟨.inl hk,c,hc,hc'⟩⟩
   ·rw [List.getElem?_set_ne (Ne.symm hj)] at e2
    obtain ⟨u',r',q⟩:=hl j y v' e1 e2 e3
    refine ⟨u',r',?_⟩
    rcases q with q | ⟨k,c',e,z'⟩
    ·exact .inl q
    ·refine .inr ⟨k,c',e,z'.sameBut hs ?_⟩
     rintro rfl
     exact hj (nodup_ix hN e1 (I.ok.inj _ _ _ e hc ▸ hi))
  ·by_cases hcc:c' = c
   ·subst hcc; exact ⟨_,hc'⟩
   ·obtain ⟨w2,z2⟩:=I.cell y c' e
    exact ⟨w2,z2.sameBut hs hcc⟩
  ·obtain ⟨e,n,ne,nf,d⟩:=I.pin p hp
   refine ⟨(hs.2 p.1 ?_).trans e,n,ne,nf,d⟩
   intro q
   rw [q,hoc] at e
   have q':oc = p.2:=Option.some.inj e
   exact d w' (by rw [<- q']; exact hocd)
theorem store_ok {M:Model} {A:Around} {E:Value->Shared->Prop} {i:Nat} {x:Str} {v:V} {u:Value} {Q:Unit->Shared->Prop} (I:Inv X pins σ H s) (hN:X.N.Nodup) (hi:X.N[i]? = some x) (hx:Loc X.env.scope x) (r:RelV v u)
  (h:∀ s',Inv X pins (σ.set i (some v)) H s'->Q () s') (hf:X.fn x = true ∨ X.env.scope.names.lookup x = some .local:=by first | exact .inl rfl | exact .inr rfl | assumption):wpAny M A (storeName X.env x u) Q E s :=
 store_ok2 I hN hi hx r (fun s' I' _=>h s' I') hf
theorem Inv.call' {s':Shared} {ch:List Addr} (I:Inv X pins σ H s) (ho:s'.os = s.os) (u:Un (frs X.stack) ch H H' s.heap s'.heap) (hok:HOk X.prog X.w H' s'.heap) (hg:AllBare s'.gens)
  (hch:∀ b ∈ ch,(b ∈ X.ex ∨ X.s₀.heap.objs.size <= b)/\b ≠ X.env.locals/\(∀ x c,X.env.cells.lookup x = some c->c ≠ b)/\∀ p ∈ X.pn ++ pins,p.1 ≠ b):Inv X pins σ H' s':=by
 obtain ⟨h',g',d',t',o'⟩:=s'
 have e:o' = s.os:=ho
 subst e
 exact I.call (g':=g') (t':=t') (d':=d') u hok hg hch
end
abbrev XK:=Value->Option Addr->Hp->Prop
abbrev St:=List (Option V)
abbrev VK:=V->Hp->Prop
abbrev TE:=St->Hp->VK->Prop
abbrev TT:=St->Hp->(Bool->Hp->Prop)->Prop
abbrev TA:=St->Hp->(List V->Hp->Prop)->Prop
structure Ends where
 nx:St->Hp->Prop
 rt:VK
 bk:St->Hp->Prop:=fun _ _=>False
 ct:St->Hp->Prop:=fun _ _=>False
abbrev TS:=Ends->St->Hp->Prop
def EP (X:Cx) (pins:List (Addr × Obj)) (σ:St) (Q:VK) (u:Value) (s':Shared):Prop:=∃ v H',Inv X pins σ H' s'/\RelV v u/\Q v H'
def TP (X:Cx) (pins:List (Addr × Obj)) (σ:St) (Q:Bool->Hp->Prop) (b:Bool) (s':Shared):Prop:=∃ H',Inv X pins σ H' s'/\Q b H'
def AP (X:Cx) (pins:List (Addr × Obj)) (σ:St) (Q:List V->Hp->Prop) (us:List Value) (s':Shared):Prop:=∃ vs H',Inv X pins σ H' s'/\Vals vs us/\Q vs H'
def SP (X:Cx) (pins:List (Addr × Obj)) (D:Ends) (f:Flow) (s':Shared):Prop :=
 match f with
 | .next=>∃ σ' H',Inv X pins σ' H' s'/\D.nx σ' H'
 | .brk=>∃ σ' H',Inv X pins σ' H' s'/\D.bk σ' H'
 | .cont=>∃ σ' H',Inv X pins σ' H' s'/\D.ct σ' H'
 | .ret u=>∃ v σ' H',Inv X pins σ' H' s'/\RelV v u/\D.rt v H'
def PE (X:Cx) (e:Expr) (t:TE):Prop :=
 ∀ (pins:List (Addr × Obj)) (s:Shared) (σ:St) (H:Hp) (Q:VK),Inv X pins σ H s->t σ H Q->wpAny (model X.prog X.w) X.A (eval e X.env) (EP X pins σ Q) X.xe s
def PT (X:Cx) (e:Expr) (t:TT):Prop :=
 ∀ (pins:List (Addr × Obj)) (s:Shared) (σ:St) (H:Hp) (Q:Bool->Hp->Prop),Inv X pins σ H s->t σ H Q->wpAny (model X.prog X.w) X.A (isTrue e X.env (eval e X.env)) (TP X pins σ Q) X.xe s
def PW (X:Cx) (e:Expr) (t:TT):Prop :=
 ∀ (whole:Sem Value) (pins:List (Addr × Obj)) (s:Shared) (σ:St) (H:Hp) (Q:Bool->Hp->Prop),Inv X pins σ H s->t σ H Q->wpAny (model X.prog X.w) X.A (isTrue e X.env whole) (TP X pins σ Q) X.xe s
theorem PW.pt {X:Cx} {e:Expr} {t:TT} (h:PW X e t):PT X e t:=h _
def PA (X:Cx) (es:List Expr) (t:TA):Prop :=
 ∀ (pos:Pos) (pins:List (Addr × Obj)) (s:Shared) (σ:St) (H:Hp) (Q:List V->Hp->Prop),Inv X pins σ H s->t σ H Q->wpAny (model X.prog X.w) X.A (spliced (backTo pos (starEach es X.env))) (AP X pins σ Q) X.xe s
def PS (X:Cx) (st:Stmt) (t:TS):Prop :=
 ∀ (pins:List (Addr × Obj)) (s:Shared) (σ:St) (H:Hp) (D:Ends),Inv X pins σ H s->t D σ H->wpAny (model X.prog X.w) X.A (exec st X.env) (SP X pins D) X.xe s
def PSs (X:Cx) (st:List Stmt) (t:TS):Prop :=
 ∀ (pins:List (Addr × Obj)) (s:Shared) (σ:St) (H:Hp) (D:Ends),Inv X pins σ H s->t D σ H->wpAny (model X.prog X.w) X.A (execs st X.env) (SP X pins D) X.xe s
theorem thn {α:Type} {t:Sem α} {Q Q':α->Shared->Prop} {M:Model} {A:Around} {E:Value->Shared->Prop} {s:Shared} (h:wpAny M A t Q E s) (hQ:∀ a s,Q a s->Q' a s):wpAny M A t Q' E s:=wpAny_mono h hQ fun _ _ x=>x
end L2
namespace L2
open PySem PySem.Spec PyProof.Rows
section
variable {X:Cx}
theorem bin {a b:Expr} {ta tb:TE} (ha:PE X a ta) (hb:PE X b tb) {pins:List (Addr × Obj)} {s:Shared} {σ:St} {H:Hp} {R:V->V->Hp->Prop} (I:Inv X pins σ H s) (h:ta σ H fun x H1=>tb σ H1 fun y H2=>R x y H2)
  {α:Type} {Q:α->Shared->Prop} {f:Value->Value->Sem α}
  (hf:∀ v u s2 x y H2,Inv X pins σ H2 s2->RelV x v->RelV y u->R x y H2->wpAny (model X.prog X.w) X.A (f v u) Q X.xe s2) :
  wpAny (model X.prog X.w) X.A (eval a X.env) (fun v s₁=>wpAny (model X.prog X.w) X.A (eval b X.env) (fun u s₂=>wpAny (model X.prog X.w) X.A (f v u) Q X.xe s₂) X.xe s₁) X.xe s:=by
 refine thn (ha pins s σ H _ I h) fun v s1 ⟨x,H1,I1,r1,q1⟩=>?_
 refine thn (hb pins s1 σ H1 _ I1 q1) fun u s2 ⟨y,H2,I2,r2,q2⟩=>?_
 exact hf v u s2 x y H2 I2 r1 r2 q2
def tVar (i:Nat):TE:=fun σ H Q=>∃ v,σ[i]? = some (some v)/\Q v H
def tC (v:V):TE:=fun _ H Q=>Q v H
theorem pe_var {i:Nat} {x:Str} {pos:Pos} (hN:X.N[i]? = some x) (hv:Vis X.env.scope x) (hd:(x == ("__debug__":Str)) = false:=by decide) (hcd:(x == ("__classdict__":Str)) = false:=by decide):PE X (.Name x pos) (tVar i):=by
 intro pins s σ H Q I h
 obtain ⟨v,e,h⟩:=h
 obtain ⟨m,hn,hl⟩:=I.loc
 obtain ⟨u,r,l⟩:=hl i x v hN e hv
 have fin:EP X pins σ Q u s:=⟨v,H,I,r,h⟩
 rcases l with ⟨hk,hm⟩ | ⟨hk,c,hc,hcell⟩
 ·exact wpAny_Name (wpAny_loadName_local I.ok.kind hk hn hm fin) hd
 ·rcases hk with hk | hk
  ·exact wpAny_Name (wpAny_loadName_cell I.ok.kind hk hc hcell fin) hd
  ·exact wpAny_Name (wpAny_loadName_free I.ok.kind hk hc hcell fin hcd) hd
theorem pe_int {i j pos}:PE X (.Constant (.int i) j pos) (tC (.int i)):=fun _ _ _ H _ I h=>wpAny_Constant_int ⟨.int i,H,I.tok _,⟨_,rfl⟩,h⟩
theorem pe_bl {b j pos}:PE X (.Constant (.bool b) j pos) (tC (.bl b)):=fun _ _ _ H _ I h=>Constant_bool ⟨.bl b,H,I,rfl,h⟩
theorem pe_non {j pos}:PE X (.Constant .none j pos) (tC .non):=fun _ _ _ H _ I h=>Constant_none ⟨.non,H,I,rfl,h⟩
theorem pe_str {x j pos}:PE X (.Constant (.str x) j pos) (tC (.str x)):=fun _ _ _ H _ I h=>Calls.Constant_str ⟨.str x,H,I.tok _,⟨_,rfl⟩,h⟩
def Gl (X:Cx) (x:Str):Prop:=X.env.kindOf x = some .globalImplicit
theorem ld_glob {E:Value->Shared->Prop} {pins:List (Addr × Obj)} {s:Shared} {σ:St} {H:Hp} {x:Str} {u:Value} {pos:Pos} {Q:Value->Shared->Prop} (I:Inv X pins σ H s) (hg:Gl X x) (hm:X.mg x = some u) (h:Q u s)
  (hd:(x == ("__debug__":Str)) = false:=by decide):wpAny (model X.prog X.w) X.A (eval (.Name x pos) X.env) Q E s :=
 Calls.Name_function_global I.ok.kind hg (Calls.loadGlobal_global (by rw [I.ok.glob]; exact I.mod.glob.keeps I.bk) hm h) hd
theorem ld_blt {E:Value->Shared->Prop} {pins:List (Addr × Obj)} {s:Shared} {σ:St} {H:Hp} {x:Str} {u:Value} {pos:Pos} {Q:Value->Shared->Prop} (I:Inv X pins σ H s) (hg:Gl X x) (hm:X.mg x = none) (hv:bootBuiltins x = some u) (h:Q u s)
  (hn:x ≠ "__name__":=by decide) (hd:(x == ("__debug__":Str)) = false:=by decide):wpAny (model X.prog X.w) X.A (eval (.Name x pos) X.env) Q E s:=by
 obtain ⟨mb,h1,h2⟩:=I.mod.blt
 exact Calls.Name_function_global I.ok.kind hg (Calls.loadGlobal_builtin (by rw [I.ok.glob]; exact I.mod.glob.keeps I.bk) hm (by rw [I.ok.blt]; exact h1.keeps I.bk) ((h2 x hn).trans hv) h) hd
theorem pe_glob {x:Str} {v:V} {u:Value} {pos:Pos} (hg:Gl X x) (hm:X.mg x = some u) (r:RelV v u) (hd:(x == ("__debug__":Str)) = false:=by decide):PE X (.Name x pos) (tC v) :=
 fun _ _ _ H _ I h=>ld_glob I hg hm ⟨v,H,I,r,h⟩ hd
theorem pe_bltn {x:Str} {v:V} {u:Value} {pos:Pos} (hg:Gl X x) (hm:X.mg x = none) (hv:bootBuiltins x = some u) (r:RelV v u) (hn:x ≠ "__name__":=by decide) (hd:(x == ("__debug__":Str)) = false:=by decide):PE X (.Name x pos) (tC v) :=
 fun _ _ _ H _ I h=>ld_blt I hg hm hv ⟨v,H,I,r,h⟩ hn hd
variable {a b:Expr} {ta tb:TE} {pos:Pos}
def PC (X:Cx) (op:CmpOp) (a b:Expr) (t:TE):Prop :=
 ∀ (pins:List (Addr × Obj)) (s:Shared) (σ:St) (H:Hp) (Q:VK),Inv X pins σ H s->t σ H Q ->
  wpAny (model X.prog X.w) X.A (eval a X.env) (fun v s₁=>wpAny (model X.prog X.w) X.A (eval b X.env) (fun u s₂=>wpAny (model X.prog X.w) X.A (compareOp op v u) (EP X pins σ Q) X.xe s₂) X.xe s₁) X.xe s
theorem nobehind (b:Expr) {op:CmpOp} (h:op ≠ .In) (h2:op ≠ .NotIn):behindInMarks op b = false:=by
 have e1:(op == CmpOp.In) = false:=by cases op <;> first | rfl | exact absurd rfl h
 have e2:(op == CmpOp.NotIn) = false:=by cases op <;> first | rfl | exact absurd rfl h2
 cases b <;> simp [behindInMarks,e1,e2]
def tNotN (ta:TE):TE:=fun σ H Q=>ta σ H fun x H1=>Q (.bl (!decide (x = .non))) H1
theorem RelV.none_iff {x:V} {v:Value} (r:RelV x v):(v == Value.none) = decide (x = .non):=by
 cases x with
 | non=>cases r; rfl
 | bl _=>cases r; rfl
 | int _=>obtain ⟨t,rfl⟩:=r; rfl
 | str _=>obtain ⟨t,rfl⟩:=r; rfl
 | byt _=>obtain ⟨t,rfl⟩:=r; rfl
 | flt _=>obtain ⟨t,rfl⟩:=r; rfl
 | ref _=>cases r; rfl
 | ty _=>cases r; rfl
theorem pc_notN {j pos'} (ha:PE X a ta):PC X .IsNot a (.Constant .none j pos') (tNotN ta):=by
 intro pins s σ H Q I h
 refine thn (ha pins s σ H _ I h) fun v s1 ⟨x,H1,I1,r1,q1⟩=>?_
 exact Constant_none (isnot_none_gen ⟨.bl _,H1,I1,by rw [r1.none_iff]; rfl,q1⟩)
def tB (t:TE):TT:=fun σ H Q=>t σ H fun x H1=>∃ c,x = .bl c/\Q c H1
theorem pe_cmp {op:CmpOp} {t:TE} (h:PC X op a b t) (h1:behindInMarks op b = false:=by first | exact nobehind _ (by decide) (by decide) | rfl):PE X (.Compare a [op] [b] pos) t:=fun pins s σ H Q I hw=>wpAny_Compare1 (h pins s σ H Q I hw) h1
theorem pt_cmp {op:CmpOp} {t:TE} (h:PC X op a b t) (h1:behindInMarks op b = false:=by first | exact nobehind _ (by decide) (by decide) | rfl):PT X (.Compare a [op] [b] pos) (tB t):=by
 intro pins s σ H Q I hw
 refine wpAny_isTrue_Compare1 (thn (h pins s σ H _ I hw) fun v s1 h1=>thn h1 fun u s2 h2=>thn h2 fun c s3 ⟨x,H1,I1,r1,q1⟩=>?_) h1
 obtain ⟨d,rfl,q⟩:=q1
 cases r1
 exact wpAny_truthy_bool ⟨H1,I1,q⟩
theorem pt_val {e:Expr} {t:TE} (h:PE X e t) (he:∀ whole,isTrue e X.env whole = (do let v <- whole; standAt e.pos; holding [v] (truthy v)):=by intro _; rfl):PT X e (tB t):=by
 intro pins s σ H Q I hw
 refine isTrue_plain (thn (h pins s σ H _ I hw) fun v s1 ⟨x,H1,I1,r1,q1⟩=>?_) (he _)
 obtain ⟨d,rfl,q⟩:=q1
 cases r1
 exact wpAny_truthy_bool ⟨H1,I1,q⟩
variable {tA tB':TT} {rest:List Expr}
def tAnd (t u:TT):TT:=fun σ H Q=>t σ H fun c H1=>if c = true then u σ H1 Q else Q false H1
def tOr (t u:TT):TT:=fun σ H Q=>t σ H fun c H1=>if c = true then Q true H1 else u σ H1 Q
def tNot (t:TT):TT:=fun σ H Q=>t σ H fun c H1=>Q (!c) H1
theorem pw_and1 (ha:PT X a tA):PW X (.BoolOp .And [a] pos) tA:=by
 intro wh pins s σ H Q I h
 refine isTrue_and (thn (ha pins s σ H Q I h) fun c s1 e=>?_)
 cases c with
 | true=>exact isTrue_and_nil e
 | false=>exact e
theorem pw_or1 (ha:PT X a tA):PW X (.BoolOp .Or [a] pos) tA:=by
 intro wh pins s σ H Q I h
 refine isTrue_or (thn (ha pins s σ H Q I h) fun c s1 e=>?_)
 cases c with
 | false=>exact isTrue_or_nil e
 | true=>exact e
theorem pw_and (ha:PT X a tA) (hb:PW X (.BoolOp .And (b :: rest) pos) tB'):PW X (.BoolOp .And (a :: b :: rest) pos) (tAnd tA tB'):=by
 intro wh pins s σ H Q I h
 refine isTrue_and (thn (ha pins s σ H _ I h) fun c s1 ⟨H1,I1,q1⟩=>?_)
 cases c with
 | true=>exact hb wh pins s1 σ H1 Q I1 q1
 | false=>exact ⟨H1,I1,q1⟩
theorem pw_or (ha:PT X a tA) (hb:PW X (.BoolOp .Or (b :: rest) pos) tB'):PW X (.BoolOp .Or (a :: b :: rest) pos) (tOr tA tB'):=by
 intro wh pins s σ H Q I h
 refine isTrue_or (thn (ha pins s σ H _ I h) fun c s1 ⟨H1,I1,q1⟩=>?_)
 cases c with
 | true=>exact ⟨H1,I1,q1⟩
 | false=>exact hb wh pins s1 σ H1 Q I1 q1
theorem pt_not (ha:PT X a tA):PT X (.UnaryOp .Not a pos) (tNot tA):=by
 intro pins s σ H Q I h
 exact isTrue_not (ha pins s σ H (fun c H1=>Q (!c) H1) I h)
def tAndV (ta tb:TE):TE:=fun σ H Q=>ta σ H fun x H1=>∃ c,x = .bl c/\if c = true then tb σ H1 Q else Q (.bl false) H1
theorem pe_one {op} {t:TE} (h:PE X a t):PE X (.BoolOp op [a] pos) t:=fun pins s σ H Q I hw=>BoolOp_one (h pins s σ H Q I hw)
theorem pe_and (ha:PE X a ta) (hb:PE X (.BoolOp .And (b :: rest) pos) tb):PE X (.BoolOp .And (a :: b :: rest) pos) (tAndV ta tb):=by
 intro pins s σ H Q I h
 refine BoolOp_and (thn (ha pins s σ H _ I h) fun v s1 ⟨x,H1,I1,r1,q1⟩=>?_)
 obtain ⟨c,rfl,q1⟩:=q1
 cases r1
 refine wpAny_truthy_bool ?_
 cases c with
 | true=>exact hb pins s1 σ H1 Q I1 q1
 | false=>exact ⟨.bl false,H1,I1,rfl,q1⟩
end
end L2
namespace L2
open PySem PySem.Spec PyProof.Rows
def SqL (K:PySem.W.Frag) (H:Hp) (a:Addr) (xs:List V):Prop :=
 Rd H a (.lst xs) ∨
  ∃ (o:Obj) (its:Array Value) (n:Nat),K.lookup a = some o/\o.cls = .type "list"/\o.dict = none/\o.data = .seq its n/\its.size <= sizeLine/\Vals xs its.toList
def SqT (K:PySem.W.Frag) (H:Hp) (a:Addr) (xs:List V):Prop :=
 Rd H a (.tup xs) ∨
  ∃ (o:Obj) (its:Array Value) (n:Nat),K.lookup a = some o/\o.cls = .type "tuple"/\o.data = .seq its n/\its.size <= sizeLine/\Vals xs its.toList
def absV:Value->Option V
 | .none=>some .non
 | .bool b=>some (.bl b)
 | .int i _=>some (.int i)
 | .str x _=>some (.str x)
 | .bytes b _=>some (.byt b)
 | .float b _=>some (.flt b)
 | .ref a=>some (.ref a)
 | .type n=>some (.ty n)
 | _=>none
theorem RelV.abs {x:V} {u:Value} (r:RelV x u):absV u = some x:=by
 cases x with
 | non=>cases r; rfl
 | bl _=>cases r; rfl
 | int _=>obtain ⟨t,rfl⟩:=r; rfl
 | str _=>obtain ⟨t,rfl⟩:=r; rfl
 | byt _=>obtain ⟨t,rfl⟩:=r; rfl
 | flt _=>obtain ⟨t,rfl⟩:=r; rfl
 | ref _=>cases r; rfl
 | ty _=>cases r; rfl
theorem RelV.inj {x y:V} {u:Value} (r:RelV x u) (q:RelV y u):x = y:=Option.some.inj (r.abs.symm.trans q.abs)
theorem Vals.inj:∀ {xs ys:List V} {us:List Value},Vals xs us->Vals ys us->xs = ys
 | _,_,_,.nil,.nil=>rfl
 | _,_,_,.cons r t,.cons r' t'=>by rw [r.inj r',Vals.inj t t']
section
variable {X:Cx} {pins:List (Addr × Obj)} {σ:St} {H:Hp} {s:Shared} {a:Addr} {xs ys:List V}
theorem SqL.of {K:PySem.W.Frag} (h:H a = some (.lst xs)):SqL K H a xs:=.inl (.inl h)
theorem SqT.of {K:PySem.W.Frag} (h:H a = some (.tup xs)):SqT K H a xs:=.inl (.inl h)
theorem Inv.list (I:Inv X pins σ H s) (h:SqL X.K H a xs):∃ its:List Value,Vals xs its/\PlainL s.heap a its.toArray/\xs.length <= sizeLine:=by
 rcases h with h | ⟨o,its,n,hk,hc,hd,hs,hz,r⟩
 ·obtain ⟨z,its,n,r,e⟩:=h.ok I.hok
  exact ⟨its,r,⟨_,n,e,rfl,rfl,rfl⟩,z⟩
 ·refine ⟨its.toList,r,⟨o,n,I.kIn a o hk,hc,hd,by simpa using hs⟩,?_⟩
  have e:=r.length
  simp only [Array.length_toList] at e
  omega
theorem Inv.tuple (I:Inv X pins σ H s) (h:SqT X.K H a xs):∃ its:List Value,Vals xs its/\IsTup s.heap a its.toArray/\xs.length <= sizeLine:=by
 rcases h with h | ⟨o,its,n,hk,hc,hs,hz,r⟩
 ·obtain ⟨z,its,r,p⟩:=h.ok I.hok
  exact ⟨its,r,p,z⟩
 ·refine ⟨its.toList,r,⟨o,I.kIn a o hk,hc,n,by simpa using hs⟩,?_⟩
  have e:=r.length
  simp only [Array.length_toList] at e
  omega
theorem Inv.list_inj (I:Inv X pins σ H s) (h:SqL X.K H a xs) (h':SqL X.K H a ys):xs = ys:=by
 obtain ⟨its,r,⟨o,n,e,_,_,d⟩,_⟩:=I.list h
 obtain ⟨its',r',⟨o',n',e',_,_,d'⟩,_⟩:=I.list h'
 rw [e] at e'; cases e'
 rw [d] at d'
 injection d' with d1 _
 have:its = its':=by simpa using congrArg Array.toList d1
 subst this
 exact r.inj r'
theorem Inv.tuple_inj (I:Inv X pins σ H s) (h:SqT X.K H a xs) (h':SqT X.K H a ys):xs = ys:=by
 obtain ⟨its,r,⟨o,e,_,n,d⟩,_⟩:=I.tuple h
 obtain ⟨its',r',⟨o',e',_,n',d'⟩,_⟩:=I.tuple h'
 rw [e] at e'; cases e'
 rw [d] at d'
 injection d' with d1 _
 have:its = its':=by simpa using congrArg Array.toList d1
 subst this
 exact r.inj r'
end
abbrev Cx.wish (X:Cx) (E:Value->Shared->Prop):Cx:={ X with xe:=E }
abbrev Cx.nox (X:Cx):Cx:=X.wish fun _ _=>False
theorem Cx.Ok.wish {X:Cx} (ok:X.Ok) (E:Value->Shared->Prop):(X.wish E).Ok :=
 ⟨ok.mod,ok.kind,ok.glob,ok.blt,ok.above,ok.inj,ok.has,ok.cab,ok.hd,ok.frames,ok.stk,ok.exf,ok.bs,ok.bsz,ok.noex,ok.exfs,ok.funs,ok.frf⟩
theorem Cx.Ok.unwish {X:Cx} {E:Value->Shared->Prop} (ok:(X.wish E).Ok):X.Ok :=
 ⟨ok.mod,ok.kind,ok.glob,ok.blt,ok.above,ok.inj,ok.has,ok.cab,ok.hd,ok.frames,ok.stk,ok.exf,ok.bs,ok.bsz,ok.noex,ok.exfs,ok.funs,ok.frf⟩
section
variable {X:Cx} {pins:List (Addr × Obj)} {σ:St} {H:Hp} {s:Shared} {E:Value->Shared->Prop}
theorem Inv.wish (I:Inv X pins σ H s) (E:Value->Shared->Prop):Inv (X.wish E) pins σ H s:=⟨I.ok.wish E,I.os,I.bare,I.base,I.loc,I.cell,I.free,I.freeC,I.pin,I.hok,I.len⟩
theorem Inv.unwish (I:Inv (X.wish E) pins σ H s):Inv X pins σ H s:=⟨I.ok.unwish,I.os,I.bare,I.base,I.loc,I.cell,I.free,I.freeC,I.pin,I.hok,I.len⟩
theorem SP.unwish {D:Ends} {f:Flow} {s':Shared} (h:SP (X.wish E) pins D f s'):SP X pins D f s':=by
 cases f with
 | next=>obtain ⟨σ',H',I,q⟩:=h; exact ⟨σ',H',I.unwish,q⟩
 | brk=>obtain ⟨σ',H',I,q⟩:=h; exact ⟨σ',H',I.unwish,q⟩
 | cont=>obtain ⟨σ',H',I,q⟩:=h; exact ⟨σ',H',I.unwish,q⟩
 | ret u=>obtain ⟨v,σ',H',I,r,q⟩:=h; exact ⟨v,σ',H',I.unwish,r,q⟩
theorem PSs.nox {st:List Stmt} {t:TS} (h:PSs X.nox st t):PSs X st t:=fun pins s σ H D I hw =>
 wpAny_mono (h pins s σ H D (I.wish _) hw) (fun _ _ q=>q.unwish) fun _ _ z=>False.elim z
end
section
variable {X:Cx} {st:Stmt} {rest:List Stmt} {t u:TS} {e:Expr} {te:TE} {pos:Pos}
def tNext:TS:=fun D σ H=>D.nx σ H
def tSeq (t u:TS):TS:=fun D σ H=>t { D with nx:=u D } σ H
theorem pss_nil:PSs X [] tNext:=fun _ _ σ H _ I h=>wpAny_execs_nil ⟨σ,H,I,h⟩
theorem pss_cons (h1:PS X st t) (h2:PSs X rest u):PSs X (st :: rest) (tSeq t u):=by
 intro pins s σ H D I h
 refine wpAny_execs_cons (thn (h1 pins s σ H { D with nx:=u D } I h) fun f s1 q=>?_)
 cases f with
 | next =>
  obtain ⟨σ',H',I',q⟩:=q
  exact h2 pins s1 σ' H' D I' q
 | ret v=>exact q
 | brk=>exact q
 | cont=>exact q
theorem pss_one (h1:PS X st t):PSs X [st] t:=by
 intro pins s σ H D I h
 refine wpAny_execs_cons (thn (h1 pins s σ H D I h) fun f s1 q=>?_)
 cases f with
 | next=>exact wpAny_execs_nil q
 | ret v=>exact q
 | brk=>exact q
 | cont=>exact q
theorem Inv.quiet {pins:List (Addr × Obj)} {σ:St} {H:Hp} {s:Shared} (I:Inv X pins σ H s):interactive X.env = false:=by simp [interactive,I.ok.kind]
def tDrop (te:TE):TS:=fun D σ H=>te σ H fun _ H1=>D.nx σ H1
theorem ps_expr (he:PE X e te) (hs:swapsWith e none pos.line X.env = pure false:=by rfl):PS X (.Expr e pos) (tDrop te):=by
 intro pins s σ H D I h
 exact wpAny_Expr_any (thn (he pins s σ H _ I h) fun v s1 ⟨x,H1,I1,r1,q1⟩=>⟨σ,H1,I1,q1⟩) I.quiet hs
def tRet (te:TE):TS:=fun D σ H=>te σ H D.rt
theorem ps_ret (he:PE X e te):PS X (.Return (some e) pos) (tRet te):=by
 intro pins s σ H D I h
 exact wpAny_Return_some (thn (he pins s σ H _ I h) fun v s1 ⟨x,H1,I1,r1,q1⟩=>⟨x,σ,H1,I1,r1,q1⟩)
def tIfS (c:TT) (t u:TS):TS:=fun D σ H=>c σ H fun b H1=>if b = true then t D σ H1 else u D σ H1
theorem ps_if {c:Expr} {a b:List Stmt} {tc:TT} (hc:PT X c tc) (ha:PSs X a t) (hb:PSs X b u):PS X (.If c a b pos) (tIfS tc t u):=by
 intro pins s σ H D I h
 refine wpAny_If (thn (hc pins s σ H _ I h) fun d s1 ⟨H1,I1,q1⟩=>?_)
 cases d with
 | true=>exact ha pins s1 σ H1 D I1 q1
 | false=>exact hb pins s1 σ H1 D I1 q1
def tNever:TS:=fun _ _ _=>False
theorem ps_never:PS X st tNever:=fun _ _ _ _ _ _ h=>h.elim
end
abbrev TG:=V->St->Hp->(St->Hp->Prop)->Prop
abbrev TGs:=List V->St->Hp->(St->Hp->Prop)->Prop
def PG (X:Cx) (target:Expr) (t:TG):Prop :=
 ∀ (pins:List (Addr × Obj)) (s:Shared) (σ:St) (H:Hp) (v:V) (u:Value) (Q:St->Hp->Prop),Inv X pins σ H s->RelV v u->t v σ H Q ->
  wpAny (model X.prog X.w) X.A (assign target X.env u) (fun _ s'=>∃ σ' H',Inv X pins σ' H' s'/\Q σ' H') X.xe s
def PGs (X:Cx) (ts:List Expr) (t:TGs):Prop :=
 ∀ (pins:List (Addr × Obj)) (s:Shared) (σ:St) (H:Hp) (vs:List V) (us:List Value) (Q:St->Hp->Prop),Inv X pins σ H s->Vals vs us->t vs σ H Q ->
  wpAny (model X.prog X.w) X.A (assignInOrder ((assignEach ts X.env).map (·.2)) us) (fun _ s'=>∃ σ' H',Inv X pins σ' H' s'/\Q σ' H') X.xe s
abbrev TSet:=V->V->V->Hp->(Hp->Prop)->Prop
def PSet (X:Cx) (t:TSet):Prop :=
 ∀ (pins:List (Addr × Obj)) (s:Shared) (σ:St) (H:Hp) (o i v:V) (ov iv u:Value) (Q:Hp->Prop),Inv X pins σ H s->RelV o ov->RelV i iv->RelV v u->t o i v H Q ->
  wpAny (model X.prog X.w) X.A (setItem ov iv u) (fun _ s'=>∃ H',Inv X pins σ H' s'/\Q H') X.xe s
section
variable {X:Cx} {pos:Pos}
def gName (i:Nat):TG:=fun v σ H Q=>Q (σ.set i (some v)) H
theorem pg_name {i:Nat} {x:Str} (hN:X.N.Nodup) (hi:X.N[i]? = some x) (hx:Loc X.env.scope x) (hf:X.fn x = true ∨ X.env.scope.names.lookup x = some .local:=by first | exact .inl rfl | exact .inr rfl | assumption):PG X (.Name x pos) (gName i):=by
 intro pins s σ H v u Q I r h
 exact wpAny_assign_Name (store_ok I hN hi hx r (fun s' I'=>⟨_,H,I',h⟩) hf)
def gNil:TGs:=fun vs σ H Q=>vs = []/\Q σ H
def gCons (t:TG) (u:TGs):TGs:=fun vs σ H Q=>∃ v r,vs = v :: r/\t v σ H fun σ' H'=>u r σ' H' Q
theorem pgs_nil:PGs X [] gNil:=by
 intro pins s σ H vs us Q I r h
 obtain ⟨e,h⟩:=h
 subst e
 cases r
 exact assignInOrder_nil ⟨σ,H,I,h⟩
theorem pgs_cons {e:Expr} {es:List Expr} {t:TG} {u:TGs} (h1:PG X e t) (h2:PGs X es u)
  (hs:(assignEach (e :: es) X.env).map (·.2) = assign e X.env :: (assignEach es X.env).map (·.2):=by rfl):PGs X (e :: es) (gCons t u):=by
 intro pins s σ H vs us Q I r h
 obtain ⟨v,vr,e1,h⟩:=h
 subst e1
 cases r with
 | cons r rr =>
  rw [hs]
  refine assignInOrder_cons (thn (h1 pins s σ H _ _ _ I r h) fun _ s1 ⟨σ1,H1,I1,q1⟩=>?_)
  exact h2 pins s1 σ1 H1 _ _ Q I1 rr q1
def gTup (K:PySem.W.Frag) (n:Nat) (t:TGs):TG:=fun v σ H Q=>∃ a xs,v = .ref a/\SqT K H a xs/\xs.length = n/\t xs σ H Q
theorem pg_tup {es:List Expr} {k:Nat} {t:TGs} {n:Nat} (hc:X.calm = true) (h:PGs X es t)
  (hn:(assignEach es X.env).length = n:=by rfl) (hst:(assignEach es X.env).findIdx? (·.1) = none:=by rfl):PG X (.Tuple es k pos) (gTup X.K n t):=by
 intro pins s σ H v u Q I r hw
 obtain ⟨a,xs,e1,hq,hl,hw⟩:=hw
 subst e1
 cases r
 obtain ⟨its,rv,ht,hz⟩:=I.tuple hq
 refine assign_Tuple_tuple (I.ok.hd hc) ht (by simp [hn,<- hl,rv.length]) hst fun h' hx=>?_
 have I1:Inv X pins σ H { s with heap:=h' }:=I.kept (t':=s.toks) fun b o e=>hx b o (Nat.ne_of_lt (Heap.lt_size e)) e
 exact h pins _ σ H xs _ Q I1 (by simpa using rv) hw
def gSub (to ti:TE) (t:TSet):TG:=fun v σ H Q=>to σ H fun o H1=>ti σ H1 fun i H2=>t o i v H2 fun H3=>Q σ H3
theorem pg_sub {o i:Expr} {to ti:TE} {t:TSet} (ho:PE X o to) (hi:PE X i ti) (hs:PSet X t)
  (ha:∀ v,assign (.Subscript o i pos) X.env v = (do
   let ov <- holding [v] (eval o X.env)
   let iv <- holding [v,ov] (eval i X.env)
   standAt pos
   holding [v,ov,iv] (setItem ov iv v)
   release [v,ov,iv] []):=by intro _; rfl):PG X (.Subscript o i pos) (gSub to ti t):=by
 intro pins s σ H v u Q I r h
 rw [ha]
 refine wpAny_bind (wpAny_holding (thn (ho pins s σ H _ I h) fun ov s1 ⟨x,H1,I1,r1,q1⟩=>?_))
 refine wpAny_bind (wpAny_holding (thn (hi pins s1 σ H1 _ I1 q1) fun iv s2 ⟨y,H2,I2,r2,q2⟩=>?_))
 refine wpAny_bind (wpAny_standAt (wpAny_bind (wpAny_holding (thn (hs pins s2 σ H2 x y v ov iv u _ I2 r1 r2 r q2) fun _ s3 ⟨H3,I3,q3⟩=>?_))))
 exact wpAny_release ⟨σ,H3,I3,q3⟩
def tAsg (te:TE) (g:TG):TS:=fun D σ H=>te σ H fun x H1=>g x σ H1 D.nx
theorem ps_asg {tg e:Expr} {te:TE} {g:TG} (he:PE X e te) (hg:PG X tg g) (hs:swapsWithSole [tg] e pos.line X.env = pure false:=by rfl) (hw:swappedStores [tg] e X.env = pure none:=by rfl)
  (h1:(assignEach [tg] X.env).map (·.2) = [assign tg X.env]:=by rfl):PS X (.Assign [tg] e pos) (tAsg te g):=by
 intro pins s σ H D I h
 refine wpAny_Assign_stores (thn (he pins s σ H _ I h) fun v s1 ⟨x,H1,I1,r1,q1⟩=>?_) hs hw
 rw [h1]
 exact thn (hg pins s1 σ H1 x v _ I1 r1 q1) fun _ s2 q=>q
theorem ps_set {i:Nat} {x:Str} {e:Expr} {te:TE} {pos':Pos} (hN:X.N.Nodup) (hi:X.N[i]? = some x) (hx:Loc X.env.scope x) (he:PE X e te) (hs:swapsWith e (some (.Name x pos')) pos.line X.env = pure false:=by rfl) (hf:X.fn x = true ∨ X.env.scope.names.lookup x = some .local:=by first | exact .inl rfl | exact .inr rfl | assumption) :
  PS X (.Assign [.Name x pos'] e pos) (tAsg te (gName i)):=by
 intro pins s σ H D I h
 refine wpAny_Assign_Name (thn (he pins s σ H _ I h) fun v s1 ⟨y,H1,I1,r1,q1⟩=>?_) hs
 exact store_ok I1 hN hi hx r1 (fun s2 I2=>⟨_,H1,I2,q1⟩) hf
end
section
variable {X:Cx} {pos:Pos}
def tWhile (c:TT) (tb:TS):TS:=fun D σ H=>∃ W:Nat->St->Hp->Prop,(∃ m,W m σ H)/\∀ m σ H,W m σ H ->
 c σ H fun b H1=>if b = true then ∃ N:St->Hp->Prop,(∀ σ' H',N σ' H'->∃ m',m' < m/\W m' σ' H')/\tb { D with nx:=N,ct:=N,bk:=D.nx } σ H1 else D.nx σ H1
theorem ps_while {c:Expr} {body:List Stmt} {tc:TT} {tb:TS} (hp:PassesOwn (model X.prog X.w) X.A X.env X.xe) (hc:PT X c tc) (hb:PSs X body tb):PS X (.While c body [] pos) (tWhile tc tb):=by
 intro pins s σ H D I h
 obtain ⟨W,⟨m0,w0⟩,turn⟩:=h
 refine wpAny_While (codeAny_whileLoop (fun n s'=>∃ σ' H',Inv X pins σ' H' s'/\W n σ' H') ?_ m0 ⟨σ,H,I,w0⟩)
 rintro n s1 ⟨σ1,H1,I1,w1⟩
 refine wpAny_passesOwn hp (thn (hc pins s1 σ1 H1 _ I1 (turn n σ1 H1 w1)) fun b s2 ⟨H2,I2,q2⟩=>?_)
 cases b with
 | true =>
  obtain ⟨N,hN,q2⟩:=q2
  rw [if_pos rfl]
  refine wpAny_passesOwn hp (thn (hb pins s2 σ1 H2 _ I2 q2) fun f s3 q3=>?_)
  cases f with
  | next =>
   obtain ⟨σ3,H3,I3,n3⟩:=q3
   obtain ⟨m',hm,w3⟩:=hN σ3 H3 n3
   exact ⟨m',hm,σ3,H3,I3,w3⟩
  | cont =>
   obtain ⟨σ3,H3,I3,n3⟩:=q3
   obtain ⟨m',hm,w3⟩:=hN σ3 H3 n3
   exact ⟨m',hm,σ3,H3,I3,w3⟩
  | brk=>exact q3
  | ret v=>exact q3
 | false =>
  rw [if_neg Bool.false_ne_true]
  exact wpAny_execs_nil ⟨σ1,H2,I2,q2⟩
end
structure It where
 go:Nat->Hp->Prop
 yld:Nat->Hp->V->Hp->Prop
 stop:Nat->Hp->Prop
def FpOk (X:Cx) (pins:List (Addr × Obj)) (H:Hp) (b:Addr):Prop :=
 H b = none/\b ≠ X.env.locals/\b ∉ X.fs/\(b ∈ X.ex ∨ X.s₀.heap.objs.size <= b)/\(∀ x c,X.env.cells.lookup x = some c->c ≠ b)/\∀ p ∈ X.pn ++ pins,p.1 ≠ b
theorem Inv.fpOk {X:Cx} {pins:List (Addr × Obj)} {σ:St} {H H':Hp} {s:Shared} {b:Addr} (I:Inv X pins σ H s) (hb:s.heap.objs.size <= b) (hn:H' b = none):FpOk X pins H' b:=by
 refine ⟨hn,Nat.ne_of_gt (Nat.lt_of_lt_of_le I.lt hb),I.nofs hb,.inr (Nat.le_trans I.sz hb),fun x c e z=>?_,fun p hp z=>?_⟩
 ·obtain ⟨v,q⟩:=I.cell x c e
  exact absurd (Nat.lt_of_lt_of_le q.lt (by rw [z]; exact hb)) (Nat.lt_irrefl _)
 ·exact absurd (Nat.lt_of_lt_of_le (Heap.lt_size (I.pin p hp).1) (by rw [z]; exact hb)) (Nat.lt_irrefl _)
structure Turn (P:Program) (w:World) (K:PySem.W.Frag) (tg:Expr) (J:It) (fp:List Addr) (it:Addr) (tn:Nat->Heap->Prop):Prop where
 mem:it ∈ fp
 obj:∀ i h,tn i h->∀ b ∈ fp,∃ o,h.get? b = some o/\∀ v,o.data ≠ .cell v
 keep:∀ i h h',tn i h->(∀ b ∈ fp,∀ o,h.get? b = some o->h'.get? b = some o)->tn i h'
 item:∀ (X:Cx),X.prog = P->X.w = w->X.K = K->X.calm = true->∀ (i:Nat) (pins:List (Addr × Obj)) (s:Shared) (σ:St) (H:Hp) (E:Value->Shared->Prop),Inv X pins σ H s->(∀ b ∈ fp,FpOk X pins H b)->tn i s.heap->J.go i H ->
  wpAny (model P w) X.A (pyNext (.ref it)) (fun r s1=>∃ u,r = some u /\
   wpAny (model P w) X.A (letOwnedTupleGo tg (.ref it) u) (fun _ s2=>∃ x H',Inv X pins σ H' s2/\RelV x u/\J.yld i H x H'/\tn (i + 1) s2.heap/\∀ b ∈ fp,H' b = none) E s1) E s
 done:∀ (X:Cx),X.prog = P->X.w = w->X.K = K->X.calm = true->∀ (i:Nat) (pins:List (Addr × Obj)) (s:Shared) (σ:St) (H:Hp) (E:Value->Shared->Prop),Inv X pins σ H s->(∀ b ∈ fp,FpOk X pins H b)->tn i s.heap->J.stop i H ->
  wpAny (model P w) X.A (pyNext (.ref it)) (fun r s1=>r = none/\Inv X pins σ H s1) E s
 self:∀ (A:Around) (i:Nat) (s:Shared) (Q:Value->Shared->Prop) (E:Value->Shared->Prop),tn i s.heap->Q (.ref it) s->wpAny (model P w) A (pyIter (.ref it)) Q E s
abbrev TI:=St->Hp->(It->Hp->Prop)->Prop
def PIE (X:Cx) (pins:List (Addr × Obj)) (σ:St) (tg:Expr) (R:It->Hp->Prop) (itv:Value) (s2:Shared):Prop :=
 ∃ (it:Addr) (fp:List Addr) (tn:Nat->Heap->Prop) (J:It) (H':Hp),itv = .ref it/\Inv X pins σ H' s2/\Turn X.prog X.w X.K tg J fp it tn/\tn 0 s2.heap/\(∀ b ∈ fp,FpOk X pins H' b)/\R J H'
def PI (X:Cx) (tg iter:Expr) (wi:TI):Prop :=
 ∀ (pins:List (Addr × Obj)) (s:Shared) (σ:St) (H:Hp) (R:It->Hp->Prop),Inv X pins σ H s->wi σ H R ->
  wpAny (model X.prog X.w) X.A (eval iter X.env) (fun v s1=>wpAny (model X.prog X.w) X.A (pyIter v) (PIE X pins σ tg R) X.xe s1) X.xe s
theorem go_of {M:Model} {A:Around} {E:Value->Shared->Prop} {s:Shared} {tg:Expr} {it:Addr} {u:Value} {o:Obj} {n:String} {vs:Array Value} {Q:Unit->Shared->Prop} (ho:s.heap.get? it = some o) (hc:o.cls = .type n) (hd:o.data = .fields vs)
    (hn:["enumerate","zip","dict_itemiterator","dict_reverseitemiterator","odict_iterator","itertools.zip_longest","itertools.pairwise"].contains n = false) (hQ:Q () s):wpAny M A (letOwnedTupleGo tg (.ref it) u) Q E s:=by
  unfold letOwnedTupleGo
  cases tg <;> first
    | exact wpAny_pure hQ
    | (cases u <;> first
        | exact wpAny_pure hQ
        | (refine wpAny_bind (wpAny_load ho ?_)
           rw [hc,hd]
           show wpAny M A (if (["enumerate","zip","dict_itemiterator","dict_reverseitemiterator","odict_iterator","itertools.zip_longest","itertools.pairwise"].contains n && vs[0]? == some (rawInt _)) = true then _ else _) Q E s
           rw [if_neg (by intro h; rw [hn,Bool.false_and] at h; cases h)]
           exact wpAny_pure hQ))
def Itl (K:PySem.W.Frag) (a:Addr):It :=
 ⟨fun i H=>∃ xs x,SqL K H a xs/\xs[i]? = some x,fun i H x H'=>H' = H/\∀ xs,SqL K H a xs->xs[i]? = some x,fun i H=>∃ xs,SqL K H a xs/\xs.length <= i⟩
def Itt (K:PySem.W.Frag) (a:Addr):It :=
 ⟨fun i H=>∃ xs x,SqT K H a xs/\xs[i]? = some x,fun i H x H'=>H' = H/\∀ xs,SqT K H a xs->xs[i]? = some x,fun i H=>∃ xs,SqT K H a xs/\xs.length <= i⟩
def Itr (lo:Int) (n:Nat):It:=⟨fun i _=>i < n,fun i H x H'=>H' = H/\x = .int (lo + i),fun i _=>n <= i⟩
theorem turn_list {P:Program} {w:World} {K:PySem.W.Frag} {tg:Expr} (a it:Addr):Turn P w K tg (Itl K a) [it] it (fun i h=>h.IsListIter it a i) where
 mem:=by simp
 obj:=fun i h st b hb=>by
  have e:b = it:=by simpa using hb
  subst e
  obtain ⟨o,e,c,d⟩:=st
  exact ⟨o,e,fun v z=>by rw [d] at z; cases z⟩
 keep:=fun i h h' st k=>st.at fun o e=>k it (by simp) o e
 item:=by
  intro X hP hw hK hc i pins s σ H E I hf st hg
  subst hP hw hK
  obtain ⟨xs,x,hq,hx⟩:=hg
  obtain ⟨its,rv,p,hz⟩:=I.list hq
  obtain ⟨u,hu,ru⟩:=rv.get hx
  obtain ⟨f0,f1,f2,f3,f4,f5⟩:=hf it (by simp)
  refine wpAny_pyNext_list_item st p.isList (x:=u) (by simpa using hu) fun h' st' sb=>?_
  have I1:Inv X pins σ H { s with heap:=h' }:=I.turned (t':=s.toks) (fun b o hb e=>(sb.2 b hb).trans e) f0 f1 f3 f4 f5
  obtain ⟨o,e,c,d⟩:=id st'
  exact ⟨u,rfl,go_of (s:={ s with heap:=h' }) e c d (by decide) ⟨x,H,I1,ru,⟨rfl,fun ys hy=>by rw [I.list_inj hy hq]; exact hx⟩,st',fun b hb=>(hf b hb).1⟩⟩
 done:=by
  intro X hP hw hK hc i pins s σ H E I hf st hg
  subst hP hw hK
  obtain ⟨xs,hq,hx⟩:=hg
  obtain ⟨its,rv,p,hz⟩:=I.list hq
  obtain ⟨f0,f1,f2,f3,f4,f5⟩:=hf it (by simp)
  have hl:=rv.length
  exact wpAny_pyNext_list_end (I.ok.hd hc) st p.isList (by simp; omega) fun h' eb=>⟨rfl,I.turned (t':=s.toks) (fun b o hb e=>eb b o hb e) f0 f1 f3 f4 f5⟩
 self:=fun _ _ _ _ _ st h=>wpAny_pyIter_listiter st h
theorem turn_tuple {P:Program} {w:World} {K:PySem.W.Frag} {tg:Expr} (a it:Addr):Turn P w K tg (Itt K a) [it] it (fun i h=>h.IsTupleIter it a i) where
 mem:=by simp
 obj:=fun i h st b hb=>by
  have e:b = it:=by simpa using hb
  subst e
  obtain ⟨o,e,c,d⟩:=st
  exact ⟨o,e,fun v z=>by rw [d] at z; cases z⟩
 keep:=fun i h h' st k=>st.at fun o e=>k it (by simp) o e
 item:=by
  intro X hP hw hK hc i pins s σ H E I hf st hg
  subst hP hw hK
  obtain ⟨xs,x,hq,hx⟩:=hg
  obtain ⟨its,rv,p,hz⟩:=I.tuple hq
  obtain ⟨u,hu,ru⟩:=rv.get hx
  obtain ⟨f0,f1,f2,f3,f4,f5⟩:=hf it (by simp)
  refine wpAny_pyNext_tuple_item st (show s.heap.IsTuple a its.toArray from p) (x:=u) (by simpa using hu) fun h' st' sb=>?_
  have I1:Inv X pins σ H { s with heap:=h' }:=I.turned (t':=s.toks) (fun b o hb e=>(sb.2 b hb).trans e) f0 f1 f3 f4 f5
  obtain ⟨o,e,c,d⟩:=id st'
  exact ⟨u,rfl,go_of (s:={ s with heap:=h' }) e c d (by decide) ⟨x,H,I1,ru,⟨rfl,fun ys hy=>by rw [I.tuple_inj hy hq]; exact hx⟩,st',fun b hb=>(hf b hb).1⟩⟩
 done:=by
  intro X hP hw hK hc i pins s σ H E I hf st hg
  subst hP hw hK
  obtain ⟨xs,hq,hx⟩:=hg
  obtain ⟨its,rv,p,hz⟩:=I.tuple hq
  obtain ⟨f0,f1,f2,f3,f4,f5⟩:=hf it (by simp)
  have hl:=rv.length
  exact wpAny_pyNext_tuple_end (I.ok.hd hc) st (show s.heap.IsTuple a its.toArray from p) (by simp; omega) fun h' eb=>⟨rfl,I.turned (t':=s.toks) (fun b o hb e=>eb b o hb e) f0 f1 f3 f4 f5⟩
 self:=fun _ _ _ _ _ st h=>wpAny_pyIter_tupleiter st h
theorem turn_range {P:Program} {w:World} {K:PySem.W.Frag} {tg:Expr} (it:Addr) (lo:Int) (n:Nat):Turn P w K tg (Itr lo n) [it] it (fun i h=>IsRangeIter h it (lo + (i:Nat) * 1) ((n:Int) - (i:Nat)) 1) where
 mem:=by simp
 obj:=fun i h st b hb=>by
  have e:b = it:=by simpa using hb
  subst e
  exact ⟨_,st,fun v z=>by
   have z':Data.fields _ = Data.cell v:=z
   cases z'⟩
 keep:=fun i h h' st k=>k it (by simp) _ st
 item:=by
  intro X hP hw hK hc i pins s σ H E I hf st hg
  subst hP hw hK
  obtain ⟨f0,f1,f2,f3,f4,f5⟩:=hf it (by simp)
  have W:=Walks.range (prog:=X.prog) (w:=X.w) (I.ok.hd hc) it lo 1 n
  refine W.item i s _ _ hg st fun v h' tk hv st' kk=>?_
  obtain ⟨t,rfl⟩:=hv
  have I1:Inv X pins σ H { s with heap:=h',toks:=tk }:=I.turned (fun b o hb e=>kk b o (by simpa using hb) e) f0 f1 f3 f4 f5
  refine ⟨_,rfl,go_of (s:={ s with heap:=h',toks:=tk }) (n:="range_iterator") st' rfl rfl (by decide) ⟨.int (lo + i),H,I1,⟨t,?_⟩,⟨rfl,rfl⟩,st',fun b hb=>(hf b hb).1⟩⟩
  rw [Int.mul_one]
 done:=by
  intro X hP hw hK hc i pins s σ H E I hf st hg
  subst hP hw hK
  obtain ⟨f0,f1,f2,f3,f4,f5⟩:=hf it (by simp)
  exact wpAny_pyNext_range_end (I.ok.hd hc) st (by have:n <= i:=hg; omega) fun h' eb=>⟨rfl,I.turned (t':=s.toks) (fun b o hb e=>eb b o hb e) f0 f1 f3 f4 f5⟩
 self:=fun _ _ _ _ _ st h=>wpAny_pyIter_rangeiter st h
end L2
namespace L2
open PySem PySem.Spec PyProof.Rows
section
variable {X:Cx} {tg:Expr}
def iList (K:PySem.W.Frag) (tl:TE):TI:=fun σ H R=>tl σ H fun x H1=>∃ a,x = .ref a/\(∃ xs,SqL K H1 a xs)/\R (Itl K a) H1
def iTup (K:PySem.W.Frag) (tl:TE):TI:=fun σ H R=>tl σ H fun x H1=>∃ a,x = .ref a/\(∃ xs,SqT K H1 a xs)/\R (Itt K a) H1
theorem pi_list {l:Expr} {tl:TE} (hl:PE X l tl):PI X tg l (iList X.K tl):=by
 intro pins s σ H R I h
 refine thn (hl pins s σ H _ I h) fun v s1 ⟨x,H1,I1,r1,q1⟩=>?_
 obtain ⟨a,e,⟨xs,hq⟩,q⟩:=q1
 subst e
 cases r1
 obtain ⟨its,rv,p,hz⟩:=I1.list hq
 refine wpAny_pyIter_list p.isList ?_
 refine ⟨s1.heap.objs.size,[s1.heap.objs.size],_,_,H1,rfl,I1.kept (t':=s1.toks) fun b o e=>Heap.get?_push_of_some _ e,turn_list a _,⟨_,Heap.get?_push_size _ rfl,rfl,rfl⟩,fun b hb=>?_,q⟩
 have e:b = s1.heap.objs.size:=by simpa using hb
 subst e
 exact I1.fpOk (Nat.le_refl _) (I1.hok.fresh (Nat.le_refl _))
theorem pi_tup {l:Expr} {tl:TE} (hl:PE X l tl):PI X tg l (iTup X.K tl):=by
 intro pins s σ H R I h
 refine thn (hl pins s σ H _ I h) fun v s1 ⟨x,H1,I1,r1,q1⟩=>?_
 obtain ⟨a,e,⟨xs,hq⟩,q⟩:=q1
 subst e
 cases r1
 obtain ⟨its,rv,p,hz⟩:=I1.tuple hq
 refine wpAny_pyIter_tuple (show s1.heap.IsTuple a its.toArray from p) ?_
 refine ⟨s1.heap.objs.size,[s1.heap.objs.size],_,_,H1,rfl,I1.kept (t':=s1.toks) fun b o e=>Heap.get?_push_of_some _ e,turn_tuple a _,⟨_,Heap.get?_push_size _ rfl,rfl,rfl⟩,fun b hb=>?_,q⟩
 have e:b = s1.heap.objs.size:=by simpa using hb
 subst e
 exact I1.fpOk (Nat.le_refl _) (I1.hok.fresh (Nat.le_refl _))
theorem range_it {pins:List (Addr × Obj)} {σ:St} {H:Hp} {s:Shared} {R:It->Hp->Prop} {E:Value->Shared->Prop} {lo hi:Int} {t u v:Tok} {tk:Nat} (I:Inv X pins σ H s) (h1:-(2 ^ 62) <= lo) (h2:lo < 2 ^ 62) (h3:-(2 ^ 62) <= hi) (h4:hi < 2 ^ 62)
  (q:R (Itr lo (hi - lo).toNat) H):wpAny (model X.prog X.w) X.A (pyIter (.ref s.heap.objs.size)) (PIE X pins σ tg R) E { s with heap:=s.heap.push { cls:=.type "range",data:=.fields #[.int lo t,.int hi u,.int 1 v] },toks:=tk }:=by
 refine wpAny_pyIter_range (IsRange.new ..) (small_one h1 h2 h3 h4) ?_
 have I1:Inv X pins σ H { s with heap:=s.heap.push { cls:=.type "range",data:=.fields #[.int lo t,.int hi u,.int 1 v] },toks:=tk }:=I.kept fun b o e=>Heap.get?_push_of_some _ e
 refine ⟨(s.heap.push { cls:=.type "range",data:=.fields #[.int lo t,.int hi u,.int 1 v] }).objs.size,[(s.heap.push { cls:=.type "range",data:=.fields #[.int lo t,.int hi u,.int 1 v] }).objs.size],_,_,H,rfl,
  I1.kept (t':=tk) fun b o e=>Heap.get?_push_of_some _ e,turn_range _ lo (hi - lo).toNat,?_,fun b hb=>?_,q⟩
 ·have e1:lo + ((0:Nat):Int) * 1 = lo:=by simp
  have e2:(((hi - lo).toNat:Nat):Int) - ((0:Nat):Int) = Builtin.Range.rangeSize lo hi 1:=by rw [rangeSize_one]; split <;> omega
  show IsRangeIter _ _ (lo + ((0:Nat):Int) * 1) ((((hi - lo).toNat:Nat):Int) - ((0:Nat):Int)) 1
  rw [e1,e2]
  exact Heap.get?_push_size _ rfl
 ·have e:b = (s.heap.push { cls:=.type "range",data:=.fields #[.int lo t,.int hi u,.int 1 v] }).objs.size:=by simpa using hb
  subst e
  exact I1.fpOk (Nat.le_refl _) (I1.hok.fresh (Nat.le_refl _))
def iRng1 (ta:TA):TI:=fun σ H R=>ta σ H fun vs H1=>∃ j:Int,vs = [.int j]/\-(2 ^ 62) <= j/\j < 2 ^ 62/\R (Itr 0 j.toNat) H1
theorem pi_range1 {a:Expr} {ta:TA} {p pos:Pos} (hg:Gl X "range") (hm:X.mg "range" = none) (ha:PA X [a] ta) (hs:starEach [a] X.env = [(false,eval a X.env)]:=by rfl):PI X tg (.Call (.Name "range" p) [a] [] pos) (iRng1 ta):=by
 intro pins s σ H R I h
 refine Call_ (ld_blt I hg hm boot_range (PyProof.Rows.callWith_type1 (thn (ha pos pins s σ H _ I h) fun us s1 ⟨vs,H1,I1,r1,q1⟩=>?_) hs rfl))
 obtain ⟨j,e,q1,q2,q⟩:=q1
 subst e
 cases r1 with
 | cons r rr =>
  cases rr
  obtain ⟨t,rfl⟩:=r
  exact call_range_1 (range_it I1 (by omega) (by omega) q1 q2 (by simpa using q))
def tFor (wi:TI) (g:TG) (tb:TS):TS:=fun D σ H=>wi σ H fun J H1=>∃ W:Nat->Nat->St->Hp->Prop,(∃ m,W 0 m σ H1)/\∀ i m σ H,W i m σ H ->
 (J.stop i H/\D.nx σ H) ∨ (J.go i H/\∃ N:St->Hp->Prop,(∀ σ' H',N σ' H'->∃ m',m' < m/\W (i + 1) m' σ' H')/\∀ x H',J.yld i H x H'->g x σ H' fun σ2 H2=>tb { D with nx:=N,ct:=N,bk:=D.nx } σ2 H2)
def pinsAt (fp:List Addr) (h:Heap):List (Addr × Obj):=fp.filterMap fun b=>(h.get? b).map fun o=>(b,o)
theorem mem_pinsAt {fp:List Addr} {h:Heap} {b:Addr} {o:Obj} (hb:b ∈ fp) (e:h.get? b = some o):(b,o) ∈ pinsAt fp h:=List.mem_filterMap.mpr ⟨b,hb,by rw [e]; rfl⟩
theorem of_pinsAt {fp:List Addr} {h:Heap} {p:Addr × Obj} (hp:p ∈ pinsAt fp h):p.1 ∈ fp/\h.get? p.1 = some p.2:=by
 obtain ⟨b,hb,e⟩:=List.mem_filterMap.mp hp
 cases q:h.get? b with
 | none=>rw [q] at e; cases e
 | some o =>
  rw [q] at e
  have e':(b,o) = p:=Option.some.inj e
  subst e'
  exact ⟨hb,q⟩
theorem Inv.pinned {pins:List (Addr × Obj)} {σ:St} {H:Hp} {s:Shared} {fp:List Addr} (I:Inv X pins σ H s) (hf:∀ b ∈ fp,FpOk X pins H b) (ho:∀ b ∈ fp,∃ o,s.heap.get? b = some o/\∀ v,o.data ≠ .cell v):Inv X (pins ++ pinsAt fp s.heap) σ H s :=
 I.pins_of fun p hp=>(List.mem_append.mp hp).elim (fun z=>I.pin p (List.mem_append_right _ z)) fun z=>by
  obtain ⟨hb,e⟩:=of_pinsAt z
  obtain ⟨f0,f1,f2,_⟩:=hf p.1 hb
  obtain ⟨o,e',d⟩:=ho p.1 hb
  rw [e] at e'; cases e'
  exact ⟨e,f0,f1,f2,d⟩
theorem Inv.unpinned {pins pl:List (Addr × Obj)} {σ:St} {H:Hp} {s:Shared} (I:Inv X (pins ++ pl) σ H s):Inv X pins σ H s:=I.pins_of fun p hp=>I.pin p (List.mem_append_right _ (List.mem_append_left _ hp))
theorem ps_for {iter:Expr} {body:List Stmt} {wi:TI} {g:TG} {tb:TS} {pos:Pos} (hp:PassesOwn (model X.prog X.w) X.A X.env X.xe) (hc:X.calm = true) (hi:PI X tg iter wi) (hg:PG X tg g) (hb:PSs X body tb)
  (hs:∀ x,foldedSetIterable iter X.env x = pure x:=by intro _; rfl):PS X (.For tg iter body [] pos) (tFor wi g tb):=by
 intro pins s σ H D I h
 refine wpAny_For (thn (hi pins s σ H _ I h) fun v s1 h1=>thn h1 fun itv s2 h2=>?_) hs
 obtain ⟨it,fp,tn,J,H2,e,I2,T,st2,f2,W,⟨m0,w0⟩,turn⟩:=h2
 subst e
 have stat:∀ {H':Hp},(∀ b ∈ fp,H' b = none)->∀ b ∈ fp,FpOk X pins H' b:=fun hn b hb=>⟨hn b hb,(f2 b hb).2⟩
 refine codeAny_forLoop_any (fun n s'=>∃ i σ' H',Inv X pins σ' H' s'/\tn i s'.heap/\(∀ b ∈ fp,H' b = none)/\W i n σ' H') ?_ m0 ⟨0,σ,H2,I2,st2,fun b hb=>(f2 b hb).1,w0⟩
 rintro n s3 ⟨i,σ3,H3,I3,st3,fr3,w3⟩
 rcases turn i n σ3 H3 w3 with ⟨stop,qn⟩ | ⟨go,N,hN,step⟩
 ·refine wpAny_passesOwn hp (thn (T.done X rfl rfl rfl hc i pins s3 σ3 H3 X.xe I3 (stat fr3) st3 stop) fun r s4 ⟨hr,I4⟩=>?_)
  subst hr
  exact wpAny_execs_nil ⟨σ3,H3,I4,qn⟩
 ·refine wpAny_passesOwn hp (thn (T.item X rfl rfl rfl hc i pins s3 σ3 H3 X.xe I3 (stat fr3) st3 go) fun r s4 ⟨u,hr,h4⟩=>?_)
  subst hr
  refine wpAny_passesOwn hp (thn h4 fun _ s5 ⟨x,H5,I5,r5,y5,st5,fr5⟩=>?_)
  have I5':=I5.pinned (stat fr5) (T.obj _ _ st5)
  refine wpAny_passesOwn hp (thn (hg _ s5 σ3 H5 x u _ I5' r5 (step x H5 y5)) fun _ s6 ⟨σ6,H6,I6,q6⟩=>?_)
  refine wpAny_passesOwn hp (thn (hb _ s6 σ6 H6 _ I6 q6) fun f s7 q7=>?_)
  have again:∀ {σ7:St} {H7:Hp},Inv X (pins ++ pinsAt fp s5.heap) σ7 H7 s7->N σ7 H7->∃ m,m < n/\∃ i σ' H',Inv X pins σ' H' s7/\tn i s7.heap/\(∀ b ∈ fp,H' b = none)/\W i m σ' H':=fun {σ7 H7} I7 n7=>by
   obtain ⟨m',hm,w7⟩:=hN σ7 H7 n7
   refine ⟨m',hm,i + 1,σ7,H7,I7.unpinned,T.keep _ _ _ st5 fun b hb o e=>(I7.pin (b,o) (List.mem_append_right _ (List.mem_append_right _ (mem_pinsAt hb e)))).1,fun b hb=>?_,w7⟩
   obtain ⟨o,e,d⟩:=T.obj _ _ st5 b hb
   exact (I7.pin (b,o) (List.mem_append_right _ (List.mem_append_right _ (mem_pinsAt hb e)))).2.1
  cases f with
  | next=>obtain ⟨σ7,H7,I7,n7⟩:=q7; exact again I7 n7
  | cont=>obtain ⟨σ7,H7,I7,n7⟩:=q7; exact again I7 n7
  | brk=>obtain ⟨σ7,H7,I7,q7⟩:=q7; exact ⟨σ7,H7,I7.unpinned,q7⟩
  | ret v=>obtain ⟨x7,σ7,H7,I7,r7,q7⟩:=q7; exact ⟨x7,σ7,H7,I7.unpinned,r7,q7⟩
end
theorem for_list {K:PySem.W.Frag} {a:Addr} {xs:List V} {g:TG} {tb:TS} {D:Ends} {σ:St} {H:Hp} (Pv:Nat->St->Hp->Prop) (h0:Pv 0 σ H) (hl:∀ i σ H,i <= xs.length->Pv i σ H->SqL K H a xs)
  (hs:∀ i x σ H,xs[i]? = some x->Pv i σ H->g x σ H fun σ2 H2=>tb { D with nx:=Pv (i + 1),ct:=Pv (i + 1),bk:=D.nx } σ2 H2) (hd:∀ σ H,Pv xs.length σ H->D.nx σ H) :
  ∃ W:Nat->Nat->St->Hp->Prop,(∃ m,W 0 m σ H)/\∀ i m σ H,W i m σ H ->
   ((Itl K a).stop i H/\D.nx σ H) ∨ ((Itl K a).go i H/\∃ N:St->Hp->Prop,(∀ σ' H',N σ' H'->∃ m',m' < m/\W (i + 1) m' σ' H')/\∀ x H',(Itl K a).yld i H x H'->g x σ H' fun σ2 H2=>tb { D with nx:=N,ct:=N,bk:=D.nx } σ2 H2):=by
 refine ⟨fun i m σ H=>m = xs.length - i/\i <= xs.length/\Pv i σ H,⟨xs.length,by simp,Nat.zero_le _,h0⟩,?_⟩
 rintro i m σ H ⟨rfl,hi,p⟩
 have q:=hl i σ H hi p
 by_cases hlt:i < xs.length
 ·refine .inr ⟨⟨xs,xs[i],q,by simp [hlt]⟩,Pv (i + 1),fun σ' H' p'=>⟨xs.length - (i + 1),by omega,rfl,hlt,p'⟩,fun x H' y=>?_⟩
  obtain ⟨e,y⟩:=y
  subst e
  exact hs i x σ _ (y xs q) p
 ·have e:i = xs.length:=by omega
  subst e
  exact .inl ⟨⟨xs,q,Nat.le_refl _⟩,hd σ H p⟩
theorem for_tup {K:PySem.W.Frag} {a:Addr} {xs:List V} {g:TG} {tb:TS} {D:Ends} {σ:St} {H:Hp} (Pv:Nat->St->Hp->Prop) (h0:Pv 0 σ H) (hl:∀ i σ H,i <= xs.length->Pv i σ H->SqT K H a xs)
  (hs:∀ i x σ H,xs[i]? = some x->Pv i σ H->g x σ H fun σ2 H2=>tb { D with nx:=Pv (i + 1),ct:=Pv (i + 1),bk:=D.nx } σ2 H2) (hd:∀ σ H,Pv xs.length σ H->D.nx σ H) :
  ∃ W:Nat->Nat->St->Hp->Prop,(∃ m,W 0 m σ H)/\∀ i m σ H,W i m σ H ->
   ((Itt K a).stop i H/\D.nx σ H) ∨ ((Itt K a).go i H/\∃ N:St->Hp->Prop,(∀ σ' H',N σ' H'->∃ m',m' < m/\W (i + 1) m' σ' H')/\∀ x H',(Itt K a).yld i H x H'->g x σ H' fun σ2 H2=>tb { D with nx:=N,ct:=N,bk:=D.nx } σ2 H2):=by
 refine ⟨fun i m σ H=>m = xs.length - i/\i <= xs.length/\Pv i σ H,⟨xs.length,by simp,Nat.zero_le _,h0⟩,?_⟩
 rintro i m σ H ⟨rfl,hi,p⟩
 have q:=hl i σ H hi p
 by_cases hlt:i < xs.length
 ·refine .inr ⟨⟨xs,xs[i],q,by simp [hlt]⟩,Pv (i + 1),fun σ' H' p'=>⟨xs.length - (i + 1),by omega,rfl,hlt,p'⟩,fun x H' y=>?_⟩
  obtain ⟨e,y⟩:=y
  subst e
  exact hs i x σ _ (y xs q) p
 ·have e:i = xs.length:=by omega
  subst e
  exact .inl ⟨⟨xs,q,Nat.le_refl _⟩,hd σ H p⟩
theorem for_range {lo:Int} {n:Nat} {g:TG} {tb:TS} {D:Ends} {σ:St} {H:Hp} (Pv:Nat->St->Hp->Prop) (h0:Pv 0 σ H)
  (hs:∀ i σ H,i < n->Pv i σ H->g (.int (lo + i)) σ H fun σ2 H2=>tb { D with nx:=Pv (i + 1),ct:=Pv (i + 1),bk:=D.nx } σ2 H2) (hd:∀ σ H,Pv n σ H->D.nx σ H) :
  ∃ W:Nat->Nat->St->Hp->Prop,(∃ m,W 0 m σ H)/\∀ i m σ H,W i m σ H ->
   ((Itr lo n).stop i H/\D.nx σ H) ∨ ((Itr lo n).go i H/\∃ N:St->Hp->Prop,(∀ σ' H',N σ' H'->∃ m',m' < m/\W (i + 1) m' σ' H')/\∀ x H',(Itr lo n).yld i H x H'->g x σ H' fun σ2 H2=>tb { D with nx:=N,ct:=N,bk:=D.nx } σ2 H2):=by
 refine ⟨fun i m σ H=>m = n - i/\i <= n/\Pv i σ H,⟨n,by simp,Nat.zero_le _,h0⟩,?_⟩
 rintro i m σ H ⟨rfl,hi,p⟩
 by_cases hlt:i < n
 ·refine .inr ⟨hlt,Pv (i + 1),fun σ' H' p'=>⟨n - (i + 1),by omega,rfl,hlt,p'⟩,fun x H' y=>?_⟩
  obtain ⟨e,y⟩:=y
  subst e y
  exact hs i σ _ hlt p
 ·have e:i = n:=by omega
  subst e
  exact .inl ⟨Nat.le_refl _,hd σ H p⟩
end L2
namespace L2
open PySem PySem.Spec PyProof.Rows
abbrev R2:=V->V->Hp->VK->Prop
def OpR (X:Cx) (f:Value->Value->Sem Value) (r:R2):Prop :=
 ∀ (pins:List (Addr × Obj)) (s:Shared) (σ:St) (H:Hp) (x y:V) (v u:Value) (Q:VK),Inv X pins σ H s->RelV x v->RelV y u->r x y H Q ->
  wpAny (model X.prog X.w) X.A (f v u) (EP X pins σ Q) X.xe s
def UnR (X:Cx) (f:Value->Sem Value) (r:V->Hp->VK->Prop):Prop :=
 ∀ (pins:List (Addr × Obj)) (s:Shared) (σ:St) (H:Hp) (x:V) (v:Value) (Q:VK),Inv X pins σ H s->RelV x v->r x H Q ->
  wpAny (model X.prog X.w) X.A (f v) (EP X pins σ Q) X.xe s
def CallR (X:Cx) (f:Value) (r:List V->Hp->VK->Prop):Prop :=
 ∀ (pins:List (Addr × Obj)) (s:Shared) (σ:St) (H:Hp) (xs:List V) (us:List Value) (Q:VK),Inv X pins σ H s->Vals xs us->r xs H Q ->
  wpAny (model X.prog X.w) X.A (call f us) (EP X pins σ Q) X.xe s
def tOp (r:R2) (ta tb:TE):TE:=fun σ H Q=>ta σ H fun x H1=>tb σ H1 fun y H2=>r x y H2 Q
def tUn (r:V->Hp->VK->Prop) (ta:TE):TE:=fun σ H Q=>ta σ H fun x H1=>r x H1 Q
def rI (C:Int->Int->Prop) (g:Int->Int->V):R2:=fun x y H Q=>∃ i j,x = .int i/\y = .int j/\C i j/\Q (g i j) H
def rI0 (g:Int->Int->V):R2:=fun x y H Q=>∃ i j,x = .int i/\y = .int j/\Q (g i j) H
def rU (g:Int->V):V->Hp->VK->Prop:=fun x H Q=>∃ i,x = .int i/\Q (g i) H
section
variable {X:Cx} {a b c:Expr} {ta tb tc:TE} {pos:Pos}
theorem binT (ha:PE X a ta) (hb:PE X b tb) {pins:List (Addr × Obj)} {s:Shared} {σ:St} {H:Hp} {R:V->V->Hp->Prop} (I:Inv X pins σ H s)
  (h:ta σ H fun x H1=>tb σ H1 fun y H2=>R x y H2) {Q:Value->Shared->Prop} {f:Value->Value->Sem Value}
  (hf:∀ v u s2 x y H2,Inv X pins σ H2 s2->RelV x v->RelV y u->R x y H2->wpAny (model X.prog X.w) X.A (f v u) Q X.xe s2) :
  wpAny (model X.prog X.w) X.A (eval a X.env) (fun v s₁=>wpAny (model X.prog X.w) X.A (eval b X.env) (fun u s₂=>wpAny (model X.prog X.w) X.A (f v u) Q X.xe s₂) X.xe s₁) X.xe s:=by
 refine thn (ha pins s σ H _ I h) fun v s1 ⟨x,H1,I1,r1,q1⟩=>?_
 refine thn (hb pins s1 σ H1 _ I1 q1) fun u s2 ⟨y,H2,I2,r2,q2⟩=>?_
 exact hf v u s2 x y H2 I2 r1 r2 q2
theorem pe_op {op:Operator} {r:R2} (ho:OpR X (binaryOp op) r) (ha:PE X a ta) (hb:PE X b tb):PE X (.BinOp a op b pos) (tOp r ta tb):=by
 intro pins s σ H Q I h
 exact wpAny_BinOp (binT ha hb I h fun v u s2 x y H2 I2 rx ry q=>ho pins s2 σ H2 x y v u Q I2 rx ry q)
theorem pe_un {op:UnaryOp} {r:V->Hp->VK->Prop} (ho:UnR X (unaryOp op) r) (ha:PE X a ta):PE X (.UnaryOp op a pos) (tUn r ta):=by
 intro pins s σ H Q I h
 exact UnaryOp_ (thn (ha pins s σ H _ I h) fun v s1 ⟨x,H1,I1,r1,q1⟩=>ho pins s1 σ H1 x v Q I1 r1 q1)
theorem opI {f:Value->Value->Sem Value} {C:Int->Int->Prop} {g:Int->Int->Int}
  (rule:∀ (i j:Int) (t u:Tok) (s:Shared) (Q:Value->Shared->Prop) (E:Value->Shared->Prop),C i j->Q (.int (g i j) s.toks) { s with toks:=s.toks + 1 }->wpAny (model X.prog X.w) X.A (f (.int i t) (.int j u)) Q E s) :
  OpR X f (rI C fun i j=>.int (g i j)):=by
 intro pins s σ H x y v u Q I rx ry h
 obtain ⟨i,j,rfl,rfl,hc,q⟩:=h
 obtain ⟨t,rfl⟩:=rx
 obtain ⟨t',rfl⟩:=ry
 exact rule i j t t' s _ _ hc ⟨.int (g i j),H,I.tok _,⟨_,rfl⟩,q⟩
theorem opI0 {f:Value->Value->Sem Value} {g:Int->Int->Int}
  (rule:∀ (i j:Int) (t u:Tok) (s:Shared) (Q:Value->Shared->Prop) (E:Value->Shared->Prop),Q (.int (g i j) s.toks) { s with toks:=s.toks + 1 }->wpAny (model X.prog X.w) X.A (f (.int i t) (.int j u)) Q E s) :
  OpR X f (rI0 fun i j=>.int (g i j)):=by
 intro pins s σ H x y v u Q I rx ry h
 obtain ⟨i,j,rfl,rfl,q⟩:=h
 obtain ⟨t,rfl⟩:=rx
 obtain ⟨t',rfl⟩:=ry
 exact rule i j t t' s _ _ ⟨.int (g i j),H,I.tok _,⟨_,rfl⟩,q⟩
theorem opB0 {f:Value->Value->Sem Value} {g:Int->Int->Bool}
  (rule:∀ (i j:Int) (t u:Tok) (s:Shared) (Q:Value->Shared->Prop) (E:Value->Shared->Prop),Q (.bool (g i j)) s->wpAny (model X.prog X.w) X.A (f (.int i t) (.int j u)) Q E s) :
  OpR X f (rI0 fun i j=>.bl (g i j)):=by
 intro pins s σ H x y v u Q I rx ry h
 obtain ⟨i,j,rfl,rfl,q⟩:=h
 obtain ⟨t,rfl⟩:=rx
 obtain ⟨t',rfl⟩:=ry
 exact rule i j t t' s _ _ ⟨.bl (g i j),H,I,rfl,q⟩
def CDiv (i j:Int):Prop:=0 < j/\j < 1073741824
def CPow (i j:Int):Prop:=0 <= j/\j <= 1000000/\i.natAbs < 2 ^ 64
def CMul (i j:Int):Prop:=(-(2 ^ 64) < i/\i < 2 ^ 64) ∨ (-(2 ^ 64) < j/\j < 2 ^ 64)
theorem CMul.ok {i j:Int} (h:CMul i j):IntMulOk i j:=by
 rcases h with ⟨h1,h2⟩ | ⟨h1,h2⟩
 ·exact .of_left (intBits_le_64 h1 h2)
 ·exact .of_right (intBits_le_64 h1 h2)
theorem op_add:OpR X (binaryOp .Add) (rI0 fun i j=>.int (i + j)):=opI0 fun _ _ _ _ _ _ _ q=>add_int q
theorem op_mul:OpR X (binaryOp .Mult) (rI CMul fun i j=>.int (i * j)):=opI fun _ _ _ _ _ _ _ hc q=>mul_int q hc.ok
theorem op_fdiv:OpR X (binaryOp .FloorDiv) (rI CDiv fun i j=>.int (i / j)):=opI fun i j _ _ _ _ _ hc q=>by
 have h1:(0:Int) < j:=hc.1
 have h2:j < 1073741824:=hc.2
 exact floordiv_int (by omega) (by rw [Int.fdiv_eq_ediv_of_nonneg i (by omega)]; exact q) (.inl (PyProof.noPylong_small (by omega)))
theorem op_mod:OpR X (binaryOp .Mod) (rI (fun _ j=>0 < j) fun i j=>.int (i % j)):=opI fun i j _ _ _ _ _ hc q=>by
 have h1:(0:Int) < j:=hc
 exact mod_int' (by omega) (by rw [Int.fmod_eq_emod_of_nonneg i (by omega)]; exact q)
theorem op_pow:OpR X (binaryOp .Pow) (rI CPow fun i j=>.int (i ^ j.toNat)):=opI fun _ _ _ _ _ _ _ hc q=>pow_int_small hc.1 hc.2.1 hc.2.2 q
theorem unI {f:Value->Sem Value} {g:Int->Int}
  (rule:∀ (i:Int) (t:Tok) (s:Shared) (Q:Value->Shared->Prop) (E:Value->Shared->Prop),Q (.int (g i) s.toks) { s with toks:=s.toks + 1 }->wpAny (model X.prog X.w) X.A (f (.int i t)) Q E s) :
  UnR X f (rU fun i=>.int (g i)):=by
 intro pins s σ H x v Q I rx h
 obtain ⟨i,rfl,q⟩:=h
 obtain ⟨t,rfl⟩:=rx
 exact rule i t s _ _ ⟨.int (g i),H,I.tok _,⟨_,rfl⟩,q⟩
theorem un_neg:UnR X (unaryOp .USub) (rU fun i=>.int (-i)):=unI fun _ _ _ _ _ q=>neg_int q
end
def scal:V->V->Bool
 | .non,.non=>true | .non,.int _=>true | .int _,.non=>true | .non,.bl _=>true | .bl _,.non=>true | .non,.str _=>true | .str _,.non=>true
 | .int _,.int _=>true | .bl _,.bl _=>true | .str _,.str _=>true | .byt _,.byt _=>true
 | .int _,.str _=>true | .str _,.int _=>true | .bl _,.str _=>true | .str _,.bl _=>true
 | _,_=>false
def rEq:R2:=fun x y H Q=>scal x y = true/\Q (.bl (decide (x = y))) H
def rNe:R2:=fun x y H Q=>scal x y = true/\Q (.bl (!decide (x = y))) H
theorem dec_int {i j:Int}:decide (V.int i = V.int j) = (i == j):=by
 rw [Bool.eq_iff_iff]
 simp
theorem dec_bl {i j:Bool}:decide (V.bl i = V.bl j) = (i == j):=by
 rw [Bool.eq_iff_iff]
 simp
theorem dec_str {i j:Str}:decide (V.str i = V.str j) = (i == j):=by
 rw [Bool.eq_iff_iff]
 simp
theorem dec_byt {i j:Array UInt8}:decide (V.byt i = V.byt j) = (i.toList == j.toList):=by
 rw [Bool.eq_iff_iff]
 cases i
 cases j
 simp
section
variable {X:Cx} {a b c:Expr} {ta tb tc:TE} {pos:Pos}
theorem fin_bl {pins:List (Addr × Obj)} {σ:St} {H:Hp} {s:Shared} {Q:VK} {k k':Bool} (I:Inv X pins σ H s) (q:Q (.bl k) H) (e:k = k'):EP X pins σ Q (.bool k') s:=by
 subst e
 exact ⟨.bl k,H,I,rfl,q⟩
theorem op_eq:OpR X (compareOp .Eq) rEq:=by
 intro pins s σ H x y v u Q I rx ry h
 obtain ⟨hs,q⟩:=h
 cases x with
 | non =>
  cases rx
  cases y with
  | non=>cases ry; exact PySem.EqNone.eq_none_none (fin_bl I q (by simp))
  | bl j=>cases ry; exact PySem.EqNone.eq_none_bool (fin_bl I q (by simp))
  | int j=>obtain ⟨t',rfl⟩:=ry; exact PySem.EqNone.eq_none_int (fin_bl I q (by simp))
  | str j=>obtain ⟨t',rfl⟩:=ry; exact PySem.EqNone.eq_none_str (fin_bl I q (by simp))
  | _=>exact absurd (show false = true from hs) Bool.false_ne_true
 | bl i =>
  cases rx
  cases y with
  | non=>cases ry; exact PySem.EqNone.eq_bool_none (fin_bl I q (by simp))
  | bl j=>cases ry; exact eq_bool (fin_bl I q dec_bl)
  | str j=>obtain ⟨t',rfl⟩:=ry; exact PySem.EqMixed.eq_bool_str (fin_bl I q (by simp))
  | _=>exact absurd (show false = true from hs) Bool.false_ne_true
 | int i =>
  obtain ⟨t,rfl⟩:=rx
  cases y with
  | non=>cases ry; exact PySem.EqNone.eq_int_none (fin_bl I q (by simp))
  | int j=>obtain ⟨t',rfl⟩:=ry; exact eq_int (fin_bl I q dec_int)
  | str j=>obtain ⟨t',rfl⟩:=ry; exact PySem.EqMixed.eq_int_str (fin_bl I q (by simp))
  | _=>exact absurd (show false = true from hs) Bool.false_ne_true
 | str i =>
  obtain ⟨t,rfl⟩:=rx
  cases y with
  | non=>cases ry; exact PySem.EqNone.eq_str_none (fin_bl I q (by simp))
  | bl j=>cases ry; exact PySem.EqMixed.eq_str_bool (fin_bl I q (by simp))
  | int j=>obtain ⟨t',rfl⟩:=ry; exact PySem.EqMixed.eq_str_int (fin_bl I q (by simp))
  | str j=>obtain ⟨t',rfl⟩:=ry; exact eq_str (fin_bl I q dec_str)
  | _=>exact absurd (show false = true from hs) Bool.false_ne_true
 | byt i =>
  obtain ⟨t,rfl⟩:=rx
  cases y with
  | byt j=>obtain ⟨t',rfl⟩:=ry; exact PySem.W.eq_bytes (fin_bl I q dec_byt)
  | _=>exact absurd (show false = true from hs) Bool.false_ne_true
 | _=>cases y <;> exact absurd (show false = true from hs) Bool.false_ne_true
theorem op_ne:OpR X (compareOp .NotEq) rNe:=by
 intro pins s σ H x y v u Q I rx ry h
 obtain ⟨hs,q⟩:=h
 cases x with
 | non =>
  cases rx
  cases y with
  | non=>cases ry; exact PySem.EqNone.ne_none_none (fin_bl I q (by simp))
  | bl j=>cases ry; exact PySem.EqNone.ne_none_bool (fin_bl I q (by simp))
  | int j=>obtain ⟨t',rfl⟩:=ry; exact PySem.EqNone.ne_none_int (fin_bl I q (by simp))
  | str j=>obtain ⟨t',rfl⟩:=ry; exact PySem.EqNone.ne_none_str (fin_bl I q (by simp))
  | _=>exact absurd (show false = true from hs) Bool.false_ne_true
 | bl i =>
  cases rx
  cases y with
  | non=>cases ry; exact PySem.EqNone.ne_bool_none (fin_bl I q (by simp))
  | bl j=>cases ry; exact ne_bool (fin_bl I q (congrArg not dec_bl))
  | str j=>obtain ⟨t',rfl⟩:=ry; exact PySem.EqMixed.ne_bool_str (fin_bl I q (by simp))
  | _=>exact absurd (show false = true from hs) Bool.false_ne_true
 | int i =>
  obtain ⟨t,rfl⟩:=rx
  cases y with
  | non=>cases ry; exact PySem.EqNone.ne_int_none (fin_bl I q (by simp))
  | int j=>obtain ⟨t',rfl⟩:=ry; exact ne_int (fin_bl I q (congrArg not dec_int))
  | str j=>obtain ⟨t',rfl⟩:=ry; exact PySem.EqMixed.ne_int_str (fin_bl I q (by simp))
  | _=>exact absurd (show false = true from hs) Bool.false_ne_true
 | str i =>
  obtain ⟨t,rfl⟩:=rx
  cases y with
  | non=>cases ry; exact PySem.EqNone.ne_str_none (fin_bl I q (by simp))
  | bl j=>cases ry; exact PySem.EqMixed.ne_str_bool (fin_bl I q (by simp))
  | int j=>obtain ⟨t',rfl⟩:=ry; exact PySem.EqMixed.ne_str_int (fin_bl I q (by simp))
  | str j=>obtain ⟨t',rfl⟩:=ry; exact ne_str (fin_bl I q (congrArg not dec_str))
  | _=>exact absurd (show false = true from hs) Bool.false_ne_true
 | byt i =>
  obtain ⟨t,rfl⟩:=rx
  cases y with
  | byt j=>obtain ⟨t',rfl⟩:=ry; exact PySem.W.ne_bytes (fin_bl I q (congrArg not dec_byt))
  | _=>exact absurd (show false = true from hs) Bool.false_ne_true
 | _=>cases y <;> exact absurd (show false = true from hs) Bool.false_ne_true
theorem op_lt:OpR X (compareOp .Lt) (rI0 fun i j=>.bl (decide (i < j))):=opB0 fun _ _ _ _ _ _ _ q=>lt_int q
theorem op_le:OpR X (compareOp .LtE) (rI0 fun i j=>.bl (decide (i <= j))):=opB0 fun _ _ _ _ _ _ _ q=>le_int q
theorem op_gt:OpR X (compareOp .Gt) (rI0 fun i j=>.bl (decide (j < i))):=opB0 fun _ _ _ _ _ _ _ q=>gt_int q
theorem op_ge:OpR X (compareOp .GtE) (rI0 fun i j=>.bl (decide (j <= i))):=opB0 fun _ _ _ _ _ _ _ q=>ge_int q
theorem op_in_str:OpR X (compareOp .In) (fun x y H Q=>∃ i j,x = .str i/\y = .str j/\Q (.bl (!(Builtin.Str.occurrences j i 0 j.length 1).isEmpty)) H):=by
 intro pins s σ H x y v u Q I rx ry h
 obtain ⟨i,j,rfl,rfl,q⟩:=h
 obtain ⟨t,rfl⟩:=rx
 obtain ⟨t',rfl⟩:=ry
 exact in_str (fin_bl I q rfl)
theorem nomark (b:Expr) {op:CmpOp} (h:op ≠ .In:=by decide) (h2:op ≠ .NotIn:=by decide):behindInMarks op b = false:=by
 have e1:(op == CmpOp.In) = false:=by cases op <;> first | rfl | exact absurd rfl h
 have e2:(op == CmpOp.NotIn) = false:=by cases op <;> first | rfl | exact absurd rfl h2
 cases b <;> simp [behindInMarks,e1,e2]
theorem pe_cmpR {op:CmpOp} {r:R2} (ho:OpR X (compareOp op) r) (ha:PE X a ta) (hb:PE X b tb) (hm:behindInMarks op b = false):PE X (.Compare a [op] [b] pos) (tOp r ta tb):=by
 intro pins s σ H Q I h
 exact wpAny_Compare1 (binT ha hb I h fun v u s2 x y H2 I2 rx ry q=>ho pins s2 σ H2 x y v u Q I2 rx ry q) hm
def tTest (t:TE):TT:=fun σ H Q=>t σ H fun x H'=>∃ k,x = .bl k/\Q k H'
theorem pt_cmpR {op:CmpOp} {r:R2} (ho:OpR X (compareOp op) r) (ha:PE X a ta) (hb:PE X b tb) (hm:behindInMarks op b = false):PT X (.Compare a [op] [b] pos) (tTest (tOp r ta tb)):=by
 intro pins s σ H Q I h
 refine wpAny_isTrue_Compare1 (thn (ha pins s σ H _ I h) fun v s1 ⟨x,H1,I1,r1,q1⟩=>thn (hb pins s1 σ H1 _ I1 q1) fun u s2 ⟨y,H2,I2,r2,q2⟩ =>
  thn (ho pins s2 σ H2 x y v u _ I2 r1 r2 q2) fun c s3 ⟨z,H3,I3,r3,k,e,q3⟩=>?_) hm
 subst e
 cases r3
 exact wpAny_truthy_bool ⟨H3,I3,q3⟩
theorem line63:(sizeLine:Nat) < 2 ^ 63:=by rw [sizeLine_eq]; decide
theorem op_add_str:OpR X (binaryOp .Add) (fun x y H Q=>∃ i j,x = .str i/\y = .str j/\i.length + j.length <= sizeLine/\Q (.str (i ++ j)) H):=by
 intro pins s σ H x y v u Q I rx ry h
 obtain ⟨i,j,rfl,rfl,hz,q⟩:=h
 obtain ⟨t,rfl⟩:=rx
 obtain ⟨t',rfl⟩:=ry
 exact add_str (fun t' tk=>⟨.str (i ++ j),H,I.tok _,⟨_,rfl⟩,q⟩) hz
theorem vals1 {x:V} {us:List Value} (r:Vals [x] us):∃ u,us = [u]/\RelV x u:=by
 cases r with
 | cons r1 r2=>cases r2; exact ⟨_,rfl,r1⟩
theorem vals2 {x y:V} {us:List Value} (r:Vals [x,y] us):∃ u w',us = [u,w']/\RelV x u/\RelV y w':=by
 cases r with
 | cons r1 r2 =>
  cases r2 with
  | cons r3 r4=>cases r4; exact ⟨_,_,rfl,r1,r3⟩
end
end L2
namespace L2
open PySem PySem.Spec PyProof.Rows
structure ObjM (h:Heap) (x dx C:Addr) (mA:Str->Option Value):Prop where
 obj:h.get? x = some (PySem.W.instObj C dx)
 ns:h.Ns1 dx mA
 ne:dx ≠ x
theorem lookIn_ns {h:Heap} {dx:Addr} {mA:Str->Option Value} (n:h.Ns1 dx mA):∃ od,h.get? dx = some od/\∀ name,PySem.W.lookIn name od = some (mA name):=by
 obtain ⟨o,es,ep,ho,hd,hk,_,hm⟩:=n
 refine ⟨o,ho,fun name=>?_⟩
 have e:=hm name
 unfold nsFind findBy at e
 rw [<- Array.find?_toList] at e
 unfold PySem.W.lookIn
 rw [hd]
 dsimp only
 split
 ·rename_i y q
  rw [q] at e
  exact congrArg some e
 ·rename_i q
  rw [q] at e
  have a:es.toList.any (·.refKey) = false:=by
   rw [List.any_eq_false]
   intro y hy
   obtain ⟨z,t,hkey⟩:=hk y (Array.mem_toList_iff.mp hy)
   simp [DictEntry.refKey,hkey]
  have a':¬ es.toList.any (·.refKey) = true:=by rw [a]; exact Bool.false_ne_true
  rw [if_neg a']
  exact congrArg some e
theorem ObjM.look {h:Heap} {x dx C:Addr} {mA:Str->Option Value} (I:ObjM h x dx C mA):∃ od,PySem.W.InstAt h x (PySem.W.instObj C dx) C (some od)/\∀ name,PySem.W.lookIn name od = some (mA name) :=
 let ⟨od,ho,hl⟩:=lookIn_ns I.ns
 ⟨od,⟨I.obj,rfl,rfl,ho⟩,hl⟩
section
variable {prog:Program} {w:World} {A:Around} {E:Value->Shared->Prop} {s:Shared} {K:PySem.W.Frag} {x dx C f:Addr} {mA:Str->Option Value} {name:Str} {v:Value}
theorem get_map {expr:Bool} {Q:Value->Shared->Prop} (X:K.In s.heap) (I:ObjM s.heap x dx C mA) (hg:PySem.W.plainGet K C name = true) (hh:PySem.W.hasDictIn K C = true)
  (ha:PySem.W.findIn K (.ref C) name = some none) (hv:mA name = some v) (hv':PySem.W.handedIn v = true) (h:Q v { s with toks:=s.toks + 1 }) :
  wpAny (model prog w) A (getAttr (.ref x) name expr) Q E s:=by
 obtain ⟨od,J,hl⟩:=I.look
 exact PySem.W.get_value X J (PySem.W.plainGet_of hg).1 (PySem.W.findObj_own hh ha rfl (by rw [hl,hv])) hv' h
theorem get_meth {pl:Sem Bool} {Q:Value × List Value->Shared->Prop} (X:K.In s.heap) (I:ObjM s.heap x dx C mA) (hg:PySem.W.plainGet K C name = true)
  (hf:PySem.W.findIn K (.ref C) name = some (some (.ref f))) (ht:PySem.W.isFn K (.ref f) = true) (hv:mA name = none) (h:Q (.ref f,[.ref x]) s) :
  wpAny (model prog w) A (getMethod (.ref x) name pl) Q E s:=by
 obtain ⟨od,J,hl⟩:=I.look
 exact PySem.W.method_fn X J (PySem.W.plainGet_of hg).1 (PySem.W.plainGet_of hg).2 hf (beq_iff_eq.mp ht) (by show (PySem.W.lookIn name od).map (·.isSome) = some false; rw [hl,hv]; rfl) h
theorem set_map {ns:List Str} {Q:Unit->Shared->Prop} (X:K.In s.heap) (I:ObjM s.heap x dx C mA)
  (hs:PySem.W.findIn K (.ref C) "__setattr__" = some (some (.builtin "object.__setattr__"))) (hp:PySem.W.plainOver K C = true) (ht:PySem.W.takerIn K C name = some none) (hh:PySem.W.hasDictIn K C = true)
  (hw:PySem.Within mA ns) (hsz:ns.length <= sizeLine)
  (h:∀ h',ObjM h' x dx C (fun y=>if y = name then some v else mA y)->Heap.SameBut dx s.heap h'->Q () { s with heap:=h',toks:=s.toks + 2 }) :
  wpAny (model prog w) A (setAttr (.ref x) name v) Q E s:=by
 obtain ⟨od,J,hl⟩:=I.look
 refine PySem.W.set_plain X J hs (PySem.W.osa_open (s:={ s with toks:=s.toks + 1 }) (r:=none) X J hp ht fun b=>?_)
 obtain ⟨cd,hc,hd'⟩:=PySem.W.any_some hh
 have hx:s.heap.get? x = some ⟨.ref C,some dx,.plain,#[]⟩:=I.obj
 refine wpAny_bind (wpAny_pure (wpAny_bind (wpAny_bind (wpAny_loadPart hx (wpAny_bind (PySem.W.Looks.here (s:={ s with toks:=s.toks + 1 }) (PySem.W.looks_clsIn X hc) ?_))))))
 rw [hd']
 refine wpAny_pure (a:=some dx) (wpAny_bind (wpAny_pure (wpAny_bind ?_)))
 refine wpAny_nsSet1 (s:={ s with toks:=s.toks + 1 }) I.ns fun h' hn2 hs2=>?_
 obtain ⟨oD,esD,epD,hoD,hdD,hcD⟩:=hn2.count (PySem.Within.cons name v hw)
 refine wpAny_bind (wpAny_lookBehind hoD (by rw [hdD]; exact pastItsLine_dict (Nat.le_trans hcD (by rw [List.length_cons]; omega))) ?_)
 exact wpAny_pure (h _ ⟨(hs2.2 _ (Ne.symm I.ne)).trans I.obj,hn2,I.ne⟩ hs2)
theorem make_map {R:Result->Shared->Prop} {vs:List Value} {kw:List (Str × Value)} (X:K.In s.heap) (hm:PySem.W.makesIn K C = true)
  (hi:PySem.W.findIn K (.ref C) "__init__" = some (some (.ref f))) (hf:PySem.W.typeIn K (.ref f) = some (.type "function"))
  (h:codeAny (model prog w) (A.under (.builtin "type.__call__" ⟨.ref C :: vs,kw⟩)) (.call (.ref f) ⟨.ref (s.heap.objs.size + 1) :: vs,kw⟩) (PySem.W.InitBack (s.heap.objs.size + 1) R)
   { s with heap:=(s.heap.push PySem.W.emptyDict).push (PySem.W.instObj C s.heap.objs.size) }) :
  codeAny (model prog w) A (.call (.ref C) ⟨vs,kw⟩) R s:=by
 obtain ⟨hh,g,d,t,os⟩:=s
 exact PySem.W.make_core (PySem.W.makes_of X hm) (PySem.W.looks_findIn X hi) (fun self=>PySem.W.bind_fn X self hf) (.inl rfl) h
end
def putF (f:Str) (v:V):List (Str × V)->List (Str × V)
 | []=>[(f,v)]
 | (g,x) :: r=>if g = f then (g,v) :: r else (g,x) :: putF f v r
theorem lookup_putF (f g:Str) (v:V):∀ fs:List (Str × V),(putF f v fs).lookup g = if g = f then some v else fs.lookup g
 | []=>by
  show List.lookup g [(f,v)] = _
  by_cases h:g = f
  ·have hb:(g == f) = true:=beq_iff_eq.mpr h
   simp only [List.lookup,hb,if_pos h]
  ·have hb:(g == f) = false:=beq_eq_false_iff_ne.mpr h
   simp only [List.lookup,hb,if_neg h]
 | (k,x) :: r=>by
  have ih:=lookup_putF f g v r
  rw [show putF f v ((k,x) :: r) = (if k = f then (k,v) :: r else (k,x) :: putF f v r) from rfl]
  by_cases hk:k = f
  ·rw [if_pos hk]
   by_cases h:g = k
   ·have hb:(g == k) = true:=beq_iff_eq.mpr h
    simp only [List.lookup,hb,if_pos (h.trans hk)]
   ·have hb:(g == k) = false:=beq_eq_false_iff_ne.mpr h
    simp only [List.lookup,hb,if_neg (fun e:g = f=>h (e.trans hk.symm))]
  ·rw [if_neg hk]
   by_cases h:g = k
   ·have hb:(g == k) = true:=beq_iff_eq.mpr h
    simp only [List.lookup,hb,if_neg (fun e:g = f=>hk (h.symm.trans e))]
   ·have hb:(g == k) = false:=beq_eq_false_iff_ne.mpr h
    simp only [List.lookup,hb]
    exact ih
theorem keys_putF (f:Str) (v:V):∀ fs:List (Str × V),f ∈ (putF f v fs).map (·.1)/\∀ g,g ∈ fs.map (·.1)->g ∈ (putF f v fs).map (·.1)
 | []=>⟨by simp [putF],fun g h=>by simp at h⟩
 | (k,x) :: r=>by
  obtain ⟨i1,i2⟩:=keys_putF f v r
  rw [show putF f v ((k,x) :: r) = (if k = f then (k,v) :: r else (k,x) :: putF f v r) from rfl]
  by_cases hk:k = f
  ·rw [if_pos hk]
   subst hk
   exact ⟨by simp,fun g h=>by simpa using h⟩
  ·rw [if_neg hk]
   refine ⟨?_,fun g h=>?_⟩
   ·rw [List.map_cons]
    exact List.mem_cons_of_mem _ i1
   ·rw [List.map_cons] at h ⊢
    rcases List.mem_cons.mp h with e | e
    ·exact List.mem_cons.mpr (.inl e)
    ·exact List.mem_cons_of_mem _ (i2 g e)
theorem length_putF (f:Str) (v:V):∀ fs:List (Str × V),(putF f v fs).length <= fs.length + 1
 | []=>by simp [putF]
 | (k,x) :: r=>by
  have ih:=length_putF f v r
  rw [show putF f v ((k,x) :: r) = (if k = f then (k,v) :: r else (k,x) :: putF f v r) from rfl]
  by_cases hk:k = f
  ·rw [if_pos hk,List.length_cons,List.length_cons]; omega
  ·rw [if_neg hk,List.length_cons,List.length_cons]; omega
theorem RelO.some_of {v:V} {o:Option Value} (r:RelO (some v) o):∃ u,o = some u/\RelV v u:=by
 cases o with
 | none=>exact (show False from r).elim
 | some u=>exact ⟨u,rfl,r⟩
theorem RelO.none_of {o:Option Value} (r:RelO none o):o = none:=by
 cases o with
 | none=>rfl
 | some u=>exact (show False from r).elim
theorem handed_of {v:V} {u:Value} (r:RelV v u):PySem.W.handedIn u = true:=by
 cases v with
 | non=>cases (show u = Value.none from r); rfl
 | bl b=>cases (show u = Value.bool b from r); rfl
 | int i=>obtain ⟨t,e⟩:=(show ∃ t,u = Value.int i t from r); cases e; rfl
 | str x=>obtain ⟨t,e⟩:=(show ∃ t,u = Value.str x t from r); cases e; rfl
 | byt b=>obtain ⟨t,e⟩:=(show ∃ t,u = Value.bytes b t from r); cases e; rfl
 | flt b=>obtain ⟨t,e⟩:=(show ∃ t,u = Value.float b t from r); cases e; rfl
 | ref a=>cases (show u = Value.ref a from r); rfl
 | ty n=>cases (show u = Value.type n from r); rfl
section
variable {P:Program} {w:World} {H H':Hp} {h h':Heap} {a C dx:Addr} {fs fs':List (Str × V)}
theorem ins_get (hok:HOk P w H h) (e:H a = some (.ins C dx fs)):∃ mA,ObjM h a dx C mA/\(∀ f,RelO (fs.lookup f) (mA f))/\PySem.Within mA (fs.map (·.1))/\fs.length <= 1000/\H dx = some (.own a):=by
 obtain ⟨d,z,ne,ob,mA,n,r,q⟩:=(show ObjOk P w H h a (.ins C dx fs) from hok a _ e)
 exact ⟨mA,⟨ob,n,ne⟩,r,q,z,d⟩
end
structure Cls (K:PySem.W.Frag) (C:Addr):Prop where
 pg:PySem.W.plainGet K C Str.empty = true
 hd:PySem.W.hasDictIn K C = true
 po:PySem.W.plainOver K C = true
 sa:PySem.W.findIn K (.ref C) "__setattr__" = some (some (.builtin "object.__setattr__"))
theorem Cls.get {K:PySem.W.Frag} {C:Addr} (c:Cls K C) (f:Str):PySem.W.plainGet K C f = true:=c.pg
def NoAttr (K:PySem.W.Frag) (C:Addr) (f:Str):Prop:=PySem.W.findIn K (.ref C) f = some none
theorem NoAttr.taker {K:PySem.W.Frag} {C:Addr} {f:Str} (n:NoAttr K C f):PySem.W.takerIn K C f = some none:=by
 unfold PySem.W.takerIn
 rw [show PySem.W.findIn K (.ref C) f = some none from n]
 rfl
structure Con (K:PySem.W.Frag) (C:Addr) (f:Str) (v:V) (u:Value):Prop where
 at_:PySem.W.findIn K (.ref C) f = some (some u)
 rel:RelV v u
 get:PySem.W.specialIn K u "__get__" = some none
 cp:PySem.W.copiedNames.contains f = false
structure Meth (K:PySem.W.Frag) (C:Addr) (m:Str) (f:Addr):Prop where
 at_:PySem.W.findIn K (.ref C) m = some (some (.ref f))
 fn:PySem.W.isFn K (.ref f) = true
 kp:PySem.W.keepIn K (.ref f) = true
section
variable {X:Cx} {pins:List (Addr × Obj)} {σ:St} {H:Hp} {s:Shared} {a C dx:Addr} {fs:List (Str × V)} {f:Str} {v:V} {A:Around} {E:Value->Shared->Prop}
theorem getattr_ok {b:Bool} {Q:Value->Shared->Prop} (I:Inv X pins σ H s) (e:H a = some (.ins C dx fs)) (c:Cls X.K C) (n:NoAttr X.K C f) (l:fs.lookup f = some v)
  (h:∀ u s',Inv X pins σ H s'->RelV v u->Q u s'):wpAny (model X.prog X.w) A (getAttr (.ref a) f b) Q E s:=by
 obtain ⟨mA,O,r,_,_,_⟩:=ins_get I.hok e
 obtain ⟨u,hu,ru⟩:=RelO.some_of (v:=v) (o:=mA f) (by rw [<- l]; exact r f)
 exact get_map I.kIn O (c.get f) c.hd n hu (handed_of ru) (h u _ (I.tok _) ru)
theorem getmeth_ok {m:Str} {g:Addr} {pl:Sem Bool} {Q:Value × List Value->Shared->Prop} (I:Inv X pins σ H s) (e:H a = some (.ins C dx fs)) (c:Cls X.K C) (k:Meth X.K C m g) (l:fs.lookup m = none)
  (h:Q (.ref g,[.ref a]) s):wpAny (model X.prog X.w) A (getMethod (.ref a) m pl) Q E s:=by
 obtain ⟨mA,O,r,_,_,_⟩:=ins_get I.hok e
 have hn:mA m = none:=RelO.none_of (by rw [<- l]; exact r m)
 exact get_meth I.kIn O (c.get m) k.at_ k.fn hn h
theorem setattr_ok {y:V} {u:Value} {Q:Unit->Shared->Prop} (I:Inv X pins σ H s) (e:H a = some (.ins C dx fs)) (c:Cls X.K C) (n:NoAttr X.K C f) (hl:fs.length < 1000) (ry:RelV y u)
  (h:∀ s',Inv X pins σ (upd H a (.ins C dx (putF f y fs))) s'->Q () s'):wpAny (model X.prog X.w) A (setAttr (.ref a) f u) Q E s:=by
 obtain ⟨mA,O,r,wi,_,ho⟩:=ins_get I.hok e
 have hz:(fs.map (·.1)).length <= sizeLine:=by rw [List.length_map,sizeLine_eq]; omega
 refine set_map I.kIn O c.sa c.po n.taker c.hd wi hz fun h' O' sb=>h _ ?_
 have hd:∃ o,h'.get? dx = some o:=let ⟨o,_,_,e',_⟩:=O'.ns; ⟨o,e'⟩
 refine I.write (x:=a) (e:=dx) (by rw [e]; exact True.intro) (.inr ho) (fun b q hb z=>(sb.2 b hb).trans z) hd ?_
 refine ⟨by rw [upd_ne O.ne]; exact ho,?_,O.ne,O'.obj,_,O'.ns,fun g=>?_,fun g hg=>?_⟩
 ·have:=length_putF f y fs; omega
 ·show RelO ((putF f y fs).lookup g) (if g = f then some u else mA g)
  rw [lookup_putF]
  by_cases q:g = f
  ·rw [if_pos q,if_pos q]; exact ry
  ·rw [if_neg q,if_neg q]; exact r g
 ·by_cases q:g = f
  ·rw [q]; exact (keys_putF f y fs).1
  ·refine (keys_putF f y fs).2 g (wi g fun z=>hg ?_)
   show (if g = f then some u else mA g) = none
   rw [if_neg q]; exact z
theorem Inv.made (I:Inv X pins σ H s):Inv X pins σ (upd (upd H s.heap.objs.size (.own (s.heap.objs.size + 1))) (s.heap.objs.size + 1) (.ins C s.heap.objs.size []))
  { s with heap:=(s.heap.push PySem.W.emptyDict).push (PySem.W.instObj C s.heap.objs.size) }:=by
 have e1:(s.heap.push PySem.W.emptyDict).get? s.heap.objs.size = some PySem.W.emptyDict:=Heap.get?_push_size s.heap rfl
 have e2:((s.heap.push PySem.W.emptyDict).push (PySem.W.instObj C s.heap.objs.size)).get? (s.heap.objs.size + 1) = some (PySem.W.instObj C s.heap.objs.size):=by
  have:=Heap.get?_push_size (s.heap.push PySem.W.emptyDict) (o:=PySem.W.instObj C s.heap.objs.size) rfl
  rwa [Heap.size_push] at this
 have e3:(s.heap.push PySem.W.emptyDict).Ns s.heap.objs.size (fun _=>none):=⟨PySem.W.emptyDict,#[],_,e1,rfl,(fun e he=>absurd he (by simp)),fun _=>rfl⟩
 have I1:=I.laid (a:=s.heap.objs.size) (o:=.own (s.heap.objs.size + 1)) (h':=s.heap.push PySem.W.emptyDict) (t':=s.toks) (fun b u q=>Heap.get?_push_of_some _ q) (Nat.le_refl _) ⟨_,e1⟩
 refine I1.laid (a:=s.heap.objs.size + 1) (o:=.ins C s.heap.objs.size []) (t':=s.toks) (fun b u q=>Heap.get?_push_of_some _ q) (Nat.le_of_eq (Heap.size_push _ _)) ?_
 have ne:s.heap.objs.size ≠ s.heap.objs.size + 1:=Nat.ne_of_lt (Nat.lt_succ_self _)
 refine ⟨by rw [upd_ne ne,upd_same],Nat.zero_le _,ne,e2,fun _=>none,(Heap.Ns1.of_empty e3).at fun o q=>Heap.get?_push_of_some _ q,fun _=>True.intro,fun y hy=>absurd rfl hy⟩
theorem attr_of {prog:Program} {w:World} {env:Env} {e:Expr} {f:Str} {pos:Pos} {s:Shared} {Q:Value->Shared->Prop} (hb:attributeBase e f env (eval e env) = eval e env)
  (h:wpAny (model prog w) A (eval e env) (fun o s₁=>wpAny (model prog w) A (getAttr o f true) Q E s₁) E s):wpAny (model prog w) A (eval (.Attribute e f pos) env) Q E s :=
 Attribute_any_ h (by rw [arm_eval_Attribute,hb])
end
def tFld (K:PySem.W.Frag) (ta:TE) (f:Str):TE:=fun σ H Q=>ta σ H fun x H1=>∃ a C dx fs v,x = .ref a/\H1 a = some (.ins C dx fs)/\Cls K C/\NoAttr K C f/\fs.lookup f = some v/\Q v H1
def sFld (K:PySem.W.Frag) (ta tv:TE) (f:Str):TS:=fun D σ H=>tv σ H fun y H1=>ta σ H1 fun x H2=>∃ a C dx fs,x = .ref a/\H2 a = some (.ins C dx fs)/\Cls K C/\NoAttr K C f/\fs.length < 1000 /\
 D.nx σ (upd H2 a (.ins C dx (putF f y fs)))
section
variable {X:Cx} {o e value:Expr} {f:Str} {pos pos' tpos:Pos} {ta tv:TE}
theorem pe_fld (he:PE X e ta) (hb:attributeBase e f X.env (eval e X.env) = eval e X.env):PE X (.Attribute e f pos) (tFld X.K ta f):=by
 intro pins s σ H Q I h
 refine attr_of hb (thn (he pins s σ H _ I h) fun u s1 ⟨x,H1,I1,rx,a,C,dx,fs,v,ex,ea,c,n,l,q⟩=>?_)
 subst ex
 obtain rfl:u = Value.ref a:=rx
 exact getattr_ok I1 ea c n l fun u' s2 I2 ru=>⟨v,H1,I2,ru,q⟩
theorem ps_fld (ha:PE X o ta) (hv:PE X value tv) (hs:swapsWith value (some (.Attribute o f pos')) pos.line X.env = pure false):PS X (.Assign [.Attribute o f pos'] value pos) (sFld X.K ta tv f):=by
 intro pins s σ H D I h
 refine plainObj_wpAny_Assign_Attribute (thn (hv pins s σ H _ I h) fun u s1 ⟨y,H1,I1,ry,q⟩=>thn (ha pins s1 σ H1 _ I1 q) fun ov s2 ⟨x,H2,I2,rx,a,C,dx,fs,ex,ea,c,n,l,q2⟩=>?_) hs
 subst ex
 obtain rfl:ov = Value.ref a:=rx
 exact setattr_ok I2 ea c n l ry fun s3 I3=>⟨σ,_,I3,q2⟩
theorem methcall_of {pl:Sem Bool} {m:Str} {apos:Pos} {args:List Expr} {pins:List (Addr × Obj)} {s:Shared} {σ:St} {H:Hp} {Q:Value->Shared->Prop} {te:TE} (he:PE X e te) (I:Inv X pins σ H s)
  (h:te σ H fun x H1=>∃ a C dx fs g,x = .ref a/\H1 a = some (.ins C dx fs)/\Cls X.K C/\Meth X.K C m g/\fs.lookup m = none /\
   ∀ s1,Inv X pins σ H1 s1->wpAny (model X.prog X.w) X.A (callWith pos (.ref g) [.ref a] (backTo pos (starEach args X.env)) (backToKw pos (keywordEach [] X.env))) Q X.xe s1)
  (ht:eval (.Call (.Attribute e m apos) args [] pos) X.env = (do
   let ov <- eval e X.env
   standAt apos.atName
   let (f,first) <- holding [ov] (getMethod ov m pl)
   callWith pos f first (backTo pos (starEach args X.env)) (backToKw pos (keywordEach [] X.env)))) :
  wpAny (model X.prog X.w) X.A (eval (.Call (.Attribute e m apos) args [] pos) X.env) Q X.xe s:=by
 refine PySem.W.methodCall_KW (pl:=pl) (thn (he pins s σ H _ I h) fun u s1 ⟨x,H1,I1,rx,a,C,dx,fs,g,ex,ea,c,k,l,q⟩=>?_) ht
 subst ex
 obtain rfl:u = Value.ref a:=rx
 exact getmeth_ok I1 ea c k l (q s1 I1)
end
section
variable {X:Cx} {pins:List (Addr × Obj)} {σ:St} {H:Hp} {s:Shared} {A:Around} {E:Value->Shared->Prop} {Q:Value->Shared->Prop} {c:Value} {b:Bool}
inductive TyOf (K:PySem.W.Frag) (H:Hp):V->Value->Prop where
 | non:TyOf K H .non (.type "NoneType")
 | bl (x:Bool):TyOf K H (.bl x) (.type "bool")
 | int (i:Int):TyOf K H (.int i) (.type "int")
 | str (x:Str):TyOf K H (.str x) (.type "str")
 | flt (x:UInt64):TyOf K H (.flt x) (.type "float")
 | lst {a:Addr} {xs:List V} (e:H a = some (.lst xs)):TyOf K H (.ref a) (.type "list")
 | frz {a:Addr} {o:Obj} {xs:List V} (e:H a = some (.frz o (.lst xs))):TyOf K H (.ref a) (.type "list")
 | tup {a:Addr} {xs:List V} (e:H a = some (.tup xs)):TyOf K H (.ref a) (.type "tuple")
 | dK {a:Addr} {kvs:List (Key × V)} (e:H a = some (.dK kvs)):TyOf K H (.ref a) (.type "dict")
 | dT {a:Addr} {kvs:List (TK × V)} (e:H a = some (.dT kvs)):TyOf K H (.ref a) (.type "dict")
 | ins {a C dx:Addr} {fs:List (Str × V)} (e:H a = some (.ins C dx fs)) (cl:Cls K C) (ha:PySem.W.findIn K (.ref C) "__class__" = some (some (.builtin "object.__class__")))
   (hn:PySem.W.specialIn K (.builtin "object.__class__") "__get__" = some (some (.builtin "getset_descriptor.__get__"))) (htk:PySem.W.takesIn K (.builtin "object.__class__") = some true)
   (hm:PySem.W.mroIn K C (.type "object") = some true):TyOf K H (.ref a) (.ref C)
theorem isinst_ok {x:V} {u t:Value} (I:Inv X pins σ H s) (rx:RelV x u) (ty:TyOf X.K H x t) (e:PySem.W.kitOne X.K t c = some b) (h:∀ tk,Q (.bool b) { s with toks:=tk }) :
  wpAny (model X.prog X.w) A (call (.builtin "isinstance") [u,c]) Q E s:=by
 cases ty with
 | non=>cases (show u = Value.none from rx); exact PySem.W.kia_one PySem.W.kitx_none I.kIn True.intro e (fun z=>nomatch z) h
 | bl y=>cases (show u = Value.bool y from rx); exact PySem.W.kia_one PySem.W.kitx_bool I.kIn True.intro e (fun z=>nomatch z) h
 | int i=>obtain ⟨t,q⟩:=(show ∃ t,u = Value.int i t from rx); cases q; exact PySem.W.kia_one PySem.W.kitx_int I.kIn True.intro e (fun z=>nomatch z) h
 | str y=>obtain ⟨t,q⟩:=(show ∃ t,u = Value.str y t from rx); cases q; exact PySem.W.kia_one PySem.W.kitx_str I.kIn True.intro e (fun z=>nomatch z) h
 | flt y=>obtain ⟨t,q⟩:=(show ∃ t,u = Value.float y t from rx); cases q; exact PySem.W.kia_one PySem.W.kitx_float I.kIn True.intro e (fun z=>nomatch z) h
 | @lst a xs ea =>
  cases (show u = Value.ref a from rx)
  obtain ⟨_,_,n,_,h1⟩:=(show ObjOk X.prog X.w H s.heap a (.lst xs) from I.hok a _ ea)
  exact PySem.W.kia_one PySem.W.kitx_list I.kIn ⟨_,h1,rfl⟩ e (fun z=>nomatch z) h
 | @frz a ob xs ea =>
  cases (show u = Value.ref a from rx)
  obtain ⟨_,_,_,n,_,h1⟩:=(show ObjOk X.prog X.w H s.heap a (.frz ob (.lst xs)) from I.hok a _ ea)
  exact PySem.W.kia_one PySem.W.kitx_list I.kIn ⟨_,h1,rfl⟩ e (fun z=>nomatch z) h
 | @tup a xs ea =>
  cases (show u = Value.ref a from rx)
  obtain ⟨_,_,_,p⟩:=(show ObjOk X.prog X.w H s.heap a (.tup xs) from I.hok a _ ea)
  obtain ⟨o,h1,h2,_⟩:=p
  exact PySem.W.kia_one PySem.W.kitx_tuple I.kIn ⟨o,h1,h2⟩ e (fun z=>nomatch z) h
 | @dK a kvs ea =>
  cases (show u = Value.ref a from rx)
  obtain ⟨_,_,vs,_,p⟩:=(show ObjOk X.prog X.w H s.heap a (.dK kvs) from I.hok a _ ea)
  obtain ⟨o,es,ep,h1,h2,_⟩:=p
  exact PySem.W.kia_one PySem.W.kitx_dict I.kIn ⟨o,h1,h2.1⟩ e (fun z=>nomatch z) h
 | @dT a kvs ea =>
  cases (show u = Value.ref a from rx)
  obtain ⟨_,_,xs,_,o,es,ep,h1,h2,_⟩:=(show ObjOk X.prog X.w H s.heap a (.dT kvs) from I.hok a _ ea)
  exact PySem.W.kia_one PySem.W.kitx_dict I.kIn ⟨o,h1,h2.1⟩ e (fun z=>nomatch z) h
 | @ins a C dx fs ea cl ha hn htk hm =>
  cases (show u = Value.ref a from rx)
  obtain ⟨mA,O,_⟩:=ins_get I.hok ea
  obtain ⟨od,J,_⟩:=O.look
  exact PySem.W.kia_one (PySem.W.kitx_own (cl.get _) cl.hd ha hn htk hm) I.kIn J e (fun z=>nomatch z) h
end
end L2
namespace L2
open PySem PySem.Spec PyProof.Rows
structure Room (k:Nat) (A:Around):Prop where
 hd:A.handled = none
 dp:A.depth + 3 * k + 5 < recursionLimit
 un:A.units + 16 * k + 200 < cLine
theorem Room.mono {j k:Nat} {A:Around} (r:Room k A) (h:j <= k):Room j A:=⟨r.hd,by have:=r.dp; omega,by have:=r.un; omega⟩
theorem Room.deeper {k:Nat} {A:Around} (r:Room (k + 1) A) (env:Env):Room k (A.deeper env) :=
 ⟨r.hd,by have:=r.dp; show A.depth + 1 + 3 * k + 5 < _; omega,by have:=r.un; show A.units + 3 + 16 * k + 200 < _; omega⟩
theorem make_depth {A:Around} {C:Addr} {us:List Value} {kw:List (Str × Value)}:(A.under (.builtin "type.__call__" ⟨.ref C :: us,kw⟩)).depth = A.depth + 1:=by
 first | rfl | simp [Around.under,Code.weight,Code.isCreation,Code.isGuard,Code.isCaller,Code.frames,Code.isFrame,guardIds]
theorem make_units {A:Around} {C:Addr} {us:List Value} {kw:List (Str × Value)}:(A.under (.builtin "type.__call__" ⟨.ref C :: us,kw⟩)).units = A.units + 1:=by
 first | rfl | simp [Around.under,Code.cUnits,Code.frames,Code.isFrame]
theorem Room.make {k:Nat} {A:Around} (r:Room (k + 1) A) (C:Addr) (us:List Value) (kw:List (Str × Value)):Room k (A.under (.builtin "type.__call__" ⟨.ref C :: us,kw⟩)) :=
 ⟨r.hd,by have:=r.dp; rw [make_depth]; omega,by have:=r.un; rw [make_units]; omega⟩
theorem Room.depth {k:Nat} {A:Around} (r:Room k A):A.depth < recursionLimit:=by have:=r.dp; omega
theorem Room.units {k:Nat} {A:Around} (r:Room k A):A.units + 64 < cLine:=by have:=r.un; omega
def tNil:TA:=fun _ H Q=>Q [] H
def tCons (ta:TE) (tr:TA):TA:=fun σ H Q=>ta σ H fun x H1=>tr σ H1 fun xs H2=>Q (x :: xs) H2
section
variable {X:Cx} {e:Expr} {es:List Expr} {te:TE} {t:TA} {pos:Pos}
theorem pa_nil:PA X [] tNil:=fun _ _ _ _ H Q I h=>Calls.spliced_nil ⟨[],H,I,.nil,h⟩
theorem pa_cons (ha:PE X e te) (hr:PA X es t) (hs:starEach (e :: es) X.env = (false,eval e X.env) :: starEach es X.env:=by rfl):PA X (e :: es) (tCons te t):=by
 intro pos pins s σ H Q I h
 rw [hs]
 show wpAny _ _ (spliced ((false,eval e X.env) :: backTo pos (starEach es X.env))) _ _ s
 refine Calls.spliced_cons (thn (ha pins s σ H _ I h) fun u s1 ⟨x,H1,I1,r1,q1⟩=>?_)
 exact thn (hr pos pins s1 σ H1 _ I1 q1) fun us s2 ⟨xs,H2,I2,r2,q2⟩=>⟨x :: xs,H2,I2,.cons r1 r2,q2⟩
def tTup (t:TA):TE:=fun σ H Q=>t σ H fun xs H1=>xs.length <= sizeLine/\∀ p,H1 p = none->Q (.ref p) (upd H1 p (.tup xs))
def tLst (t:TA):TE:=fun σ H Q=>t σ H fun xs H1=>xs.length <= sizeLine/\∀ p,H1 p = none->Q (.ref p) (upd H1 p (.lst xs))
theorem pe_tup {x1} (h:PA X es t):PE X (.Tuple es x1 pos) (tTup t):=by
 intro pins s σ H Q I hq
 refine wpAny_Tuple_spliced (thn (h pos pins s σ H _ I hq) fun us s1 ⟨xs,H1,I1,r,z,q⟩=>⟨by rw [<- r.length]; exact z,?_⟩)
 have hf:H1 s1.heap.objs.size = none:=I1.hok.fresh (Nat.le_refl _)
 refine ⟨.ref s1.heap.objs.size,upd H1 s1.heap.objs.size (.tup xs),I1.laid (t':=s1.toks) (fun b u e=>Heap.get?_push_of_some _ e) (Nat.le_refl _) ?_,rfl,q _ hf⟩
 exact ⟨z,us,r,⟨_,Heap.get?_push_size _ rfl,rfl,_,rfl⟩⟩
theorem pe_lst (h:PA X es t):PE X (.List es pos) (tLst t):=by
 intro pins s σ H Q I hq
 refine wpAny_List_spliced (thn (h pos pins s σ H _ I hq) fun us s1 ⟨xs,H1,I1,r,z,q⟩=>⟨by rw [<- r.length]; exact z,?_⟩)
 have hf:H1 s1.heap.objs.size = none:=I1.hok.fresh (Nat.le_refl _)
 refine ⟨.ref s1.heap.objs.size,upd H1 s1.heap.objs.size (.lst xs),I1.laid (t':=s1.toks) (fun b u e=>Heap.get?_push_of_some _ e) (Nat.le_refl _) ?_,rfl,q _ hf⟩
 exact ⟨z,us,0,r,Heap.get?_push_size _ rfl⟩
end
abbrev Sp:=List V->Hp->VK->XK->Prop
abbrev CXT:=List Env->Hp->Shared->XK->Value->Shared->Prop
structure Env0 (P:Program) (w:World) (K:PySem.W.Frag) (mg:Str->Option Value) (base:Heap) (A:Around) (outer:List Env) (s:Shared) (H:Hp):Prop where
 frames:A.frames = some outer
 mod:Mod K mg base
 bs:∀ b o,base.get? b = some o->s.heap.get? b = some o/\H b = none
 bsz:base.objs.size <= s.heap.objs.size
 funs:s.heap.FunFrames base outer
 frf:∀ b ∈ frs outer,H b = none
 hok:HOk P w H s.heap
 bare:AllBare s.gens
def CE (outer:List Env) (P:Program) (w:World) (H:Hp) (s:Shared) (Q:VK) (u:Value) (s':Shared):Prop :=
 ∃ v H',s'.os = s.os/\AllBare s'.gens/\Un (frs outer) [] H H' s.heap s'.heap/\HOk P w H' s'.heap/\RelV v u/\Q v H'
def CR (CX:CXT) (outer:List Env) (P:Program) (w:World) (H:Hp) (s:Shared) (Q:VK) (E:XK) (r:Result) (s':Shared):Prop :=
 match r with
 | .ok (.ret u)=>CE outer P w H s Q u s'
 | .ok _=>False
 | .error e=>CX outer H s E e s'
structure FnOk (P:Program) (w:World) (K:PySem.W.Frag) (mg:Str->Option Value) (base:Heap) (CX:CXT) (k:Nat) (f:Addr) (fd:FuncData) (ps:List Str) (sp:Sp):Prop where
 len:∀ vs H Q E,sp vs H Q E->vs.length = ps.length
 run:∀ (A:Around) (outer:List Env) (s:Shared) (H:Hp) (args:Args) (us:List Value) (vs:List V) (Q:VK) (E:XK),Room k A->Env0 P w K mg base A outer s H->BindsTo s fd args (ps.zip us)->Vals vs us->sp vs H Q E ->
  codeAny (model P w) A (.call (.ref f) args) (CR CX outer P w H s Q E) s
theorem Env0.make {P:Program} {w:World} {K:PySem.W.Frag} {mg:Str->Option Value} {base:Heap} {A:Around} {outer:List Env} {s:Shared} {H:Hp} (e:Env0 P w K mg base A outer s H) (C:Addr) (us:List Value) (kw:List (Str × Value)) :
  Env0 P w K mg base (A.under (.builtin "type.__call__" ⟨.ref C :: us,kw⟩)) outer s H:=⟨by first | exact e.frames | (simpa [Around.under,Code.envs,Code.isFrame,pushEnvs] using e.frames),e.mod,e.bs,e.bsz,e.funs,e.frf,e.hok,e.bare⟩
section
variable {X:Cx} {pins:List (Addr × Obj)} {σ:St} {H:Hp} {s s':Shared}
theorem Inv.env0 (I:Inv X pins σ H s):Env0 X.prog X.w X.K X.mg X.base X.A X.stack s H :=
 ⟨I.ok.frames,I.ok.mod,I.bs,Nat.le_trans I.ok.bsz I.sz,I.stack,I.stkFree,I.hok,I.bare⟩
theorem Inv.after {Q:VK} {u:Value} (I:Inv X pins σ H s) (h:CE X.stack X.prog X.w H s Q u s'):EP X pins σ Q u s':=by
 obtain ⟨v,H',os,bare,un,hok,r,q⟩:=h
 obtain ⟨hh,g,d,t,os'⟩:=s'
 obtain rfl:os' = s.os:=os
 exact ⟨v,H',I.call (h':=hh) (g':=g) (d':=d) (t':=t) (ch:=[]) un hok bare (fun b z=>absurd z (by simp)),r,q⟩
end
def tCall (sp:Sp) (dvs:List V) (E:XK) (t:TA):TE:=fun σ H Q=>t σ H fun vs H1=>sp (vs ++ dvs) H1 Q E
def tMeth (C:Addr) (m:Str) (sp:Sp) (dvs:List V) (E:XK) (ta:TE) (t:TA):TE:=fun σ H Q=>ta σ H fun x H1=>∃ a dx fs,x = .ref a/\H1 a = some (.ins C dx fs)/\fs.lookup m = none /\
 t σ H1 fun vs H2=>sp (x :: (vs ++ dvs)) H2 Q E
def tMake (C:Addr) (sp:Sp) (dvs:List V) (E:XK) (t:TA):TE:=fun σ H Q=>t σ H fun vs H1=>∀ x dx,H1 x = none->H1 dx = none->dx ≠ x ->
 sp (.ref x :: (vs ++ dvs)) (upd (upd H1 dx (.own x)) x (.ins C dx [])) (fun v H2=>v = .non/\Q (.ref x) H2) E
def Binds (K:PySem.W.Frag) (fd:FuncData) (ps:List Str) (ds:List Value):Prop :=
 ∀ (s:Shared) (us:List Value),K.In s.heap->(us ++ ds).length = ps.length->BindsTo s fd ⟨us,[]⟩ (ps.zip (us ++ ds))
theorem Binds.all {K:PySem.W.Frag} {fd:FuncData} {ps:List Str} (h:∀ us:List Value,us.length = ps.length->bindArgs fd ⟨us,[]⟩ = pure (ps.zip us)):Binds K fd ps []:=fun s us _ hl=>by
 rw [List.append_nil] at hl ⊢
 exact .of_eq (h us hl)
def Passes (CX:CXT) (X:Cx) (E:XK):Prop:=∀ (pins:List (Addr × Obj)) (σ:St) (H:Hp) (s:Shared) (e:Value) (s':Shared),Inv X pins σ H s->CX X.stack H s E e s'->X.xe e s'
section
variable {X:Cx} {CX:CXT} {k:Nat} {f C:Addr} {fd:FuncData} {ps:List Str} {sp:Sp} {dvs:List V} {ds:List Value} {E:XK} {x m:Str} {p pos apos:Pos} {e o:Expr} {es:List Expr} {ta:TE} {t:TA}
theorem run_fn {pins:List (Addr × Obj)} {σ:St} {H:Hp} {s:Shared} {Q:VK} {us:List Value} {vs:List V} (F:FnOk X.prog X.w X.K X.mg X.base CX k f fd ps sp) (hr:Room k X.A) (hb:Binds X.K fd ps ds) (hd:Vals dvs ds) (hx:Passes CX X E)
  (I:Inv X pins σ H s) (r:Vals vs us) (h:sp (vs ++ dvs) H Q E):wpAny (model X.prog X.w) X.A (call (.ref f) us) (EP X pins σ Q) X.xe s:=by
 have r2:Vals (vs ++ dvs) (us ++ ds):=r.append hd
 have hl:(us ++ ds).length = ps.length:=by rw [<- r2.length]; exact F.len _ _ _ _ h
 refine wpAny_call (codeAny_mono (F.run X.A X.stack s H ⟨us,[]⟩ (us ++ ds) (vs ++ dvs) Q E hr I.env0 (hb s us I.kIn hl) r2 h) fun r s' hq=>?_)
 cases r with
 | error e=>exact hx pins σ H s e s' I hq
 | ok fl =>
  cases fl with
  | ret u=>exact I.after hq
  | next=>exact False.elim hq
  | brk=>exact False.elim hq
  | cont=>exact False.elim hq
theorem pe_call (F:FnOk X.prog X.w X.K X.mg X.base CX k f fd ps sp) (hr:Room k X.A) (hg:Gl X x) (hm:X.mg x = some (.ref f)) (hk:PySem.W.keepIn X.K (.ref f) = true) (hb:Binds X.K fd ps ds) (hd:Vals dvs ds) (hx:Passes CX X E)
  (ha:PA X (e :: es) t) (hdb:(x == ("__debug__":Str)) = false:=by decide) (he:starEach (e :: es) X.env = (false,eval e X.env) :: starEach es X.env:=by rfl) (hpl:(backTo pos (starEach es X.env)).any (·.1) = false:=by rfl) :
  PE X (.Call (.Name x p) (e :: es) [] pos) (tCall sp dvs E t):=by
 intro pins s σ H Q I h
 refine wpAny_Call_Name_kw (ld_glob I hg hm ?_ hdb)
 refine PySem.W.callWith_K (h₀:=X.base) I.ok.mod.kin hk (thn (ha pos pins s σ H _ I h) fun us s1 ⟨vs,H1,I1,r,q⟩=>⟨I1.kIn,?_⟩) he hpl
 exact run_fn F hr hb hd hx I1 r q
theorem pe_meth {pl:Sem Bool} (he:PE X o ta) (c:Cls X.K C) (hm:Meth X.K C m f) (F:FnOk X.prog X.w X.K X.mg X.base CX k f fd ps sp) (hr:Room k X.A) (hb:Binds X.K fd ps ds) (hd:Vals dvs ds) (hx:Passes CX X E) (ha:PA X (e :: es) t)
  (hst:starEach (e :: es) X.env = (false,eval e X.env) :: starEach es X.env:=by rfl) (hpl:(backTo pos (starEach es X.env)).any (·.1) = false:=by rfl)
  (ht:eval (.Call (.Attribute o m apos) (e :: es) [] pos) X.env = (do
   let ov <- eval o X.env
   standAt apos.atName
   let (f,first) <- holding [ov] (getMethod ov m pl)
   callWith pos f first (backTo pos (starEach (e :: es) X.env)) (backToKw pos (keywordEach [] X.env))):=by rfl) :
  PE X (.Call (.Attribute o m apos) (e :: es) [] pos) (tMeth C m sp dvs E ta t):=by
 intro pins s σ H Q I h
 refine PySem.W.methodCall_KW (pl:=pl) (thn (he pins s σ H _ I h) fun u s1 ⟨x,H1,I1,rx,a,dx,fs,ex,ea,l,q⟩=>?_) ht
 subst ex
 obtain rfl:u = Value.ref a:=rx
 refine getmeth_ok I1 ea c hm l ?_
 refine PySem.W.callWith_K (first:=[.ref a]) (h₀:=X.base) I.ok.mod.kin hm.kp (thn (ha pos pins s1 σ H1 _ I1 q) fun us s2 ⟨vs,H2,I2,r,q2⟩=>⟨I2.kIn,?_⟩) hst hpl
 exact run_fn (us:=.ref a :: us) (vs:=.ref a :: vs) F hr hb hd hx I2 (.cons rfl r) q2
theorem pe_meth0 {pl:Sem Bool} (he:PE X o ta) (c:Cls X.K C) (hm:Meth X.K C m f) (F:FnOk X.prog X.w X.K X.mg X.base CX k f fd ps sp) (hr:Room k X.A) (hb:Binds X.K fd ps ds) (hd:Vals dvs ds) (hx:Passes CX X E)
  (ht:eval (.Call (.Attribute o m apos) [] [] pos) X.env = (do
   let ov <- eval o X.env
   standAt apos.atName
   let (f,first) <- holding [ov] (getMethod ov m pl)
   callWith pos f first (backTo pos (starEach [] X.env)) (backToKw pos (keywordEach [] X.env))):=by rfl) :
  PE X (.Call (.Attribute o m apos) [] [] pos) (tMeth C m sp dvs E ta tNil):=by
 intro pins s σ H Q I h
 refine PySem.W.methodCall_KW (pl:=pl) (thn (he pins s σ H _ I h) fun u s1 ⟨x,H1,I1,rx,a,dx,fs,ex,ea,l,q⟩=>?_) ht
 subst ex
 obtain rfl:u = Value.ref a:=rx
 refine getmeth_ok I1 ea c hm l ?_
 exact PySem.W.callWith_K0 (first:=[.ref a]) I1.kIn hm.kp (run_fn (us:=[.ref a]) (vs:=[.ref a]) F hr hb hd hx I1 (.cons rfl .nil) q)
structure Mk (K:PySem.W.Frag) (C f:Addr):Prop where
 makes:PySem.W.makesIn K C = true
 init:PySem.W.findIn K (.ref C) "__init__" = some (some (.ref f))
 fn:PySem.W.isFn K (.ref f) = true
 kp:PySem.W.keepIn K (.ref C) = true
theorem run_make {pins:List (Addr × Obj)} {σ:St} {H:Hp} {s:Shared} {Q:VK} {us:List Value} {vs:List V} (M:Mk X.K C f) (F:FnOk X.prog X.w X.K X.mg X.base CX k f fd ps sp) (hr:Room (k + 1) X.A) (hb:Binds X.K fd ps ds) (hd:Vals dvs ds)
  (hx:Passes CX X E) (I:Inv X pins σ H s) (r:Vals vs us)
  (h:∀ x dx,H x = none->H dx = none->dx ≠ x->sp (.ref x :: (vs ++ dvs)) (upd (upd H dx (.own x)) x (.ins C dx [])) (fun v H2=>v = .non/\Q (.ref x) H2) E) :
  wpAny (model X.prog X.w) X.A (call (.ref C) us) (EP X pins σ Q) X.xe s:=by
 have hq:=h (s.heap.objs.size + 1) s.heap.objs.size (I.hok.fresh (Nat.le_succ _)) (I.hok.fresh (Nat.le_refl _)) (Nat.ne_of_lt (Nat.lt_succ_self _))
 have I2:=Inv.made (C:=C) I
 have r2:Vals (V.ref (s.heap.objs.size + 1) :: (vs ++ dvs)) (Value.ref (s.heap.objs.size + 1) :: (us ++ ds)):=.cons rfl (r.append hd)
 have hl:(Value.ref (s.heap.objs.size + 1) :: us ++ ds).length = ps.length:=by
  have e:=r2.length
  rw [F.len _ _ _ _ hq] at e
  exact e.symm
 refine wpAny_call (make_map (f:=f) I.kIn M.makes M.init (beq_iff_eq.mp M.fn) (codeAny_mono (F.run _ X.stack _ _ ⟨Value.ref (s.heap.objs.size + 1) :: us,[]⟩ (Value.ref (s.heap.objs.size + 1) :: (us ++ ds)) _ _ E (hr.make C us [])
  (I2.env0.make C us []) (hb _ (Value.ref (s.heap.objs.size + 1) :: us) I2.kIn hl) r2 hq) fun r s' hq'=>?_))
 cases r with
 | error e=>exact hx pins σ _ _ e s' I2 hq'
 | ok fl =>
  cases fl with
  | ret u =>
   obtain ⟨v,H',I3,rv,ev,q3⟩:=I2.after hq'
   subst ev
   exact ⟨rv,⟨V.ref (s.heap.objs.size + 1),H',I3,rfl,q3⟩⟩
  | next=>exact False.elim hq'
  | brk=>exact False.elim hq'
  | cont=>exact False.elim hq'
theorem pe_make (M:Mk X.K C f) (F:FnOk X.prog X.w X.K X.mg X.base CX k f fd ps sp) (hr:Room (k + 1) X.A) (hg:Gl X x) (hm:X.mg x = some (.ref C)) (hb:Binds X.K fd ps ds) (hd:Vals dvs ds) (hx:Passes CX X E)
  (ha:PA X (e :: es) t) (hdb:(x == ("__debug__":Str)) = false:=by decide) (he:starEach (e :: es) X.env = (false,eval e X.env) :: starEach es X.env:=by rfl) (hpl:(backTo pos (starEach es X.env)).any (·.1) = false:=by rfl) :
  PE X (.Call (.Name x p) (e :: es) [] pos) (tMake C sp dvs E t):=by
 intro pins s σ H Q I h
 refine wpAny_Call_Name_kw (ld_glob I hg hm ?_ hdb)
 refine PySem.W.callWith_K (h₀:=X.base) I.ok.mod.kin M.kp (thn (ha pos pins s σ H _ I h) fun us s1 ⟨vs,H1,I1,r,q⟩=>⟨I1.kIn,?_⟩) he hpl
 exact run_make M F hr hb hd hx I1 r q
end
section
variable {X:Cx} {CX:CXT} {k:Nat} {f C:Addr} {fd:FuncData} {ps ks:List Str} {sp:Sp} {E:XK} {x m:Str} {p pos apos kpos:Pos} {e o:Expr} {es:List Expr} {kws:List Keyword} {te ta:TE} {t tk:TA} {nm:Option Str}
structure KBinds (K:PySem.W.Frag) (fd:FuncData) (ps ks:List Str) (g:List Value->List Value->List Value) (gV:List V->List V->List V):Prop where
 to:∀ (s:Shared) (us ws:List Value),K.In s.heap->(g us ws).length = ps.length->BindsTo s fd ⟨us,ks.zip ws⟩ (ps.zip (g us ws))
 rel:∀ {vs:List V} {us:List Value} {zs:List V} {ws:List Value},Vals vs us->Vals zs ws->Vals (gV vs zs) (g us ws)
variable {g:List Value->List Value->List Value} {gV:List V->List V->List V}
end
structure FnScope (N P:List Str) (sc:Scope):Prop where
 kind:sc.kind = .function
 co:sc.isCoroutine = false
 gen:sc.isGenerator = false
 nd:N.Nodup
 pre:N.take P.length = P
 par:∀ x ∈ P,sc.names.lookup x = some .local ∨ sc.names.lookup x = some .cell
 nofree:∀ y ∈ sc.names,y.2 ≠ .free
theorem bindL_out {kindOf:Str->Option NameKind} {x:Str}:∀ {binds:List (Str × Value)} {m:Str->Option Value},(∀ v,(x,v) ∉ binds)->bindL kindOf binds m x = m x
 | [],_,_=>rfl
 | (n,v) :: r,m,h=>by
  unfold bindL
  rw [bindL_out fun w hw=>h w (List.mem_cons_of_mem _ hw)]
  split
  ·have:x ≠ n:=by rintro rfl; exact h v List.mem_cons_self
   simp [this]
  ·rfl
theorem bindC_out {kindOf:Str->Option NameKind} {x:Str}:∀ {binds:List (Str × Value)} {m:Str->Option Value},(∀ v,(x,v) ∉ binds)->bindC kindOf binds m x = m x
 | [],_,_=>rfl
 | (n,v) :: r,m,h=>by
  unfold bindC
  rw [bindC_out fun w hw=>h w (List.mem_cons_of_mem _ hw)]
  split
  ·rfl
  ·have:x ≠ n:=by rintro rfl; exact h v List.mem_cons_self
   simp [this]
theorem bindL_get {kindOf:Str->Option NameKind} {x:Str} {v:Value}:∀ {P:List Str} {vs:List Value} {i:Nat} {m:Str->Option Value},P.Nodup->P[i]? = some x->vs[i]? = some v->kindOf x = some .local ->
  bindL kindOf (P.zip vs) m x = some v
 | [],_,_,_,_,h,_,_=>by simp at h
 | _ :: _,[],_,_,_,_,h,_=>by simp at h
 | p :: P,w :: vs,0,m,nd,h1,h2,hk=>by
  simp at h1 h2; subst h1; subst h2
  show bindL kindOf ((p,w) :: P.zip vs) m p = _
  unfold bindL
  rw [bindL_out fun v hv=>(List.nodup_cons.mp nd).1 (List.of_mem_zip hv).1,if_pos hk]
  simp
 | p :: P,w :: vs,i + 1,m,nd,h1,h2,hk=>by
  show bindL kindOf ((p,w) :: P.zip vs) m x = _
  unfold bindL
  exact bindL_get (i:=i) (List.nodup_cons.mp nd).2 (by simpa using h1) (by simpa using h2) hk
theorem bindC_get {kindOf:Str->Option NameKind} {x:Str} {v:Value}:∀ {P:List Str} {vs:List Value} {i:Nat} {m:Str->Option Value},P.Nodup->P[i]? = some x->vs[i]? = some v->kindOf x ≠ some .local ->
  bindC kindOf (P.zip vs) m x = some v
 | [],_,_,_,_,h,_,_=>by simp at h
 | _ :: _,[],_,_,_,_,h,_=>by simp at h
 | p :: P,w :: vs,0,m,nd,h1,h2,hk=>by
  simp at h1 h2; subst h1; subst h2
  show bindC kindOf ((p,w) :: P.zip vs) m p = _
  unfold bindC
  rw [bindC_out fun v hv=>(List.nodup_cons.mp nd).1 (List.of_mem_zip hv).1,if_neg hk]
  simp
 | p :: P,w :: vs,i + 1,m,nd,h1,h2,hk=>by
  show bindC kindOf ((p,w) :: P.zip vs) m x = _
  unfold bindC
  exact bindC_get (i:=i) (List.nodup_cons.mp nd).2 (by simpa using h1) (by simpa using h2) hk
def start (N:List Str) (vs:List V):St:=vs.map some ++ List.replicate (N.length - vs.length) none
def cxOf (CX:CXT) (P:Program) (w:World) (K:PySem.W.Frag) (mg:Str->Option Value) (base:Heap) (N:List Str) (qual:Str) (scope:Scope) (f:Addr) (cd:Value) (A:Around) (outer:List Env) (s:Shared) (H:Hp) (E:XK):Cx where
 prog:=P
 w:=w
 K:=K
 mg:=mg
 base:=base
 A:=A.deeper (envOfC qual scope s.heap.objs.size f cd)
 N:=N
 s₀:=s
 H₀:=H
 env:=envOfC qual scope s.heap.objs.size f cd
 outer:=outer
 stack:=envOfC qual scope s.heap.objs.size f cd :: outer
 ex:=[]
 calm:=true
 fn:=fun _=>true
 pn:=[]
 xe:=fun e s'=>wpAny (model P w) (A.deeper (envOfC qual scope s.heap.objs.size f cd)) (leaving (envOfC qual scope s.heap.objs.size f cd) e) (fun _ s''=>CX outer H s E e s'') (fun e' s''=>CX outer H s E e' s'') s'
theorem cell_has {sc:Scope} {n:Nat} {x:Str} (h:sc.names.lookup x = some .cell):∃ c,(cellsFrom n sc.names []).lookup x = some c:=by
 have q:=PySem.W.cellsFrom_some sc.names n [] (.inl h)
 exact Option.isSome_iff_exists.mp q
theorem inv_start {CX:CXT} {P:Program} {w:World} {K:PySem.W.Frag} {mg:Str->Option Value} {base:Heap} {N ps:List Str} {qual:Str} {scope:Scope} {f:Addr} {cd:Value} {A:Around} {outer:List Env} {s s1:Shared} {H:Hp} {E:XK} {us:List Value} {vs:List V}
  (S:FnScope N ps scope) (hd:A.handled = none) (e0:Env0 P w K mg base A outer s H) (hl:vs.length = ps.length) (r:Vals vs us)
  (x:InCallC s s.heap.objs.size (bindL (envOfC qual scope s.heap.objs.size f cd).kindOf (ps.zip us) fun _=>none) (cellsFrom (s.heap.objs.size + 1) scope.names []) (bindC (envOfC qual scope s.heap.objs.size f cd).kindOf (ps.zip us) fun _=>none) s1) :
  Inv (cxOf CX P w K mg base N qual scope f cd A outer s H E) [] (start N vs) H s1:=by
 have hpl:ps.length <= N.length:=by have:=congrArg List.length S.pre; rw [List.length_take] at this; omega
 obtain ⟨h1,tk,rfl,hk⟩:=x.done
 have noA:∀ b:Addr,b ∉ (cxOf CX P w K mg base N qual scope f cd A outer s H E).ex:=fun b z=>absurd (show b ∈ ([]:List Addr) from z) (by simp)
 refine ⟨⟨e0.mod,S.kind,rfl,rfl,Nat.le_refl _,fun y z c h1 h2=>?_,fun y hy=>?_,fun y c _ h=>?_,fun _=>hd,Around.frames_deeper e0.frames,.inr ⟨rfl,rfl⟩,fun b z=>absurd z (noA b),e0.bs,e0.bsz,fun b _ _=>noA b,fun b z=>absurd z (noA b),e0.funs,e0.frf⟩,
  rfl,e0.bare,Un.kept hk,⟨_,x.toInCall.ns,fun i y v h1 h2 h3=>?_⟩,fun y c h=>⟨_,x.cell y c h⟩,e0.hok.fresh (Nat.le_refl _),fun y c h=>?_,fun p hp=>absurd (show p ∈ ([]:List (Addr × Obj)) from hp) (by simp),e0.hok.kept hk,?_⟩
 ·exact name_of_addr x.apart (PySem.mem_of_lookup h1) (PySem.mem_of_lookup h2)
 ·have hy:scope.names.lookup y = some .cell ∨ scope.names.lookup y = some .free:=hy
  rcases hy with hy | hy
  ·exact cell_has hy
  ·exact absurd rfl (S.nofree _ (PySem.mem_of_lookup hy))
 ·exact Nat.le_of_lt (x.above y c (PySem.mem_of_lookup h))
 ·have hi:i < vs.length:=by
   unfold start at h2
   by_cases hi:i < vs.length
   ·exact hi
   ·rw [List.getElem?_append_right (by simpa using hi)] at h2
    rw [List.getElem?_replicate] at h2
    split at h2 <;> cases h2
  have ha:vs[i]? = some v:=by
   unfold start at h2
   rw [List.getElem?_append_left (by simpa using hi),List.getElem?_map] at h2
   cases e:vs[i]? with
   | none=>rw [e] at h2; cases h2
   | some a=>rw [e] at h2; cases h2; rfl
  obtain ⟨u,hu,rv⟩:=r.get ha
  have hp:ps[i]? = some y:=by
   rw [<- S.pre,List.getElem?_take_of_lt (by omega)]; exact h1
  have ndP:ps.Nodup:=by rw [<- S.pre]; exact S.nd.sublist (List.take_sublist _ _)
  refine ⟨u,rv,?_⟩
  rcases S.par y (List.mem_of_getElem? hp) with k | k
  ·exact .inl ⟨k,bindL_get ndP hp hu k⟩
  ·obtain ⟨c,e⟩:=cell_has (n:=s.heap.objs.size + 1) k
   refine .inr ⟨.inl k,c,e,?_⟩
   have q:=x.cell y c e
   rw [bindC_get ndP hp hu (by show scope.names.lookup y ≠ _; rw [k]; decide)] at q
   exact q
 ·exact e0.hok.fresh (Nat.le_of_lt (x.above y c (PySem.mem_of_lookup h)))
 ·unfold start
  show _ = N.length
  rw [List.length_append,List.length_map,List.length_replicate]
  omega
theorem fn_of {CX:CXT} {P:Program} {w:World} {K:PySem.W.Frag} {mg:Str->Option Value} {base:Heap} {k:Nat} {f:Addr} {name qual:Str} {params:Arguments} {body:List Stmt} {scope:Scope} {dV kV doc pm cdv ct oc:Value} {an od:Option Addr}
  {osl:Array (Option Value)} {N ps:List Str} {sp:Sp} (lk:K.lookup f = some ⟨oc,od,.func (PySem.W.fnOf name qual params body scope dV kV doc pm an cdv ct),osl⟩) (hcd:PySem.W.codeIn K cdv qual = true) (S:FnScope N ps scope)
  (len:∀ vs H Q E,sp vs H Q E->vs.length = ps.length)
  (hbody:∀ (A:Around) (outer:List Env) (s:Shared) (H:Hp) (vs:List V) (Q:VK) (E:XK),Room k (A.deeper (envOfC qual scope s.heap.objs.size f cdv))->sp vs H Q E ->
   ∃ t,PSs (cxOf CX P w K mg base N qual scope f cdv A outer s H E) body t/\t { nx:=fun _ H'=>Q .non H',rt:=Q } (start N vs) H) :
  FnOk P w K mg base CX (k + 1) f (PySem.W.fnOf name qual params body scope dV kV doc pm an cdv ct) ps sp:=by
 refine ⟨len,fun A outer s H args us vs Q E hr e0 hb r hsp=>?_⟩
 have hl:=len _ _ _ _ hsp
 have KX:K.In s.heap:=e0.mod.kin.keeps fun b o e=>(e0.bs b o e).1
 have lim:s.heap.NoLimit:=e0.mod.nolimit.keeps fun b o e=>(e0.bs b o e).1
 have hkind:∀ y ∈ ps.zip us,scope.names.lookup y.1 = some .local ∨ (scope.names.lookup y.1 = some .cell/\((cellsFrom (s.heap.objs.size + 1) scope.names []).lookup y.1).isSome = true):=fun ⟨n,v⟩ hy=>by
  rcases S.par n (List.of_mem_zip hy).1 with q | q
  ·exact .inl q
  ·exact .inr ⟨q,PySem.W.cellsFrom_some _ _ _ (.inl q)⟩
 refine codeAny_call_function hr.depth (KX _ _ lk) rfl S.co S.gen rfl (PySem.W.codeRec_of KX hcd) (hb _ _ _ _ ?_)
 refine wpAny_newFunctionEnv_cells S.kind hkind fun env he s1 x=>?_
 subst he
 refine ⟨lim.keeps x.toInCall.keep,codeAny_func ?_⟩
 obtain ⟨t,ht,hq⟩:=hbody A outer s H vs Q E (hr.deeper _) hsp
 have I:Inv (cxOf CX P w K mg base N qual scope f cdv A outer s H E) [] (start N vs) H s1:=inv_start S hr.hd e0 hl r x
 refine wpAny_mono (ht [] s1 (start N vs) H _ I hq) (fun fl s' hs=>?_) fun e s' hs=>hs
 have fin:∀ {σ':St} {H':Hp} {v:V} {u:Value},Inv (cxOf CX P w K mg base N qual scope f cdv A outer s H E) [] σ' H' s'->RelV v u->Q v H'->CE outer P w H s Q u s' :=
  fun {σ' H' v u} J rv q=>⟨v,H',J.os,J.bare,J.base,J.hok,rv,q⟩
 cases fl with
 | ret u =>
  obtain ⟨v,σ',H',J,rv,q⟩:=hs
  exact fin J rv q
 | next =>
  obtain ⟨σ',H',J,q⟩:=hs
  exact fin (v:=V.non) (u:=Value.none) J rfl q
 | brk =>
  obtain ⟨_,_,_,q⟩:=hs
  exact False.elim q
 | cont =>
  obtain ⟨_,_,_,q⟩:=hs
  exact False.elim q
end L2
namespace L2
open PySem PySem.Spec PyProof.Rows
section
variable {X:Cx} {x:Str} {p pos:Pos} {e:Expr} {es:List Expr} {t:TA} {id T:String} {r:List V->Hp->VK->Prop}
def tCB (r:List V->Hp->VK->Prop) (t:TA):TE:=fun σ H Q=>t σ H fun vs H1=>r vs H1 Q
theorem pe_callB (hc:CallR X (.builtin id) r) (hg:Gl X x) (hm:X.mg x = none) (hv:bootBuiltins x = some (.builtin id)) (ha:PA X (e :: es) t) (hn:x ≠ "__name__":=by decide) (hdb:(x == ("__debug__":Str)) = false:=by decide)
  (he:starEach (e :: es) X.env = (false,eval e X.env) :: starEach es X.env:=by rfl) (hpl:(backTo pos (starEach es X.env)).any (·.1) = false:=by rfl):PE X (.Call (.Name x p) (e :: es) [] pos) (tCB r t):=by
 intro pins s σ H Q I h
 refine wpAny_Call_Name_kw (ld_blt I hg hm hv ?_ hn hdb)
 exact PyProof.Rows.callWith_builtin1 (thn (ha pos pins s σ H _ I h) fun us s1 ⟨vs,H1,I1,r1,q1⟩=>hc pins s1 σ H1 vs us Q I1 r1 q1) he hpl
theorem pe_callTy (hc:CallR X (.type T) r) (hg:Gl X x) (hm:X.mg x = none) (hv:bootBuiltins x = some (.type T)) (ha:PA X (e :: es) t) (hn:x ≠ "__name__":=by decide) (hdb:(x == ("__debug__":Str)) = false:=by decide)
  (he:starEach (e :: es) X.env = (false,eval e X.env) :: starEach es X.env:=by rfl) (hpl:(backTo pos (starEach es X.env)).any (·.1) = false:=by rfl):PE X (.Call (.Name x p) (e :: es) [] pos) (tCB r t):=by
 intro pins s σ H Q I h
 refine wpAny_Call_Name_kw (ld_blt I hg hm hv ?_ hn hdb)
 exact PyProof.Rows.callWith_type1 (thn (ha pos pins s σ H _ I h) fun us s1 ⟨vs,H1,I1,r1,q1⟩=>hc pins s1 σ H1 vs us Q I1 r1 q1) he hpl
end
end L2
namespace HT
open PySem PyProof.Rows
section
open PySem.SeqAt
open PySem.AutoSeq1 (wpAny_loadPart')
open PySem.MeetsSeq PySem.MeetsSeq2 PySem.MeetsSeq3
end
section
variable {prog:Program} {w:World} {A:Around} {E:Value->Shared->Prop} {s:Shared}
def sIx (n d:Nat):Option Int->Nat
 | none=>d
 | some v=>if v < 0 then (v + (n:Int)).toNat else min v.toNat n
theorem sIx_none (n d:Nat):sIx n d none = d:=rfl
theorem sIx_nat (n d k:Nat):sIx n d (some (k:Int)) = min k n:=by
 show (if (k:Int) < 0 then ((k:Int) + (n:Int)).toNat else min (k:Int).toNat n) = min k n
 rw [if_neg (by omega),Int.toNat_natCast]
theorem sIx_le (n d:Nat) (hd:d <= n) (o:Option Int):sIx n d o <= n:=by
 cases o with
 | none=>exact hd
 | some v =>
  show (if v < 0 then (v + (n:Int)).toNat else min v.toNat n) <= n
  by_cases hv:v < 0
  ·rw [if_pos hv]; omega
  ·rw [if_neg hv]; exact Nat.min_le_right _ _
theorem clip_eq (v:Int) (n d:Nat):(if v < 0 then max (v + (n:Int)) 0 else min v (n:Int)) = ((sIx n d (some v):Nat):Int):=by
 show (if v < 0 then max (v + (n:Int)) 0 else min v (n:Int)) = (((if v < 0 then (v + (n:Int)).toNat else min v.toNat n):Nat):Int)
 by_cases hv:v < 0
 ·simp only [if_pos hv]; omega
 ·simp only [if_neg hv]; omega
end
end HT
namespace L2
open PySem PySem.Spec PyProof.Rows
abbrev TO:=St->Hp->(Option Int->Hp->Prop)->Prop
def PO (X:Cx) (e:Option Expr) (t:TO):Prop :=
 ∀ (pins:List (Addr × Obj)) (s:Shared) (σ:St) (H:Hp) (Q:Option Int->Hp->Prop),Inv X pins σ H s->t σ H Q ->
  wpAny (model X.prog X.w) X.A (evalPart e X.env) (fun u s'=>∃ o H',Inv X pins σ H' s'/\IsPart u o/\Q o H') X.xe s
def tNoPart:TO:=fun _ H Q=>Q none H
def tPart (t:TE):TO:=fun σ H Q=>t σ H fun x H1=>∃ i,x = .int i/\Q (some i) H1
section
variable {X:Cx} {e:Expr} {te:TE} {lo hi:Option Expr} {tl th:TO} {pos p2:Pos}
theorem po_none:PO X none tNoPart:=by
 intro pins s σ H Q I h
 rw [evalPart_none]
 exact wpAny_pure ⟨none,H,I,.none,h⟩
theorem po_some (h:PE X e te):PO X (some e) (tPart te):=by
 intro pins s σ H Q I hw
 rw [evalPart_some]
 refine thn (h pins s σ H _ I hw) fun u s1 ⟨x,H1,I1,r1,q1⟩=>?_
 obtain ⟨i,rfl,q⟩:=q1
 obtain ⟨t,rfl⟩:=r1
 exact ⟨some i,H1,I1,.int i t,q⟩
def SlR (X:Cx) (r:V->Option Int->Option Int->Hp->VK->Prop):Prop :=
 ∀ (pins:List (Addr × Obj)) (s:Shared) (σ:St) (H:Hp) (x:V) (v vl vu:Value) (lo hi:Option Int) (sl:Addr) (Q:VK),Inv X pins σ H s->RelV x v->s.heap.IsSliceOf sl vl vu .none->IsPart vl lo->IsPart vu hi->r x lo hi H Q ->
  ∃ T id,typeLookup (.type T) "__getitem__" = pure (some (.builtin id))/\s.TypeIs v T/\wpAny (model X.prog X.w) X.A (getItem v (.ref sl)) (EP X pins σ Q) X.xe s
theorem SlR.or {r r':V->Option Int->Option Int->Hp->VK->Prop} (h:SlR X r) (h':SlR X r'):SlR X (fun x lo hi H Q=>r x lo hi H Q ∨ r' x lo hi H Q):=by
 intro pins s σ H x v vl vu lo hi sl Q I rx hs pl pu q
 rcases q with q | q
 ·exact h pins s σ H x v vl vu lo hi sl Q I rx hs pl pu q
 ·exact h' pins s σ H x v vl vu lo hi sl Q I rx hs pl pu q
def tSl (r:V->Option Int->Option Int->Hp->VK->Prop) (te:TE) (tl th:TO):TE:=fun σ H Q=>te σ H fun x H1=>tl σ H1 fun l H2=>th σ H2 fun u H3=>r x l u H3 Q
theorem pe_slice {r:V->Option Int->Option Int->Hp->VK->Prop} (hr:SlR X r) (he:PE X e te) (hl:PO X lo tl) (hu:PO X hi th):PE X (.Subscript e (.Slice lo hi none p2) pos) (tSl r te tl th):=by
 intro pins s σ H Q I h
 refine Subscript_ (thn (he pins s σ H _ I h) fun v s1 ⟨x,H1,I1,r1,q1⟩=>?_)
 refine wpAny_Slice (thn (hl pins s1 σ H1 _ I1 q1) fun vl s2 ⟨l,H2,I2,pl,q2⟩=>thn (hu pins s2 σ H2 _ I2 q2) fun vu s3 ⟨u,H3,I3,pu,q3⟩=>?_)
 rw [evalPart_none]
 refine wpAny_pure ?_
 have I4:Inv X pins σ H3 { s3 with heap:=s3.heap.push { cls:=.type "slice",data:=.fields #[vl,vu,.none] } }:=I3.kept (t':=s3.toks) fun b ob q=>Heap.get?_push_of_some _ q
 obtain ⟨T,id,hT,ht,hg⟩:=hr pins { s3 with heap:=s3.heap.push { cls:=.type "slice",data:=.fields #[vl,vu,.none] } } σ H3 x v vl vu l u s3.heap.objs.size Q I4 r1 (Heap.IsSliceOf.new ..) pl pu q3
 show wpAny (model X.prog X.w) X.A (subscriptTail e (.Slice lo hi none p2) v (.ref s3.heap.objs.size)) (EP X pins σ Q) X.xe { s3 with heap:=s3.heap.push { cls:=.type "slice",data:=.fields #[vl,vu,.none] } }
 exact tail_any (ops:=[.ref s3.heap.objs.size,v]) ht hT hg (by with_unfolding_all rfl)
def cutV (xs:List V) (lo hi:Option Int):List V:=(xs.drop (HT.sIx xs.length 0 lo)).take (HT.sIx xs.length xs.length hi - HT.sIx xs.length 0 lo)
theorem cutV_length (xs:List V) (lo hi:Option Int):(cutV xs lo hi).length <= xs.length:=by
 unfold cutV
 rw [List.length_take,List.length_drop]
 omega
end
end L2
namespace L2
open PySem PySem.Spec PyProof.Rows
def ixN (n:Nat) (i:Int):Option Nat:=if 0 <= i then (if i < n then some i.toNat else none) else if -(n:Int) <= i then some (i + n).toNat else none
def atI {α:Type} (xs:List α) (i:Int):Option α:=(ixN xs.length i).bind fun j=>xs[j]?
theorem ixN_seq {n:Nat} {i:Int} {j:Nat} (h:ixN n i = some j):seqIndex? i n = some j/\j < n/\-(n:Int) <= i/\i < n:=by
 unfold ixN at h
 by_cases h0:0 <= i
 ·rw [if_pos h0] at h
  by_cases h1:i < n
  ·rw [if_pos h1] at h
   have e:i.toNat = j:=Option.some.inj h
   exact ⟨by rw [seqIndex_of h0 h1,e],by omega,by omega,h1⟩
  ·rw [if_neg h1] at h; cases h
 ·rw [if_neg h0] at h
  by_cases h1:-(n:Int) <= i
  ·rw [if_pos h1] at h
   have e:(i + n).toNat = j:=Option.some.inj h
   exact ⟨by rw [seqIndex_neg (by omega) h1,e],by omega,h1,by omega⟩
  ·rw [if_neg h1] at h; cases h
theorem atI_get {α:Type} {xs:List α} {i:Int} {v:α} (h:atI xs i = some v):∃ j,seqIndex? i xs.length = some j/\xs[j]? = some v/\j < xs.length/\-(xs.length:Int) <= i/\i < xs.length:=by
 unfold atI at h
 cases e:ixN xs.length i with
 | none=>rw [e] at h; cases h
 | some j =>
  rw [e] at h
  obtain ⟨h1,h2,h3,h4⟩:=ixN_seq e
  exact ⟨j,h1,h,h2,h3,h4⟩
theorem atI_nat {α:Type} {xs:List α} {j:Nat} {v:α} (h:xs[j]? = some v):atI xs (j:Int) = some v:=by
 have hj:j < xs.length:=(List.getElem?_eq_some_iff.mp h).1
 have e:ixN xs.length (j:Int) = some j:=by
  unfold ixN
  rw [if_pos (by omega),if_pos (by omega)]; simp
 unfold atI; rw [e]; exact h
theorem atI_last {α:Type} (xs:List α) (v:α):atI (xs ++ [v]) (-1) = some v:=by
 have hl:(xs ++ [v]).length = xs.length + 1:=by simp
 have e:ixN (xs ++ [v]).length (-1) = some xs.length:=by
  unfold ixN
  rw [hl,if_neg (by decide),if_pos (by omega)]
  congr 1
  omega
 unfold atI
 rw [e]
 show (xs ++ [v])[xs.length]? = some v
 simp
def PlainIx (b:Expr):Prop:=∀ o i,subscripted b false o i = operate [o,i] (getItem o i)
def IxR (X:Cx) (r:R2):Prop :=
 ∀ (value slice:Expr) (pins:List (Addr × Obj)) (s:Shared) (σ:St) (H:Hp) (x y:V) (v u:Value) (Q:VK),Inv X pins σ H s->RelV x v->RelV y u->r x y H Q ->
  subscripted slice false v u = operate [v,u] (getItem v u)->wpAny (model X.prog X.w) X.A (subscriptTail value slice v u) (EP X pins σ Q) X.xe s
def MtR (X:Cx) (id:String) (r:V->List V->Hp->VK->Prop):Prop :=
 ∀ (pins:List (Addr × Obj)) (s:Shared) (σ:St) (H:Hp) (x:V) (xs:List V) (v:Value) (us:List Value) (Q:VK),Inv X pins σ H s->RelV x v->Vals xs us->r x xs H Q ->
  wpAny (model X.prog X.w) X.A (call (.builtin id) (v :: us)) (EP X pins σ Q) X.xe s
section
variable {X:Cx} {a b:Expr} {ta tb:TE} {pos:Pos}
theorem IxR.or {r r':R2} (h:IxR X r) (h':IxR X r'):IxR X (fun x y H Q=>r x y H Q ∨ r' x y H Q):=by
 intro value slice pins s σ H x y v u Q I rx ry q hs
 rcases q with q | q
 ·exact h value slice pins s σ H x y v u Q I rx ry q hs
 ·exact h' value slice pins s σ H x y v u Q I rx ry q hs
theorem pe_ix {r:R2} (hr:IxR X r) (ha:PE X a ta) (hb:PE X b tb) (hs:PlainIx b):PE X (.Subscript a b pos) (tOp r ta tb):=by
 intro pins s σ H Q I h
 exact Subscript_ (binT ha hb I h fun v u s2 x y H2 I2 rx ry q=>hr a b pins s2 σ H2 x y v u Q I2 rx ry q (hs _ _))
def rIxL (K:PySem.W.Frag):R2:=fun x y H Q=>∃ p xs i v,x = .ref p/\y = .int i/\SqL K H p xs/\atI xs i = some v/\Q v H
def rIxT (K:PySem.W.Frag):R2:=fun x y H Q=>∃ p xs i v,x = .ref p/\y = .int i/\SqT K H p xs/\atI xs i = some v/\Q v H
def rIxS:R2:=fun x y H Q=>∃ z i c,x = .str z/\y = .int i/\z.length <= sizeLine/\atI z.cps.toList i = some c/\Q (.str ⟨#[c]⟩) H
theorem ix_list:IxR X (rIxL X.K):=by
 intro value slice pins s σ H x y v u Q I rx ry h hs
 obtain ⟨p,xs,i,z,rfl,rfl,hq,he,q⟩:=h
 cases rx
 obtain ⟨t,rfl⟩:=ry
 obtain ⟨its,r,pl,hz⟩:=I.list hq
 obtain ⟨j,h1,h2,h3,h4,h5⟩:=atI_get he
 obtain ⟨w,ew,rw'⟩:=r.get h2
 have hl:=r.length
 have hn:=line63
 have fin:EP X pins σ Q w s:=⟨z,H,I,rw',q⟩
 by_cases h0:0 <= i
 ·have hj:i.toNat = j:=by
   rw [seqIndex_of h0 h5] at h1
   exact Option.some.inj h1
  exact item_listR pl.isList h0 (by omega) (by rw [hj]; simpa using ew) fin hs
 ·have hj:(i + (its.toArray.size:Int)).toNat = j:=by
   rw [seqIndex_neg (by omega) h4] at h1
   rw [List.size_toArray,<- hl]
   exact Option.some.inj h1
  exact subscriptTail_builtinR (x:=w) pl.isList.typeIs slot_list_getitem.lookup
   (wpAny_getItem_list_neg (Q:=fun r s'=>r = w/\EP X pins σ Q r s') pl.isList (by omega) (by rw [List.size_toArray] <;> omega) (by omega) (by rw [hj]; simpa using ew) ⟨rfl,fin⟩) hs
theorem ix_tup:IxR X (rIxT X.K):=by
 intro value slice pins s σ H x y v u Q I rx ry h hs
 obtain ⟨p,xs,i,z,rfl,rfl,hq,he,q⟩:=h
 cases rx
 obtain ⟨t,rfl⟩:=ry
 obtain ⟨its,r,pl,hz⟩:=I.tuple hq
 obtain ⟨j,h1,h2,h3,h4,h5⟩:=atI_get he
 obtain ⟨w,ew,rw'⟩:=r.get h2
 have hl:=r.length
 have hn:=line63
 have fin:EP X pins σ Q w s:=⟨z,H,I,rw',q⟩
 exact subscriptTail_builtinR (x:=w) pl.typeIs slot_tuple_getitem.lookup
  (getItem_tuple (j:=j) (Q:=fun r s'=>r = w/\EP X pins σ Q r s') pl (by omega) (by omega) (by rw [List.size_toArray,<- hl]; exact h1) (by simpa using ew) ⟨rfl,fin⟩) hs
theorem ix_str:IxR X rIxS:=by
 intro value slice pins s σ H x y v u Q I rx ry h hs
 obtain ⟨z,i,c,rfl,rfl,hz,he,q⟩:=h
 obtain ⟨t,rfl⟩:=rx
 obtain ⟨t',rfl⟩:=ry
 obtain ⟨j,h1,h2,h3,h4,h5⟩:=atI_get he
 have hl:z.cps.toList.length = z.length:=by simp [Str.length]
 rw [hl] at h1 h4 h5
 have hn:=line63
 exact tail_any (typeIs_str s z t) slot_str_getitem.lookup (getItem_str (c:=c) (by
  have e1:decide (i < -(2 ^ 63:Int)) = false:=decide_eq_false (by omega)
  have e2:decide (i ≥ 2 ^ 63) = false:=decide_eq_false (by omega)
  rw [e1,e2,Bool.or_false]) (by rw [h1]; simpa using h2) ⟨.str ⟨#[c]⟩,H,I.tok _,⟨_,rfl⟩,q⟩) hs
def rIx (K:PySem.W.Frag):R2:=fun x y H Q=>rIxL K x y H Q ∨ rIxT K x y H Q ∨ rIxS x y H Q
theorem ix_seq:IxR X (rIx X.K):=ix_list.or (ix_tup.or ix_str)
theorem mapSeq_set (its:List Value) (n j:Nat) (u:Value):Obj.mapSeq (·.setIfInBounds j u) { cls:=.type "list",data:=.seq its.toArray n } = { cls:=.type "list",data:=.seq (its.set j u).toArray n }:=by
 simp [Obj.mapSeq]
theorem Inv.lst {pins:List (Addr × Obj)} {σ:St} {H:Hp} {s:Shared} {p:Addr} {xs:List V} (I:Inv X pins σ H s) (h:H p = some (.lst xs)) :
  ∃ (its:List Value) (n:Nat),Vals xs its/\s.heap.get? p = some { cls:=.type "list",data:=.seq its.toArray n }/\xs.length <= sizeLine:=by
 obtain ⟨z,its,n,r,e⟩:=I.hok p _ h
 exact ⟨its,n,r,e,z⟩
theorem Inv.lstUpd {pins:List (Addr × Obj)} {σ:St} {H:Hp} {s:Shared} {p:Addr} {xs ys:List V} {its its':List Value} {n n':Nat} {f:Obj->Obj} (I:Inv X pins σ H s) (h:H p = some (.lst xs))
  (ho:s.heap.get? p = some { cls:=.type "list",data:=.seq its.toArray n }) (hf:f { cls:=.type "list",data:=.seq its.toArray n } = { cls:=.type "list",data:=.seq its'.toArray n' }) (r:Vals ys its') (hz:ys.length <= sizeLine) (t:Nat) :
  Inv X pins σ (upd H p (.lst ys)) { s with heap:=s.heap.update p f,toks:=t }:=by
 have e:(s.heap.update p f).get? p = some { cls:=.type "list",data:=.seq its'.toArray n' }:=by
  rw [Heap.get?_update_self f ho (by rw [hf] <;> rfl),hf]
 refine I.write (x:=p) (e:=p) (by rw [h]; trivial) (.inl rfl) (fun b u hb q=>(Heap.get?_update_other _ _ (Ne.symm hb)).trans q) ⟨_,e⟩ ?_
 exact ⟨hz,its',n',r,e⟩
def rSetL:V->V->V->Hp->(Hp->Prop)->Prop:=fun o i v H Q=>∃ p xs k j,o = .ref p/\i = .int k/\H p = some (.lst xs)/\ixN xs.length k = some j/\Q (upd H p (.lst (xs.set j v)))
theorem set_list:PSet X rSetL:=by
 intro pins s σ H o i v ov iv u Q I ro ri rv h
 obtain ⟨p,xs,k,j,rfl,rfl,hp,hj,q⟩:=h
 cases ro
 obtain ⟨t,rfl⟩:=ri
 obtain ⟨its,n,r,ho,hz⟩:=I.lst hp
 obtain ⟨h1,h2,h3,h4⟩:=ixN_seq hj
 have hl:=r.length
 have hn:=line63
 have I':Inv X pins σ (upd H p (.lst (xs.set j v))) { s with heap:=s.heap.update p (Obj.mapSeq (·.setIfInBounds j u)) } :=
  I.lstUpd hp ho (mapSeq_set its n j u) (r.set rv j) (by rw [List.length_set]; exact hz) s.toks
 by_cases h0:0 <= k
 ·have hk:k.toNat = j:=by
   rw [seqIndex_of h0 h4] at h1
   exact Option.some.inj h1
  exact PySem.W.ki_setAt ho h0 (by omega) (by rw [List.size_toArray,<- hl]; exact h4) (by rw [hk]; exact ⟨_,I',q⟩)
 ·have hk:(k + (its.toArray.size:Int)).toNat = j:=by
   rw [seqIndex_neg (by omega) h3] at h1
   rw [List.size_toArray,<- hl]
   exact Option.some.inj h1
  exact PySem.W.ki_setBack ho (by omega) (by rw [List.size_toArray,<- hl]; exact h3) (by omega) (by rw [hk]; exact ⟨_,I',q⟩)
theorem slice_bounds (lo hi:Option Int) (n:Nat):(sliceBounds lo hi none n).1 = ((HT.sIx n 0 lo:Nat):Int)/\(sliceBounds lo hi none n).2.1 = ((HT.sIx n n hi:Nat):Int)/\(sliceBounds lo hi none n).2.2 = 1:=by
 refine ⟨?_,?_,rfl⟩
 ·cases lo with
  | none=>simp [sliceBounds,HT.sIx]
  | some i =>
   simp only [sliceBounds,HT.sIx,Option.getD_none,show (1:Int) > 0 by decide,if_true]
   by_cases h:i < 0
   ·simp only [h,if_true] <;> omega
   ·simp only [h,if_false] <;> omega
 ·cases hi with
  | none=>simp [sliceBounds,HT.sIx]
  | some i =>
   simp only [sliceBounds,HT.sIx,Option.getD_none,show (1:Int) > 0 by decide,if_true]
   by_cases h:i < 0
   ·simp only [h,if_true] <;> omega
   ·simp only [h,if_false] <;> omega
theorem slicePick_cut (its:List Value) (lo hi:Option Int):slicePick its.toArray lo hi none = ((its.drop (HT.sIx its.length 0 lo)).take (HT.sIx its.length its.length hi - HT.sIx its.length 0 lo)).toArray:=by
 obtain ⟨h1,h2,h3⟩:=slice_bounds lo hi its.toArray.size
 unfold slicePick
 rw [h1,h2,h3]
 simp only [sliceRange_one,pick_run,List.size_toArray] <;> rfl
def rSlL (K:PySem.W.Frag):V->Option Int->Option Int->Hp->VK->Prop:=fun x lo hi H Q=>∃ a xs,x = .ref a/\SqL K H a xs/\∀ p,H p = none->Q (.ref p) (upd H p (.lst (cutV xs lo hi)))
theorem sl_list:SlR X (rSlL X.K):=by
 intro pins s σ H x v vl vu lo hi sl Q I rx hs pl pu h
 obtain ⟨a,xs,rfl,hx,q⟩:=h
 cases rx
 obtain ⟨its,r,ht,hz⟩:=I.list hx
 have hlen:=r.length
 refine ⟨"list",_,slot_list_getitem.lookup,ht.isList.typeIs,?_⟩
 refine wpAny_getItem_list_slice ht.isList hs pl pu .none (by simp) ?_ (by rw [List.size_toArray] <;> omega)
 rw [slicePick_cut,<- hlen]
 refine ⟨.ref s.heap.objs.size,_,I.laid (t':=s.toks) (o:=.lst (cutV xs lo hi)) (fun b ob q=>Heap.get?_push_of_some _ q) (Nat.le_refl _) ?_,rfl,q _ (I.hok.fresh (Nat.le_refl _))⟩
 exact ⟨Nat.le_trans (cutV_length xs lo hi) hz,_,0,(r.drop (HT.sIx xs.length 0 lo)).take (HT.sIx xs.length xs.length hi - HT.sIx xs.length 0 lo),Heap.get?_push_size _ rfl⟩
theorem call_len_seq:CallR X (.builtin "len") (fun xs H Q=>∃ p ys,xs = [.ref p]/\(SqL X.K H p ys ∨ SqT X.K H p ys)/\Q (.int ys.length) H):=by
 intro pins s σ H xs us Q I r h
 obtain ⟨p,ys,rfl,hq,q⟩:=h
 obtain ⟨u,rfl,rx⟩:=vals1 r
 cases rx
 have hn:=line63
 rcases hq with hq | hq
 ·obtain ⟨its,r',pl,hz⟩:=I.list hq
  have hlen:=r'.length
  exact Calls.call_len_list pl.isList (by simp only [List.size_toArray] <;> omega) ⟨.int ys.length,H,I.tok _,⟨s.toks + 1,by rw [List.size_toArray,hlen]⟩,q⟩
 ·obtain ⟨its,r',pl,hz⟩:=I.tuple hq
  have hlen:=r'.length
  exact len_tuple pl (by simp only [List.size_toArray] <;> omega) ⟨.int ys.length,H,I.tok _,⟨s.toks + 1,by rw [List.size_toArray,hlen]⟩,q⟩
theorem call_len_str:CallR X (.builtin "len") (fun xs H Q=>∃ z,xs = [.str z]/\z.length <= sizeLine/\Q (.int z.length) H):=by
 intro pins s σ H xs us Q I r h
 obtain ⟨z,rfl,hz,q⟩:=h
 obtain ⟨u,rfl,t,rfl⟩:=vals1 r
 have hn:=line63
 exact len_str (by omega) ⟨.int z.length,H,I.tok _,⟨_,rfl⟩,q⟩
theorem CallR.or {f:Value} {r r':List V->Hp->VK->Prop} (h:CallR X f r) (h':CallR X f r'):CallR X f (fun xs H Q=>r xs H Q ∨ r' xs H Q):=by
 intro pins s σ H xs us Q I rs q
 rcases q with q | q
 ·exact h pins s σ H xs us Q I rs q
 ·exact h' pins s σ H xs us Q I rs q
theorem call_list_of:CallR X (.type "list") (fun xs H Q=>∃ p ys,xs = [.ref p]/\(SqL X.K H p ys ∨ SqT X.K H p ys)/\∀ l,H l = none->Q (.ref l) (upd H l (.lst ys))):=by
 intro pins s σ H xs us Q I r h
 obtain ⟨p,ys,rfl,hq,q⟩:=h
 obtain ⟨u,rfl,rx⟩:=vals1 r
 cases rx
 have fin:∀ (its:List Value),Vals ys its->ys.length <= sizeLine->∀ (h':Heap) (c':Nat),(∀ b o',s.heap.get? b = some o'->h'.get? b = some o') ->
   h'.get? s.heap.objs.size = some { cls:=.type "list",dict:=none,data:=.seq its.toArray c',slots:=#[] }->EP X pins σ Q (.ref s.heap.objs.size) { s with heap:=h' }:=fun its r' hz h' c' kp e =>
  ⟨.ref s.heap.objs.size,_,I.laid (t':=s.toks) kp (Nat.le_refl _) (show ObjOk X.prog X.w _ h' _ (.lst ys) from ⟨hz,its,c',r',e⟩),rfl,q _ (I.hok.fresh (Nat.le_refl _))⟩
 rcases hq with hq | hq
 ·obtain ⟨its,r',pl,hz⟩:=I.list hq
  have hlen:=r'.length
  obtain ⟨o,ho,hc,n,hd⟩:=pl.isList
  exact call_list_seq p (.inl rfl) ho hc hd (fun h' c' kp e=>fin its r' hz h' c' kp e) (by simp only [List.size_toArray] <;> omega)
 ·obtain ⟨its,r',pl,hz⟩:=I.tuple hq
  have hlen:=r'.length
  obtain ⟨o,ho,hc,n,hd⟩:=pl
  exact call_list_seq p (.inr rfl) ho hc hd (fun h' c' kp e=>fin its r' hz h' c' kp e) (by simp only [List.size_toArray] <;> omega)
theorem call_tuple_of:CallR X (.type "tuple") (fun xs H Q=>∃ p ys,xs = [.ref p]/\((SqL X.K H p ys/\∀ l,H l = none->Q (.ref l) (upd H l (.tup ys))) ∨ (SqT X.K H p ys/\Q (.ref p) H))):=by
 intro pins s σ H xs us Q I r h
 obtain ⟨p,ys,rfl,h⟩:=h
 obtain ⟨u,rfl,rx⟩:=vals1 r
 cases rx
 rcases h with ⟨hq,q⟩ | ⟨hq,q⟩
 ·obtain ⟨its,r',pl,hz⟩:=I.list hq
  have hlen:=r'.length
  refine call_tuple_list pl.isList (fun h' kp=>?_) (by simp only [List.size_toArray] <;> omega)
  have I1:Inv X pins σ H { s with heap:=h' }:=I.kept (t':=s.toks) kp
  have I2:Inv X pins σ (upd H h'.objs.size (.tup ys)) { s with heap:=h'.push { cls:=.type "tuple",data:=.seq its.toArray } } :=
   I1.laid (t':=s.toks) (fun b o e=>Heap.get?_push_of_some _ e) (Nat.le_refl _) (show ObjOk X.prog X.w _ _ _ (.tup ys) from ⟨hz,its,r',IsTup.new _ _⟩)
  exact ⟨.ref h'.objs.size,_,I2,rfl,q _ (I1.hok.fresh (Nat.le_refl _))⟩
 ·obtain ⟨its,r',pl,hz⟩:=I.tuple hq
  exact call_tuple_same pl ⟨.ref p,H,I,rfl,q⟩
def tyV (K:PySem.W.Frag) (T:String) (x:V) (H:Hp):Prop:=match x with
 | .str _=>T = "str"
 | .int _=>T = "int"
 | .ref p=>(T = "list"/\∃ xs,SqL K H p xs) ∨ (T = "tuple"/\∃ o,K.lookup p = some o/\o.cls = .type "tuple"/\o.dict = none) ∨
   (T = "dict"/\((∃ kvs,H p = some (.dK kvs)) ∨ ∃ kvs,H p = some (.dT kvs))) ∨ (T = "set"/\∃ S n,H p = some (.set S n))
 | _=>False
theorem tyV_is {pins:List (Addr × Obj)} {σ:St} {H:Hp} {s:Shared} {T:String} {x:V} {v:Value} (I:Inv X pins σ H s) (r:RelV x v) (ty:tyV X.K T x H) :
  s.TypeIs v T/\∀ a,v = .ref a->∃ ob,s.heap.get? a = some ob/\ob.dict = none:=by
 cases x with
 | str z =>
  obtain ⟨t,rfl⟩:=r
  cases (show T = "str" from ty)
  exact ⟨typeIs_str s z t,fun _ e=>nomatch e⟩
 | int i =>
  obtain ⟨t,rfl⟩:=r
  cases (show T = "int" from ty)
  exact ⟨typeIs_int s i t,fun _ e=>nomatch e⟩
 | ref p =>
  cases r
  rcases ty with ⟨rfl,xs,hq⟩ | ⟨rfl,o,hk,hc,hd⟩ | ⟨rfl,hk⟩ | ⟨rfl,S,n,hk⟩
  ·obtain ⟨its,_,pl,_⟩:=I.list hq
   refine ⟨pl.isList.typeIs,fun a e=>?_⟩
   cases e
   obtain ⟨o,n,e,c,hd,_⟩:=pl
   exact ⟨o,e,hd⟩
  ·refine ⟨⟨o,I.kIn p o hk,hc⟩,fun a e=>?_⟩
   cases e
   exact ⟨o,I.kIn _ o hk,hd⟩
  ·have z:∃ o,s.heap.get? p = some o/\o.ExactDict:=by
    rcases hk with ⟨kvs,hk⟩ | ⟨kvs,hk⟩
    ·obtain ⟨_,_,_,_,o,_,_,e,ex,_⟩:=I.hok p _ hk
     exact ⟨o,e,ex⟩
    ·obtain ⟨_,_,_,_,o,_,_,e,ex,_⟩:=I.hok p _ hk
     exact ⟨o,e,ex⟩
   obtain ⟨o,e,ex⟩:=z
   refine ⟨⟨o,e,ex.1⟩,fun a e2=>?_⟩
   cases e2
   exact ⟨o,e,ex.2.1⟩
  ·obtain ⟨o,_,_,_,e,ex,_⟩:=I.hok p _ hk
   refine ⟨⟨o,e,ex.1⟩,fun a e2=>?_⟩
   cases e2
   exact ⟨o,e,ex.2.1⟩
 | _=>exact False.elim ty
def tBM0 (K:PySem.W.Frag) (T:String) (r:V->List V->Hp->VK->Prop) (to:TE):TE:=fun σ H Q=>to σ H fun x H1=>tyV K T x H1/\r x [] H1 Q
def tBM (K:PySem.W.Frag) (T:String) (r:V->List V->Hp->VK->Prop) (to:TE) (t:TA):TE:=fun σ H Q=>to σ H fun x H1=>tyV K T x H1/\t σ H1 fun xs H2=>r x xs H2 Q
variable {o e:Expr} {es:List Expr} {to:TE} {t:TA} {name:Str} {apos cpos:Pos} {T id:String} {r:V->List V->Hp->VK->Prop}
theorem pe_bm0 (pa:PlainAttrs T) (slot:Slot T name id) (hty:typeOf (.builtin id) = pure (.type "method_descriptor")) (hm:MtR X id r) (ho:PE X o to)
  (hbase:attributeBase o name X.env (eval o X.env) = eval o X.env:=by rfl) (hline:(apos.endLine == cpos.line) = true:=by rfl):PE X (.Call (.Attribute o name apos) [] [] cpos) (tBM0 X.K T r to):=by
 intro pins s σ H Q I h
 refine wpAny_Call_method0_late hbase hline (thn (ho pins s σ H _ I h) fun v s1 ⟨x,H1,I1,r1,ty,q1⟩=>?_)
 obtain ⟨h1,h2⟩:=tyV_is I1 r1 ty
 exact ⟨T,id,pa,slot,hty,h1,h2,Calls.callWith_builtin rfl (PySem.evalArgs_none (hm pins s1 σ H1 x [] v [] Q I1 r1 .nil q1))⟩
theorem pe_bm (pa:PlainAttrs T) (slot:Slot T name id) (hty:typeOf (.builtin id) = pure (.type "method_descriptor")) (hm:MtR X id r) (ho:PE X o to) (ha:PA X (e :: es) t)
  (hbase:attributeBase o name X.env (eval o X.env) = eval o X.env:=by rfl)
  (hfew:((backTo cpos (starEach (e :: es) X.env)).all (fun x=>!x.1) && (backToKw cpos (keywordEach [] X.env)).all (fun x=>x.1.isSome)
   && decide ((e :: es).length + ([]:List Keyword).length + (if ([]:List Keyword).isEmpty then 0 else 1) < 30)) = true:=by rfl)
  (hline:(apos.endLine == cpos.line) = true:=by rfl) (hs:starEach (e :: es) X.env = (false,eval e X.env) :: starEach es X.env:=by rfl) (hplain:(backTo cpos (starEach es X.env)).any (·.1) = false:=by rfl) :
  PE X (.Call (.Attribute o name apos) (e :: es) [] cpos) (tBM X.K T r to t):=by
 intro pins s σ H Q I h
 refine wpAny_Call_method_late hbase hfew hline rfl (thn (ho pins s σ H _ I h) fun v s1 ⟨x,H1,I1,r1,ty,q1⟩=>?_)
 obtain ⟨h1,h2⟩:=tyV_is I1 r1 ty
 refine ⟨T,id,pa,slot,hty,h1,h2,?_⟩
 have hA:=ha cpos pins s1 σ H1 _ I1 q1
 rw [hs] at hA ⊢
 refine Calls.callWith_builtin (by show (false || (backTo cpos (starEach es X.env)).any (·.1)) = false; rw [hplain] <;> rfl) (Calls.evalArgs_plain ?_)
 exact thn hA fun us s2 ⟨vs,H2,I2,r2,q2⟩=>hm pins s2 σ H2 x vs v us Q I2 r1 r2 q2
end
end L2
namespace L2
open PySem PySem.Spec PyProof.Rows
def MtM (X:Cx) (id:String) (r:V->List V->Hp->VK->Prop):Prop :=
 ∀ (pins:List (Addr × Obj)) (s:Shared) (σ:St) (H:Hp) (x:V) (xs:List V) (v:Value) (us:List Value) (Q:VK),Inv X pins σ H s->RelV x v->Vals xs us->r x xs H Q ->
  wpAny (model X.prog X.w) X.A (call (.builtin id) (v :: us)) (EP X pins σ Q) X.xe s
theorem Vals.one:∀ {x:V} {us:List Value},Vals [x] us->∃ u,us = [u]/\RelV x u
 | _,_,.cons r .nil=>⟨_,rfl,r⟩
theorem Vals.two:∀ {x y:V} {us:List Value},Vals [x,y] us->∃ u v,us = [u,v]/\RelV x u/\RelV y v
 | _,_,_,.cons r (.cons q .nil)=>⟨_,_,rfl,r,q⟩
theorem Vals.zero:∀ {us:List Value},Vals [] us->us = []
 | _,.nil=>rfl
theorem Vals.dropLast {xs:List V} {us:List Value} (h:Vals xs us):Vals xs.dropLast us.dropLast:=by
 induction h with
 | nil=>exact .nil
 | cons r t ih =>
  cases t with
  | nil=>exact .nil
  | cons q t'=>exact .cons r ih
theorem Vals.reverse {xs:List V} {us:List Value} (h:Vals xs us):Vals xs.reverse us.reverse:=by
 induction h with
 | nil=>exact .nil
 | cons r t ih=>rw [List.reverse_cons,List.reverse_cons]; exact Vals.append ih (.cons r .nil)
theorem erase_last {α:Type} (l:List α):l.eraseIdx (l.length - 1) = l.dropLast:=by
 induction l with
 | nil=>rfl
 | cons a r ih =>
  cases r with
  | nil=>rfl
  | cons b r =>
   have e:(a :: b :: r).length - 1 = ((b :: r).length - 1) + 1:=by
    have h1:(a :: b :: r).length = r.length + 2:=rfl
    have h2:(b :: r).length = r.length + 1:=rfl
    omega
   rw [e,List.eraseIdx_cons_succ,ih]
   all_goals rfl
section
variable {X:Cx} {pins:List (Addr × Obj)} {σ:St} {H:Hp} {s:Shared} {l b:Addr} {xs ys zs:List V}
theorem Inv.lset {its its':List Value} {n:Nat} {f:Array Value->Array Value} {t':Nat} (I:Inv X pins σ H s) (hH:H l = some (.lst xs))
  (e:s.heap.get? l = some { cls:=.type "list",data:=.seq its.toArray n }) (hf:f its.toArray = its'.toArray) (hv:Vals ys its') (hz:ys.length <= sizeLine) :
  Inv X pins σ (upd H l (.lst ys)) { s with heap:=s.heap.update l (Obj.mapSeq f),toks:=t' }:=by
 have q:=PySem.IsL.update e f
 rw [hf] at q
 refine I.write (x:=l) (e:=l) (by rw [hH]; exact trivial) (.inl rfl) (fun b' u hb hu=>(Heap.get?_update_other s.heap (Obj.mapSeq f) (Ne.symm hb)).trans hu) ⟨_,q⟩ ?_
 exact ⟨hz,its',_,hv,q⟩
theorem Inv.lnew {its:List Value} {t':Nat} (I:Inv X pins σ H s) (hv:Vals ys its) (hz:ys.length <= sizeLine) :
  Inv X pins σ (upd H s.heap.objs.size (.lst ys)) { s with heap:=s.heap.push { cls:=.type "list",data:=.seq its.toArray },toks:=t' } :=
 I.laid (fun _ _ q=>Heap.get?_push_of_some _ q) (Nat.le_refl _) ⟨hz,its,0,hv,Heap.get?_push_size _ rfl⟩
theorem Inv.fresh (I:Inv X pins σ H s):H s.heap.objs.size = none:=I.hok.fresh (Nat.le_refl _)
theorem Inv.lstM (I:Inv X pins σ H s) (hH:H l = some (.lst xs)):xs.length <= sizeLine/\∃ (its:List Value) (n:Nat),Vals xs its/\xs.length = its.length/\s.heap.get? l = some { cls:=.type "list",data:=.seq its.toArray n }:=by
 obtain ⟨z,its,n,r,e⟩:=I.hok l _ hH
 exact ⟨z,its,n,r,r.length,e⟩
theorem notLongL {n:Nat} (h:n <= sizeLine):Builtin.List.listTooLong n = false:=by
 unfold Builtin.List.listTooLong
 exact decide_eq_false (by omega)
end
section
variable {X:Cx}
def rAppend:V->List V->Hp->VK->Prop:=fun x vs H Q=>∃ l xs y,x = .ref l/\vs = [y]/\H l = some (.lst xs)/\xs.length < sizeLine/\Q .non (upd H l (.lst (xs ++ [y])))
theorem mt_append:MtM X "list.append" rAppend:=by
 intro pins s σ H x vs v us Q I rx rv h
 obtain ⟨l,xs,y,rfl,rfl,hH,hz,q⟩:=h
 cases rx
 obtain ⟨u,rfl,ru⟩:=rv.one
 obtain ⟨z,its,n,r,hl,e⟩:=I.lstM hH
 refine call_meets F.slot_list_append ⟨_,e,rfl⟩ F.entry_list_append (F.args_list_append_2 _ _) (PySem.list_append l its.toArray n u (by rw [List.size_toArray]; omega)) ⟨e,?_⟩
 refine ⟨.non,_,I.lset (its':=its ++ [u]) hH e (by simp) (r.append (.cons ru .nil)) ?_,rfl,q⟩
 rw [List.length_append,List.length_singleton]
 omega
def rExtend:V->List V->Hp->VK->Prop:=fun x vs H Q=>∃ l b xs zs,x = .ref l/\vs = [.ref b]/\H l = some (.lst xs)/\H b = some (.lst zs)/\xs.length + zs.length <= sizeLine/\Q .non (upd H l (.lst (xs ++ zs)))
theorem mt_extend:MtM X "list.extend" rExtend:=by
 intro pins s σ H x vs v us Q I rx rv h
 obtain ⟨l,b,xs,zs,rfl,rfl,hH,hB,hz,q⟩:=h
 cases rx
 obtain ⟨u,rfl,ru⟩:=rv.one
 cases ru
 obtain ⟨z,its,n,r,hl,e⟩:=I.lstM hH
 obtain ⟨z2,its2,n2,r2,hl2,e2⟩:=I.lstM hB
 have hsz:its.toArray.size + its2.toArray.size <= sizeLine:=by rw [List.size_toArray,List.size_toArray]; omega
 have hlong:¬ (!its.toArray.isEmpty && Builtin.List.listTooLong (its.toArray.size + its2.toArray.size)) = true:=by
  rw [notLongL hsz,Bool.and_false]
  exact Bool.false_ne_true
 refine call_meets F.slot_list_extend ⟨_,e,rfl⟩ F.entry_list_extend (F.args_list_extend_2 _ _)
  (AutoSeq1.list_extend_list_list_0 l its.toArray n b its2.toArray n2 hlong (by rw [List.size_toArray]; omega) (by omega)) ⟨e,e2,?_⟩
 refine ⟨.non,_,I.lset (its':=its ++ its2) hH e (by simp) (r.append r2) ?_,rfl,q⟩
 rw [List.length_append]
 omega
def rPop:V->List V->Hp->VK->Prop:=fun x vs H Q=>∃ l xs y,x = .ref l/\vs = []/\H l = some (.lst xs)/\xs[xs.length - 1]? = some y/\Q y (upd H l (.lst xs.dropLast))
theorem mt_pop:MtM X "list.pop" rPop:=by
 intro pins s σ H x vs v us Q I rx rv h
 obtain ⟨l,xs,y,rfl,rfl,hH,hy,q⟩:=h
 cases rx
 have hus:=rv.zero
 subst hus
 obtain ⟨z,its,n,r,hl,e⟩:=I.lstM hH
 obtain ⟨u,hu,ru⟩:=r.get hy
 have hy':its.toArray[its.toArray.size - 1]? = some u:=by
  show its.toArray[its.length - 1]? = some u
  rw [<- Array.getElem?_toList,<- hl]
  exact hu
 refine call_meets F.slot_list_pop ⟨_,e,rfl⟩ F.entry_list_pop (F.args_list_pop_1 _) (MeetsSeq.list_pop_last l its.toArray n u hy' (by rw [List.size_toArray]; omega)) ⟨e,?_⟩
 refine ⟨y,_,I.lset (its':=its.dropLast) hH e ?_ r.dropLast ?_,ru,q⟩
 ·show its.toArray.eraseIdxIfInBounds (its.toArray.size - 1) = its.dropLast.toArray
  rw [List.size_toArray,List.eraseIdxIfInBounds_toArray,erase_last]
 ·rw [List.length_dropLast]
  omega
def rReverse:V->List V->Hp->VK->Prop:=fun x vs H Q=>∃ l xs,x = .ref l/\vs = []/\H l = some (.lst xs)/\Q .non (upd H l (.lst xs.reverse))
theorem mt_reverse:MtM X "list.reverse" rReverse:=by
 intro pins s σ H x vs v us Q I rx rv h
 obtain ⟨l,xs,rfl,rfl,hH,q⟩:=h
 cases rx
 have hus:=rv.zero
 subst hus
 obtain ⟨z,its,n,r,hl,e⟩:=I.lstM hH
 refine call_meets F.slot_list_reverse ⟨_,e,rfl⟩ F.entry_list_reverse (F.args_list_reverse_1 _) (AutoSeq1.list_reverse_list_0 l its.toArray n (by rw [List.size_toArray]; omega)) ⟨e,?_⟩
 refine ⟨.non,_,I.lset (its':=its.reverse) hH e (by simp) r.reverse ?_,rfl,q⟩
 rw [List.length_reverse]
 omega
def rCat:R2:=fun x y H Q=>∃ l b xs zs,x = .ref l/\y = .ref b/\H l = some (.lst xs)/\H b = some (.lst zs)/\xs.length + zs.length <= sizeLine/\∀ p,H p = none->Q (.ref p) (upd H p (.lst (xs ++ zs)))
theorem op_cat:OpR X (binaryOp .Add) rCat:=by
 intro pins s σ H x y v u Q I rx ry h
 obtain ⟨l,b,xs,zs,rfl,rfl,hH,hB,hz,q⟩:=h
 cases rx
 cases ry
 obtain ⟨z,its,n,r,hl,e⟩:=I.lstM hH
 obtain ⟨z2,its2,n2,r2,hl2,e2⟩:=I.lstM hB
 refine PySem.P.add_list e e2 ?_ (by rw [List.size_toArray,List.size_toArray]; omega)
 have ea:its.toArray ++ its2.toArray = (its ++ its2).toArray:=by simp
 rw [ea]
 exact ⟨.ref _,_,I.lnew (t':=s.toks) (r.append r2) (by rw [List.length_append]; omega),rfl,q _ I.fresh⟩
end
section
variable {prog:Program} {w:World} {A:Around} {E:Value->Shared->Prop} {s:Shared}
end
section
variable {X:Cx}
end
end L2
namespace L2
open PySem PySem.Spec PyProof.Rows
section
variable {κ:Type} [DecidableEq κ]
def valV (kvs:List (κ × V)) (k:κ):Option V:=(kvs.find? fun kv=>decide (kv.1 = k)).map (·.2)
def putK (kvs:List (κ × V)) (k:κ) (v:V):List (κ × V) :=
 if (kvs.any fun kv=>decide (kv.1 = k)) = true then kvs.map (fun kv=>if kv.1 = k then (kv.1,v) else kv) else kvs ++ [(k,v)]
theorem valV_pos {p:κ × V} {r:List (κ × V)} {k:κ} (e:p.1 = k):valV (p :: r) k = some p.2:=by simp [valV,List.find?_cons,e]
theorem valV_neg {p:κ × V} {r:List (κ × V)} {k:κ} (e:¬ p.1 = k):valV (p :: r) k = valV r k:=by simp [valV,List.find?_cons,e]
theorem valV_any (k:κ):∀ kvs:List (κ × V),(kvs.any fun kv=>decide (kv.1 = k)) = (valV kvs k).isSome
 | []=>rfl
 | p :: r=>by
  rw [List.any_cons]
  by_cases e:p.1 = k
  ·simp only [valV_pos e,decide_eq_true e,Bool.true_or,Option.isSome_some]
  ·rw [valV_neg e,decide_eq_false e,Bool.false_or]; exact valV_any k r
theorem valV_map (k j:κ) (y:V):∀ kvs:List (κ × V),valV (kvs.map fun kv=>if kv.1 = k then (kv.1,y) else kv) j = (valV kvs j).map fun x=>if j = k then y else x
 | []=>rfl
 | p :: r=>by
  have ih:=valV_map k j y r
  rw [List.map_cons]
  by_cases h:p.1 = k
  ·rw [if_pos h]
   by_cases e:p.1 = j
   ·rw [valV_pos (p:=(p.1,y)) e,valV_pos e,Option.map_some,if_pos (e.symm.trans h)]
   ·rw [valV_neg (p:=(p.1,y)) e,valV_neg e,ih]
  ·rw [if_neg h]
   by_cases e:p.1 = j
   ·rw [valV_pos (p:=p) e,valV_pos e,Option.map_some,if_neg (fun z=>h (e.trans z))]
   ·rw [valV_neg (p:=p) e,valV_neg e,ih]
theorem valV_snoc (k j:κ) (y:V):∀ kvs:List (κ × V),valV kvs k = none->valV (kvs ++ [(k,y)]) j = if j = k then some y else valV kvs j
 | [],_=>by
  by_cases e:k = j
  ·rw [if_pos e.symm]; exact valV_pos (p:=(k,y)) e
  ·rw [if_neg (fun z=>e z.symm)]; exact valV_neg (p:=(k,y)) e
 | p :: r,hn=>by
  rw [List.cons_append]
  have hk:¬ p.1 = k:=fun z=>by rw [valV_pos z] at hn; cases hn
  rw [valV_neg hk] at hn
  have ih:=valV_snoc k j y r hn
  by_cases e:p.1 = j
  ·rw [valV_pos e,valV_pos e,if_neg (fun z=>hk (e.trans z))]
  ·rw [valV_neg e,valV_neg e,ih]
theorem valV_put (kvs:List (κ × V)) (k j:κ) (y:V):valV (putK kvs k y) j = if j = k then some y else valV kvs j:=by
 unfold putK
 by_cases a:(kvs.any fun kv=>decide (kv.1 = k)) = true
 ·rw [if_pos a,valV_map]
  rw [valV_any] at a
  by_cases e:j = k
  ·obtain ⟨x,hx⟩:=Option.isSome_iff_exists.mp a
   rw [if_pos e,e,hx,Option.map_some,if_pos rfl]
  ·rw [if_neg e]
   cases valV kvs j with
   | none=>rfl
   | some x=>rw [Option.map_some,if_neg e]
 ·rw [if_neg a]
  refine valV_snoc k j y kvs ?_
  rw [valV_any] at a
  cases q:valV kvs k with
  | none=>rfl
  | some x=>rw [q] at a; exact (a rfl).elim
theorem length_putK (kvs:List (κ × V)) (k:κ) (v:V):(putK kvs k v).length <= kvs.length + 1:=by
 unfold putK
 split
 ·rw [List.length_map]; omega
 ·rw [List.length_append,List.length_cons,List.length_nil]; omega
theorem putK_new {kvs:List (κ × V)} {k:κ} (v:V) (h:valV kvs k = none):putK kvs k v = kvs ++ [(k,v)]:=by
 unfold putK
 rw [valV_any,h]
 exact if_neg (by decide)
theorem RelO.isSome_eq {o:Option V} {u:Option Value} (r:RelO o u):o.isSome = u.isSome:=by
 cases o with
 | none=>cases u with
  | none=>rfl
  | some _=>exact (show False from r).elim
 | some _=>cases u with
  | none=>exact (show False from r).elim
  | some _=>rfl
theorem RelO.getD {o:Option V} {u:Option Value} {d:V} {d':Value} (r:RelO o u) (rd:RelV d d'):RelV (o.getD d) (u.getD d'):=by
 cases o with
 | none=>cases u with
  | none=>exact rd
  | some _=>exact (show False from r).elim
 | some _=>cases u with
  | none=>exact (show False from r).elim
  | some _=>exact r
theorem KV.val {kvs:List (κ × V)} {vs:List (κ × Value)} (r:KV kvs vs) (k:κ):RelO (valV kvs k) (valueAt vs k):=by
 unfold KV at r
 induction r with
 | nil=>exact True.intro
 | @cons p q ps qs h t ih =>
  obtain ⟨h1,h2⟩:=h
  by_cases e:p.1 = k
  ·have e':q.1 = k:=h1.symm.trans e
   have b:valueAt (q :: qs) k = some q.2:=by simp [valueAt,List.find?_cons,e']
   rw [valV_pos e,b]; exact h2
  ·have e':¬ q.1 = k:=fun z=>e (h1.trans z)
   have b:valueAt (q :: qs) k = valueAt qs k:=by simp [valueAt,List.find?_cons,e']
   rw [valV_neg e,b]; exact ih
theorem KV.any {kvs:List (κ × V)} {vs:List (κ × Value)} (r:KV kvs vs) (k:κ):(kvs.any fun kv=>decide (kv.1 = k)) = vs.any fun kv=>decide (kv.1 = k):=by
 unfold KV at r
 induction r with
 | nil=>rfl
 | cons h t ih=>rw [List.any_cons,List.any_cons,ih,h.1]
theorem KV.repl {kvs:List (κ × V)} {vs:List (κ × Value)} (r:KV kvs vs) (k:κ) {y:V} {u:Value} (ry:RelV y u) :
  KV (kvs.map fun kv=>if kv.1 = k then (kv.1,y) else kv) (vs.map fun kv=>if kv.1 = k then (kv.1,u) else kv):=by
 unfold KV at r ⊢
 induction r with
 | nil=>exact .nil
 | @cons p q ps qs h t ih =>
  rw [List.map_cons,List.map_cons]
  refine .cons ?_ ih
  obtain ⟨h1,h2⟩:=h
  by_cases e:p.1 = k
  ·rw [if_pos e,if_pos (h1.symm.trans e)]; exact ⟨h1,ry⟩
  ·rw [if_neg e,if_neg (fun z=>e (h1.trans z))]; exact ⟨h1,h2⟩
theorem KV.put {kvs:List (κ × V)} {vs:List (κ × Value)} (r:KV kvs vs) (k:κ) {y:V} {u:Value} (ry:RelV y u):KV (putK kvs k y) (stored vs k u):=by
 unfold putK stored
 rw [r.any k]
 by_cases e:(vs.any fun kv=>decide (kv.1 = k)) = true
 ·rw [if_pos e,if_pos e]; exact r.repl k ry
 ·rw [if_neg e,if_neg e]; exact Paired.snoc r ⟨rfl,ry⟩
theorem KV.length {kvs:List (κ × V)} {vs:List (κ × Value)} (r:KV kvs vs):kvs.length = vs.length:=Paired.length r
end
theorem kV_is {P:Program} {w:World} {k:Key} {u:Value} (r:RelV (kV k) u):(mixKind P w).is k u = true:=by
 cases k with
 | inl i=>obtain ⟨t,e⟩:=(show ∃ t,u = Value.int i t from r); subst e; exact mixKind_int P w i t
 | inr x=>obtain ⟨t,e⟩:=(show ∃ t,u = Value.str x t from r); subst e; exact mixKind_str P w x t
abbrev KT (H:Hp):List (TK × V)->List (TK × Addr × Value)->Prop:=Paired fun p q=>p.1 = q.1/\TKAt H p.1 (.ref q.2.1)/\p.1.depth <= 8/\RelV p.2 q.2.2
theorem KT.val {H:Hp} {kvs:List (TK × V)} {xs:List (TK × Addr × Value)} (r:KT H kvs xs) (k:TK):RelO (valV kvs k) ((atKey xs k).map (·.2)):=by
 induction r with
 | nil=>exact True.intro
 | @cons p q ps qs h t ih =>
  obtain ⟨h1,_,_,h2⟩:=h
  by_cases e:p.1 = k
  ·have e':q.1 = k:=h1.symm.trans e
   have b:atKey (q :: qs) k = some q.2:=by simp [atKey,List.find?_cons,e']
   rw [valV_pos e,b]; exact h2
  ·have e':¬ q.1 = k:=fun z=>e (h1.trans z)
   have b:atKey (q :: qs) k = atKey qs k:=by simp [atKey,List.find?_cons,e']
   rw [valV_neg e,b]; exact ih
theorem KT.repl {H:Hp} {kvs:List (TK × V)} {xs:List (TK × Addr × Value)} (r:KT H kvs xs) (k:TK) {y:V} {u:Value} (ry:RelV y u) :
  KT H (kvs.map fun kv=>if kv.1 = k then (kv.1,y) else kv) (xs.map (putAt k u)):=by
 induction r with
 | nil=>exact .nil
 | @cons p q ps qs h t ih =>
  rw [List.map_cons,List.map_cons]
  refine .cons ?_ ih
  obtain ⟨h1,h2,h3⟩:=h
  unfold putAt
  by_cases e:p.1 = k
  ·rw [if_pos e,if_pos (h1.symm.trans e)]; exact ⟨h1,h2,h3.1,ry⟩
  ·rw [if_neg e,if_neg (fun z=>e (h1.trans z))]; exact ⟨h1,h2,h3⟩
theorem KT.put {H:Hp} {kvs:List (TK × V)} {xs:List (TK × Addr × Value)} (r:KT H kvs xs) (k:TK) {b:Addr} {y:V} {u:Value} (hb:TKAt H k (.ref b)) (h8:k.depth <= 8) (ry:RelV y u) :
  KT H (putK kvs k y) (storedH xs k b u):=by
 have e:(kvs.any fun kv=>decide (kv.1 = k)) = (atKey xs k).isSome:=by
  rw [valV_any,(r.val k).isSome_eq,Option.isSome_map]
 unfold putK storedH
 rw [e]
 by_cases q:(atKey xs k).isSome = true
 ·rw [if_pos q,if_pos q]; exact r.repl k ry
 ·rw [if_neg q,if_neg q]; exact Paired.snoc r ⟨rfl,hb,h8,ry⟩
theorem KT.keeps {H H':Hp} {kvs:List (TK × V)} {xs:List (TK × Addr × Value)} (r:KT H kvs xs) (ht:∀ b ys,H b = some (.tup ys)->H' b = some (.tup ys)):KT H' kvs xs :=
 Paired.mapP r fun _ _ z=>⟨z.1,TKAt.keeps ht 8 z.2.2.1 z.2.1,z.2.2⟩
section
variable {P:Program} {w:World} {H:Hp} {h:Heap} {a:Addr}
theorem rd_of {u:HO} (ok:HOk P w H h) (e:Rd H a u):ObjOk P w H h a u:=e.ok ok
theorem dk_rd {kvs:List (Key × V)} (ok:HOk P w H h) (e:Rd H a (.dK kvs)):kvs.length <= sizeLine/\(a == sysModules) = false/\∃ vs,KV kvs vs/\h.DictOf (mixKind P w) a vs :=
 show ObjOk P w H h a (.dK kvs) from rd_of ok e
theorem dk_of {kvs:List (Key × V)} (ok:HOk P w H h) (e:H a = some (.dK kvs)):kvs.length <= sizeLine/\(a == sysModules) = false/\∃ vs,KV kvs vs/\h.DictOf (mixKind P w) a vs:=dk_rd ok (.inl e)
theorem tkAt_at (ok:HOk P w H h):∀ (d:Nat) {k:TK} {v:V} {u:Value},k.depth <= d->TKAt H k v->RelV v u->TAt h k u:=by
 have key:∀ (d:Nat) (ih:∀ {k:TK} {v:V} {u:Value},k.depth <= d->TKAt H k v->RelV v u->TAt h k u) (ks:List TK) (vs:List V) (us:List Value),TK.depths ks <= d->TKAts H ks vs->Vals vs us->TAts h ks us:=by
  intro d ih ks
  induction ks with
  | nil =>
   intro vs us _ hx r
   have e:vs = []:=hx
   subst e
   cases r
   rfl
  | cons k ks ihl =>
   intro vs us hd hx r
   obtain ⟨v,vs',rfl,h1,h2⟩:=hx
   cases r with
   | @cons _ u _ us' r1 r2 =>
    have hd':max k.depth (TK.depths ks) <= d:=hd
    exact ⟨u,us',rfl,ih (by omega) h1 r1,ihl vs' us' (by omega) h2 r2⟩
 intro d
 induction d with
 | zero =>
  intro k v u hd hx r
  cases k with
  | t l=>exact absurd hd (by show ¬ (TK.depths l + 1 <= 0); omega)
  | k b =>
   have e:v = kV b:=hx
   subst e
   exact kV_is (P:=P) (w:=w) r
 | succ d ih =>
  intro k v u hd hx r
  cases k with
  | k b =>
   have e:v = kV b:=hx
   subst e
   exact kV_is (P:=P) (w:=w) r
  | t l =>
   obtain ⟨b,xs,rfl,hb,hi⟩:=hx
   cases (show u = Value.ref b from r)
   obtain ⟨_,its,rv,ob,h1,h2,n,h3⟩:=(show ObjOk P w H h b (.tup xs) from ok b _ hb)
   exact ⟨b,ob,its.toArray,n,rfl,h1,h2,h3,by simpa using key d (fun h1=>ih h1) l xs its (by have:TK.depths l + 1 <= d + 1:=hd; omega) hi rv⟩
theorem key_of {k:TK} (ok:HOk P w H h) (e:TKAt H k (.ref a)) (h8:k.depth <= 8):(treeKind P w).is h k a:=⟨tkAt_at ok 8 h8 e rfl,h8⟩
theorem dt_rd {kvs:List (TK × V)} (ok:HOk P w H h) (e:Rd H a (.dT kvs)):kvs.length <= sizeLine/\(a == sysModules) = false /\
  ∃ xs,KT H kvs xs/\h.DictOfH (treeKind P w) a xs:=by
 obtain ⟨z,y,xs,r,o,es,ep,h1,h2,h3,h4,h5⟩:=(show ObjOk P w H h a (.dT kvs) from rd_of ok e)
 refine ⟨z,y,xs,r,o,es,ep,h1,h2,h3,h4,fun x hx=>?_,h5⟩
 have all:∀ {l:List (TK × V)} {m:List (TK × Addr × Value)},KT H l m->∀ x ∈ m,(treeKind P w).is h x.1 x.2.1:=by
  intro l m q
  induction q with
  | nil=>intro x hx; exact nomatch hx
  | @cons p q ps qs hq t ih =>
   intro x hx
   rcases List.mem_cons.mp hx with e | hx
   ·subst e
    exact key_of ok (by rw [<- hq.1]; exact hq.2.1) (by rw [<- hq.1]; exact hq.2.2.1)
   ·exact ih x hx
 exact all r x hx
theorem dt_of {kvs:List (TK × V)} (ok:HOk P w H h) (e:H a = some (.dT kvs)):kvs.length <= sizeLine/\(a == sysModules) = false /\
  ∃ xs,KT H kvs xs/\h.DictOfH (treeKind P w) a xs:=dt_rd ok (.inl e)
end
mutual
def TKIn (K:PySem.W.Frag) (H:Hp):TK->V->Prop
 | .k a,v=>v = kV a
 | .t l,v=>∃ b xs,v = .ref b/\SqT K H b xs/\TKIns K H l xs
def TKIns (K:PySem.W.Frag) (H:Hp):List TK->List V->Prop
 | [],vs=>vs = []
 | k :: r,vs=>∃ v us,vs = v :: us/\TKIn K H k v/\TKIns K H r us
end
theorem TKAt.isIn {K:PySem.W.Frag} {H:Hp}:∀ (d:Nat) {k:TK} {v:V},k.depth <= d->TKAt H k v->TKIn K H k v:=by
 have key:∀ (d:Nat) (ih:∀ {k:TK} {v:V},k.depth <= d->TKAt H k v->TKIn K H k v) (xs:List TK) (vs:List V),TK.depths xs <= d->TKAts H xs vs->TKIns K H xs vs:=by
  intro d ih xs
  induction xs with
  | nil=>intro vs _ hx; exact hx
  | cons x xs ihl =>
   intro vs hd hx
   obtain ⟨v,us,rfl,hx1,hx2⟩:=hx
   have hd':max x.depth (TK.depths xs) <= d:=hd
   exact ⟨v,us,rfl,ih (by omega) hx1,ihl us (by omega) hx2⟩
 intro d
 induction d with
 | zero =>
  intro k v hd hx
  cases k with
  | t l=>exact absurd hd (by show ¬ (TK.depths l + 1 <= 0); omega)
  | k a=>exact hx
 | succ d ih =>
  intro k v hd hx
  cases k with
  | k a=>exact hx
  | t l =>
   obtain ⟨b,xs,rfl,hb,hi⟩:=hx
   exact ⟨b,xs,rfl,SqT.of hb,key d (fun h1=>ih h1) l xs (by have:TK.depths l + 1 <= d + 1:=hd; omega) hi⟩
theorem tkIn_at {X:Cx} {pins:List (Addr × Obj)} {σ:St} {H:Hp} {s:Shared} (I:Inv X pins σ H s):∀ (d:Nat) {k:TK} {v:V} {u:Value},k.depth <= d->TKIn X.K H k v->RelV v u->TAt s.heap k u:=by
 have key:∀ (d:Nat) (ih:∀ {k:TK} {v:V} {u:Value},k.depth <= d->TKIn X.K H k v->RelV v u->TAt s.heap k u) (ks:List TK) (vs:List V) (us:List Value),TK.depths ks <= d->TKIns X.K H ks vs->Vals vs us->TAts s.heap ks us:=by
  intro d ih ks
  induction ks with
  | nil =>
   intro vs us _ hx r
   have e:vs = []:=hx
   subst e
   cases r
   rfl
  | cons k ks ihl =>
   intro vs us hd hx r
   obtain ⟨v,vs',rfl,h1,h2⟩:=hx
   cases r with
   | @cons _ u _ us' r1 r2 =>
    have hd':max k.depth (TK.depths ks) <= d:=hd
    exact ⟨u,us',rfl,ih (by omega) h1 r1,ihl vs' us' (by omega) h2 r2⟩
 intro d
 induction d with
 | zero =>
  intro k v u hd hx r
  cases k with
  | t l=>exact absurd hd (by show ¬ (TK.depths l + 1 <= 0); omega)
  | k b =>
   have e:v = kV b:=hx
   subst e
   exact kV_is (P:=X.prog) (w:=X.w) r
 | succ d ih =>
  intro k v u hd hx r
  cases k with
  | k b =>
   have e:v = kV b:=hx
   subst e
   exact kV_is (P:=X.prog) (w:=X.w) r
  | t l =>
   obtain ⟨b,xs,rfl,hb,hi⟩:=hx
   cases (show u = Value.ref b from r)
   obtain ⟨its,rv,⟨ob,h1,h2,n,h3⟩,_⟩:=I.tuple hb
   exact ⟨b,ob,its.toArray,n,rfl,h1,h2,h3,by simpa using key d (fun h1=>ih h1) l xs its (by have:TK.depths l + 1 <= d + 1:=hd; omega) hi rv⟩
theorem key_in {X:Cx} {pins:List (Addr × Obj)} {σ:St} {H:Hp} {s:Shared} {k:TK} {b:Addr} (I:Inv X pins σ H s) (e:TKIn X.K H k (.ref b)) (h8:k.depth <= 8):(treeKind X.prog X.w).is s.heap k b:=⟨tkIn_at I 8 h8 e rfl,h8⟩
theorem tree_room {P:Program} {w:World} {A:Around} (hu:A.units + 16 < cLine):(treeKind P w).room A.in1:=by
 show A.units + 1 + 8 < cLine
 omega
def DGet (K:PySem.W.Frag) (H:Hp) (a:Addr) (y:V) (r:Option V):Prop :=
 (∃ kvs k,Rd H a (.dK kvs)/\y = kV k/\r = valV kvs k) ∨ ∃ kvs k b,Rd H a (.dT kvs)/\y = .ref b/\TKIn K H k (.ref b)/\k.depth <= 8/\r = valV kvs k
def DPut (H:Hp) (a:Addr) (y v:V) (H':Hp):Prop :=
 (∃ kvs k,H a = some (.dK kvs)/\y = kV k/\kvs.length < sizeLine/\H' = upd H a (.dK (putK kvs k v))) ∨
 ∃ kvs k b,H a = some (.dT kvs)/\y = .ref b/\TKAt H k (.ref b)/\k.depth <= 8/\kvs.length < sizeLine/\H' = upd H a (.dT (putK kvs k v))
theorem DPut.k {H:Hp} {a:Addr} {kvs:List (Key × V)} {k:Key} {v:V} (e:H a = some (.dK kvs)) (hl:kvs.length < sizeLine):DPut H a (kV k) v (upd H a (.dK (putK kvs k v))):=.inl ⟨kvs,k,e,rfl,hl,rfl⟩
section
variable {X:Cx} {pins:List (Addr × Obj)} {σ:St} {H:Hp} {s:Shared} {a:Addr} {y v:V} {u r:Value} {o:Option V} {A:Around} {E:Value->Shared->Prop}
theorem Inv.big (I:Inv X pins σ H s):sysModules < s.heap.objs.size:=by
 have h:mainGlobals < s.heap.objs.size:=(I.mod.glob.keeps I.bk).lt
 exact Nat.lt_trans (by decide) h
theorem d_getItem {Q:Value->Shared->Prop} (hu:A.units + 16 < cLine) (I:Inv X pins σ H s) (g:DGet X.K H a y (some v)) (ry:RelV y u) (h:∀ w' s',Inv X pins σ H s'->RelV v w'->Q w' s') :
  wpAny (model X.prog X.w) A (getItem (.ref a) u) Q E s:=by
 rcases g with ⟨kvs,k,e,ey,l⟩ | ⟨kvs,k,b,e,ey,eb,e8,l⟩
 ·subst ey
  obtain ⟨z,hd,vs,rel,dd⟩:=dk_rd I.hok e
  obtain ⟨w',hw,rw'⟩:=RelO.some_of (v:=v) (o:=valueAt vs k) (by rw [l]; exact rel.val k)
  exact wpAny_getItem_of (kV_is ry) dd.mapOf hw (h w' _ (I.tok _) rw')
 ·subst ey
  cases (show u = Value.ref b from ry)
  obtain ⟨z,hd,xs,rel,dd⟩:=dt_rd I.hok e
  obtain ⟨w',hw,rw'⟩:=RelO.some_of (v:=v) (o:=(atKey xs k).map (·.2)) (by rw [l]; exact rel.val k)
  obtain ⟨p,hp,hp2⟩:=Option.map_eq_some_iff.mp hw
  refine wpAny_getItem_heap (tree_room hu) (key_in I eb e8) dd hp ?_
  rw [hp2]
  exact h w' _ (I.tok _) rw'
theorem d_in {Q:Value->Shared->Prop} (hu:A.units + 16 < cLine) (I:Inv X pins σ H s) (g:DGet X.K H a y o) (ry:RelV y u) (h:∀ s',Inv X pins σ H s'->Q (.bool o.isSome) s') :
  wpAny (model X.prog X.w) A (compareOp .In u (.ref a)) Q E s:=by
 rcases g with ⟨kvs,k,e,ey,l⟩ | ⟨kvs,k,b,e,ey,eb,e8,l⟩
 ·subst ey
  obtain ⟨z,hd,vs,rel,dd⟩:=dk_rd I.hok e
  refine wpAny_in_of (kV_is ry) hd dd.mapOf ?_
  rw [<- (rel.val k).isSome_eq,<- l]
  exact h _ (I.tok _)
 ·subst ey
  cases (show u = Value.ref b from ry)
  obtain ⟨z,hd,xs,rel,dd⟩:=dt_rd I.hok e
  refine wpAny_in_heap (tree_room hu) (key_in I eb e8) hd dd ?_
  have q:=(rel.val k).isSome_eq
  rw [Option.isSome_map] at q
  rw [<- q,<- l]
  exact h _ (I.tok _)
theorem d_notIn {Q:Value->Shared->Prop} (hu:A.units + 16 < cLine) (I:Inv X pins σ H s) (g:DGet X.K H a y o) (ry:RelV y u) (h:∀ s',Inv X pins σ H s'->Q (.bool (!o.isSome)) s') :
  wpAny (model X.prog X.w) A (compareOp .NotIn u (.ref a)) Q E s:=by
 rcases g with ⟨kvs,k,e,ey,l⟩ | ⟨kvs,k,b,e,ey,eb,e8,l⟩
 ·subst ey
  obtain ⟨z,hd,vs,rel,dd⟩:=dk_rd I.hok e
  refine wpAny_notIn_of (kV_is ry) hd dd.mapOf ?_
  rw [<- (rel.val k).isSome_eq,<- l]
  exact h _ (I.tok _)
 ·subst ey
  cases (show u = Value.ref b from ry)
  obtain ⟨z,hd,xs,rel,dd⟩:=dt_rd I.hok e
  refine wpAny_notIn_heap (tree_room hu) (key_in I eb e8) hd dd ?_
  have q:=(rel.val k).isSome_eq
  rw [Option.isSome_map] at q
  rw [<- q,<- l]
  exact h _ (I.tok _)
theorem d_write {h':Heap} {t':Nat} {ob:HO} (I:Inv X pins σ H s) (mu:Mut (H a)) (hs:Heap.SameBut a s.heap h') (he:∃ q,h'.get? a = some q) (new:ObjOk X.prog X.w (upd H a ob) h' a ob) :
  Inv X pins σ (upd H a ob) { s with heap:=h',toks:=t' } :=
 I.write (x:=a) (e:=a) mu (.inl rfl) (fun b q hb z=>(hs.2 b hb).trans z) he new
theorem dk_new {P:Program} {w:World} {H':Hp} {h':Heap} {kvs:List (Key × V)} {vs:List (Key × Value)} (z:kvs.length <= sizeLine) (hd:(a == sysModules) = false) (rel:KV kvs vs) (dd:h'.DictOf (mixKind P w) a vs) :
  ObjOk P w H' h' a (.dK kvs):=⟨z,hd,vs,rel,dd⟩
theorem d_setItem {H':Hp} {Q:Unit->Shared->Prop} (hu:A.units + 16 < cLine) (I:Inv X pins σ H s) (g:DPut H a y v H') (ry:RelV y u) (rv:RelV v r) (h:∀ s',Inv X pins σ H' s'->Q () s') :
  wpAny (model X.prog X.w) A (setItem (.ref a) u r) Q E s:=by
 rcases g with ⟨kvs,k,e,ey,l,eH⟩ | ⟨kvs,k,b,e,ey,eb,e8,l,eH⟩
 ·subst ey eH
  obtain ⟨z,hd,vs,rel,dd⟩:=dk_of I.hok e
  have hz:vs.length <= sizeLine:=by rw [<- rel.length]; exact z
  have hl:(putK kvs k v).length <= sizeLine:=by have:=length_putK kvs k v; omega
  refine wpAny_setItem_pairs (hsz:=hz) (kV_is ry) dd fun h' dd' hs=>h _ ?_
  have he:∃ q,h'.get? a = some q:=let ⟨q,_,_,hq,_⟩:=dd'; ⟨q,hq⟩
  exact d_write I (by rw [e]; exact True.intro) hs he (dk_new hl hd (rel.put k rv) dd')
 ·subst ey eH
  cases (show u = Value.ref b from ry)
  obtain ⟨z,hd,xs,rel,dd⟩:=dt_of I.hok e
  have hz:xs.length <= sizeLine:=by rw [<- Paired.length rel]; exact z
  have hl:(putK kvs k v).length <= sizeLine:=by have:=length_putK kvs k v; omega
  refine wpAny_setItem_heap (hsz:=hz) (tree_room hu) (key_of I.hok eb e8) dd fun h' dd' hs=>h _ ?_
  obtain ⟨q,es,ep,hq,h2,h3,h4,_,h5⟩:=dd'
  refine d_write I (by rw [e]; exact True.intro) hs ⟨q,hq⟩ ⟨hl,hd,_,(rel.put k eb e8 rv).keeps fun c ys ec=>?_,q,es,ep,hq,h2,h3,h4,h5⟩
  rw [upd_ne (ne_of ec e (fun z=>nomatch z))]
  exact ec
end
section
variable {X:Cx} {pins:List (Addr × Obj)} {σ:St} {H:Hp} {s:Shared} {a:Addr} {kvs:List (Key × V)} {k:Key} {u:Value} {A:Around} {E:Value->Shared->Prop}
theorem d_len {Q:Value->Shared->Prop} (I:Inv X pins σ H s) (e:Rd H a (.dK kvs)) (h:∀ t s',Inv X pins σ H s'->Q (.int kvs.length t) s'):wpAny (model X.prog X.w) A (call (.builtin "len") [.ref a]) Q E s:=by
 obtain ⟨z,hd,vs,rel,dd⟩:=dk_rd I.hok e
 refine call_len_dict hd dd (by rw [<- rel.length]; rw [sizeLine_eq] at z; omega) ?_
 rw [<- rel.length]
 exact h _ _ (I.tok _)
end
def NoSl (i:Expr):Prop:=∀ ov iv,subscripted i false ov iv = operate [ov,iv] (getItem ov iv)
theorem subD_of {prog:Program} {w:World} {A:Around} {E:Value->Shared->Prop} {s:Shared} {env:Env} {value slice:Expr} {pos:Pos} {T id:String} {Q:Value->Shared->Prop}
  (hl:typeLookup (.type T) "__getitem__" = pure (some (.builtin id))) (hs:NoSl slice)
  (h:wpAny (model prog w) A (eval value env) (fun o s₁=>wpAny (model prog w) A (eval slice env) (fun i s₂=>s₂.TypeIs o T/\wpAny (model prog w) A (getItem o i) Q E s₂) E s₁) E s) :
  wpAny (model prog w) A (eval (.Subscript value slice pos) env) Q E s:=by
 refine Subscript_ (wpAny_mono h (fun o s₁ h₁=>wpAny_mono h₁ (fun i s₂ h₂=>?_) fun _ _ x=>x) fun _ _ x=>x)
 obtain ⟨hT,h₂⟩:=h₂
 unfold subscriptTail
 refine wpAny_bind ?_
 rw [getitemInPython_of_ne hT.not_modules]
 refine wpAny_bind (wpAny_specialOf hT hl ?_)
 have fin:wpAny (model prog w) A (subscripted slice false o i) (fun r s₃=>wpAny (model prog w) A (letTemporaryGo value o r >>= fun _=>pure r) Q E s₃) E s₂:=by
  rw [hs o i]
  exact wpAny_operating (wpAny_mono h₂ (fun r s₃ h₃=>wpAny_bind (wpAny_letTemporaryGo (wpAny_pure h₃))) fun _ _ x=>x)
 first
  | exact wpAny_pure (wpAny_bind fin)
  | exact wpAny_bind (wpAny_pure (wpAny_bind fin))
  | exact wpAny_bind fin
theorem dict_typeIs {X:Cx} {pins:List (Addr × Obj)} {σ:St} {H:Hp} {s:Shared} {a:Addr} {y:V} {o:Option V} (I:Inv X pins σ H s) (g:DGet X.K H a y o):s.TypeIs (.ref a) "dict":=by
 rcases g with ⟨kvs,k,e,_,_⟩ | ⟨kvs,k,b,e,_,_,_⟩
 ·obtain ⟨_,_,vs,_,dd⟩:=dk_rd I.hok e
  exact dd.typeIs
 ·obtain ⟨_,_,xs,_,dd⟩:=dt_rd I.hok e
  exact dd.typeIs
def tDGet (K:PySem.W.Frag) (td ty:TE):TE:=fun σ H Q=>td σ H fun x H1=>ty σ H1 fun y H2=>∃ a v,x = .ref a/\DGet K H2 a y (some v)/\Q v H2
def tDIn (K:PySem.W.Frag) (ty td:TE):TE:=fun σ H Q=>ty σ H fun y H1=>td σ H1 fun x H2=>∃ a o,x = .ref a/\DGet K H2 a y o/\Q (.bl o.isSome) H2
def tDNotIn (K:PySem.W.Frag) (ty td:TE):TE:=fun σ H Q=>ty σ H fun y H1=>td σ H1 fun x H2=>∃ a o,x = .ref a/\DGet K H2 a y o/\Q (.bl (!o.isSome)) H2
def sDPut (td ty tv:TE):TS:=fun D σ H=>tv σ H fun v H1=>td σ H1 fun x H2=>ty σ H2 fun y H3=>∃ a H4,x = .ref a/\DPut H3 a y v H4/\D.nx σ H4
section
variable {X:Cx} {o i e value:Expr} {pos pos' tpos:Pos} {td ty tv:TE}
theorem pe_dget (hu:X.A.units + 16 < cLine) (ho:PE X o td) (hi:PE X i ty) (hs:NoSl i):PE X (.Subscript o i pos) (tDGet X.K td ty):=by
 intro pins s σ H Q I h
 refine subD_of PySem.F.slot_dict_getitem.lookup hs (thn (ho pins s σ H _ I h) fun u s1 ⟨x,H1,I1,rx,q1⟩=>thn (hi pins s1 σ H1 _ I1 q1) fun iv s2 ⟨y,H2,I2,ry,a,v,ex,g,q2⟩=>?_)
 subst ex
 obtain rfl:u = Value.ref a:=rx
 exact ⟨dict_typeIs I2 g,d_getItem hu I2 g ry fun w' s3 I3 rw'=>⟨v,H2,I3,rw',q2⟩⟩
theorem pc_din (hu:X.A.units + 16 < cLine) (hi:PE X i ty) (ho:PE X o td):PC X .In i o (tDIn X.K ty td):=by
 intro pins s σ H Q I h
 refine thn (hi pins s σ H _ I h) fun iv s1 ⟨y,H1,I1,ry,q1⟩=>thn (ho pins s1 σ H1 _ I1 q1) fun u s2 ⟨x,H2,I2,rx,a,ov,ex,g,q2⟩=>?_
 subst ex
 obtain rfl:u = Value.ref a:=rx
 exact d_in hu I2 g ry fun s3 I3=>⟨.bl ov.isSome,H2,I3,rfl,q2⟩
theorem pc_dnotin (hu:X.A.units + 16 < cLine) (hi:PE X i ty) (ho:PE X o td):PC X .NotIn i o (tDNotIn X.K ty td):=by
 intro pins s σ H Q I h
 refine thn (hi pins s σ H _ I h) fun iv s1 ⟨y,H1,I1,ry,q1⟩=>thn (ho pins s1 σ H1 _ I1 q1) fun u s2 ⟨x,H2,I2,rx,a,ov,ex,g,q2⟩=>?_
 subst ex
 obtain rfl:u = Value.ref a:=rx
 exact d_notIn hu I2 g ry fun s3 I3=>⟨.bl (!ov.isSome),H2,I3,rfl,q2⟩
theorem ps_dput (hu:X.A.units + 16 < cLine) (ho:PE X o td) (hi:PE X i ty) (hv:PE X value tv) (hs:swapsWith value (some (.Subscript o i pos')) pos.line X.env = pure false) :
  PS X (.Assign [.Subscript o i pos'] value pos) (sDPut td ty tv):=by
 intro pins s σ H D I h
 refine wpAny_Assign_Subscript (thn (hv pins s σ H _ I h) fun r s1 ⟨v,H1,I1,rv,q1⟩=>thn (ho pins s1 σ H1 _ I1 q1) fun u s2 ⟨x,H2,I2,rx,q2⟩=>thn (hi pins s2 σ H2 _ I2 q2) fun iv s3 ⟨y,H3,I3,ry,a,H4,ex,g,q3⟩=>?_) hs
 subst ex
 obtain rfl:u = Value.ref a:=rx
 exact d_setItem hu I3 g ry rv fun s4 I4=>⟨σ,H4,I4,q3⟩
end
theorem dk_empty {P:Program} {w:World} {H:Hp} (h:Heap) (hb:sysModules < h.objs.size):ObjOk P w H (h.push { cls:=.type "dict",data:=.dict #[] }) h.objs.size (.dK []) :=
 ⟨Nat.zero_le _,beq_eq_false_iff_ne.mpr (Ne.symm (Nat.ne_of_lt hb)),[],.nil,Heap.DictOf.new h⟩
theorem dt_empty {P:Program} {w:World} {H:Hp} (h:Heap) (hb:sysModules < h.objs.size):ObjOk P w H (h.push { cls:=.type "dict",data:=.dict #[] }) h.objs.size (.dT []) :=
 ⟨Nat.zero_le _,beq_eq_false_iff_ne.mpr (Ne.symm (Nat.ne_of_lt hb)),[],.nil,_,#[],0,Heap.get?_push_size _ rfl,⟨rfl,rfl,rfl⟩,rfl,rfl,List.nodup_nil⟩
def tDNewK:TE:=fun _ H Q=>∀ p,H p = none->Q (.ref p) (upd H p (.dK []))
def tDNewT:TE:=fun _ H Q=>∀ p,H p = none->Q (.ref p) (upd H p (.dT []))
section
variable {X:Cx} {pos:Pos}
theorem pe_dnewK:PE X (.Dict [] [] pos) tDNewK:=fun pins s σ H Q I h =>
 wpAny_Dict_empty ⟨.ref s.heap.objs.size,_,I.laid (a:=s.heap.objs.size) (o:=.dK []) (t':=s.toks) (fun _ _ q=>Heap.get?_push_of_some _ q) (Nat.le_refl _) (dk_empty s.heap I.big),rfl,h _ (I.hok.fresh (Nat.le_refl _))⟩
theorem pe_dnewT:PE X (.Dict [] [] pos) tDNewT:=fun pins s σ H Q I h =>
 wpAny_Dict_empty ⟨.ref s.heap.objs.size,_,I.laid (a:=s.heap.objs.size) (o:=.dT []) (t':=s.toks) (fun _ _ q=>Heap.get?_push_of_some _ q) (Nat.le_refl _) (dt_empty s.heap I.big),rfl,h _ (I.hok.fresh (Nat.le_refl _))⟩
end
def tPairs:List (TE × TE)->St->Hp->(List (V × V)->Hp->Prop)->Prop
 | [],_,H,Q=>Q [] H
 | (tk,tv) :: r,σ,H,Q=>tk σ H fun x H1=>tv σ H1 fun y H2=>tPairs r σ H2 fun ps H3=>Q ((x,y) :: ps) H3
abbrev VV:List (V × V)->List (Value × Value)->Prop:=Paired fun p q=>RelV p.1 q.1/\RelV p.2 q.2
def PPs (X:Cx) (pos:Pos) (keys:List (Option Expr)) (values:List Expr) (trs:List (TE × TE)):Prop :=
 ∀ (pins:List (Addr × Obj)) (s:Shared) (σ:St) (H:Hp) (Q:List (V × V)->Hp->Prop),Inv X pins σ H s->tPairs trs σ H Q ->
  wpAny (model X.prog X.w) X.A (evalPairs (pairTrees keys values X.env pos)) (fun vs s'=>∃ ps H',Inv X pins σ H' s'/\VV ps vs/\Q ps H') X.xe s
theorem pps_nil {X:Cx} {pos:Pos}:PPs X pos [] [] []:=fun pins s σ H Q I h=>pairTrees_nil_walk ⟨[],H,I,.nil,h⟩
theorem pps_cons {X:Cx} {pos:Pos} {k v:Expr} {ks:List (Option Expr)} {vs:List Expr} {tk tv:TE} {trs:List (TE × TE)} (hk:PE X k tk) (hv:PE X v tv) (hr:PPs X pos ks vs trs) :
  PPs X pos (some k :: ks) (v :: vs) ((tk,tv) :: trs):=fun pins s σ H Q I h =>
 pairTrees_cons_walk (thn (hk pins s σ H _ I h) fun u s1 ⟨x,H1,I1,rx,q1⟩=>thn (hv pins s1 σ H1 _ I1 q1) fun w2 s2 ⟨y,H2,I2,ry,q2⟩ =>
  thn (hr pins s2 σ H2 _ I2 q2) fun ws s3 ⟨ps,H3,I3,rel,q3⟩=>⟨(x,y) :: ps,H3,I3,.cons ⟨rx,ry⟩ rel,q3⟩)
def mergeK (kvs more:List (Key × V)):List (Key × V):=more.foldl (fun acc kv=>putK acc kv.1 kv.2) kvs
theorem KV.merge:∀ {more:List (Key × V)} {rs:List (Key × Value)} {kvs:List (Key × V)} {vs:List (Key × Value)},KV more rs->KV kvs vs->KV (mergeK kvs more) (merged vs rs):=by
 intro more rs kvs vs r
 unfold KV at r
 induction r generalizing kvs vs with
 | nil=>intro q; exact q
 | @cons p q ps qs h t ih =>
  intro r0
  have e:KV (putK kvs p.1 p.2) (stored vs q.1 q.2):=by
   have:=r0.put p.1 h.2
   rw [<- h.1]; exact this
  exact ih e
theorem length_mergeK:∀ (more kvs:List (Key × V)),(mergeK kvs more).length <= kvs.length + more.length
 | [],kvs=>by show kvs.length <= kvs.length + 0; omega
 | p :: r,kvs=>by
  have h1:=length_mergeK r (putK kvs p.1 p.2)
  have h2:=length_putK kvs p.1 p.2
  show (mergeK (putK kvs p.1 p.2) r).length <= _
  rw [List.length_cons]; omega
theorem carries_of {P:Program} {w:World}:∀ {kvs:List (Key × V)} {ws:List (Value × Value)},VV (kvs.map fun kv=>(kV kv.1,kv.2)) ws->∃ rs,Carries (mixKind P w) ws rs/\KV kvs rs
 | [],_,r=>by rw [List.map_nil] at r; cases r; exact ⟨[],True.intro,.nil⟩
 | p :: kvs,_,r=>by
  rw [List.map_cons] at r
  cases r with
  | @cons a b as bs h t =>
   obtain ⟨rs,c,q⟩:=carries_of (P:=P) (w:=w) t
   obtain ⟨b1,b2⟩:=b
   exact ⟨(p.1,b2) :: rs,⟨kV_is h.1,rfl,c⟩,.cons ⟨rfl,h.2⟩ q⟩
def tDisp (trs:List (TE × TE)):TE:=fun σ H Q=>∀ p,H p = none->tPairs trs σ (upd H p (.dK [])) fun ps H2=>H2 p = some (.dK [])/\∃ kvs:List (Key × V),ps = kvs.map (fun kv=>(kV kv.1,kv.2))/\kvs.length <= 15/\Q (.ref p) (upd H2 p (.dK (mergeK [] kvs)))
theorem pe_disp {X:Cx} {pos:Pos} {keys:List (Option Expr)} {values:List Expr} {trs:List (TE × TE)} (h:PPs X pos keys values trs) (hall:keys.all (·.isSome) = true) (hl:keys.length = values.length) (h0:keys ≠ [])
  (h15:keys.length <= 15):PE X (.Dict keys values pos) (tDisp trs):=by
 intro pins s σ H Q I q
 have hn:=I.hok.fresh (Nat.le_refl s.heap.objs.size)
 have I1:=I.laid (a:=s.heap.objs.size) (o:=.dK []) (h':=s.heap.push { cls:=.type "dict",data:=.dict #[] }) (t':=s.toks) (fun _ _ q=>Heap.get?_push_of_some _ q) (Nat.le_refl _) (dk_empty s.heap I.big)
 refine wpAny_Dict_walk (knd:=mixKind X.prog X.w) hall hl h0 h15 (thn (h pins _ σ _ _ I1 (q _ hn)) fun ws s2 ⟨ps,H2,I2,rel,e,kvs,ep,lk,q2⟩=>?_)
 subst ep
 obtain ⟨rs,c,rk⟩:=carries_of (P:=X.prog) (w:=X.w) rel
 obtain ⟨z,hd,vs0,r0,dd⟩:=dk_of I2.hok e
 cases r0
 refine ⟨rs,c,dd,fun h' dd' hs=>⟨.ref s.heap.objs.size,_,?_,rfl,q2⟩⟩
 have hz:(mergeK [] kvs).length <= sizeLine:=by
  have h1:=length_mergeK kvs []
  rw [List.length_nil] at h1
  rw [sizeLine_eq]; omega
 have he:∃ q,h'.get? s.heap.objs.size = some q:=let ⟨q,_,_,hq,_⟩:=dd'; ⟨q,hq⟩
 exact d_write I2 (by rw [e]; exact True.intro) hs he (dk_new hz hd (rk.merge .nil) dd')
structure M1 (X:Cx) (o:Expr) (m:Str) (apos:Pos) (e:Expr) (cpos:Pos):Prop where
 base:attributeBase o m X.env (eval o X.env) = eval o X.env
 few:((backTo cpos (starEach [e] X.env)).all (fun x=>!x.1) && (backToKw cpos (keywordEach [] X.env)).all (fun x=>x.1.isSome)
  && decide (([e]:List Expr).length + ([]:List Keyword).length + (if ([]:List Keyword).isEmpty then 0 else 1) < 30)) = true
 line:(apos.endLine == cpos.line) = true
 trees:backTo cpos (starEach [e] X.env) = [(false,eval e X.env)]
structure M2 (X:Cx) (o:Expr) (m:Str) (apos:Pos) (e f:Expr) (cpos:Pos):Prop where
 base:attributeBase o m X.env (eval o X.env) = eval o X.env
 few:((backTo cpos (starEach [e,f] X.env)).all (fun x=>!x.1) && (backToKw cpos (keywordEach [] X.env)).all (fun x=>x.1.isSome)
  && decide (([e,f]:List Expr).length + ([]:List Keyword).length + (if ([]:List Keyword).isEmpty then 0 else 1) < 30)) = true
 line:(apos.endLine == cpos.line) = true
 trees:backTo cpos (starEach [e,f] X.env) = [(false,eval e X.env),(false,eval f X.env)]
def IsD (H:Hp) (a:Addr):Prop:=(∃ kvs,Rd H a (.dK kvs)) ∨ ∃ kvs,Rd H a (.dT kvs)
theorem isD_at {X:Cx} {pins:List (Addr × Obj)} {σ:St} {H:Hp} {s:Shared} {a:Addr} (I:Inv X pins σ H s) (d:IsD H a) :
  s.TypeIs (.ref a) "dict"/\(∀ b,Value.ref a = .ref b->∃ ob,s.heap.get? b = some ob/\ob.dict = none)/\(a == sysModules) = false:=by
 rcases d with ⟨kvs,e⟩ | ⟨kvs,e⟩
 ·obtain ⟨_,hd,vs,_,dd⟩:=dk_rd I.hok e
  refine ⟨dd.typeIs,fun b q=>?_,hd⟩
  cases q
  obtain ⟨ob,_,_,h1,h2,_⟩:=dd
  exact ⟨ob,h1,h2.2.1⟩
 ·obtain ⟨_,hd,xs,_,dd⟩:=dt_rd I.hok e
  refine ⟨dd.typeIs,fun b q=>?_,hd⟩
  cases q
  obtain ⟨ob,_,_,h1,h2,_⟩:=dd
  exact ⟨ob,h1,h2.2.1⟩
section
variable {X:Cx} {pins:List (Addr × Obj)} {σ:St} {H:Hp} {s:Shared} {a:Addr} {y d:V} {u r:Value} {o:Option V} {A:Around} {E:Value->Shared->Prop}
theorem d_get2 {Q:Value->Shared->Prop} (hu:A.units + 16 < cLine) (I:Inv X pins σ H s) (g:DGet X.K H a y o) (ry:RelV y u) (rd:RelV d r) (h:∀ w' s',Inv X pins σ H s'->RelV (o.getD d) w'->Q w' s') :
  wpAny (model X.prog X.w) A (call (.builtin "dict.get") [.ref a,u,r]) Q E s:=by
 rcases g with ⟨kvs,k,e,ey,l⟩ | ⟨kvs,k,b,e,ey,eb,e8,l⟩
 ·subst ey
  obtain ⟨z,hd,vs,rel,dd⟩:=dk_rd I.hok e
  refine call_meetsIn PySem.F.slot_dict_get dd.typeIs PySem.F.entry_dict_get (PySem.F.args_dict_get_3 _ _ _) (meets_dict_get_default (mixKind X.prog X.w) a (kV_is ry) hd r) ⟨_,dd.mapOf,h _ _ (I.tok _) ?_⟩
  rw [l]
  exact (rel.val k).getD rd
 ·subst ey
  cases (show u = Value.ref b from ry)
  obtain ⟨z,hd,xs,rel,dd⟩:=dt_rd I.hok e
  refine call_meetsIn PySem.F.slot_dict_get dd.typeIs PySem.F.entry_dict_get (PySem.F.args_dict_get_3 _ _ _) (meetsH_dict_get_default (treeKind X.prog X.w) a b hd r) ⟨tree_room hu,k,xs,key_in I eb e8,dd,h _ _ (I.tok _) ?_⟩
  rw [l]
  exact (rel.val k).getD rd
end
def tDGet2 (K:PySem.W.Frag) (td ty tx:TE):TE:=fun σ H Q=>td σ H fun x H1=>∃ a,x = .ref a/\IsD H1 a/\ty σ H1 fun y H2=>tx σ H2 fun z H3=>∃ o,DGet K H3 a y o/\Q (o.getD z) H3
section
variable {X:Cx} {o e f:Expr} {apos cpos:Pos} {td ty tx:TE}
theorem pe_dget2 (hu:X.A.units + 16 < cLine) (ho:PE X o td) (he:PE X e ty) (hf:PE X f tx) (m:M2 X o "get" apos e f cpos):PE X (.Call (.Attribute o "get" apos) [e,f] [] cpos) (tDGet2 X.K td ty tx):=by
 intro pins s σ H Q I h
 refine wpAny_Call_method m.base m.few m.line PySem.F.plainAttrs_dict PySem.F.slot_dict_get PySem.F.type_dict_get (thn (ho pins s σ H _ I h) fun u s1 ⟨x,H1,I1,rx,a,ex,d,q1⟩=>?_)
 subst ex
 obtain rfl:u = Value.ref a:=rx
 obtain ⟨t1,t2,_⟩:=isD_at I1 d
 refine ⟨t1,t2,?_⟩
 rw [m.trees]
 refine Calls.callWith_builtin rfl (Calls.evalArgs_plain (Calls.spliced_cons (thn (he pins s1 σ H1 _ I1 q1) fun iv s2 ⟨y,H2,I2,ry,q2⟩ =>
  Calls.spliced_cons (thn (hf pins s2 σ H2 _ I2 q2) fun fv s3 ⟨z,H3,I3,rz,ov,g,q3⟩=>Calls.spliced_nil ?_))))
 exact d_get2 hu I3 g ry rz fun w' s4 I4 rw'=>⟨_,H3,I4,rw',q3⟩
end
section
variable {X:Cx} {pins:List (Addr × Obj)} {σ:St} {H:Hp} {s:Shared} {a:Addr} {kvs:List (Key × V)} {A:Around} {E:Value->Shared->Prop}
end
section
variable {X:Cx} {pins:List (Addr × Obj)} {σ:St} {H:Hp} {s:Shared} {a:Addr} {y:V} {u:Value} {A:Around} {E:Value->Shared->Prop}
end
end L2
namespace Att
open PySem PySem.W PySem.Calls PyProof.Rows
theorem ints_of_wellAll {P:Params} {h:Heap}:∀ (ns:List Int) (vs:List Value),WellAll P h vs (ns.map WData.int)->IntsAre vs ns:=by
 intro ns
 induction ns with
 | nil =>
  intro vs w
  rw [List.map_nil] at w
  cases w
  exact .nil
 | cons n ns ih =>
  intro vs w
  rw [List.map_cons] at w
  cases w with
  | cons a b =>
   cases a
   exact .cons _ _ (ih _ b)
theorem script_of {l:OpenLaw} {n:Nat} (hn:l.most = some n) {P:Params} {h:Heap} {args:List WData} {vals:List Value}
  (hpre:l.row.toRowW.claim.pre args = true) (hwl:WellAll P h vals args) :
  ∃ a vs ns,vals = [Value.ref a]/\args = [WData.list (ns.map WData.int)]/\h.get? a = some { cls:=.type "list",data:=.seq vs.toArray }/\IntsAre vs ns/\ns.length <= n:=by
 have hsh:WShape.hasAll [] args [.list .int] = true:=(pre_splitW hpre).1
 have hc:l.pre.holds [] { args:=args } = true:=(pre_splitW hpre).2
 obtain ⟨d,r,rfl,h1,h2⟩:=hasAllW_cons hsh
 obtain rfl:=hasAllW_nil h2
 obtain ⟨xs,rfl,h3⟩:=hasW_list h1
 obtain ⟨ns,rfl⟩:=items_int h3
 have hlen:ns.length <= n:=by
  unfold OpenLaw.pre at hc
  have h4:(WTm.not (.lt (.lit (.int (n:Int))) (.len (.arg 0)))).holds [] { args:=[.list (ns.map .int)] } = true:=by
   have h4:=(holds_andW hc).1
   rw [hn] at h4
   exact h4
  have h5:=condW_of h4 (w_not (w_lt w_lit (w_len_list (w_arg rfl))))
  rw [List.length_map] at h5
  refine Nat.le_of_not_lt fun q=>?_
  have q':(n:Int) < ((ns.length:Nat):Int):=by omega
  first
   | (rw [decide_eq_true q'] at h5; exact absurd h5 (by decide))
   | (simp at h5; omega)
 cases hwl with
 | cons w1 w2 =>
  cases w2
  cases w1 with
  | list ho hall=>exact ⟨_,_,ns,rfl,rfl,ho,ints_of_wellAll ns _ hall,hlen⟩
theorem post_true (l:OpenLaw) (args:List WData):l.row.toRowW.claim.post args (.bool true) args = true :=
 postW_of (r:=l.row.toRowW) (X:=(true == true))
  (show WShape.has [] (.bool true) .bool = true by first | rfl | decide | simp [WShape.has,WShape.arms,WShape.armsAll])
  (show (WTm.eq .res (.lit (.bool true))).value [] { args:=args,res:=some (.bool true),after:=args } = some (.bool (true == true)) from w_eq_bool (w_res rfl) w_lit) rfl
theorem attach_call {l:OpenLaw} {n:Nat} {q:Program} {loose:List Str} {XP:(Str->Option Value)->Heap->Prop} {YP:World->Heap->Prop} {d:DefRec}
  (hn:l.most = some n) (hdf:d.params.defaults = [])
  (call:∀ (w:World) (s₀ s₁:Shared) (mg mb:Str->Option Value) (fa:Addr) (o:Obj) (pm cd doc:Value) (a:Addr) (vs:List Value) (ns:List Int),
   Ground q loose [] XP w s₀ mg mb s₁.heap->YP w s₁.heap ->
   s₁.heap.get? fa = some o->o.data = .func (docDef d.name d.params d.body d.scope pm cd doc)->s₁.heap.CodeRec cd d.name->mg d.name = some (.ref fa) ->
   s₁.heap.get? a = some { cls:=.type "list",data:=.seq vs.toArray }->IntsAre vs ns->ns.length <= n->s₁.gens = #[] ->
   codeAny (model l.prog w) callerA (.call (.ref fa) ⟨[.ref a],[]⟩) (fun r s'=>r = .ok (.ret (.bool true))/\OldK s₁.heap s'.heap/\s'.os = s₁.os/\AllBare s'.gens) s₁) :
  WalkO q loose XP YP l.row.toRowW d [] (fun f vs=>PySem.call f vs):=by
 intro w s₀ s₁ mg mb G Y fa o pm cd doc dV kV ho hd hcd hD hmg hg args vals as hpre hlay hrd hwl hlo
 obtain rfl:dV = .none:=Dflts.none hD hdf
 obtain rfl:kV = .none:=Dflts.noKw hD
 obtain ⟨a,vs,ns,rfl,rfl,hobj,hints,hlen⟩:=script_of hn hpre hwl
 refine enter_call (codeAny_mono (call w s₀ s₁ mg mb fa o pm cd doc a vs ns G Y ho (fd_plain hd) hcd hmg hobj hints hlen hg) fun r s' hq=>?_)
 obtain ⟨rfl,h2,h3,h4⟩:=hq
 exact ⟨.inl ⟨.bool true,.bool true,[],rfl,fun _=>rfl,.bool true,post_true l _,fun _=>⟨List.Pairwise.nil,fun _ hm=>(nomatch hm)⟩⟩,h2,h3,h4⟩
section
variable {prog:Program} {w:World} {A:Around} {E:Value->Shared->Prop} {s:Shared} {K:Frag}
end
end Att
namespace L2
open PySem PySem.Spec PyProof.Rows
theorem vals_ints:∀ {vs:List Value} {ns:List Int},IntsAre vs ns->Vals (ns.map V.int) vs
 | _,_,.nil=>.nil
 | _,_,.cons n t h=>.cons ⟨t,rfl⟩ (vals_ints h)
def Only (H:Hp):Prop:=∀ b,H b = none ∨ ∃ o xs,H b = some (.frz o (.lst xs))
theorem law_call {P:Program} {w:World} {K:PySem.W.Frag} {mg mb:Str->Option Value} {CX:CXT} {k:Nat} {fa a:Addr} {fd:FuncData} {x:Str} {sp:Sp} {s₁:Shared} {vs:List Value} {ns:List Int}
  (KX:K.In s₁.heap) (hns:s₁.heap.Ns mainGlobals mg) (hb:s₁.heap.Ns builtinsNs mb) (hbb:∀ x:Str,x ≠ "__name__"->mb x = bootBuiltins x) (hlim:s₁.heap.NoLimit) (hg:s₁.gens = #[])
  (ha:s₁.heap.get? a = some { cls:=.type "list",data:=.seq vs.toArray }) (hi:IntsAre vs ns) (hl:ns.length <= sizeLine) (hr:Room k callerA)
  (F:∀ base:Heap,K.In base->base.Ns mainGlobals mg->FnOk P w K mg base CX k fa fd [x] sp) (hbind:∀ (s:Shared) (u:Value),BindsTo s fd ⟨[u],[]⟩ [(x,u)])
  (hsp:∀ H:Hp,Only H->SqL K H a (ns.map V.int)->sp [.ref a] H (fun v _=>v = .bl true) fun _ _ _=>False)
  (hCX:∀ H e s',CX [] H s₁ (fun _ _ _=>False) e s'->False) :
  codeAny (model P w) callerA (.call (.ref fa) ⟨[.ref a],[]⟩) (fun r s'=>r = .ok (.ret (.bool true))/\OldK s₁.heap s'.heap/\s'.os = s₁.os/\AllBare s'.gens) s₁:=by
 have rv:=vals_ints hi
 have lenV:=hi.length
 have core:∀ H:Hp,Only H->SqL K H a (ns.map V.int)->HOk P w H s₁.heap->(∀ b,H b ≠ none->b = a)->(H a ≠ none->K.lookup a = none) ->
   codeAny (model P w) callerA (.call (.ref fa) ⟨[.ref a],[]⟩) (fun r s'=>r = .ok (.ret (.bool true))/\OldK s₁.heap s'.heap/\s'.os = s₁.os/\AllBare s'.gens) s₁:=by
  intro H hO hS hok hA hK
  have base_of:∀ {b:Addr} {o:Obj},s₁.heap.get? b = some o->H b = none->(hidT s₁.heap H).get? b = some o:=fun e n=>hidT_get e n
  have noA:∀ {b:Addr} {o:Obj} {es:Array DictEntry} {ep:Nat},s₁.heap.get? b = some o->o.data = .dict es ep->H b = none:=fun {b o es ep} e d=>by
   cases q:H b with
   | none=>rfl
   | some u =>
    have e':b = a:=hA b (by rw [q]; simp)
    subst e'
    rw [ha] at e; cases e
    have d':Data.seq vs.toArray _ = Data.dict es ep:=d
    cases d'
  have nsK:∀ {b:Addr} {m:Str->Option Value},s₁.heap.Ns b m->(hidT s₁.heap H).Ns b m:=fun {b m} ⟨o,es,ep,e,d,r⟩=>⟨o,es,ep,base_of e (noA e d),d,r⟩
  have hKb:K.In (hidT s₁.heap H):=fun b o e=>base_of (KX b o e) (by
   cases q:H b with
   | none=>rfl
   | some u =>
    have e':b = a:=hA b (by rw [q]; simp)
    subst e'
    rw [hK (by rw [q]; simp)] at e; cases e)
  have hM:Mod K mg (hidT s₁.heap H):=⟨hKb,nsK hns,⟨mb,nsK hb,hbb⟩,let ⟨mc,h1,h2⟩:=hlim; ⟨mc,nsK h1,h2⟩⟩
  have e0:Env0 P w K mg (hidT s₁.heap H) callerA [] s₁ H:=⟨rfl,hM,fun b o e=>of_hidT e,Nat.le_of_eq (hidT_size _ _),trivial,fun b hb=>absurd (show b ∈ ([]:List Addr) from hb) (by simp),hok,.of_eq hg⟩
  refine codeAny_mono ((F _ hKb (nsK hns)).run callerA [] s₁ H ⟨[.ref a],[]⟩ [.ref a] [.ref a] _ _ hr e0 (hbind s₁ (.ref a)) (.cons rfl .nil) (hsp H hO hS)) fun r s' h=>?_
  cases r with
  | error e=>exact (hCX H e s' h).elim
  | ok fl =>
   cases fl with
   | next=>exact False.elim h
   | brk=>exact False.elim h
   | cont=>exact False.elim h
   | ret u =>
    obtain ⟨v,H',os,bare,un,hok',r',q⟩:=h
    have q':v = .bl true:=q
    subst q'
    obtain rfl:u = Value.bool true:=r'
    refine ⟨rfl,OldK.of_keep fun b o e=>?_,os,bare⟩
    cases q:H b with
    | none=>exact un.keep b o e q (by intro z; exact absurd (show b ∈ ([]:List Addr) from z) (by simp)) (by simp)
    | some u =>
     rcases hO b with z | ⟨ob,xs,z⟩
     ·rw [q] at z; cases z
     ·have z2:=un.frzs b ob _ z
      obtain ⟨e1,_⟩:=hok b _ z
      obtain ⟨e2,_⟩:=hok' b _ z2
      rw [e] at e1; cases e1
      exact e2
 cases hk:K.lookup a with
 | some o =>
  have e:=KX a o hk
  rw [ha] at e
  cases e
  refine core (fun _=>none) (fun _=>.inl rfl) (.inr ⟨_,vs.toArray,_,hk,rfl,rfl,rfl,by rw [List.size_toArray,lenV]; exact hl,by simpa using rv⟩) (fun b u z=>by have z':(none:Option HO) = some u:=z; cases z') (fun b z=>absurd rfl z) fun z=>absurd rfl z
 | none =>
  refine core (fun b=>if b = a then some (.frz { cls:=.type "list",data:=.seq vs.toArray } (.lst (ns.map V.int))) else none) (fun b=>?_) (.inl (.inr ⟨{ cls:=.type "list",data:=.seq vs.toArray },if_pos rfl⟩)) (fun b u z=>?_) (fun b z=>?_) fun _=>hk
  ·by_cases hb:b = a
   ·exact .inr ⟨_,_,if_pos hb⟩
   ·exact .inl (if_neg hb)
  ·by_cases hb:b = a
   ·have z':=(if_pos hb).symm.trans z
    cases z'
    subst hb
    exact ⟨ha,by rw [List.length_map]; exact hl,vs,_,rv,ha⟩
   ·have z':=(if_neg hb).symm.trans z
    cases z'
  ·by_cases hb:b = a
   ·exact hb
   ·exact absurd (if_neg hb) z
end L2
namespace L2
open PySem PySem.Spec PyProof.Rows
theorem walk_of {l:PySem.W.OpenLaw} {n k:Nat} {q:Program} {loose:List Str} {XP:(Str->Option Value)->Heap->Prop} {YP:World->Heap->Prop} {d:DefRec} {K:Params->PySem.W.Frag} {CX:World->CXT} {sp:World->Sp} {x:Str}
  (hn:l.most = some n) (hn2:n <= sizeLine) (hdf:d.params.defaults = []) (hr:Room k callerA)
  (hY:∀ (w:World) (h:Heap),YP w h->(K w.params).In h)
  (F:∀ (w:World) (mg:Str->Option Value) (fa:Addr) (h:Heap),(K w.params).In h->h.Ns mainGlobals mg->mg d.name = some (.ref fa) ->
   ∃ fd:FuncData,(∀ (s:Shared) (u:Value),BindsTo s fd ⟨[u],[]⟩ [(x,u)]) /\
    ∀ base:Heap,(K w.params).In base->base.Ns mainGlobals mg->FnOk l.prog w (K w.params) mg base (CX w) k fa fd [x] (sp w))
  (hsp:∀ (w:World) (H:Hp) (a:Addr) (ns:List Int),ns.length <= n->Only H->SqL (K w.params) H a (ns.map V.int)->sp w [.ref a] H (fun v _=>v = .bl true) fun _ _ _=>False)
  (hCX:∀ (w:World) (H:Hp) (s:Shared) (e:Value) (s':Shared),CX w [] H s (fun _ _ _=>False) e s'->False) :
  PySem.W.WalkO q loose XP YP l.row.toRowW d [] (fun f vs=>PySem.call f vs):=by
 refine Att.attach_call hn hdf fun w s₀ s₁ mg mb fa o pm cd doc a vs ns G Y ho hd hcd hmg hobj hints hlen hg=>?_
 have KX:=hY w _ Y
 obtain ⟨fd,hb,hF⟩:=F w mg fa _ KX G.T.g hmg
 exact law_call KX G.T.g G.T.b G.T.builtins G.T.nolimit hg hobj hints (Nat.le_trans hlen hn2) hr hF hb (fun H hO hS=>hsp w H a ns hlen hO hS) fun H e s'=>hCX w H s₁ e s'
theorem walk_ofK {l:PySem.W.OpenLaw} {n k:Nat} {q:Program} {loose:List Str} {XP:(Str->Option Value)->Heap->Prop} {YP:World->Heap->Prop} {d:DefRec} {K:Params->PySem.W.Frag} {CX:CXT} {sp:PySem.W.Frag->Sp} {x:Str}
  (hn:l.most = some n) (hn2:n <= sizeLine) (hdf:d.params.defaults = []) (hr:Room k callerA)
  (hY:∀ (w:World) (h:Heap),YP w h->(K w.params).In h)
  (F:∀ (w:World) (mg:Str->Option Value) (fa:Addr) (h:Heap),(K w.params).In h->h.Ns mainGlobals mg->mg d.name = some (.ref fa) ->
   ∃ fd:FuncData,(∀ (s:Shared) (u:Value),BindsTo s fd ⟨[u],[]⟩ [(x,u)]) /\
    ∀ base:Heap,(K w.params).In base->base.Ns mainGlobals mg->FnOk l.prog w (K w.params) mg base CX k fa fd [x] (sp (K w.params)))
  (hsp:∀ (K:PySem.W.Frag) (H:Hp) (a:Addr) (ns:List Int),ns.length <= n->Only H->SqL K H a (ns.map V.int)->sp K [.ref a] H (fun v _=>v = .bl true) fun _ _ _=>False)
  (hCX:∀ (H:Hp) (s:Shared) (e:Value) (s':Shared),CX [] H s (fun _ _ _=>False) e s'->False) :
  PySem.W.WalkO q loose XP YP l.row.toRowW d [] (fun f vs=>PySem.call f vs) :=
 walk_of (K:=K) (CX:=fun _=>CX) (sp:=fun w=>sp (K w.params)) hn hn2 hdf hr hY F (fun w H a ns h1 h2 h3=>hsp (K w.params) H a ns h1 h2 h3) fun _ H s e s'=>hCX H s e s'
end L2
namespace L2
open PySem PySem.Spec PyProof.Rows
def inClass (s:Stmt) (j:Nat):Stmt:=match s with
 | .ClassDef _ _ _ body _ _ _ _ _ _ _=>body.getD j (.Pass ⟨0,0,0,0⟩)
 | _=>.Pass ⟨0,0,0,0⟩
def defArgs (s:Stmt):Arguments:=match s with
 | .FunctionDef _ a _ _ _ _ _ _ _ _=>a
 | _=>{ posonlyargs:=[],args:=[],vararg:=none,kwonlyargs:=[],kw_defaults:=[],kwarg:=none,defaults:=[] }
def defBody (s:Stmt):List Stmt:=match s with
 | .FunctionDef _ _ b _ _ _ _ _ _ _=>b
 | _=>[]
def defScope (s:Stmt):Scope:=match s with
 | .FunctionDef _ _ _ _ _ _ sc _ _ _=>sc
 | _=>{ kind:=.function,names:=[],isGenerator:=false,isCoroutine:=false }
abbrev CX0:CXT:=fun _ _ _ _ _ _=>False
abbrev E0:XK:=fun _ _ _=>False
theorem pass0 {X:Cx}:Passes CX0 X E0:=fun _ _ _ _ _ _ _ h=>h.elim
structure Fun (K:PySem.W.Frag) (x qual:Str) (st:Stmt) (f:Addr) (fd:FuncData):Prop where
 ex:∃ (oc:Value) (od:Option Addr) (kV doc pm:Value) (an:Option Addr) (cdv ct:Value) (osl:Array (Option Value)),
  fd = PySem.W.fnOf x qual (defArgs st) (defBody st) (defScope st) .none kV doc pm an cdv ct/\K.lookup f = some ⟨oc,od,.func fd,osl⟩/\PySem.W.codeIn K cdv qual = true
 kp:PySem.W.keepIn K (.ref f) = true
section
variable {P:Program} {w:World} {K:PySem.W.Frag} {mg:Str->Option Value} {base:Heap}
theorem Fun.ok {x qual:Str} {st:Stmt} {f:Addr} {fd:FuncData} {N ps:List Str} {k:Nat} {sp:Sp} (F:Fun K x qual st f fd) (S:FnScope N ps (defScope st)) (len:∀ vs H Q E,sp vs H Q E->vs.length = ps.length)
  (hbody:∀ (cdv:Value) (A:Around) (outer:List Env) (s:Shared) (H:Hp) (vs:List V) (Q:VK) (E:XK),Room k (A.deeper (envOfC qual (defScope st) s.heap.objs.size f cdv))->sp vs H Q E ->
   ∃ t,PSs (cxOf CX0 P w K mg base N qual (defScope st) f cdv A outer s H E).nox (defBody st) t/\t { nx:=fun _ H'=>Q .non H',rt:=Q } (start N vs) H):FnOk P w K mg base CX0 (k + 1) f fd ps sp:=by
 obtain ⟨oc,od,kV,doc,pm,an,cdv,ct,osl,rfl,lk,hcd⟩:=F.ex
 refine fn_of lk hcd S len fun A outer s H vs Q E hr hsp=>?_
 obtain ⟨t,h,q⟩:=hbody cdv A outer s H vs Q E hr hsp
 exact ⟨t,h.nox,q⟩
theorem Fun.binds {x qual:Str} {st:Stmt} {f:Addr} {fd:FuncData} {ps:List Str} (F:Fun K x qual st f fd)
  (h:∀ (kV doc pm:Value) (an:Option Addr) (cdv ct:Value) (us:List Value),us.length = ps.length->bindArgs (PySem.W.fnOf x qual (defArgs st) (defBody st) (defScope st) .none kV doc pm an cdv ct) ⟨us,[]⟩ = pure (ps.zip us)):Binds K fd ps []:=by
 obtain ⟨oc,od,kV,doc,pm,an,cdv,ct,osl,rfl,lk,hcd⟩:=F.ex
 exact .all (h kV doc pm an cdv ct)
theorem fun_mk {x qual:Str} {st:Stmt} {f:Addr} {oc:Value} {od an:Option Addr} {osl:Array (Option Value)} {kV doc pm cdv ct:Value} (l:K.lookup f = some ⟨oc,od,.func (PySem.W.fnOf x qual (defArgs st) (defBody st) (defScope st) .none kV doc pm an cdv ct),osl⟩)
  (c:PySem.W.codeIn K cdv qual = true) (k:PySem.W.keepIn K (.ref f) = true):Fun K x qual st f (PySem.W.fnOf x qual (defArgs st) (defBody st) (defScope st) .none kV doc pm an cdv ct):=⟨⟨oc,od,kV,doc,pm,an,cdv,ct,osl,rfl,l,c⟩,k⟩
end
theorem hu_of {A:Around} {k:Nat} (hr:Room k A):A.units + 16 < cLine:=Nat.lt_of_le_of_lt (Nat.add_le_add_left (by decide:16 <= 64) _) hr.units
theorem small1000 {n:Nat} (h:n <= 1000):n < sizeLine:=Nat.lt_of_le_of_lt h (by decide)
section
variable {X:Cx}
theorem pv (i:Nat) {x:Str} {pos:Pos} (hN:X.N[i]? = some x:=by rfl) (hv:Vis X.env.scope x:=by first | exact Or.inl rfl | exact Or.inr (Or.inl rfl) | exact Or.inr (Or.inr rfl)) (hd:(x == ("__debug__":Str)) = false:=by decide)
  (hcd:(x == ("__classdict__":Str)) = false:=by decide):PE X (.Name x pos) (tVar i):=pe_var hN hv hd hcd
end
theorem iteF {A B:Prop} (h:B):if false = true then A else B:=by
 rw [if_neg Bool.false_ne_true]
 exact h
theorem iteT {A B:Prop} (h:A):if true = true then A else B:=by
 rw [if_pos rfl]
 exact h
theorem ite2 {c A B:Prop} [Decidable c] (h1:c->A) (h2:¬ c->B):if c then A else B:=by
 by_cases h:c
 ·rw [if_pos h]
  exact h1 h
 ·rw [if_neg h]
  exact h2 h
def Same (H H':Hp):Prop:=∀ b o,H b = some o->H' b = some o
theorem Same.refl (H:Hp):Same H H:=fun _ _ h=>h
theorem Same.trans {H H1 H2:Hp} (a:Same H H1) (b:Same H1 H2):Same H H2:=fun c o h=>b c o (a c o h)
theorem Same.free {H H':Hp} (e:Same H H') {l:Addr} (h:H' l = Option.none):H l = Option.none:=by
 cases q:H l with
 | none=>rfl
 | some o =>
  rw [e l o q] at h
  cases h
theorem Same.seq {K:PySem.W.Frag} {H H':Hp} {a:Addr} {xs:List V} (e:Same H H') (h:SqL K H a xs):SqL K H' a xs:=by
 rcases h with (h | ⟨o,h⟩) | h
 ·exact .inl (.inl (e _ _ h))
 ·exact .inl (.inr ⟨o,e _ _ h⟩)
 ·exact .inr h
section
variable {X:Cx}
end
section
variable {κ:Type} [DecidableEq κ]
end
end L2
end

section
set_option Elab.async false
set_option linter.all false
set_option maxRecDepth 100000
namespace L2
open PySem PySem.Spec PyProof.Rows
section
variable {prog:Program} {w:World} {A:Around} {R:Result->Shared->Prop} {s:Shared}
abbrev XF:Value->Shared->Prop:=fun _ _=>False
abbrev ifsRun (ifs:List Expr) (env:Env):Sem Bool:=forIn ifs true fun c r=>if r = true then do let ok <- isTrue c env (eval c env); pure (ForInStep.yield ok) else pure (ForInStep.yield r)
theorem compLoop_gen {elt target iter:Expr} {ifs:List Expr} {scope:Scope} {pos:Pos} {it acc:Value} {env:Env} (I:Nat->Shared->Prop)
  (turn:∀ n s,I n s->wpAny (model prog w) A (pyNext it) (fun r s₁=>match r with
   | none=>R (.ok .next) s₁
   | some v=>wpAny (model prog w) A (letOwnedTupleGo target it v) (fun _ s₁'=>wpAny (model prog w) A (assign target env v) (fun _ s₂ =>
     wpAny (model prog w) A (ifsRun ifs env) (fun ok s₃ =>
      if ok = true then wpAny (model prog w) A (eval elt env) (fun x s₄ =>
       wpAny (model prog w) A (call (.builtin "list.append") [acc,x]) (fun _ s₅=>∃ m,m < n/\I m s₅) XF s₄) XF s₃
      else ∃ m,m < n/\I m s₃) XF s₂) XF s₁') XF s₁) XF s)
  (n:Nat) (h:I n s):codeAny (model prog w) A (.compLoop (.ListComp elt [⟨target,iter,ifs,0⟩] scope pos) 0 it acc env) R s:=by
 refine codeAny_loop rfl I (fun n s hI=>?_) n h
 show wpAny _ A ((compTurn (.ListComp elt [⟨target,iter,ifs,0⟩] scope pos) 0 it acc env).onRaise (fun x=>do noteFrame x env; theTreesLotGoes x)) _ _ s
 refine wpAny_noted ?_
 rw [compTurn_list]
 refine wpAny_bind (wpAny_standAt (wpAny_bind (wpAny_mono (turn n s hI) (fun r s₁ h₁=>?_) fun _ _ h'=>h'.elim)))
 cases r with
 | none=>exact wpAny_pure h₁
 | some v =>
  refine wpAny_bind (wpAny_mono h₁ (fun _ s₁' h₁'=>?_) fun _ _ h'=>h'.elim)
  refine wpAny_bind (wpAny_mono h₁' (fun _ s₂ h₂=>wpAny_bind (wpAny_mono h₂ (fun ok s₃ h₃=>?_) fun _ _ h'=>h'.elim)) fun _ _ h'=>h'.elim)
  cases ok with
  | false=>exact wpAny_pure ⟨rfl,h₃⟩
  | true =>
   exact wpAny_bind (wpAny_bind (wpAny_mono h₃ (fun x s₄ h₄=>wpAny_bind (wpAny_mono h₄ (fun _ s₅ h₅=>wpAny_pure (wpAny_pure ⟨rfl,h₅⟩)) fun _ _ h'=>h'.elim)) fun _ _ h'=>h'.elim))
end
theorem closure_go {env:Env}:∀ (names:List (Str × NameKind)) (cs0:List (Str × Addr)),(∀ y ∈ names,y.2 = .free->∃ c,env.cells.lookup y.1 = some c)->(∀ x c,cs0.lookup x = some c->env.cells.lookup x = some c) ->
  ∃ cs:List (Str × Addr),(forIn names cs0 fun (x:Str × NameKind) (r:List (Str × Addr))=>if (x.2 == NameKind.free) = true then (cellOf env x.1 >>= fun c=>(pure (ForInStep.yield ((x.1,c) :: r)):Sem (ForInStep (List (Str × Addr))))) else pure (ForInStep.yield r)) = pure cs /\
   (∀ x c,cs.lookup x = some c->env.cells.lookup x = some c)/\(∀ x,(cs0.lookup x).isSome = true->(cs.lookup x).isSome = true)/\∀ y ∈ names,y.2 = .free->(cs.lookup y.1).isSome = true
 | [],cs0,_,h0=>⟨cs0,rfl,h0,fun _ h=>h,fun _ h=>nomatch h⟩
 | (n,k) :: r,cs0,has,h0=>by
  have hr:∀ y ∈ r,y.2 = .free->∃ c,env.cells.lookup y.1 = some c:=fun y hy=>has y (List.mem_cons_of_mem _ hy)
  by_cases hk:k = .free
  ·subst hk
   obtain ⟨c,hc⟩:=has (n,.free) List.mem_cons_self rfl
   obtain ⟨cs,e,p1,p2,p3⟩:=closure_go r ((n,c) :: cs0) hr (fun x d hd=>by
    rw [List.lookup_cons] at hd
    cases hx:x == n with
    | true =>
     rw [hx] at hd
     have:x = n:=by simpa using hx
     subst this
     cases hd
     exact hc
    | false=>rw [hx] at hd; exact h0 x d hd)
   have hself:(((n,c) :: cs0).lookup n).isSome = true:=by rw [List.lookup_cons,beq_self_eq_true]; rfl
   have hmono:∀ x,(cs0.lookup x).isSome = true->(((n,c) :: cs0).lookup x).isSome = true:=fun x hx=>by
    rw [List.lookup_cons]
    cases x == n with
    | true=>rfl
    | false=>exact hx
   refine ⟨cs,?_,p1,fun x hx=>p2 x (hmono x hx),fun y hy hf=>?_⟩
   ·rw [List.forIn_cons]
    have hcell:cellOf env n = pure c:=by unfold cellOf; rw [hc]
    simp only [beq_self_eq_true,if_true,hcell]
    exact e
   ·rcases List.mem_cons.mp hy with rfl | hy
    ·exact p2 _ hself
    ·exact p3 y hy hf
  ·obtain ⟨cs,e,p1,p2,p3⟩:=closure_go r cs0 hr h0
   refine ⟨cs,?_,p1,p2,fun y hy hf=>?_⟩
   ·rw [List.forIn_cons]
    have hb:(k == NameKind.free) = false:=by simpa using hk
    simp only [hb,Bool.false_eq_true,if_false]
    exact e
   ·rcases List.mem_cons.mp hy with rfl | hy
    ·exact absurd hf hk
    ·exact p3 y hy hf
theorem closure_ok {env:Env} {scope:Scope} (has:∀ y ∈ scope.names,y.2 = .free->∃ c,env.cells.lookup y.1 = some c) :
  ∃ cs:List (Str × Addr),closureFor scope env = pure cs/\(∀ x c,cs.lookup x = some c->env.cells.lookup x = some c)/\∀ y ∈ scope.names,y.2 = .free->(cs.lookup y.1).isSome = true:=by
 obtain ⟨cs,e,p1,_,p3⟩:=closure_go (env:=env) scope.names [] has (fun _ _ h=>nomatch h)
 refine ⟨cs,?_,p1,p3⟩
 unfold closureFor
 first
  | exact e
  | (simp only [bind_pure]; exact e)
  | (rw [show (forIn scope.names [] _:Sem (List (Str × Addr))) = pure cs from e]; rfl)
end L2
end

section
set_option Elab.async false
set_option linter.all false
set_option maxRecDepth 100000
namespace L2
open PySem PySem.Spec PyProof.Rows
def compCx (X:Cx) (N:List Str) (scope:Scope) (C:Addr) (cl:List (Str × Addr)) (s₀:Shared) (H₀:Hp) (ex:List Addr) (pn:List (Addr × Obj)):Cx where
 prog:=X.prog
 w:=X.w
 K:=X.K
 mg:=X.mg
 base:=X.base
 A:=X.A
 N:=N
 s₀:=s₀
 H₀:=H₀
 env:=compEnvC scope cl C X.env
 outer:=X.stack
 stack:=X.stack
 ex:=ex
 fn:=fun _=>false
 calm:=X.calm
 pn:=pn
 xe:=XF
def compScB (sc scope:Scope) (k:Nat) (N XN:List Str) (fi:List Nat):Bool :=
 decide (scope.kind = .function) &&
 (scope.names.all fun y=>decide (y.2 ≠ .cell) && (decide (y.2 ≠ .local) || decide (scope.names.lookup y.1 = some .local)) && (decide (y.2 ≠ .free) || decide (sc.names.lookup y.1 = some .cell) || decide (sc.names.lookup y.1 = some .free))) &&
 decide (N.length = k + fi.length) &&
 ((List.range fi.length).all fun j=>match fi[j]? with
  | some i=>match N[k + j]?,XN[i]? with
   | some x,some y=>decide (x = y) && decide (scope.names.lookup x = some .free)
   | _,_=>false
  | none=>false)
structure CompSc (sc scope:Scope) (k:Nat) (N XN:List Str) (fi:List Nat):Prop where
 kind:scope.kind = .function
 cell:∀ y ∈ scope.names,y.2 ≠ .cell
 nm:∀ y ∈ scope.names,y.2 = .local->scope.names.lookup y.1 = some .local
 fr:∀ y ∈ scope.names,y.2 = .free->sc.names.lookup y.1 = some .cell ∨ sc.names.lookup y.1 = some .free
 len:N.length = k + fi.length
 sl:∀ j i,fi[j]? = some i->∃ x,N[k + j]? = some x/\XN[i]? = some x/\scope.names.lookup x = some .free
theorem CompSc.of {sc scope:Scope} {k:Nat} {N XN:List Str} {fi:List Nat} (h:compScB sc scope k N XN fi = true):CompSc sc scope k N XN fi:=by
 unfold compScB at h
 simp only [Bool.and_eq_true,List.all_eq_true,Bool.or_eq_true,decide_eq_true_eq] at h
 obtain ⟨⟨⟨h1,h2⟩,h3⟩,h4⟩:=h
 refine ⟨h1,fun y hy=>(h2 y hy).1.1,fun y hy e=>((h2 y hy).1.2).resolve_left fun z=>z e,fun y hy e=>?_,h3,fun j i e=>?_⟩
 ·rcases (h2 y hy).2 with (z | z) | z
  ·exact absurd e z
  ·exact .inl z
  ·exact .inr z
 ·have hj:j < fi.length:=(List.getElem?_eq_some_iff.mp e).1
  have q:=h4 j (List.mem_range.mpr hj)
  rw [e] at q
  dsimp only at q
  cases a:N[k + j]? with
  | none=>rw [a] at q; cases q
  | some x =>
   cases b:XN[i]? with
   | none=>rw [a,b] at q; cases q
   | some y =>
    rw [a,b] at q
    simp only [Bool.and_eq_true,decide_eq_true_eq] at q
    exact ⟨x,rfl,by rw [q.1],q.2⟩
theorem lookup_relabel_free {env:Env}:∀ {names:List (Str × NameKind)} {x:Str},names.lookup x = some .free ->
  (names.map fun (n,k)=>if (k == NameKind.free && env.scope.kind == .function && env.kindOf n == some .cell) then (n,NameKind.cell) else (n,k)).lookup x = some .cell ∨
  (names.map fun (n,k)=>if (k == NameKind.free && env.scope.kind == .function && env.kindOf n == some .cell) then (n,NameKind.cell) else (n,k)).lookup x = some .free
 | [],_,h=>by simp at h
 | (n,k) :: r,x,h=>by
  have ih:=@lookup_relabel_free env r x
  simp only [List.map_cons]
  cases hx:x == n with
  | true =>
   simp only [List.lookup_cons,hx] at h
   cases h
   by_cases hc:(NameKind.free == NameKind.free && env.scope.kind == .function && env.kindOf n == some .cell) = true
   ·left; rw [if_pos hc]; simp [List.lookup_cons,hx]
   ·right; rw [if_neg hc]; simp [List.lookup_cons,hx]
  | false =>
   simp only [List.lookup_cons,hx] at h
   by_cases hc:(k == NameKind.free && env.scope.kind == .function && env.kindOf n == some .cell) = true
   ·rw [if_pos hc]; simp only [List.lookup_cons,hx]; exact ih h
   ·rw [if_neg hc]; simp only [List.lookup_cons,hx]; exact ih h
def compSt (k:Nat) (fi:List Nat) (σ:St):St:=List.replicate k none ++ fi.map fun i=>(σ[i]?).join
theorem compSt_len (k:Nat) (fi:List Nat) (σ:St):(compSt k fi σ).length = k + fi.length:=by simp [compSt]
theorem compSt_get {k:Nat} {fi:List Nat} {σ:St} {i:Nat} {v:V} (h:(compSt k fi σ)[i]? = some (some v)):∃ j t,i = k + j/\fi[j]? = some t/\σ[t]? = some (some v):=by
 unfold compSt at h
 by_cases hi:i < k
 ·rw [List.getElem?_append_left (by simpa using hi),List.getElem?_replicate_of_lt hi] at h
  cases h
 ·rw [List.getElem?_append_right (by simp; omega),List.length_replicate,List.getElem?_map] at h
  refine ⟨i - k,?_⟩
  cases e:fi[i - k]? with
  | none=>rw [e] at h; cases h
  | some t =>
   rw [e] at h
   simp only [Option.map_some] at h
   refine ⟨t,by omega,rfl,?_⟩
   have h':=Option.some.inj h
   cases e2:σ[t]? with
   | none=>rw [e2] at h'; cases h'
   | some o=>rw [e2] at h'; simp only [Option.join] at h'; first | (rw [h']) | (subst h'; rfl) | (simpa using h')
def OwnG (k:Nat) (g:TG):Prop:=∀ x σ H Q,g x σ H Q->g x σ H fun σ2 H2=>Q σ2 H2/\σ2.length = σ.length/\∀ i,k <= i->σ2[i]? = σ[i]?
theorem own_name {k i:Nat} (h:i < k):OwnG k (gName i):=fun x σ H Q q=>⟨q,by simp,fun j hj=>by rw [List.getElem?_set_ne (by omega)]⟩
def PIf (X:Cx) (ifs:List Expr) (t:TT):Prop :=
 ∀ (pins:List (Addr × Obj)) (s:Shared) (σ:St) (H:Hp) (Q:Bool->Hp->Prop),Inv X pins σ H s->t σ H Q->wpAny (model X.prog X.w) X.A (ifsRun ifs X.env) (TP X pins σ Q) X.xe s
def tYes:TT:=fun _ H Q=>Q true H
theorem pif_none {X:Cx}:PIf X [] tYes:=fun pins s σ H Q I h=>wpAny_pure ⟨H,I,h⟩
theorem pif_one {X:Cx} {c:Expr} {t:TT} (h:PT X c t):PIf X [c] t:=by
 intro pins s σ H Q I hw
 unfold ifsRun
 rw [List.forIn_cons]
 simp only [if_true]
 refine wpAny_bind (wpAny_bind (thn (h pins s σ H Q I hw) fun b s1 q=>wpAny_pure ?_))
 exact wpAny_pure q
def tComp (k:Nat) (fi:List Nat) (wi:TI) (g:TG) (tc:TT) (te:TE):TE:=fun σ H Q=>wi σ H fun J H1=>∀ l,H1 l = none->∃ W:Nat->Nat->List V->Hp->Prop,(∃ m,W 0 m [] (upd H1 l (.lst [])))/\∀ i m vs H2,W i m vs H2->H2 l = some (.lst vs) /\
 ((J.stop i H2/\Q (.ref l) H2) ∨ (J.go i H2/\∀ x H3,J.yld i H2 x H3->g x (compSt k fi σ) H3 fun σ2 H4=>tc σ2 H4 fun b H5 =>
  if b = true then te σ2 H5 fun v H6=>H6 l = some (.lst vs)/\vs.length < sizeLine/\∃ m',m' < m/\W (i + 1) m' (vs ++ [v]) (upd H6 l (.lst (vs ++ [v]))) else ∃ m',m' < m/\W (i + 1) m' vs H5))
end L2
end

section
set_option Elab.async false
set_option linter.all false
set_option maxRecDepth 100000
namespace L2
open PySem PySem.Spec PyProof.Rows
section
variable {X:Cx} {pins:List (Addr × Obj)} {σ:St}
theorem comp_ok {k:Nat} {N:List Str} {scope:Scope} {fi:List Nat} {H:Hp} {s:Shared} {cl:List (Str × Addr)} {fp:List Addr} (S:CompSc X.env.scope scope k N X.N fi) (I:Inv X pins σ H s)
  (hcl:∀ x c,cl.lookup x = some c->X.env.cells.lookup x = some c) (hcf:∀ y ∈ scope.names,y.2 = .free->(cl.lookup y.1).isSome = true) (hf:∀ b ∈ fp,FpOk X pins H b) (hlt:∀ b ∈ fp,b < s.heap.objs.size) :
  (compCx X N scope s.heap.objs.size cl s H fp (X.pn ++ pins)).Ok where
 mod:=I.ok.mod
 kind:=S.kind
 glob:=I.ok.glob
 blt:=I.ok.blt
 above:=Nat.le_refl _
 inj:=fun x y c e1 e2=>I.ok.inj x y c (hcl x c e1) (hcl y c e2)
 has:=fun x h=>by
  have key:∃ y ∈ scope.names,y.1 = x/\y.2 = .free:=by
   have h':(relabel scope X.env).names.lookup x = some .cell ∨ (relabel scope X.env).names.lookup x = some .free:=h
   have mem:∀ (l:List (Str × NameKind)) (kd:NameKind),l.lookup x = some kd->(x,kd) ∈ l:=by
    intro l
    induction l with
    | nil=>intro kd e; cases e
    | cons a r ih =>
     intro kd e
     obtain ⟨n,k'⟩:=a
     rw [List.lookup_cons] at e
     cases hx:x == n with
     | true =>
      rw [hx] at e
      have:x = n:=by simpa using hx
      subst this
      cases e
      exact List.mem_cons_self
     | false=>rw [hx] at e; exact List.mem_cons_of_mem _ (ih kd e)
   have back:∀ kd,(x,kd) ∈ (relabel scope X.env).names->kd = .cell ∨ kd = .free->∃ y ∈ scope.names,y.1 = x/\y.2 = .free:=by
    intro kd hm hk
    obtain ⟨⟨n,k'⟩,hy,e⟩:=List.mem_map.mp hm
    dsimp only at e
    by_cases hc:(k' == NameKind.free && X.env.scope.kind == .function && X.env.kindOf n == some .cell) = true
    ·have hk':k' = .free:=by
      simp only [Bool.and_eq_true] at hc
      simpa using hc.1.1
     rw [if_pos hc] at e
     cases e
     exact ⟨_,hy,rfl,hk'⟩
    ·rw [if_neg hc] at e
     cases e
     rcases hk with rfl | rfl
     ·exact absurd rfl (S.cell _ hy)
     ·exact ⟨_,hy,rfl,rfl⟩
   rcases h' with h' | h'
   ·exact back _ (mem _ _ h') (.inl rfl)
   ·exact back _ (mem _ _ h') (.inr rfl)
  obtain ⟨y,hy,rfl,hk⟩:=key
  exact Option.isSome_iff_exists.mp (hcf y hy hk)
 cab:=fun x c h=>by cases h
 hd:=I.ok.hd
 frames:=I.ok.frames
 stk:=.inl rfl
 exf:=fun b hb=>⟨Nat.ne_of_lt (hlt b hb),fun x c e=>(hf b hb).2.2.2.2.1 x c (hcl x c e)⟩
 bs:=I.bs
 bsz:=Nat.le_trans I.ok.bsz I.sz
 noex:=fun b o e hb=>by
  rcases (hf b hb).2.2.2.1 with z | z
  ·exact I.ok.noex b o e z
  ·exact absurd (Nat.lt_of_lt_of_le (Heap.lt_size (I.ok.bs b o e).1) z) (Nat.lt_irrefl _)
 exfs:=fun b hb z=>by
  obtain ⟨_,f1,f2,_⟩:=hf b hb
  rcases List.mem_cons.mp (I.stkSub b z) with q | q
  ·exact f1 q
  ·exact f2 q
 funs:=I.stack
 frf:=I.stkFree
theorem comp_inv {k:Nat} {N:List Str} {scope:Scope} {fi:List Nat} {H:Hp} {s:Shared} {cl:List (Str × Addr)} {fp:List Addr} {h₁:Heap} {t':Nat} {m:Str->Option Value} (S:CompSc X.env.scope scope k N X.N fi) (I:Inv X pins σ H s)
  (hcl:∀ x c,cl.lookup x = some c->X.env.cells.lookup x = some c) (hcf:∀ y ∈ scope.names,y.2 = .free->(cl.lookup y.1).isSome = true) (hf:∀ b ∈ fp,FpOk X pins H b) (hlt:∀ b ∈ fp,b < s.heap.objs.size)
  (hn:h₁.Ns s.heap.objs.size m) (old:∀ b o,s.heap.get? b = some o->h₁.get? b = some o) :
  Inv (compCx X N scope s.heap.objs.size cl s H fp (X.pn ++ pins)) [] (compSt k fi σ) H { s with heap:=h₁,toks:=t' }:=by
 have memOf:∀ (l:List (Str × NameKind)) (x:Str) (kd:NameKind),l.lookup x = some kd->(x,kd) ∈ l:=by
  intro l
  induction l with
  | nil=>intro x kd e; cases e
  | cons a r ih =>
   intro x kd e
   obtain ⟨n,k'⟩:=a
   rw [List.lookup_cons] at e
   cases hx:x == n with
   | true =>
    rw [hx] at e
    have:x = n:=by simpa using hx
    subst this
    cases e
    exact List.mem_cons_self
   | false=>rw [hx] at e; exact List.mem_cons_of_mem _ (ih x kd e)
 refine ⟨comp_ok S I hcl hcf hf hlt,rfl,I.bare,Un.kept old,⟨m,hn,fun i x v e1 e2 e3=>?_⟩,fun x c e=>?_,I.hok.fresh (Nat.le_refl _),fun x c e=>I.freeC x c (hcl x c e),fun p hp=>?_,I.hok.kept old,?_⟩
 ·obtain ⟨j,t,rfl,ht,hv⟩:=compSt_get e2
  obtain ⟨y,hy,hXN,hfr⟩:=S.sl j t ht
  have e1':N[k + j]? = some x:=e1
  rw [hy] at e1'
  cases e1'
  have hmem:=memOf _ _ _ hfr
  obtain ⟨c,hc⟩:=Option.isSome_iff_exists.mp (hcf _ hmem rfl)
  have hX:=hcl _ _ hc
  obtain ⟨mX,hnX,hlX⟩:=I.loc
  have kX:=S.fr _ hmem rfl
  obtain ⟨u,ru,lk⟩:=hlX t x v hXN hv (by rcases kX with z | z; exact .inr (.inl z); exact .inr (.inr z))
  refine ⟨u,ru,.inr ⟨?_,c,hc,?_⟩⟩
  ·exact lookup_relabel_free hfr
  ·rcases lk with ⟨z,_⟩ | ⟨_,c',e',q⟩
   ·have z':X.env.scope.names.lookup x = some .local:=z
    rcases kX with kX | kX <;> rw [z'] at kX <;> cases kX
   ·rw [hX] at e'
    cases e'
    obtain ⟨o,ho,hd⟩:=q
    exact ⟨o,old _ o ho,hd⟩
 ·obtain ⟨v,o,ho,hd⟩:=I.cell x c (hcl x c e)
  exact ⟨v,o,old _ o ho,hd⟩
 ·rw [List.append_nil] at hp
  obtain ⟨e,n,ne,nf,d⟩:=I.pin p hp
  refine ⟨old _ _ e,n,Nat.ne_of_lt (Heap.lt_size e),fun z=>?_,d⟩
  rcases List.mem_cons.mp (I.stkSub _ z) with q | q
  ·exact ne q
  ·exact nf q
 ·rw [compSt_len]
  exact S.len.symm
structure CompEnd (X:Cx) (pins:List (Addr × Obj)) (H:Hp) (C:Addr):Prop where
 free:H C = none
 loc:C ≠ X.env.locals
 young:X.s₀.heap.objs.size <= C
 cells:∀ x c,X.env.cells.lookup x = some c->c ≠ C
 pin:∀ p ∈ X.pn ++ pins,p.1 ≠ C
theorem comp_block {elt iter tg:Expr} {ifs:List Expr} {scope:Scope} {pos:Pos} {k:Nat} {N:List Str} {fi:List Nat} {cl:List (Str × Addr)} {g:TG} {tc:TT} {te:TE} {it:Addr} {fp:List Addr} {tn:Nat->Heap->Prop} {J:It} {H2:Hp} {s2:Shared} {Q:VK}
  {E:Value->Shared->Prop} {RR:Value->Addr->Result->Shared->Prop}
  (S:CompSc X.env.scope scope k N X.N fi) (hc:X.calm = true) (hcl:∀ x c,cl.lookup x = some c->X.env.cells.lookup x = some c) (hcf:∀ y ∈ scope.names,y.2 = .free->(cl.lookup y.1).isSome = true)
  (hg:∀ C cl s₀ H₀ ex pn,PG (compCx X N scope C cl s₀ H₀ ex pn) tg g) (ho:OwnG k g) (ht:∀ C cl s₀ H₀ ex pn,PIf (compCx X N scope C cl s₀ H₀ ex pn) ifs tc) (he:∀ C cl s₀ H₀ ex pn,PE (compCx X N scope C cl s₀ H₀ ex pn) elt te)
  (I2:Inv X pins σ H2 s2) (T:Turn X.prog X.w X.K tg J fp it tn) (st2:tn 0 s2.heap) (f2:∀ b ∈ fp,FpOk X pins H2 b)
  (hw:∀ l,H2 l = none->∃ W:Nat->Nat->List V->Hp->Prop,(∃ m,W 0 m [] (upd H2 l (.lst [])))/\∀ i m vs H2,W i m vs H2->H2 l = some (.lst vs) /\
   ((J.stop i H2/\Q (.ref l) H2) ∨ (J.go i H2/\∀ x H3,J.yld i H2 x H3->g x (compSt k fi σ) H3 fun σ2 H4=>tc σ2 H4 fun b H5 =>
    if b = true then te σ2 H5 fun v H6=>H6 l = some (.lst vs)/\vs.length < sizeLine/\∃ m',m' < m/\W (i + 1) m' (vs ++ [v]) (upd H6 l (.lst (vs ++ [v]))) else ∃ m',m' < m/\W (i + 1) m' vs H5)))
  (hR:∀ D C H' s' m',Inv X pins σ H' s'->s'.heap.Ns C m'->CompEnd X pins H' C->Q (.ref D) H'->RR (.ref D) C (.ok .next) s') :
  wpAny (model X.prog X.w) X.A (newList []) (fun acc s₃=>wpAny (model X.prog X.w) X.A (newFunctionEnv scope X.env.globals cl [] X.env.qual none .none (some X.env)) (fun cenv s₄ =>
   codeAny (model X.prog X.w) X.A (.compStart (.ListComp elt [⟨tg,iter,ifs,0⟩] scope pos) 0 (.ref it) acc { cenv with scope:=relabel scope X.env }) (RR acc cenv.locals) s₄) E s₃) E s2:=by
 have hfresh:H2 s2.heap.objs.size = none:=I2.fresh
 obtain ⟨W,⟨m0,w0⟩,turn⟩:=hw _ hfresh
 refine wpAny_newObj_type (wpAny_newFunctionEnv S.cell (by intro y hy; simp at hy) (fun h₁ hns₁ hsb₁=>?_) S.kind)
 dsimp only at hns₁ hsb₁ ⊢
 have I3:Inv X pins σ (upd H2 s2.heap.objs.size (.lst [])) { s2 with heap:=s2.heap.push { cls:=.type "list",data:=.seq ([]:List Value).toArray },toks:=s2.toks }:=I2.lnew (ys:=[]) .nil (Nat.zero_le _)
 generalize hs3:({ s2 with heap:=s2.heap.push { cls:=.type "list",data:=.seq ([]:List Value).toArray },toks:=s2.toks }:Shared) = s3 at I3
 have hh3:s3.heap = s2.heap.push { cls:=.type "list",data:=.seq ([]:List Value).toArray }:=by rw [<- hs3]
 have hsz:s3.heap.objs.size = s2.heap.objs.size + 1:=by rw [hh3,Heap.size_push]
 have hlt:∀ b ∈ fp,b < s2.heap.objs.size:=fun b hb=>by
  obtain ⟨o,e,_⟩:=T.obj 0 _ st2 b hb
  exact Heap.lt_size e
 have f3:∀ b ∈ fp,FpOk X pins (upd H2 s2.heap.objs.size (.lst [])) b:=fun b hb=>⟨by rw [upd_ne (Nat.ne_of_lt (hlt b hb))]; exact (f2 b hb).1,(f2 b hb).2⟩
 have hlt3:∀ b ∈ fp,b < s3.heap.objs.size:=fun b hb=>by rw [hsz]; exact Nat.lt_succ_of_lt (hlt b hb)
 have old:∀ b o,s3.heap.get? b = some o->h₁.get? b = some o:=fun b o e=>by
  have hb:b ≠ s3.heap.objs.size:=Nat.ne_of_lt (Heap.lt_size e)
  rw [hh3] at e hb
  exact hsb₁.extBut b o hb (Heap.get?_push_of_some _ e)
 have hns:h₁.Ns s3.heap.objs.size (fun x=>([]:List (Str × Value)).reverse.lookup x):=by rw [hh3]; exact hns₁
 have I4:Inv (compCx X N scope s3.heap.objs.size cl s3 (upd H2 s2.heap.objs.size (.lst [])) fp (X.pn ++ pins)) [] (compSt k fi σ) (upd H2 s2.heap.objs.size (.lst [])) { s3 with heap:=h₁,toks:=s2.toks + ([]:List (Str × Value)).length } :=
  comp_inv S I3 hcl hcf f3 hlt3 hns old
 have st4:tn 0 h₁:=T.keep _ _ _ st2 fun b hb o e=>old b o (by rw [hh3]; exact Heap.get?_push_of_some _ e)
 generalize hY:compCx X N scope s3.heap.objs.size cl s3 (upd H2 s2.heap.objs.size (.lst [])) fp (X.pn ++ pins) = Y at I4
 have yp:Y.prog = X.prog:=by rw [<- hY]; rfl
 have yw:Y.w = X.w:=by rw [<- hY]; rfl
 have yK:Y.K = X.K:=by rw [<- hY]; rfl
 have yA:Y.A = X.A:=by rw [<- hY]; rfl
 have yx:Y.xe = XF:=by rw [<- hY]; rfl
 have yc:Y.calm = true:=by rw [<- hY]; exact hc
 have gY:PG Y tg g:=by rw [<- hY]; exact hg _ _ _ _ _ _
 have tY:PIf Y ifs tc:=by rw [<- hY]; exact ht _ _ _ _ _ _
 have eY:PE Y elt te:=by rw [<- hY]; exact he _ _ _ _ _ _
 have yenv:Y.env = compEnvC scope cl s3.heap.objs.size X.env:=by rw [<- hY]; rfl
 have fY:∀ {H':Hp},(∀ b ∈ fp,H' b = none)->∀ b ∈ fp,FpOk Y [] H' b:=fun hn b hb=>by
  obtain ⟨f0,f1,f2',f3',f4,f5⟩:=f3 b hb
  rw [<- hY]
  refine ⟨hn b hb,Nat.ne_of_lt (hlt3 b hb),fun z=>?_,.inl hb,fun x c e=>f4 x c (hcl x c e),fun p hp=>?_⟩
  ·rcases List.mem_cons.mp (I3.stkSub _ z) with q | q
   ·exact f1 q
   ·exact f2' q
  ·rw [List.append_nil] at hp
   exact f5 p hp
 have loop:∀ s4:Shared,s4 = { s3 with heap:=h₁,toks:=s2.toks + ([]:List (Str × Value)).length } ->
   codeAny (model X.prog X.w) X.A (.compLoop (.ListComp elt [⟨tg,iter,ifs,0⟩] scope pos) 0 (.ref it) (.ref s2.heap.objs.size) Y.env) (RR (.ref s2.heap.objs.size) s3.heap.objs.size) s4:=by
  rintro s4 rfl
  refine compLoop_gen (fun n s'=>∃ i vs H',Inv Y [] (compSt k fi σ) H' s'/\tn i s'.heap/\(∀ b ∈ fp,H' b = none)/\W i n vs H') ?_ m0 ⟨0,[],_,I4,st4,fun b hb=>(f3 b hb).1,w0⟩
  rintro n s5 ⟨i,vs,H5,I5,st5,fr5,w5⟩
  obtain ⟨hl5,hcase⟩:=turn i n vs H5 w5
  rcases hcase with ⟨stop,q⟩ | ⟨go,step⟩
  ·have d:=T.done Y yp yw yK yc i [] s5 _ H5 XF I5 (fY fr5) st5 stop
   rw [yA] at d
   refine thn d fun r s6 ⟨hr,I6⟩=>?_
   subst hr
   have hu:Un (frs X.stack) fp (upd H2 s2.heap.objs.size (.lst [])) H5 s3.heap s6.heap:=by have:=I6.base; rw [<- hY] at this; exact this
   have ho6:s6.os = s3.os:=by have:=I6.os; rw [<- hY] at this; exact this
   have hok6:HOk X.prog X.w H5 s6.heap:=by have:=I6.hok; rw [<- hY] at this; exact this
   have hC6:H5 s3.heap.objs.size = none:=by have:=I6.free; rw [<- hY] at this; exact this
   obtain ⟨m6,hn6,_⟩:=I6.loc
   have hn6':s6.heap.Ns s3.heap.objs.size m6:=by rw [<- hY] at hn6; exact hn6
   have IX:Inv X pins σ H5 s6:=I3.call' ho6 hu hok6 I6.bare fun b hb=>by
    obtain ⟨f0,f1,f2',f3',f4,f5⟩:=f3 b hb
    exact ⟨f3',f1,f4,f5⟩
   refine hR _ _ H5 s6 m6 IX hn6' ⟨hC6,Nat.ne_of_gt I3.lt,I3.sz,fun x c e z=>?_,fun p hp z=>?_⟩ q
   ·obtain ⟨v,o,ho,_⟩:=I3.cell x c e
    exact absurd (Heap.lt_size ho) (by rw [z]; exact Nat.lt_irrefl _)
   ·exact absurd (Heap.lt_size (I3.pin p hp).1) (by rw [z]; exact Nat.lt_irrefl _)
  ·have d:=T.item Y yp yw yK yc i [] s5 _ H5 XF I5 (fY fr5) st5 go
   rw [yA] at d
   refine thn d fun r s6 ⟨u,hr,h6⟩=>?_
   subst hr
   refine thn h6 fun _ s7 ⟨x,H7,I7,r7,y7,st7,fr7⟩=>?_
   have I7':=I7.pinned (fY fr7) (T.obj _ _ st7)
   have a7:=gY _ s7 _ H7 x u _ I7' r7 (ho _ _ _ _ (step x H7 y7))
   rw [yp,yw,yA,yx] at a7
   refine thn a7 fun _ s8 ⟨σ8,H8,I8,q8,l8,k8⟩=>?_
   have a8:=tY _ s8 σ8 H8 _ I8 q8
   rw [yp,yw,yA,yx] at a8
   have again:∀ {H9:Hp} {s9:Shared} {vs':List V} {m':Nat},Inv Y ([] ++ pinsAt fp s7.heap) σ8 H9 s9->m' < n->W (i + 1) m' vs' H9->∃ m,m < n/\∃ i vs H',Inv Y [] (compSt k fi σ) H' s9/\tn i s9.heap/\(∀ b ∈ fp,H' b = none)/\W i m vs H':=fun {H9 s9 vs' m'} I9 hm w9=>by
    refine ⟨m',hm,i + 1,vs',H9,(I9.unpinned).weak l8.symm (fun j v e=>?_),T.keep _ _ _ st7 fun b hb o e=>(I9.pin (b,o) (List.mem_append_right _ (List.mem_append_right _ (mem_pinsAt hb e)))).1,fun b hb=>?_,w9⟩
    ·obtain ⟨j',t,rfl,_,_⟩:=compSt_get e
     rw [k8 _ (Nat.le_add_right _ _)]
     exact e
    ·obtain ⟨o,e,_⟩:=T.obj _ _ st7 b hb
     exact (I9.pin (b,o) (List.mem_append_right _ (List.mem_append_right _ (mem_pinsAt hb e)))).2.1
   refine thn a8 fun b s9 ⟨H9,I9,q9⟩=>?_
   cases b with
   | false =>
    rw [if_neg Bool.false_ne_true] at q9 ⊢
    obtain ⟨m',hm,w9⟩:=q9
    exact again I9 hm w9
   | true =>
    rw [if_pos rfl] at q9 ⊢
    have a9:=eY _ s9 σ8 H9 _ I9 q9
    rw [yp,yw,yA,yx] at a9
    refine thn a9 fun y s10 ⟨v,H10,I10,r10,hl10,hsz10,m',hm,w10⟩=>?_
    have a10:=mt_append (X:=Y) _ s10 σ8 H10 (.ref s2.heap.objs.size) [v] (.ref s2.heap.objs.size) [y] (fun z H'=>z = .non/\H' = upd H10 s2.heap.objs.size (.lst (vs ++ [v]))) I10 rfl (.cons r10 .nil) ⟨_,vs,v,rfl,rfl,hl10,hsz10,rfl,rfl⟩
    rw [yp,yw,yA,yx] at a10
    refine thn a10 fun _ s11 ⟨_,H11,I11,_,_,e11⟩=>?_
    subst e11
    exact again I11 hm w10
 have hstart:=codeAny_compStart_list (prog:=X.prog) (w:=X.w) (A:=X.A) (elt:=elt) (target:=tg) (iter:=iter) (ifs:=ifs) (rest:=[]) (scope:=scope) (pos:=pos) (it:=.ref it) (acc:=.ref s2.heap.objs.size) (env:=Y.env) (loop _ rfl) (T.self _ 0 _ _ _ st4 (loop _ rfl))
 rw [yenv] at hstart
 rw [<- hs3] at hstart
 exact hstart
end
end L2
end

section
set_option Elab.async false
set_option linter.all false
set_option maxRecDepth 100000
namespace L2
open PySem PySem.Spec PyProof.Rows
section
variable {X:Cx}
theorem CompEnd.turned {pins:List (Addr × Obj)} {σ:St} {H:Hp} {s:Shared} {C:Addr} {h':Heap} (c:CompEnd X pins H C) (I:Inv X pins σ H s) (hs:Heap.SameBut C s.heap h'):Inv X pins σ H { s with heap:=h' } :=
 I.turned (t':=s.toks) (fun b o hb e=>hs.extBut b o hb e) c.free c.loc (.inr c.young) c.cells c.pin
theorem pe_comp {elt iter tg:Expr} {ifs:List Expr} {scope:Scope} {pos:Pos} {k:Nat} {N:List Str} {fi:List Nat} {wi:TI} {g:TG} {tc:TT} {te:TE} (hS:compScB X.env.scope scope k N X.N fi = true) (hc:X.calm = true) (hi:PI X tg iter wi)
  (hg:∀ C cl s₀ H₀ ex pn,PG (compCx X N scope C cl s₀ H₀ ex pn) tg g) (ho:OwnG k g) (ht:∀ C cl s₀ H₀ ex pn,PIf (compCx X N scope C cl s₀ H₀ ex pn) ifs tc) (he:∀ C cl s₀ H₀ ex pn,PE (compCx X N scope C cl s₀ H₀ ex pn) elt te)
  (hs:∀ x,foldedSetIterable iter X.env x = pure x:=by intro _; rfl):PE X (.ListComp elt [⟨tg,iter,ifs,0⟩] scope pos) (tComp k fi wi g tc te):=by
 intro pins s σ H Q I h
 have S:=CompSc.of hS
 obtain ⟨cl,hclos,hcl,hcf⟩:=closure_ok (env:=X.env) (scope:=scope) fun y hy e=>I.ok.has y.1 (S.fr y hy e)
 rw [eval_ListComp]
 refine wpAny_comprehension_free (use:=none) rfl hs hclos S.kind S.nm (thn (hi pins s σ H _ I h) fun v s1 h1=>thn h1 fun itv s2 h2=>?_)
 obtain ⟨it,fp,tn,J,H2,e,I2,T,st2,f2,hw⟩:=h2
 subst e
 refine comp_block (RR:=fun acc C=>compPost (model X.prog X.w) X.A X.xe none (EP X pins σ Q) acc C) S hc hcl hcf hg ho ht he I2 T st2 f2 hw ?_
 intro D C H' s' m' I' hn ce q
 exact ⟨m',hn,fun h' hs'=>⟨.ref D,H',ce.turned I' hs',rfl,q⟩⟩
theorem ps_setComp {elt iter tg:Expr} {ifs:List Expr} {scope:Scope} {pos spos py:Pos} {k:Nat} {N:List Str} {fi:List Nat} {wi:TI} {g:TG} {tc:TT} {te:TE} {j:Nat} {y:Str} (hN:X.N.Nodup) (hj:X.N[j]? = some y) (hy:Loc X.env.scope y) (hS:compScB X.env.scope scope k N X.N fi = true) (hc:X.calm = true) (hi:PI X tg iter wi)
  (hg:∀ C cl s₀ H₀ ex pn,PG (compCx X N scope C cl s₀ H₀ ex pn) tg g) (ho:OwnG k g) (ht:∀ C cl s₀ H₀ ex pn,PIf (compCx X N scope C cl s₀ H₀ ex pn) ifs tc) (he:∀ C cl s₀ H₀ ex pn,PE (compCx X N scope C cl s₀ H₀ ex pn) elt te)
  (hsw:swapsWith (.ListComp elt [⟨tg,iter,ifs,0⟩] scope pos) (some (.Name y py)) spos.line X.env = pure true:=by rfl)
  (hs:∀ x,foldedSetIterable iter X.env x = pure x:=by intro _; rfl) (hf:X.fn y = true ∨ X.env.scope.names.lookup y = some .local:=by first | exact .inl rfl | exact .inr rfl | assumption) :
  PS X (.Assign [.Name y py] (.ListComp elt [⟨tg,iter,ifs,0⟩] scope pos) spos) (tAsg (tComp k fi wi g tc te) (gName j)):=by
 intro pins s σ H D I h
 have S:=CompSc.of hS
 obtain ⟨cl,hclos,hcl,hcf⟩:=closure_ok (env:=X.env) (scope:=scope) fun y hy e=>I.ok.has y.1 (S.fr y hy e)
 rw [exec_Assign_Name_used _ _ _ _ hsw]
 refine wpAny_bind (wpAny_standAt (wpAny_bind ?_))
 show wpAny _ X.A (do let _ <- comprehension (.ListComp elt [⟨tg,iter,ifs,0⟩] scope pos) scope X.env _ (newList []) false (eval iter X.env) (some (assign (.Name y py) X.env))) _ _ s
 refine wpAny_bind (wpAny_mono (wpAny_comprehension_free (use:=some (assign (.Name y py) X.env)) (Q:=fun _ s'=>SP X pins D .next s') rfl hs hclos S.kind S.nm
  (thn (hi pins s σ H _ I h) fun v s1 h1=>thn h1 fun itv s2 h2=>?_)) (fun _ s' hq=>wpAny_pure (wpAny_pure hq)) fun _ _ e=>e)
 obtain ⟨it,fp,tn,J,H2,e,I2,T,st2,f2,hw⟩:=h2
 subst e
 refine comp_block (RR:=fun acc C=>compPost (model X.prog X.w) X.A X.xe (some (assign (.Name y py) X.env)) (fun _ s'=>SP X pins D .next s') acc C) (Q:=fun x H1=>gName j x σ H1 D.nx) S hc hcl hcf hg ho ht he I2 T st2 f2 hw ?_
 intro A C H' s' m' I' hn ce q
 show wpAny _ X.A (assign (.Name y py) X.env (.ref A)) _ _ _
 refine wpAny_assign_Name (store_ok2 I' hN hj hy (v:=.ref A) rfl (fun s'' I'' hsb=>?_) hf)
 obtain ⟨a,hsa,ha⟩:=hsb
 have hCa:C ≠ a:=by
  rcases ha with z | z
  ·rw [z]; exact ce.loc
  ·exact Ne.symm (ce.cells y a z)
 refine ⟨m',hn.sameBut hsa hCa,fun h' hs'=>?_⟩
 exact ⟨_,H',ce.turned I'' hs',q⟩
end
end L2
end

section
set_option Elab.async false
set_option linter.all false
set_option maxRecDepth 100000
namespace L2
open PySem PySem.Spec PyProof.Rows
theorem Inv.turnedNew {X:Cx} {pins:List (Addr × Obj)} {σ:St} {H:Hp} {s:Shared} {h2:Heap} {t':Nat} {ch:List Addr} {o:HO} (I:Inv X pins σ H s) (hf:∀ b ∈ ch,FpOk X pins H b)
  (k:∀ b q,b ∉ ch->s.heap.get? b = some q->h2.get? b = some q) (hq:∃ q,h2.get? s.heap.objs.size = some q) (hno:∀ y,o ≠ .own y) (new:ObjOk X.prog X.w (upd H s.heap.objs.size o) h2 s.heap.objs.size o) :
  Inv X pins σ (upd H s.heap.objs.size o) { s with heap:=h2,toks:=t' }:=by
 have hn0:H s.heap.objs.size = none:=I.fresh
 have nsz:∀ b q,s.heap.get? b = some q->b ≠ s.heap.objs.size:=fun b q e=>Nat.ne_of_lt (Heap.lt_size e)
 have tr:∀ b u,H b = some u->b ∉ ch:=fun b u e z=>by rw [(hf b z).1] at e; cases e
 refine I.step (g':=s.gens) (d':=s.drawn) (ch:=ch) (fun b hb=>?_) (fun b q _ _ hc e _=>k b q hc e) (fun b q _ _ hc e _=>⟨q.slots,k b q hc e⟩) (fun b q _ e n=>by rw [upd_ne (nsz b q e)]; exact n) (fun b q hc e=>⟨q,k b q hc e⟩)
  (fun b xs e=>by rw [upd_ne (ne_of_none e hn0)]; exact e) (fun b q u e=>by rw [upd_ne (ne_of_none e hn0)]; exact e) (fun b ps e=>⟨#[],by rw [upd_ne (ne_of_none e hn0),e]; simp⟩) (fun m hm=>?_) (fun b u e=>?_) I.bare
 ·obtain ⟨f0,f1,f2,f3,f4,f5⟩:=hf b hb
  exact ⟨f3,f1,f4,f5⟩
 ·obtain ⟨q,es,ep,ho,r⟩:=hm
  exact ⟨q,es,ep,k _ q (fun z=>(hf _ z).2.1 rfl) ho,r⟩
 ·by_cases hb:b = s.heap.objs.size
  ·subst hb; rw [upd_same] at e; cases e; exact new
  ·rw [upd_ne hb] at e
   refine (I.hok b u e).stay (fun c v hc q=>k c v ?_ q) (fun c q=>by rw [upd_ne (ne_of_none q hn0)]; exact q) fun c xs q=>by rw [upd_ne (ne_of_none q hn0)]; exact q
   rcases hc with z | z
   ·subst z; exact tr _ _ e
   ·exact tr _ _ z
def Ite (K:PySem.W.Frag) (a:Addr):It :=
 ⟨fun i H=>∃ xs x,SqL K H a xs/\xs[i]? = some x,fun i H x H'=>∃ p v,x = .ref p/\H p = none/\(∀ xs,SqL K H a xs->xs[i]? = some v)/\H' = upd H p (.tup [.int i,v]),fun i H=>∃ xs,SqL K H a xs/\xs.length <= i⟩
theorem turn_enum {P:Program} {w:World} {K:PySem.W.Frag} {es:List Expr} {kx:Nat} {tpos:Pos} (a e it:Addr) (hne:e ≠ it) :
  Turn P w K (.Tuple es kx tpos) (Ite K a) [e,it] e (fun i h=>(∃ old,IsEnum h e it i old)/\h.IsListIter it a i) where
 mem:=by simp
 obj:=fun i h st b hb=>by
  obtain ⟨⟨old,he⟩,o,ho,hc,hd⟩:=st
  rcases List.mem_cons.mp hb with z | z
  ·subst z; exact ⟨_,he,fun v z=>by cases z⟩
  ·have z':b = it:=by simpa using z
   subst z'
   exact ⟨o,ho,fun v z=>by rw [hd] at z; cases z⟩
 keep:=fun i h h' st k=>⟨let ⟨old,he⟩:=st.1; ⟨old,k e (by simp) _ he⟩,st.2.at fun o e=>k it (by simp) o e⟩
 item:=by
  intro X hP hw hK hc i pins s σ H E I hf st hg
  subst hP hw hK
  obtain ⟨⟨old,he⟩,hit⟩:=st
  obtain ⟨xs,x,hq,hx⟩:=hg
  obtain ⟨its,rv,p,hz⟩:=I.list hq
  obtain ⟨u,hu,ru⟩:=rv.get hx
  obtain ⟨e0,e1,e2,e3,e4,e5⟩:=hf e (by simp)
  obtain ⟨f0,f1,f2,f3,f4,f5⟩:=hf it (by simp)
  refine wpAny_pyNext_enum_item he hit p.isList (x:=u) (by simpa using hu) hne fun h' ho' hit' ht' hsz' hk'=>?_
  refine ⟨_,rfl,wpAny_letOwnedTupleGo_enum (s:={ s with heap:=h',toks:=s.toks + 1 }) ho' fun h2 he2 hs2=>?_⟩
  have hs2':Heap.SameBut e h' h2:=hs2
  have hpe:s.heap.objs.size ≠ e:=Nat.ne_of_gt (Heap.lt_size he)
  have ht2:h2.get? s.heap.objs.size = some { cls:=.type "tuple",data:=.seq #[.int i s.toks,u] }:=hs2'.extBut _ _ hpe ht'
  have hn0:H s.heap.objs.size = none:=I.fresh
  have hue:upd H s.heap.objs.size (.tup [.int i,x]) e = none:=by rw [upd_ne (Ne.symm hpe)]; exact e0
  have hpi:s.heap.objs.size ≠ it:=by
   obtain ⟨o,ho,_⟩:=hit
   exact Nat.ne_of_gt (Heap.lt_size ho)
  have hui:upd H s.heap.objs.size (.tup [.int i,x]) it = none:=by rw [upd_ne (Ne.symm hpi)]; exact f0
  have I2:Inv X pins σ (upd H s.heap.objs.size (.tup [.int i,x])) { s with heap:=h2,toks:=s.toks + 1 }:=by
   refine I.turnedNew (ch:=[e,it]) hf (fun b o hb q=>?_) ⟨_,ht2⟩ (fun _ z=>nomatch z) ⟨by show 2 <= sizeLine; decide,[.int i s.toks,u],.cons ⟨_,rfl⟩ (.cons ru .nil),⟨_,ht2,rfl,_,rfl⟩⟩
   have nb1:b ≠ e:=fun z=>hb (by simp [z])
   have nb2:b ≠ it:=fun z=>hb (by simp [z])
   exact hs2'.extBut _ _ nb1 (hk' b o nb1 nb2 q)
  refine ⟨.ref s.heap.objs.size,_,I2,rfl,⟨_,x,rfl,hn0,fun ys hy=>by rw [I.list_inj hy hq]; exact hx,rfl⟩,⟨⟨u,by simpa using he2⟩,hit'.at fun o y=>(hs2'.2 it (Ne.symm hne)).trans y⟩,fun b hb=>?_⟩
  rcases List.mem_cons.mp hb with z | z
  ·subst z; exact hue
  ·have z':b = it:=by simpa using z
   subst z'; exact hui
 done:=by
  intro X hP hw hK hc i pins s σ H E I hf st hg
  subst hP hw hK
  obtain ⟨⟨old,he⟩,hit⟩:=st
  obtain ⟨xs,hq,hx⟩:=hg
  obtain ⟨its,rv,p,hz⟩:=I.list hq
  obtain ⟨f0,f1,f2,f3,f4,f5⟩:=hf it (by simp)
  have hl:=rv.length
  exact wpAny_pyNext_enum_end (I.ok.hd hc) he hit p.isList (by simp; omega) fun h' eb=>⟨rfl,I.turned (t':=s.toks) (fun b o hb e=>eb b o hb e) f0 f1 f3 f4 f5⟩
 self:=fun _ _ _ _ _ st h=>let ⟨_,he⟩:=st.1; wpAny_pyIter_enum he h
section
variable {X:Cx} {p pos:Pos} {es:List Expr} {kx:Nat} {tpos:Pos}
def iEnum (K:PySem.W.Frag) (ta:TA):TI:=fun σ H R=>ta σ H fun vs H1=>∃ a,vs = [.ref a]/\(∃ xs,SqL K H1 a xs)/\R (Ite K a) H1
theorem pi_enum {a:Expr} {ta:TA} (hg:Gl X "enumerate") (hm:X.mg "enumerate" = none) (ha:PA X [a] ta) (hs:starEach [a] X.env = [(false,eval a X.env)]:=by rfl):PI X (.Tuple es kx tpos) (.Call (.Name "enumerate" p) [a] [] pos) (iEnum X.K ta):=by
 intro pins s σ H R I h
 refine Call_ (ld_blt I hg hm boot_enumerate (PyProof.Rows.callWith_type1 (thn (ha pos pins s σ H _ I h) fun us s1 ⟨vs,H1,I1,r1,q1⟩=>?_) hs rfl))
 obtain ⟨l,e,⟨xs,hq⟩,q⟩:=q1
 subst e
 obtain ⟨u,rfl,ru⟩:=vals1 r1
 cases ru
 obtain ⟨its,rv,pl,hz⟩:=I1.list hq
 refine call_enumerate_list pl.isList fun h' he hit hsz hk=>?_
 refine wpAny_pyIter_enum (s:={ s1 with heap:=h' }) he ?_
 have hk':∀ b o,s1.heap.get? b = some o->h'.get? b = some o:=hk
 have I2:Inv X pins σ H1 { s1 with heap:=h' }:=I1.kept (t':=s1.toks) hk'
 refine ⟨_,[s1.heap.objs.size + 1,s1.heap.objs.size],_,_,H1,rfl,I2,turn_enum l _ _ (Nat.succ_ne_self _),⟨⟨_,he⟩,hit⟩,fun b hb=>?_,q⟩
 have hb':s1.heap.objs.size <= b:=by
  rcases List.mem_cons.mp hb with z | z
  ·rw [z]; exact Nat.le_succ _
  ·have z':b = s1.heap.objs.size:=by simpa using z
   rw [z']; exact Nat.le_refl _
 exact I1.fpOk hb' (I1.hok.fresh hb')
end
end L2
end

section
set_option Elab.async false
set_option linter.all false
set_option maxRecDepth 100000
namespace L2
open PySem PySem.Spec PyProof.Rows
def Its (x:Str):It:=⟨fun i _=>i < x.cps.size,fun i H y H'=>H' = H/\∃ c,x.cps[i]? = some c/\y = .str ⟨#[c]⟩,fun i _=>x.cps.size <= i⟩
theorem turn_ascii {P:Program} {w:World} {K:PySem.W.Frag} {tg:Expr} (x:Str) (t:Tok) (it:Addr):Turn P w K tg (Its x) [it] it (fun i h=>h.IsStrIter it "str_ascii_iterator" x t i) where
 mem:=by simp
 obj:=fun i h st b hb=>by
  have e:b = it:=by simpa using hb
  subst e
  obtain ⟨o,e,c,d⟩:=st
  exact ⟨o,e,fun v z=>by rw [d] at z; cases z⟩
 keep:=fun i h h' st k=>by
  obtain ⟨o,e,c,d⟩:=st
  exact ⟨o,k it (by simp) o e,c,d⟩
 item:=by
  intro X hP hw hK hc i pins s σ H E I hf st hg
  subst hP hw hK
  have hlt:i < x.cps.size:=hg
  obtain ⟨f0,f1,f2,f3,f4,f5⟩:=hf it (by simp)
  have hx:x.cps[i]? = some x.cps[i]:=by simp [hlt]
  refine wpAny_pyNext_ascii_item st hx fun h' st' sb=>?_
  have I1:Inv X pins σ H { s with heap:=h',toks:=s.toks + 1 }:=I.turned (t':=s.toks + 1) (fun b o hb e=>(sb.2 b hb).trans e) f0 f1 f3 f4 f5
  obtain ⟨o,e,c,d⟩:=id st'
  exact ⟨_,rfl,go_of (s:={ s with heap:=h',toks:=s.toks + 1 }) e c d (by decide) ⟨.str ⟨#[x.cps[i]]⟩,H,I1,⟨_,rfl⟩,⟨rfl,_,hx,rfl⟩,st',fun b hb=>(hf b hb).1⟩⟩
 done:=by
  intro X hP hw hK hc i pins s σ H E I hf st hg
  subst hP hw hK
  have hge:x.cps.size <= i:=hg
  obtain ⟨f0,f1,f2,f3,f4,f5⟩:=hf it (by simp)
  exact wpAny_pyNext_ascii_end (I.ok.hd hc) st (by simp; omega) fun h' eb=>⟨rfl,I.turned (t':=s.toks) (fun b o hb e=>eb b o hb e) f0 f1 f3 f4 f5⟩
 self:=fun _ _ _ _ _ st h=>wpAny_pyIter_striter_ascii st h
theorem turn_wide {P:Program} {w:World} {K:PySem.W.Frag} {tg:Expr} (x:Str) (t:Tok) (it:Addr):Turn P w K tg (Its x) [it] it (fun i h=>h.IsStrIter it "str_iterator" x t i) where
 mem:=by simp
 obj:=fun i h st b hb=>by
  have e:b = it:=by simpa using hb
  subst e
  obtain ⟨o,e,c,d⟩:=st
  exact ⟨o,e,fun v z=>by rw [d] at z; cases z⟩
 keep:=fun i h h' st k=>by
  obtain ⟨o,e,c,d⟩:=st
  exact ⟨o,k it (by simp) o e,c,d⟩
 item:=by
  intro X hP hw hK hc i pins s σ H E I hf st hg
  subst hP hw hK
  have hlt:i < x.cps.size:=hg
  obtain ⟨f0,f1,f2,f3,f4,f5⟩:=hf it (by simp)
  have hx:x.cps[i]? = some x.cps[i]:=by simp [hlt]
  refine wpAny_pyNext_wide_item st hx fun h' st' sb=>?_
  have I1:Inv X pins σ H { s with heap:=h',toks:=s.toks + 1 }:=I.turned (t':=s.toks + 1) (fun b o hb e=>(sb.2 b hb).trans e) f0 f1 f3 f4 f5
  obtain ⟨o,e,c,d⟩:=id st'
  exact ⟨_,rfl,go_of (s:={ s with heap:=h',toks:=s.toks + 1 }) e c d (by decide) ⟨.str ⟨#[x.cps[i]]⟩,H,I1,⟨_,rfl⟩,⟨rfl,_,hx,rfl⟩,st',fun b hb=>(hf b hb).1⟩⟩
 done:=by
  intro X hP hw hK hc i pins s σ H E I hf st hg
  subst hP hw hK
  have hge:x.cps.size <= i:=hg
  obtain ⟨f0,f1,f2,f3,f4,f5⟩:=hf it (by simp)
  exact wpAny_pyNext_wide_end (I.ok.hd hc) st (by simp; omega) fun h' eb=>⟨rfl,I.turned (t':=s.toks) (fun b o hb e=>eb b o hb e) f0 f1 f3 f4 f5⟩
 self:=fun _ _ _ _ _ st h=>wpAny_pyIter_striter_wide st h
section
variable {X:Cx} {p pos:Pos} {tg:Expr}
def iStr (tl:TE):TI:=fun σ H R=>tl σ H fun v H1=>∃ x,v = .str x/\R (Its x) H1
theorem pi_str {l:Expr} {tl:TE} (hl:PE X l tl):PI X tg l (iStr tl):=by
 intro pins s σ H R I h
 refine thn (hl pins s σ H _ I h) fun v s1 ⟨y,H1,I1,r1,q1⟩=>?_
 obtain ⟨x,e,q⟩:=q1
 subst e
 obtain ⟨t,rfl⟩:=r1
 have fin:∀ b ∈ [s1.heap.objs.size],FpOk X pins H1 b:=fun b hb=>by
  have e:b = s1.heap.objs.size:=by simpa using hb
  subst e
  exact I1.fpOk (Nat.le_refl _) (I1.hok.fresh (Nat.le_refl _))
 cases ha:x.cps.all (· < 128)
 ·refine wpAny_pyIter_wide ha ?_
  exact ⟨s1.heap.objs.size,[s1.heap.objs.size],_,_,H1,rfl,I1.kept (t':=s1.toks) fun b o e=>Heap.get?_push_of_some _ e,turn_wide x t _,⟨_,Heap.get?_push_size _ rfl,rfl,rfl⟩,fin,q⟩
 ·refine wpAny_pyIter_ascii ha ?_
  exact ⟨s1.heap.objs.size,[s1.heap.objs.size],_,_,H1,rfl,I1.kept (t':=s1.toks) fun b o e=>Heap.get?_push_of_some _ e,turn_ascii x t _,⟨_,Heap.get?_push_size _ rfl,rfl,rfl⟩,fin,q⟩
end
section
variable {X:Cx} {p pos:Pos} {es:List Expr} {kx:Nat} {tpos:Pos}
end
end L2
end

section
set_option Elab.async false
set_option linter.all false
set_option maxRecDepth 100000
namespace L2
open PySem PySem.Spec PyProof.Rows
open Sem (wp)
section
variable {prog:Program} {w:World} {A:Around} {E:Value->Shared->Prop} {s:Shared}
end
section
variable {prog:Program} {w:World} {A:Around} {E:Value->Shared->Prop} {s:Shared}
end
section
variable {X:Cx} {p pos:Pos} {es:List Expr} {kx:Nat} {tpos:Pos}
end
end L2
end

section
set_option Elab.async false
set_option linter.all false
set_option maxRecDepth 100000
namespace L2
open PySem PySem.Spec PyProof.Rows
open Sem (wp)
inductive DT where
 | k (a:Key)
 | t (l:List DT)
 | s (l:List DT)
mutual
def decDT:(x y:DT)->Decidable (x = y)
 | .k a,.k b=>if h:a = b then Decidable.isTrue (by rw [h]) else Decidable.isFalse fun e=>h (by injection e)
 | .t l,.t m=>match decDTs l m with
  | Decidable.isTrue h=>Decidable.isTrue (by rw [h])
  | Decidable.isFalse h=>Decidable.isFalse fun e=>h (by injection e)
 | .s l,.s m=>match decDTs l m with
  | Decidable.isTrue h=>Decidable.isTrue (by rw [h])
  | Decidable.isFalse h=>Decidable.isFalse fun e=>h (by injection e)
 | .k _,.t _=>Decidable.isFalse nofun
 | .k _,.s _=>Decidable.isFalse nofun
 | .t _,.k _=>Decidable.isFalse nofun
 | .t _,.s _=>Decidable.isFalse nofun
 | .s _,.k _=>Decidable.isFalse nofun
 | .s _,.t _=>Decidable.isFalse nofun
def decDTs:(x y:List DT)->Decidable (x = y)
 | [],[]=>Decidable.isTrue rfl
 | [],_ :: _=>Decidable.isFalse nofun
 | _ :: _,[]=>Decidable.isFalse nofun
 | a :: l,b :: m=>match decDT a b with
  | Decidable.isTrue h=>match decDTs l m with
   | Decidable.isTrue h'=>Decidable.isTrue (by rw [h,h'])
   | Decidable.isFalse h'=>Decidable.isFalse fun e=>h' (by injection e)
  | Decidable.isFalse h=>Decidable.isFalse fun e=>h (by injection e)
end
instance:DecidableEq DT:=decDT
mutual
def DT.depth:DT->Nat
 | .k _=>0
 | .t l=>DT.depths l + 1
 | .s l=>DT.depths l + 1
def DT.depths:List DT->Nat
 | []=>0
 | a :: r=>max (DT.depth a) (DT.depths r)
end
mutual
def DAt (h:Heap):DT->Value->Prop
 | .k a,v=>keyIs a v = true
 | .t l,v=>∃ a items,v = .ref a/\h.IsTuple a items/\DAts h l items.toList
 | .s l,v=>∃ a items,v = .ref a/\h.IsList a items/\DAts h l items.toList
def DAts (h:Heap):List DT->List Value->Prop
 | [],vs=>vs = []
 | k :: r,vs=>∃ v us,vs = v :: us/\DAt h k v/\DAts h r us
end
theorem DAts.length {h:Heap}:∀ {xs:List DT} {vs:List Value},DAts h xs vs->xs.length = vs.length
 | [],vs,e=>by have e':vs = []:=e; rw [e']; rfl
 | x :: xs,vs,e=>by
  obtain ⟨v,us,rfl,_,h2⟩:=e
  simp [DAts.length h2]
theorem DAts.get {h:Heap}:∀ {xs:List DT} {vs:List Value} {i:Nat} {v:Value},DAts h xs vs->vs[i]? = some v->∃ x,xs[i]? = some x/\DAt h x v
 | [],vs,i,v,e,q=>by have e':vs = []:=e; subst e'; simp at q
 | x :: xs,vs,i,v,e,q=>by
  obtain ⟨u,us,rfl,h1,h2⟩:=e
  cases i with
  | zero =>
   simp at q; subst q
   exact ⟨x,rfl,h1⟩
  | succ i =>
   obtain ⟨y,e1,e2⟩:=DAts.get h2 (i:=i) (v:=v) (by simpa using q)
   exact ⟨y,by simpa using e1,e2⟩
theorem DT.depths_get {l:List DT} {x:DT} {i d:Nat} (h:DT.depths l <= d) (e:l[i]? = some x):x.depth <= d:=by
 induction l generalizing i with
 | nil=>simp at e
 | cons a r ih =>
  have h':max a.depth (DT.depths r) <= d:=h
  cases i with
  | zero=>simp at e; subst e; omega
  | succ i=>exact ih (by omega) (by simpa using e)
theorem isList_inj {h:Heap} {a:Addr} {i j:Array Value} (x:h.IsList a i) (y:h.IsList a j):i = j:=by
 obtain ⟨o,ho,_,n,hd⟩:=x
 obtain ⟨o',ho',_,n',hd'⟩:=y
 rw [ho] at ho'; cases ho'
 rw [hd] at hd'; injection hd'
theorem isTuple_inj {h:Heap} {a:Addr} {i j:Array Value} (x:h.IsTuple a i) (y:h.IsTuple a j):i = j:=by
 obtain ⟨o,ho,_,n,hd⟩:=x
 obtain ⟨o',ho',_,n',hd'⟩:=y
 rw [ho] at ho'; cases ho'
 rw [hd] at hd'; injection hd'
theorem isList_not_tuple {h:Heap} {a:Addr} {i j:Array Value} (x:h.IsList a i) (y:h.IsTuple a j):False:=by
 obtain ⟨o,ho,hc,_⟩:=x
 obtain ⟨o',ho',hc',_⟩:=y
 rw [ho] at ho'; cases ho'
 rw [hc] at hc'; simp at hc'
theorem keyIs_inj {a b:Key} {v:Value} (h1:keyIs a v = true) (h2:keyIs b v = true):a = b:=by
 rcases keyIs_shape h1 with ⟨i,t,rfl,rfl⟩ | ⟨i,t,rfl,rfl⟩
 ·rcases keyIs_shape h2 with ⟨j,u,rfl,e⟩ | ⟨j,u,rfl,e⟩
  ·cases e; rfl
  ·cases e
 ·rcases keyIs_shape h2 with ⟨j,u,rfl,e⟩ | ⟨j,u,rfl,e⟩
  ·cases e
  ·cases e; rfl
theorem keyIs_ref {a:Key} {b:Addr} (h:keyIs a (.ref b) = true):False:=by
 rcases keyIs_shape h with ⟨_,_,_,e⟩ | ⟨_,_,_,e⟩ <;> cases e
theorem DAt.inj {h:Heap}:∀ (d:Nat) {x y:DT} {v:Value},x.depth <= d->DAt h x v->DAt h y v->x = y:=by
 have key:∀ (d:Nat) (ih:∀ {x y:DT} {v:Value},x.depth <= d->DAt h x v->DAt h y v->x = y) (xs ys:List DT) (vs:List Value),DT.depths xs <= d->DAts h xs vs->DAts h ys vs->xs = ys:=by
  intro d ih xs
  induction xs with
  | nil =>
   intro ys vs _ hx hy
   have hx':vs = []:=hx
   subst hx'
   cases ys with
   | nil=>rfl
   | cons y ys=>obtain ⟨_,_,e,_⟩:=hy; cases e
  | cons x xs ihl =>
   intro ys vs hd hx hy
   obtain ⟨v,us,rfl,hx1,hx2⟩:=hx
   cases ys with
   | nil=>have hy':v :: us = []:=hy; cases hy'
   | cons y ys =>
    obtain ⟨v',us',e,hy1,hy2⟩:=hy
    cases e
    have hd':max x.depth (DT.depths xs) <= d:=hd
    rw [ih (by omega) hx1 hy1,ihl ys us (by omega) hx2 hy2]
 intro d
 induction d with
 | zero =>
  intro x y v hd hx hy
  cases x with
  | t l=>exact absurd hd (by show ¬ (DT.depths l + 1 <= 0); omega)
  | s l=>exact absurd hd (by show ¬ (DT.depths l + 1 <= 0); omega)
  | k a =>
   cases y with
   | k b=>rw [keyIs_inj hx hy]
   | t l=>obtain ⟨b,_,rfl,_⟩:=hy; exact (keyIs_ref hx).elim
   | s l=>obtain ⟨b,_,rfl,_⟩:=hy; exact (keyIs_ref hx).elim
 | succ d ih =>
  intro x y v hd hx hy
  cases x with
  | k a =>
   cases y with
   | k b=>rw [keyIs_inj hx hy]
   | t l=>obtain ⟨b,_,rfl,_⟩:=hy; exact (keyIs_ref hx).elim
   | s l=>obtain ⟨b,_,rfl,_⟩:=hy; exact (keyIs_ref hx).elim
  | t l =>
   obtain ⟨a,i,rfl,hi,hx⟩:=hx
   cases y with
   | k b=>exact (keyIs_ref hy).elim
   | t m =>
    obtain ⟨a',j,e,hj,hy⟩:=hy
    cases e
    rw [isTuple_inj hj hi] at hy
    rw [key d (fun h1=>ih h1) l m i.toList (by have:DT.depths l + 1 <= d + 1:=hd; omega) hx hy]
   | s m =>
    obtain ⟨a',j,e,hj,hy⟩:=hy
    cases e
    exact (isList_not_tuple hj hi).elim
  | s l =>
   obtain ⟨a,i,rfl,hi,hx⟩:=hx
   cases y with
   | k b=>exact (keyIs_ref hy).elim
   | s m =>
    obtain ⟨a',j,e,hj,hy⟩:=hy
    cases e
    rw [isList_inj hj hi] at hy
    rw [key d (fun h1=>ih h1) l m i.toList (by have:DT.depths l + 1 <= d + 1:=hd; omega) hx hy]
   | t m =>
    obtain ⟨a',j,e,hj,hy⟩:=hy
    cases e
    exact (isList_not_tuple hi hj).elim
theorem all_range_eq {l m:List DT} (hl:l.length = m.length):((List.range l.length).all fun j=>decide (l[j]? = m[j]?)) = decide (l = m):=by
 by_cases e:l = m
 ·subst e; simp
 ·rw [decide_eq_false e]
  rw [List.all_eq_false]
  apply Classical.byContradiction
  intro h
  apply e
  apply List.ext_getElem?
  intro i
  by_cases hi:i < l.length
  ·apply Classical.byContradiction
   intro hne
   exact h ⟨i,List.mem_range.mpr hi,by simpa using hne⟩
  ·rw [List.getElem?_eq_none (by omega),List.getElem?_eq_none (by omega)]
section
variable {s:Shared}
theorem dt_eq:∀ (d:Nat) {A:Around} {x y:DT} {u v:Value},x.depth <= d->y.depth <= d->A.units + d < cLine->DAt s.heap x u->DAt s.heap y v->SeqAt.EqAt A s u v (decide (x = y)):=by
 have leaves:∀ {A:Around} {a b:Key} {u v:Value},keyIs a u = true->keyIs b v = true->SeqAt.EqAt A s u v (decide (DT.k a = DT.k b)):=by
  intro A a b u v h1 h2
  have hd:decide (DT.k a = DT.k b) = decide (a = b):=by
   by_cases e:a = b
   ·subst e; simp
   ·have:¬ (DT.k a = DT.k b):=fun z=>e (by injection z)
    rw [decide_eq_false this,decide_eq_false e]
  rw [hd]
  rcases keyIs_shape h1 with ⟨i,t,rfl,rfl⟩ | ⟨i,t,rfl,rfl⟩
  ·rcases keyIs_shape h2 with ⟨j,u,rfl,rfl⟩ | ⟨j,u,rfl,rfl⟩
   ·rw [key_ll]; exact SeqAt.EqAt.int_int i t j u
   ·rw [key_lr]; exact SeqAt.EqAt.int_str i t j u
  ·rcases keyIs_shape h2 with ⟨j,u,rfl,rfl⟩ | ⟨j,u,rfl,rfl⟩
   ·rw [key_rl]; exact SeqAt.EqAt.str_int i t j u
   ·rw [key_rr]
    have:=SeqAt.EqAt.str_str (A:=A) (s:=s) i t j u
    rwa [show (i == j) = decide (i = j) from by by_cases e:i = j <;> simp [e]] at this
 have kt:∀ {A:Around} {a:Key} {u:Value} {b:Addr} {items:Array Value},A.units < cLine->keyIs a u = true->s.heap.IsTuple b items->SeqAt.EqAt A s u (.ref b) false/\SeqAt.EqAt A s (.ref b) u false:=by
  intro A a u b items hu h1 ht
  rcases keyIs_shape h1 with ⟨i,t,rfl,rfl⟩ | ⟨i,t,rfl,rfl⟩
  ·exact ⟨SeqAt.EqAt.int_tuple i t ht hu,SeqAt.EqAt.tuple_int i t ht hu⟩
  ·exact ⟨SeqAt.EqAt.str_tuple i t ht hu,SeqAt.EqAt.tuple_str i t ht hu⟩
 have kl:∀ {A:Around} {a:Key} {u:Value} {b:Addr} {items:Array Value},A.units < cLine->keyIs a u = true->s.heap.IsList b items->SeqAt.EqAt A s u (.ref b) false/\SeqAt.EqAt A s (.ref b) u false:=by
  intro A a u b items hu h1 ht
  rcases keyIs_shape h1 with ⟨i,t,rfl,rfl⟩ | ⟨i,t,rfl,rfl⟩
  ·exact ⟨SeqAt.EqAt.int_list i t ht hu,SeqAt.EqAt.list_int i t ht hu⟩
  ·exact ⟨SeqAt.EqAt.str_list i t ht hu,SeqAt.EqAt.list_str i t ht hu⟩
 intro d
 induction d with
 | zero =>
  intro A x y u v hdx hdy hu hx hy
  cases x with
  | t l=>exact absurd hdx (by show ¬ (DT.depths l + 1 <= 0); omega)
  | s l=>exact absurd hdx (by show ¬ (DT.depths l + 1 <= 0); omega)
  | k a =>
   cases y with
   | t l=>exact absurd hdy (by show ¬ (DT.depths l + 1 <= 0); omega)
   | s l=>exact absurd hdy (by show ¬ (DT.depths l + 1 <= 0); omega)
   | k b=>exact leaves hx hy
 | succ d ih =>
  intro A x y u v hdx hdy hu hx hy
  have items:∀ {l m:List DT} {i j:Array Value},DT.depths l <= d->DT.depths m <= d->DAts s.heap l i.toList->DAts s.heap m j.toList->∀ n (h1:n < i.size) (h2:n < j.size),SeqAt.EqAt A.in1 s i[n] j[n] (decide (l[n]? = m[n]?)):=by
   intro l m i j hl hm hi hj n h1 h2
   obtain ⟨x,ex,hx⟩:=hi.get (i:=n) (v:=i[n]) (by simp [h1])
   obtain ⟨y,ey,hy⟩:=hj.get (i:=n) (v:=j[n]) (by simp [h2])
   rw [ex,ey]
   have hd:decide ((some x:Option DT) = some y) = decide (x = y):=by
    by_cases e:x = y
    ·subst e; simp
    ·rw [decide_eq_false e,decide_eq_false fun z=>e (Option.some.inj z)]
   rw [hd]
   exact ih (DT.depths_get hl ex) (DT.depths_get hm ey) (by show A.units + 1 + d < cLine; omega) hx hy
  cases x with
  | k a =>
   cases y with
   | k b=>exact leaves hx hy
   | t l =>
    obtain ⟨b,i,rfl,hi,_⟩:=hy
    rw [decide_eq_false (by intro z; cases z)]
    exact (kt (by omega) hx hi).1
   | s l =>
    obtain ⟨b,i,rfl,hi,_⟩:=hy
    rw [decide_eq_false (by intro z; cases z)]
    exact (kl (by omega) hx hi).1
  | t l =>
   have hl:DT.depths l <= d:=by have:DT.depths l + 1 <= d + 1:=hdx; omega
   have hx0:=hx
   obtain ⟨a,i,rfl,hi,hx⟩:=hx
   cases y with
   | k b =>
    rw [decide_eq_false (by intro z; cases z)]
    exact (kt (by omega) hy hi).2
   | s m =>
    obtain ⟨b,j,rfl,hj,_⟩:=hy
    rw [decide_eq_false (by intro z; cases z)]
    exact SeqAt.EqAt.tuple_list hi hj (by omega)
   | t m =>
    have hm:DT.depths m <= d:=by have:DT.depths m + 1 <= d + 1:=hdy; omega
    have hy0:=hy
    obtain ⟨b,j,rfl,hj,hy⟩:=hy
    by_cases hab:a = b
    ·subst hab
     have e:DT.t l = DT.t m:=DAt.inj _ (Nat.le_refl _) hx0 hy0
     rw [decide_eq_true e]
     exact SeqAt.EqAt.same _
    ·have r:=SeqAt.RcAt.tuples (A:=A) hi hj (by omega) (items hl hm hx hy)
     have li:=hx.length
     have lj:=hy.length
     simp only [Array.length_toList] at li lj
     have q:((List.range (min i.size j.size)).all (fun n=>decide (l[n]? = m[n]?)) && i.size == j.size) = decide (DT.t l = DT.t m):=by
      by_cases e:l.length = m.length
      ·have e1:i.size = j.size:=by omega
       rw [<- e1,Nat.min_self,<- li,all_range_eq e]
       by_cases e2:l = m
       ·subst e2; simp
       ·have:¬ (DT.t l = DT.t m):=fun z=>e2 (by injection z)
        rw [decide_eq_false this,decide_eq_false e2]; rfl
      ·have e1:(i.size == j.size) = false:=by simp; omega
       have:¬ (DT.t l = DT.t m):=fun z=>e (by injection z with z; rw [z])
       rw [e1,decide_eq_false this,Bool.and_false]
     rw [q] at r
     exact .of_refs hab r
  | s l =>
   have hl:DT.depths l <= d:=by have:DT.depths l + 1 <= d + 1:=hdx; omega
   have hx0:=hx
   obtain ⟨a,i,rfl,hi,hx⟩:=hx
   cases y with
   | k b =>
    rw [decide_eq_false (by intro z; cases z)]
    exact (kl (by omega) hy hi).2
   | t m =>
    obtain ⟨b,j,rfl,hj,_⟩:=hy
    rw [decide_eq_false (by intro z; cases z)]
    exact SeqAt.EqAt.list_tuple hi hj (by omega)
   | s m =>
    have hm:DT.depths m <= d:=by have:DT.depths m + 1 <= d + 1:=hdy; omega
    have hy0:=hy
    obtain ⟨b,j,rfl,hj,hy⟩:=hy
    by_cases hab:a = b
    ·subst hab
     have e:DT.s l = DT.s m:=DAt.inj _ (Nat.le_refl _) hx0 hy0
     rw [decide_eq_true e]
     exact SeqAt.EqAt.same _
    ·have li:=hx.length
     have lj:=hy.length
     simp only [Array.length_toList] at li lj
     by_cases e:l.length = m.length
     ·have r:=SeqAt.RcAt.lists (A:=A) hi hj (by omega) (by omega) (items hl hm hx hy)
      rw [<- li,all_range_eq e] at r
      have q:decide (l = m) = decide (DT.s l = DT.s m):=by
       by_cases e2:l = m
       ·subst e2; simp
       ·have:¬ (DT.s l = DT.s m):=fun z=>e2 (by injection z)
        rw [decide_eq_false this,decide_eq_false e2]
      rw [q] at r
      exact .of_refs hab r
     ·have:¬ (DT.s l = DT.s m):=fun z=>e (by injection z with z; rw [z])
      rw [decide_eq_false this]
      exact .of_refs hab (SeqAt.RcAt.lists_lengths hi hj (by simp; omega) (by omega))
end
end L2
end

section
set_option Elab.async false
set_option linter.all false
set_option maxRecDepth 100000
namespace L2
open PySem PySem.Spec PyProof.Rows
open Sem (wp)
theorem dec_k (a b:Key):decide (DT.k a = DT.k b) = decide (a = b):=by
 by_cases e:a = b
 ·subst e; simp
 ·rw [decide_eq_false e,decide_eq_false fun z=>e (by injection z)]
theorem dec_t (l m:List DT):decide (DT.t l = DT.t m) = decide (l = m):=by
 by_cases e:l = m
 ·subst e; simp
 ·rw [decide_eq_false e,decide_eq_false fun z=>e (by injection z)]
theorem dec_s (l m:List DT):decide (DT.s l = DT.s m) = decide (l = m):=by
 by_cases e:l = m
 ·subst e; simp
 ·rw [decide_eq_false e,decide_eq_false fun z=>e (by injection z)]
theorem dec_some (x y:DT):decide ((some x:Option DT) = some y) = decide (x = y):=by
 by_cases e:x = y
 ·subst e; simp
 ·rw [decide_eq_false e,decide_eq_false fun z=>e (Option.some.inj z)]
section
variable {A:Around} {s:Shared}
theorem dt_items {d:Nat} (hu:A.units + 1 + d < cLine) {l m:List DT} {i j:Array Value} (hl:DT.depths l <= d) (hm:DT.depths m <= d) (hi:DAts s.heap l i.toList) (hj:DAts s.heap m j.toList) :
  ∀ n (h1:n < i.size) (h2:n < j.size),SeqAt.EqAt A.in1 s i[n] j[n] (decide (l[n]? = m[n]?)):=by
 intro n h1 h2
 obtain ⟨x,ex,hx⟩:=hi.get (i:=n) (v:=i[n]) (by simp [h1])
 obtain ⟨y,ey,hy⟩:=hj.get (i:=n) (v:=j[n]) (by simp [h2])
 rw [ex,ey,dec_some]
 exact dt_eq d (DT.depths_get hl ex) (DT.depths_get hm ey) hu hx hy
theorem tup_dec {l m:List DT} {i j:Array Value} (hi:DAts s.heap l i.toList) (hj:DAts s.heap m j.toList):((List.range (min i.size j.size)).all (fun n=>decide (l[n]? = m[n]?)) && i.size == j.size) = decide (l = m):=by
 have li:=hi.length
 have lj:=hj.length
 simp only [Array.length_toList] at li lj
 by_cases e:l.length = m.length
 ·have e1:i.size = j.size:=by omega
  rw [<- e1,Nat.min_self,<- li,all_range_eq e]
  simp
 ·have e1:(i.size == j.size) = false:=by simp; omega
  rw [e1,decide_eq_false fun z=>e (by rw [z]),Bool.and_false]
theorem dt_rc {x y:DT} {u v:Value} (dx:x.depth <= 8) (dy:y.depth <= 8) (hu:A.units + 16 < cLine) (hx:DAt s.heap x u) (hy:DAt s.heap y v):SeqAt.RcAt A s u v (decide (x = y)):=by
 cases x with
 | k a =>
  rcases keyIs_shape (show keyIs a u = true from hx) with ⟨i,t,rfl,rfl⟩ | ⟨i,t,rfl,rfl⟩
  ·cases y with
   | k b =>
    rw [dec_k]
    rcases keyIs_shape (show keyIs b v = true from hy) with ⟨j,t',rfl,rfl⟩ | ⟨j,t',rfl,rfl⟩
    ·rw [key_ll]; exact SeqAt.RcAt.int_int i t j t'
    ·rw [key_lr]; exact SeqAt.RcAt.int_str i t j t'
   | t m=>obtain ⟨b,j,rfl,hj,_⟩:=hy; rw [decide_eq_false (by intro z; cases z)]; exact SeqAt.RcAt.int_tuple i t hj (by omega)
   | s m=>obtain ⟨b,j,rfl,hj,_⟩:=hy; rw [decide_eq_false (by intro z; cases z)]; exact SeqAt.RcAt.int_list i t hj (by omega)
  ·cases y with
   | k b =>
    rw [dec_k]
    rcases keyIs_shape (show keyIs b v = true from hy) with ⟨j,t',rfl,rfl⟩ | ⟨j,t',rfl,rfl⟩
    ·rw [key_rl]; exact SeqAt.RcAt.str_int i t j t'
    ·rw [key_rr]
     have:=SeqAt.RcAt.str_str (A:=A) (s:=s) i t j t'
     rwa [show (i == j) = decide (i = j) from by by_cases e:i = j <;> simp [e]] at this
   | t m=>obtain ⟨b,j,rfl,hj,_⟩:=hy; rw [decide_eq_false (by intro z; cases z)]; exact SeqAt.RcAt.str_tuple i t hj (by omega)
   | s m=>obtain ⟨b,j,rfl,hj,_⟩:=hy; rw [decide_eq_false (by intro z; cases z)]; exact SeqAt.RcAt.str_list i t hj (by omega)
 | t l =>
  obtain ⟨a,i,rfl,hi,hx⟩:=hx
  have dl:DT.depths l <= 7:=by have:DT.depths l + 1 <= 8:=dx; omega
  cases y with
  | k b =>
   rw [decide_eq_false (by intro z; cases z)]
   rcases keyIs_shape (show keyIs b v = true from hy) with ⟨j,t',rfl,rfl⟩ | ⟨j,t',rfl,rfl⟩
   ·exact SeqAt.RcAt.tuple_int j t' hi (by omega)
   ·exact SeqAt.RcAt.tuple_str j t' hi (by omega)
  | t m =>
   obtain ⟨b,j,rfl,hj,hy⟩:=hy
   have dm:DT.depths m <= 7:=by have:DT.depths m + 1 <= 8:=dy; omega
   have r:=SeqAt.RcAt.tuples (A:=A) hi hj (by omega) (dt_items (by omega) dl dm hx hy)
   rw [tup_dec hx hy] at r
   rw [dec_t]; exact r
  | s m=>obtain ⟨b,j,rfl,hj,_⟩:=hy; rw [decide_eq_false (by intro z; cases z)]; exact SeqAt.RcAt.tuple_list hi hj (by omega)
 | s l =>
  obtain ⟨a,i,rfl,hi,hx⟩:=hx
  have dl:DT.depths l <= 7:=by have:DT.depths l + 1 <= 8:=dx; omega
  cases y with
  | k b =>
   rw [decide_eq_false (by intro z; cases z)]
   rcases keyIs_shape (show keyIs b v = true from hy) with ⟨j,t',rfl,rfl⟩ | ⟨j,t',rfl,rfl⟩
   ·exact SeqAt.RcAt.list_int j t' hi (by omega)
   ·exact SeqAt.RcAt.list_str j t' hi (by omega)
  | t m=>obtain ⟨b,j,rfl,hj,_⟩:=hy; rw [decide_eq_false (by intro z; cases z)]; exact SeqAt.RcAt.list_tuple hi hj (by omega)
  | s m =>
   obtain ⟨b,j,rfl,hj,hy⟩:=hy
   have dm:DT.depths m <= 7:=by have:DT.depths m + 1 <= 8:=dy; omega
   have li:=hx.length
   have lj:=hy.length
   simp only [Array.length_toList] at li lj
   rw [dec_s]
   by_cases e:l.length = m.length
   ·have r:=SeqAt.RcAt.lists (A:=A) hi hj (by omega) (by omega) (dt_items (by omega) dl dm hx hy)
    rw [<- li,all_range_eq e] at r
    exact r
   ·rw [decide_eq_false fun z=>e (by rw [z])]
    exact SeqAt.RcAt.lists_lengths hi hj (by simp; omega) (by omega)
theorem dt_ne {x y:DT} {u v:Value} (dx:x.depth <= 8) (dy:y.depth <= 8) (hu:A.units + 16 < cLine) (hx:DAt s.heap x u) (hy:DAt s.heap y v):SeqAt.RcNeAt A s u v (!decide (x = y)):=by
 cases x with
 | k a =>
  rcases keyIs_shape (show keyIs a u = true from hx) with ⟨i,t,rfl,rfl⟩ | ⟨i,t,rfl,rfl⟩
  ·cases y with
   | k b =>
    rw [dec_k]
    rcases keyIs_shape (show keyIs b v = true from hy) with ⟨j,t',rfl,rfl⟩ | ⟨j,t',rfl,rfl⟩
    ·rw [key_ll]; exact SeqAt.RcNeAt.int_int i t j t'
    ·rw [key_lr]; exact SeqAt.RcNeAt.int_str i t j t'
   | t m=>obtain ⟨b,j,rfl,hj,_⟩:=hy; rw [decide_eq_false (by intro z; cases z)]; exact SeqAt.RcNeAt.int_tuple i t hj (by omega)
   | s m=>obtain ⟨b,j,rfl,hj,_⟩:=hy; rw [decide_eq_false (by intro z; cases z)]; exact SeqAt.RcNeAt.int_list i t hj (by omega)
  ·cases y with
   | k b =>
    rw [dec_k]
    rcases keyIs_shape (show keyIs b v = true from hy) with ⟨j,t',rfl,rfl⟩ | ⟨j,t',rfl,rfl⟩
    ·rw [key_rl]; exact SeqAt.RcNeAt.str_int i t j t'
    ·rw [key_rr]
     have:=SeqAt.RcNeAt.str_str (A:=A) (s:=s) i t j t'
     rwa [show (i == j) = decide (i = j) from by by_cases e:i = j <;> simp [e]] at this
   | t m=>obtain ⟨b,j,rfl,hj,_⟩:=hy; rw [decide_eq_false (by intro z; cases z)]; exact SeqAt.RcNeAt.str_tuple i t hj (by omega)
   | s m=>obtain ⟨b,j,rfl,hj,_⟩:=hy; rw [decide_eq_false (by intro z; cases z)]; exact SeqAt.RcNeAt.str_list i t hj (by omega)
 | t l =>
  obtain ⟨a,i,rfl,hi,hx⟩:=hx
  have dl:DT.depths l <= 7:=by have:DT.depths l + 1 <= 8:=dx; omega
  cases y with
  | k b =>
   rw [decide_eq_false (by intro z; cases z)]
   rcases keyIs_shape (show keyIs b v = true from hy) with ⟨j,t',rfl,rfl⟩ | ⟨j,t',rfl,rfl⟩
   ·exact SeqAt.RcNeAt.tuple_int j t' hi (by omega)
   ·exact SeqAt.RcNeAt.tuple_str j t' hi (by omega)
  | t m =>
   obtain ⟨b,j,rfl,hj,hy⟩:=hy
   have dm:DT.depths m <= 7:=by have:DT.depths m + 1 <= 8:=dy; omega
   have r:=SeqAt.RcNeAt.tuples (A:=A) hi hj (by omega) (dt_items (by omega) dl dm hx hy)
   rw [tup_dec hx hy] at r
   rw [dec_t]; exact r
  | s m=>obtain ⟨b,j,rfl,hj,_⟩:=hy; rw [decide_eq_false (by intro z; cases z)]; exact SeqAt.RcNeAt.tuple_list hi hj (by omega)
 | s l =>
  obtain ⟨a,i,rfl,hi,hx⟩:=hx
  have dl:DT.depths l <= 7:=by have:DT.depths l + 1 <= 8:=dx; omega
  cases y with
  | k b =>
   rw [decide_eq_false (by intro z; cases z)]
   rcases keyIs_shape (show keyIs b v = true from hy) with ⟨j,t',rfl,rfl⟩ | ⟨j,t',rfl,rfl⟩
   ·exact SeqAt.RcNeAt.list_int j t' hi (by omega)
   ·exact SeqAt.RcNeAt.list_str j t' hi (by omega)
  | t m=>obtain ⟨b,j,rfl,hj,_⟩:=hy; rw [decide_eq_false (by intro z; cases z)]; exact SeqAt.RcNeAt.list_tuple hi hj (by omega)
  | s m =>
   obtain ⟨b,j,rfl,hj,hy⟩:=hy
   have dm:DT.depths m <= 7:=by have:DT.depths m + 1 <= 8:=dy; omega
   have li:=hx.length
   have lj:=hy.length
   simp only [Array.length_toList] at li lj
   rw [dec_s]
   by_cases e:l.length = m.length
   ·have r:=SeqAt.RcNeAt.lists (A:=A) hi hj (by omega) (by omega) (dt_items (by omega) dl dm hx hy)
    rw [<- li,all_range_eq e] at r
    exact r
   ·rw [decide_eq_false fun z=>e (by rw [z])]
    exact SeqAt.RcNeAt.lists_lengths hi hj (by simp; omega) (by omega)
end
mutual
def DIn (K:PySem.W.Frag) (H:Hp):DT->V->Prop
 | .k a,v=>v = kV a
 | .t l,v=>∃ b xs,v = .ref b/\SqT K H b xs/\DIns K H l xs
 | .s l,v=>∃ b xs,v = .ref b/\SqL K H b xs/\DIns K H l xs
def DIns (K:PySem.W.Frag) (H:Hp):List DT->List V->Prop
 | [],vs=>vs = []
 | k :: r,vs=>∃ v us,vs = v :: us/\DIn K H k v/\DIns K H r us
end
section
variable {X:Cx} {pins:List (Addr × Obj)} {σ:St} {H:Hp} {s:Shared}
theorem dIn_at (I:Inv X pins σ H s):∀ (d:Nat) {k:DT} {v:V} {u:Value},k.depth <= d->DIn X.K H k v->RelV v u->DAt s.heap k u:=by
 have key:∀ (d:Nat) (ih:∀ {k:DT} {v:V} {u:Value},k.depth <= d->DIn X.K H k v->RelV v u->DAt s.heap k u) (ks:List DT) (vs:List V) (us:List Value),DT.depths ks <= d->DIns X.K H ks vs->Vals vs us->DAts s.heap ks us:=by
  intro d ih ks
  induction ks with
  | nil =>
   intro vs us _ hx r
   have e:vs = []:=hx
   subst e
   cases r
   rfl
  | cons k ks ihl =>
   intro vs us hd hx r
   obtain ⟨v,vs',rfl,h1,h2⟩:=hx
   cases r with
   | @cons _ u _ us' r1 r2 =>
    have hd':max k.depth (DT.depths ks) <= d:=hd
    exact ⟨u,us',rfl,ih (by omega) h1 r1,ihl vs' us' (by omega) h2 r2⟩
 intro d
 induction d with
 | zero =>
  intro k v u hd hx r
  cases k with
  | t l=>exact absurd hd (by show ¬ (DT.depths l + 1 <= 0); omega)
  | s l=>exact absurd hd (by show ¬ (DT.depths l + 1 <= 0); omega)
  | k b =>
   have e:v = kV b:=hx
   subst e
   exact kV_is (P:=X.prog) (w:=X.w) r
 | succ d ih =>
  intro k v u hd hx r
  cases k with
  | k b =>
   have e:v = kV b:=hx
   subst e
   exact kV_is (P:=X.prog) (w:=X.w) r
  | t l =>
   obtain ⟨b,xs,rfl,hb,hi⟩:=hx
   cases (show u = Value.ref b from r)
   obtain ⟨its,rv,ht,_⟩:=I.tuple hb
   exact ⟨b,its.toArray,rfl,ht,by simpa using key d (fun h1=>ih h1) l xs its (by have:DT.depths l + 1 <= d + 1:=hd; omega) hi rv⟩
  | s l =>
   obtain ⟨b,xs,rfl,hb,hi⟩:=hx
   cases (show u = Value.ref b from r)
   obtain ⟨its,rv,ht,_⟩:=I.list hb
   exact ⟨b,its.toArray,rfl,ht.isList,by simpa using key d (fun h1=>ih h1) l xs its (by have:DT.depths l + 1 <= d + 1:=hd; omega) hi rv⟩
theorem dIns_at (I:Inv X pins σ H s):∀ {ks:List DT} {vs:List V} {us:List Value},DT.depths ks <= 8->DIns X.K H ks vs->Vals vs us->DAts s.heap ks us
 | [],vs,us,_,hx,r=>by
  have e:vs = []:=hx
  subst e
  cases r
  rfl
 | k :: ks,vs,us,hd,hx,r=>by
  obtain ⟨v,vs',rfl,h1,h2⟩:=hx
  cases r with
  | @cons _ u _ us' r1 r2 =>
   have hd':max k.depth (DT.depths ks) <= 8:=hd
   exact ⟨u,us',rfl,dIn_at I 8 (by omega) h1 r1,dIns_at I (by omega) h2 r2⟩
end
def rEqD (K:PySem.W.Frag):R2:=fun x y H Q=>∃ d e:DT,DIn K H d x/\DIn K H e y/\d.depth <= 8/\e.depth <= 8/\Q (.bl (decide (d = e))) H
def rNeD (K:PySem.W.Frag):R2:=fun x y H Q=>∃ d e:DT,DIn K H d x/\DIn K H e y/\d.depth <= 8/\e.depth <= 8/\Q (.bl (!decide (d = e))) H
section
variable {X:Cx}
theorem op_eqD (hu:X.A.units + 16 < cLine):OpR X (compareOp .Eq) (rEqD X.K):=by
 intro pins s σ H x y v u Q I rx ry h
 obtain ⟨d,e,hx,hy,dx,dy,q⟩:=h
 exact dt_rc dx dy hu (dIn_at I 8 dx hx rx) (dIn_at I 8 dy hy ry) X.prog X.w X.xe _ ⟨.bl _,H,I,rfl,q⟩
theorem op_neD (hu:X.A.units + 16 < cLine):OpR X (compareOp .NotEq) (rNeD X.K):=by
 intro pins s σ H x y v u Q I rx ry h
 obtain ⟨d,e,hx,hy,dx,dy,q⟩:=h
 exact dt_ne dx dy hu (dIn_at I 8 dx hx rx) (dIn_at I 8 dy hy ry) X.prog X.w X.xe _ ⟨.bl _,H,I,rfl,q⟩
def rInD (K:PySem.W.Frag) (neg:Bool):R2:=fun x y H Q=>∃ (d:DT) (ds:List DT) (p:Addr) (xs:List V),DIn K H d x/\y = .ref p/\(SqL K H p xs ∨ SqT K H p xs)/\DIns K H ds xs/\d.depth <= 8/\DT.depths ds <= 8/\Q (.bl (if neg then !decide (d ∈ ds) else decide (d ∈ ds))) H
open Classical in
theorem any_mem {h:Heap} {d:DT} (d8:d.depth <= 8):∀ {ds:List DT} {us:List Value},DAts h ds us->DT.depths ds <= 8->us.any (fun u=>@decide (DAt h d u) (propDecidable _)) = decide (d ∈ ds)
 | [],us,e,_=>by
  have e':us = []:=e
  subst e'
  rfl
 | x :: ds,us,e,hd=>by
  obtain ⟨u,us',rfl,h1,h2⟩:=e
  have hd':max x.depth (DT.depths ds) <= 8:=hd
  rw [List.any_cons,any_mem d8 h2 (by omega)]
  by_cases q:d = x
  ·subst q
   simp [h1]
  ·have n:¬ DAt h d u:=fun z=>q (DAt.inj 8 d8 z h1)
   simp [n,q]
open Classical in
theorem mem_eq {A:Around} {s:Shared} {d:DT} {v:Value} (d8:d.depth <= 8) (hu:A.units + 8 < cLine) (hd:DAt s.heap d v):∀ {ds:List DT} {us:List Value},DAts s.heap ds us->DT.depths ds <= 8->∀ u ∈ us,SeqAt.EqAt A s u v (@decide (DAt s.heap d u) (propDecidable _))
 | [],us,e,_,u,hm=>by
  have e':us = []:=e
  subst e'
  cases hm
 | x :: ds,us,e,h8,u,hm=>by
  obtain ⟨u',us',rfl,h1,h2⟩:=e
  have h8':max x.depth (DT.depths ds) <= 8:=h8
  rcases List.mem_cons.mp hm with rfl | hm
  ·have q:=dt_eq 8 (A:=A) (by omega) d8 hu h1 hd
   by_cases z:x = d
   ·subst z
    rw [decide_eq_true h1]
    rwa [decide_eq_true rfl] at q
   ·have n:¬ DAt s.heap d u:=fun w=>z (DAt.inj 8 d8 w h1).symm
    rw [decide_eq_false n]
    rwa [decide_eq_false z] at q
  ·exact mem_eq d8 hu hd h2 (by omega) u hm
theorem op_inD (hu:X.A.units + 16 < cLine):OpR X (compareOp .In) (rInD X.K false):=by
 intro pins s σ H x y v u Q I rx ry h
 obtain ⟨d,ds,p,xs,hx,rfl,hq,hds,d8,ds8,q⟩:=h
 cases ry
 have hd:=dIn_at I 8 d8 hx rx
 have hu':X.A.in1.units + 8 < cLine:=by show X.A.units + 1 + 8 < cLine; omega
 rcases hq with hq | hq
 ·obtain ⟨its,r,pl,hz⟩:=I.list hq
  have hi:=dIns_at I ds8 hds r
  refine SeqAt.in_listAt _ pl.isList (fun w hw=>mem_eq d8 hu' hd hi ds8 w (by simpa using hw)) ⟨.bl _,H,I,rfl,?_⟩
  rw [List.any_toArray,any_mem d8 hi ds8]
  exact q
 ·obtain ⟨its,r,pl,hz⟩:=I.tuple hq
  have hi:=dIns_at I ds8 hds r
  refine SeqAt.in_tupleAt _ pl (fun w hw=>mem_eq d8 hu' hd hi ds8 w (by simpa using hw)) ⟨.bl _,H,I,rfl,?_⟩
  rw [List.any_toArray,any_mem d8 hi ds8]
  exact q
theorem op_notInD (hu:X.A.units + 16 < cLine):OpR X (compareOp .NotIn) (rInD X.K true):=by
 intro pins s σ H x y v u Q I rx ry h
 obtain ⟨d,ds,p,xs,hx,rfl,hq,hds,d8,ds8,q⟩:=h
 cases ry
 have hd:=dIn_at I 8 d8 hx rx
 have hu':X.A.in1.units + 8 < cLine:=by show X.A.units + 1 + 8 < cLine; omega
 rcases hq with hq | hq
 ·obtain ⟨its,r,pl,hz⟩:=I.list hq
  have hi:=dIns_at I ds8 hds r
  refine SeqAt.notIn_listAt _ pl.isList (fun w hw=>mem_eq d8 hu' hd hi ds8 w (by simpa using hw)) ⟨.bl _,H,I,rfl,?_⟩
  rw [List.any_toArray,any_mem d8 hi ds8]
  exact q
 ·obtain ⟨its,r,pl,hz⟩:=I.tuple hq
  have hi:=dIns_at I ds8 hds r
  refine SeqAt.notIn_tupleAt _ pl (fun w hw=>mem_eq d8 hu' hd hi ds8 w (by simpa using hw)) ⟨.bl _,H,I,rfl,?_⟩
  rw [List.any_toArray,any_mem d8 hi ds8]
  exact q
end
end L2
end

section
set_option Elab.async false
set_option linter.all false
set_option maxRecDepth 100000
namespace L2
open PySem PySem.Spec PyProof.Rows
open Sem (wp)
def cutS (z:Str) (lo hi:Option Int):Str:=⟨((z.cps.toList.drop (HT.sIx z.length 0 lo)).take (HT.sIx z.length z.length hi - HT.sIx z.length 0 lo)).toArray⟩
theorem sliceRange_one (a b:Nat):sliceRange (a:Int) (b:Int) 1 = (List.range (b - a)).map (fun k=>a + k):=by
 unfold sliceRange
 simp only [show (1:Int) > 0 from by decide,if_true]
 by_cases h:(a:Int) < (b:Int)
 ·have e:(if (a:Int) < (b:Int) then ((b:Int) - a + 1 - 1) / 1 else 0).toNat = b - a:=by rw [if_pos h]; omega
  rw [e]
  exact List.map_congr_left fun k _=>by omega
 ·have e:(if (a:Int) < (b:Int) then ((b:Int) - a + 1 - 1) / 1 else 0).toNat = b - a:=by rw [if_neg h]; omega
  rw [e]
  exact List.map_congr_left fun k _=>by omega
theorem clip_one (v:Option Int) (n d:Nat):(match v with | none=>(d:Int) | some i=>max 0 (min (if i < 0 then i + (n:Int) else i) (n:Int))) = ((HT.sIx n d v:Nat):Int):=by
 cases v with
 | none=>rfl
 | some i =>
  rw [<- HT.clip_eq i n d]
  dsimp only
  by_cases h:i < 0
  ·rw [if_pos h,if_pos h]; omega
  ·rw [if_neg h,if_neg h]; omega
theorem sliceIdx_gen (lo hi:Option Int) (n:Nat):Builtin.Str.strSliceIndices lo hi 1 n = (List.range (HT.sIx n n hi - HT.sIx n 0 lo)).map (fun k=>HT.sIx n 0 lo + k):=by
 have e1:=clip_one lo n 0
 have e2:=clip_one hi n n
 rw [<- sliceRange_one,<- e1,<- e2]
 unfold Builtin.Str.strSliceIndices
 simp only [show (1:Int) > 0 from by decide,if_true]
 cases lo <;> cases hi <;> rfl
theorem slice_cut (z:Str) (lo hi:Option Int):Txt.slice z lo hi = cutS z lo hi:=by
 have ha:HT.sIx z.length 0 lo <= z.length:=HT.sIx_le _ _ (Nat.zero_le _) _
 have hb:HT.sIx z.length z.length hi <= z.length:=HT.sIx_le _ _ (Nat.le_refl _) _
 have hlen:z.cps.toList.length = z.length:=by simp [Str.length]
 have pick:(Builtin.Str.strSliceIndices lo hi 1 z.length).filterMap (z.cps[·]?) = (z.cps.toList.drop (HT.sIx z.length 0 lo)).take (HT.sIx z.length z.length hi - HT.sIx z.length 0 lo):=by
  rw [sliceIdx_gen]
  generalize HT.sIx z.length 0 lo = a at *
  generalize HT.sIx z.length z.length hi = b at *
  have h:=StrLaws.picks z.cps.toList (b - a) a (by omega)
  simpa using h
 unfold Txt.slice
 by_cases h:((1:Int) == 1 && (Builtin.Str.strSliceIndices lo hi 1 z.length).length == z.length) = true
 ·rw [if_pos h]
  have hl:(Builtin.Str.strSliceIndices lo hi 1 z.length).length = z.length:=by simpa using h
  rw [sliceIdx_gen,List.length_map,List.length_range] at hl
  unfold cutS
  have a0:HT.sIx z.length 0 lo = 0:=by omega
  have bn:HT.sIx z.length z.length hi - HT.sIx z.length 0 lo = z.cps.toList.length:=by omega
  rw [bn,a0,List.drop_zero,List.take_length]
 ·rw [if_neg h]
  unfold cutS
  rw [pick]
section
variable {X:Cx}
def rSlS:V->Option Int->Option Int->Hp->VK->Prop:=fun x lo hi H Q=>∃ z,x = .str z/\z.length <= sizeLine/\Q (.str (cutS z lo hi)) H
theorem sl_str:SlR X rSlS:=by
 intro pins s σ H x v vl vu lo hi sl Q I rx hs pl pu h
 obtain ⟨z,rfl,hz,q⟩:=h
 obtain ⟨t,rfl⟩:=rx
 rw [<- slice_cut] at q
 refine ⟨"str",_,F.slot_str_getitem.lookup,typeIs_str _ _ _,?_⟩
 obtain ⟨o,ho,hc,hd⟩:=hs
 have fin:∀ (l u:Option (Int × Tok)),vl = partValue l->vu = partValue u->lo = l.map (·.1)->hi = u.map (·.1)->wpAny (model X.prog X.w) X.A (getItem (.str z t) (.ref sl)) (EP X pins σ Q) X.xe s:=by
  rintro l u rfl rfl rfl rfl
  refine wpAny_getItem_str_slice (l:=l) (u:=u) (st:=none) ⟨o,ho,hc,hd⟩ rfl (post_val_or_str ⟨Nat.le_trans (Txt.slice_le z _ _) hz,fun t' k=>⟨.str _,H,I.tok _,⟨_,rfl⟩,q⟩⟩)
 cases pl with
 | none =>
  cases pu with
  | none=>exact fin none none rfl rfl rfl rfl
  | int j u=>exact fin none (some (j,u)) rfl rfl rfl rfl
 | int i t' =>
  cases pu with
  | none=>exact fin (some (i,t')) none rfl rfl rfl rfl
  | int j u=>exact fin (some (i,t')) (some (j,u)) rfl rfl rfl rfl
theorem sl_any:SlR X (fun x lo hi H Q=>rSlL X.K x lo hi H Q ∨ rSlS x lo hi H Q):=sl_list.or sl_str
def rJoin (K:PySem.W.Frag):V->List V->Hp->VK->Prop:=fun x vs H Q=>∃ z p ys,x = .str z/\vs = [.ref p]/\SqL K H p (ys.map V.str)/\(ys.map (·.length)).sum + ys.length * z.length <= 16777216/\Q (.str (Txt.join z ys)) H
theorem strs_of {ys:List Str}:∀ {us:List Value},Vals (ys.map V.str) us->StrsAre us ys:=by
 induction ys with
 | nil=>intro us r; cases r; exact .nil
 | cons y ys ih =>
  intro us r
  cases r with
  | cons r1 r2 =>
   obtain ⟨t,rfl⟩:=r1
   exact .cons _ _ (ih r2)
theorem mt_join:MtM X "str.join" (rJoin X.K):=by
 intro pins s σ H x vs v us Q I rx rv h
 obtain ⟨z,p,ys,rfl,rfl,hq,hz,q⟩:=h
 obtain ⟨t,rfl⟩:=rx
 obtain ⟨u,rfl,ru⟩:=rv.one
 cases ru
 obtain ⟨its,r,pl,_⟩:=I.list hq
 exact join_list pl.isList (by simpa using strs_of r) hz fun t' k=>⟨.str _,H,I.tok _,⟨_,rfl⟩,q⟩
end
end L2
end

section
set_option Elab.async false
set_option linter.all false
set_option maxRecDepth 100000
namespace L2
open PySem PySem.Spec PyProof.Rows
open Sem (wp)
section
variable {X:Cx}
def TyX (K:PySem.W.Frag) (H:Hp) (x:V) (t:Value):Prop:=TyOf K H x t ∨ (∃ a xs,x = .ref a/\t = .type "tuple"/\SqT K H a xs) ∨ (∃ a xs,x = .ref a/\t = .type "list"/\SqL K H a xs)
theorem isinst_okX {pins:List (Addr × Obj)} {σ:St} {H:Hp} {s:Shared} {A:Around} {E:Value->Shared->Prop} {Q:Value->Shared->Prop} {c:Value} {b:Bool} {x:V} {u t:Value} (I:Inv X pins σ H s) (rx:RelV x u) (ty:TyX X.K H x t) (e:PySem.W.kitOne X.K t c = some b) (h:∀ tk,Q (.bool b) { s with toks:=tk }) :
  wpAny (model X.prog X.w) A (call (.builtin "isinstance") [u,c]) Q E s:=by
 rcases ty with ty | ⟨a,xs,rfl,rfl,q⟩ | ⟨a,xs,rfl,rfl,q⟩
 ·exact isinst_ok I rx ty e h
 ·cases (show u = Value.ref a from rx)
  obtain ⟨its,rv,p,hz⟩:=I.tuple q
  obtain ⟨o,h1,h2,_⟩:=p
  exact PySem.W.kia_one PySem.W.kitx_tuple I.kIn ⟨o,h1,h2⟩ e (fun z=>nomatch z) h
 ·cases (show u = Value.ref a from rx)
  obtain ⟨its,rv,p,hz⟩:=I.list q
  obtain ⟨o,n,h1,h2,_⟩:=p
  exact PySem.W.kia_one PySem.W.kitx_list I.kIn ⟨o,h1,h2⟩ e (fun z=>nomatch z) h
theorem call_isi:CallR X (.builtin "isinstance") (fun xs H Q=>∃ x c t b,xs = [x,.ty c]/\TyX X.K H x t/\PySem.W.kitOne X.K t (.type c) = some b/\Q (.bl b) H):=by
 intro pins s σ H xs us Q I r h
 obtain ⟨x,c,t,b,rfl,ty,hk,q⟩:=h
 obtain ⟨u,v,rfl,ru,rv⟩:=vals2 r
 cases (show v = Value.type c from rv)
 exact isinst_okX I ru ty hk fun tk=>⟨.bl b,H,I.tok _,rfl,q⟩
theorem bl_get {bs:List Bool} {us:List Value} (r:Vals (bs.map V.bl) us) {i:Nat} {v:Value} (h:us[i]? = some v):v = .bool ((bs[i]?).getD false)/\i < bs.length:=by
 have hi:i < us.length:=(List.getElem?_eq_some_iff.mp h).1
 have hl:=r.length
 rw [List.length_map] at hl
 have hb:i < bs.length:=by omega
 obtain ⟨u,hu,ru⟩:=r.get (i:=i) (x:=V.bl bs[i]) (by simp [hb])
 rw [h] at hu
 cases hu
 refine ⟨?_,hb⟩
 rw [List.getElem?_eq_getElem hb]
 exact ru
theorem all_range_bl (bs:List Bool):((List.range bs.length).all fun i=>(bs[i]?).getD false) = bs.all id:=by
 induction bs with
 | nil=>rfl
 | cons b bs ih =>
  rw [List.length_cons,List.range_succ_eq_map,List.all_cons,List.all_map,List.all_cons,<- ih]
  rfl
theorem call_all_bl (hc:X.calm = true):CallR X (.builtin "all") (fun xs H Q=>∃ (p:Addr) (bs:List Bool),xs = [.ref p]/\SqL X.K H p (bs.map V.bl)/\Q (.bl (bs.all id)) H):=by
 intro pins s σ H xs us Q I r h
 obtain ⟨p,bs,rfl,hq,q⟩:=h
 obtain ⟨u,rfl,ru⟩:=vals1 r
 cases ru
 obtain ⟨its,rv,pl,hz⟩:=I.list hq
 obtain ⟨o,n,ho,_⟩:=id pl
 have hl:=rv.length
 rw [List.length_map] at hl
 refine call_all_walk (wpAny_pyIter_list pl.isList ?_)
 refine ⟨s.heap.objs.size,_,_,_,_,_,fun i=>(bs[i]?).getD false,rfl,Walks.list (prog:=X.prog) (w:=X.w) (A:=X.A.in1) (I.ok.hd hc) s.heap.objs.size p (Nat.ne_of_lt (Heap.lt_size ho)) its.toArray,⟨⟨_,Heap.get?_push_size _ rfl,rfl,rfl⟩,pl.isList.push _⟩,?_,?_⟩
 ·intro i v s' Q' E' hv hq'
  obtain ⟨e,_⟩:=bl_get rv (i:=i) (v:=v) (by simpa using hv)
  rw [e]
  exact wpAny_truthy_bool hq'
 ·intro h' tk hk
  have I':Inv X pins σ H { s with heap:=h',toks:=tk }:=I.kept fun b o e=>hk b o (by simp; exact Nat.ne_of_lt (Heap.lt_size e)) (Heap.get?_push_of_some _ e)
  rw [List.size_toArray,<- hl,all_range_bl]
  exact ⟨.bl _,H,I',rfl,q⟩
theorem op_in_sign:OpR X (compareOp .In) (fun x y H Q=>∃ c j,x = .str ⟨#[c]⟩/\y = .str j/\Q (.bl (decide (c ∈ j.cps.toList))) H):=by
 intro pins s σ H x y v u Q I rx ry h
 obtain ⟨c,j,rfl,rfl,q⟩:=h
 rw [<- StrLaws.found_one] at q
 exact op_in_str pins s σ H _ _ v u Q I rx ry ⟨_,_,rfl,rfl,q⟩
theorem call_list_dict (hc:X.calm = true):CallR X (.type "list") (fun xs H Q=>∃ (d:Addr) (kvs:List (Key × V)),xs = [.ref d]/\Rd H d (.dK kvs)/\∀ l,H l = none->Q (.ref l) (upd H l (.lst (kvs.map fun kv=>kV kv.1)))):=by
 intro pins s σ H xs us Q I r h
 obtain ⟨d,kvs,rfl,hd,q⟩:=h
 obtain ⟨u,rfl,ru⟩:=vals1 r
 cases ru
 obtain ⟨z,hsys,vs,rel,dd⟩:=dk_rd I.hok hd
 obtain ⟨ep,hat⟩:=dd.dictAt
 have hl:=rel.length
 refine PySem.W.kdl_call (PySem.W.kdl_dict (knd:=mixKind X.prog X.w) (kvs:=vs) (ep:=ep) hsys) (I.ok.hd hc) hat (by rw [<- hl]; exact z) fun h' tk acc c hk hD hacc=>?_
 have hv:Vals (kvs.map fun kv=>kV kv.1) acc.toList:=by
  obtain ⟨hn,hP⟩:=hacc
  have key:∀ (a:List Value) (ks:List (Key × V)) (ws:List (Key × Value)),KV ks ws->a.length = ws.length->(∀ (j:Nat) (v:Value),a[j]? = some v->∃ k x,ws[j]? = some (k,x)/\(mixKind X.prog X.w).is k v = true)->Vals (ks.map fun kv=>kV kv.1) a:=by
   intro a ks ws rl
   induction rl generalizing a with
   | nil=>intro ha _; cases a with
    | nil=>exact .nil
    | cons _ _=>cases ha
   | @cons p w' ps ws' hp _ ih =>
    intro ha hj
    cases a with
    | nil=>cases ha
    | cons v a =>
     obtain ⟨k,x,e,hk⟩:=hj 0 v rfl
     have e':w' = (k,x):=by simpa using e
     refine .cons ?_ (ih a (by simpa using ha) fun j v hv=>by simpa using hj (j + 1) v (by simpa using hv))
     have ek:p.1 = k:=by rw [hp.1,e']
     show RelV (kV p.1) v
     rw [ek]
     rcases keyIs_shape (show keyIs k v = true from hk) with ⟨i,t,rfl,rfl⟩ | ⟨i,t,rfl,rfl⟩
     ·exact ⟨t,rfl⟩
     ·exact ⟨t,rfl⟩
  exact key acc.toList kvs vs rel (by rw [Array.length_toList]; exact hn) fun j v hv=>hP j v (by rw [<- Array.getElem?_toList]; exact hv)
 refine ⟨.ref s.heap.objs.size,_,I.laid (o:=.lst (kvs.map fun kv=>kV kv.1)) hk (Nat.le_refl _) ⟨by rw [List.length_map]; exact z,acc.toList,c,hv,by rw [Array.toArray_toList]; exact hD⟩,rfl,q _ I.fresh⟩
end
section
variable {prog:Program} {w:World} {K:Type} [DecidableEq K] {knd:HeapKind prog w K} {A:Around} {E:Value->Shared->Prop} {s:Shared}
theorem wp_setDefaultH {d a:Addr} {xs:List (K × Addr × Value)} {k:K} {v:Value} {Q:Value->Shared->Prop} (hu:knd.room A) (hkey:knd.is s.heap k a) (hm:s.heap.DictOfH knd d xs)
  (there:∀ p,atKey xs k = some p->Q p.2 { s with toks:=s.toks + knd.draws k })
  (new:atKey xs k = none->∀ h',h'.DictOfH knd d (xs ++ [(k,a,v)])->Heap.SameBut d s.heap h'->Q v { s with heap:=h',toks:=s.toks + knd.draws k })
  (hsz:xs.length <= sizeLine):wpAny (model prog w) A (dictSetDefault d (.ref a) v) Q E s:=by
 obtain ⟨o,es,ep,ho,hc,hd,he,his,hn⟩:=hm
 unfold dictSetDefault
 try with_reducible refine wpAny_holding ?_
 refine wpAny_bind (knd.pyHash hu hkey ?_)
 refine wpAny_bind (wpAny_dictFind_heap (s:={ s with toks:=s.toks + knd.draws k }) hu hkey ho hd he his hn ?_ ?_)
 ·intro hno
  have hnot:k ∉ xs.map (·.1):=not_mem_keys_of_get hno
  refine wpAny_bind (wpAny_rule (wpAny_bind (wpAny_updateDictKeys (hz:=by have e:=size_of_entries he; omega) (s:={ s with toks:=s.toks + knd.draws k }) ho hd (wpAny_pure (new (atKey_none_of_get hno) _ ⟨_,_,ep + 1,Heap.get?_update_self _ ho (Obj.isFreed_of_dict (Obj.data_mapDictKeys hd _)),
   hc.mapDictKeys _,Obj.data_mapDictKeys hd _,?_,?_,?_⟩ (Heap.SameBut.update ..))))))
  ·simp [he,entryOfKey]
  ·intro x hx
   rcases List.mem_append.mp hx with hx | hx
   ·exact knd.keeps (his x hx) ho hd (Heap.SameBut.update ..)
   ·simp only [List.mem_singleton] at hx
    subst hx
    exact knd.keeps hkey ho hd (Heap.SameBut.update ..)
  ·rw [List.map_append,List.nodup_append]
   refine ⟨hn,by simp,?_⟩
   intro x hx y hy
   simp only [List.map_cons,List.map_nil,List.mem_singleton] at hy
   subst hy
   exact fun e=>hnot (e ▸ hx)
 ·intro j p hj
  refine wpAny_bind (wpAny_dictEntries (s:={ s with toks:=s.toks + knd.draws k }) ho hd ?_)
  rw [entry_at he j,hj]
  exact wpAny_bind (wpAny_rule (wpAny_pure (there p (atKey_of_get hn hj))))
theorem meetsH_setdefault (knd:HeapKind prog w K) (d a:Addr) (hd:(d == sysModules) = false) (dflt:Value) :
  MeetsIn prog w (Builtin.«dict.setdefault» ⟨[.ref d,.ref a,dflt],[]⟩) (fun A R s=>knd.room A.in1/\∃ k xs,knd.is s.heap k a/\s.heap.DictOfH knd d xs/\xs.length <= sizeLine /\
   (∀ p,atKey xs k = some p->R (.ok (.ret p.2)) { s with toks:=s.toks + knd.draws k }) /\
   (atKey xs k = none->∀ h',h'.DictOfH knd d (xs ++ [(k,a,dflt)])->Heap.SameBut d s.heap h'->R (.ok (.ret dflt)) { s with heap:=h',toks:=s.toks + knd.draws k })) :=
 .of_wp fun A R s ⟨hu,k,xs,hkey,hm,hz,h1,h2⟩=>by
  unfold Builtin.«dict.setdefault»
  refine wpAny_bind ?_
  unfold Builtin.Dict.keyAndDefault
  refine wpAny_bind (wpAny_notOrdered_dict hm.typeIs ?_)
  show wpAny _ _ (pure (d,Value.ref a,some dflt)) _ _ s
  refine wpAny_pure ?_
  show wpAny _ _ (if (d == sysModules) = true then _ else (dictSetDefault d (.ref a) dflt >>= _)) _ _ s
  rw [if_neg (by rw [hd]; exact Bool.false_ne_true)]
  exact wpAny_bind (wp_setDefaultH hu hkey hm (fun p hp=>wpAny_pure ⟨p.2,rfl,h1 p hp⟩) (fun hn h' hm' hs'=>wpAny_pure ⟨dflt,rfl,h2 hn h' hm' hs'⟩) hz)
end
section
variable {X:Cx}
def rSetDef:V->List V->Hp->VK->Prop:=fun x vs H Q=>∃ (d b:Addr) (kvs:List (TK × V)) (k:TK) (z:V),x = .ref d/\vs = [.ref b,z]/\H d = some (.dT kvs)/\TKAt H k (.ref b)/\k.depth <= 8/\kvs.length < sizeLine /\
 (∀ v,valV kvs k = some v->Q v H)/\(valV kvs k = none->Q z (upd H d (.dT (kvs ++ [(k,z)]))))
theorem mt_setdef (hu:X.A.units + 16 < cLine):MtM X "dict.setdefault" rSetDef:=by
 intro pins s σ H x vs v us Q I rx rv h
 obtain ⟨d,b,kvs,k,z,rfl,rfl,hd,hb,h8,hz,q1,q2⟩:=h
 cases rx
 obtain ⟨u,v,rfl,ru,rz⟩:=rv.two
 cases ru
 obtain ⟨_,hsys,xs,rel,dd⟩:=dt_of I.hok hd
 have hl:kvs.length = xs.length:=Paired.length rel
 refine call_meetsIn PySem.F.slot_dict_setdefault dd.typeIs PySem.F.entry_dict_setdefault (PySem.F.args_dict_setdefault_3 _ _ _) (meetsH_setdefault (treeKind X.prog X.w) d b hsys v)
  ⟨tree_room hu,k,xs,key_of I.hok hb h8,dd,by omega,fun p hp=>?_,fun hn h' dd' hs=>?_⟩
 ·have e:=rel.val k
  rw [hp] at e
  cases e2:valV kvs k with
  | none=>rw [e2] at e; exact e.elim
  | some y =>
   rw [e2] at e
   exact ⟨y,H,I.tok _,e,q1 y e2⟩
 ·have e:=rel.val k
  rw [hn] at e
  have e2:valV kvs k = none:=by
   cases e2:valV kvs k with
   | none=>rfl
   | some y=>rw [e2] at e; exact e.elim
  obtain ⟨o,es,ep,hq,h2,h3,h4,_,h5⟩:=dd'
  refine ⟨z,_,d_write (ob:=.dT (kvs ++ [(k,z)])) I (by rw [hd]; exact True.intro) hs ⟨o,hq⟩ ⟨by rw [List.length_append,List.length_singleton]; omega,hsys,_,KT.keeps (kvs:=kvs ++ [(k,z)]) (xs:=xs ++ [(k,b,v)]) (Paired.snoc rel ⟨rfl,hb,h8,rz⟩) fun c ys ec=>?_,o,es,ep,hq,h2,h3,h4,h5⟩,rz,q2 e2⟩
  rw [upd_ne (ne_of ec hd (fun z=>nomatch z))]
  exact ec
end
end L2
end

section
set_option Elab.async false
set_option linter.all false
set_option maxRecDepth 100000
namespace L2
open PySem PySem.Spec PyProof.Rows
open Sem (wp)
theorem entry_upd_loop:entryFor table "dict.update.loop" = some Builtin.«dict.update.loop»:=entryFor_of_fast (by kernel_rfl)
theorem plain_upd_loop:plainId "dict.update.loop" = true:=by decide +kernel
theorem no_keys_list:typeLookup (.type "list") "keys" = pure none:=am_miss_of_fast (by decide +kernel)
section
variable {prog:Program} {w:World} {A:Around} {E:Value->Shared->Prop} {s:Shared}
theorem miss_keys {a:Addr} {o:Obj} {xs:Array Value} {k:Nat} {Q:Option Value->Shared->Prop} (hx:s.heap.get? a = some o) (hc:o.cls = .type "list") (hdat:o.data = .seq xs k) (hd:o.dict = none) (hA:A.handled = none)
  (h:∀ h' tk,(∀ b ob,s.heap.get? b = some ob->h'.get? b = some ob)->Q none { s with heap:=h',toks:=tk }):wpAny (model prog w) A (getAttr? (.ref a) "keys") Q E s:=by
 obtain ⟨c,dct,dat,sl⟩:=o
 simp only at hc hdat hd
 subst hc hdat hd
 obtain ⟨hp,g,d,tk,os⟩:=s
 have hT:∀ tk',(⟨hp,g,d,tk',os⟩:Shared).TypeIs (.ref a) "list":=fun _=>⟨_,hx,rfl⟩
 have f1:=sub_AttributeError
 have f3:=F.slot_list_getattribute.lookup
 have f4:=F.slot_list_getattribute.bind (.ref a)
 have f5:=am_list_getattr_none
 unfold getAttr? getAttrBy? getAttrBy
 repeat (any_goals (first | assumption | exact hT _ | ((with_reducible show wpAny _ _ (call (Value.builtin "list.__getattribute__") _ _) _ _ _); refine call_meets F.slot_list_getattribute (hT _) am_entry_list_getattribute (F.args_list_getattribute_2 _ _) (meets_getattribute_miss_list a xs k sl "keys" _ no_keys_list (by decide +kernel) (by decide +kernel)) ⟨hx,hA,fun h' tk' e hx'=>?_⟩) | wp_step))
 obtain ⟨t',u',he⟩:=hx'.there
 show wpAny _ _ (getattributeRaised _ _ _ _ _ _ _) _ _ _
 unfold getattributeRaised hookOrError attributeErrorLeaves
 repeat (any_goals (first | assumption | wp_step))
 all_goals first | exact h _ _ hx'.keeps | trace_state
def PairAt (h:Heap) (u:Value) (kv:Key × Value):Prop:=∃ t ku,u = .ref t/\h.IsTuple t #[ku,kv.2]/\keyIs kv.1 ku = true
theorem stored_len {κ:Type} [DecidableEq κ] (kvs:List (κ × Value)) (k:κ) (v:Value):(stored kvs k v).length <= kvs.length + 1:=by
 unfold stored
 split
 ·rw [List.length_map]; omega
 ·rw [List.length_append,List.length_singleton]; exact Nat.le_refl _
theorem upd_loop {R:Result->Shared->Prop} (hh:A.handled = none) {D it l:Addr} {items:Array Value} {ps:List (Key × Value)} (hDi:D ≠ it) (hli:l ≠ it) (hlD:l ≠ D) (hps:ps.length = items.size) :
  ∀ (n i:Nat) (s:Shared) (acc:List (Key × Value)),items.size - i = n->i <= items.size->acc.length + (items.size - i) <= sizeLine->s.heap.IsListIter it l i->s.heap.IsList l items->s.heap.DictOf (mixKind prog w) D acc ->
   (∀ (j:Nat) (u:Value) (kv:Key × Value),items[j]? = some u->ps[j]? = some kv->PairAt s.heap u kv) ->
   (∀ h' tk,h'.DictOf (mixKind prog w) D (merged acc (ps.drop i))->(∀ b o,b ≠ D->b ≠ it->s.heap.get? b = some o->h'.get? b = some o)->R (.ok (.ret .none)) { s with heap:=h',toks:=tk }) ->
   codeAny (model prog w) A (.builtin "dict.update.loop" ⟨[.ref D,.ref it,rawInt i,.none],[]⟩) R s:=by
 intro n
 induction n with
 | zero =>
  intro i s acc hn hi hz hit hl hD hp hR
  have e:i = items.size:=by omega
  subst e
  refine codeAny_builtin entry_upd_loop ?_
  rw [Around.under_plainId plain_upd_loop _]
  show wpAny _ A.in1 (pyNext (.ref it) >>= _) _ _ s
  refine wpAny_bind (wpAny_pyNext_list_end hh hit hl (by simp) fun h' eb=>?_)
  show wpAny _ _ (Builtin.Dict.addKeywords D [] >>= _) _ _ _
  refine wpAny_bind (wpAny_pure (wpAny_pure ?_))
  have hD':h'.DictOf (mixKind prog w) D acc:=hD.extBut eb hDi
  have q:=hR h' s.toks (by rw [List.drop_of_length_le (by omega)]; exact hD') fun b o _ hb e=>eb b o hb e
  exact q
 | succ n ih =>
  intro i s acc hn hi hz hit hl hD hp hR
  have hlt:i < items.size:=by omega
  refine codeAny_builtin entry_upd_loop ?_
  rw [Around.under_plainId plain_upd_loop _]
  show wpAny _ A.in1 (pyNext (.ref it) >>= _) _ _ s
  have hu:items[i]? = some items[i]:=by simp [hlt]
  have hk:ps[i]? = some ps[i]:=List.getElem?_eq_getElem (by omega)
  obtain ⟨t,ku,eu,ht,hku⟩:=hp i _ _ hu hk
  refine wpAny_bind (wpAny_pyNext_list_item hit hl (x:=items[i]) hu fun h1 hit1 hs1=>?_)
  rw [eu]
  have hs1':Heap.SameBut it s.heap h1:=hs1
  have nt:t ≠ it:=by
   rintro rfl
   obtain ⟨o,ho,hc,_⟩:=ht
   obtain ⟨o',ho',hc',_⟩:=hit
   rw [ho] at ho'; cases ho'
   rw [hc] at hc'; simp at hc'
  have ht1:h1.IsTuple t #[ku,ps[i].2]:=ht.extBut hs1'.extBut nt
  have hT1:Shared.TypeIs { s with heap:=h1 } (.ref t) "tuple":=ht1.typeIs (s:={ s with heap:=h1 })
  obtain ⟨ot,got,hct,nt',hdt⟩:=id ht1
  refine wpAny_bind (wpAny_holding ?_)
  refine wpAny_bind (wpAny_tryCatch ?_)
  unfold Builtin.Dict.pairItems
  refine wpAny_bind (wpAny_typeOf hT1 ?_)
  rw [if_pos (by decide)]
  refine wpAny_bind (wpAny_seqItems got hdt (wpAny_pure ?_))
  show wpAny _ _ (holding [ku,ps[i].2] (dictSet D ku ps[i].2)) _ _ _
  have hD1:h1.DictOf (mixKind prog w) D acc:=hD.extBut hs1'.extBut hDi
  refine wpAny_holding (wpAny_dictSet_pairs (knd:=mixKind prog w) (k:=ps[i].1) hku hD1 (fun h2 hD2 hs2=>?_) (by omega))
  have hs2':Heap.SameBut D h1 h2:=hs2
  show wpAny _ _ (again _) _ _ _
  refine wpAny_pure ⟨plainId_quiet plain_upd_loop _,?_⟩
  have hl1:h1.IsList l items:=hl.extBut hs1'.extBut hli
  have kp:∀ b o,b ≠ D->b ≠ it->s.heap.get? b = some o->h2.get? b = some o:=fun b o h1 h2 e=>hs2'.extBut b o h1 (hs1'.extBut b o h2 e)
  refine ih (i + 1) _ (stored acc ps[i].1 ps[i].2) (by omega) hlt (by have:=stored_len acc ps[i].1 ps[i].2; omega) (hit1.extBut hs2'.extBut (Ne.symm hDi)) (hl1.extBut hs2'.extBut hlD) hD2 (fun j u kv h1 h2=>?_) fun h' tk hD' kp'=>?_
  ·obtain ⟨t2,ku2,e2,ht2,hk2⟩:=hp j u kv h1 h2
   have n1:t2 ≠ it:=by
    rintro rfl
    obtain ⟨o,ho,hc,_⟩:=ht2
    obtain ⟨o',ho',hc',_⟩:=hit
    rw [ho] at ho'; cases ho'
    rw [hc] at hc'; simp at hc'
   have n2:t2 ≠ D:=by
    rintro rfl
    obtain ⟨o,ho,hc,_⟩:=ht2
    obtain ⟨o',_,_,ho',hc',_⟩:=hD
    rw [ho] at ho'; cases ho'
    have:=hc'.1
    rw [hc] at this; simp at this
   obtain ⟨o,ho,r⟩:=ht2
   exact ⟨t2,ku2,e2,⟨o,kp _ o n2 n1 ho,r⟩,hk2⟩
  ·refine hR h' tk ?_ fun b o h1 h2 e=>kp' b o h1 h2 (kp b o h1 h2 e)
   have ed:ps.drop i = ps[i] :: ps.drop (i + 1):=List.drop_eq_getElem_cons (by omega)
   rw [ed]
   exact hD'
theorem call_dict_pairs {l:Addr} {o:Obj} {items:Array Value} {n:Nat} {ps:List (Key × Value)} {Q:Value->Shared->Prop} (hh:A.handled = none) (ho:s.heap.get? l = some o) (hc:o.cls = .type "list") (hdt:o.data = .seq items n) (hod:o.dict = none)
  (hps:ps.length = items.size) (hp:∀ (j:Nat) (u:Value) (kv:Key × Value),items[j]? = some u->ps[j]? = some kv->PairAt s.heap u kv) (hz:items.size <= sizeLine)
  (h:∀ h' tk,h'.DictOf (mixKind prog w) s.heap.objs.size (merged [] ps)->(∀ b o,s.heap.get? b = some o->h'.get? b = some o)->Q (.ref s.heap.objs.size) { s with heap:=h',toks:=tk }) :
  wpAny (model prog w) A (call (.type "dict") [.ref l]) Q E s:=by
 refine callType_codes (Q₁:=fun obj s₁=>obj = .ref s.heap.objs.size/\s₁ = { s with heap:=s.heap.push { cls:=.type "dict",data:=.dict #[] } }) F.kt_called_dict (F.kt_typeCall_dict_1 _) F.entry_dict_init (kt_code_dict_new _ ⟨rfl,rfl⟩) ?_
 rintro obj s₁ ⟨rfl,rfl⟩
 have hnew:(s.heap.push { cls:=.type "dict",data:=.dict #[] }).DictOf (mixKind prog w) s.heap.objs.size []:=Heap.DictOf.new s.heap
 have ho1:(s.heap.push { cls:=.type "dict",data:=.dict #[] }).get? l = some o:=Heap.get?_push_of_some _ ho
 have hlt:l < s.heap.objs.size:=Heap.lt_size ho
 refine ⟨hnew.typeIs,F.args_dict_init_2 _ _,?_⟩
 unfold Builtin.«dict.__init__»
 refine wpAny_bind ?_
 unfold Builtin.Dict.selfAndRest
 refine wpAny_bind (wpAny_notOrdered_dict hnew.typeIs ?_)
 show wpAny _ _ (pure (s.heap.objs.size,[Value.ref l])) _ _ _
 refine wpAny_pure ?_
 show wpAny _ _ (Builtin.Dict.updateFrom "dict.__init__" s.heap.objs.size (.ref l) [] .none) _ _ _
 unfold Builtin.Dict.updateFrom
 have hTl:Shared.TypeIs { s with heap:=s.heap.push { cls:=.type "dict",data:=.dict #[] } } (.ref l) "list":=⟨o,ho1,hc⟩
 refine wpAny_bind (wpAny_typeOf hTl ?_)
 rw [if_pos (by decide)]
 refine wpAny_bind (miss_keys ho1 hc hdt hod hh fun h1 tk1 k1=>?_)
 have k1':∀ b ob,(s.heap.push { cls:=.type "dict",data:=.dict #[] }).get? b = some ob->h1.get? b = some ob:=k1
 rw [if_pos (by rfl:(none:Option Value).isNone = true)]
 refine wpAny_bind (wpAny_rule ?_)
 have hl1:h1.IsList l items:=⟨o,k1' _ _ ho1,hc,n,hdt⟩
 refine wpAny_bind (wpAny_pyIter_list (s:={ s with heap:=h1,toks:=tk1 }) hl1 ?_)
 have hD1:h1.DictOf (mixKind prog w) s.heap.objs.size []:=by
  obtain ⟨od,es,ep,g,r⟩:=hnew
  exact ⟨od,es,ep,k1' _ _ g,r⟩
 have hDlt:s.heap.objs.size < h1.objs.size:=by
  obtain ⟨od,es,ep,g,r⟩:=hD1
  exact Heap.lt_size g
 refine wpAny_pure ⟨plainId_quiet plain_upd_loop _,?_⟩
 refine upd_loop (A:=A.in1) (prog:=prog) (w:=w) hh (D:=s.heap.objs.size) (it:=h1.objs.size) (l:=l) (items:=items) (ps:=ps) (Nat.ne_of_lt hDlt) (Nat.ne_of_lt (Nat.lt_trans hlt hDlt)) (Nat.ne_of_lt hlt) hps items.size 0 _ [] (Nat.sub_zero _) (Nat.zero_le _) (by rw [List.length_nil]; omega)
  ⟨_,Heap.get?_push_size _ rfl,rfl,rfl⟩ (hl1.push _) (hD1.push _) (fun j u kv a b=>?_) fun h' tk hD' kp=>?_
 ·obtain ⟨t,ku,e,ht,hk⟩:=hp j u kv a b
  obtain ⟨ot,g,r⟩:=ht
  exact ⟨t,ku,e,⟨ot,Heap.get?_push_of_some _ (k1' _ _ (Heap.get?_push_of_some _ g)),r⟩,hk⟩
 ·rw [List.drop_zero] at hD'
  refine ⟨rfl,h h' tk hD' fun b ob e=>kp b ob (Nat.ne_of_lt (Heap.lt_size e)) (Nat.ne_of_lt (Nat.lt_trans (Heap.lt_size e) hDlt)) (Heap.get?_push_of_some _ (k1' _ _ (Heap.get?_push_of_some _ e)))⟩
end
section
variable {X:Cx}
theorem call_dict_of (hc:X.calm = true):CallR X (.type "dict") (fun xs H Q=>∃ (l:Addr) (ts:List Addr) (kvs:List (Key × V)),xs = [.ref l]/\SqL X.K H l (ts.map V.ref)/\ts.length = kvs.length /\
  (∀ (j:Nat) (t:Addr) (kv:Key × V),ts[j]? = some t->kvs[j]? = some kv->H t = some (.tup [kV kv.1,kv.2]))/\∀ p,H p = none->Q (.ref p) (upd H p (.dK (mergeK [] kvs)))):=by
 intro pins s σ H xs us Q I r h
 obtain ⟨l,ts,kvs,rfl,hl,hlen,ht,q⟩:=h
 obtain ⟨u,rfl,ru⟩:=vals1 r
 cases ru
 obtain ⟨its,rv,⟨o,n,ho,hcl,hod,hdt⟩,hz⟩:=I.list hl
 have key:∀ (ts:List Addr) (kvs:List (Key × V)),ts.length = kvs.length->(∀ (j:Nat) (t:Addr) (kv:Key × V),ts[j]? = some t->kvs[j]? = some kv->H t = some (.tup [kV kv.1,kv.2]))->∃ ps:List (Key × Value),KV kvs ps/\∀ (j:Nat) (t:Addr) (kv:Key × Value),ts[j]? = some t->ps[j]? = some kv->PairAt s.heap (.ref t) kv:=by
  intro ts
  induction ts with
  | nil =>
   intro kvs hl _
   cases kvs with
   | nil=>exact ⟨[],.nil,fun j t kv e=>by simp at e⟩
   | cons _ _=>cases hl
  | cons t ts ih =>
   intro kvs hl ht
   cases kvs with
   | nil=>cases hl
   | cons kv kvs =>
    obtain ⟨ps,r1,r2⟩:=ih kvs (by simpa using hl) fun j t' kv' a b=>ht (j + 1) t' kv' (by simpa using a) (by simpa using b)
    obtain ⟨_,itt,rt,p⟩:=(show ObjOk X.prog X.w H s.heap t (.tup [kV kv.1,kv.2]) from I.hok t _ (ht 0 t kv rfl rfl))
    obtain ⟨a,b,e,ra,rb⟩:=rt.two
    subst e
    refine ⟨(kv.1,b) :: ps,.cons ⟨rfl,rb⟩ r1,fun j t' kv' h1 h2=>?_⟩
    cases j with
    | zero =>
     simp at h1 h2
     subst h1 h2
     exact ⟨t,a,rfl,p,kV_is (P:=X.prog) (w:=X.w) ra⟩
    | succ j=>exact r2 j t' kv' (by simpa using h1) (by simpa using h2)
 obtain ⟨ps,rel,pa⟩:=key ts kvs hlen ht
 have hl1:=rv.length
 rw [List.length_map] at hl1
 have hl2:=rel.length
 refine call_dict_pairs (prog:=X.prog) (w:=X.w) (ps:=ps) (I.ok.hd hc) ho hcl hdt hod (by rw [List.size_toArray]; omega) (fun j u kv a b=>?_) (by rw [List.size_toArray,<- hl1]; rw [List.length_map] at hz; exact hz) fun h' tk hD kp=>?_
 ·have a':its[j]? = some u:=by simpa using a
  have hj:j < ts.length:=by
   have:=(List.getElem?_eq_some_iff.mp a').1
   omega
  obtain ⟨u',e1,r1⟩:=rv.get (i:=j) (x:=V.ref ts[j]) (by simp [hj])
  rw [a'] at e1
  cases e1
  cases (show u = Value.ref ts[j] from r1)
  exact pa j ts[j] kv (by simp [hj]) b
 ·have hm:(mergeK [] kvs).length <= sizeLine:=by
   have h1:=length_mergeK kvs []
   rw [List.length_nil] at h1
   rw [List.length_map] at hz
   omega
  exact ⟨.ref s.heap.objs.size,_,I.laid (o:=.dK (mergeK [] kvs)) kp (Nat.le_refl _) (dk_new hm (beq_eq_false_iff_ne.mpr (Ne.symm (Nat.ne_of_lt I.big))) (rel.merge .nil) hD),rfl,q _ I.fresh⟩
end
end L2
end

section
set_option Elab.async false
set_option linter.all false
set_option maxRecDepth 100000
namespace L2
open PySem PySem.Spec PyProof.Rows
open Sem (wp)
abbrev rAddI:R2:=rI0 fun i j=>.int (i + j)
abbrev rMulI:R2:=rI CMul fun i j=>.int (i * j)
abbrev rModI:R2:=rI (fun _ j=>0 < j) fun i j=>.int (i % j)
abbrev rDivI:R2:=rI CDiv fun i j=>.int (i / j)
abbrev rPowI:R2:=rI CPow fun i j=>.int (i ^ j.toNat)
abbrev rLtI:R2:=rI0 fun i j=>.bl (decide (i < j))
abbrev rLeI:R2:=rI0 fun i j=>.bl (decide (i <= j))
abbrev rGtI:R2:=rI0 fun i j=>.bl (decide (j < i))
abbrev rGeI:R2:=rI0 fun i j=>.bl (decide (j <= i))
abbrev rAddS:R2:=fun x y H Q=>∃ i j,x = .str i/\y = .str j/\i.length + j.length <= sizeLine/\Q (.str (i ++ j)) H
abbrev rInS:R2:=fun x y H Q=>∃ c j,x = .str ⟨#[c]⟩/\y = .str j/\Q (.bl (decide (c ∈ j.cps.toList))) H
abbrev rSlA (K:PySem.W.Frag):V->Option Int->Option Int->Hp->VK->Prop:=fun x lo hi H Q=>rSlL K x lo hi H Q ∨ rSlS x lo hi H Q
abbrev rIsi (K:PySem.W.Frag):List V->Hp->VK->Prop:=fun xs H Q=>∃ x c t b,xs = [x,.ty c]/\TyX K H x t/\PySem.W.kitOne K t (.type c) = some b/\Q (.bl b) H
abbrev rAll (K:PySem.W.Frag):List V->Hp->VK->Prop:=fun xs H Q=>∃ (p:Addr) (bs:List Bool),xs = [.ref p]/\SqL K H p (bs.map V.bl)/\Q (.bl (bs.all id)) H
abbrev rTupA (K:PySem.W.Frag):List V->Hp->VK->Prop:=fun xs H Q=>∃ p ys,xs = [.ref p]/\((SqL K H p ys/\∀ l,H l = none->Q (.ref l) (upd H l (.tup ys))) ∨ (SqT K H p ys/\Q (.ref p) H))
abbrev rDictOf (K:PySem.W.Frag):List V->Hp->VK->Prop:=fun xs H Q=>∃ (l:Addr) (ts:List Addr) (kvs:List (Key × V)),xs = [.ref l]/\SqL K H l (ts.map V.ref)/\ts.length = kvs.length /\
  (∀ (j:Nat) (t:Addr) (kv:Key × V),ts[j]? = some t->kvs[j]? = some kv->H t = some (.tup [kV kv.1,kv.2]))/\∀ p,H p = none->Q (.ref p) (upd H p (.dK (mergeK [] kvs)))
abbrev rListA (K:PySem.W.Frag):List V->Hp->VK->Prop:=fun xs H Q =>
 (∃ p ys,xs = [.ref p]/\(SqL K H p ys ∨ SqT K H p ys)/\∀ l,H l = none->Q (.ref l) (upd H l (.lst ys))) ∨
 (∃ (d:Addr) (kvs:List (Key × V)),xs = [.ref d]/\Rd H d (.dK kvs)/\∀ l,H l = none->Q (.ref l) (upd H l (.lst (kvs.map fun kv=>kV kv.1))))
abbrev rLen (K:PySem.W.Frag):List V->Hp->VK->Prop:=fun xs H Q =>
 (∃ p ys,xs = [.ref p]/\(SqL K H p ys ∨ SqT K H p ys)/\Q (.int ys.length) H) ∨ (∃ z,xs = [.str z]/\z.length <= sizeLine/\Q (.int z.length) H)
theorem boot_isi:bootBuiltins "isinstance" = some (.builtin "isinstance"):=by decide +kernel
theorem bootT_list:bootBuiltins "list" = some (.type "list"):=by decide +kernel
theorem bootT_tuple:bootBuiltins "tuple" = some (.type "tuple"):=by decide +kernel
theorem bootT_dict:bootBuiltins "dict" = some (.type "dict"):=by decide +kernel
section
variable {X:Cx} {p pos:Pos}
theorem call_lenA:CallR X (.builtin "len") (rLen X.K):=call_len_seq.or call_len_str
theorem call_listA (hc:X.calm = true):CallR X (.type "list") (rListA X.K):=call_list_of.or (call_list_dict hc)
theorem pe_ty_list (hg:Gl X "list") (hm:X.mg "list" = none):PE X (.Name "list" pos) (tC (.ty "list")):=pe_bltn hg hm bootT_list rfl
theorem pe_ty_tuple (hg:Gl X "tuple") (hm:X.mg "tuple" = none):PE X (.Name "tuple" pos) (tC (.ty "tuple")):=pe_bltn hg hm bootT_tuple rfl
end
def Gc (mg:Str->Option Value) (x:Str) (v:V):Prop:=∃ u,mg x = some u/\RelV v u
theorem pe_gc {X:Cx} {x:Str} {v:V} {pos:Pos} (hg:Gl X x) (h:Gc X.mg x v) (hd:(x == ("__debug__":Str)) = false:=by decide):PE X (.Name x pos) (tC v):=by
 obtain ⟨u,hm,r⟩:=h
 exact pe_glob hg hm r hd
structure Def (P:Program) (w:World) (K:PySem.W.Frag) (mg:Str->Option Value) (base:Heap) (x:Str) (ps:List Str) (k:Nat) (sp:Sp):Prop where
 ex:∃ f fd,FnOk P w K mg base CX0 k f fd ps sp/\mg x = some (.ref f)/\PySem.W.keepIn K (.ref f) = true/\Binds K fd ps []
structure New (P:Program) (w:World) (K:PySem.W.Frag) (mg:Str->Option Value) (base:Heap) (x:Str) (C:Addr) (ps:List Str) (k:Nat) (sp:Sp):Prop where
 ex:∃ f fd,FnOk P w K mg base CX0 k f fd ps sp/\mg x = some (.ref C)/\Mk K C f/\Binds K fd ps []
structure Mth (P:Program) (w:World) (K:PySem.W.Frag) (mg:Str->Option Value) (base:Heap) (C:Addr) (m:Str) (ps:List Str) (k:Nat) (sp:Sp):Prop where
 ex:∃ f fd,FnOk P w K mg base CX0 k f fd ps sp/\Cls K C/\Meth K C m f/\Binds K fd ps []
section
variable {X:Cx} {k:Nat} {ps:List Str} {sp:Sp} {x m:Str} {C:Addr} {p pos apos:Pos} {o e:Expr} {es:List Expr} {t:TA} {ta:TE}
theorem pe_fn (D:Def X.prog X.w X.K X.mg X.base x ps k sp) (hr:Room k X.A) (hg:Gl X x) (ha:PA X (e :: es) t) (hdb:(x == ("__debug__":Str)) = false:=by decide)
  (he:starEach (e :: es) X.env = (false,eval e X.env) :: starEach es X.env:=by rfl) (hpl:(backTo pos (starEach es X.env)).any (·.1) = false:=by rfl) :
  PE X (.Call (.Name x p) (e :: es) [] pos) (tCall sp [] E0 t):=by
 obtain ⟨f,fd,F,hm,hk,hb⟩:=D.ex
 exact pe_call F hr hg hm hk hb .nil pass0 ha hdb he hpl
theorem pe_new (D:New X.prog X.w X.K X.mg X.base x C ps k sp) (hr:Room (k + 1) X.A) (hg:Gl X x) (ha:PA X (e :: es) t) (hdb:(x == ("__debug__":Str)) = false:=by decide)
  (he:starEach (e :: es) X.env = (false,eval e X.env) :: starEach es X.env:=by rfl) (hpl:(backTo pos (starEach es X.env)).any (·.1) = false:=by rfl) :
  PE X (.Call (.Name x p) (e :: es) [] pos) (tMake C sp [] E0 t):=by
 obtain ⟨f,fd,F,hm,M,hb⟩:=D.ex
 exact pe_make M F hr hg hm hb .nil pass0 ha hdb he hpl
theorem pe_mth {pl:Sem Bool} (M:Mth X.prog X.w X.K X.mg X.base C m ps k sp) (hr:Room k X.A) (he:PE X o ta) (ha:PA X (e :: es) t)
  (hst:starEach (e :: es) X.env = (false,eval e X.env) :: starEach es X.env:=by rfl) (hpl:(backTo pos (starEach es X.env)).any (·.1) = false:=by rfl)
  (ht:eval (.Call (.Attribute o m apos) (e :: es) [] pos) X.env = (do
   let ov <- eval o X.env
   standAt apos.atName
   let (f,first) <- holding [ov] (getMethod ov m pl)
   callWith pos f first (backTo pos (starEach (e :: es) X.env)) (backToKw pos (keywordEach [] X.env))):=by rfl) :
  PE X (.Call (.Attribute o m apos) (e :: es) [] pos) (tMeth C m sp [] E0 ta t):=by
 obtain ⟨f,fd,F,c,hm,hb⟩:=M.ex
 exact pe_meth he c hm F hr hb .nil pass0 ha hst hpl ht
theorem pe_mth0 {pl:Sem Bool} (M:Mth X.prog X.w X.K X.mg X.base C m ps k sp) (hr:Room k X.A) (he:PE X o ta)
  (ht:eval (.Call (.Attribute o m apos) [] [] pos) X.env = (do
   let ov <- eval o X.env
   standAt apos.atName
   let (f,first) <- holding [ov] (getMethod ov m pl)
   callWith pos f first (backTo pos (starEach [] X.env)) (backToKw pos (keywordEach [] X.env))):=by rfl) :
  PE X (.Call (.Attribute o m apos) [] [] pos) (tMeth C m sp [] E0 ta tNil):=by
 obtain ⟨f,fd,F,c,hm,hb⟩:=M.ex
 exact pe_meth0 he c hm F hr hb .nil pass0 ht
end
def iSeq (K:PySem.W.Frag) (tl:TE):TI:=fun σ H R=>tl σ H fun x H1=>∃ a,x = .ref a/\(((∃ xs,SqL K H1 a xs)/\R (Itl K a) H1) ∨ ((∃ xs,SqT K H1 a xs)/\R (Itt K a) H1))
theorem pi_seq {X:Cx} {tg l:Expr} {tl:TE} (hl:PE X l tl):PI X tg l (iSeq X.K tl):=by
 intro pins s σ H R I h
 refine thn (hl pins s σ H _ I h) fun v s1 ⟨x,H1,I1,r1,q1⟩=>?_
 obtain ⟨a,e,q⟩:=q1
 subst e
 cases r1
 have fin:∀ b ∈ [s1.heap.objs.size],FpOk X pins H1 b:=fun b hb=>by
  have e:b = s1.heap.objs.size:=by simpa using hb
  subst e
  exact I1.fpOk (Nat.le_refl _) (I1.hok.fresh (Nat.le_refl _))
 rcases q with ⟨⟨xs,hq⟩,q⟩ | ⟨⟨xs,hq⟩,q⟩
 ·obtain ⟨its,rv,p,hz⟩:=I1.list hq
  refine wpAny_pyIter_list p.isList ?_
  exact ⟨s1.heap.objs.size,[s1.heap.objs.size],_,_,H1,rfl,I1.kept (t':=s1.toks) fun b o e=>Heap.get?_push_of_some _ e,turn_list a _,⟨_,Heap.get?_push_size _ rfl,rfl,rfl⟩,fin,q⟩
 ·obtain ⟨its,rv,p,hz⟩:=I1.tuple hq
  refine wpAny_pyIter_tuple p ?_
  exact ⟨s1.heap.objs.size,[s1.heap.objs.size],_,_,H1,rfl,I1.kept (t':=s1.toks) fun b o e=>Heap.get?_push_of_some _ e,turn_tuple a _,⟨_,Heap.get?_push_size _ rfl,rfl,rfl⟩,fin,q⟩
end L2
end

section
set_option Elab.async false
set_option linter.all false
set_option maxRecDepth 100000
namespace L2
open PySem PySem.Spec PyProof.Rows
theorem for_enum {K:PySem.W.Frag} {a:Addr} {xs:List V} {g:TG} {tb:TS} {D:Ends} {σ:St} {H:Hp} (Pv:Nat->St->Hp->Prop) (h0:Pv 0 σ H) (hl:∀ i σ H,i <= xs.length->Pv i σ H->SqL K H a xs)
  (hs:∀ i x σ H p,xs[i]? = some x->Pv i σ H->H p = none->g (.ref p) σ (upd H p (.tup [.int i,x])) fun σ2 H2=>tb { D with nx:=Pv (i + 1),ct:=Pv (i + 1),bk:=D.nx } σ2 H2) (hd:∀ σ H,Pv xs.length σ H->D.nx σ H) :
  ∃ W:Nat->Nat->St->Hp->Prop,(∃ m,W 0 m σ H)/\∀ i m σ H,W i m σ H ->
   ((Ite K a).stop i H/\D.nx σ H) ∨ ((Ite K a).go i H/\∃ N:St->Hp->Prop,(∀ σ' H',N σ' H'->∃ m',m' < m/\W (i + 1) m' σ' H')/\∀ x H',(Ite K a).yld i H x H'->g x σ H' fun σ2 H2=>tb { D with nx:=N,ct:=N,bk:=D.nx } σ2 H2):=by
 refine ⟨fun i m σ H=>m = xs.length - i/\i <= xs.length/\Pv i σ H,⟨xs.length,by simp,Nat.zero_le _,h0⟩,?_⟩
 rintro i m σ H ⟨rfl,hi,p⟩
 have q:=hl i σ H hi p
 by_cases hlt:i < xs.length
 ·refine .inr ⟨⟨xs,xs[i],q,by simp [hlt]⟩,Pv (i + 1),fun σ' H' p'=>⟨xs.length - (i + 1),by omega,rfl,hlt,p'⟩,fun x H' y=>?_⟩
  obtain ⟨t,v,rfl,hn,hv,rfl⟩:=y
  exact hs i v σ H t (hv xs q) p hn
 ·have e:i = xs.length:=by omega
  subst e
  exact .inl ⟨⟨xs,q,Nat.le_refl _⟩,hd σ H p⟩
def Wc (n:Nat) (Pv:Nat->List V->Hp->Prop):Nat->Nat->List V->Hp->Prop:=fun i m vs H=>m = n - i/\i <= n/\Pv i vs H
theorem nxt {n i:Nat} {Pv:Nat->List V->Hp->Prop} {vs:List V} {H:Hp} (hi:i < n) (p:Pv (i + 1) vs H):∃ m',m' < n - i/\Wc n Pv (i + 1) m' vs H:=⟨n - (i + 1),by omega,rfl,hi,p⟩
abbrev CompLoop (k:Nat) (fi:List Nat) (σ:St) (J:It) (g:TG) (tc:TT) (te:TE) (H1:Hp) (l:Addr) (Q:Hp->Prop):Prop :=
 ∃ W:Nat->Nat->List V->Hp->Prop,(∃ m,W 0 m [] (upd H1 l (.lst [])))/\∀ i m vs H2,W i m vs H2->H2 l = some (.lst vs) /\
  ((J.stop i H2/\Q H2) ∨ (J.go i H2/\∀ x H3,J.yld i H2 x H3->g x (compSt k fi σ) H3 fun σ2 H4=>tc σ2 H4 fun b H5 =>
   if b = true then te σ2 H5 fun v H6=>H6 l = some (.lst vs)/\vs.length < sizeLine/\∃ m',m' < m/\W (i + 1) m' (vs ++ [v]) (upd H6 l (.lst (vs ++ [v]))) else ∃ m',m' < m/\W (i + 1) m' vs H5))
theorem comp_gen {k:Nat} {fi:List Nat} {J:It} {g:TG} {tc:TT} {te:TE} {σ:St} {H1:Hp} {Q:Hp->Prop} {l:Addr} (n:Nat) (Pv:Nat->List V->Hp->Prop) (h0:Pv 0 [] (upd H1 l (.lst [])))
  (hl:∀ i vs H,i <= n->Pv i vs H->H l = some (.lst vs)) (hgo:∀ i vs H,i < n->Pv i vs H->J.go i H) (hst:∀ vs H,Pv n vs H->J.stop n H/\Q H)
  (hs:∀ i vs H x H3,i < n->Pv i vs H->J.yld i H x H3->g x (compSt k fi σ) H3 fun σ2 H4=>tc σ2 H4 fun b H5 =>
   if b = true then te σ2 H5 fun v H6=>H6 l = some (.lst vs)/\vs.length < sizeLine/\∃ m',m' < n - i/\Wc n Pv (i + 1) m' (vs ++ [v]) (upd H6 l (.lst (vs ++ [v]))) else ∃ m',m' < n - i/\Wc n Pv (i + 1) m' vs H5) :
  CompLoop k fi σ J g tc te H1 l Q:=by
 refine ⟨Wc n Pv,⟨n,by simp [Wc],Nat.zero_le _,h0⟩,?_⟩
 rintro i m vs H ⟨rfl,hi,p⟩
 refine ⟨hl i vs H hi p,?_⟩
 by_cases hlt:i < n
 ·exact .inr ⟨hgo i vs H hlt p,fun x H3 y=>hs i vs H x H3 hlt p y⟩
 ·have e:i = n:=by omega
  subst e
  exact .inl (hst vs H p)
section
variable {K:PySem.W.Frag} {k:Nat} {fi:List Nat} {g:TG} {tc:TT} {te:TE} {σ:St} {H1:Hp} {Q:Hp->Prop} {l:Addr}
theorem comp_list {a:Addr} {xs:List V} (Pv:Nat->List V->Hp->Prop) (h0:Pv 0 [] (upd H1 l (.lst [])))
  (hl:∀ i vs H,i <= xs.length->Pv i vs H->H l = some (.lst vs)/\SqL K H a xs) (hd:∀ vs H,Pv xs.length vs H->Q H)
  (hs:∀ i vs H x,xs[i]? = some x->i < xs.length->Pv i vs H->g x (compSt k fi σ) H fun σ2 H4=>tc σ2 H4 fun b H5 =>
   if b = true then te σ2 H5 fun v H6=>H6 l = some (.lst vs)/\vs.length < sizeLine/\∃ m',m' < xs.length - i/\Wc xs.length Pv (i + 1) m' (vs ++ [v]) (upd H6 l (.lst (vs ++ [v]))) else ∃ m',m' < xs.length - i/\Wc xs.length Pv (i + 1) m' vs H5) :
  CompLoop k fi σ (Itl K a) g tc te H1 l Q:=by
 refine comp_gen xs.length Pv h0 (fun i vs H hi p=>(hl i vs H hi p).1) (fun i vs H hi p=>⟨xs,xs[i],(hl i vs H (Nat.le_of_lt hi) p).2,by simp [hi]⟩) (fun vs H p=>⟨⟨xs,(hl _ vs H (Nat.le_refl _) p).2,Nat.le_refl _⟩,hd vs H p⟩) fun i vs H x H3 hi p y=>?_
 obtain ⟨rfl,y⟩:=y
 exact hs i vs _ x (y xs (hl i vs _ (Nat.le_of_lt hi) p).2) hi p
theorem comp_tup {a:Addr} {xs:List V} (Pv:Nat->List V->Hp->Prop) (h0:Pv 0 [] (upd H1 l (.lst [])))
  (hl:∀ i vs H,i <= xs.length->Pv i vs H->H l = some (.lst vs)/\SqT K H a xs) (hd:∀ vs H,Pv xs.length vs H->Q H)
  (hs:∀ i vs H x,xs[i]? = some x->i < xs.length->Pv i vs H->g x (compSt k fi σ) H fun σ2 H4=>tc σ2 H4 fun b H5 =>
   if b = true then te σ2 H5 fun v H6=>H6 l = some (.lst vs)/\vs.length < sizeLine/\∃ m',m' < xs.length - i/\Wc xs.length Pv (i + 1) m' (vs ++ [v]) (upd H6 l (.lst (vs ++ [v]))) else ∃ m',m' < xs.length - i/\Wc xs.length Pv (i + 1) m' vs H5) :
  CompLoop k fi σ (Itt K a) g tc te H1 l Q:=by
 refine comp_gen xs.length Pv h0 (fun i vs H hi p=>(hl i vs H hi p).1) (fun i vs H hi p=>⟨xs,xs[i],(hl i vs H (Nat.le_of_lt hi) p).2,by simp [hi]⟩) (fun vs H p=>⟨⟨xs,(hl _ vs H (Nat.le_refl _) p).2,Nat.le_refl _⟩,hd vs H p⟩) fun i vs H x H3 hi p y=>?_
 obtain ⟨rfl,y⟩:=y
 exact hs i vs _ x (y xs (hl i vs _ (Nat.le_of_lt hi) p).2) hi p
theorem comp_range {lo:Int} {n:Nat} (Pv:Nat->List V->Hp->Prop) (h0:Pv 0 [] (upd H1 l (.lst [])))
  (hl:∀ i vs H,i <= n->Pv i vs H->H l = some (.lst vs)) (hd:∀ vs H,Pv n vs H->Q H)
  (hs:∀ i vs H,i < n->Pv i vs H->g (.int (lo + i)) (compSt k fi σ) H fun σ2 H4=>tc σ2 H4 fun b H5 =>
   if b = true then te σ2 H5 fun v H6=>H6 l = some (.lst vs)/\vs.length < sizeLine/\∃ m',m' < n - i/\Wc n Pv (i + 1) m' (vs ++ [v]) (upd H6 l (.lst (vs ++ [v]))) else ∃ m',m' < n - i/\Wc n Pv (i + 1) m' vs H5) :
  CompLoop k fi σ (Itr lo n) g tc te H1 l Q:=by
 refine comp_gen n Pv h0 hl (fun i vs H hi p=>hi) (fun vs H p=>⟨Nat.le_refl _,hd vs H p⟩) fun i vs H x H3 hi p y=>?_
 obtain ⟨rfl,rfl⟩:=y
 exact hs i vs _ hi p
theorem comp_str {x:Str} (Pv:Nat->List V->Hp->Prop) (h0:Pv 0 [] (upd H1 l (.lst [])))
  (hl:∀ i vs H,i <= x.cps.size->Pv i vs H->H l = some (.lst vs)) (hd:∀ vs H,Pv x.cps.size vs H->Q H)
  (hs:∀ i vs H c,x.cps[i]? = some c->i < x.cps.size->Pv i vs H->g (.str ⟨#[c]⟩) (compSt k fi σ) H fun σ2 H4=>tc σ2 H4 fun b H5 =>
   if b = true then te σ2 H5 fun v H6=>H6 l = some (.lst vs)/\vs.length < sizeLine/\∃ m',m' < x.cps.size - i/\Wc x.cps.size Pv (i + 1) m' (vs ++ [v]) (upd H6 l (.lst (vs ++ [v]))) else ∃ m',m' < x.cps.size - i/\Wc x.cps.size Pv (i + 1) m' vs H5) :
  CompLoop k fi σ (Its x) g tc te H1 l Q:=by
 refine comp_gen x.cps.size Pv h0 hl (fun i vs H hi p=>hi) (fun vs H p=>⟨Nat.le_refl _,hd vs H p⟩) fun i vs H y H3 hi p yl=>?_
 obtain ⟨rfl,c,hc,rfl⟩:=yl
 exact hs i vs _ c hc hi p
end
theorem gN {j:Nat} {x:V} {σ:St} {H:Hp} {Q:St->Hp->Prop} (h:Q (σ.set j (some x)) H):gName j x σ H Q:=h
theorem yesT {σ:St} {H:Hp} {A B:Hp->Prop} (h:A H):tYes σ H (fun b H5=>if b = true then A H5 else B H5):=by
 show (if (true:Bool) = true then A H else B H)
 exact h
end L2
end

section
set_option Elab.async false
set_option linter.all false
set_option maxRecDepth 100000
namespace L2
open PySem PySem.Spec PyProof.Rows
def Itk (d:Addr) (o:Obj) (kvs:List (Key × V)):It :=
 ⟨fun i H=>H d = some (.frz o (.dK kvs))/\i < kvs.length,fun i H x H'=>H' = H/\∃ kv,kvs[i]? = some kv/\x = kV kv.1,fun i H=>H d = some (.frz o (.dK kvs))/\kvs.length <= i⟩
theorem keyRel {k:Key} {v:Value} (h:keyIs k v = true):RelV (kV k) v:=by
 rcases keyIs_shape h with ⟨i,t,rfl,rfl⟩ | ⟨i,t,rfl,rfl⟩
 ·exact ⟨t,rfl⟩
 ·exact ⟨t,rfl⟩
theorem pairedGet {α β:Type} {F:α->β->Prop}:∀ {l₁:List α} {l₂:List β},Paired F l₁ l₂->∀ {i:Nat} {a:α} {b:β},l₁[i]? = some a->l₂[i]? = some b->F a b
 | _,_,.nil,_,_,_,h,_=>by simp at h
 | _,_,.cons r t,0,_,_,h,h'=>by simp at h h'; subst h h'; exact r
 | _,_,.cons r t,i + 1,_,_,h,h'=>by simp at h h'; exact pairedGet t h h'
theorem frz_dict {P:Program} {w:World} {H:Hp} {h:Heap} {d:Addr} {o:Obj} {kvs:List (Key × V)} {es0:Array DictEntry} {ep:Nat} (hok:HOk P w H h) (e:H d = some (.frz o (.dK kvs))) (ho:o.data = .dict es0 ep) :
  (d == sysModules) = false/\∃ vs,KV kvs vs/\h.DictAt (mixKind P w) d vs ep:=by
 obtain ⟨g,_,hsys,vs,rel,dd⟩:=(show ObjOk P w H h d (.frz o (.dK kvs)) from hok d _ e)
 obtain ⟨ep',o',es,ho',hc,hd,r⟩:=dd.dictAt
 rw [g] at ho'
 cases ho'
 rw [ho] at hd
 cases hd
 exact ⟨hsys,vs,rel,o,_,g,hc,ho,r⟩
theorem turn_dict {P:Program} {w:World} {K:PySem.W.Frag} {tg:Expr} (d it:Addr) (o:Obj) (kvs:List (Key × V)) {es0:Array DictEntry} {ep:Nat} (ho:o.data = .dict es0 ep):Turn P w K tg (Itk d o kvs) [it] it (fun i h=>h.IsKeyIter it d i kvs.length ep) where
 mem:=by simp
 obj:=fun i h st b hb=>by
  have e:b = it:=by simpa using hb
  subst e
  obtain ⟨o,e,c,d⟩:=st
  exact ⟨o,e,fun v z=>by rw [d] at z; cases z⟩
 keep:=fun i h h' st k=>by
  obtain ⟨ob,e,c⟩:=st
  exact ⟨ob,k it (by simp) ob e,c⟩
 item:=by
  intro X hP hw hK hc i pins s σ H E I hf st hg
  subst hP hw hK
  obtain ⟨hd,hi⟩:=hg
  obtain ⟨hsys,vs,rel,hm⟩:=frz_dict I.hok hd ho
  have hl:=rel.length
  obtain ⟨f0,f1,f2,f3,f4,f5⟩:=hf it (by simp)
  have hi':i < vs.length:=by omega
  have hx:vs[i]? = some (vs[i].1,vs[i].2):=by simp [hi']
  rw [hl] at st
  refine wpAny_pyNext_dict_item st hm hx fun key h' hk st' sb=>?_
  have I1:Inv X pins σ H { s with heap:=h' }:=I.turned (t':=s.toks) (fun b o hb e=>(sb.2 b hb).trans e) f0 f1 f3 f4 f5
  obtain ⟨oi,e,c,dd⟩:=id st'
  have hkv:kvs[i]? = some kvs[i]:=by simp [hi]
  have ek:kvs[i].1 = vs[i].1:=(pairedGet rel hkv hx).1
  rw [<- hl] at st'
  exact ⟨key,rfl,go_of (s:={ s with heap:=h' }) e c dd (by decide) ⟨kV kvs[i].1,H,I1,keyRel (by rw [ek]; exact hk),⟨rfl,kvs[i],hkv,rfl⟩,st',fun b hb=>(hf b hb).1⟩⟩
 done:=by
  intro X hP hw hK hc i pins s σ H E I hf st hg
  subst hP hw hK
  obtain ⟨hd,hi⟩:=hg
  obtain ⟨hsys,vs,rel,hm⟩:=frz_dict I.hok hd ho
  have hl:=rel.length
  obtain ⟨f0,f1,f2,f3,f4,f5⟩:=hf it (by simp)
  rw [hl] at st
  exact wpAny_pyNext_dict_end (I.ok.hd hc) st hm (by simp; omega) fun h' eb=>⟨rfl,I.turned (t':=s.toks) (fun b o hb e=>eb b o hb e) f0 f1 f3 f4 f5⟩
 self:=fun _ _ _ _ _ st h=>wpAny_pyIter_keyiter st h
def iKeys (tl:TE):TI:=fun σ H R=>tl σ H fun x H1=>∃ d kvs,x = .ref d /\
 ((H1 d = some (.dK kvs)/\∀ o,R (Itk d o kvs) (upd H1 d (.frz o (.dK kvs)))) ∨ ∃ o,H1 d = some (.frz o (.dK kvs))/\R (Itk d o kvs) H1)
theorem frz_data {P:Program} {w:World} {H:Hp} {h:Heap} {d:Addr} {o:Obj} {kvs:List (Key × V)} (x:ObjOk P w H h d (.frz o (.dK kvs))):∃ es0 ep,o.data = .dict es0 ep:=by
 obtain ⟨g,_,_,vs,_,dd⟩:=x
 obtain ⟨ep',o',es,ho',hc,hd,r⟩:=dd.dictAt
 rw [g] at ho'
 cases ho'
 exact ⟨_,_,hd⟩
theorem pi_keys {X:Cx} {tg l:Expr} {tl:TE} (hl:PE X l tl):PI X tg l (iKeys tl):=by
 intro pins s σ H R I h
 refine thn (hl pins s σ H _ I h) fun v s1 ⟨x,H1,I1,r1,q1⟩=>?_
 obtain ⟨d,kvs,e,q⟩:=q1
 subst e
 cases r1
 have core:∀ (H2:Hp) (o:Obj),Inv X pins σ H2 s1->H2 d = some (.frz o (.dK kvs))->R (Itk d o kvs) H2->wpAny (model X.prog X.w) X.A (pyIter (.ref d)) (PIE X pins σ tg R) X.xe s1:=by
  intro H2 o I2 e q
  obtain ⟨es0,ep,ho⟩:=frz_data (I2.hok d _ e)
  obtain ⟨hsys,vs,rel,hm⟩:=frz_dict I2.hok e ho
  have hl:=rel.length
  refine wpAny_pyIter_dict hsys hm ?_
  refine ⟨s1.heap.objs.size,[s1.heap.objs.size],_,_,H2,rfl,I2.kept (t':=s1.toks) fun b o e=>Heap.get?_push_of_some _ e,turn_dict d _ o kvs ho,?_,fun b hb=>?_,q⟩
  ·rw [hl]; exact ⟨_,Heap.get?_push_size _ rfl,rfl,rfl⟩
  ·have e:b = s1.heap.objs.size:=by simpa using hb
   subst e
   exact I2.fpOk (Nat.le_refl _) (I2.hok.fresh (Nat.le_refl _))
 rcases q with ⟨e,q⟩ | ⟨o,e,q⟩
 ·obtain ⟨z,hsys,vs,rel,dd⟩:=(show ObjOk X.prog X.w H1 s1.heap d (.dK kvs) from I1.hok d _ e)
  obtain ⟨ep,o,es,ho,r⟩:=id dd.dictAt
  have I2:Inv X pins σ (upd H1 d (.frz o (.dK kvs))) { s1 with heap:=s1.heap,toks:=s1.toks } :=
   I1.write (x:=d) (e:=d) (t':=s1.toks) (by rw [e]; trivial) (.inl rfl) (fun _ _ _ q=>q) ⟨o,ho⟩ ⟨ho,z,hsys,vs,rel,dd⟩
  exact core _ o I2 upd_same (q o)
 ·exact core H1 o I1 e q
abbrev rLenD (K:PySem.W.Frag):List V->Hp->VK->Prop:=fun xs H Q=>rLen K xs H Q ∨ ∃ (d:Addr) (kvs:List (Key × V)),xs = [.ref d]/\Rd H d (.dK kvs)/\Q (.int kvs.length) H
theorem call_lenK {X:Cx}:CallR X (.builtin "len") (rLenD X.K):=by
 refine call_lenA.or ?_
 intro pins s σ H xs us Q I r h
 obtain ⟨d,kvs,rfl,hd,q⟩:=h
 obtain ⟨u,rfl,ru⟩:=vals1 r
 cases ru
 exact d_len I hd fun t s' I'=>⟨.int kvs.length,H,I',⟨t,rfl⟩,q⟩
end L2
end

section
set_option Elab.async false
set_option linter.all false
namespace L2
open PySem PySem.Spec PyProof.Rows
end L2
end
set_option Elab.async false
set_option linter.all false
set_option maxRecDepth 100000
set_option maxHeartbeats 4000000
namespace Mum
open PySem PySem.Spec PyProof.Rows L2
def t_law_spread (K:PySem.W.Frag) :TS :=
 tSeq (tIfS (tTest (tOp rGeI (tVar 0) (tOp rPowI (tC (.int 10)) (tC (.int 18))))) (tRet (tVar 0)) (tNext))
 (tSeq (tAsg (tOp rModI (tOp rAddI (tOp rAddI (tOp rMulI (tOp rModI (tVar 0) (tC (.int 1000000007))) (tC (.int 69069))) (tOp rMulI (tVar 1) (tC (.int 40503)))) (tC (.int 977))) (tC (.int 2147483629))) (gName 2))
 (tSeq (tAsg (tOp rModI (tOp rAddI (tOp rAddI (tOp rMulI (tVar 2) (tVar 2)) (tOp rMulI (tVar 1) (tC (.int 7919)))) (tOp rModI (tVar 0) (tC (.int 65537)))) (tC (.int 2147483587))) (gName 3))
 (tSeq (tAsg (tOp rModI (tOp rAddI (tOp rAddI (tOp rMulI (tVar 3) (tVar 3)) (tOp rMulI (tVar 2) (tC (.int 31)))) (tC (.int 5))) (tC (.int 2147483563))) (gName 4))
 (tRet (tOp rAddI (tOp rMulI (tOp rAddI (tOp rMulI (tVar 2) (tC (.int 2147483659))) (tVar 3)) (tC (.int 2147483693))) (tVar 4))))))
def N_law_spread:List Str:=["cell","at","one","two","three"]
def ps_law_spread:List Str:=["cell","at"]
def t_law_open (K:PySem.W.Frag) :TS :=
 tSeq (tAsg (tCB (rListA K) (tCons (tSl (rSlL K) (tVar 0) (tNoPart) (tPart (tC (.int 12)))) tNil)) (gName 1))
 (tSeq (tFor (iEnum K (tCons (tSl (rSlL K) (tVar 0) (tPart (tC (.int 12))) (tPart (tC (.int 63)))) tNil)) (gTup K 2 (gCons (gName 2) (gCons (gName 3) (gNil)))) (tAsg (tOp rAddI (tOp (rIxL K) (tVar 1) (tOp rModI (tVar 2) (tC (.int 12)))) (tVar 3)) (gSub (tVar 1) (tOp rModI (tVar 2) (tC (.int 12))) rSetL)))
 (tRet (tLst (tCons (tVar 1) (tCons (tC (.int 0)) (tCons (tC (.int 0)) tNil))))))
def N_law_open:List Str:=["script","cells","k","cell"]
def ps_law_open:List Str:=["script"]
def t_law_anew (K:PySem.W.Frag) :TS :=
 tSeq (tAsg (tC (.int 0)) (gSub (tVar 0) (tC (.int 2)) rSetL))
 (tRet (tVar 0))
def N_law_anew:List Str:=["pen"]
def ps_law_anew:List Str:=["pen"]
def t_law_take (K:PySem.W.Frag) (sp_law_spread:Sp):TS :=
 tSeq (tIfS (tTest (tOp rLtI (tOp (rIxL K) (tVar 0) (tC (.int 2))) (tVar 1))) (tSeq (tAsg (tOp (rIxL K) (tVar 0) (tC (.int 1))) (gName 2))
 (tSeq (tAsg (tC (.int 0)) (gName 3))
 (tSeq (tIfS (tTest (tOp rLtI (tVar 2) (tCB (rLen K) (tCons (tOp (rIxL K) (tVar 0) (tC (.int 0))) tNil)))) (tAsg (tOp (rIxL K) (tOp (rIxL K) (tVar 0) (tC (.int 0))) (tVar 2)) (gName 3)) (tIfS (tTest (tOp rGtI (tCB (rLen K) (tCons (tOp (rIxL K) (tVar 0) (tC (.int 0))) tNil)) (tC (.int 0)))) (tAsg (tOp rModI (tOp (rIxL K) (tOp (rIxL K) (tVar 0) (tC (.int 0))) (tOp rModI (tOp rAddI (tOp rMulI (tVar 2) (tC (.int 5))) (tC (.int 3))) (tCB (rLen K) (tCons (tOp (rIxL K) (tVar 0) (tC (.int 0))) tNil)))) (tOp rAddI (tOp rPowI (tC (.int 10)) (tC (.int 17))) (tVar 2))) (gName 3)) (tNext)))
 (tSeq (tAsg (tOp rAddI (tVar 2) (tC (.int 1))) (gSub (tVar 0) (tC (.int 1)) rSetL))
 (tAsg (tCall sp_law_spread [] E0 (tCons (tVar 3) (tCons (tVar 2) tNil))) (gSub (tVar 0) (tC (.int 2)) rSetL)))))) (tNext))
 (tSeq (tAsg (tOp rModI (tOp (rIxL K) (tVar 0) (tC (.int 2))) (tVar 1)) (gName 4))
 (tSeq (tAsg (tOp rDivI (tOp (rIxL K) (tVar 0) (tC (.int 2))) (tVar 1)) (gSub (tVar 0) (tC (.int 2)) rSetL))
 (tRet (tVar 4))))
def N_law_take:List Str:=["pen","many","at","cell","found"]
def ps_law_take:List Str:=["pen","many"]
def t_law_names (K:PySem.W.Frag) (sp_law_take:Sp):TS :=
 tSeq (tAsg (tC (.str "abcdefghijklmnopqrstuvwxyz")) (gName 2))
 (tSeq (tAsg (tBM K "str" (rJoin K) (tC (.str "")) (tCons (tComp 1 [2,0] (iRng1 (tCons (tC (.int 7)) tNil)) (gName 0) (tYes) (tOp rIxS (tVar 1) (tCall sp_law_take [] E0 (tCons (tVar 2) (tCons (tC (.int 26)) tNil))))) tNil)) (gName 3))
 (tSeq (tAsg (tCall sp_law_take [] E0 (tCons (tVar 0) (tCons (tC (.int 3)) tNil))) (gName 4))
 (tSeq (tAsg (tCall sp_law_take [] E0 (tCons (tVar 0) (tCons (tC (.int 26)) tNil))) (gName 5))
 (tSeq (tAsg (tCall sp_law_take [] E0 (tCons (tVar 0) (tCons (tC (.int 8)) tNil))) (gName 6))
 (tSeq (tAsg (tLst (tNil)) (gName 7))
 (tSeq (tFor (iRng1 (tCons (tVar 1) tNil)) (gName 8) (tSeq (tAsg (tOp rIxS (tVar 2) (tOp rModI (tOp rAddI (tVar 5) (tOp rMulI (tC (.int 3)) (tVar 8))) (tC (.int 26)))) (gName 9))
 (tSeq (tAsg (tSl rSlS (tVar 3) (tNoPart) (tPart (tOp rModI (tOp rAddI (tVar 6) (tOp rMulI (tVar 8) (tOp rModI (tVar 4) (tC (.int 2))))) (tC (.int 8))))) (gName 10))
 (tSeq (tAsg (tOp (rIxL K) (tLst (tCons (tC (.int 0)) (tCons (tCB (rLen K) (tCons (tVar 10) tNil)) (tCons (tOp rDivI (tCB (rLen K) (tCons (tVar 10) tNil)) (tC (.int 2))) tNil)))) (tVar 4)) (gName 11))
 (tDrop (tBM K "list" rAppend (tVar 7) (tCons (tOp rAddS (tOp rAddS (tSl rSlS (tVar 10) (tNoPart) (tPart (tVar 11))) (tVar 9)) (tSl rSlS (tVar 10) (tPart (tVar 11)) (tNoPart))) tNil)))))))
 (tRet (tVar 7))))))))
def N_law_names:List Str:=["pen","many","letters","base","way","turn","size","found","k","sign","part","at"]
def ps_law_names:List Str:=["pen","many"]
def t_law_put (K:PySem.W.Frag) :TS :=
 tIfS (tTest (tOp (rInD K true) (tVar 1) (tVar 0))) (tDrop (tBM K "list" rAppend (tVar 0) (tCons (tVar 1) tNil))) (tNext)
def N_law_put:List Str:=["doors","door"]
def ps_law_put:List Str:=["doors","door"]
def t_law_draw_doors (K:PySem.W.Frag) (sp_law_take:Sp) (sp_law_put:Sp):TS :=
 tSeq (tAsg (tLst (tNil)) (gName 5))
 (tSeq (tAsg (tCall sp_law_take [] E0 (tCons (tVar 0) (tCons (tC (.int 2)) tNil))) (gName 6))
 (tSeq (tFor (iEnum K (tCons (tVar 3) tNil)) (gTup K 2 (gCons (gName 7) (gCons (gName 8) (gNil)))) (tSeq (tFor (iRng1 (tCons (tOp (rIxL K) (tLst (tCons (tC (.int 0)) (tCons (tC (.int 1)) (tCons (tC (.int 1)) (tCons (tC (.int 2)) tNil))))) (tCall sp_law_take [] E0 (tCons (tVar 0) (tCons (tC (.int 4)) tNil)))) tNil)) (gName 9) (tSeq (tAsg (tTup (tCons (tC (.str "say")) (tCons (tOp (rIxL K) (tVar 2) (tCall sp_law_take [] E0 (tCons (tVar 0) (tCons (tCB (rLen K) (tCons (tVar 2) tNil)) tNil)))) tNil))) (gName 10))
 (tDrop (tCall sp_law_put [] E0 (tCons (tVar 5) (tCons (tTup (tCons (tVar 8) (tCons (tVar 10) (tCons (tOp (rIxL K) (tVar 3) (tCall sp_law_take [] E0 (tCons (tVar 0) (tCons (tCB (rLen K) (tCons (tVar 3) tNil)) tNil)))) tNil)))) tNil))))))
 (tSeq (tFor (iList K (tVar 1)) (gName 11) (tFor (iRng1 (tCons (tOp (rIxL K) (tLst (tCons (tVar 4) (tCons (tC (.int 1)) (tCons (tC (.int 1)) (tCons (tC (.int 2)) tNil))))) (tCall sp_law_take [] E0 (tCons (tVar 0) (tCons (tC (.int 4)) tNil)))) tNil)) (gName 9) (tDrop (tCall sp_law_put [] E0 (tCons (tVar 5) (tCons (tTup (tCons (tVar 8) (tCons (tTup (tCons (tC (.str "ask")) (tCons (tVar 11) tNil))) (tCons (tOp (rIxL K) (tVar 3) (tCall sp_law_take [] E0 (tCons (tVar 0) (tCons (tCB (rLen K) (tCons (tVar 3) tNil)) tNil)))) tNil)))) tNil))))))
 (tSeq (tAsg (tOp (rIxL K) (tLst (tCons (tSl (rSlL K) (tVar 3) (tPart (tOp rAddI (tVar 7) (tC (.int 1)))) (tNoPart)) (tCons (tSl (rSlL K) (tVar 3) (tNoPart) (tPart (tVar 7))) tNil))) (tVar 6)) (gName 12))
 (tIfS (tAnd (tTest (tOp (rNeD K) (tVar 12) (tLst (tNil)))) (tTest (tOp rEq (tCall sp_law_take [] E0 (tCons (tVar 0) (tCons (tC (.int 3)) tNil))) (tC (.int 0))))) (tDrop (tCall sp_law_put [] E0 (tCons (tVar 5) (tCons (tTup (tCons (tVar 8) (tCons (tTup (tCons (tC (.str "still")) tNil)) (tCons (tOp (rIx K) (tVar 12) (tCall sp_law_take [] E0 (tCons (tVar 0) (tCons (tCB (rLen K) (tCons (tVar 12) tNil)) tNil)))) tNil)))) tNil)))) (tNext))))))
 (tRet (tVar 5))))
def N_law_draw_doors:List Str:=["pen","asks","says","rooms","full","doors","down","k","room","turn","sign","ask","later"]
def ps_law_draw_doors:List Str:=["pen","asks","says","rooms","full"]
def t_law_model (K:PySem.W.Frag) (sp_law_draw_doors:Sp) (sp_law_names:Sp) (sp_law_take:Sp) (sp_law_anew:Sp):TS :=
 tSeq (tDrop (tCall sp_law_anew [] E0 (tCons (tVar 0) tNil)))
 (tSeq (tAsg (tCall sp_law_names [] E0 (tCons (tVar 0) (tCons (tC (.int 8)) tNil))) (gName 3))
 (tSeq (tAsg (tSl (rSlL K) (tVar 3) (tNoPart) (tPart (tOp rAddI (tC (.int 1)) (tOp (rIxL K) (tLst (tCons (tC (.int 0)) (tCons (tC (.int 1)) (tCons (tC (.int 1)) (tCons (tC (.int 2)) (tCons (tC (.int 2)) (tCons (tC (.int 3)) tNil))))))) (tCall sp_law_take [] E0 (tCons (tVar 0) (tCons (tC (.int 6)) tNil))))))) (gName 4))
 (tSeq (tAsg (tSl (rSlL K) (tVar 3) (tPart (tC (.int 4))) (tPart (tOp rAddI (tC (.int 5)) (tOp (rIxL K) (tLst (tCons (tC (.int 0)) (tCons (tC (.int 1)) (tCons (tC (.int 1)) (tCons (tC (.int 2)) (tCons (tC (.int 2)) (tCons (tC (.int 3)) tNil))))))) (tCall sp_law_take [] E0 (tCons (tVar 0) (tCons (tC (.int 6)) tNil))))))) (gName 5))
 (tSeq (tAsg (tCall sp_law_names [] E0 (tCons (tVar 0) (tCons (tOp rAddI (tC (.int 1)) (tCall sp_law_take [] E0 (tCons (tVar 0) (tCons (tVar 1) tNil)))) tNil))) (gName 6))
 (tSeq (tAsg (tCall sp_law_draw_doors [] E0 (tCons (tVar 0) (tCons (tVar 4) (tCons (tVar 5) (tCons (tVar 6) (tCons (tVar 2) tNil)))))) (gName 7))
 (tRet (tTup (tCons (tVar 4) (tCons (tVar 5) (tCons (tVar 6) (tCons (tVar 7) tNil)))))))))))
def N_law_model:List Str:=["pen","most","full","words","asks","says","rooms","doors"]
def ps_law_model:List Str:=["pen","most","full"]
def t_law_machine (K:PySem.W.Frag) (C_Machine:Addr) (sp_Machine_init:Sp):TS :=
 tRet (tMake C_Machine sp_Machine_init [] E0 (tCons (tCB (rListA K) (tCons (tOp (rIx K) (tVar 0) (tC (.int 0))) tNil)) (tCons (tCB (rListA K) (tCons (tOp (rIx K) (tVar 0) (tC (.int 1))) tNil)) (tCons (tCB (rListA K) (tCons (tOp (rIx K) (tVar 0) (tC (.int 2))) tNil)) (tCons (tCB (rListA K) (tCons (tOp (rIx K) (tVar 0) (tC (.int 3))) tNil)) tNil)))))
def N_law_machine:List Str:=["told"]
def ps_law_machine:List Str:=["told"]
def t_is_name (K:PySem.W.Frag) :TS :=
 tRet (tAndV (tOp rNe (tVar 0) (tC (.str ""))) (tAndV (tOp rLeI (tCB (rLen K) (tCons (tVar 0) tNil)) (tC (.int 8))) (tCB (rAll K) (tCons (tComp 1 [] (iStr (tVar 0)) (gName 0) (tYes) (tOp rInS (tVar 0) (tC (.str "abcdefghijklmnopqrstuvwxyz")))) tNil))))
def N_is_name:List Str:=["text"]
def ps_is_name:List Str:=["text"]
def t_as_keys (K:PySem.W.Frag) :TS :=
 tSeq (tAsg (tDNewK) (gName 1))
 (tSeq (tFor (iList K (tVar 0)) (gName 2) (sDPut (tVar 1) (tVar 2) (tC (.bl true))))
 (tRet (tVar 1)))
def N_as_keys:List Str:=["things","keys","thing"]
def ps_as_keys:List Str:=["things"]
def t_first_wrong_name (K:PySem.W.Frag) (sp_is_name:Sp) (sp_as_keys:Sp):TS :=
 tSeq (tIfS (tTest (tOp rEq (tCB (rLen K) (tCons (tVar 0) tNil)) (tC (.int 0)))) (tRet (tC (.int 0))) (tNext))
 (tSeq (tAsg (tCall sp_as_keys [] E0 (tCons (tVar 2) tNil)) (gName 3))
 (tSeq (tFor (iEnum K (tCons (tVar 0) tNil)) (gTup K 2 (gCons (gName 4) (gCons (gName 5) (gNil)))) (tSeq (tIfS (tOr (tTest (tOp rEq (tVar 4) (tVar 1))) (tOr (tB (tDIn K (tVar 5) (tVar 3))) (tNot (tB (tCall sp_is_name [] E0 (tCons (tVar 5) tNil)))))) (tRet (tVar 4)) (tNext))
 (sDPut (tVar 3) (tVar 5) (tC (.bl true)))))
 (tRet (tC .non))))
def N_first_wrong_name:List Str:=["names","most","taken","ahead","number","name"]
def ps_first_wrong_name:List Str:=["names","most","taken"]
def t_door_signs (K:PySem.W.Frag) (a_STILL:Addr):TS :=
 tRet (tOp rCat (tOp rCat (tComp 1 [] (iList K (tVar 0)) (gName 0) (tYes) (tTup (tCons (tC (.str "ask")) (tCons (tVar 0) tNil)))) (tComp 1 [] (iList K (tVar 1)) (gName 0) (tYes) (tTup (tCons (tC (.str "say")) (tCons (tVar 0) tNil))))) (tLst (tCons (tC (.ref a_STILL)) tNil)))
def N_door_signs:List Str:=["asks","says"]
def ps_door_signs:List Str:=["asks","says"]
def t_first_wrong_door (K:PySem.W.Frag) (sp_as_keys:Sp):TS :=
 tSeq (tAsg (tCall sp_as_keys [] E0 (tCons (tVar 1) tNil)) (gName 3))
 (tSeq (tAsg (tDNewT) (gName 4))
 (tSeq (tFor (iEnum K (tCons (tVar 0) tNil)) (gTup K 2 (gCons (gName 5) (gCons (gName 6) (gNil)))) (tSeq (tIfS (tOr (tTest (tOp rEq (tVar 5) (tC (.int 2000)))) (tB (tDIn K (tVar 6) (tVar 4)))) (tRet (tVar 5)) (tNext))
 (tSeq (tIfS (tOr (tB (tDNotIn K (tOp (rIx K) (tVar 6) (tC (.int 0))) (tVar 3))) (tOr (tTest (tOp (rInD K true) (tOp (rIx K) (tVar 6) (tC (.int 1))) (tVar 2))) (tB (tDNotIn K (tOp (rIx K) (tVar 6) (tC (.int 2))) (tVar 3))))) (tRet (tVar 5)) (tNext))
 (sDPut (tVar 4) (tVar 6) (tC (.bl true))))))
 (tRet (tC .non))))
def N_first_wrong_door:List Str:=["doors","rooms","signs","own_rooms","ahead","number","door"]
def ps_first_wrong_door:List Str:=["doors","rooms","signs"]
def t_goals_by_start_and_sign (K:PySem.W.Frag) :TS :=
 tSeq (tAsg (tDNewT) (gName 1))
 (tSeq (tFor (iList K (tVar 0)) (gTup K 3 (gCons (gName 2) (gCons (gName 3) (gCons (gName 4) (gNil))))) (tDrop (tBM K "list" rAppend (tBM K "dict" rSetDef (tVar 1) (tCons (tTup (tCons (tVar 2) (tCons (tVar 3) tNil))) (tCons (tLst (tNil)) tNil))) (tCons (tVar 4) tNil))))
 (tRet (tVar 1)))
def N_goals_by_start_and_sign:List Str:=["doors","goals","start","sign","goal"]
def ps_goals_by_start_and_sign:List Str:=["doors"]
def t_led_by_still (K:PySem.W.Frag) (a_STILL:Addr):TS :=
 tSeq (tAsg (tDNewK) (gName 2))
 (tSeq (tAsg (tLst (tCons (tVar 1) tNil)) (gName 3))
 (tSeq (tWhile (tTest (tOp rGtI (tCB (rLen K) (tCons (tVar 3) tNil)) (tC (.int 0)))) (tSeq (tAsg (tBM0 K "list" rPop (tVar 3)) (gName 4))
 (tFor (iSeq K (tDGet2 K (tVar 0) (tTup (tCons (tVar 4) (tCons (tC (.ref a_STILL)) tNil))) (tTup (tNil)))) (gName 5) (tIfS (tB (tDNotIn K (tVar 5) (tVar 2))) (tSeq (sDPut (tVar 2) (tVar 5) (tC (.bl true)))
 (tDrop (tBM K "list" rAppend (tVar 3) (tCons (tVar 5) tNil)))) (tNext)))))
 (tRet (tVar 2))))
def N_led_by_still:List Str:=["goals","room","led","waiting","here","goal"]
def ps_led_by_still:List Str:=["goals","room"]
def t_first_led_round (K:PySem.W.Frag) :TS :=
 tSeq (tFor (iEnum K (tCons (tVar 0) tNil)) (gTup K 2 (gCons (gName 2) (gCons (gName 3) (gNil)))) (tIfS (tB (tDIn K (tVar 3) (tDGet K (tVar 1) (tVar 3)))) (tRet (tVar 2)) (tNext)))
 (tRet (tC .non))
def N_first_led_round:List Str:=["rooms","led","number","room"]
def ps_first_led_round:List Str:=["rooms","led"]
def t_need_none (K:PySem.W.Frag) :TS :=
 tIfS (tB (tNotN (tVar 1))) (tNever) (tNext)
def N_need_none:List Str:=["part","number"]
def ps_need_none:List Str:=["part","number"]
def t_need_parts (K:PySem.W.Frag) (sp_need_none:Sp) (sp_first_wrong_door:Sp) (sp_door_signs:Sp) (sp_first_wrong_name:Sp):TS :=
 tSeq (tDrop (tCall sp_need_none [] E0 (tCons (tC (.str "asks")) (tCons (tCall sp_first_wrong_name [] E0 (tCons (tVar 0) (tCons (tC (.int 4)) (tCons (tLst (tNil)) tNil)))) tNil))))
 (tSeq (tDrop (tCall sp_need_none [] E0 (tCons (tC (.str "says")) (tCons (tCall sp_first_wrong_name [] E0 (tCons (tVar 1) (tCons (tC (.int 4)) (tCons (tVar 0) tNil)))) tNil))))
 (tSeq (tDrop (tCall sp_need_none [] E0 (tCons (tC (.str "rooms")) (tCons (tCall sp_first_wrong_name [] E0 (tCons (tVar 2) (tCons (tC (.int 150)) (tCons (tLst (tNil)) tNil)))) tNil))))
 (tDrop (tCall sp_need_none [] E0 (tCons (tC (.str "doors")) (tCons (tCall sp_first_wrong_door [] E0 (tCons (tVar 3) (tCons (tVar 2) (tCons (tCall sp_door_signs [] E0 (tCons (tVar 0) (tCons (tVar 1) tNil))) tNil)))) tNil))))))
def N_need_parts:List Str:=["asks","says","rooms","doors"]
def ps_need_parts:List Str:=["asks","says","rooms","doors"]
def t_doors_by_start (K:PySem.W.Frag) :TS :=
 tSeq (tAsg (tDNewK) (gName 2))
 (tSeq (tFor (iList K (tVar 0)) (gName 3) (sDPut (tVar 2) (tVar 3) (tLst (tNil))))
 (tSeq (tFor (iList K (tVar 1)) (gName 4) (tDrop (tBM K "list" rAppend (tDGet K (tVar 2) (tOp (rIx K) (tVar 4) (tC (.int 0)))) (tCons (tVar 4) tNil))))
 (tRet (tVar 2))))
def N_doors_by_start:List Str:=["rooms","doors","leaving","room","door"]
def ps_doors_by_start:List Str:=["rooms","doors"]
def t_has_asks_alone (K:PySem.W.Frag) :TS :=
 tRet (tCB (rAll K) (tCons (tComp 1 [] (iList K (tVar 0)) (gName 0) (tYes) (tOp rEq (tOp (rIx K) (tOp (rIx K) (tVar 0) (tC (.int 1))) (tC (.int 0))) (tC (.str "ask")))) tNil))
def N_has_asks_alone:List Str:=["doors"]
def ps_has_asks_alone:List Str:=["doors"]
def t_Machine___init__ (K:PySem.W.Frag) (sp_need_none:Sp) (sp_first_led_round:Sp) (sp_led_by_still:Sp) (sp_goals_by_start_and_sign:Sp) (sp_as_keys:Sp) (sp_has_asks_alone:Sp) (sp_doors_by_start:Sp) (sp_need_parts:Sp):TS :=
 tSeq (tDrop (tCall sp_need_parts [] E0 (tCons (tVar 1) (tCons (tVar 2) (tCons (tVar 3) (tCons (tVar 4) tNil))))))
 (tSeq (sFld K (tVar 0) (tCB (rListA K) (tCons (tVar 1) tNil)) "own_asks")
 (tSeq (sFld K (tVar 0) (tCB (rListA K) (tCons (tVar 2) tNil)) "own_says")
 (tSeq (sFld K (tVar 0) (tCB (rListA K) (tCons (tVar 3) tNil)) "own_rooms")
 (tSeq (sFld K (tVar 0) (tCB (rListA K) (tCons (tVar 4) tNil)) "own_doors")
 (tSeq (sFld K (tVar 0) (tCall sp_doors_by_start [] E0 (tCons (tVar 3) (tCons (tVar 4) tNil))) "leaving")
 (tSeq (sFld K (tVar 0) (tCall sp_as_keys [] E0 (tCons (tComp 1 [0] (iList K (tVar 3)) (gName 0) (tB (tCall sp_has_asks_alone [] E0 (tCons (tDGet K (tFld K (tVar 1) "leaving") (tVar 0)) tNil))) (tVar 0)) tNil)) "quiet")
 (tSeq (sFld K (tVar 0) (tCall sp_goals_by_start_and_sign [] E0 (tCons (tVar 4) tNil)) "sign_goals")
 (tSeq (sFld K (tVar 0) (tCB (rDictOf K) (tCons (tComp 1 [0] (iList K (tVar 3)) (gName 0) (tYes) (tTup (tCons (tVar 0) (tCons (tCall sp_led_by_still [] E0 (tCons (tFld K (tVar 1) "sign_goals") (tCons (tVar 0) tNil))) tNil)))) tNil)) "still_led")
 (tDrop (tCall sp_need_none [] E0 (tCons (tC (.str "still")) (tCons (tCall sp_first_led_round [] E0 (tCons (tVar 3) (tCons (tFld K (tVar 0) "still_led") tNil))) tNil))))))))))))
def N_Machine___init__:List Str:=["self","asks","says","rooms","doors"]
def ps_Machine___init__:List Str:=["self","asks","says","rooms","doors"]
def t_Machine_is_quiet (K:PySem.W.Frag) :TS :=
 tRet (tDIn K (tVar 1) (tFld K (tVar 0) "quiet"))
def N_Machine_is_quiet:List Str:=["self","room"]
def ps_Machine_is_quiet:List Str:=["self","room"]
section
variable {P:Program} {w:World} {K:PySem.W.Frag} {mg:Str->Option Value} {base:Heap}
end
def ExB (p:Addr) (H H':Hp):Prop:=∀ b o,H b = some o->b ≠ p->H' b = some o
theorem ExB.refl (p:Addr) (H:Hp):ExB p H H:=fun _ _ h _=>h
theorem ExB.trans {p:Addr} {H H1 H2:Hp} (a:ExB p H H1) (b:ExB p H1 H2):ExB p H H2:=fun c o h n=>b c o (a c o h n) n
theorem Same.exB {p:Addr} {H H':Hp} (a:Same H H'):ExB p H H':=fun b o h _=>a b o h
theorem ExB.upd (p:Addr) (H:Hp) (o:HO):ExB p H (upd H p o):=fun b u h n=>by rw [upd_ne n]; exact h
theorem Same.new {H:Hp} {a:Addr} {o:HO} (h:H a = none):Same H (upd H a o):=fun b u e=>by rw [upd_ne (ne_of_none e h)]; exact e
theorem ExB.free {p:Addr} {H H':Hp} (e:ExB p H H') {u:HO} (hp:H' p = some u) {l:Addr} (h:H' l = none):H l = none:=by
 cases q:H l with
 | none=>rfl
 | some o =>
  by_cases z:l = p
  ·subst z; rw [hp] at h; cases h
  ·rw [e l o q z] at h; cases h
theorem kp {H:Hp} {a b:Addr} {o x:HO} (h:H b = some o) (n:H a = none):upd H a x b = some o:=by rw [upd_ne (ne_of_none h n)]; exact h
structure PenAt (H:Hp) (p c:Addr) (at_ rest:Int) (ns:List Int):Prop where
 pen:H p = some (.lst [.ref c,.int at_,.int rest])
 cells:H c = some (.lst (ns.map V.int))
 at0:0 <= at_
 rest0:0 <= rest
theorem PenAt.ne {H:Hp} {p c:Addr} {a r:Int} {ns:List Int} (h:PenAt H p c a r ns):c ≠ p:=by
 intro e
 have h1:=h.pen
 have h2:=h.cells
 rw [e,h1] at h2
 injection h2 with h2
 injection h2 with h2
 cases ns with
 | nil=>cases h2
 | cons n ns=>injection h2 with h2; cases h2
def Pen (H:Hp) (p c:Addr):Prop:=∃ a r ns,PenAt H p c a r ns
theorem Pen.ex {H H':Hp} {p c:Addr} (h:Pen H p c) (e:Same H H'):Pen H' p c:=by
 obtain ⟨a,r,ns,h1,h2,h3,h4⟩:=h
 exact ⟨a,r,ns,e _ _ h1,e _ _ h2,h3,h4⟩
theorem Pen.pen {H:Hp} {p c:Addr} (h:Pen H p c):∃ o,H p = some o:=by
 obtain ⟨a,r,ns,h1,_⟩:=h
 exact ⟨_,h1⟩
theorem Pen.cell {H:Hp} {p c:Addr} (h:Pen H p c):∃ o,H c = some o:=by
 obtain ⟨a,r,ns,_,h1,_⟩:=h
 exact ⟨_,h1⟩
theorem Pen.upd {H:Hp} {p c l:Addr} {o:HO} (h:Pen H p c) (h1:p ≠ l) (h2:c ≠ l):Pen (upd H l o) p c:=by
 obtain ⟨a,r,ns,g1,g2,g3,g4⟩:=h
 exact ⟨a,r,ns,by rw [upd_ne h1]; exact g1,by rw [upd_ne h2]; exact g2,g3,g4⟩
theorem Pen.nep {H:Hp} {p c l:Addr} (h:Pen H p c) (hl:H l = none):p ≠ l:=let ⟨_,e⟩:=h.pen; ne_of_none e hl
theorem Pen.nec {H:Hp} {p c l:Addr} (h:Pen H p c) (hl:H l = none):c ≠ l:=let ⟨_,e⟩:=h.cell; ne_of_none e hl
theorem ExB.new {p:Addr} {H:Hp} {a:Addr} {o:HO} (h:H a = none):ExB p H (L2.upd H a o):=fun b u e _=>by rw [upd_ne (ne_of_none e h)]; exact e
def sp_spread:Sp:=fun vs H Q _=>∃ c a:Int,vs = [.int c,.int a]/\0 <= a/\∀ r:Int,0 <= r->Q (.int r) H
theorem cmulR {i j:Int} (h1:-(2 ^ 64) < j) (h2:j < 2 ^ 64):CMul i j:=.inr ⟨h1,h2⟩
theorem rd_spread {K:PySem.W.Frag} {vs:List V} {H:Hp} {Q:VK} {E:XK} (h:sp_spread vs H Q E):t_law_spread K { nx:=fun _ H'=>Q .non H',rt:=Q } (start N_law_spread vs) H:=by
 obtain ⟨c,a,rfl,ha,k⟩:=h
 refine ⟨_,rfl,_,_,rfl,rfl,⟨by decide,by decide,by decide⟩,_,_,rfl,rfl,_,rfl,?_⟩
 refine ite2 (fun h=>?_) (fun _=>?_)
 ·refine ⟨_,rfl,k _ ?_⟩
  have:=of_decide_eq_true h
  have e:((10:Int) ^ (18:Int).toNat) = 1000000000000000000:=by decide
  omega
 ·have one:∀ z:Int,0 <= z % 2147483629/\z % 2147483629 < 2147483629:=fun z=>⟨Int.emod_nonneg _ (by decide),Int.emod_lt_of_pos _ (by decide)⟩
  have two:∀ z:Int,0 <= z % 2147483587/\z % 2147483587 < 2147483587:=fun z=>⟨Int.emod_nonneg _ (by decide),Int.emod_lt_of_pos _ (by decide)⟩
  have three:∀ z:Int,0 <= z % 2147483563/\z % 2147483563 < 2147483563:=fun z=>⟨Int.emod_nonneg _ (by decide),Int.emod_lt_of_pos _ (by decide)⟩
  refine ⟨_,rfl,_,_,rfl,rfl,(by show (0:Int) < 1000000007; decide),_,_,rfl,rfl,cmulR (by decide) (by decide),_,rfl,_,_,rfl,rfl,cmulR (by decide) (by decide),_,_,rfl,rfl,_,_,rfl,rfl,_,_,rfl,rfl,(by show (0:Int) < 2147483629; decide),?_⟩
  generalize hz1:(c % 1000000007 * 69069 + a * 40503 + 977) = z1
  obtain ⟨o1,o2⟩:=one z1
  generalize z1 % 2147483629 = o at o1 o2 ⊢
  refine ⟨_,rfl,_,rfl,_,_,rfl,rfl,cmulR (by omega) (by omega),_,rfl,_,_,rfl,rfl,cmulR (by decide) (by decide),_,_,rfl,rfl,_,rfl,_,_,rfl,rfl,(by show (0:Int) < 65537; decide),_,_,rfl,rfl,_,_,rfl,rfl,(by show (0:Int) < 2147483587; decide),?_⟩
  generalize hz2:(o * o + a * 7919 + c % 65537) = z2
  obtain ⟨p1,p2⟩:=two z2
  generalize z2 % 2147483587 = q at p1 p2 ⊢
  refine ⟨_,rfl,_,rfl,_,_,rfl,rfl,cmulR (by omega) (by omega),_,rfl,_,_,rfl,rfl,cmulR (by decide) (by decide),_,_,rfl,rfl,_,_,rfl,rfl,_,_,rfl,rfl,(by show (0:Int) < 2147483563; decide),?_⟩
  generalize hz3:(q * q + o * 31 + 5) = z3
  obtain ⟨r1,r2⟩:=three z3
  generalize z3 % 2147483563 = r at r1 r2 ⊢
  refine ⟨_,rfl,_,_,rfl,rfl,cmulR (by decide) (by decide),_,rfl,_,_,rfl,rfl,_,_,rfl,rfl,cmulR (by decide) (by decide),_,rfl,_,_,rfl,rfl,k _ ?_⟩
  omega
def sp_anew:Sp:=fun vs H Q _=>∃ p c,vs = [.ref p]/\Pen H p c/\∀ H',Pen H' p c->ExB p H H'->Q (.ref p) H'
theorem rd_anew {K:PySem.W.Frag} {vs:List V} {H:Hp} {Q:VK} {E:XK} (h:sp_anew vs H Q E):t_law_anew K { nx:=fun _ H'=>Q .non H',rt:=Q } (start N_law_anew vs) H:=by
 obtain ⟨p,c,rfl,⟨a,r,ns,h⟩,k⟩:=h
 refine ⟨_,rfl,p,_,_,_,rfl,rfl,h.pen,rfl,_,rfl,k _ ⟨a,0,ns,upd_same,?_,h.at0,Int.le_refl 0⟩ (ExB.upd _ _ _)⟩
 rw [upd_ne h.ne]; exact h.cells
theorem atI_int {ns:List Int} {a:Int} (h0:0 <= a) (h1:a < ns.length):∃ z,atI (ns.map V.int) a = some (.int z):=by
 obtain ⟨n,rfl⟩:=Int.eq_ofNat_of_zero_le h0
 have hn:n < ns.length:=by omega
 exact ⟨ns[n],atI_nat (by simp [hn])⟩
@[irreducible] def sp_take:Sp:=fun vs H Q _=>∃ (p c:Addr) (m:Int),vs = [.ref p,.int m]/\Pen H p c/\0 < m/\m < 1073741824/\∀ (r:Int) (H':Hp),0 <= r->r < m->Pen H' p c->ExB p H H'->Q (.int r) H'
theorem take_i {H:Hp} {Q:VK} {E:XK} {p c:Addr} {m:Int} (hp:Pen H p c) (m0:0 < m) (m1:m < 1073741824) (k:∀ (r:Int) (H':Hp),0 <= r->r < m->Pen H' p c->ExB p H H'->Q (.int r) H'):sp_take [.ref p,.int m] H Q E:=by
 unfold sp_take
 exact ⟨p,c,m,rfl,hp,m0,m1,k⟩
theorem rd_take {K:PySem.W.Frag} {vs:List V} {H:Hp} {Q:VK} {E:XK} (h:sp_take vs H Q E):t_law_take K sp_spread { nx:=fun _ H'=>Q .non H',rt:=Q } (start N_law_take vs) H:=by
 unfold sp_take at h
 obtain ⟨p,c,m,rfl,⟨a,r,ns,h⟩,hm,hm2,k⟩:=h
 have fin:∀ (H':Hp) (a' r':Int) (x y:Option V),PenAt H' p c a' r' ns->ExB p H H' ->
   (tSeq (tAsg (tOp rModI (tOp (rIxL K) (tVar 0) (tC (.int 2))) (tVar 1)) (gName 4)) (tSeq (tAsg (tOp rDivI (tOp (rIxL K) (tVar 0) (tC (.int 2))) (tVar 1)) (gSub (tVar 0) (tC (.int 2)) rSetL)) (tRet (tVar 4))))
    { nx:=fun _ H'=>Q .non H',rt:=Q } [some (.ref p),some (.int m),x,y,none] H':=by
  intro H' a' r' x y h' ex
  refine ⟨_,rfl,p,_,2,_,rfl,rfl,SqL.of h'.pen,rfl,_,rfl,_,_,rfl,rfl,hm,?_⟩
  refine ⟨_,rfl,p,_,2,_,rfl,rfl,SqL.of h'.pen,rfl,_,rfl,_,_,rfl,rfl,⟨hm,hm2⟩,_,rfl,p,_,_,_,rfl,rfl,h'.pen,rfl,?_⟩
  refine ⟨_,rfl,k _ _ (Int.emod_nonneg _ (by omega)) (Int.emod_lt_of_pos _ hm) ⟨a',_,ns,upd_same,?_,h'.at0,Int.ediv_nonneg h'.rest0 (by omega)⟩ (ex.trans (ExB.upd _ _ _))⟩
  rw [upd_ne h'.ne]; exact h'.cells
 refine ⟨_,rfl,p,_,2,_,rfl,rfl,SqL.of h.pen,rfl,_,rfl,_,_,rfl,rfl,_,rfl,?_⟩
 refine ite2 (fun h1=>?_) (fun h1=>?_)
 ·-- at = pen[1]; cell = 0; if at < len(pen[0])
  refine ⟨_,rfl,p,_,1,_,rfl,rfl,SqL.of h.pen,rfl,?_⟩
  have la:(V.int ((ns.map V.int).length:Nat)) = V.int (ns.length:Nat):=by rw [List.length_map]
  refine ⟨_,rfl,_,rfl,p,_,0,_,rfl,rfl,SqL.of h.pen,rfl,.inl ⟨c,_,rfl,.inl (SqL.of h.cells),_,_,rfl,la,_,rfl,?_⟩⟩
  refine ite2 (fun h2=>?_) (fun h2=>?_)
  ·obtain ⟨z,hz⟩:=atI_int (ns:=ns) h.at0 (of_decide_eq_true h2)
   refine ⟨_,rfl,p,_,0,_,rfl,rfl,SqL.of h.pen,rfl,_,rfl,c,_,_,_,rfl,rfl,SqL.of h.cells,hz,?_⟩
   refine ⟨_,rfl,_,_,rfl,rfl,_,rfl,p,_,_,_,rfl,rfl,h.pen,rfl,?_⟩
   refine ⟨_,rfl,_,rfl,_,_,rfl,h.at0,fun q hq=>⟨_,rfl,p,_,_,_,rfl,rfl,upd_same,rfl,?_⟩⟩
   rw [upd_upd]
   refine fin _ (a + 1) q _ _ ⟨upd_same,by rw [upd_ne h.ne]; exact h.cells,by have:=h.at0; omega,hq⟩ (ExB.upd _ _ _)
  ·refine ⟨_,rfl,p,_,0,_,rfl,rfl,SqL.of h.pen,rfl,.inl ⟨c,_,rfl,.inl (SqL.of h.cells),_,_,la,rfl,_,rfl,?_⟩⟩
   refine ite2 (fun h3=>?_) (fun h3=>?_)
   ·have hl:(0:Int) < ns.length:=of_decide_eq_true h3
    obtain ⟨z,hz⟩:=atI_int (ns:=ns) (a:=(a * 5 + 3) % (ns.length:Int)) (Int.emod_nonneg _ (by omega)) (Int.emod_lt_of_pos _ hl)
    refine ⟨_,rfl,p,_,0,_,rfl,rfl,SqL.of h.pen,rfl,_,rfl,_,_,rfl,rfl,cmulR (by decide) (by decide),_,_,rfl,rfl,_,rfl,p,_,0,_,rfl,rfl,SqL.of h.pen,rfl,.inl ⟨c,_,rfl,.inl (SqL.of h.cells),_,_,rfl,la,hl,c,_,_,_,rfl,rfl,SqL.of h.cells,hz,?_⟩⟩
    refine ⟨_,_,rfl,rfl,⟨by decide,by decide,by decide⟩,_,rfl,_,_,rfl,rfl,_,_,rfl,rfl,?_,?_⟩
    ·have e:((10:Int) ^ (17:Int).toNat) = 100000000000000000:=by decide
     have:=h.at0
     show (0:Int) < 10 ^ (17:Int).toNat + a
     omega
    refine ⟨_,rfl,_,_,rfl,rfl,_,rfl,p,_,_,_,rfl,rfl,h.pen,rfl,?_⟩
    refine ⟨_,rfl,_,rfl,_,_,rfl,h.at0,fun q hq=>⟨_,rfl,p,_,_,_,rfl,rfl,upd_same,rfl,?_⟩⟩
    rw [upd_upd]
    refine fin _ (a + 1) q _ _ ⟨upd_same,by rw [upd_ne h.ne]; exact h.cells,by have:=h.at0; omega,hq⟩ (ExB.upd _ _ _)
   ·refine ⟨_,rfl,_,_,rfl,rfl,_,rfl,p,_,_,_,rfl,rfl,h.pen,rfl,?_⟩
    refine ⟨_,rfl,_,rfl,_,_,rfl,h.at0,fun q hq=>⟨_,rfl,p,_,_,_,rfl,rfl,upd_same,rfl,?_⟩⟩
    rw [upd_upd]
    refine fin _ (a + 1) q _ _ ⟨upd_same,by rw [upd_ne h.ne]; exact h.cells,by have:=h.at0; omega,hq⟩ (ExB.upd _ _ _)
 ·exact fin H a r _ _ h (ExB.refl _ _)
def sp_open (K:PySem.W.Frag):Sp:=fun vs H Q _=>∃ (a:Addr) (ns:List Int),vs = [.ref a]/\SqL K H a (ns.map V.int)/\ns.length <= 63/\∀ (p c:Addr) (H':Hp),H p = none->Pen H' p c->Same H H'->Q (.ref p) H'
theorem cutV_ints (ns:List Int) (lo hi:Option Int):∃ ms:List Int,cutV (ns.map V.int) lo hi = ms.map V.int/\ms.length = (cutV (ns.map V.int) lo hi).length:=by
 refine ⟨(ns.drop (HT.sIx (ns.map V.int).length 0 lo)).take (HT.sIx (ns.map V.int).length (ns.map V.int).length hi - HT.sIx (ns.map V.int).length 0 lo),?_,?_⟩
 ·unfold cutV; rw [List.map_take,List.map_drop]
 ·unfold cutV; rw [List.length_take,List.length_take,List.length_drop,List.length_drop,List.length_map]
theorem rd_open {K:PySem.W.Frag} {vs:List V} {H:Hp} {Q:VK} {E:XK} (h:sp_open K vs H Q E):t_law_open K { nx:=fun _ H'=>Q .non H',rt:=Q } (start N_law_open vs) H:=by
 obtain ⟨a,ns,rfl,hs,hn,k⟩:=h
 obtain ⟨c0,e0,l0⟩:=cutV_ints ns none (some 12)
 obtain ⟨c1,e1,l1⟩:=cutV_ints ns (some 12) (some 63)
 have hlen:c1 ≠ []->c0.length = 12:=by
  intro hne
  have hc1:0 < c1.length:=by cases c1 with | nil=>exact absurd rfl hne | cons _ _=>simp
  rw [l1] at hc1
  rw [l0]
  unfold cutV at hc1 ⊢
  rw [List.length_take,List.length_drop,List.length_map] at hc1
  rw [List.length_take,List.length_drop,List.length_map]
  have s1:HT.sIx ns.length 0 (some 12) = min 12 ns.length:=HT.sIx_nat _ _ 12
  have s2:HT.sIx ns.length ns.length (some 12) = min 12 ns.length:=HT.sIx_nat _ _ 12
  rw [HT.sIx_none,s2]
  rw [s1] at hc1
  omega
 refine ⟨_,rfl,_,rfl,a,_,rfl,hs,fun q hq=>.inl ⟨q,_,rfl,.inl (SqL.of upd_same),fun c hc=>?_⟩⟩
 rw [e0] at hc ⊢
 have hcH:H c = none:=by
  have:c ≠ q:=fun z=>by subst z; rw [upd_same] at hc; cases hc
  rw [upd_ne this] at hc; exact hc
 have hS:Same H (upd (upd H q (.lst (c0.map V.int))) c (.lst (c0.map V.int))):=(Same.new hq).trans (Same.new hc)
 refine ⟨_,rfl,_,rfl,_,rfl,a,_,rfl,hS.seq hs,fun r hr=>⟨r,rfl,⟨_,SqL.of upd_same⟩,?_⟩⟩
 rw [e1]
 have hcr:c ≠ r:=ne_of_none upd_same hr
 refine for_enum (xs:=c1.map V.int) (fun i σ H'=>∃ (ms:List Int) (x y:Option V),σ = [some (.ref a),some (.ref c),x,y]/\H' c = some (.lst (ms.map V.int))/\ms.length = c0.length/\H' r = some (.lst (c1.map V.int))/\Same H H')
  ⟨c0,none,none,rfl,kp upd_same hr,rfl,upd_same,hS.trans (Same.new hr)⟩ (fun i σ H' _ ⟨ms,x,y,_,_,_,h,_⟩=>SqL.of h) ?_ ?_
 ·rintro i x σ H' t hi ⟨ms,u,v,rfl,hcell,hml,hr',hS'⟩ ht
  have hi':i < c1.length:=by
   have:=(List.getElem?_eq_some_iff.mp hi).1
   rwa [List.length_map] at this
  have h12:=hlen (fun z=>by rw [z] at hi'; simp at hi')
  obtain ⟨z,rfl⟩:∃ z,x = V.int z:=by
   rw [List.getElem?_map,List.getElem?_eq_getElem hi'] at hi
   exact ⟨_,(Option.some.inj hi).symm⟩
  have hcell1:upd H' t (.tup [.int i,.int z]) c = some (.lst (ms.map V.int)):=kp hcell ht
  have hidx:(i:Int) % 12 = ((i % 12:Nat):Int):=by omega
  have hlt:i % 12 < ms.length:=by omega
  refine ⟨t,_,rfl,SqT.of upd_same,rfl,_,_,rfl,_,_,rfl,rfl,?_⟩
  have hat:atI (ms.map V.int) ((i:Int) % 12) = some (.int ms[i % 12]):=by rw [hidx]; exact atI_nat (by simp [hlt])
  refine ⟨_,rfl,_,rfl,_,_,rfl,rfl,(by show (0:Int) < 12; decide),c,_,_,_,rfl,rfl,SqL.of hcell1,hat,_,rfl,_,_,rfl,rfl,_,rfl,_,rfl,_,_,rfl,rfl,(by show (0:Int) < 12; decide),c,_,_,i % 12,rfl,rfl,hcell1,?_,?_⟩
  ·rw [hidx]
   unfold ixN
   rw [if_pos (by omega),if_pos (by rw [List.length_map]; omega)]
   rw [Int.toNat_natCast]
  ·refine ⟨ms.set (i % 12) (ms[i % 12] + z),_,_,rfl,?_,by rw [List.length_set]; exact hml,?_,?_⟩
   ·rw [upd_same,List.map_set]
   ·rw [upd_ne hcr.symm]; exact kp hr' ht
   ·intro b o e
    rw [upd_ne (ne_of_none e hcH)]
    exact kp (hS' b o e) ht
 ·rintro σ H' ⟨ms,x,y,rfl,hcell,hml,hr',hS'⟩
  refine ⟨_,rfl,(by show 3 <= sizeLine; decide),fun p hp=>k p c _ (hS'.free hp) ⟨0,0,ms,upd_same,kp hcell hp,Int.le_refl _,Int.le_refl _⟩ (hS'.trans (Same.new hp))⟩
def letter (c:Nat):Prop:=97 <= c/\c <= 122
structure IsName (w:Str):Prop where
 lo:1 <= w.length
 hi:w.length <= 8
 al:∀ c ∈ w.cps.toList,letter c
theorem abc_get:∀ n:Nat,n < 26->(("abcdefghijklmnopqrstuvwxyz":Str).cps.toList)[n]? = some (97 + n):=by decide +kernel
theorem abc_len:("abcdefghijklmnopqrstuvwxyz":Str).length <= sizeLine:=by decide +kernel
theorem abc_at {r:Int} (h0:0 <= r) (h1:r < 26):atI (("abcdefghijklmnopqrstuvwxyz":Str).cps.toList) r = some (97 + r.toNat):=by
 obtain ⟨n,rfl⟩:=Int.eq_ofNat_of_zero_le h0
 rw [Int.toNat_natCast]
 exact atI_nat (abc_get n (by omega))
theorem join_signs_go (cs:List Nat):∀ acc:Array Nat,((cs.map fun c=>(⟨#[c]⟩:Str)).foldl (fun acc p=>acc ++ ("":Str).cps ++ p.cps) acc).toList = acc.toList ++ cs:=by
 have e:("":Str).cps = #[]:=by decide +kernel
 induction cs with
 | nil=>intro acc; simp
 | cons c cs ih =>
  intro acc
  rw [List.map_cons,List.foldl_cons,ih,e]
  simp
theorem join_signs (cs:List Nat):(Txt.join "" (cs.map fun c=>(⟨#[c]⟩:Str))).cps.toList = cs:=by
 unfold Txt.join Builtin.Str.glued
 cases cs with
 | nil=>rfl
 | cons c cs =>
  rw [List.map_cons]
  show ((cs.map fun c=>(⟨#[c]⟩:Str)).foldl (fun acc p=>acc ++ ("":Str).cps ++ p.cps) #[c]).toList = _
  rw [join_signs_go]
  rfl
theorem str_ext {a b:Str} (h:a.cps.toList = b.cps.toList):a = b:=by
 cases a with | mk x=>cases b with | mk y=>exact congrArg Str.mk (Array.toList_inj.mp h)
theorem str_len (a:Str):a.length = a.cps.toList.length:=by simp [Str.length]
theorem app_cps (a b:Str):(a ++ b).cps.toList = a.cps.toList ++ b.cps.toList:=by
 show (a.cps ++ b.cps).toList = _
 simp
theorem cut_to (z:Str) (m:Nat):(cutS z none (some (m:Int))).cps.toList = z.cps.toList.take m:=by
 unfold cutS
 rw [HT.sIx_none,HT.sIx_nat,List.drop_zero,Nat.sub_zero,str_len]
 show List.take _ _ = _
 rw [List.take_eq_take_iff]
 omega
theorem cut_from (z:Str) (m:Nat):(cutS z (some (m:Int)) none).cps.toList = z.cps.toList.drop m:=by
 unfold cutS
 rw [HT.sIx_none,HT.sIx_nat,str_len]
 show List.take _ _ = _
 rw [List.take_of_length_le (by rw [List.length_drop]; omega)]
 by_cases h:m <= z.cps.toList.length
 ·rw [Nat.min_eq_left h]
 ·rw [Nat.min_eq_right (by omega),List.drop_length,List.drop_of_length_le (by omega)]
def wLen (way size k:Nat):Nat:=(size + k * (way % 2)) % 8
def wAt (way m:Nat):Nat:=if way = 0 then 0 else if way = 1 then m else m / 2
def wordL (b:List Nat) (way turn size k:Nat):List Nat :=
 (b.take (wLen way size k)).take (wAt way (wLen way size k)) ++ [97 + (turn + 3 * k) % 26] ++ (b.take (wLen way size k)).drop (wAt way (wLen way size k))
def word (b:List Nat) (way turn size k:Nat):Str:=⟨(wordL b way turn size k).toArray⟩
theorem wordL_len {b:List Nat} (hb:b.length = 7) (way turn size k:Nat):(wordL b way turn size k).length = wLen way size k + 1:=by
 have h8:wLen way size k < 8:=Nat.mod_lt _ (by decide)
 unfold wordL
 rw [List.length_append,List.length_append,List.length_take,List.length_drop,List.length_take,hb]
 have:wAt way (wLen way size k) <= wLen way size k:=by unfold wAt; split; omega; split; omega; omega
 simp
 omega
theorem word_ok {b:List Nat} (hb:b.length = 7) (hl:∀ c ∈ b,letter c) (way turn size k:Nat):IsName (word b way turn size k):=by
 have h8:wLen way size k < 8:=Nat.mod_lt _ (by decide)
 have hlen:=wordL_len hb way turn size k
 have e:(word b way turn size k).cps.toList = wordL b way turn size k:=by simp [word]
 refine ⟨?_,?_,?_⟩
 ·rw [str_len,e]; omega
 ·rw [str_len,e]; omega
 ·rw [e]
  intro c hc
  unfold wordL at hc
  rcases List.mem_append.mp hc with hc | hc
  ·rcases List.mem_append.mp hc with hc | hc
   ·exact hl c (List.mem_of_mem_take (List.mem_of_mem_take hc))
   ·have:c = 97 + (turn + 3 * k) % 26:=by simpa using hc
    subst this
    have:(turn + 3 * k) % 26 < 26:=Nat.mod_lt _ (by decide)
    exact ⟨by omega,by omega⟩
  ·exact hl c (List.mem_of_mem_take (List.mem_of_mem_drop hc))
theorem word_inj {b:List Nat} (hb:b.length = 7) {way turn size:Nat} (hw:way < 3) {j k:Nat} (hj:j < 26) (hk:k < 26) (h:word b way turn size j = word b way turn size k):j = k:=by
 have h8:∀ i,wLen way size i < 8:=fun i=>Nat.mod_lt _ (by decide)
 have e:wordL b way turn size j = wordL b way turn size k:=by
  have:=congrArg (fun s=>Str.cps s |>.toList) h
  simpa [word] using this
 have el:wLen way size j = wLen way size k:=by
  have:=congrArg List.length e
  rw [wordL_len hb,wordL_len hb] at this
  omega
 have key:97 + (turn + 3 * j) % 26 = 97 + (turn + 3 * k) % 26:=by
  have hat:∀ i,wAt way (wLen way size i) <= wLen way size i:=fun i=>by unfold wAt; split; omega; split; omega; omega
  have get:∀ i,(wordL b way turn size i)[wAt way (wLen way size i)]? = some (97 + (turn + 3 * i) % 26):=by
   intro i
   unfold wordL
   have hl:((b.take (wLen way size i)).take (wAt way (wLen way size i))).length = wAt way (wLen way size i):=by
    rw [List.length_take,List.length_take,hb]
    have:=h8 i
    have:=hat i
    omega
   rw [List.append_assoc,List.getElem?_append_right (by omega),hl,Nat.sub_self]
   rfl
  have g1:=get j
  have g2:=get k
  rw [e,el] at g1
  rw [g1] at g2
  exact Option.some.inj g2
 omega
def NamesOk (ws:List Str):Prop:=ws.Nodup/\∀ w ∈ ws,IsName w
def wordsTo (b:List Nat) (way turn size n:Nat):List Str:=(List.range n).map (word b way turn size)
theorem wordsTo_ok {b:List Nat} (hb:b.length = 7) (hl:∀ c ∈ b,letter c) {way turn size n:Nat} (hw:way < 3) (hn:n <= 26):NamesOk (wordsTo b way turn size n):=by
 refine ⟨?_,fun w hm=>?_⟩
 ·unfold wordsTo
  rw [List.nodup_iff_pairwise_ne,List.pairwise_map]
  refine (List.nodup_range (n:=n)).imp_of_mem ?_
  intro j k hj hk hne h
  exact hne (word_inj hb hw (by have:=List.mem_range.mp hj; omega) (by have:=List.mem_range.mp hk; omega) h)
 ·obtain ⟨k,_,rfl⟩:=List.mem_map.mp hm
  exact word_ok hb hl _ _ _ _
def sp_names:Sp:=fun vs H Q _=>∃ (p c:Addr) (n:Nat),vs = [.ref p,.int n]/\Pen H p c/\n <= 26 /\
 ∀ (l:Addr) (ws:List Str) (H':Hp),NamesOk ws->ws.length = n->H l = none->H' l = some (.lst (ws.map V.str))->Pen H' p c->ExB p H H'->Q (.ref l) H'
theorem rd_names {K:PySem.W.Frag} {vs:List V} {H:Hp} {Q:VK} {E:XK} (h:sp_names vs H Q E):t_law_names K sp_take { nx:=fun _ H'=>Q .non H',rt:=Q } (start N_law_names vs) H:=by
 obtain ⟨p,c,n,rfl,hp,hn,k⟩:=h
 refine ⟨rfl,7,rfl,by decide,by decide,fun l hl=>?_⟩
 refine comp_range (lo:=0) (n:=Int.toNat 7) (fun i vs H'=>∃ cs:List Nat,vs = cs.map (fun c=>V.str ⟨#[c]⟩)/\cs.length = i/\(∀ c ∈ cs,letter c)/\Pen H' p c/\ExB p H H'/\H' l = some (.lst vs))
  ⟨[],rfl,rfl,(fun _ h=>nomatch h),hp.ex (Same.new hl),ExB.new hl,upd_same⟩ (fun i vs H' _ ⟨_,_,_,_,_,_,h⟩=>h) ?_ ?_
 rotate_left
 ·rintro i vs H' hi ⟨cs,rfl,hlen,hlet,hp',hex,hl'⟩
  have hlp:=hp.nep hl
  have hlc:=hp.nec hl
  refine gN (yesT ?_)
  refine ⟨_,rfl,_,rfl,take_i hp' (by decide) (by decide) fun r H2 h0 h1 hp2 hex2=>⟨_,r,_,rfl,rfl,abc_len,abc_at h0 h1,?_⟩⟩
  have hl2:=hex2 l _ hl' hlp.symm
  refine ⟨hl2,by rw [List.length_map,hlen]; exact small1000 (by omega),nxt hi ⟨cs ++ [97 + r.toNat],by rw [List.map_append]; rfl,by rw [List.length_append,hlen]; rfl,?_,hp2.upd hlp hlc,?_,upd_same⟩⟩
  ·intro x hc
   rcases List.mem_append.mp hc with hc | hc
   ·exact hlet x hc
   ·have:x = 97 + r.toNat:=by simpa using hc
    subst this
    exact ⟨by omega,by omega⟩
  ·intro b o' e nb
   rw [upd_ne (ne_of_none e hl)]
   exact hex2 b o' (hex b o' e nb) nb
 ·rintro vs H1 ⟨cs,rfl,hlen,hlet,hp1,hex1,hl1⟩
  refine ⟨"",l,cs.map fun c=>(⟨#[c]⟩:Str),rfl,rfl,SqL.of (by rw [hl1,List.map_map]; rfl),?_,?_⟩
  ·have e0:("":Str).length = 0:=by decide +kernel
   rw [e0,Nat.mul_zero,List.map_map]
   have:∀ cs:List Nat,(cs.map ((fun x=>Str.length x) ∘ fun c=>(⟨#[c]⟩:Str))).sum = cs.length:=by
    intro cs
    induction cs with
    | nil=>rfl
    | cons c cs ih=>rw [List.map_cons,List.sum_cons,ih,List.length_cons]; show 1 + _ = _; omega
   rw [this,hlen]; decide
  refine ⟨_,rfl,take_i hp1 (by decide) (by decide) fun way H2 w0 w1 hp2 hex2=>?_⟩
  refine ⟨_,rfl,take_i hp2 (by decide) (by decide) fun turn H3 t0 t1 hp3 hex3=>?_⟩
  refine ⟨_,rfl,take_i hp3 (by decide) (by decide) fun size H4 s0 s1 hp4 hex4=>?_⟩
  have ex4:ExB p H H4:=((hex1.trans hex2).trans hex3).trans hex4
  obtain ⟨wy,rfl⟩:=Int.eq_ofNat_of_zero_le w0
  obtain ⟨tn,rfl⟩:=Int.eq_ofNat_of_zero_le t0
  obtain ⟨sz,rfl⟩:=Int.eq_ofNat_of_zero_le s0
  have hb:=join_signs cs
  generalize Txt.join "" (cs.map fun c=>(⟨#[c]⟩:Str)) = base at hb ⊢
  refine ⟨(by show 0 <= sizeLine; decide),fun f hf=>?_⟩
  obtain ⟨op,hop⟩:=hp4.pen
  have hfH:H f = none:=ex4.free hop hf
  have hfp:=hp.nep hfH
  have hfc:=hp.nec hfH
  refine ⟨_,rfl,n,rfl,by omega,by omega,for_range (lo:=0) (n:=((n:Int)).toNat) (fun i σ H'=>∃ (a b c' d:Option V),σ = [some (.ref p),some (.int n),some (.str "abcdefghijklmnopqrstuvwxyz"),some (.str base),some (.int wy),some (.int tn),some (.int sz),some (.ref f),a,b,c',d] /\
   Pen H' p c/\ExB p H H'/\H' f = some (.lst ((wordsTo cs wy tn sz i).map V.str)))
   ⟨_,_,_,_,rfl,hp4.upd hfp hfc,ex4.trans (ExB.new hf),upd_same⟩ ?_ ?_⟩
  ·rintro i σ H' hi ⟨a,b,c',d,rfl,hp',hex',hf'⟩
   have hi':i < n:=by omega
   have hwy:wy < 3:=by omega
   have e26:((tn:Int) + 3 * (0 + (i:Int))) % 26 = (((tn + 3 * i) % 26:Nat):Int):=by omega
   refine ⟨_,rfl,_,rfl,_,rfl,_,_,rfl,rfl,.inl ⟨by decide,by decide⟩,_,_,rfl,rfl,_,_,rfl,rfl,(by show (0:Int) < 26; decide),_,_,_,rfl,rfl,abc_len,abc_at (Int.emod_nonneg _ (by decide)) (Int.emod_lt_of_pos _ (by decide)),?_⟩
   have blen:base.length <= sizeLine:=by rw [str_len,hb,hlen]; decide
   have e8:((sz:Int) + (0 + (i:Int)) * ((wy:Int) % 2)) % 8 = ((wLen wy sz i:Nat):Int):=by
    unfold wLen
    have:wy = 0 ∨ wy = 1 ∨ wy = 2:=by omega
    rcases this with rfl | rfl | rfl <;> simp <;> omega
   refine ⟨_,rfl,_,rfl,_,rfl,_,rfl,_,_,rfl,rfl,(by show (0:Int) < 2; decide),_,_,rfl,rfl,.inr ⟨by omega,by omega⟩,_,_,rfl,rfl,_,_,rfl,rfl,(by show (0:Int) < 8; decide),_,rfl,base,rfl,blen,?_⟩
   rw [e8]
   have hpart:=cut_to base (wLen wy sz i)
   rw [hb] at hpart
   generalize cutS base none (some ((wLen wy sz i:Nat):Int)) = part at hpart ⊢
   have h8:wLen wy sz i < 8:=Nat.mod_lt _ (by decide)
   have plen:part.length = wLen wy sz i:=by rw [str_len,hpart,List.length_take,hlen]; omega
   have pz:part.length <= sizeLine:=by rw [plen]; exact Nat.le_of_lt (small1000 (by omega))
   refine ⟨_,rfl,.inr ⟨part,rfl,pz,_,rfl,.inr ⟨part,rfl,pz,_,_,rfl,rfl,⟨by decide,by decide⟩,(by show 3 <= sizeLine; decide),fun q hq=>?_⟩⟩⟩
   have hqH:H q = none:=by
    obtain ⟨op',hop'⟩:=hp'.pen
    exact hex'.free hop' hq
   have hat:atI [V.int 0,V.int (part.length:Nat),V.int ((part.length:Int) / 2)] (wy:Int) = some (.int (wAt wy (wLen wy sz i):Nat)):=by
    rw [plen]
    have:wy = 0 ∨ wy = 1 ∨ wy = 2:=by omega
    rcases this with rfl | rfl | rfl
    ·rfl
    ·rfl
    ·show some (V.int (((wLen 2 sz i:Nat):Int) / 2)) = some (V.int ((wAt 2 (wLen 2 sz i):Nat):Int))
     have:wAt 2 (wLen 2 sz i) = wLen 2 sz i / 2:=rfl
     rw [this]
     congr 2
   refine ⟨_,rfl,q,_,_,_,rfl,rfl,SqL.of upd_same,hat,?_⟩
   have hf2:upd H' q (.lst [V.int 0,V.int (part.length:Nat),V.int ((part.length:Int) / 2)]) f = some (.lst ((wordsTo cs wy tn sz i).map V.str)):=kp hf' hq
   have c1:=cut_to part (wAt wy (wLen wy sz i))
   have c2:=cut_from part (wAt wy (wLen wy sz i))
   have l1:(cutS part none (some ((wAt wy (wLen wy sz i):Nat):Int))).length <= 8:=by rw [str_len,c1,List.length_take,hpart,List.length_take,hlen]; omega
   have l2:(cutS part (some ((wAt wy (wLen wy sz i):Nat):Int)) none).length <= 8:=by rw [str_len,c2,List.length_drop,hpart,List.length_take,hlen]; omega
   refine ⟨_,rfl,.inl ⟨rfl,_,SqL.of hf2⟩,_,rfl,_,rfl,_,rfl,part,rfl,pz,_,rfl,_,_,rfl,rfl,?_,_,rfl,_,rfl,_,rfl,part,rfl,pz,_,_,rfl,rfl,?_,f,_,_,rfl,rfl,hf2,?_,?_⟩
   ·have:Str.length ⟨#[97 + (((tn:Int) + 3 * (0 + (i:Int))) % 26).toNat]⟩ = 1:=rfl
    rw [this]
    exact Nat.le_of_lt (small1000 (by omega))
   ·rw [str_len,app_cps,List.length_append,<- str_len,<- str_len]
    have:Str.length ⟨#[97 + (((tn:Int) + 3 * (0 + (i:Int))) % 26).toNat]⟩ = 1:=rfl
    rw [this]
    exact Nat.le_of_lt (small1000 (by omega))
   ·rw [List.length_map]
    unfold wordsTo
    rw [List.length_map,List.length_range]
    exact small1000 (by omega)
   ·refine ⟨_,_,_,_,rfl,(hp'.upd (hp.nep hqH) (hp.nec hqH)).upd hfp hfc,?_,?_⟩
    ·intro b' o' e nb
     rw [upd_ne (ne_of_none e hfH)]
     exact kp (hex' b' o' e nb) hq
    ·rw [upd_same]
     unfold wordsTo
     rw [List.range_succ,List.map_append,List.map_append]
     congr 3
     show [V.str _] = [V.str _]
     congr 2
     refine str_ext ?_
     rw [app_cps,app_cps,c1,c2,hpart,e26,Int.toNat_natCast]
     simp [word,wordL]
  ·rintro σ H' ⟨a,b,c',d,rfl,hp',hex',hf'⟩
   have en:((n:Int)).toNat = n:=by omega
   rw [en] at hf'
   exact ⟨_,rfl,k f _ H' (wordsTo_ok hlen hlet (by omega) hn) (by unfold wordsTo; rw [List.length_map,List.length_range]) hfH hf' hp' hex'⟩
structure Door where
 a:Str
 sg:List Str
 b:Str
deriving DecidableEq
def SignAt (H:Hp) (s:Addr) (sg:List Str):Prop:=H s = some (.tup (sg.map V.str))
def DoorAt (H:Hp) (t:Addr) (d:Door):Prop:=∃ s,H t = some (.tup [.str d.a,.ref s,.str d.b])/\SignAt H s d.sg
def KT0 (H H':Hp):Prop:=∀ b xs,H b = some (.tup xs)->H' b = some (.tup xs)
theorem DoorAt.kt {H H':Hp} {t:Addr} {d:Door} (k:KT0 H H') (h:DoorAt H t d):DoorAt H' t d:=by
 obtain ⟨s,h1,h2⟩:=h
 exact ⟨s,k _ _ h1,k _ _ h2⟩
theorem ExB.kt {p:Addr} {H H':Hp} {xs:List V} (e:ExB p H H') (hp:H p = some (.lst xs)):KT0 H H':=fun b ys h=>e b _ h (fun z=>by rw [z,hp] at h; cases h)
theorem Same.kt {H H':Hp} (e:Same H H'):KT0 H H':=fun b ys h=>e b _ h
theorem KT0.trans {H H1 H2:Hp} (a:KT0 H H1) (b:KT0 H1 H2):KT0 H H2:=fun x xs h=>b x xs (a x xs h)
theorem kt_upd {H:Hp} {l:Addr} {xs:List V} {o:HO} (h:H l = some (.lst xs)):KT0 H (upd H l o):=fun b ys e=>by
 rw [upd_ne (fun z=>by rw [z,h] at e; cases e)]; exact e
abbrev Doors (H:Hp) (ts:List Addr) (ds:List Door):Prop:=Paired (DoorAt H) ts ds
theorem Paired.get {α β:Type} {R:α->β->Prop}:∀ {xs:List α} {ys:List β} {i:Nat} {y:β},Paired R xs ys->ys[i]? = some y->∃ x,xs[i]? = some x/\R x y
 | _,_,i,y,.nil,h=>by simp at h
 | _,_,0,y,.cons r t,h=>by simp at h; subst h; exact ⟨_,rfl,r⟩
 | _,_,i + 1,y,.cons r t,h=>by
  simp at h
  obtain ⟨x,h1,h2⟩:=Paired.get t h
  exact ⟨x,by simpa using h1,h2⟩
theorem Paired.getL {α β:Type} {R:α->β->Prop}:∀ {xs:List α} {ys:List β} {i:Nat} {x:α},Paired R xs ys->xs[i]? = some x->∃ y,ys[i]? = some y/\R x y
 | _,_,i,y,.nil,h=>by simp at h
 | _,_,0,y,.cons r t,h=>by simp at h; subst h; exact ⟨_,rfl,r⟩
 | _,_,i + 1,y,.cons r t,h=>by
  simp at h
  obtain ⟨x,h1,h2⟩:=Paired.getL t h
  exact ⟨x,by simpa using h1,h2⟩
theorem Doors.kt {H H':Hp} {ts:List Addr} {ds:List Door} (k:KT0 H H') (h:Doors H ts ds):Doors H' ts ds:=Paired.mapP h fun _ _ r=>r.kt k
theorem upd_id {H:Hp} {a:Addr} {o:HO} (h:H a = some o):upd H a o = H:=by
 funext b
 by_cases e:b = a
 ·subst e; rw [upd_same,h]
 ·rw [upd_ne e]
def sDT (x:Str):DT:=.k (.inr x)
def dDT (d:Door):DT:=.t [sDT d.a,.t (d.sg.map sDT),sDT d.b]
theorem sDT_inj {x y:Str} (h:sDT x = sDT y):x = y:=by
 unfold sDT at h
 injection h with h
 injection h
theorem map_sDT_inj:∀ {x y:List Str},x.map sDT = y.map sDT->x = y
 | [],[],_=>rfl
 | [],_ :: _,h=>by cases h
 | _ :: _,[],h=>by cases h
 | a :: x,b :: y,h=>by
  rw [List.map_cons,List.map_cons] at h
  injection h with h1 h2
  rw [sDT_inj h1,map_sDT_inj h2]
theorem dDT_inj {x y:Door} (h:dDT x = dDT y):x = y:=by
 unfold dDT at h
 injection h with h
 injection h with h1 h
 injection h with h2 h
 injection h with h3 h
 injection h2 with h2
 cases x; cases y
 simp only at *
 rw [sDT_inj h1,map_sDT_inj h2,sDT_inj h3]
theorem depths_s (xs:List Str):DT.depths (xs.map sDT) = 0:=by
 induction xs with
 | nil=>rfl
 | cons x xs ih=>rw [List.map_cons]; show max (DT.depth (sDT x)) (DT.depths _) = 0; rw [ih]; rfl
theorem depth_d (d:Door):(dDT d).depth = 2:=by
 show DT.depths [sDT d.a,.t (d.sg.map sDT),sDT d.b] + 1 = 2
 show max (DT.depth (sDT d.a)) (max (DT.depths (d.sg.map sDT) + 1) (max (DT.depth (sDT d.b)) 0)) + 1 = 2
 rw [depths_s]
 rfl
theorem depths_ds (ds:List Door):DT.depths (ds.map dDT) <= 8:=by
 induction ds with
 | nil=>exact Nat.zero_le _
 | cons x xs ih=>rw [List.map_cons]; show max (DT.depth (dDT x)) (DT.depths _) <= 8; rw [depth_d]; omega
theorem dIns_s {K:PySem.W.Frag} {H:Hp}:∀ xs:List Str,DIns K H (xs.map sDT) (xs.map V.str)
 | []=>by show DIns K H [] []; unfold DIns; rfl
 | x :: xs=>by
  rw [List.map_cons,List.map_cons]
  unfold DIns
  refine ⟨_,_,rfl,?_,dIns_s xs⟩
  unfold sDT DIn
  rfl
theorem dIn_s {K:PySem.W.Frag} {H:Hp} (x:Str):DIn K H (sDT x) (.str x):=by unfold sDT DIn; rfl
theorem dIn_sign {K:PySem.W.Frag} {H:Hp} {s:Addr} {sg:List Str} (h:SqT K H s (sg.map V.str)):DIn K H (.t (sg.map sDT)) (.ref s):=by
 unfold DIn
 exact ⟨s,_,rfl,h,dIns_s _⟩
theorem DoorAt.dIn {K:PySem.W.Frag} {H:Hp} {t:Addr} {d:Door} (h:DoorAt H t d):DIn K H (dDT d) (.ref t):=by
 obtain ⟨s,h1,h2⟩:=h
 unfold dDT
 unfold DIn
 refine ⟨t,_,rfl,SqT.of h1,?_⟩
 unfold DIns
 refine ⟨_,_,rfl,dIn_s _,?_⟩
 unfold DIns
 refine ⟨_,_,rfl,dIn_sign (SqT.of h2),?_⟩
 unfold DIns
 refine ⟨_,_,rfl,dIn_s _,?_⟩
 unfold DIns
 rfl
theorem Doors.dIns {K:PySem.W.Frag} {H:Hp}:∀ {ts:List Addr} {ds:List Door},Doors H ts ds->DIns K H (ds.map dDT) (ts.map V.ref)
 | _,_,.nil=>by show DIns K H [] []; unfold DIns; rfl
 | _,_,.cons r t=>by
  rw [List.map_cons,List.map_cons]
  unfold DIns
  exact ⟨_,_,rfl,r.dIn,Doors.dIns t⟩
theorem mem_dDT {d:Door} {ds:List Door}:dDT d ∈ ds.map dDT ↔ d ∈ ds:=by
 constructor
 ·intro h
  obtain ⟨x,hx,e⟩:=List.mem_map.mp h
  rw [<- dDT_inj e]; exact hx
 ·exact List.mem_map_of_mem
def putD (ds:List Door) (d:Door):List Door:=if d ∈ ds then ds else ds ++ [d]
@[irreducible] def sp_put:Sp:=fun vs H Q _=>∃ (l t:Addr) (ts:List Addr) (ds:List Door) (d:Door),vs = [.ref l,.ref t]/\H l = some (.lst (ts.map V.ref))/\Doors H ts ds/\DoorAt H t d/\ds.length <= 1000 /\
 ∀ ts':List Addr,Doors H ts' (putD ds d)->Q .non (upd H l (.lst (ts'.map V.ref)))
theorem rd_put {K:PySem.W.Frag} {vs:List V} {H:Hp} {Q:VK} {E:XK} (h:sp_put vs H Q E):t_law_put K { nx:=fun _ H'=>Q .non H',rt:=Q } (start N_law_put vs) H:=by
 unfold sp_put at h
 obtain ⟨l,t,ts,ds,d,rfl,hl,hd,ht,hz,k⟩:=h
 refine ⟨_,rfl,_,rfl,dDT d,ds.map dDT,l,_,ht.dIn,rfl,.inl (SqL.of hl),hd.dIns,by rw [depth_d]; decide,depths_ds ds,_,rfl,?_⟩
 by_cases hm:d ∈ ds
 ·rw [if_pos rfl,decide_eq_true (mem_dDT.mpr hm)]
  refine iteF ?_
  have:=k ts (by unfold putD; rw [if_pos hm]; exact hd)
  rw [upd_id hl] at this
  exact this
 ·rw [if_pos rfl,decide_eq_false (fun z=>hm (mem_dDT.mp z))]
  refine iteT ?_
  refine ⟨_,rfl,.inl ⟨rfl,_,SqL.of hl⟩,_,rfl,l,_,_,rfl,rfl,hl,?_,?_⟩
  ·rw [List.length_map,Paired.length hd]
   exact small1000 hz
  ·have:=k (ts ++ [t]) (by unfold putD; rw [if_neg hm]; exact Paired.snoc hd ht)
   rw [List.map_append] at this
   exact this
structure DI (R:Door->Prop) (H0:Hp) (p c l:Addr) (m:Nat) (H:Hp):Prop where
 pen:Pen H p c
 ds:∃ ts ds,H l = some (.lst (ts.map V.ref))/\Doors H ts ds/\ds.Nodup/\(∀ d ∈ ds,R d)/\ds.length <= m
 ex:ExB p H0 H
 fr:H0 l = none
 pl:p ≠ l
 cl:c ≠ l
section
variable {R:Door->Prop} {H0 H H':Hp} {p c l:Addr} {m:Nat}
theorem Pen.lst {H:Hp} {p c:Addr} (h:Pen H p c):∃ xs,H p = some (.lst xs):=by
 obtain ⟨a,r,ns,h1,_⟩:=h
 exact ⟨_,h1⟩
theorem DI.took (h:DI R H0 p c l m H) (hp:Pen H' p c) (e:ExB p H H'):DI R H0 p c l m H':=by
 obtain ⟨ts,ds,h1,h2,h3⟩:=h.ds
 obtain ⟨xs,hx⟩:=h.pen.lst
 exact ⟨hp,⟨ts,ds,e _ _ h1 h.pl.symm,h2.kt (e.kt hx),h3⟩,h.ex.trans e,h.fr,h.pl,h.cl⟩
theorem DI.new (h:DI R H0 p c l m H) {q:Addr} {o:HO} (hq:H q = none):DI R H0 p c l m (upd H q o) :=
 h.took (h.pen.ex (Same.new hq)) (ExB.new hq)
theorem DI.up (h:DI R H0 p c l m H) {n:Nat} (hn:m <= n):DI R H0 p c l n H:=by
 obtain ⟨ts,ds,h1,h2,h3,h4,h5⟩:=h.ds
 exact ⟨h.pen,⟨ts,ds,h1,h2,h3,h4,Nat.le_trans h5 hn⟩,h.ex,h.fr,h.pl,h.cl⟩
theorem DI.put (h:DI R H0 p c l m H) {t:Addr} {d:Door} {Q:VK} {E:XK} (ht:DoorAt H t d) (hR:R d) (hm:m <= 1000) (k:∀ H',DI R H0 p c l (m + 1) H'->Q .non H'):sp_put [.ref l,.ref t] H Q E:=by
 obtain ⟨ts,ds,h1,h2,h3,h4,h5⟩:=h.ds
 unfold sp_put
 refine ⟨l,t,ts,ds,d,rfl,h1,h2,ht,Nat.le_trans h5 hm,fun ts' h'=>k _ ⟨h.pen.upd h.pl h.cl,⟨ts',putD ds d,upd_same,h'.kt (kt_upd h1),?_,?_,?_⟩,?_,h.fr,h.pl,h.cl⟩⟩
 ·unfold putD
  split
  ·exact h3
  ·next hn =>
   rw [List.nodup_append]
   refine ⟨h3,by simp,?_⟩
   intro a ha b hb e
   have:b = d:=by simpa using hb
   subst this
   exact hn (e ▸ ha)
 ·intro x hx
  unfold putD at hx
  split at hx
  ·exact h4 x hx
  ·rcases List.mem_append.mp hx with hx | hx
   ·exact h4 x hx
   ·have:x = d:=by simpa using hx
    rw [this]; exact hR
 ·unfold putD
  split
  ·omega
  ·rw [List.length_append]; show ds.length + 1 <= m + 1; omega
 ·intro b o e n
  rw [upd_ne (ne_of_none e h.fr)]
  exact h.ex b o e n
end
theorem Pen.ne_strs {H:Hp} {p c a:Addr} {ws:List Str} (hp:Pen H p c) (ha:H a = some (.lst (ws.map V.str))):a ≠ p:=by
 intro e
 obtain ⟨x,y,ns,h1,_⟩:=hp
 rw [e,h1] at ha
 injection ha with ha
 injection ha with ha
 cases ws with
 | nil=>cases ha
 | cons w ws=>injection ha with ha; cases ha
theorem rd_pick {K:PySem.W.Frag} {r:R2} (hr:∀ x y H Q,rIxL K x y H Q->r x y H Q) {σ:L2.St} {H:Hp} {Q:VK} {p c a:Addr} {j:Nat} {ws:List Str} (h0:σ[0]? = some (some (.ref p))) (hj:σ[j]? = some (some (.ref a))) (hp:Pen H p c)
  (ha:H a = some (.lst (ws.map V.str))) (hne:ws ≠ []) (hlen:ws.length <= 1000) (k:∀ w ∈ ws,∀ H',Pen H' p c->ExB p H H'->Q (.str w) H') :
  ∃ v,σ[j]? = some (some v)/\∃ v0,σ[0]? = some (some v0)/\∃ v1,σ[j]? = some (some v1)/\rLen K [v1] H fun y H1=>sp_take [v0,y] H1 (fun y H2=>r v y H2 Q) E0:=by
 have hl:0 < ws.length:=by cases ws with | nil=>exact absurd rfl hne | cons _ _=>simp
 have la:(V.int ((ws.map V.str).length:Nat)) = V.int (ws.length:Nat):=by rw [List.length_map]
 have hpa:=hp.ne_strs ha
 have fin:∀ (x:Int) (H':Hp),0 <= x->x < (ws.length:Int)->Pen H' p c->ExB p H H'->rIxL K (.ref a) (.int x) H' Q:=by
  intro x H' x0 x1 hp' ex
  obtain ⟨n,rfl⟩:=Int.eq_ofNat_of_zero_le x0
  have hn:n < ws.length:=by omega
  exact ⟨a,_,(n:Int),.str ws[n],rfl,rfl,SqL.of (ex _ _ ha hpa),atI_nat (by simp [hn]),k _ (List.getElem_mem hn) H' hp' ex⟩
 exact ⟨_,hj,_,h0,_,hj,.inl ⟨a,_,rfl,.inl (SqL.of ha),by rw [la]; exact take_i hp (by omega) (by omega) fun x H' x0 x1 hp' ex=>hr _ _ _ _ (fin x H' x0 x1 hp' ex)⟩⟩
def Up (up:Bool) (rooms:List Str) (a b:Str):Prop:=∃ i j:Nat,rooms[i]? = some a/\rooms[j]? = some b/\(if up = true then i < j else j < i)
structure GoodDoor (asks says rooms:List Str) (up:Bool) (d:Door):Prop where
 a:d.a ∈ rooms
 b:d.b ∈ rooms
 sg:(∃ w ∈ asks,d.sg = [("ask":Str),w]) ∨ (∃ w ∈ says,d.sg = [("say":Str),w]) ∨ (d.sg = [("still":Str)]/\Up up rooms d.a d.b)
def stillSg:List Str:=[("still":Str)]
structure GoodD (asks says rooms:List Str) (d:Door):Prop where
 a:d.a ∈ rooms
 b:d.b ∈ rooms
 sg:(∃ w ∈ asks,d.sg = [("ask":Str),w]) ∨ (∃ w ∈ says,d.sg = [("say":Str),w]) ∨ d.sg = stillSg
theorem GoodDoor.d {asks says rooms:List Str} {up:Bool} {d:Door} (h:GoodDoor asks says rooms up d):GoodD asks says rooms d:=⟨h.a,h.b,h.sg.imp id (Or.imp id And.left)⟩
inductive Reach (ds:List Door) (a:Str):Str->Prop
 | one {b:Str} (h:(⟨a,stillSg,b⟩:Door) ∈ ds):Reach ds a b
 | step {b c:Str} (r:Reach ds a b) (h:(⟨b,stillSg,c⟩:Door) ∈ ds):Reach ds a c
theorem get_inj {rooms:List Str} (nd:rooms.Nodup) {i j:Nat} {a:Str} (hi:rooms[i]? = some a) (hj:rooms[j]? = some a):i = j:=by
 obtain ⟨h1,e1⟩:=List.getElem?_eq_some_iff.mp hi
 obtain ⟨h2,e2⟩:=List.getElem?_eq_some_iff.mp hj
 have pw:=List.pairwise_iff_getElem.mp nd
 rcases Nat.lt_trichotomy i j with h | h | h
 ·exact absurd (e1.trans e2.symm) (pw i j h1 h2 h)
 ·exact h
 ·exact absurd (e2.trans e1.symm) (pw j i h2 h1 h)
theorem Up.trans {up:Bool} {rooms:List Str} (nd:rooms.Nodup) {a b c:Str} (h1:Up up rooms a b) (h2:Up up rooms b c):Up up rooms a c:=by
 obtain ⟨i,j,e1,e2,h⟩:=h1
 obtain ⟨j',k,e3,e4,h'⟩:=h2
 have:=get_inj nd e2 e3
 subst this
 refine ⟨i,k,e1,e4,?_⟩
 cases up
 ·simp at h h' ⊢; omega
 ·simp at h h' ⊢; omega
theorem Up.irr {up:Bool} {rooms:List Str} (nd:rooms.Nodup) {a:Str} (h:Up up rooms a a):False:=by
 obtain ⟨i,j,e1,e2,h⟩:=h
 have:=get_inj nd e1 e2
 subst this
 cases up
 ·simp at h
 ·simp at h
theorem up_reach {asks says rooms:List Str} {ds:List Door} {up:Bool} (nd:rooms.Nodup) (m:∀ d ∈ ds,GoodDoor asks says rooms up d) {a b:Str} (h:Reach ds a b):Up up rooms a b:=by
 have edge:∀ {a b:Str},(⟨a,stillSg,b⟩:Door) ∈ ds->Up up rooms a b:=by
  intro a b h
  rcases (m _ h).sg with ⟨w,_,e⟩ | ⟨w,_,e⟩ | ⟨_,e⟩
  ·cases e
  ·cases e
  ·exact e
 induction h with
 | one h=>exact edge h
 | step r h ih=>exact ih.trans nd (edge h)
def sp_draw_doors:Sp:=fun vs H Q _=>∃ (p c l1 l2 l3:Addr) (asks says rooms:List Str) (full:Int),vs = [.ref p,.ref l1,.ref l2,.ref l3,.int full]/\Pen H p c /\
 H l1 = some (.lst (asks.map V.str))/\H l2 = some (.lst (says.map V.str))/\H l3 = some (.lst (rooms.map V.str))/\asks.length <= 4/\says ≠ []/\says.length <= 4/\rooms ≠ []/\rooms.length <= 26/\0 <= full/\full <= 2 /\
 ∀ (l:Addr) (ts:List Addr) (ds:List Door) (up:Bool) (H':Hp),H l = none->H' l = some (.lst (ts.map V.ref))->Doors H' ts ds->ds.Nodup->(∀ d ∈ ds,GoodDoor asks says rooms up d)->ds.length <= 600->Pen H' p c->ExB p H H'->Q (.ref l) H'
theorem at4 {x r:Int} (x0:0 <= x) (x2:x <= 2) (r0:0 <= r) (r4:r < 4):∃ j:Int,atI [V.int x,.int 1,.int 1,.int 2] r = some (.int j)/\0 <= j/\j <= 2:=by
 have:r = 0 ∨ r = 1 ∨ r = 2 ∨ r = 3:=by omega
 rcases this with rfl | rfl | rfl | rfl
 ·exact ⟨x,rfl,x0,x2⟩
 ·exact ⟨1,rfl,by decide,by decide⟩
 ·exact ⟨1,rfl,by decide,by decide⟩
 ·exact ⟨2,rfl,by decide,by decide⟩
theorem cutV_from (ws:List Str) (k:Nat):cutV (ws.map V.str) (some (k:Int)) none = (ws.drop k).map V.str:=by
 unfold cutV
 rw [HT.sIx_none,HT.sIx_nat,List.length_map,List.take_of_length_le (by rw [List.length_drop,List.length_map]; omega),List.map_drop]
 by_cases h:k <= ws.length
 ·rw [Nat.min_eq_left h]
 ·rw [Nat.min_eq_right (by omega),List.drop_of_length_le (by simp),List.drop_of_length_le (by rw [List.length_map]; omega)]
theorem cutV_to (ws:List Str) (k:Nat):cutV (ws.map V.str) none (some (k:Int)) = (ws.take k).map V.str:=by
 unfold cutV
 rw [HT.sIx_none,HT.sIx_nat,List.length_map,List.drop_zero,Nat.sub_zero,List.map_take,List.take_eq_take_iff,List.length_map]
 omega
theorem dIn_strs {K:PySem.W.Frag} {H:Hp} {a:Addr} {ws:List Str} (h:SqL K H a (ws.map V.str)):DIn K H (.s (ws.map sDT)) (.ref a):=by
 unfold DIn
 exact ⟨a,_,rfl,h,dIns_s _⟩
theorem dIn_nil {K:PySem.W.Frag} {H:Hp} {a:Addr} (h:SqL K H a []):DIn K H (.s []) (.ref a):=by
 unfold DIn
 refine ⟨a,_,rfl,h,?_⟩
 unfold DIns
 rfl
theorem rd_draw_doors {K:PySem.W.Frag} {vs:List V} {H:Hp} {Q:VK} {E:XK} (h:sp_draw_doors vs H Q E):t_law_draw_doors K sp_take sp_put { nx:=fun _ H'=>Q .non H',rt:=Q } (start N_law_draw_doors vs) H:=by
 obtain ⟨p,c,l1,l2,l3,asks,says,rooms,full,rfl,hp,h1,h2,h3,ha,hs0,hs,hr0,hr,f0,f2,k⟩:=h
 have n1:=hp.ne_strs h1
 have n2:=hp.ne_strs h2
 have n3:=hp.ne_strs h3
 refine ⟨(by show 0 <= sizeLine; decide),fun l hl=>?_⟩
 have hpl:=hp.nep hl
 have hcl:=hp.nec hl
 refine ⟨_,rfl,take_i (hp.ex (Same.new hl)) (by decide) (by decide) fun dn H1 d0 d1 hp1 ex1=>?_⟩
 generalize hG:GoodDoor asks says rooms (decide (dn = 0)) = G
 have base:DI G H p c l 0 H1:=⟨hp1,⟨[],[],ex1 _ _ upd_same hpl.symm,.nil,List.nodup_nil,by simp,Nat.zero_le _⟩,(ExB.new hl).trans ex1,hl,hpl,hcl⟩
 refine ⟨_,rfl,l3,rfl,⟨_,SqL.of (base.ex _ _ h3 n3)⟩,?_⟩
 refine for_enum (xs:=rooms.map V.str) (fun i σ H'=>∃ a7 a8 a9 a10 a11 a12:Option V,σ = [some (.ref p),some (.ref l1),some (.ref l2),some (.ref l3),some (.int full),some (.ref l),some (.int dn),a7,a8,a9,a10,a11,a12]/\DI G H p c l (11 * i) H')
  ⟨_,_,_,_,_,_,rfl,base⟩ (fun i σ H' _ ⟨_,_,_,_,_,_,_,D⟩=>SqL.of (D.ex _ _ h3 n3)) ?_ ?_
 ·rintro i x σ H' t hi ⟨a7,a8,a9,a10,a11,a12,rfl,D⟩ ht
  obtain ⟨room,hroom,rfl⟩:∃ room,rooms[i]? = some room/\x = V.str room:=by
   rw [List.getElem?_map] at hi
   cases q:rooms[i]? with
   | none=>rw [q] at hi; cases hi
   | some r=>rw [q] at hi; exact ⟨r,rfl,(Option.some.inj hi).symm⟩
  have hiL:i < rooms.length:=(List.getElem?_eq_some_iff.mp hroom).1
  have hmem:room ∈ rooms:=List.mem_of_getElem? hroom
  refine ⟨t,_,rfl,SqT.of upd_same,rfl,_,_,rfl,_,_,rfl,rfl,?_⟩
  have D1:=D.new ht (o:=.tup [.int i,.str room])
  refine ⟨(by show 4 <= sizeLine; decide),fun q hq=>⟨_,rfl,take_i (D1.new hq).pen (by decide) (by decide) fun r H2 r0 r1 hp2 ex2=>?_⟩⟩
  obtain ⟨j,hj,j0,j2⟩:=at4 (x:=0) (by decide) (by decide) r0 r1
  have D2:=(D1.new hq).took hp2 ex2
  refine ⟨q,_,_,_,rfl,rfl,SqL.of (ex2 q _ upd_same (D1.pen.nep hq).symm),hj,j,rfl,by omega,by omega,?_⟩
  refine for_range (lo:=0) (n:=j.toNat) (fun i' σ H''=>∃ a9 a10:Option V,σ = [some (.ref p),some (.ref l1),some (.ref l2),some (.ref l3),some (.int full),some (.ref l),some (.int dn),some (.int i),some (.str room),a9,a10,a11,a12]/\DI G H p c l (11 * i + i') H'')
   ⟨_,_,rfl,D2⟩ ?_ ?_
  ·rintro i' σ H3 hi' ⟨a9,a10,rfl,D3⟩
   refine rd_pick (fun _ _ _ _ h=>h) rfl rfl D3.pen (D3.ex _ _ h2 n2) hs0 (by omega) fun w hw H4 hp4 ex4=>?_
   have D4:=D3.took hp4 ex4
   refine ⟨(by show 2 <= sizeLine; decide),fun sg hsg=>?_⟩
   have D5:=D4.new hsg (o:=.tup [.str "say",.str w])
   refine ⟨_,rfl,_,rfl,_,rfl,rd_pick (fun _ _ _ _ h=>h) rfl rfl D5.pen (D5.ex _ _ h3 n3) hr0 (by omega) fun w2 hw2 H6 hp6 ex6=>?_⟩
   have D6:=D5.took hp6 ex6
   refine ⟨(by show 3 <= sizeLine; decide),fun dr hdr=>?_⟩
   have D7:=D6.new hdr (o:=.tup [.str room,.ref sg,.str w2])
   have hsg6:H6 sg = some (.tup [.str "say",.str w]):=ex6 _ _ upd_same (D4.pen.nep hsg).symm
   refine D7.put (d:=⟨room,["say",w],w2⟩) ⟨sg,upd_same,kp hsg6 hdr⟩ ?_ (by omega) fun H8 D8=>⟨_,_,rfl,D8⟩
   rw [<- hG]
   exact ⟨hmem,hw2,.inr (.inl ⟨w,hw,rfl⟩)⟩
  rintro σ H3 ⟨a9,a10,rfl,D3'⟩
  have D3:DI G H p c l (11 * i + 2) H3:=D3'.up (by omega)
  clear D3'
  refine ⟨_,rfl,l1,rfl,⟨_,SqL.of (D3.ex _ _ h1 n1)⟩,?_⟩
  refine for_list (xs:=asks.map V.str) (fun i' σ H''=>∃ a9 a11:Option V,σ = [some (.ref p),some (.ref l1),some (.ref l2),some (.ref l3),some (.int full),some (.ref l),some (.int dn),some (.int i),some (.str room),a9,a10,a11,a12]/\DI G H p c l (11 * i + 2 + 2 * i') H'')
   ⟨_,_,rfl,D3⟩ (fun i σ H' _ ⟨_,_,_,D⟩=>SqL.of (D.ex _ _ h1 n1)) ?_ ?_
  ·rintro i' x σ H4 hi' ⟨a9,a11,rfl,D4⟩
   obtain ⟨ask,hask,rfl⟩:∃ ask,asks[i']? = some ask/\x = V.str ask:=by
    rw [List.getElem?_map] at hi'
    cases q:asks[i']? with
    | none=>rw [q] at hi'; cases hi'
    | some r=>rw [q] at hi'; exact ⟨r,rfl,(Option.some.inj hi').symm⟩
   have hi2:i' < asks.length:=(List.getElem?_eq_some_iff.mp hask).1
   have hm2:ask ∈ asks:=List.mem_of_getElem? hask
   refine ⟨_,rfl,(by show 4 <= sizeLine; decide),fun q hq=>⟨_,rfl,take_i (D4.new hq).pen (by decide) (by decide) fun r H5 r0 r1 hp5 ex5=>?_⟩⟩
   obtain ⟨j,hj,j0,j2⟩:=at4 f0 f2 r0 r1
   have D5:=(D4.new hq).took hp5 ex5
   refine ⟨q,_,_,_,rfl,rfl,SqL.of (ex5 q _ upd_same (D4.pen.nep hq).symm),hj,j,rfl,by omega,by omega,?_⟩
   refine for_range (lo:=0) (n:=j.toNat) (fun i'' σ H''=>∃ a9:Option V,σ = [some (.ref p),some (.ref l1),some (.ref l2),some (.ref l3),some (.int full),some (.ref l),some (.int dn),some (.int i),some (.str room),a9,a10,some (.str ask),a12]/\DI G H p c l (11 * i + 2 + 2 * i' + i'') H'')
    ⟨_,rfl,D5⟩ ?_ ?_
   ·rintro i'' σ H6 hi'' ⟨a9,rfl,D6⟩
    refine ⟨_,rfl,_,rfl,_,rfl,(by show 2 <= sizeLine; decide),fun sg hsg=>?_⟩
    have D7:=D6.new hsg (o:=.tup [.str "ask",.str ask])
    refine rd_pick (fun _ _ _ _ h=>h) rfl rfl D7.pen (D7.ex _ _ h3 n3) hr0 (by omega) fun w2 hw2 H8 hp8 ex8=>?_
    have D8:=D7.took hp8 ex8
    refine ⟨(by show 3 <= sizeLine; decide),fun dr hdr=>?_⟩
    have D9:=D8.new hdr (o:=.tup [.str room,.ref sg,.str w2])
    have hsg8:H8 sg = some (.tup [.str "ask",.str ask]):=ex8 _ _ upd_same (D6.pen.nep hsg).symm
    refine D9.put (d:=⟨room,["ask",ask],w2⟩) ⟨sg,upd_same,kp hsg8 hdr⟩ ?_ (by omega) fun H8 D8=>⟨_,rfl,D8⟩
    rw [<- hG]
    exact ⟨hmem,hw2,.inl ⟨ask,hm2,rfl⟩⟩
   ·rintro σ H6 ⟨a9,rfl,D6⟩
    exact ⟨_,_,rfl,D6.up (by omega)⟩
  rintro σ H4 ⟨a9,a11,rfl,D4'⟩
  have D4:DI G H p c l (11 * i + 10) H4:=D4'.up (by rw [List.length_map]; omega)
  clear D4'
  have hnext:∀ (H9:Hp) (a12:Option V),DI G H p c l (11 * i + 11) H9->∃ a7 a8 a9' a10' a11' a12':Option V,[some (.ref p),some (.ref l1),some (.ref l2),some (.ref l3),some (.int full),some (.ref l),some (.int dn),some (.int i),some (.str room),a9,a10,a11,a12] =
    [some (.ref p),some (.ref l1),some (.ref l2),some (.ref l3),some (.int full),some (.ref l),some (.int dn),a7,a8,a9',a10',a11',a12']/\DI G H p c l (11 * (i + 1)) H9:=fun H9 a12 D9=>⟨_,_,_,_,_,_,rfl,D9.up (by omega)⟩
  refine ⟨_,rfl,_,rfl,_,_,rfl,rfl,_,rfl,l3,_,rfl,SqL.of (D4.ex _ _ h3 n3),fun q1 hq1=>?_⟩
  have D5:=D4.new hq1 (o:=.lst (cutV (rooms.map V.str) (some ((i:Int) + 1)) none))
  refine ⟨_,rfl,_,rfl,_,rfl,l3,_,rfl,SqL.of (D5.ex _ _ h3 n3),fun q2 hq2=>?_⟩
  have e1:cutV (rooms.map V.str) (some ((i:Int) + 1)) none = (rooms.drop (i + 1)).map V.str:=cutV_from rooms (i + 1)
  rw [cutV_to]
  have D6:=D5.new hq2 (o:=.lst ((rooms.take i).map V.str))
  refine ⟨(by show 2 <= sizeLine; decide),fun q3 hq3=>?_⟩
  have D7:=D6.new hq3 (o:=.lst [.ref q1,.ref q2])
  obtain ⟨lt,q,hq,hlt,hgood⟩:∃ (lt:List Str) (q:Addr),atI [V.ref q1,.ref q2] dn = some (.ref q) /\
    upd (upd (upd H4 q1 (.lst (cutV (rooms.map V.str) (some ((i:Int) + 1)) none))) q2 (.lst ((rooms.take i).map V.str))) q3 (.lst [.ref q1,.ref q2]) q = some (.lst (lt.map V.str))/\lt.length <= 26 /\
    ∀ w ∈ lt,w ∈ rooms/\Up (decide (dn = 0)) rooms room w:=by
   have:dn = 0 ∨ dn = 1:=by omega
   rcases this with rfl | rfl
   ·refine ⟨rooms.drop (i + 1),q1,rfl,?_,by rw [List.length_drop]; omega,fun w hw=>⟨List.mem_of_mem_drop hw,?_⟩⟩
    ·refine (kp (kp upd_same hq2) hq3).trans ?_
     rw [e1]
    ·obtain ⟨n,hn⟩:=List.getElem?_of_mem hw
     rw [List.getElem?_drop] at hn
     exact ⟨i,i + 1 + n,hroom,hn,by rw [if_pos (by decide)]; omega⟩
   ·refine ⟨rooms.take i,q2,rfl,?_,by rw [List.length_take]; omega,fun w hw=>⟨List.mem_of_mem_take hw,?_⟩⟩
    ·exact kp upd_same hq3
    ·obtain ⟨n,hn⟩:=List.getElem?_of_mem hw
     have hnl:n < i:=by
      have:=(List.getElem?_eq_some_iff.mp hn).1
      rw [List.length_take] at this
      omega
     rw [List.getElem?_take_of_lt hnl] at hn
     exact ⟨i,n,hroom,hn,by rw [if_neg (by decide)]; omega⟩
  refine ⟨_,rfl,q3,_,_,_,rfl,rfl,SqL.of upd_same,hq,?_⟩
  generalize upd (upd (upd H4 q1 (.lst (cutV (rooms.map V.str) (some ((i:Int) + 1)) none))) q2 (.lst ((rooms.take i).map V.str))) q3 (.lst [.ref q1,.ref q2]) = H7 at D7 hlt ⊢
  refine ⟨_,rfl,(by show 0 <= sizeLine; decide),fun e he=>⟨.s (lt.map sDT),.s [],dIn_strs (SqL.of (kp hlt he)),dIn_nil (SqL.of upd_same),?_,by decide,_,rfl,?_⟩⟩
  ·show DT.depths (lt.map sDT) + 1 <= 8
   rw [depths_s]; decide
  have D8:=D7.new he (o:=.lst [])
  by_cases hz:lt = []
  ·have ez:(!decide (DT.s (lt.map sDT) = DT.s [])) = false:=by rw [hz,decide_eq_true (by rfl)]; rfl
   rw [ez]
   exact iteF (iteF (hnext _ _ (D8.up (by omega))))
  ·have ez:(!decide (DT.s (lt.map sDT) = DT.s [])) = true:=by
    rw [decide_eq_false (fun z=>hz (map_sDT_inj (y:=[]) (by injection z)))]; rfl
   rw [ez]
   refine iteT ?_
   refine ⟨_,rfl,take_i D8.pen (by decide) (by decide) fun r H9 r0 r1 hp9 ex9=>⟨rfl,_,rfl,?_⟩⟩
   have D9:=D8.took hp9 ex9
   refine ite2 (fun _=>?_) (fun _=>hnext _ _ (D9.up (by omega)))
   refine ⟨_,rfl,_,rfl,(by show 1 <= sizeLine; decide),fun sg hsg=>?_⟩
   have D10:=D9.new hsg (o:=.tup [.str "still"])
   have hlt10:upd H9 sg (.tup [.str "still"]) q = some (.lst (lt.map V.str)):=kp (ex9 _ _ (kp hlt he) (D8.pen.ne_strs (kp hlt he))) hsg
   refine rd_pick (fun _ _ _ _ h=>.inl h) rfl rfl D10.pen hlt10 hz (by omega) fun w2 hw2 H11 hp11 ex11=>?_
   have D11:=D10.took hp11 ex11
   refine ⟨(by show 3 <= sizeLine; decide),fun dr hdr=>?_⟩
   have D12:=D11.new hdr (o:=.tup [.str room,.ref sg,.str w2])
   have hsg11:H11 sg = some (.tup [.str "still"]):=ex11 _ _ upd_same (D9.pen.nep hsg).symm
   refine D12.put (d:=⟨room,[("still":Str)],w2⟩) ⟨sg,upd_same,kp hsg11 hdr⟩ ?_ (by omega) fun H13 D13=>hnext _ _ D13
   rw [<- hG]
   exact ⟨hmem,(hgood.2 w2 hw2).1,.inr (.inr ⟨rfl,(hgood.2 w2 hw2).2⟩)⟩
 ·rintro σ H' ⟨a7,a8,a9,a10,a11,a12,rfl,D⟩
  obtain ⟨ts,ds,g1,g2,g3,g4,g5⟩:=D.ds
  rw [List.length_map] at g5
  rw [<- hG] at g4
  exact ⟨_,rfl,k l ts ds _ H' hl g1 g2 g3 g4 (by omega) D.pen D.ex⟩
structure ModelOk (asks says rooms:List Str) (ds:List Door):Prop where
 okA:NamesOk asks
 okS:NamesOk says
 apart:∀ w ∈ says,w ∉ asks
 okR:NamesOk rooms
 asks0:asks ≠ []
 says0:says ≠ []
 rooms0:rooms ≠ []
 asks4:asks.length <= 4
 says4:says.length <= 4
 rooms26:rooms.length <= 26
 nodup:ds.Nodup
 good:∀ d ∈ ds,GoodD asks says rooms d
 few:ds.length <= 700
 noround:∀ r,¬ Reach ds r r
structure Told (H:Hp) (t l1 l2 l3 l4:Addr) (ts:List Addr) (asks says rooms:List Str) (ds:List Door):Prop where
 t:H t = some (.tup [.ref l1,.ref l2,.ref l3,.ref l4])
 a1:H l1 = some (.lst (asks.map V.str))
 a2:H l2 = some (.lst (says.map V.str))
 a3:H l3 = some (.lst (rooms.map V.str))
 a4:H l4 = some (.lst (ts.map V.ref))
 ds:Doors H ts ds
theorem Pen.ne_refs {H:Hp} {p c a:Addr} {ts:List Addr} (hp:Pen H p c) (ha:H a = some (.lst (ts.map V.ref))):a ≠ p:=by
 intro e
 obtain ⟨x,y,ns,h1,_⟩:=hp
 rw [e,h1] at ha
 injection ha with ha
 injection ha with ha
 cases ts with
 | nil=>cases ha
 | cons w ws =>
  injection ha with _ ha
  cases ws with
  | nil=>cases ha
  | cons w ws=>injection ha with ha; cases ha
theorem Told.ex {H H':Hp} {p c t l1 l2 l3 l4:Addr} {ts:List Addr} {asks says rooms:List Str} {ds:List Door} (h:Told H t l1 l2 l3 l4 ts asks says rooms ds) (hp:Pen H p c) (e:ExB p H H'):Told H' t l1 l2 l3 l4 ts asks says rooms ds:=by
 obtain ⟨xs,hx⟩:=hp.lst
 exact ⟨e.kt hx _ _ h.t,e _ _ h.a1 (hp.ne_strs h.a1),e _ _ h.a2 (hp.ne_strs h.a2),e _ _ h.a3 (hp.ne_strs h.a3),e _ _ h.a4 (hp.ne_refs h.a4),h.ds.kt (e.kt hx)⟩
theorem Told.same {H H':Hp} {t l1 l2 l3 l4:Addr} {ts:List Addr} {asks says rooms:List Str} {ds:List Door} (h:Told H t l1 l2 l3 l4 ts asks says rooms ds) (e:Same H H'):Told H' t l1 l2 l3 l4 ts asks says rooms ds :=
 ⟨e _ _ h.t,e _ _ h.a1,e _ _ h.a2,e _ _ h.a3,e _ _ h.a4,h.ds.kt (Same.kt e)⟩
def sp_model:Sp:=fun vs H Q _=>∃ (p c:Addr) (most full:Int),vs = [.ref p,.int most,.int full]/\Pen H p c/\0 < most/\most <= 25/\0 <= full/\full <= 2 /\
 ∀ (t l1 l2 l3 l4:Addr) (ts:List Addr) (asks says rooms:List Str) (ds:List Door) (H':Hp),Told H' t l1 l2 l3 l4 ts asks says rooms ds->ModelOk asks says rooms ds->rooms.length <= most.toNat->ds.length <= 600->Pen H' p c->ExB p H H'->Q (.ref t) H'
theorem at6 {r:Int} (r0:0 <= r) (r6:r < 6):∃ n:Nat,atI [V.int 0,.int 1,.int 1,.int 2,.int 2,.int 3] r = some (.int n)/\n <= 3:=by
 have:r = 0 ∨ r = 1 ∨ r = 2 ∨ r = 3 ∨ r = 4 ∨ r = 5:=by omega
 rcases this with rfl | rfl | rfl | rfl | rfl | rfl
 ·exact ⟨0,rfl,by decide⟩
 ·exact ⟨1,rfl,by decide⟩
 ·exact ⟨1,rfl,by decide⟩
 ·exact ⟨2,rfl,by decide⟩
 ·exact ⟨2,rfl,by decide⟩
 ·exact ⟨3,rfl,by decide⟩
theorem cutV_mid {ws:List Str} (hw:ws.length = 8) {n:Nat} (hn:n <= 3):cutV (ws.map V.str) (some 4) (some (5 + (n:Int))) = ((ws.drop 4).take (1 + n)).map V.str:=by
 unfold cutV
 have s1:HT.sIx (ws.map V.str).length 0 (some 4) = min 4 (ws.map V.str).length:=HT.sIx_nat _ _ 4
 have s2:HT.sIx (ws.map V.str).length (ws.map V.str).length (some (5 + (n:Int))) = min (5 + n) (ws.map V.str).length:=HT.sIx_nat _ _ (5 + n)
 rw [s1,s2,List.length_map,hw,List.map_take,List.map_drop]
 have e1:min 4 8 = 4:=by decide
 have e2:min (5 + n) 8 - 4 = 1 + n:=by omega
 rw [e1,e2]
theorem rd_model {K:PySem.W.Frag} {vs:List V} {H:Hp} {Q:VK} {E:XK} (h:sp_model vs H Q E):t_law_model K sp_draw_doors sp_names sp_take sp_anew { nx:=fun _ H'=>Q .non H',rt:=Q } (start N_law_model vs) H:=by
 obtain ⟨p,c,most,full,rfl,hp,m0,m1,f0,f2,k⟩:=h
 refine ⟨_,rfl,p,c,rfl,hp,fun H1 hp1 ex1=>?_⟩
 refine ⟨_,rfl,p,c,8,rfl,hp1,by decide,fun lw ws H2 ok len fr hl hp2 ex2=>?_⟩
 have e2:=ex1.trans ex2
 have nw:=hp2.ne_strs hl
 refine ⟨_,rfl,(by show 6 <= sizeLine; decide),fun q hq=>⟨_,rfl,take_i (hp2.ex (Same.new hq)) (by decide) (by decide) fun r H3 r0 r1 hp3 ex3=>?_⟩⟩
 obtain ⟨n,hn,n3⟩:=at6 r0 r1
 have hl3:H3 lw = some (.lst (ws.map V.str)):=ex3 _ _ (kp hl hq) nw
 refine ⟨q,_,_,_,rfl,rfl,SqL.of (ex3 _ _ upd_same (hp2.nep hq).symm),hn,_,_,rfl,rfl,_,rfl,lw,_,rfl,SqL.of hl3,fun l1 hl1=>?_⟩
 have ea:cutV (ws.map V.str) none (some (1 + (n:Int))) = (ws.take (1 + n)).map V.str:=cutV_to ws (1 + n)
 rw [ea]
 have e3:ExB p H H3:=e2.trans ((ExB.new hq).trans ex3)
 have hp4:Pen (upd H3 l1 (.lst ((ws.take (1 + n)).map V.str))) p c:=hp3.ex (Same.new hl1)
 have e4:ExB p H (upd H3 l1 (.lst ((ws.take (1 + n)).map V.str))):=e3.trans (ExB.new hl1)
 have hl4:upd H3 l1 (.lst ((ws.take (1 + n)).map V.str)) lw = some (.lst (ws.map V.str)):=kp hl3 hl1
 have ha4:upd H3 l1 (.lst ((ws.take (1 + n)).map V.str)) l1 = some (.lst ((ws.take (1 + n)).map V.str)):=upd_same
 generalize upd H3 l1 (.lst ((ws.take (1 + n)).map V.str)) = H4 at hp4 e4 hl4 ha4 ⊢
 refine ⟨_,rfl,_,rfl,(by show 6 <= sizeLine; decide),fun q hq=>⟨_,rfl,take_i (hp4.ex (Same.new hq)) (by decide) (by decide) fun r H5 r0 r1 hp5 ex5=>?_⟩⟩
 obtain ⟨m,hm,m3⟩:=at6 r0 r1
 have hl5:H5 lw = some (.lst (ws.map V.str)):=ex5 _ _ (kp hl4 hq) nw
 have ha5:H5 l1 = some (.lst ((ws.take (1 + n)).map V.str)):=ex5 _ _ (kp ha4 hq) (hp4.ne_strs ha4)
 refine ⟨q,_,_,_,rfl,rfl,SqL.of (ex5 _ _ upd_same (hp4.nep hq).symm),hm,_,_,rfl,rfl,_,rfl,lw,_,rfl,SqL.of hl5,fun l2 hl2=>?_⟩
 rw [cutV_mid len m3]
 have e5:ExB p H H5:=e4.trans ((ExB.new hq).trans ex5)
 have hp6:Pen (upd H5 l2 (.lst (((ws.drop 4).take (1 + m)).map V.str))) p c:=hp5.ex (Same.new hl2)
 have e6:ExB p H (upd H5 l2 (.lst (((ws.drop 4).take (1 + m)).map V.str))):=e5.trans (ExB.new hl2)
 have ha6:upd H5 l2 (.lst (((ws.drop 4).take (1 + m)).map V.str)) l1 = some (.lst ((ws.take (1 + n)).map V.str)):=kp ha5 hl2
 have hb6:upd H5 l2 (.lst (((ws.drop 4).take (1 + m)).map V.str)) l2 = some (.lst (((ws.drop 4).take (1 + m)).map V.str)):=upd_same
 generalize upd H5 l2 (.lst (((ws.drop 4).take (1 + m)).map V.str)) = H6 at hp6 e6 ha6 hb6 ⊢
 refine ⟨_,rfl,_,rfl,_,rfl,take_i hp6 m0 (by omega) fun r H7 r0 r1 hp7 ex7=>?_⟩
 obtain ⟨rn,rfl⟩:=Int.eq_ofNat_of_zero_le r0
 have ha7:=ex7 _ _ ha6 (hp6.ne_strs ha6)
 have hb7:=ex7 _ _ hb6 (hp6.ne_strs hb6)
 refine ⟨_,_,rfl,rfl,p,c,1 + rn,rfl,hp7,by omega,fun l3 rooms H8 okr lenr fr3 hl3' hp8 ex8=>?_⟩
 have ha8:=ex8 _ _ ha7 (hp7.ne_strs ha7)
 have hb8:=ex8 _ _ hb7 (hp7.ne_strs hb7)
 have hs0:(ws.drop 4).take (1 + m) ≠ []:=by
  intro z
  have:=congrArg List.length z
  rw [List.length_take,List.length_drop,len] at this
  simp at this
 have ha0:ws.take (1 + n) ≠ []:=by
  intro z
  have:=congrArg List.length z
  rw [List.length_take,len] at this
  simp at this
 have hr0:rooms ≠ []:=by
  intro z
  rw [z] at lenr
  simp at lenr
  omega
 refine ⟨_,rfl,_,rfl,_,rfl,_,rfl,_,rfl,p,c,l1,l2,l3,_,_,rooms,full,rfl,hp8,ha8,hb8,hl3',by rw [List.length_take]; omega,hs0,by rw [List.length_take]; omega,hr0,by omega,f0,f2,fun l4 ts ds up H9 fr4 hl4' hds nod good few hp9 ex9=>?_⟩
 have ha9:=ex9 _ _ ha8 (hp8.ne_strs ha8)
 have hb9:=ex9 _ _ hb8 (hp8.ne_strs hb8)
 have hc9:=ex9 _ _ hl3' (hp8.ne_strs hl3')
 refine ⟨_,rfl,_,rfl,_,rfl,_,rfl,(by show 4 <= sizeLine; decide),fun t ht=>k t l1 l2 l3 l4 ts _ _ rooms ds _ ⟨upd_same,kp ha9 ht,kp hb9 ht,kp hc9 ht,kp hl4' ht,hds.kt (Same.kt (Same.new ht))⟩ ?_ ?_ few (hp9.ex (Same.new ht)) ?_⟩
 ·refine ⟨⟨?_,fun w h=>ok.2 w (List.mem_of_mem_take h)⟩,⟨?_,fun w h=>ok.2 w (List.mem_of_mem_drop (List.mem_of_mem_take h))⟩,?_,okr,ha0,hs0,hr0,by rw [List.length_take]; omega,by rw [List.length_take]; omega,by omega,nod,fun d hd=>(good d hd).d,by omega,fun r z=>(up_reach okr.1 good z).irr okr.1⟩
  ·exact ok.1.sublist (List.take_sublist _ _)
  ·exact ok.1.sublist ((List.take_sublist _ _).trans (List.drop_sublist _ _))
  ·intro w h1 h2
   have h3:w ∈ ws.drop 4:=List.mem_of_mem_take h1
   have h4:w ∈ ws.take 4:=by
    have:ws.take (1 + n) = (ws.take 4).take (1 + n):=by rw [List.take_take]; congr 1; omega
    rw [this] at h2
    exact List.mem_of_mem_take h2
   have:=ok.1
   rw [<- List.take_append_drop 4 ws,List.nodup_append] at this
   exact this.2.2 w h4 w h3 rfl
 ·omega
 ·exact (((e6.trans ex7).trans ex8).trans ex9).trans (ExB.new ht)
theorem strs_get {ws:List Str} {i:Nat} {x:V} (h:(ws.map V.str)[i]? = some x):∃ w,ws[i]? = some w/\x = .str w:=by
 rw [List.getElem?_map] at h
 cases q:ws[i]? with
 | none=>rw [q] at h; cases h
 | some r=>rw [q] at h; exact ⟨r,rfl,(Option.some.inj h).symm⟩
theorem take_snoc {α:Type} {ws:List α} {i:Nat} {w:α} (h:ws[i]? = some w):ws.take (i + 1) = ws.take i ++ [w]:=by
 obtain ⟨hi,rfl⟩:=List.getElem?_eq_some_iff.mp h
 rw [List.take_succ_eq_append_getElem hi]
def nameB (w:Str):Bool:=!decide (w = ("":Str)) && (decide (w.length <= 8) && w.cps.toList.all fun c=>decide (c ∈ ("abcdefghijklmnopqrstuvwxyz":Str).cps.toList))
theorem IsName.b {w:Str} (h:IsName w):nameB w = true:=by
 unfold nameB
 have h1:¬ (w = ("":Str)):=fun e=>by
  have:=h.lo
  rw [e] at this
  exact absurd this (by decide +kernel)
 rw [decide_eq_false h1,decide_eq_true h.hi,Bool.not_false,Bool.true_and,Bool.true_and,List.all_eq_true]
 intro c hc
 obtain ⟨c1,c2⟩:=h.al c hc
 refine decide_eq_true ?_
 have:=abc_get (c - 97) (by omega)
 have e:97 + (c - 97) = c:=by omega
 rw [e] at this
 exact List.mem_of_getElem? this
@[irreducible] def sp_is_name:Sp:=fun vs H Q _=>∃ w:Str,vs = [.str w]/\w.length <= 1000/\∀ H',Same H H'->Q (.bl (nameB w)) H'
theorem rd_is_name {K:PySem.W.Frag} {vs:List V} {H:Hp} {Q:VK} {E:XK} (h:sp_is_name vs H Q E):t_is_name K { nx:=fun _ H'=>Q .non H',rt:=Q } (start N_is_name vs) H:=by
 unfold sp_is_name at h
 obtain ⟨w,rfl,hz,k⟩:=h
 refine ⟨_,rfl,rfl,_,rfl,?_⟩
 have ed:(!decide (V.str w = V.str ("":Str))) = !decide (w = ("":Str)):=by
  congr 1
  by_cases e:w = ("":Str)
  ·rw [decide_eq_true e,decide_eq_true (by rw [e])]
  ·rw [decide_eq_false e,decide_eq_false (fun z=>e (by injection z))]
 rw [ed]
 refine ite2 (fun h1=>?_) (fun h1=>?_)
 ·refine ⟨_,rfl,.inr ⟨w,rfl,Nat.le_of_lt (small1000 hz),_,_,rfl,rfl,_,rfl,?_⟩⟩
  refine ite2 (fun h2=>?_) (fun h2=>?_)
  ·refine ⟨_,rfl,w,rfl,fun l hl=>?_⟩
   refine comp_str (fun i vs H'=>vs = ((w.cps.toList.take i).map fun c=>V.bl (decide (c ∈ ("abcdefghijklmnopqrstuvwxyz":Str).cps.toList)))/\Same H H'/\H' l = some (.lst vs))
    ⟨rfl,Same.new hl,upd_same⟩ (fun i vs H' _ h=>h.2.2) ?_ ?_
   ·rintro vs H' ⟨rfl,hS,hl'⟩
    refine ⟨l,w.cps.toList.map fun c=>decide (c ∈ ("abcdefghijklmnopqrstuvwxyz":Str).cps.toList),rfl,SqL.of ?_,?_⟩
    ·rw [hl',List.map_map]
     have:w.cps.toList.take w.cps.size = w.cps.toList:=by
      rw [List.take_of_length_le]; simp
     rw [this]
     rfl
    ·have:=k H' hS
     have h2':decide (w.length <= 8) = true:=decide_eq_true (by have:=of_decide_eq_true h2; omega)
     unfold nameB at this
     rw [h1,h2',Bool.true_and,Bool.true_and] at this
     rw [List.all_map]
     exact this
   ·rintro i vs H' c hc hi ⟨rfl,hS,hl'⟩
    refine gN (yesT ?_)
    refine ⟨_,rfl,c,_,rfl,rfl,hl',?_,nxt hi ⟨?_,?_,upd_same⟩⟩
    ·rw [List.length_map,List.length_take]
     have:w.length = w.cps.toList.length:=str_len w
     exact small1000 (by omega)
    ·rw [take_snoc (by rw [<- hc]; simp),List.map_append]
     rfl
    ·intro b o e
     rw [upd_ne (ne_of_none e hl)]
     exact hS b o e
  ·have:=k H (Same.refl H)
   have h2':decide (w.length <= 8) = false:=decide_eq_false (fun z=>h2 (decide_eq_true (by omega)))
   unfold nameB at this
   rw [h1,h2',Bool.true_and,Bool.false_and] at this
   exact this
 ·have:=k H (Same.refl H)
  unfold nameB at this
  rw [Bool.eq_false_iff.mpr h1,Bool.false_and] at this
  exact this
def keysOf (ws:List Str):List (Key × V):=ws.foldl (fun acc w=>putK acc (.inr w) (.bl true)) []
theorem keysOf_snoc (ws:List Str) (w:Str):keysOf (ws ++ [w]) = putK (keysOf ws) (.inr w) (.bl true):=by
 unfold keysOf
 rw [List.foldl_append]
 rfl
theorem putK_len {κ:Type} [DecidableEq κ] (kvs:List (κ × V)) (k:κ) (v:V):(putK kvs k v).length <= kvs.length + 1:=by
 unfold putK
 split
 ·rw [List.length_map]; omega
 ·rw [List.length_append]; exact Nat.le_refl _
theorem take_all {α:Type} (P:List α->Prop) (h0:P []) (hs:∀ ws w,P ws->P (ws ++ [w])) (ws:List α):P ws:=by
 have:∀ n (ws:List α),ws.length = n->P ws:=by
  intro n
  induction n with
  | zero=>intro ws h; rw [List.length_eq_zero_iff.mp h]; exact h0
  | succ n ih =>
   intro ws h
   have hne:ws ≠ []:=fun z=>by rw [z] at h; cases h
   rw [<- List.dropLast_concat_getLast hne]
   exact hs _ _ (ih _ (by rw [List.length_dropLast,h]; rfl))
 exact this _ ws rfl
theorem keysOf_len (ws:List Str):(keysOf ws).length <= ws.length:=by
 refine take_all (fun ws=>(keysOf ws).length <= ws.length) (Nat.le_refl _) (fun ws w h=>?_) ws
 show (keysOf (ws ++ [w])).length <= (ws ++ [w]).length
 rw [keysOf_snoc,List.length_append]
 have:=putK_len (keysOf ws) (.inr w) (.bl true)
 show _ <= ws.length + 1
 omega
theorem keysOf_val (ws:List Str) (x:Str):valV (keysOf ws) (.inr x) = if x ∈ ws then some (.bl true) else none:=by
 refine take_all (fun ws=>valV (keysOf ws) (.inr x) = if x ∈ ws then some (.bl true) else none) rfl (fun ws w h=>?_) ws
 show valV (keysOf (ws ++ [w])) (.inr x) = _
 rw [keysOf_snoc,valV_put,h]
 by_cases e:x = w
 ·subst e
  rw [if_pos rfl,if_pos (by simp)]
 ·have e1:¬ ((Sum.inr x:Key) = .inr w):=fun z=>e (by injection z)
  rw [if_neg e1]
  by_cases m:x ∈ ws
  ·rw [if_pos m,if_pos (List.mem_append_left _ m)]
  ·rw [if_neg m,if_neg (fun z=>by rcases List.mem_append.mp z with z | z; exact m z; exact e (by simpa using z))]
theorem keysOf_is (ws:List Str) (x:Str):(valV (keysOf ws) (.inr x)).isSome = decide (x ∈ ws):=by
 rw [keysOf_val]
 by_cases m:x ∈ ws
 ·rw [if_pos m,decide_eq_true m]; rfl
 ·rw [if_neg m,decide_eq_false m]; rfl
@[irreducible] def sp_as_keys (K:PySem.W.Frag):Sp:=fun vs H Q _=>∃ (l:Addr) (ws:List Str),vs = [.ref l]/\SqL K H l (ws.map V.str)/\ws.length <= 1000/\∀ d,H d = none->Q (.ref d) (upd H d (.dK (keysOf ws)))
theorem rd_as_keys {K:PySem.W.Frag} {vs:List V} {H:Hp} {Q:VK} {E:XK} (h:sp_as_keys K vs H Q E):t_as_keys K { nx:=fun _ H'=>Q .non H',rt:=Q } (start N_as_keys vs) H:=by
 unfold sp_as_keys at h
 obtain ⟨l,ws,rfl,hl,hz,k⟩:=h
 refine fun d hd=>?_
 have key:∀ kvs,SqL K (upd H d (.dK kvs)) l (ws.map V.str):=fun kvs=>(Same.new hd).seq hl
 refine ⟨_,rfl,l,rfl,⟨_,key _⟩,?_⟩
 refine for_list (xs:=ws.map V.str) (fun i σ H'=>∃ x,σ = [some (.ref l),some (.ref d),x]/\H' = upd H d (.dK (keysOf (ws.take i)))) ⟨_,rfl,rfl⟩ (fun i σ H' _ ⟨_,_,e⟩=>by rw [e]; exact key _) ?_ ?_
 ·rintro i x σ H' hi ⟨y,rfl,rfl⟩
  obtain ⟨w,hw,rfl⟩:=strs_get hi
  have hlen:(keysOf (ws.take i)).length < sizeLine:=small1000 (Nat.le_trans (keysOf_len _) (by rw [List.length_take]; omega))
  refine ⟨_,rfl,_,rfl,d,_,rfl,.inl ⟨_,.inr w,upd_same,rfl,hlen,rfl⟩,_,rfl,?_⟩
  rw [upd_upd,take_snoc hw,keysOf_snoc]
 ·rintro σ H' ⟨x,rfl,rfl⟩
  rw [List.length_map,List.take_length]
  exact ⟨_,rfl,k d hd⟩
def fwn (most:Nat):Nat->List Str->List Str->Option Nat
 | _,_,[]=>none
 | i,ahead,n :: ns=>if i = most ∨ n ∈ ahead ∨ nameB n = false then some i else fwn most (i + 1) (ahead ++ [n]) ns
def firstWrongName (names:List Str) (most:Nat) (taken:List Str):Option Nat:=if names = [] then some 0 else fwn most 0 taken names
def oV:Option Nat->V
 | none=>.non
 | some i=>.int i
def sp_first_wrong_name (K:PySem.W.Frag):Sp:=fun vs H Q _=>∃ (l t:Addr) (names taken:List Str) (most:Nat),vs = [.ref l,.int most,.ref t]/\SqL K H l (names.map V.str)/\SqL K H t (taken.map V.str)/\names.length + taken.length <= 1000 /\
 (∀ w ∈ names,w.length <= 1000)/\∀ H',Same H H'->Q (oV (firstWrongName names most taken)) H'
theorem as_keys_i {K:PySem.W.Frag} {H:Hp} {Q:VK} {E:XK} {l:Addr} {ws:List Str} (hl:SqL K H l (ws.map V.str)) (hz:ws.length <= 1000) (k:∀ d,H d = none->Q (.ref d) (upd H d (.dK (keysOf ws)))):sp_as_keys K [.ref l] H Q E:=by
 unfold sp_as_keys
 exact ⟨l,ws,rfl,hl,hz,k⟩
theorem is_name_i {H:Hp} {Q:VK} {E:XK} {w:Str} (hz:w.length <= 1000) (k:∀ H',Same H H'->Q (.bl (nameB w)) H'):sp_is_name [.str w] H Q E:=by
 unfold sp_is_name
 exact ⟨w,rfl,hz,k⟩
theorem rd_first_wrong_name {K:PySem.W.Frag} {vs:List V} {H:Hp} {Q:VK} {E:XK} (h:sp_first_wrong_name K vs H Q E):t_first_wrong_name K sp_is_name (sp_as_keys K) { nx:=fun _ H'=>Q .non H',rt:=Q } (start N_first_wrong_name vs) H:=by
 obtain ⟨l,t,names,taken,most,rfl,hl,ht,hz,hw,k⟩:=h
 refine ⟨_,rfl,.inl ⟨l,_,rfl,.inl hl,rfl,_,rfl,?_⟩⟩
 by_cases h0:names = []
 ·subst h0
  refine iteT ?_
  have:=k H (Same.refl H)
  exact this
 have e0:decide (V.int ((names.map V.str).length:Nat) = V.int 0) = false:=decide_eq_false (fun z=>h0 (by
  injection z with z
  rw [List.length_map] at z
  exact List.length_eq_zero_iff.mp (by omega)))
 rw [e0]
 refine iteF ?_
 have hk:∀ H',Same H H'->Q (oV (fwn most 0 taken names)) H':=by
  unfold firstWrongName at k
  rw [if_neg h0] at k
  exact k
 refine ⟨_,rfl,as_keys_i ht (by omega) fun d hd=>?_⟩
 refine ⟨_,rfl,l,rfl,⟨_,(Same.new hd).seq hl⟩,?_⟩
 refine for_enum (xs:=names.map V.str) (fun i σ H'=>∃ x y,σ = [some (.ref l),some (.int most),some (.ref t),some (.ref d),x,y]/\Same H H'/\H' d = some (.dK (keysOf (taken ++ names.take i)))/\fwn most i (taken ++ names.take i) (names.drop i) = fwn most 0 taken names)
  ⟨_,_,rfl,Same.new hd,by rw [List.take_zero,List.append_nil]; exact upd_same,by rw [List.take_zero,List.append_nil,List.drop_zero]⟩ (fun i σ H' _ ⟨_,_,_,hS,_⟩=>hS.seq hl) ?_ ?_
 ·rintro i x σ H' q hi ⟨x4,x5,rfl,hS,hd',hf⟩ hq
  obtain ⟨w,hw',rfl⟩:=strs_get hi
  have hil:i < names.length:=(List.getElem?_eq_some_iff.mp hw').1
  have ed:names.drop i = w :: names.drop (i + 1):=by
   rw [List.drop_eq_getElem_cons hil]
   congr 1
   exact (List.getElem?_eq_some_iff.mp hw').2
  rw [ed] at hf
  have hd2:upd H' q (.tup [.int i,.str w]) d = some (.dK (keysOf (taken ++ names.take i))):=kp hd' hq
  have hS2:Same H (upd H' q (.tup [.int i,.str w])):=hS.trans (Same.new hq)
  have hww:w.length <= 1000:=hw w (List.mem_of_getElem? hw')
  refine ⟨q,_,rfl,SqT.of upd_same,rfl,_,_,rfl,_,_,rfl,rfl,?_⟩
  generalize upd H' q (.tup [.int i,.str w]) = H2 at hd2 hS2 ⊢
  refine ⟨_,rfl,_,rfl,rfl,_,rfl,?_⟩
  by_cases c1:i = most
  ·have e1:decide (V.int (i:Nat) = V.int (most:Nat)) = true:=decide_eq_true (by rw [c1])
   rw [e1]
   refine iteT (iteT ?_)
   refine ⟨_,rfl,?_⟩
   have:=hk H2 hS2
   rw [<- hf] at this
   unfold fwn at this
   rw [if_pos (.inl c1)] at this
   exact this
  have e1:decide (V.int (i:Nat) = V.int (most:Nat)) = false:=decide_eq_false (fun z=>c1 (by injection z with z; omega))
  rw [e1]
  refine iteF ?_
  refine ⟨_,rfl,_,rfl,d,_,rfl,.inl ⟨_,.inr w,.inl hd2,rfl,rfl⟩,_,rfl,?_⟩
  rw [keysOf_is]
  by_cases c2:w ∈ taken ++ names.take i
  ·rw [decide_eq_true c2]
   refine iteT (iteT ?_)
   refine ⟨_,rfl,?_⟩
   have:=hk H2 hS2
   rw [<- hf] at this
   unfold fwn at this
   rw [if_pos (.inr (.inl c2))] at this
   exact this
  rw [decide_eq_false c2]
  refine iteF ?_
  refine ⟨_,rfl,is_name_i hww fun H3 hS3=>⟨_,rfl,?_⟩⟩
  have hd3:=hS3 _ _ hd2
  cases c3:nameB w with
  | false =>
   refine iteT ?_
   refine ⟨_,rfl,?_⟩
   have:=hk H3 (hS2.trans hS3)
   rw [<- hf] at this
   unfold fwn at this
   rw [if_pos (.inr (.inr c3))] at this
   exact this
  | true =>
   refine iteF ?_
   have hlen:(keysOf (taken ++ names.take i)).length < sizeLine:=small1000 (Nat.le_trans (keysOf_len _) (by rw [List.length_append,List.length_take]; omega))
   refine ⟨_,rfl,_,rfl,d,_,rfl,.inl ⟨_,.inr w,hd3,rfl,hlen,rfl⟩,_,_,rfl,?_,?_,?_⟩
   ·intro b o e
    rw [upd_ne (ne_of_none e hd)]
    exact hS3 _ _ (hS2 _ _ e)
   ·rw [upd_same,take_snoc hw',<- List.append_assoc,keysOf_snoc]
   ·rw [<- hf,take_snoc hw',<- List.append_assoc]
    conv=>rhs; unfold fwn
    rw [if_neg]
    rintro (z | z | z)
    ·exact c1 z
    ·exact c2 z
    ·rw [c3] at z; cases z
 ·rintro σ H' ⟨x,y,rfl,hS,_,hf⟩
  rw [List.length_map,List.drop_length] at hf
  have:=hk H' hS
  rw [<- hf] at this
  exact this
theorem fwn_none {most:Nat}:∀ (ns ahead:List Str) (i:Nat),i + ns.length <= most->(ahead ++ ns).Nodup->(∀ w ∈ ns,IsName w)->fwn most i ahead ns = none
 | [],_,_,_,_,_=>rfl
 | n :: ns,ahead,i,h1,h2,h3=>by
  rw [List.length_cons] at h1
  unfold fwn
  rw [if_neg]
  ·refine fwn_none ns (ahead ++ [n]) (i + 1) (by omega) (by rw [List.append_assoc]; exact h2) fun w hw=>h3 w (List.mem_cons_of_mem _ hw)
  ·rintro (z | z | z)
   ·omega
   ·rw [List.nodup_append] at h2
    exact h2.2.2 n z n (List.mem_cons_self) rfl
   ·rw [(h3 n List.mem_cons_self).b] at z; cases z
theorem firstWrong_none {most:Nat} {ns taken:List Str} (h0:ns ≠ []) (h1:ns.length <= most) (h2:(taken ++ ns).Nodup) (h3:∀ w ∈ ns,IsName w):firstWrongName ns most taken = none:=by
 unfold firstWrongName
 rw [if_neg h0]
 exact fwn_none ns taken 0 (by omega) h2 h3
theorem small9000 {n:Nat} (h:n <= 9000):n < sizeLine:=Nat.lt_of_le_of_lt h (by decide)
def sTK (x:Str):TK:=.k (.inr x)
def gTK (sg:List Str):TK:=.t (sg.map sTK)
def dTK (d:Door):TK:=.t [sTK d.a,gTK d.sg,sTK d.b]
theorem sTK_inj {x y:Str} (h:sTK x = sTK y):x = y:=by
 unfold sTK at h
 injection h with h
 injection h
theorem map_sTK_inj:∀ {x y:List Str},x.map sTK = y.map sTK->x = y
 | [],[],_=>rfl
 | [],_ :: _,h=>by cases h
 | _ :: _,[],h=>by cases h
 | a :: x,b :: y,h=>by
  rw [List.map_cons,List.map_cons] at h
  injection h with h1 h2
  rw [sTK_inj h1,map_sTK_inj h2]
theorem gTK_inj {x y:List Str} (h:gTK x = gTK y):x = y:=by
 unfold gTK at h
 injection h with h
 exact map_sTK_inj h
theorem dTK_inj {x y:Door} (h:dTK x = dTK y):x = y:=by
 unfold dTK at h
 injection h with h
 injection h with h1 h
 injection h with h2 h
 injection h with h3 h
 cases x; cases y
 simp only at *
 rw [sTK_inj h1,gTK_inj h2,sTK_inj h3]
theorem tkdepths_s (xs:List Str):TK.depths (xs.map sTK) = 0:=by
 induction xs with
 | nil=>rfl
 | cons x xs ih=>rw [List.map_cons]; show max (TK.depth (sTK x)) (TK.depths _) = 0; rw [ih]; rfl
theorem tkdepth_g (sg:List Str):(gTK sg).depth = 1:=by
 show TK.depths (sg.map sTK) + 1 = 1
 rw [tkdepths_s]
theorem tkdepth_d (d:Door):(dTK d).depth = 2:=by
 show max (TK.depth (sTK d.a)) (max (TK.depth (gTK d.sg)) (max (TK.depth (sTK d.b)) 0)) + 1 = 2
 rw [tkdepth_g]
 rfl
theorem tkAts_s {H:Hp}:∀ xs:List Str,TKAts H (xs.map sTK) (xs.map V.str)
 | []=>by show TKAts H [] []; unfold TKAts; rfl
 | x :: xs=>by
  rw [List.map_cons,List.map_cons]
  unfold TKAts
  refine ⟨_,_,rfl,?_,tkAts_s xs⟩
  unfold sTK TKAt
  rfl
theorem tkAt_s {H:Hp} (x:Str):TKAt H (sTK x) (.str x):=by unfold sTK TKAt; rfl
theorem SignAt.tk {H:Hp} {s:Addr} {sg:List Str} (h:SignAt H s sg):TKAt H (gTK sg) (.ref s):=by
 unfold gTK TKAt
 exact ⟨s,_,rfl,h,tkAts_s _⟩
theorem DoorAt.tk {H:Hp} {t:Addr} {d:Door} (h:DoorAt H t d):TKAt H (dTK d) (.ref t):=by
 obtain ⟨s,h1,h2⟩:=h
 unfold dTK TKAt
 refine ⟨t,_,rfl,h1,?_⟩
 unfold TKAts
 refine ⟨_,_,rfl,tkAt_s _,?_⟩
 unfold TKAts
 refine ⟨_,_,rfl,SignAt.tk h2,?_⟩
 unfold TKAts
 refine ⟨_,_,rfl,tkAt_s _,?_⟩
 unfold TKAts
 rfl
section
variable {κ:Type} [DecidableEq κ]
def keysG (ks:List κ):List (κ × V):=ks.foldl (fun acc k=>putK acc k (.bl true)) []
theorem keysG_snoc (ws:List κ) (w:κ):keysG (ws ++ [w]) = putK (keysG ws) w (.bl true):=by
 unfold keysG
 rw [List.foldl_append]
 rfl
theorem keysG_len (ws:List κ):(keysG ws).length <= ws.length:=by
 refine take_all (fun ws=>(keysG ws).length <= ws.length) (Nat.le_refl _) (fun ws w h=>?_) ws
 show (keysG (ws ++ [w])).length <= (ws ++ [w]).length
 rw [keysG_snoc,List.length_append]
 have:=putK_len (keysG ws) w (.bl true)
 show _ <= ws.length + 1
 omega
theorem keysG_is (ws:List κ) (x:κ):(valV (keysG ws) x).isSome = decide (x ∈ ws):=by
 refine take_all (fun ws=>(valV (keysG ws) x).isSome = decide (x ∈ ws)) rfl (fun ws w h=>?_) ws
 show (valV (keysG (ws ++ [w])) x).isSome = _
 rw [keysG_snoc,valV_put]
 by_cases e:x = w
 ·subst e
  rw [if_pos rfl,decide_eq_true (by simp)]
  rfl
 ·rw [if_neg e,h]
  by_cases m:x ∈ ws
  ·rw [decide_eq_true m,decide_eq_true (List.mem_append_left _ m)]
  ·rw [decide_eq_false m,decide_eq_false (fun z=>by rcases List.mem_append.mp z with z | z; exact m z; exact e (by simpa using z))]
end
theorem mem_dTK {d:Door} {ds:List Door}:dTK d ∈ ds.map dTK ↔ d ∈ ds:=by
 constructor
 ·intro h
  obtain ⟨x,hx,e⟩:=List.mem_map.mp h
  rw [<- dTK_inj e]; exact hx
 ·exact List.mem_map_of_mem
def SignOf (K:PySem.W.Frag) (H:Hp) (v:V) (sg:List Str):Prop:=∃ s,v = .ref s/\SqT K H s (sg.map V.str)
theorem Same.sqT {K:PySem.W.Frag} {H H':Hp} {a:Addr} {xs:List V} (e:Same H H') (h:SqT K H a xs):SqT K H' a xs:=by
 rcases h with (h | ⟨o,h⟩) | h
 ·exact .inl (.inl (e _ _ h))
 ·exact .inl (.inr ⟨o,e _ _ h⟩)
 ·exact .inr h
theorem Signs.same {K:PySem.W.Frag} {H H':Hp} (e:Same H H') {xs:List V} {sgs:List (List Str)} (h:Paired (SignOf K H) xs sgs):Paired (SignOf K H') xs sgs :=
 Paired.mapP h fun _ _ ⟨s,h1,h2⟩=>⟨s,h1,Same.sqT e h2⟩
def gDT (sg:List Str):DT:=.t (sg.map sDT)
theorem gDT_inj {x y:List Str} (h:gDT x = gDT y):x = y:=by
 unfold gDT at h
 injection h with h
 exact map_sDT_inj h
theorem depth_g (sg:List Str):(gDT sg).depth = 1:=by
 show DT.depths (sg.map sDT) + 1 = 1
 rw [depths_s]
theorem depths_gs (sgs:List (List Str)):DT.depths (sgs.map gDT) <= 8:=by
 induction sgs with
 | nil=>exact Nat.zero_le _
 | cons x xs ih=>rw [List.map_cons]; show max (DT.depth (gDT x)) (DT.depths _) <= 8; rw [depth_g]; omega
theorem Signs.dIns {K:PySem.W.Frag} {H:Hp}:∀ {xs:List V} {sgs:List (List Str)},Paired (SignOf K H) xs sgs->DIns K H (sgs.map gDT) xs
 | _,_,.nil=>by show DIns K H [] []; unfold DIns; rfl
 | _,_,.cons ⟨s,e,r⟩ t=>by
  rw [List.map_cons]
  unfold DIns
  refine ⟨_,_,rfl,?_,Signs.dIns t⟩
  rw [e]
  exact dIn_sign r
theorem mem_gDT {d:List Str} {ds:List (List Str)}:gDT d ∈ ds.map gDT ↔ d ∈ ds:=by
 constructor
 ·intro h
  obtain ⟨x,hx,e⟩:=List.mem_map.mp h
  rw [<- gDT_inj e]; exact hx
 ·exact List.mem_map_of_mem
theorem Paired.app {α β:Type} {R:α->β->Prop}:∀ {a:List α} {b:List β} {c:List α} {d:List β},Paired R a b->Paired R c d->Paired R (a ++ c) (b ++ d)
 | _,_,_,_,.nil,h=>h
 | _,_,_,_,.cons r t,h=>.cons r (Paired.app t h)
def askSg (w:Str):List Str:=[("ask":Str),w]
def saySg (w:Str):List Str:=[("say":Str),w]
def doorSigns (asks says:List Str):List (List Str):=asks.map askSg ++ says.map saySg ++ [stillSg]
theorem signs_comp {K:PySem.W.Frag} {kw:Str} {σ:L2.St} {H:Hp} {a l:Addr} {ws:List Str} {Q:Hp->Prop} (ha:H a = some (.lst (ws.map V.str))) (hl:H l = none) (hz:ws.length <= 1000)
  (k:∀ (xs:List V) (H':Hp),Paired (SignOf K H') xs (ws.map fun w=>[kw,w])->Same H H'->H' l = some (.lst xs)->Q H') :
  CompLoop 1 [] σ (Itl K a) (gName 0) tYes (tTup (tCons (tC (.str kw)) (tCons (tVar 0) tNil))) H l Q:=by
 refine comp_list (xs:=ws.map V.str) (fun i vs H'=>Paired (SignOf K H') vs ((ws.take i).map fun w=>[kw,w])/\Same H H'/\H' l = some (.lst vs))
  ⟨.nil,Same.new hl,upd_same⟩ (fun i vs H' _ ⟨_,hS,h'⟩=>⟨h',SqL.of (hS _ _ ha)⟩) ?_ ?_
 ·rintro vs H' ⟨h1,h2,h3⟩
  rw [List.length_map,List.take_length] at h1
  exact k vs H' h1 h2 h3
 ·rintro i vs H' x hx hi ⟨h1,h2,h3⟩
  obtain ⟨w,hw,rfl⟩:=strs_get hx
  refine gN (yesT ?_)
  refine ⟨_,rfl,(by show 2 <= sizeLine; decide),fun t ht=>⟨kp h3 ht,?_,nxt hi ⟨?_,?_,upd_same⟩⟩⟩
  ·rw [Paired.length h1,List.length_map,List.length_take]; exact small1000 (by omega)
  ·rw [take_snoc hw,List.map_append]
   have hS2:KT0 (upd H' t (.tup [.str kw,.str w])) (upd (upd H' t (.tup [.str kw,.str w])) l (.lst (vs ++ [.ref t]))):=kt_upd (kp h3 ht)
   have hS3:KT0 H' (upd (upd H' t (.tup [.str kw,.str w])) l (.lst (vs ++ [.ref t]))):=(Same.kt (Same.new ht)).trans hS2
   refine Paired.app (Paired.mapP h1 fun v sg ⟨s,e1,e2⟩=>⟨s,e1,?_⟩) (.cons ⟨t,rfl,SqT.of (hS2 _ _ upd_same)⟩ .nil)
   rcases e2 with (e2 | ⟨o,e2⟩) | e2
   ·exact .inl (.inl (hS3 _ _ e2))
   ·refine .inl (.inr ⟨o,?_⟩)
    rw [upd_ne (fun z=>by rw [z,h3] at e2; cases e2)]
    exact kp e2 ht
   ·exact .inr e2
  ·intro b o e
   rw [upd_ne (ne_of_none e hl)]
   exact kp (h2 _ _ e) ht
def sp_door_signs (K:PySem.W.Frag):Sp:=fun vs H Q _=>∃ (l1 l2:Addr) (asks says:List Str),vs = [.ref l1,.ref l2]/\H l1 = some (.lst (asks.map V.str))/\H l2 = some (.lst (says.map V.str))/\asks.length <= 100/\says.length <= 100 /\
 ∀ (l:Addr) (xs:List V) (H':Hp),Paired (SignOf K H') xs (doorSigns asks says)->Same H H'->H' l = some (.lst xs)->Q (.ref l) H'
theorem rd_door_signs {K:PySem.W.Frag} {st:Addr} (hst:∀ H,SqT K H st (stillSg.map V.str)) {vs:List V} {H:Hp} {Q:VK} {E:XK} (h:sp_door_signs K vs H Q E):t_door_signs K st { nx:=fun _ H'=>Q .non H',rt:=Q } (start N_door_signs vs) H:=by
 obtain ⟨l1,l2,asks,says,rfl,h1,h2,z1,z2,k⟩:=h
 refine ⟨_,rfl,l1,rfl,⟨_,SqL.of h1⟩,fun a ha=>?_⟩
 refine signs_comp h1 ha (by omega) fun xs1 H1 p1 s1 g1=>?_
 refine ⟨_,rfl,l2,rfl,⟨_,SqL.of (s1 _ _ h2)⟩,fun b hb=>?_⟩
 refine signs_comp (s1 _ _ h2) hb (by omega) fun xs2 H2 p2 s2 g2=>?_
 have len1:xs1.length <= 100:=by rw [Paired.length p1,List.length_map]; exact z1
 have len2:xs2.length <= 100:=by rw [Paired.length p2,List.length_map]; exact z2
 refine ⟨a,b,xs1,xs2,rfl,rfl,s2 _ _ g1,g2,Nat.le_of_lt (small1000 (by omega)),fun c hc=>?_⟩
 refine ⟨(by show 1 <= sizeLine; decide),fun d hd=>?_⟩
 refine ⟨c,d,_,_,rfl,rfl,kp upd_same hd,upd_same,?_,fun e he=>k e _ _ ?_ ?_ upd_same⟩
 ·rw [List.length_append]
  show _ + 1 <= sizeLine
  exact Nat.le_of_lt (small1000 (by omega))
 ·have sx:Same H2 (upd (upd (upd H2 c (.lst (xs1 ++ xs2))) d (.lst [.ref st])) e (.lst (xs1 ++ xs2 ++ [.ref st]))):=((Same.new hc).trans (Same.new hd)).trans (Same.new he)
  exact Paired.app (Paired.app (Signs.same (s2.trans sx) p1) (Signs.same sx p2)) (.cons ⟨st,rfl,hst _⟩ .nil)
 ·exact (((s1.trans s2).trans (Same.new hc)).trans (Same.new hd)).trans (Same.new he)
def fwd (rooms:List Str) (sgs:List (List Str)):Nat->List Door->List Door->Option Nat
 | _,_,[]=>none
 | i,ahead,d :: ds=>if i = 2000 ∨ d ∈ ahead ∨ d.a ∉ rooms ∨ d.sg ∉ sgs ∨ d.b ∉ rooms then some i else fwd rooms sgs (i + 1) (ahead ++ [d]) ds
def sp_first_wrong_door (K:PySem.W.Frag):Sp:=fun vs H Q _=>∃ (l l3 sl:Addr) (ts:List Addr) (ds:List Door) (rooms:List Str) (xs:List V) (sgs:List (List Str)),vs = [.ref l,.ref l3,.ref sl]/\H l = some (.lst (ts.map V.ref))/\Doors H ts ds /\
 H l3 = some (.lst (rooms.map V.str))/\rooms.length <= 1000/\H sl = some (.lst xs)/\Paired (SignOf K H) xs sgs/\ds.length <= 9000/\∀ H',Same H H'->Q (oV (fwd rooms sgs 0 [] ds)) H'
theorem refs_get {ws:List Addr} {i:Nat} {x:V} (h:(ws.map V.ref)[i]? = some x):∃ w,ws[i]? = some w/\x = .ref w:=by
 rw [List.getElem?_map] at h
 cases q:ws[i]? with
 | none=>rw [q] at h; cases h
 | some r=>rw [q] at h; exact ⟨r,rfl,(Option.some.inj h).symm⟩
theorem rd_first_wrong_door {K:PySem.W.Frag} {vs:List V} {H:Hp} {Q:VK} {E:XK} (h:sp_first_wrong_door K vs H Q E):t_first_wrong_door K (sp_as_keys K) { nx:=fun _ H'=>Q .non H',rt:=Q } (start N_first_wrong_door vs) H:=by
 obtain ⟨l,l3,sl,ts,ds,rooms,xs,sgs,rfl,hl,hds,h3,hr,hsl,hsg,hz,k⟩:=h
 refine ⟨_,rfl,as_keys_i (SqL.of h3) hr fun d hd=>?_⟩
 refine fun e he=>?_
 have hS0:Same H (upd (upd H d (.dK (keysOf rooms))) e (.dT [])):=(Same.new hd).trans (Same.new he)
 have heH:H e = none:=(Same.new hd).free he
 refine ⟨_,rfl,l,rfl,⟨_,SqL.of (hS0 _ _ hl)⟩,?_⟩
 refine for_enum (xs:=ts.map V.ref) (fun i σ H'=>∃ x y,σ = [some (.ref l),some (.ref l3),some (.ref sl),some (.ref d),some (.ref e),x,y]/\Same H H'/\H' d = some (.dK (keysOf rooms))/\H' e = some (.dT (keysG ((ds.take i).map dTK)))/\fwd rooms sgs i (ds.take i) (ds.drop i) = fwd rooms sgs 0 [] ds)
  ⟨_,_,rfl,hS0,kp upd_same he,upd_same,rfl⟩ (fun i σ H' _ ⟨_,_,_,hS,_⟩=>SqL.of (hS _ _ hl)) ?_ ?_
 ·rintro i x σ H' q hi ⟨x5,x6,rfl,hS,hd',he',hf⟩ hq
  obtain ⟨t,ht,rfl⟩:=refs_get hi
  obtain ⟨dr,hdr,hat⟩:=Paired.getL hds ht
  have hil:i < ds.length:=(List.getElem?_eq_some_iff.mp hdr).1
  have ed:ds.drop i = dr :: ds.drop (i + 1):=by
   rw [List.drop_eq_getElem_cons hil]
   congr 1
   exact (List.getElem?_eq_some_iff.mp hdr).2
  rw [ed] at hf
  have hS2:Same H (upd H' q (.tup [.int i,.ref t])):=hS.trans (Same.new hq)
  have hd2:upd H' q (.tup [.int i,.ref t]) d = _:=kp hd' hq
  have he2:upd H' q (.tup [.int i,.ref t]) e = _:=kp he' hq
  refine ⟨q,_,rfl,SqT.of upd_same,rfl,_,_,rfl,_,_,rfl,rfl,?_⟩
  generalize upd H' q (.tup [.int i,.ref t]) = H2 at hd2 he2 hS2 ⊢
  have hat2:=hat.kt (Same.kt hS2)
  have hin:TKIn K H2 (dTK dr) (.ref t):=TKAt.isIn 8 (by rw [tkdepth_d]; decide) hat2.tk
  have hd8:(dTK dr).depth <= 8:=by rw [tkdepth_d]; decide
  obtain ⟨s,ht2,hs2⟩:=hat2
  have bad:(i = 2000 ∨ dr ∈ ds.take i ∨ dr.a ∉ rooms ∨ dr.sg ∉ sgs ∨ dr.b ∉ rooms)->Q (.int i) H2:=by
   intro c
   have:=k H2 hS2
   rw [<- hf] at this
   unfold fwd at this
   rw [if_pos c] at this
   exact this
  refine ⟨_,rfl,rfl,_,rfl,?_⟩
  by_cases c1:i = 2000
  ·have e1:decide (V.int (i:Nat) = V.int 2000) = true:=decide_eq_true (by rw [c1]; rfl)
   rw [e1]
   exact iteT (iteT ⟨_,rfl,bad (.inl c1)⟩)
  have e1:decide (V.int (i:Nat) = V.int 2000) = false:=decide_eq_false (fun z=>c1 (by injection z with z; omega))
  rw [e1]
  refine iteF ?_
  refine ⟨_,rfl,_,rfl,e,_,rfl,.inr ⟨_,dTK dr,t,.inl he2,rfl,hin,hd8,rfl⟩,_,rfl,?_⟩
  rw [keysG_is]
  by_cases c2:dr ∈ ds.take i
  ·rw [decide_eq_true (mem_dTK.mpr c2)]
   exact iteT ⟨_,rfl,bad (.inr (.inl c2))⟩
  rw [decide_eq_false (fun z=>c2 (mem_dTK.mp z))]
  refine iteF ?_
  refine ⟨_,rfl,.inr (.inl ⟨t,_,0,_,rfl,rfl,SqT.of ht2,rfl,_,rfl,d,_,rfl,.inl ⟨_,.inr dr.a,.inl hd2,rfl,rfl⟩,_,rfl,?_⟩)⟩
  rw [keysOf_is]
  by_cases c3:dr.a ∈ rooms
  rotate_left
  ·rw [decide_eq_false c3]
   exact iteT (iteT ⟨_,rfl,bad (.inr (.inr (.inl c3)))⟩)
  rw [decide_eq_true c3]
  refine iteF ?_
  refine ⟨_,rfl,.inr (.inl ⟨t,_,1,_,rfl,rfl,SqT.of ht2,rfl,_,rfl,gDT dr.sg,sgs.map gDT,sl,xs,dIn_sign (SqT.of hs2),rfl,.inl (SqL.of (hS2 _ _ hsl)),Signs.dIns (Signs.same hS2 hsg),by rw [depth_g]; decide,depths_gs _,_,rfl,?_⟩)⟩
  rw [if_pos rfl]
  by_cases c4:dr.sg ∈ sgs
  rotate_left
  ·rw [decide_eq_false (fun z=>c4 (mem_gDT.mp z))]
   exact iteT (iteT ⟨_,rfl,bad (.inr (.inr (.inr (.inl c4))))⟩)
  rw [decide_eq_true (mem_gDT.mpr c4)]
  refine iteF ?_
  refine ⟨_,rfl,.inr (.inl ⟨t,_,2,_,rfl,rfl,SqT.of ht2,rfl,_,rfl,d,_,rfl,.inl ⟨_,.inr dr.b,.inl hd2,rfl,rfl⟩,_,rfl,?_⟩)⟩
  rw [keysOf_is]
  by_cases c5:dr.b ∈ rooms
  rotate_left
  ·rw [decide_eq_false c5]
   exact iteT ⟨_,rfl,bad (.inr (.inr (.inr (.inr c5))))⟩
  rw [decide_eq_true c5]
  refine iteF ?_
  have hlen:(keysG ((ds.take i).map dTK)).length < sizeLine:=small9000 (Nat.le_trans (keysG_len _) (by rw [List.length_map,List.length_take]; omega))
  refine ⟨_,rfl,_,rfl,e,_,rfl,.inr ⟨_,dTK dr,t,he2,rfl,DoorAt.tk ⟨s,ht2,hs2⟩,hd8,hlen,rfl⟩,_,_,rfl,?_,?_,?_,?_⟩
  ·intro b o q
   rw [upd_ne (ne_of_none q heH)]
   exact hS2 _ _ q
  ·rw [upd_ne (fun z=>by rw [z,he2] at hd2; cases hd2)]; exact hd2
  ·rw [upd_same,take_snoc hdr,List.map_append]
   exact congrArg (fun z=>some (HO.dT z)) (keysG_snoc _ _).symm
  ·rw [<- hf,take_snoc hdr]
   conv=>rhs; unfold fwd
   rw [if_neg]
   rintro (z | z | z | z | z)
   ·exact c1 z
   ·exact c2 z
   ·exact z c3
   ·exact z c4
   ·exact z c5
 ·rintro σ H' ⟨x,y,rfl,hS,_,_,hf⟩
  have:=k H' hS
  rw [<- hf,List.length_map,Paired.length hds,List.drop_length] at this
  exact this
theorem fwd_none {rooms:List Str} {sgs:List (List Str)}:∀ (ds ahead:List Door) (i:Nat),i + ds.length <= 2000->(ahead ++ ds).Nodup->(∀ d ∈ ds,d.a ∈ rooms/\d.sg ∈ sgs/\d.b ∈ rooms)->fwd rooms sgs i ahead ds = none
 | [],_,_,_,_,_=>rfl
 | n :: ns,ahead,i,h1,h2,h3=>by
  rw [List.length_cons] at h1
  unfold fwd
  rw [if_neg]
  ·refine fwd_none ns (ahead ++ [n]) (i + 1) (by omega) (by rw [List.append_assoc]; exact h2) fun w hw=>h3 w (List.mem_cons_of_mem _ hw)
  ·have:=h3 n List.mem_cons_self
   rintro (z | z | z | z | z)
   ·omega
   ·rw [List.nodup_append] at h2
    exact h2.2.2 n z n (List.mem_cons_self) rfl
   ·exact z this.1
   ·exact z this.2.1
   ·exact z this.2.2
def sp_need_none:Sp:=fun vs H Q _=>∃ x:V,vs = [x,.non]/\Q .non H
theorem rd_need_none {K:PySem.W.Frag} {vs:List V} {H:Hp} {Q:VK} {E:XK} (h:sp_need_none vs H Q E):t_need_none K { nx:=fun _ H'=>Q .non H',rt:=Q } (start N_need_none vs) H:=by
 obtain ⟨x,rfl,k⟩:=h
 refine ⟨_,rfl,_,rfl,?_⟩
 have e:(!decide (V.non = V.non)) = false:=by rw [decide_eq_true rfl]; rfl
 rw [e]
 exact iteF k
structure Lists (H:Hp) (l1 l2 l3 l4:Addr) (ts:List Addr) (asks says rooms:List Str) (ds:List Door):Prop where
 a1:H l1 = some (.lst (asks.map V.str))
 a2:H l2 = some (.lst (says.map V.str))
 a3:H l3 = some (.lst (rooms.map V.str))
 a4:H l4 = some (.lst (ts.map V.ref))
 ds:Doors H ts ds
theorem Lists.same {H H':Hp} {l1 l2 l3 l4:Addr} {ts:List Addr} {asks says rooms:List Str} {ds:List Door} (h:Lists H l1 l2 l3 l4 ts asks says rooms ds) (e:Same H H'):Lists H' l1 l2 l3 l4 ts asks says rooms ds :=
 ⟨e _ _ h.a1,e _ _ h.a2,e _ _ h.a3,e _ _ h.a4,h.ds.kt (Same.kt e)⟩
def sp_need_parts:Sp:=fun vs H Q _=>∃ (l1 l2 l3 l4:Addr) (ts:List Addr) (asks says rooms:List Str) (ds:List Door),vs = [.ref l1,.ref l2,.ref l3,.ref l4]/\Lists H l1 l2 l3 l4 ts asks says rooms ds/\ModelOk asks says rooms ds /\
 ∀ H',Same H H'->Q .non H'
theorem ModelOk.signs {asks says rooms:List Str} {ds:List Door} (m:ModelOk asks says rooms ds):∀ d ∈ ds,d.a ∈ rooms/\d.sg ∈ doorSigns asks says/\d.b ∈ rooms:=by
 intro d hd
 have g:=m.good d hd
 refine ⟨g.a,?_,g.b⟩
 unfold doorSigns
 rcases g.sg with ⟨w,hw,e⟩ | ⟨w,hw,e⟩ | e
 ·rw [e]; exact List.mem_append_left _ (List.mem_append_left _ (List.mem_map.mpr ⟨w,hw,rfl⟩))
 ·rw [e]; exact List.mem_append_left _ (List.mem_append_right _ (List.mem_map.mpr ⟨w,hw,rfl⟩))
 ·rw [e]; exact List.mem_append_right _ (by simp [stillSg])
theorem names_len {ws:List Str} (h:NamesOk ws):∀ w ∈ ws,w.length <= 1000:=fun w hw=>Nat.le_trans (h.2 w hw).hi (by decide)
theorem rd_need_parts {K:PySem.W.Frag} {vs:List V} {H:Hp} {Q:VK} {E:XK} (h:sp_need_parts vs H Q E):t_need_parts K sp_need_none (sp_first_wrong_door K) (sp_door_signs K) (sp_first_wrong_name K) { nx:=fun _ H'=>Q .non H',rt:=Q } (start N_need_parts vs) H:=by
 obtain ⟨l1,l2,l3,l4,ts,asks,says,rooms,ds,rfl,L,m,k⟩:=h
 have w1:firstWrongName asks 4 [] = none:=firstWrong_none m.asks0 m.asks4 m.okA.1 m.okA.2
 have w2:firstWrongName says 4 asks = none:=firstWrong_none m.says0 m.says4 (by
  rw [List.nodup_append]
  exact ⟨m.okA.1,m.okS.1,fun a ha b hb e=>m.apart b hb (e ▸ ha)⟩) m.okS.2
 have w3:firstWrongName rooms 150 [] = none:=firstWrong_none m.rooms0 (by have:=m.rooms26; omega) m.okR.1 m.okR.2
 have w4:fwd rooms (doorSigns asks says) 0 [] ds = none:=fwd_none ds [] 0 (by have:=m.few; omega) m.nodup m.signs
 have z1:=m.asks4
 have z2:=m.says4
 have z3:=m.rooms26
 have z4:=m.few
 refine ⟨_,rfl,(by show 0 <= sizeLine; decide),fun e he=>⟨l1,e,asks,[],4,rfl,SqL.of (kp L.a1 he),SqL.of upd_same,by simp; omega,names_len m.okA,fun H1 s1=>?_⟩⟩
 rw [w1]
 refine ⟨_,rfl,?_⟩
 have S1:=(Same.new he).trans s1
 refine ⟨_,rfl,_,rfl,l2,l1,says,asks,4,rfl,SqL.of (S1 _ _ L.a2),SqL.of (S1 _ _ L.a1),by omega,names_len m.okS,fun H2 s2=>?_⟩
 rw [w2]
 refine ⟨_,rfl,?_⟩
 have S2:=S1.trans s2
 refine ⟨_,rfl,(by show 0 <= sizeLine; decide),fun e he=>⟨l3,e,rooms,[],150,rfl,SqL.of (kp (S2 _ _ L.a3) he),SqL.of upd_same,by simp; omega,names_len m.okR,fun H3 s3=>?_⟩⟩
 rw [w3]
 refine ⟨_,rfl,?_⟩
 have S3:=(S2.trans (Same.new he)).trans s3
 refine ⟨_,rfl,_,rfl,_,rfl,_,rfl,l1,l2,asks,says,rfl,S3 _ _ L.a1,S3 _ _ L.a2,by omega,by omega,fun sl xs H4 hx s4 hsl=>?_⟩
 have S4:=S3.trans s4
 have L4:=L.same S4
 refine ⟨l4,l3,sl,ts,ds,rooms,xs,doorSigns asks says,rfl,L4.a4,L4.ds,L4.a3,by omega,hsl,hx,by omega,fun H5 s5=>?_⟩
 rw [w4]
 exact ⟨_,rfl,k H5 (S4.trans s5)⟩
section
variable {κ ι:Type} [DecidableEq κ] {e:ι->κ}
def kvOf (e:ι->κ) (ps:List (ι × Addr)):List (κ × V):=ps.map fun x=>(e x.1,V.ref x.2)
theorem kv_none (inj:∀ x y,e x = e y->x = y) {i:ι}:∀ {ps:List (ι × Addr)},i ∉ ps.map (·.1)->valV (kvOf e ps) (e i) = none
 | [],_=>rfl
 | x :: ps,h=>by
  rw [List.map_cons,List.mem_cons] at h
  show valV ((e x.1,V.ref x.2) :: kvOf e ps) (e i) = none
  rw [valV_neg (fun z=>h (.inl (inj _ _ z).symm))]
  exact kv_none inj (fun z=>h (.inr z))
theorem kv_some (inj:∀ x y,e x = e y->x = y) {i:ι} {a:Addr}:∀ {ps:List (ι × Addr)},(ps.map (·.1)).Nodup->(i,a) ∈ ps->valV (kvOf e ps) (e i) = some (.ref a)
 | [],_,h=>by cases h
 | x :: ps,nd,h=>by
  rw [List.map_cons,List.nodup_cons] at nd
  show valV ((e x.1,V.ref x.2) :: kvOf e ps) (e i) = _
  rcases List.mem_cons.mp h with h | h
  ·rw [<- h]; exact valV_pos rfl
  ·rw [valV_neg (fun z=>nd.1 (by rw [inj _ _ z]; exact List.mem_map.mpr ⟨_,h,rfl⟩))]
   exact kv_some inj nd.2 h
theorem kvOf_snoc (ps:List (ι × Addr)) (i:ι) (a:Addr):kvOf e (ps ++ [(i,a)]) = kvOf e ps ++ [(e i,.ref a)]:=by
 unfold kvOf
 rw [List.map_append]
 rfl
end
structure DL {ι:Type} (H0 H:Hp) (d:Addr) (ps:List (ι × Addr)):Prop where
 nd:(ps.map (·.1)).Nodup
 na:(ps.map (·.2)).Nodup
 fr:∀ x ∈ ps,H0 x.2 = none
 frd:H0 d = none
 ned:∀ x ∈ ps,x.2 ≠ d
 same:Same H0 H
theorem DL.snoc {ι:Type} {H0 H H':Hp} {d:Addr} {ps:List (ι × Addr)} {i:ι} {a:Addr} (h:DL H0 H d ps) (hi:i ∉ ps.map (·.1)) (ha:∀ x ∈ ps,x.2 ≠ a) (fr:H0 a = none) (nd:a ≠ d) (s:Same H0 H'):DL H0 H' d (ps ++ [(i,a)]):=by
 refine ⟨?_,?_,?_,h.frd,?_,s⟩
 ·rw [List.map_append,List.nodup_append]
  refine ⟨h.nd,by simp,fun x hx y hy e=>?_⟩
  have:y = i:=by simpa using hy
  exact hi (by rw [<- this,<- e]; exact hx)
 ·rw [List.map_append,List.nodup_append]
  refine ⟨h.na,by simp,fun x hx y hy e=>?_⟩
  have:y = a:=by simpa using hy
  obtain ⟨z,hz,rfl⟩:=List.mem_map.mp hx
  exact ha z hz (e.trans this)
 ·intro x hx
  rcases List.mem_append.mp hx with hx | hx
  ·exact h.fr x hx
  ·have:x = (i,a):=by simpa using hx
   rw [this]; exact fr
 ·intro x hx
  rcases List.mem_append.mp hx with hx | hx
  ·exact h.ned x hx
  ·have:x = (i,a):=by simpa using hx
   rw [this]; exact nd
theorem na_ne {ι:Type}:∀ {ps:List (ι × Addr)},(ps.map (·.2)).Nodup->∀ {x y:ι × Addr},x ∈ ps->y ∈ ps->x.2 = y.2->x = y
 | [],_,x,_,h,_,_=>by cases h
 | p :: ps,nd,x,y,hx,hy,e=>by
  rw [List.map_cons,List.nodup_cons] at nd
  rcases List.mem_cons.mp hx with hx' | hx' <;> rcases List.mem_cons.mp hy with hy' | hy'
  ·rw [hx',hy']
  ·exact absurd (List.mem_map.mpr ⟨y,hy',by rw [<- e,hx']⟩) nd.1
  ·exact absurd (List.mem_map.mpr ⟨x,hx',by rw [e,hy']⟩) nd.1
  ·exact na_ne nd.2 hx' hy' e
theorem inr_inj:∀ x y:Str,(Sum.inr x:Key) = Sum.inr y->x = y:=fun x y h=>by injection h
def leavingOf (ds:List Door) (r:Str):List Door:=ds.filter fun d=>decide (d.a = r)
def sp_doors_by_start:Sp:=fun vs H Q _=>∃ (l3 l4:Addr) (ts:List Addr) (rooms:List Str) (ds:List Door),vs = [.ref l3,.ref l4]/\H l3 = some (.lst (rooms.map V.str))/\H l4 = some (.lst (ts.map V.ref))/\Doors H ts ds /\
 rooms.Nodup/\rooms.length <= 1000/\ds.length <= 9000/\(∀ d ∈ ds,d.a ∈ rooms) /\
 ∀ (d:Addr) (ps:List (Str × Addr)) (H':Hp),ps.map (·.1) = rooms->H' d = some (.dK (kvOf Sum.inr ps))->(∀ x ∈ ps,∃ us,H' x.2 = some (.lst (us.map V.ref))/\Doors H' us (leavingOf ds x.1))->Same H H'->Q (.ref d) H'
theorem rd_doors_by_start {K:PySem.W.Frag} {vs:List V} {H:Hp} {Q:VK} {E:XK} (h:sp_doors_by_start vs H Q E):t_doors_by_start K { nx:=fun _ H'=>Q .non H',rt:=Q } (start N_doors_by_start vs) H:=by
 obtain ⟨l3,l4,ts,rooms,ds,rfl,h3,h4,hds,nod,hz,hz2,hin,k⟩:=h
 refine fun d hd=>?_
 refine ⟨_,rfl,l3,rfl,⟨_,SqL.of (kp h3 hd)⟩,?_⟩
 refine for_list (xs:=rooms.map V.str) (fun i σ H'=>∃ x y,σ = [some (.ref l3),some (.ref l4),some (.ref d),x,y]/\∃ ps:List (Str × Addr),ps.map (·.1) = rooms.take i/\H' d = some (.dK (kvOf Sum.inr ps))/\DL H H' d ps/\∀ x ∈ ps,H' x.2 = some (.lst []))
  ⟨_,_,rfl,[],rfl,upd_same,⟨by simp,by simp,by simp,hd,by simp,Same.new hd⟩,by simp⟩ (fun i σ H' _ ⟨_,_,_,_,_,_,D,_⟩=>SqL.of (D.same _ _ h3)) ?_ ?_
 ·rintro i x σ H' hi ⟨x3,x4,rfl,ps,hps,hd',D,hls⟩
  obtain ⟨w,hw,rfl⟩:=strs_get hi
  have hnew:w ∉ ps.map (·.1):=by
   rw [hps]
   intro z
   have:=nod
   rw [<- List.take_append_drop (i + 1) rooms,take_snoc hw,List.nodup_append] at this
   have:=this.1
   rw [List.nodup_append] at this
   exact this.2.2 w z w (by simp) rfl
  refine ⟨(by show 0 <= sizeLine; decide),fun a ha=>?_⟩
  have hlen:(kvOf (Sum.inr:Str->Key) ps).length < sizeLine:=small1000 (by
   unfold kvOf
   rw [List.length_map,<- List.length_map (f:=(·.1)) (as:=ps),hps,List.length_take]; omega)
  have haH:H a = none:=D.same.free ha
  have nda:a ≠ d:=(ne_of_none hd' ha).symm
  have hneA:∀ x ∈ ps,x.2 ≠ a:=fun x hx=>ne_of_none (hls x hx) ha
  refine ⟨_,rfl,_,rfl,d,_,rfl,.inl ⟨_,.inr w,kp hd' ha,rfl,hlen,rfl⟩,_,_,rfl,ps ++ [(w,a)],?_,?_,?_,?_⟩
  ·rw [List.map_append,hps,take_snoc hw]; rfl
  ·rw [upd_same,putK_new _ (kv_none inr_inj hnew),kvOf_snoc]
  ·refine D.snoc hnew hneA haH nda ?_
   intro b o q
   rw [upd_ne (ne_of_none q hd)]
   exact kp (D.same _ _ q) ha
  ·intro x hx
   rcases List.mem_append.mp hx with hx | hx
   ·rw [upd_ne (D.ned x hx)]
    exact kp (hls x hx) ha
   ·have:x = (w,a):=by simpa using hx
    rw [this,upd_ne nda]
    exact upd_same
 ·rintro σ H1 ⟨x3,x4,rfl,ps,hps,hd1,D1,hls⟩
  rw [List.length_map,List.take_length] at hps
  refine ⟨_,rfl,l4,rfl,⟨_,SqL.of (D1.same _ _ h4)⟩,?_⟩
  refine for_list (xs:=ts.map V.ref) (fun i σ H'=>∃ x4,σ = [some (.ref l3),some (.ref l4),some (.ref d),x3,x4]/\H' d = some (.dK (kvOf Sum.inr ps))/\DL H H' d ps/\∀ x ∈ ps,∃ us,H' x.2 = some (.lst (us.map V.ref))/\Doors H' us (leavingOf (ds.take i) x.1))
   ⟨_,rfl,hd1,D1,fun x hx=>⟨[],hls x hx,.nil⟩⟩ (fun i σ H' _ ⟨_,_,_,D,_⟩=>SqL.of (D.same _ _ h4)) ?_ ?_
  ·rintro i x σ H' hi ⟨x4,rfl,hd',D,hls⟩
   obtain ⟨t,ht,rfl⟩:=refs_get hi
   obtain ⟨dr,hdr,hat⟩:=Paired.getL hds ht
   have hat':=hat.kt (Same.kt D.same)
   have hat2:=hat'
   obtain ⟨s,ht2,hs2⟩:=hat'
   have hmem:dr.a ∈ ps.map (·.1):=by rw [hps]; exact hin dr (List.mem_of_getElem? hdr)
   obtain ⟨⟨r,a⟩,hra,er⟩:=List.mem_map.mp hmem
   obtain rfl:r = dr.a:=er
   obtain ⟨us,hus,hdo⟩:=hls _ hra
   have hil:i < ds.length:=(List.getElem?_eq_some_iff.mp hdr).1
   have hlu:us.length <= 9000:=by
    rw [Paired.length hdo]
    refine Nat.le_trans (List.length_filter_le _ _) ?_
    rw [List.length_take]; omega
   have KT:KT0 H' (upd H' a (.lst (us.map V.ref ++ [.ref t]))):=kt_upd hus
   refine ⟨_,rfl,_,rfl,.inr (.inl ⟨t,_,0,_,rfl,rfl,SqT.of ht2,rfl,d,.ref a,rfl,.inl ⟨_,.inr dr.a,.inl hd',rfl,(kv_some inr_inj D.nd hra).symm⟩,.inl ⟨rfl,_,SqL.of hus⟩,_,rfl,a,_,_,rfl,rfl,hus,?_,_,rfl,?_,?_,?_⟩)⟩
   ·rw [List.length_map]; exact small9000 hlu
   ·rw [upd_ne (D.ned _ hra).symm]; exact hd'
   ·refine ⟨D.nd,D.na,D.fr,D.frd,D.ned,fun b o q=>?_⟩
    rw [upd_ne (ne_of_none q (D.fr _ hra))]
    exact D.same _ _ q
   ·intro x hx
    have hfl:∀ r',leavingOf (ds.take (i + 1)) r' = leavingOf (ds.take i) r' ++ (if dr.a = r' then [dr] else []):=by
     intro r'
     unfold leavingOf
     rw [take_snoc hdr,List.filter_append]
     congr 1
     by_cases c:dr.a = r'
     ·rw [if_pos c]; simp [c]
     ·rw [if_neg c]; simp [c]
    by_cases c:x.2 = a
    ·have ex:=na_ne D.na hx hra c
     subst ex
     refine ⟨us ++ [t],?_,?_⟩
     ·show upd H' a _ a = _
      rw [upd_same,List.map_append]; rfl
     ·rw [hfl]
      show Doors _ _ (leavingOf (ds.take i) dr.a ++ (if dr.a = dr.a then [dr] else []))
      rw [if_pos rfl]
      exact Paired.app (hdo.kt KT) (.cons (hat2.kt KT) .nil)
    ·obtain ⟨us',h1,h2⟩:=hls x hx
     have hne:¬ (dr.a = x.1):=fun z=>by
      have e1:=kv_some (e:=(Sum.inr:Str->Key)) inr_inj D.nd hra
      have e2:=kv_some (e:=(Sum.inr:Str->Key)) (i:=x.1) (a:=x.2) inr_inj D.nd hx
      rw [<- z,e1] at e2
      injection e2 with e2
      injection e2 with e2
      exact c e2.symm
     refine ⟨us',by rw [upd_ne c]; exact h1,?_⟩
     rw [hfl,if_neg hne,List.append_nil]
     exact h2.kt KT
  ·rintro σ H' ⟨x4,rfl,hd',D,hls⟩
   rw [List.length_map,Paired.length hds,List.take_length] at hls
   exact ⟨_,rfl,k d ps H' hps hd' hls D.same⟩
def isAsk (d:Door):Bool:=match d.sg with
 | s :: _=>decide (s = ("ask":Str))
 | []=>false
def sp_has_asks_alone:Sp:=fun vs H Q _=>∃ (a:Addr) (us:List Addr) (ds:List Door),vs = [.ref a]/\H a = some (.lst (us.map V.ref))/\Doors H us ds/\ds.length <= 9000/\(∀ d ∈ ds,d.sg ≠ [])/\∀ H',Same H H'->Q (.bl (ds.all isAsk)) H'
theorem rd_has_asks_alone {K:PySem.W.Frag} {vs:List V} {H:Hp} {Q:VK} {E:XK} (h:sp_has_asks_alone vs H Q E):t_has_asks_alone K { nx:=fun _ H'=>Q .non H',rt:=Q } (start N_has_asks_alone vs) H:=by
 obtain ⟨a,us,ds,rfl,ha,hds,hz,hne,k⟩:=h
 refine ⟨_,rfl,a,rfl,⟨_,SqL.of ha⟩,fun l hl=>?_⟩
 refine comp_list (xs:=us.map V.ref) (fun i vs H'=>vs = (ds.take i).map (fun d=>V.bl (isAsk d))/\Same H H'/\H' l = some (.lst vs))
  ⟨rfl,Same.new hl,upd_same⟩ (fun i vs H' _ ⟨_,hS,h'⟩=>⟨h',SqL.of (hS _ _ ha)⟩) ?_ ?_
 ·rintro vs H' ⟨rfl,hS,h'⟩
  rw [List.length_map,Paired.length hds,List.take_length] at h'
  refine ⟨l,ds.map isAsk,rfl,SqL.of (by rw [h',List.map_map]; rfl),?_⟩
  rw [List.all_map]
  exact k H' hS
 ·rintro i vs H' x hx hi ⟨rfl,hS,h'⟩
  obtain ⟨t,ht,rfl⟩:=refs_get hx
  obtain ⟨dr,hdr,hat⟩:=Paired.getL hds ht
  obtain ⟨s,ht2,hs2⟩:=hat.kt (Same.kt hS)
  have hmem:=List.mem_of_getElem? hdr
  obtain ⟨s0,rest,hsg⟩:∃ s0 rest,dr.sg = s0 :: rest:=by
   cases q:dr.sg with
   | nil=>exact absurd q (hne dr hmem)
   | cons x y=>exact ⟨x,y,rfl⟩
  unfold SignAt at hs2
  rw [hsg] at hs2
  refine gN (yesT ?_)
  refine ⟨_,rfl,.inr (.inl ⟨t,_,1,_,rfl,rfl,SqT.of ht2,rfl,.inr (.inl ⟨s,_,0,.str s0,rfl,rfl,SqT.of hs2,atI_nat (j:=0) rfl,rfl,h',?_,nxt hi ⟨?_,?_,upd_same⟩⟩)⟩)⟩
  ·rw [List.length_map,List.length_take]; exact small9000 (by omega)
  ·rw [take_snoc hdr,List.map_append]
   congr 1
   show [V.bl _] = [V.bl _]
   congr 2
   unfold isAsk
   rw [hsg]
   show decide (V.str s0 = V.str _) = decide (s0 = _)
   by_cases c:s0 = ("ask":Str)
   ·rw [decide_eq_true c,decide_eq_true (by rw [c])]
   ·rw [decide_eq_false c,decide_eq_false (fun z=>c (by injection z))]
  ·intro b o e
   rw [upd_ne (ne_of_none e hl)]
   exact hS _ _ e
def sgk (x:Str × List Str):TK:=.t [sTK x.1,gTK x.2]
theorem sgk_inj:∀ x y:Str × List Str,sgk x = sgk y->x = y:=by
 intro x y h
 unfold sgk at h
 injection h with h
 injection h with h1 h
 injection h with h2 h
 cases x; cases y
 simp only at *
 rw [sTK_inj h1,gTK_inj h2]
theorem sgk_depth (x:Str × List Str):(sgk x).depth <= 8:=by
 show max (TK.depth (sTK x.1)) (max (TK.depth (gTK x.2)) 0) + 1 <= 8
 rw [tkdepth_g]
 show max 0 (max 1 0) + 1 <= 8
 decide
def goalsOf (ds:List Door) (x:Str × List Str):List Str:=(ds.filter fun d=>decide (d.a = x.1/\d.sg = x.2)).map (·.b)
theorem goalsOf_snoc (ds:List Door) (d:Door) (x:Str × List Str):goalsOf (ds ++ [d]) x = goalsOf ds x ++ (if (d.a,d.sg) = x then [d.b] else []):=by
 unfold goalsOf
 rw [List.filter_append,List.map_append]
 congr 1
 by_cases c:(d.a,d.sg) = x
 ·subst c
  simp
 ·rw [if_neg c]
  have:¬ (d.a = x.1/\d.sg = x.2):=fun z=>c (by cases x; simp only at z; rw [z.1,z.2])
  simp [List.filter_cons]
  intro h1 h2
  exact this ⟨h1,h2⟩
theorem goalsOf_nil {ds:List Door} {x:Str × List Str} (h:∀ d ∈ ds,(d.a,d.sg) ≠ x):goalsOf ds x = []:=by
 unfold goalsOf
 rw [List.map_eq_nil_iff,List.filter_eq_nil_iff]
 intro d hd
 have:¬ (d.a = x.1/\d.sg = x.2):=fun z=>h d hd (by cases x; simp only at z; rw [z.1,z.2])
 simp
 intro h1 h2
 exact this ⟨h1,h2⟩
theorem mem_goalsOf {ds:List Door} {x:Str × List Str} {b:Str}:b ∈ goalsOf ds x ↔ (⟨x.1,x.2,b⟩:Door) ∈ ds:=by
 unfold goalsOf
 rw [List.mem_map]
 constructor
 ·rintro ⟨d,hd,rfl⟩
  rw [List.mem_filter] at hd
  obtain ⟨h1,h2⟩:=hd
  obtain ⟨h3,h4⟩:=of_decide_eq_true h2
  cases d
  simp only at h3 h4
  rw [<- h3,<- h4]; exact h1
 ·intro h
  exact ⟨_,List.mem_filter.mpr ⟨h,decide_eq_true ⟨rfl,rfl⟩⟩,rfl⟩
structure GoalsAt (H:Hp) (g:Addr) (ps:List ((Str × List Str) × Addr)) (ds:List Door):Prop where
 nd:(ps.map (·.1)).Nodup
 g:H g = some (.dT (kvOf sgk ps))
 ls:∀ x ∈ ps,H x.2 = some (.lst ((goalsOf ds x.1).map V.str))
 all:∀ d ∈ ds,(d.a,d.sg) ∈ ps.map (·.1)
theorem GoalsAt.same {H H':Hp} {g:Addr} {ps:List ((Str × List Str) × Addr)} {ds:List Door} (h:GoalsAt H g ps ds) (s:Same H H'):GoalsAt H' g ps ds:=⟨h.nd,s _ _ h.g,fun x hx=>s _ _ (h.ls x hx),h.all⟩
def sp_goals:Sp:=fun vs H Q _=>∃ (l4:Addr) (ts:List Addr) (ds:List Door),vs = [.ref l4]/\H l4 = some (.lst (ts.map V.ref))/\Doors H ts ds/\ds.length <= 9000 /\
 ∀ (g:Addr) (ps:List ((Str × List Str) × Addr)) (H':Hp),GoalsAt H' g ps ds->Same H H'->Q (.ref g) H'
theorem rd_goals_by_start_and_sign {K:PySem.W.Frag} {vs:List V} {H:Hp} {Q:VK} {E:XK} (h:sp_goals vs H Q E):t_goals_by_start_and_sign K { nx:=fun _ H'=>Q .non H',rt:=Q } (start N_goals_by_start_and_sign vs) H:=by
 obtain ⟨l4,ts,ds,rfl,h4,hds,hz,k⟩:=h
 refine fun g hg=>?_
 refine ⟨_,rfl,l4,rfl,⟨_,SqL.of (kp h4 hg)⟩,?_⟩
 refine for_list (xs:=ts.map V.ref) (fun i σ H'=>∃ x y z,σ = [some (.ref l4),some (.ref g),x,y,z]/\∃ ps:List ((Str × List Str) × Addr),DL H H' g ps/\H' g = some (.dT (kvOf sgk ps))/\ps.length <= i/\(∀ x ∈ ps,H' x.2 = some (.lst ((goalsOf (ds.take i) x.1).map V.str)))/\∀ d ∈ ds.take i,(d.a,d.sg) ∈ ps.map (·.1))
  ⟨_,_,_,rfl,[],⟨by simp,by simp,by simp,hg,by simp,Same.new hg⟩,upd_same,by simp,by simp,by simp⟩ (fun i σ H' _ ⟨_,_,_,_,_,D,_⟩=>SqL.of (D.same _ _ h4)) ?_ ?_
 ·rintro i x σ H' hi ⟨x2,x3,x4,rfl,ps,D,hg',hlen,hls,hall⟩
  obtain ⟨t,ht,rfl⟩:=refs_get hi
  obtain ⟨dr,hdr,hat⟩:=Paired.getL hds ht
  have hil:i < ds.length:=(List.getElem?_eq_some_iff.mp hdr).1
  obtain ⟨s,ht2,hs2⟩:=hat.kt (Same.kt D.same)
  refine ⟨t,_,rfl,SqT.of ht2,rfl,_,_,rfl,_,_,rfl,_,_,rfl,rfl,?_⟩
  refine ⟨_,rfl,.inr (.inr (.inl ⟨rfl,.inr ⟨_,hg'⟩⟩)),_,rfl,_,rfl,(by show 2 <= sizeLine; decide),fun kt hkt=>⟨(by show 0 <= sizeLine; decide),fun nl hnl=>?_⟩⟩
  have S2:Same H' (upd (upd H' kt (.tup [.str dr.a,.ref s])) nl (.lst [])):=(Same.new hkt).trans (Same.new hnl)
  have hkt2:upd (upd H' kt (.tup [.str dr.a,.ref s])) nl (.lst []) kt = some (.tup [.str dr.a,.ref s]):=kp upd_same hnl
  have hnl2:upd (upd H' kt (.tup [.str dr.a,.ref s])) nl (.lst []) nl = some (.lst []):=upd_same
  have hnlH':H' nl = none:=(Same.new hkt).free hnl
  generalize upd (upd H' kt (.tup [.str dr.a,.ref s])) nl (.lst []) = H2 at S2 hkt2 hnl2 ⊢
  have htk:TKAt H2 (sgk (dr.a,dr.sg)) (.ref kt):=by
   unfold sgk TKAt
   refine ⟨kt,_,rfl,hkt2,?_⟩
   unfold TKAts
   refine ⟨_,_,rfl,tkAt_s _,?_⟩
   unfold TKAts
   refine ⟨_,_,rfl,SignAt.tk (S2 _ _ hs2),?_⟩
   unfold TKAts
   rfl
  have hlk:(kvOf sgk ps).length < sizeLine:=small9000 (by unfold kvOf; rw [List.length_map]; omega)
  have hgo:∀ x,goalsOf (ds.take (i + 1)) x = goalsOf (ds.take i) x ++ (if (dr.a,dr.sg) = x then [dr.b] else []):=fun x=>by rw [take_snoc hdr,goalsOf_snoc]
  have hgl:∀ x,(goalsOf (ds.take i) x).length <= 9000:=fun x=>by
   unfold goalsOf
   rw [List.length_map]
   refine Nat.le_trans (List.length_filter_le _ _) ?_
   rw [List.length_take]; omega
  refine ⟨g,kt,_,sgk (dr.a,dr.sg),.ref nl,rfl,rfl,S2 _ _ hg',htk,sgk_depth _,hlk,fun v hv=>?_,fun hv=>?_⟩
  ·-- there already
   have hmem:(dr.a,dr.sg) ∈ ps.map (·.1):=by
    refine Classical.byContradiction fun z=>?_
    rw [kv_none sgk_inj z] at hv
    cases hv
   obtain ⟨⟨r,a⟩,hra,er⟩:=List.mem_map.mp hmem
   obtain rfl:r = (dr.a,dr.sg):=er
   rw [kv_some sgk_inj D.nd hra] at hv
   injection hv with hv
   subst hv
   have hla:=S2 _ _ (hls _ hra)
   refine ⟨.inl ⟨rfl,_,SqL.of hla⟩,_,rfl,a,_,_,rfl,rfl,hla,by rw [List.length_map]; exact small9000 (hgl _),_,_,_,rfl,ps,⟨D.nd,D.na,D.fr,D.frd,D.ned,fun b o q=>?_⟩,?_,by omega,?_,?_⟩
   ·rw [upd_ne (ne_of_none q (D.fr _ hra))]
    exact S2 _ _ (D.same _ _ q)
   ·rw [upd_ne (D.ned _ hra).symm]; exact S2 _ _ hg'
   ·intro x hx
    by_cases c:x.2 = a
    ·have ex:=na_ne D.na hx hra c
     subst ex
     show upd H2 a _ a = _
     rw [upd_same,hgo,if_pos rfl,List.map_append]; rfl
    ·have hne:¬ ((dr.a,dr.sg) = x.1):=fun z=>by
      have e1:=kv_some (e:=sgk) sgk_inj D.nd hra
      have e2:=kv_some (e:=sgk) (i:=x.1) (a:=x.2) sgk_inj D.nd hx
      rw [<- z,e1] at e2
      injection e2 with e2
      injection e2 with e2
      exact c e2.symm
     rw [upd_ne c,hgo,if_neg hne,List.append_nil]
     exact S2 _ _ (hls x hx)
   ·intro d hd
    rw [take_snoc hdr] at hd
    rcases List.mem_append.mp hd with hd | hd
    ·exact hall d hd
    ·have:d = dr:=by simpa using hd
     rw [this]; exact hmem
  ·-- a new list
   have hnew:(dr.a,dr.sg) ∉ ps.map (·.1):=by
    intro z
    obtain ⟨⟨r,a⟩,hra,er⟩:=List.mem_map.mp z
    obtain rfl:r = (dr.a,dr.sg):=er
    rw [kv_some sgk_inj D.nd hra] at hv
    cases hv
   have hgne:nl ≠ g:=(ne_of_none hg' hnlH').symm
   have hnl3:upd H2 g (.dT (kvOf sgk ps ++ [(sgk (dr.a,dr.sg),.ref nl)])) nl = some (.lst []):=by rw [upd_ne hgne]; exact hnl2
   refine ⟨.inl ⟨rfl,_,SqL.of hnl3⟩,_,rfl,nl,_,_,rfl,rfl,hnl3,(by show 0 < sizeLine; decide),_,_,_,rfl,ps ++ [((dr.a,dr.sg),nl)],?_,?_,?_,?_,?_⟩
   ·refine D.snoc hnew (fun x hx=>ne_of_none (hls x hx) hnlH') (D.same.free hnlH') hgne ?_
    intro b o q
    rw [upd_ne (ne_of_none q (D.same.free hnlH')),upd_ne (ne_of_none q hg)]
    exact S2 _ _ (D.same _ _ q)
   ·rw [upd_ne hgne.symm,upd_same,kvOf_snoc]
   ·rw [List.length_append]; show _ + 1 <= _; omega
   ·intro x hx
    rcases List.mem_append.mp hx with hx | hx
    ·have hne:¬ ((dr.a,dr.sg) = x.1):=fun z=>hnew (by rw [z]; exact List.mem_map.mpr ⟨x,hx,rfl⟩)
     rw [upd_ne (ne_of_none (hls x hx) hnlH'),upd_ne (D.ned x hx),hgo,if_neg hne,List.append_nil]
     exact S2 _ _ (hls x hx)
    ·have:x = ((dr.a,dr.sg),nl):=by simpa using hx
     subst this
     have hnil:goalsOf (ds.take i) (dr.a,dr.sg) = []:=goalsOf_nil fun d hd z=>hnew (by rw [<- z]; exact hall d hd)
     show upd _ nl _ nl = _
     rw [upd_same,hgo,if_pos rfl,hnil]
     rfl
   ·intro d hd
    rw [List.map_append]
    rw [take_snoc hdr] at hd
    rcases List.mem_append.mp hd with hd | hd
    ·exact List.mem_append_left _ (hall d hd)
    ·have:d = dr:=by simpa using hd
     rw [this]; exact List.mem_append_right _ (by simp)
 ·rintro σ H' ⟨x2,x3,x4,rfl,ps,D,hg',hlen,hls,hall⟩
  rw [List.length_map,Paired.length hds,List.take_length] at hls hall
  exact ⟨_,rfl,k g ps H' ⟨D.nd,hg',hls,hall⟩ D.same⟩
theorem nodup_le:∀ {L R:List Str},L.Nodup->(∀ y ∈ L,y ∈ R)->L.length <= R.length
 | [],_,_,_=>Nat.zero_le _
 | x :: L,R,nd,h=>by
  rw [List.nodup_cons] at nd
  have hx:=h x List.mem_cons_self
  have:=nodup_le (L:=L) (R:=R.erase x) nd.2 fun y hy=>(List.mem_erase_of_ne (fun e:y = x=>nd.1 (by rw [<- e]; exact hy))).mpr (h y (List.mem_cons_of_mem _ hy))
  rw [List.length_erase_of_mem hx] at this
  have:0 < R.length:=List.length_pos_of_mem hx
  rw [List.length_cons]
  omega
theorem Reach.in_ {ds:List Door} {a b:Str} {rooms:List Str} (hr:∀ d ∈ ds,d.b ∈ rooms) (h:Reach ds a b):b ∈ rooms:=by
 cases h with
 | one h=>exact hr _ h
 | step r h=>exact hr _ h
def sp_led:Sp:=fun vs H Q _=>∃ (g:Addr) (room:Str) (ps:List ((Str × List Str) × Addr)) (ds:List Door) (rooms:List Str),vs = [.ref g,.str room]/\GoalsAt H g ps ds/\(∀ d ∈ ds,d.b ∈ rooms)/\rooms.length <= 1000 /\
 ∀ (d:Addr) (L:List Str) (H':Hp),H' d = some (.dK (keysOf L))->L.Nodup->(∀ w,w ∈ L ↔ Reach ds room w)->H d = none->Same H H'->Q (.ref d) H'
structure Led (H0 H:Hp) (ds:List Door) (room:Str) (d w:Addr) (L W:List Str) (open_:Str->Prop):Prop where
 d:H d = some (.dK (keysOf L))
 w:H w = some (.lst (W.map V.str))
 same:Same H0 H
 nd:L.Nodup
 sound:∀ y ∈ L,Reach ds room y
 wait:∀ y ∈ W,y = room ∨ y ∈ L
 closed:∀ y,(y = room ∨ y ∈ L)->y ∉ W->¬ open_ y->∀ c ∈ goalsOf ds (y,stillSg),c ∈ L
theorem rd_led_by_still {K:PySem.W.Frag} {st:Addr} (hst:∀ H,SqT K H st (stillSg.map V.str)) {vs:List V} {H:Hp} {Q:VK} {E:XK} (h:sp_led vs H Q E):t_led_by_still K st { nx:=fun _ H'=>Q .non H',rt:=Q } (start N_led_by_still vs) H:=by
 obtain ⟨g,room,ps,ds,rooms,rfl,G,hin,hz,k⟩:=h
 refine fun d hd=>?_
 refine ⟨_,rfl,(by show 1 <= sizeLine; decide),fun w hw=>?_⟩
 have hwH:H w = none:=(Same.new hd).free hw
 have hdw:d ≠ w:=ne_of_none upd_same hw
 refine ⟨fun m σ H'=>∃ (L W:List Str) (x y:Option V),σ = [some (.ref g),some (.str room),some (.ref d),some (.ref w),x,y]/\Led H H' ds room d w L W (fun _=>False)/\m = 2 * (rooms.length - L.length) + W.length/\m <= 2 * rooms.length + 1,
  ⟨_,[],[room],_,_,rfl,⟨kp upd_same hw,upd_same,(Same.new hd).trans (Same.new hw),List.nodup_nil,by simp,by simp,?_⟩,rfl,Nat.le_refl _⟩,?_⟩
 ·intro y hy hn
  rcases hy with rfl | hy
  ·simp at hn
  ·cases hy
 rintro m σ H1 ⟨L,W,x4,x5,rfl,D,rfl,hbound⟩
 have lenL:∀ {L':List Str},L'.Nodup->(∀ y ∈ L',Reach ds room y)->L'.length <= rooms.length:=fun nd sd=>nodup_le nd fun y hy=>(sd y hy).in_ hin
 refine ⟨_,rfl,.inl ⟨w,_,rfl,.inl (SqL.of D.w),_,_,rfl,rfl,_,rfl,?_⟩⟩
 refine ite2 (fun hpos=>?_) (fun hpos=>?_)
 ·have hne:W ≠ []:=by
   intro z
   rw [z] at hpos
   exact absurd (of_decide_eq_true hpos) (by decide)
  obtain ⟨W',here,rfl⟩:∃ W' here,W = W' ++ [here]:=⟨W.dropLast,W.getLast hne,(List.dropLast_concat_getLast hne).symm⟩
  have hhere:here = room ∨ here ∈ L:=D.wait here (by simp)
  refine ⟨fun σ' H'=>∃ (L' W2:List Str) (x y:Option V),σ' = [some (.ref g),some (.str room),some (.ref d),some (.ref w),x,y]/\Led H H' ds room d w L' W2 (fun _=>False)/\2 * (rooms.length - L'.length) + W2.length < 2 * (rooms.length - L.length) + (W' ++ [here]).length,
   fun σ' H' ⟨L',W2,x,y,e,D',hm⟩=>⟨_,hm,L',W2,x,y,e,D',rfl,by omega⟩,?_⟩
  have hlast:((W' ++ [here]).map V.str)[((W' ++ [here]).map V.str).length - 1]? = some (.str here):=by simp
  have hdrop:((W' ++ [here]).map V.str).dropLast = W'.map V.str:=by rw [List.map_append]; simp
  refine ⟨_,rfl,.inl ⟨rfl,_,SqL.of D.w⟩,w,_,_,rfl,rfl,D.w,hlast,?_⟩
  rw [hdrop]
  have hd1:upd H1 w (.lst (W'.map V.str)) d = some (.dK (keysOf L)):=by rw [upd_ne hdw]; exact D.d
  have hw1:upd H1 w (.lst (W'.map V.str)) w = some (.lst (W'.map V.str)):=upd_same
  have S1:Same H (upd H1 w (.lst (W'.map V.str))):=fun b o q=>by rw [upd_ne (ne_of_none q hwH)]; exact D.same _ _ q
  generalize upd H1 w (.lst (W'.map V.str)) = H2 at hd1 hw1 S1 ⊢
  have G2:=G.same S1
  refine ⟨_,rfl,g,rfl,.inr ⟨_,.inl G2.g⟩,_,rfl,(by show 2 <= sizeLine; decide),fun kt hkt=>⟨(by show 0 <= sizeLine; decide),fun et het=>⟨valV (kvOf sgk ps) (sgk (here,stillSg)),.inr ⟨_,sgk (here,stillSg),kt,.inl ?_,rfl,?_,sgk_depth _,rfl⟩,?_⟩⟩⟩
  ·exact kp (kp G2.g hkt) het
  ·unfold sgk TKIn
   refine ⟨kt,_,rfl,SqT.of (kp upd_same het),?_⟩
   unfold TKIns
   refine ⟨_,_,rfl,?_,?_⟩
   ·unfold sTK TKIn; rfl
   unfold TKIns
   refine ⟨_,_,rfl,?_,?_⟩
   ·unfold gTK TKIn
    refine ⟨st,_,rfl,hst _,?_⟩
    unfold stillSg
    show TKIns K _ [sTK _] [V.str _]
    unfold TKIns
    refine ⟨_,_,rfl,?_,?_⟩
    ·unfold sTK TKIn; rfl
    unfold TKIns; rfl
   unfold TKIns; rfl
  have S3:Same H2 (upd (upd H2 kt (.tup [.str here,.ref st])) et (.tup [])):=(Same.new hkt).trans (Same.new het)
  have het3:upd (upd H2 kt (.tup [.str here,.ref st])) et (.tup []) et = some (.tup []):=upd_same
  generalize upd (upd H2 kt (.tup [.str here,.ref st])) et (.tup []) = H3 at S3 het3 ⊢
  have D3:Led H H3 ds room d w L W' (fun y=>y = here):=⟨S3 _ _ hd1,S3 _ _ hw1,S1.trans S3,D.nd,D.sound,fun y hy=>D.wait y (List.mem_append_left _ hy),fun y hy hn ho=>D.closed y hy (fun z=>by rcases List.mem_append.mp z with z | z; exact hn z; exact ho (by simpa using z)) (fun z=>z)⟩
  have hm3:2 * (rooms.length - L.length) + W'.length < 2 * (rooms.length - L.length) + (W' ++ [here]).length:=by rw [List.length_append]; show _ < _ + (_ + 1); omega
  have fin:∀ (H4:Hp) (L' W2:List Str) (x y:Option V),Led H H4 ds room d w L' W2 (fun y=>y = here)->(∀ c ∈ goalsOf ds (here,stillSg),c ∈ L')->2 * (rooms.length - L'.length) + W2.length < 2 * (rooms.length - L.length) + (W' ++ [here]).length ->
    ∃ (L' W2:List Str) (x' y':Option V),[some (V.ref g),some (.str room),some (.ref d),some (.ref w),x,y] = [some (.ref g),some (.str room),some (.ref d),some (.ref w),x',y']/\Led H H4 ds room d w L' W2 (fun _=>False)/\2 * (rooms.length - L'.length) + W2.length < 2 * (rooms.length - L.length) + (W' ++ [here]).length:=by
   intro H4 L' W2 x y D4 hc hm
   refine ⟨L',W2,x,y,rfl,⟨D4.d,D4.w,D4.same,D4.nd,D4.sound,D4.wait,fun y hy hn _=>?_⟩,hm⟩
   by_cases e:y = here
   ·rw [e]; exact hc
   ·exact D4.closed y hy hn e
  by_cases hmem:(here,stillSg) ∈ ps.map (·.1)
  ·obtain ⟨⟨r,a⟩,hra,er⟩:=List.mem_map.mp hmem
   obtain rfl:r = (here,stillSg):=er
   rw [kv_some sgk_inj G.nd hra]
   have hla:=G.ls _ hra
   refine ⟨a,rfl,.inl ⟨⟨_,SqL.of ((S1.trans S3) _ _ hla)⟩,?_⟩⟩
   refine for_list (xs:=(goalsOf ds (here,stillSg)).map V.str) (fun j σ H'=>∃ (L' W2:List Str) (y:Option V),σ = [some (.ref g),some (.str room),some (.ref d),some (.ref w),some (.str here),y]/\Led H H' ds room d w L' W2 (fun y=>y = here)/\(here = room ∨ here ∈ L')/\(∀ c ∈ (goalsOf ds (here,stillSg)).take j,c ∈ L') /\
     2 * (rooms.length - L'.length) + W2.length < 2 * (rooms.length - L.length) + (W' ++ [here]).length)
    ⟨L,W',_,rfl,D3,hhere,by simp,hm3⟩ (fun j σ H' _ ⟨_,_,_,_,D',_⟩=>SqL.of (D'.same _ _ hla)) ?_ ?_
   ·rintro j x σ H4 hj ⟨L',W2,y,rfl,D4,hh,hc,hm⟩
    obtain ⟨goal,hgoal,rfl⟩:=strs_get hj
    have hedge:(⟨here,stillSg,goal⟩:Door) ∈ ds:=mem_goalsOf.mp (List.mem_of_getElem? hgoal)
    have hreach:Reach ds room goal:=by
     rcases hh with hh | hh
     ·rw [hh] at hedge; exact .one hedge
     ·exact .step (D4.sound _ hh) hedge
    have hlen':=lenL D4.nd D4.sound
    refine ⟨_,rfl,_,rfl,d,_,rfl,.inl ⟨_,.inr goal,.inl D4.d,rfl,rfl⟩,_,rfl,?_⟩
    rw [keysOf_is]
    by_cases c:goal ∈ L'
    ·rw [decide_eq_true c]
     refine iteF ⟨L',W2,_,rfl,D4,hh,?_,hm⟩
     intro c' hc'
     rw [take_snoc hgoal] at hc'
     rcases List.mem_append.mp hc' with h | h
     ·exact hc c' h
     ·have:c' = goal:=by simpa using h
      rw [this]; exact c
    ·rw [decide_eq_false c]
     refine iteT ?_
     have nd':(L' ++ [goal]).Nodup:=by
      rw [List.nodup_append]
      refine ⟨D4.nd,by simp,fun a ha b hb e=>?_⟩
      have:b = goal:=by simpa using hb
      exact c (by rw [<- this,<- e]; exact ha)
     have sd':∀ y ∈ L' ++ [goal],Reach ds room y:=by
      intro y hy
      rcases List.mem_append.mp hy with hy | hy
      ·exact D4.sound y hy
      ·have:y = goal:=by simpa using hy
       rw [this]; exact hreach
     have hlen2:=lenL nd' sd'
     rw [List.length_append] at hlen2
     have hlen3:L'.length + 1 <= rooms.length:=hlen2
     have hWl:W2.length <= 9000:=by omega
     refine ⟨_,rfl,_,rfl,d,_,rfl,.inl ⟨_,.inr goal,D4.d,rfl,small1000 (Nat.le_trans (keysOf_len _) (by omega)),rfl⟩,?_⟩
     have hw5:upd H4 d (.dK (putK (keysOf L') (.inr goal) (.bl true))) w = some (.lst (W2.map V.str)):=by rw [upd_ne hdw.symm]; exact D4.w
     refine ⟨_,rfl,.inl ⟨rfl,_,SqL.of hw5⟩,_,rfl,w,_,_,rfl,rfl,hw5,by rw [List.length_map]; exact small9000 hWl,L' ++ [goal],W2 ++ [goal],_,rfl,⟨?_,?_,?_,nd',sd',?_,?_⟩,?_,?_,?_⟩
     ·rw [upd_ne hdw,upd_same,keysOf_snoc]
     ·rw [upd_same,List.map_append]; rfl
     ·intro b o q
      rw [upd_ne (ne_of_none q hwH),upd_ne (ne_of_none q hd)]
      exact D4.same _ _ q
     ·intro y hy
      rcases List.mem_append.mp hy with hy | hy
      ·rcases D4.wait y hy with h | h
       ·exact .inl h
       ·exact .inr (List.mem_append_left _ h)
      ·exact .inr (List.mem_append_right _ hy)
     ·intro y hy hn ho c' hc'
      have hn1:y ∉ W2:=fun z=>hn (List.mem_append_left _ z)
      have hyg:y ≠ goal:=fun z=>hn (List.mem_append_right _ (by simp [z]))
      refine List.mem_append_left _ (D4.closed y ?_ hn1 ho c' hc')
      rcases hy with hy | hy
      ·exact .inl hy
      ·rcases List.mem_append.mp hy with hy | hy
       ·exact .inr hy
       ·exact absurd (by simpa using hy) hyg
     ·rcases hh with h | h
      ·exact .inl h
      ·exact .inr (List.mem_append_left _ h)
     ·intro c' hc'
      rw [take_snoc hgoal] at hc'
      rcases List.mem_append.mp hc' with h | h
      ·exact List.mem_append_left _ (hc c' h)
      ·exact List.mem_append_right _ h
     ·rw [List.length_append,List.length_append]
      show 2 * (rooms.length - (L'.length + 1)) + (W2.length + 1) < _
      omega
   ·rintro σ H4 ⟨L',W2,y,rfl,D4,hh,hc,hm⟩
    rw [List.length_map,List.take_length] at hc
    exact fin H4 L' W2 _ _ D4 hc hm
  ·rw [kv_none sgk_inj hmem]
   refine ⟨et,rfl,.inr ⟨⟨_,SqT.of het3⟩,?_⟩⟩
   have hnil:goalsOf ds (here,stillSg) = []:=goalsOf_nil fun x hx z=>hmem (by rw [<- z]; exact G.all x hx)
   refine for_tup (xs:=[]) (fun j σ H'=>σ = [some (.ref g),some (.str room),some (.ref d),some (.ref w),some (.str here),x5]/\H' = H3) ⟨rfl,rfl⟩ (fun j σ H' _ ⟨_,e⟩=>by rw [e]; exact SqT.of het3) (fun j x σ H' hj=>by cases hj) ?_
   rintro σ H' ⟨rfl,rfl⟩
   exact fin _ L W' _ _ D3 (by rw [hnil]; simp) hm3
 ·have hnil:W = []:=by
   cases W with
   | nil=>rfl
   | cons a W=>exact absurd (decide_eq_true (by rw [List.length_map,List.length_cons]; omega)) hpos
  subst hnil
  refine ⟨_,rfl,k d L H1 D.d D.nd (fun w=>⟨D.sound w,fun hr=>?_⟩) hd D.same⟩
  induction hr with
  | one h=>exact D.closed room (.inl rfl) (by simp) (fun z=>z) _ (mem_goalsOf.mpr h)
  | step r h ih=>exact D.closed _ (.inr ih) (by simp) (fun z=>z) _ (mem_goalsOf.mpr h)
def sp_first_led_round:Sp:=fun vs H Q _=>∃ (l3 d:Addr) (rooms:List Str) (ps:List (Str × Addr)),vs = [.ref l3,.ref d]/\H l3 = some (.lst (rooms.map V.str))/\H d = some (.dK (kvOf Sum.inr ps))/\ps.map (·.1) = rooms/\rooms.Nodup /\
 (∀ x ∈ ps,∃ L,H x.2 = some (.dK (keysOf L))/\x.1 ∉ L)/\∀ H',Same H H'->Q .non H'
theorem rd_first_led_round {K:PySem.W.Frag} {vs:List V} {H:Hp} {Q:VK} {E:XK} (h:sp_first_led_round vs H Q E):t_first_led_round K { nx:=fun _ H'=>Q .non H',rt:=Q } (start N_first_led_round vs) H:=by
 obtain ⟨l3,d,rooms,ps,rfl,h3,hd,hps,nod,hL,k⟩:=h
 refine ⟨_,rfl,l3,rfl,⟨_,SqL.of h3⟩,?_⟩
 refine for_enum (xs:=rooms.map V.str) (fun i σ H'=>∃ x y,σ = [some (.ref l3),some (.ref d),x,y]/\Same H H') ⟨_,_,rfl,Same.refl H⟩ (fun i σ H' _ ⟨_,_,_,S⟩=>SqL.of (S _ _ h3)) ?_ ?_
 ·rintro i x σ H' t hi ⟨x2,x3,rfl,S⟩ ht
  obtain ⟨w,hw,rfl⟩:=strs_get hi
  refine ⟨t,_,rfl,SqT.of upd_same,rfl,_,_,rfl,_,_,rfl,rfl,?_⟩
  have S2:Same H (upd H' t (.tup [.int i,.str w])):=S.trans (Same.new ht)
  generalize upd H' t (.tup [.int i,.str w]) = H2 at S2 ⊢
  have hmem:w ∈ ps.map (·.1):=by rw [hps]; exact List.mem_of_getElem? hw
  obtain ⟨⟨r,a⟩,hra,er⟩:=List.mem_map.mp hmem
  obtain rfl:r = w:=er
  obtain ⟨L,hLa,hn⟩:=hL _ hra
  refine ⟨_,rfl,_,rfl,_,rfl,d,.ref a,rfl,.inl ⟨_,.inr r,.inl (S2 _ _ hd),rfl,(kv_some inr_inj (by rw [hps]; exact nod) hra).symm⟩,a,_,rfl,.inl ⟨_,.inr r,.inl (S2 _ _ hLa),rfl,rfl⟩,_,rfl,?_⟩
  rw [keysOf_is,decide_eq_false hn]
  exact iteF ⟨_,_,rfl,S2⟩
 ·rintro σ H' ⟨x,y,rfl,S⟩
  exact k H' S
abbrev lk (f:Str) (fs:List (Str × V)):Option V:=fs.lookup f
def quietB (ds:List Door) (r:Str):Bool:=(leavingOf ds r).all isAsk
structure MachAt (C:Addr) (H:Hp) (x:Addr) (asks says rooms:List Str) (ds:List Door):Prop where
 at_:∃ (dx:Addr) (fs:List (Str × V)) (o1 o2 o3 o4 lv qu sg sl:Addr) (ts:List Addr) (lps:List (Str × Addr)) (gps:List ((Str × List Str) × Addr)) (sps:List (Str × Addr)),
  H x = some (.ins C dx fs)/\lk "is_quiet" fs = none/\lk "goals" fs = none/\lk "led_from" fs = none/\lk "rooms" fs = none /\
  lk "own_asks" fs = some (.ref o1)/\lk "own_says" fs = some (.ref o2)/\lk "own_rooms" fs = some (.ref o3)/\lk "own_doors" fs = some (.ref o4) /\
  lk "leaving" fs = some (.ref lv)/\lk "quiet" fs = some (.ref qu)/\lk "sign_goals" fs = some (.ref sg)/\lk "still_led" fs = some (.ref sl) /\
  Lists H o1 o2 o3 o4 ts asks says rooms ds /\
  lps.map (·.1) = rooms/\H lv = some (.dK (kvOf Sum.inr lps))/\(∀ x ∈ lps,∃ us,H x.2 = some (.lst (us.map V.ref))/\Doors H us (leavingOf ds x.1)) /\
  H qu = some (.dK (keysOf (rooms.filter (quietB ds))))/\GoalsAt H sg gps ds /\
  sps.map (·.1) = rooms/\H sl = some (.dK (kvOf Sum.inr sps))/\(∀ x ∈ sps,∃ L,H x.2 = some (.dK (keysOf L))/\L.Nodup/\∀ w,w ∈ L ↔ Reach ds x.1 w)
 ok:ModelOk asks says rooms ds
 more:∃ (dx:Addr) (fs:List (Str × V)),H x = some (.ins C dx fs)/\lk "asks" fs = none/\lk "says" fs = none/\lk "doors" fs = none/\lk "doors_from" fs = none
theorem putF_len (f:Str) (v:V):∀ fs:List (Str × V),(putF f v fs).length <= fs.length + 1
 | []=>Nat.le_refl _
 | (g,x) :: r=>by
  unfold putF
  split
  ·exact Nat.le_succ _
  ·rw [List.length_cons,List.length_cons]
   have:=putF_len f v r
   omega
theorem mergeK_new:∀ (ps qs:List (Str × Addr)),((qs ++ ps).map (·.1)).Nodup->mergeK (kvOf Sum.inr qs) (kvOf Sum.inr ps) = kvOf Sum.inr (qs ++ ps)
 | [],qs,_=>by rw [List.append_nil]; rfl
 | p :: ps,qs,nd=>by
  show mergeK (putK (kvOf Sum.inr qs) (Sum.inr p.1) (.ref p.2)) (kvOf Sum.inr ps) = _
  have e:qs ++ p :: ps = (qs ++ [p]) ++ ps:=by simp
  rw [e] at nd ⊢
  have hnew:p.1 ∉ qs.map (·.1):=by
   rw [List.map_append,List.map_append,List.nodup_append] at nd
   have:=nd.1
   rw [List.nodup_append] at this
   intro z
   exact this.2.2 _ z _ (by simp) rfl
  rw [putK_new _ (kv_none inr_inj hnew)]
  have:=mergeK_new ps (qs ++ [p]) nd
  rw [<- this]
  have e2:kvOf (Sum.inr:Str->Key) (qs ++ [p]) = kvOf Sum.inr qs ++ [(Sum.inr p.1,V.ref p.2)]:=by
   unfold kvOf; rw [List.map_append]; rfl
  rw [e2]
def sp_init (C:Addr):Sp:=fun vs H Q _=>∃ (x dx l1 l2 l3 l4:Addr) (ts:List Addr) (asks says rooms:List Str) (ds:List Door),vs = [.ref x,.ref l1,.ref l2,.ref l3,.ref l4]/\H x = some (.ins C dx [])/\Lists H l1 l2 l3 l4 ts asks says rooms ds/\ModelOk asks says rooms ds /\
 ∀ H',MachAt C H' x asks says rooms ds->ExB x H H'->Q .non H'
theorem Lists.exI {H H':Hp} {x C dx:Addr} {fs:List (Str × V)} {l1 l2 l3 l4:Addr} {ts:List Addr} {asks says rooms:List Str} {ds:List Door} (h:Lists H l1 l2 l3 l4 ts asks says rooms ds) (hx:H x = some (.ins C dx fs)) (e:ExB x H H'):Lists H' l1 l2 l3 l4 ts asks says rooms ds:=by
 have ne:∀ {b:Addr} {xs:List V},H b = some (.lst xs)->b ≠ x:=fun hb z=>by rw [z,hx] at hb; cases hb
 exact ⟨e _ _ h.a1 (ne h.a1),e _ _ h.a2 (ne h.a2),e _ _ h.a3 (ne h.a3),e _ _ h.a4 (ne h.a4),h.ds.kt fun b xs hb=>e _ _ hb fun z=>by rw [z,hx] at hb; cases hb⟩
theorem ExB.ktI {H H':Hp} {x C dx:Addr} {fs:List (Str × V)} (e:ExB x H H') (hx:H x = some (.ins C dx fs)):KT0 H H':=fun b xs hb=>e _ _ hb fun z=>by rw [z,hx] at hb; cases hb
theorem ExB.neI {H:Hp} {x C dx:Addr} {fs:List (Str × V)} (hx:H x = some (.ins C dx fs)) {b:Addr} {xs:List V} (hb:H b = some (.lst xs)):b ≠ x:=fun z=>by rw [z,hx] at hb; cases hb
theorem neI_d {H:Hp} {x C dx:Addr} {fs:List (Str × V)} (hx:H x = some (.ins C dx fs)) {b:Addr} {kvs:List (Key × V)} (hb:H b = some (.dK kvs)):b ≠ x:=fun z=>by rw [z,hx] at hb; cases hb
theorem neI_t {H:Hp} {x C dx:Addr} {fs:List (Str × V)} (hx:H x = some (.ins C dx fs)) {b:Addr} {kvs:List (TK × V)} (hb:H b = some (.dT kvs)):b ≠ x:=fun z=>by rw [z,hx] at hb; cases hb
structure MC (K:PySem.W.Frag) (C:Addr):Prop where
 cls:Cls K C
 a1:NoAttr K C "own_asks"
 a2:NoAttr K C "own_says"
 a3:NoAttr K C "own_rooms"
 a4:NoAttr K C "own_doors"
 a5:NoAttr K C "leaving"
 a6:NoAttr K C "quiet"
 a7:NoAttr K C "sign_goals"
 a8:NoAttr K C "still_led"
theorem fld2 {H:Hp} {x C dx:Addr} {fs:List (Str × V)} (f:Str) (y:V) (hx:H x = some (.ins C dx fs)):∃ H',H' = upd H x (.ins C dx (putF f y fs))/\H' x = some (.ins C dx (putF f y fs))/\ExB x H H' :=
 ⟨_,rfl,upd_same,ExB.upd _ _ _⟩
theorem filter_snoc {p:Str->Bool} {ws:List Str} {i:Nat} {w:Str} (h:ws[i]? = some w):(ws.take (i + 1)).filter p = (ws.take i).filter p ++ (if p w = true then [w] else []):=by
 rw [take_snoc h,List.filter_append]
 congr 1
 by_cases c:p w = true
 ·rw [if_pos c]; simp [c]
 ·rw [if_neg c]; simp [c]
theorem leaving_le (ds:List Door) (r:Str):(leavingOf ds r).length <= ds.length:=List.length_filter_le _ _
theorem ModelOk.sg0 {asks says rooms:List Str} {ds:List Door} (m:ModelOk asks says rooms ds) {r:Str}:∀ d ∈ leavingOf ds r,d.sg ≠ []:=by
 intro d hd
 have:=m.good d (List.mem_filter.mp hd).1
 rcases this.sg with ⟨w,_,e⟩ | ⟨w,_,e⟩ | e <;> rw [e] <;> exact List.cons_ne_nil _ _
theorem rd_init {K:PySem.W.Frag} {C:Addr} (M:MC K C) {vs:List V} {H:Hp} {Q:VK} {E:XK} (h:sp_init C vs H Q E) :
  t_Machine___init__ K sp_need_none sp_first_led_round sp_led sp_goals (sp_as_keys K) sp_has_asks_alone sp_doors_by_start sp_need_parts { nx:=fun _ H'=>Q .non H',rt:=Q } (start N_Machine___init__ vs) H:=by
 obtain ⟨x,dx,l1,l2,l3,l4,ts,asks,says,rooms,ds,rfl,hx,L,m,k⟩:=h
 have z3:=m.rooms26
 have z4:=m.few
 refine ⟨_,rfl,_,rfl,_,rfl,_,rfl,l1,l2,l3,l4,ts,asks,says,rooms,ds,rfl,L,m,fun H1 S1=>?_⟩
 have hx1:=S1 _ _ hx
 have L1:=L.same S1
 have E1:ExB x H H1:=Same.exB S1
 refine ⟨_,rfl,.inl ⟨l1,_,rfl,.inl (SqL.of L1.a1),fun o1 ho1=>⟨_,rfl,x,C,dx,_,rfl,kp hx1 ho1,M.cls,M.a1,(by show 0 < 1000; decide),?_⟩⟩⟩
 obtain ⟨H2,e2,hx2,F2⟩:=fld2 "own_asks" (.ref o1) (kp (x:=.lst (asks.map V.str)) hx1 ho1)
 rw [<- e2]
 have n1:o1 ≠ x:=(ne_of_none hx1 ho1).symm
 have f1:=F2 _ _ upd_same n1
 have E2:ExB x H1 H2:=(ExB.new ho1).trans F2
 have L2':=L1.exI hx1 E2
 have len2:(putF ("own_asks":Str) (.ref o1) []).length <= 1:=putF_len _ _ _
 clear e2 F2
 refine ⟨_,rfl,.inl ⟨l2,_,rfl,.inl (SqL.of L2'.a2),fun o2 ho2=>⟨_,rfl,x,C,dx,_,rfl,kp hx2 ho2,M.cls,M.a2,by omega,?_⟩⟩⟩
 obtain ⟨H3,e3,hx3,F3⟩:=fld2 "own_says" (.ref o2) (kp (x:=.lst (says.map V.str)) hx2 ho2)
 rw [<- e3]
 have n2:o2 ≠ x:=(ne_of_none hx2 ho2).symm
 have f2:=F3 _ _ upd_same n2
 have E3:ExB x H2 H3:=(ExB.new ho2).trans F3
 have L3:=L2'.exI hx2 E3
 have len3:=putF_len ("own_says":Str) (.ref o2) (putF ("own_asks":Str) (.ref o1) [])
 clear e3 F3
 refine ⟨_,rfl,.inl ⟨l3,_,rfl,.inl (SqL.of L3.a3),fun o3 ho3=>⟨_,rfl,x,C,dx,_,rfl,kp hx3 ho3,M.cls,M.a3,by omega,?_⟩⟩⟩
 obtain ⟨H4,e4,hx4,F4⟩:=fld2 "own_rooms" (.ref o3) (kp (x:=.lst (rooms.map V.str)) hx3 ho3)
 rw [<- e4]
 have n3:o3 ≠ x:=(ne_of_none hx3 ho3).symm
 have f3:=F4 _ _ upd_same n3
 have E4:ExB x H3 H4:=(ExB.new ho3).trans F4
 have L4:=L3.exI hx3 E4
 have len4:=putF_len ("own_rooms":Str) (.ref o3) (putF ("own_says":Str) (.ref o2) (putF ("own_asks":Str) (.ref o1) []))
 clear e4 F4
 refine ⟨_,rfl,.inl ⟨l4,_,rfl,.inl (SqL.of L4.a4),fun o4 ho4=>⟨_,rfl,x,C,dx,_,rfl,kp hx4 ho4,M.cls,M.a4,by omega,?_⟩⟩⟩
 obtain ⟨H5,e5,hx5,F5⟩:=fld2 "own_doors" (.ref o4) (kp (x:=.lst (ts.map V.ref)) hx4 ho4)
 rw [<- e5]
 have n4:o4 ≠ x:=(ne_of_none hx4 ho4).symm
 have f4:=F5 _ _ upd_same n4
 have E5:ExB x H4 H5:=(ExB.new ho4).trans F5
 have L5:=L4.exI hx4 E5
 generalize hfs4:putF ("own_doors":Str) (.ref o4) (putF ("own_rooms":Str) (.ref o3) (putF ("own_says":Str) (.ref o2) (putF ("own_asks":Str) (.ref o1) []))) = fs4 at hx5
 have len5:fs4.length <= 4:=by
  rw [<- hfs4]
  have:=putF_len ("own_doors":Str) (.ref o4) (putF ("own_rooms":Str) (.ref o3) (putF ("own_says":Str) (.ref o2) (putF ("own_asks":Str) (.ref o1) [])))
  omega
 clear e5 F5
 refine ⟨_,rfl,_,rfl,l3,l4,ts,rooms,ds,rfl,L5.a3,L5.a4,L5.ds,m.okR.1,by omega,by omega,fun d hd=>(m.good d hd).a,fun lv lps H6' hlps flv' hlv' S6=>⟨_,rfl,x,C,dx,fs4,rfl,S6 _ _ hx5,M.cls,M.a5,by omega,?_⟩⟩
 obtain ⟨H6,e6,hx6,F6⟩:=fld2 "leaving" (.ref lv) (S6 _ _ hx5)
 rw [<- e6]
 have E6:ExB x H5 H6:=(Same.exB S6).trans F6
 have L6:=L5.exI hx5 E6
 have flv:=F6 _ _ flv' (neI_d (S6 _ _ hx5) flv')
 have hlv:∀ y ∈ lps,∃ us,H6 y.2 = some (.lst (us.map V.ref))/\Doors H6 us (leavingOf ds y.1):=fun y hy=>by
  obtain ⟨us,g1,g2⟩:=hlv' y hy
  exact ⟨us,F6 _ _ g1 (ExB.neI (S6 _ _ hx5) g1),g2.kt (F6.ktI (S6 _ _ hx5))⟩
 have ndl:(lps.map (·.1)).Nodup:=by rw [hlps]; exact m.okR.1
 have len6:=putF_len ("leaving":Str) (.ref lv) fs4
 have lk5:lk "leaving" (putF ("leaving":Str) (.ref lv) fs4) = some (.ref lv):=by
  show List.lookup _ _ = _
  rw [lookup_putF,if_pos rfl]
 clear e6 F6 flv' hlv'
 refine ⟨_,rfl,l3,rfl,⟨_,SqL.of L6.a3⟩,fun f hf=>?_⟩
 refine comp_list (xs:=rooms.map V.str) (fun i vs H'=>vs = ((rooms.take i).filter (quietB ds)).map V.str/\Same H6 H'/\H' f = some (.lst vs)) ⟨rfl,Same.new hf,upd_same⟩ (fun i vs H' _ ⟨_,S,h'⟩=>⟨h',SqL.of (S _ _ L6.a3)⟩) ?_ ?_
 rotate_left
 ·rintro i vs H' x' hx' hi ⟨rfl,S,f'⟩
  obtain ⟨r,hr,rfl⟩:=strs_get hx'
  obtain ⟨⟨r',a⟩,hra,er⟩:=List.mem_map.mp (show r ∈ lps.map (·.1) by rw [hlps]; exact List.mem_of_getElem? hr)
  obtain rfl:r' = r:=er
  obtain ⟨us,hus,hdo⟩:=hlv _ hra
  refine gN ?_
  refine ⟨_,rfl,x,C,dx,_,.ref lv,rfl,S _ _ hx6,M.cls,M.a5,lk5,_,rfl,lv,.ref a,rfl,.inl ⟨_,.inr r',.inl (S _ _ flv),rfl,(kv_some inr_inj ndl hra).symm⟩,a,us,leavingOf ds r',rfl,S _ _ hus,hdo.kt (Same.kt S),Nat.le_trans (leaving_le _ _) (by omega),m.sg0,fun H'' S''=>⟨_,rfl,?_⟩⟩
  have hlen:(((rooms.take i).filter (quietB ds)).map V.str).length < sizeLine:=by
   rw [List.length_map]
   refine small1000 (Nat.le_trans (List.length_filter_le _ _) ?_)
   rw [List.length_take]; omega
  refine ite2 (fun hq=>?_) (fun hq=>?_)
  ·refine ⟨_,rfl,S'' _ _ f',hlen,nxt hi ⟨?_,?_,upd_same⟩⟩
   ·rw [filter_snoc hr,if_pos (show quietB ds r' = true from hq),List.map_append]; rfl
   ·intro b o q
    rw [upd_ne (ne_of_none q hf)]
    exact S'' _ _ (S _ _ q)
  ·refine nxt hi ⟨?_,S.trans S'',?_⟩
   ·rw [filter_snoc hr,if_neg (show ¬ quietB ds r' = true from hq),List.append_nil]
   ·exact S'' _ _ f'
 rintro vs H7' ⟨rfl,S7,f7⟩
 rw [List.length_map,List.take_length] at f7
 refine as_keys_i (ws:=rooms.filter (quietB ds)) (SqL.of f7) (Nat.le_trans (List.length_filter_le _ _) (by omega)) fun qu hqu=>⟨_,rfl,x,C,dx,_,rfl,kp (S7 _ _ hx6) hqu,M.cls,M.a6,by omega,?_⟩
 obtain ⟨H7,e7,hx7,F7⟩:=fld2 "quiet" (.ref qu) (kp (x:=.dK (keysOf (rooms.filter (quietB ds)))) (S7 _ _ hx6) hqu)
 rw [<- e7]
 have n7:qu ≠ x:=(ne_of_none (S7 _ _ hx6) hqu).symm
 have fqu:=F7 _ _ upd_same n7
 have E7:ExB x H6 H7:=((Same.exB S7).trans (ExB.new hqu)).trans F7
 have L7:=L6.exI hx6 E7
 have len7:=putF_len ("quiet":Str) (.ref qu) (putF ("leaving":Str) (.ref lv) fs4)
 clear e7 F7
 refine ⟨_,rfl,l4,ts,ds,rfl,L7.a4,L7.ds,by omega,fun sg gps H8' G' S8=>⟨_,rfl,x,C,dx,_,rfl,S8 _ _ hx7,M.cls,M.a7,by omega,?_⟩⟩
 obtain ⟨H8,e8,hx8,F8⟩:=fld2 "sign_goals" (.ref sg) (S8 _ _ hx7)
 rw [<- e8]
 have E8:ExB x H7 H8:=(Same.exB S8).trans F8
 have L8:=L7.exI hx7 E8
 have G8:GoalsAt H8 sg gps ds:=⟨G'.nd,F8 _ _ G'.g (neI_t (S8 _ _ hx7) G'.g),fun y hy=>F8 _ _ (G'.ls y hy) (ExB.neI (S8 _ _ hx7) (G'.ls y hy)),G'.all⟩
 have len8:=putF_len ("sign_goals":Str) (.ref sg) (putF ("quiet":Str) (.ref qu) (putF ("leaving":Str) (.ref lv) fs4))
 have lk7:lk "sign_goals" (putF ("sign_goals":Str) (.ref sg) (putF ("quiet":Str) (.ref qu) (putF ("leaving":Str) (.ref lv) fs4))) = some (.ref sg):=by
  show List.lookup _ _ = _
  rw [lookup_putF,if_pos rfl]
 clear e8 F8 G'
 refine ⟨_,rfl,l3,rfl,⟨_,SqL.of L8.a3⟩,fun f2' hf2=>?_⟩
 refine comp_list (xs:=rooms.map V.str) (fun i vs H'=>∃ (us:List Addr) (pl:List (Str × Addr)),vs = us.map V.ref/\Paired (fun t (p:Str × Addr)=>H' t = some (.tup [.str p.1,.ref p.2])) us pl/\pl.map (·.1) = rooms.take i/\(∀ p ∈ pl,∃ L,H' p.2 = some (.dK (keysOf L))/\L.Nodup/\∀ w,w ∈ L ↔ Reach ds p.1 w)/\Same H8 H'/\H' f2' = some (.lst vs))
  ⟨[],[],rfl,.nil,rfl,by simp,Same.new hf2,upd_same⟩ (fun i vs H' _ ⟨_,_,_,_,_,_,S,h'⟩=>⟨h',SqL.of (S _ _ L8.a3)⟩) ?_ ?_
 rotate_left
 ·rintro i vs H' x' hx' hi ⟨us,pl,rfl,hpa,hpl,hle,S,f'⟩
  obtain ⟨r,hr,rfl⟩:=strs_get hx'
  have hilen:us.length <= 26:=by
   rw [Paired.length hpa,<- List.length_map (f:=(·.1)) (as:=pl),hpl,List.length_take]; omega
  refine gN (yesT ?_)
  refine ⟨_,rfl,_,rfl,x,C,dx,_,.ref sg,rfl,S _ _ hx8,M.cls,M.a7,lk7,_,rfl,sg,r,gps,ds,rooms,rfl,G8.same S,fun d hd=>(m.good d hd).b,by omega,fun ld Lr H'' hld nd hLr hfr S''=>⟨(by show 2 <= sizeLine; decide),fun t ht=>⟨?_,?_,nxt hi ⟨us ++ [t],pl ++ [(r,ld)],?_,?_,?_,?_,?_,upd_same⟩⟩⟩⟩
  ·exact kp (S'' _ _ f') ht
  ·rw [List.length_map]; exact small1000 (by omega)
  ·rw [List.map_append]; rfl
  ·have KT:KT0 (upd H'' t (.tup [.str r,.ref ld])) (upd (upd H'' t (.tup [.str r,.ref ld])) f2' (.lst (us.map V.ref ++ [.ref t]))):=kt_upd (kp (S'' _ _ f') ht)
   exact Paired.app (Paired.mapP hpa fun t' p' e=>KT _ _ (kp (S'' _ _ e) ht)) (.cons (KT _ _ upd_same) .nil)
  ·rw [List.map_append,hpl,take_snoc hr]; rfl
  ·have ned:∀ {b:Addr} {kvs:List (Key × V)},upd H'' t (.tup [.str r,.ref ld]) b = some (.dK kvs)->b ≠ f2':=fun hb z=>by rw [z,kp (S'' _ _ f') ht] at hb; cases hb
   intro p hp
   rcases List.mem_append.mp hp with hp | hp
   ·obtain ⟨L0,g1,g2⟩:=hle p hp
    refine ⟨L0,?_,g2⟩
    have:=kp (x:=.tup [.str r,.ref ld]) (S'' _ _ g1) ht
    rw [upd_ne (ned this)]; exact this
   ·have:p = (r,ld):=by simpa using hp
    subst this
    refine ⟨Lr,?_,nd,hLr⟩
    have:=kp (x:=.tup [.str r,.ref ld]) hld ht
    rw [upd_ne (ned this)]; exact this
  ·intro b o q
   rw [upd_ne (ne_of_none q hf2)]
   exact kp (S'' _ _ (S _ _ q)) ht
 rintro vs H9' ⟨us,sps,rfl,hpa,hsps,hled,S9,f9⟩
 rw [List.length_map,List.take_length] at hsps
 have nds:(sps.map (·.1)).Nodup:=by rw [hsps]; exact m.okR.1
 refine ⟨f2',us,kvOf Sum.inr sps,rfl,SqL.of f9,?_,?_,fun sl hsl=>⟨_,rfl,x,C,dx,_,rfl,kp (S9 _ _ hx8) hsl,M.cls,M.a8,by omega,?_⟩⟩
 ·rw [Paired.length hpa]; unfold kvOf; rw [List.length_map]
 ·intro j t kv hj hkv
  obtain ⟨p,hp,e⟩:=Paired.getL hpa hj
  unfold kvOf at hkv
  rw [List.getElem?_map,hp] at hkv
  have:=Option.some.inj hkv
  rw [<- this]
  exact e
 have emerge:mergeK [] (kvOf Sum.inr sps) = kvOf Sum.inr sps:=mergeK_new sps [] nds
 rw [emerge]
 obtain ⟨H9,e9,hx9,F9⟩:=fld2 "still_led" (.ref sl) (kp (x:=.dK (kvOf Sum.inr sps)) (S9 _ _ hx8) hsl)
 rw [<- e9]
 have n9:sl ≠ x:=(ne_of_none (S9 _ _ hx8) hsl).symm
 have fsl:=F9 _ _ upd_same n9
 have E9:ExB x H8 H9:=((Same.exB S9).trans (ExB.new hsl)).trans F9
 have L9:=L8.exI hx8 E9
 have hled9:∀ p ∈ sps,∃ L,H9 p.2 = some (.dK (keysOf L))/\L.Nodup/\∀ w,w ∈ L ↔ Reach ds p.1 w:=fun p hp=>by
  obtain ⟨L0,g1,g2⟩:=hled p hp
  have g3:=kp (x:=.dK (kvOf Sum.inr sps)) g1 hsl
  exact ⟨L0,F9 _ _ g3 (neI_d (kp (S9 _ _ hx8) hsl) g3),g2⟩
 clear e9 F9
 have lk8:lk "still_led" (putF ("still_led":Str) (.ref sl) (putF ("sign_goals":Str) (.ref sg) (putF ("quiet":Str) (.ref qu) (putF ("leaving":Str) (.ref lv) fs4)))) = some (.ref sl):=by
  show List.lookup _ _ = _
  rw [lookup_putF,if_pos rfl]
 refine ⟨_,rfl,_,rfl,x,C,dx,_,.ref sl,rfl,hx9,M.cls,M.a8,lk8,l3,sl,rooms,sps,rfl,L9.a3,fsl,hsps,m.okR.1,fun p hp=>?_,fun H10 S10=>⟨_,rfl,k H10 ?_ ?_⟩⟩
 ·obtain ⟨L0,g1,g2,g3⟩:=hled9 p hp
  exact ⟨L0,g1,fun z=>m.noround _ ((g3 _).mp z)⟩
 ·have X69:ExB x H6 H9:=(E7.trans E8).trans E9
  have X59:=((E6.trans E7).trans E8).trans E9
  have Y:∀ {b:Addr} {o:HO},H9 b = some o->H10 b = some o:=fun h=>S10 _ _ h
  have LL:Lists H5 o1 o2 o3 o4 ts asks says rooms ds:=⟨(E3.trans (E4.trans E5)) _ _ f1 n1,(E4.trans E5) _ _ f2 n2,E5 _ _ f3 n3,f4,L5.ds⟩
  refine ⟨⟨dx,_,o1,o2,o3,o4,lv,qu,sg,sl,ts,lps,gps,sps,Y hx9,?_,?_,?_,?_,?_,?_,?_,?_,?_,?_,?_,lk8,(LL.exI hx5 X59).same S10,hlps,?_,?_,?_,?_,hsps,Y fsl,fun p hp=>?_⟩,m,⟨dx,_,Y hx9,?_,?_,?_,?_⟩⟩
  rotate_right 9
  ·exact Y (X69 _ _ flv (neI_d hx6 flv))
  ·intro y hy
   obtain ⟨us',g1,g2⟩:=hlv y hy
   exact ⟨us',Y (X69 _ _ g1 (ExB.neI hx6 g1)),(g2.kt (X69.ktI hx6)).kt (Same.kt S10)⟩
  ·exact Y ((E8.trans E9) _ _ fqu n7)
  ·exact GoalsAt.same ⟨G8.nd,E9 _ _ G8.g (neI_t hx8 G8.g),fun y hy=>E9 _ _ (G8.ls y hy) (ExB.neI hx8 (G8.ls y hy)),G8.all⟩ S10
  ·obtain ⟨L0,g1,g2⟩:=hled9 p hp
   exact ⟨L0,Y g1,g2⟩
  all_goals (show List.lookup _ _ = _; subst hfs4; repeat (rw [lookup_putF]; first | rw [if_pos rfl] | rw [if_neg (by decide +kernel)]))
  all_goals rfl
 ·exact ((((((((E1.trans E2).trans E3).trans E4).trans E5).trans E6).trans E7).trans E8).trans E9).trans (Same.exB S10)
theorem dec_sDT (a b:Str):decide (sDT a = sDT b) = decide (a = b):=by
 by_cases e:a = b
 ·rw [decide_eq_true e,decide_eq_true (by rw [e])]
 ·rw [decide_eq_false e,decide_eq_false (fun z=>e (sDT_inj z))]
theorem MachAt.by {C:Addr} {H H':Hp} {x:Addr} {asks says rooms:List Str} {ds:List Door} (h:MachAt C H x asks says rooms ds)
  (hs:∀ b ws,H b = some (.lst (List.map V.str ws))->H' b = some (.lst (List.map V.str ws))) (hr:∀ b ts,H b = some (.lst (List.map V.ref ts))->H' b = some (.lst (List.map V.ref ts))) (ht:KT0 H H')
  (hd:∀ b kvs,H b = some (.dK kvs)->H' b = some (.dK kvs)) (hT:∀ b kvs,H b = some (.dT kvs)->H' b = some (.dT kvs)) (hi:∀ b C dx fs,H b = some (.ins C dx fs)->H' b = some (.ins C dx fs)):MachAt C H' x asks says rooms ds:=by
 obtain ⟨dx,fs,o1,o2,o3,o4,lv,qu,sg,sl,ts,lps,gps,sps,g1,a1,a2,a3,a4,b1,b2,b3,b4,b5,b6,b7,b8,L,c1,c2,c3,c4,G,d1,d2,d3⟩:=h.at_
 refine ⟨⟨dx,fs,o1,o2,o3,o4,lv,qu,sg,sl,ts,lps,gps,sps,hi _ _ _ _ g1,a1,a2,a3,a4,b1,b2,b3,b4,b5,b6,b7,b8,⟨hs _ _ L.a1,hs _ _ L.a2,hs _ _ L.a3,hr _ _ L.a4,L.ds.kt ht⟩,c1,hd _ _ c2,fun y hy=>?_,hd _ _ c4,⟨G.nd,hT _ _ G.g,fun y hy=>hs _ _ (G.ls y hy),G.all⟩,d1,hd _ _ d2,fun y hy=>?_⟩,h.ok,by obtain ⟨dx,fs,g,r⟩:=h.more; exact ⟨dx,fs,hi _ _ _ _ g,r⟩⟩
 ·obtain ⟨us,e1,e2⟩:=c3 y hy
  exact ⟨us,hr _ _ e1,e2.kt ht⟩
 ·obtain ⟨L0,e1,e2⟩:=d3 y hy
  exact ⟨L0,hd _ _ e1,e2⟩
theorem MachAt.same {C:Addr} {H H':Hp} {x:Addr} {asks says rooms:List Str} {ds:List Door} (h:MachAt C H x asks says rooms ds) (S:Same H H'):MachAt C H' x asks says rooms ds :=
 h.by (fun _ _ e=>S _ _ e) (fun _ _ e=>S _ _ e) (Same.kt S) (fun _ _ e=>S _ _ e) (fun _ _ e=>S _ _ e) (fun _ _ _ _ e=>S _ _ e)
theorem MachAt.ex {C:Addr} {H H':Hp} {x p c:Addr} {asks says rooms:List Str} {ds:List Door} (h:MachAt C H x asks says rooms ds) (hp:Pen H p c) (S:ExB p H H'):MachAt C H' x asks says rooms ds:=by
 obtain ⟨xs,hx⟩:=hp.lst
 exact h.by (fun _ _ e=>S _ _ e (hp.ne_strs e)) (fun _ _ e=>S _ _ e (hp.ne_refs e)) (S.kt hx) (fun _ _ e=>S _ _ e (fun z=>by rw [z,hx] at e; cases e)) (fun _ _ e=>S _ _ e (fun z=>by rw [z,hx] at e; cases e)) (fun _ _ _ _ e=>S _ _ e (fun z=>by rw [z,hx] at e; cases e))
def sp_is_quiet (C:Addr):Sp:=fun vs H Q _=>∃ (x:Addr) (w:Str) (asks says rooms:List Str) (ds:List Door),vs = [.ref x,.str w]/\MachAt C H x asks says rooms ds/\Q (.bl (decide (w ∈ rooms.filter (quietB ds)))) H
theorem rd_is_quiet {K:PySem.W.Frag} {C:Addr} (M:MC K C) {vs:List V} {H:Hp} {Q:VK} {E:XK} (h:sp_is_quiet C vs H Q E):t_Machine_is_quiet K { nx:=fun _ H'=>Q .non H',rt:=Q } (start N_Machine_is_quiet vs) H:=by
 obtain ⟨x,w,asks,says,rooms,ds,rfl,h,k⟩:=h
 obtain ⟨dx,fs,o1,o2,o3,o4,lv,qu,sg,sl,ts,lps,gps,sps,g1,a1,a2,a3,a4,b1,b2,b3,b4,b5,b6,b7,b8,L,c1,c2,c3,c4,_⟩:=h.at_
 refine ⟨_,rfl,_,rfl,x,C,dx,fs,.ref qu,rfl,g1,M.cls,M.a6,b6,qu,_,rfl,.inl ⟨_,.inr w,.inl c4,rfl,rfl⟩,?_⟩
 rw [keysOf_is]
 exact k
def hushSg:List Str:=[("hush":Str)]
def sp_machine (C:Addr):Sp:=fun vs H Q _=>∃ (t l1 l2 l3 l4:Addr) (ts:List Addr) (asks says rooms:List Str) (ds:List Door),vs = [.ref t]/\Told H t l1 l2 l3 l4 ts asks says rooms ds/\ModelOk asks says rooms ds /\
 ∀ (x:Addr) (H':Hp),MachAt C H' x asks says rooms ds->Same H H'->Q (.ref x) H'
theorem rd_machine {K:PySem.W.Frag} {C:Addr} {vs:List V} {H:Hp} {Q:VK} {E:XK} (h:sp_machine C vs H Q E):t_law_machine K C (sp_init C) { nx:=fun _ H'=>Q .non H',rt:=Q } (start N_law_machine vs) H:=by
 obtain ⟨t,l1,l2,l3,l4,ts,asks,says,rooms,ds,rfl,T,m,k⟩:=h
 refine ⟨_,rfl,.inr (.inl ⟨t,_,0,_,rfl,rfl,SqT.of T.t,rfl,.inl ⟨l1,_,rfl,.inl (SqL.of T.a1),fun m1 h1=>?_⟩⟩)⟩
 have T1:=T.same (Same.new (o:=.lst (asks.map V.str)) h1)
 refine ⟨_,rfl,.inr (.inl ⟨t,_,1,_,rfl,rfl,SqT.of T1.t,rfl,.inl ⟨l2,_,rfl,.inl (SqL.of T1.a2),fun m2 h2=>?_⟩⟩)⟩
 have T2:=T1.same (Same.new (o:=.lst (says.map V.str)) h2)
 refine ⟨_,rfl,.inr (.inl ⟨t,_,2,_,rfl,rfl,SqT.of T2.t,rfl,.inl ⟨l3,_,rfl,.inl (SqL.of T2.a3),fun m3 h3=>?_⟩⟩)⟩
 have T3:=T2.same (Same.new (o:=.lst (rooms.map V.str)) h3)
 refine ⟨_,rfl,.inr (.inl ⟨t,_,3,_,rfl,rfl,SqT.of T3.t,rfl,.inl ⟨l4,_,rfl,.inl (SqL.of T3.a4),fun m4 h4=>?_⟩⟩)⟩
 have T4:=T3.same (Same.new (o:=.lst (ts.map V.ref)) h4)
 have S4:=(((Same.new (o:=.lst (asks.map V.str)) h1).trans (Same.new (o:=.lst (says.map V.str)) h2)).trans (Same.new (o:=.lst (rooms.map V.str)) h3)).trans (Same.new (o:=.lst (ts.map V.ref)) h4)
 refine fun x dx hx hdx hne=>?_
 have S5:Same H (upd (upd (upd (upd (upd (upd H m1 (.lst (asks.map V.str))) m2 (.lst (says.map V.str))) m3 (.lst (rooms.map V.str))) m4 (.lst (ts.map V.ref))) dx (.own x)) x (.ins C dx [])) :=
  (S4.trans (Same.new hdx)).trans (Same.new (by rw [upd_ne hne.symm]; exact hx))
 have hxx:upd (upd (upd (upd (upd H m1 (.lst (asks.map V.str))) m2 (.lst (says.map V.str))) m3 (.lst (rooms.map V.str))) m4 (.lst (ts.map V.ref))) dx (.own x) x = none:=by rw [upd_ne hne.symm]; exact hx
 refine ⟨x,dx,m1,m2,m3,m4,ts,asks,says,rooms,ds,rfl,upd_same,⟨?_,?_,?_,?_,T.ds.kt (Same.kt S5)⟩,m,fun H' M ex=>⟨rfl,k x H' M fun b o q=>?_⟩⟩
 ·exact kp (kp (kp (kp (kp upd_same h2) h3) h4) hdx) hxx
 ·exact kp (kp (kp (kp upd_same h3) h4) hdx) hxx
 ·exact kp (kp (kp upd_same h4) hdx) hxx
 ·exact kp (kp upd_same hdx) hxx
 ·have hq:=S5 _ _ q
  exact ex _ _ hq (ne_of_none (S4.trans (Same.new hdx) _ _ q) hxx)
def loudOf (ds:List Door):List Str:=(ds.filter fun d=>!isAsk d).map (·.a)
theorem quiet_loud (ds:List Door) (r:Str):quietB ds r = decide (r ∉ loudOf ds):=by
 unfold quietB loudOf leavingOf
 rw [Bool.eq_iff_iff,List.all_eq_true,decide_eq_true_iff]
 constructor
 ·intro h z
  obtain ⟨d,hd,rfl⟩:=List.mem_map.mp z
  rw [List.mem_filter] at hd
  have:=h d (List.mem_filter.mpr ⟨hd.1,decide_eq_true rfl⟩)
  rw [this] at hd
  exact absurd hd.2 (by decide)
 ·intro h d hd
  rw [List.mem_filter] at hd
  cases q:isAsk d with
  | true=>rfl
  | false =>
   refine absurd (List.mem_map.mpr ⟨d,List.mem_filter.mpr ⟨hd.1,by rw [q]; rfl⟩,?_⟩) h
   exact of_decide_eq_true hd.2
theorem mem_sDT {w:Str} {ws:List Str}:sDT w ∈ ws.map sDT ↔ w ∈ ws:=by
 constructor
 ·intro h
  obtain ⟨x,hx,e⟩:=List.mem_map.mp h
  rw [<- sDT_inj e]; exact hx
 ·exact List.mem_map_of_mem
def t_Machine_rooms (K:PySem.W.Frag) :TS :=
 tRet (tCB (rListA K) (tCons (tFld K (tVar 0) "own_rooms") tNil))
def N_Machine_rooms:List Str:=["self"]
def ps_Machine_rooms:List Str:=["self"]
def t_Machine_goals (K:PySem.W.Frag) :TS :=
 tRet (tCB (rListA K) (tCons (tDGet2 K (tFld K (tVar 0) "sign_goals") (tTup (tCons (tVar 1) (tCons (tVar 2) tNil))) (tTup (tNil))) tNil))
def N_Machine_goals:List Str:=["self","room","sign"]
def ps_Machine_goals:List Str:=["self","room","sign"]
def t_law_still_on (K:PySem.W.Frag) :TS :=
 tSeq (tAsg (tCB (rListA K) (tCons (tVar 1) tNil)) (gName 2))
 (tSeq (tAsg (tC (.int 0)) (gName 3))
 (tSeq (tWhile (tTest (tOp rLtI (tVar 3) (tCB (rLen K) (tCons (tVar 2) tNil)))) (tSeq (tFor (iList K (tVar 0)) (gTup K 3 (gCons (gName 4) (gCons (gName 5) (gCons (gName 6) (gNil))))) (tIfS (tAnd (tTest (tOp (rEqD K) (tVar 4) (tOp (rIx K) (tVar 2) (tVar 3)))) (tAnd (tTest (tOp (rEqD K) (tVar 5) (tTup (tCons (tC (.str "still")) tNil)))) (tTest (tOp (rInD K true) (tVar 6) (tVar 2))))) (tDrop (tBM K "list" rAppend (tVar 2) (tCons (tVar 6) tNil))) (tNext)))
 (tAsg (tOp rAddI (tVar 3) (tC (.int 1))) (gName 3))))
 (tRet (tVar 2))))
def N_law_still_on:List Str:=["doors","rooms","found","at","room","sign","other"]
def ps_law_still_on:List Str:=["doors","rooms"]
def sp_rooms (C:Addr):Sp:=fun vs H Q _=>∃ (x:Addr) (asks says rooms:List Str) (ds:List Door),vs = [.ref x]/\MachAt C H x asks says rooms ds/\∀ l,H l = none->Q (.ref l) (upd H l (.lst (rooms.map V.str)))
theorem rd_rooms {K:PySem.W.Frag} {C:Addr} (M:MC K C) {vs:List V} {H:Hp} {Q:VK} {E:XK} (h:sp_rooms C vs H Q E):t_Machine_rooms K { nx:=fun _ H'=>Q .non H',rt:=Q } (start N_Machine_rooms vs) H:=by
 obtain ⟨x,asks,says,rooms,ds,rfl,h,k⟩:=h
 obtain ⟨dx,fs,o1,o2,o3,o4,lv,qu,sg,sl,ts,lps,gps,sps,g1,a1,a2,a3,a4,b1,b2,b3,b4,b5,b6,b7,b8,L,_⟩:=h.at_
 exact ⟨_,rfl,x,C,dx,fs,.ref o3,rfl,g1,M.cls,M.a3,b3,.inl ⟨o3,_,rfl,.inl (SqL.of L.a3),k⟩⟩
def From (ds:List Door) (gs:List Str) (w:Str):Prop:=∃ g ∈ gs,w = g ∨ Reach ds g w
theorem From.in_ {ds:List Door} {gs rooms:List Str} {w:Str} (hg:∀ g ∈ gs,g ∈ rooms) (hd:∀ d ∈ ds,d.b ∈ rooms) (h:From ds gs w):w ∈ rooms:=by
 obtain ⟨g,h1,rfl | h2⟩:=h
 ·exact hg _ h1
 ·exact h2.in_ hd
def sp_still_on (K:PySem.W.Frag):Sp:=fun vs H Q _=>∃ (l4 l:Addr) (ts:List Addr) (ds:List Door) (gs rooms:List Str),vs = [.ref l4,.ref l]/\H l4 = some (.lst (ts.map V.ref))/\Doors H ts ds/\H l = some (.lst (gs.map V.str))/\(∀ d ∈ ds,d.b ∈ rooms)/\rooms.length <= 1000/\gs.length <= 1000 /\
 ∀ (f:Addr) (F:List Str) (H':Hp),H' f = some (.lst (F.map V.str))->(∀ w,w ∈ F ↔ From ds gs w)->F.length <= 2000->H f = none->Same H H'->Q (.ref f) H'
structure SO (H0 H:Hp) (ds:List Door) (gs:List Str) (f:Addr) (X:List Str):Prop where
 f:H f = some (.lst ((gs ++ X).map V.str))
 same:Same H0 H
 nd:X.Nodup
 new:∀ y ∈ X,y ∉ gs
 sound:∀ y ∈ X,From ds gs y
theorem From.step {ds:List Door} {gs:List Str} {a b:Str} (h:From ds gs a) (e:(⟨a,stillSg,b⟩:Door) ∈ ds):From ds gs b:=by
 obtain ⟨g,hg,rfl | h⟩:=h
 ·exact ⟨_,hg,.inr (.one e)⟩
 ·exact ⟨g,hg,.inr (.step h e)⟩
theorem dec_gDT (a b:List Str):decide (gDT a = gDT b) = decide (a = b):=by
 by_cases e:a = b
 ·rw [decide_eq_true e,decide_eq_true (by rw [e])]
 ·rw [decide_eq_false e,decide_eq_false (fun z=>e (gDT_inj z))]
theorem rd_still_on {K:PySem.W.Frag} {vs:List V} {H:Hp} {Q:VK} {E:XK} (h:sp_still_on K vs H Q E):t_law_still_on K { nx:=fun _ H'=>Q .non H',rt:=Q } (start N_law_still_on vs) H:=by
 obtain ⟨l4,l,ts,ds,gs,rooms,rfl,h4,hds,hl,hin,hz,hz2,k⟩:=h
 refine ⟨_,rfl,.inl ⟨l,_,rfl,.inl (SqL.of hl),fun f hf=>?_⟩⟩
 have lenX:∀ {X:List Str},X.Nodup->(∀ y ∈ X,y ∉ gs)->(∀ y ∈ X,From ds gs y)->X.length <= rooms.length:=fun nd nw sd=>nodup_le nd fun y hy=>by
  obtain ⟨g,hg,e | h⟩:=sd y hy
  ·exact absurd (by rw [e]; exact hg) (nw y hy)
  ·exact h.in_ hin
 refine ⟨fun m σ H'=>∃ (X:List Str) (at_:Nat) (x y z:Option V),σ = [some (.ref l4),some (.ref l),some (.ref f),some (.int at_),x,y,z]/\SO H H' ds gs f X/\at_ <= (gs ++ X).length/\(∀ i y,i < at_->(gs ++ X)[i]? = some y->∀ c,(⟨y,stillSg,c⟩:Door) ∈ ds->c ∈ gs ++ X)/\m = gs.length + rooms.length - at_,
  ⟨_,[],0,_,_,_,rfl,⟨by rw [List.append_nil]; exact upd_same,Same.new hf,List.nodup_nil,by simp,by simp⟩,Nat.zero_le _,fun i y h=>by omega,rfl⟩,?_⟩
 rintro m σ H1 ⟨X,at_,x4,x5,x6,rfl,D,hat,hcl,rfl⟩
 have hXl:=lenX D.nd D.new D.sound
 refine ⟨_,rfl,_,rfl,.inl ⟨f,_,rfl,.inl (SqL.of D.f),_,_,rfl,rfl,_,rfl,?_⟩⟩
 refine ite2 (fun hlt=>?_) (fun hlt=>?_)
 ·have hlt':at_ < (gs ++ X).length:=by
   have:=of_decide_eq_true hlt
   rw [List.length_map] at this
   omega
  have hat0:at_ < gs.length + rooms.length:=by rw [List.length_append] at hlt'; omega
  generalize hhere:(gs ++ X)[at_] = here
  have hget:(gs ++ X)[at_]? = some here:=by rw [<- hhere]; exact List.getElem?_eq_getElem hlt'
  have hfrom:∀ {Y:List Str} {y:Str},(∀ y ∈ Y,From ds gs y)->y ∈ gs ++ Y->From ds gs y:=fun sd hy=>by
   rcases List.mem_append.mp hy with hy | hy
   ·exact ⟨_,hy,.inl rfl⟩
   ·exact sd _ hy
  refine ⟨fun σ' H'=>∃ (X':List Str) (x y z:Option V),σ' = [some (.ref l4),some (.ref l),some (.ref f),some (.int ((at_ + 1:Nat):Int)),x,y,z]/\SO H H' ds gs f X'/\at_ + 1 <= (gs ++ X').length/\(∀ i y,i < at_ + 1->(gs ++ X')[i]? = some y->∀ c,(⟨y,stillSg,c⟩:Door) ∈ ds->c ∈ gs ++ X'),
   fun σ' H' ⟨X',x,y,z,e,D',h1,h2⟩=>⟨_,(by omega:gs.length + rooms.length - (at_ + 1) < gs.length + rooms.length - at_),X',at_ + 1,x,y,z,e,D',h1,h2,rfl⟩,?_⟩
  refine ⟨_,rfl,l4,rfl,⟨_,SqL.of (D.same _ _ h4)⟩,?_⟩
  refine for_list (xs:=ts.map V.ref) (fun j σ H'=>∃ (X' Y:List Str) (x y z:Option V),σ = [some (.ref l4),some (.ref l),some (.ref f),some (.int at_),x,y,z]/\X' = X ++ Y/\SO H H' ds gs f X'/\∀ d ∈ ds.take j,d.a = here->d.sg = stillSg->d.b ∈ gs ++ X')
   ⟨X,[],_,_,_,rfl,by simp,D,by simp⟩ (fun j σ H' _ ⟨_,_,_,_,_,_,_,D',_⟩=>SqL.of (D'.same _ _ h4)) ?_ ?_
  ·rintro j y σ H2 hj ⟨X',Y,x4',x5',x6',rfl,rfl,D2,hdone⟩
   obtain ⟨t,ht,rfl⟩:=refs_get hj
   obtain ⟨dr,hdr,hatd⟩:=Paired.getL hds ht
   obtain ⟨s,ht2,hs2⟩:=hatd.kt (Same.kt D2.same)
   have hmem:=List.mem_of_getElem? hdr
   have hXl2:=lenX D2.nd D2.new D2.sound
   have hget2:(gs ++ (X ++ Y))[at_]? = some here:=by
    rw [<- List.append_assoc,List.getElem?_append_left hlt']; exact hget
   refine ⟨t,_,rfl,SqT.of ht2,rfl,_,_,rfl,_,_,rfl,_,_,rfl,rfl,?_⟩
   have nextI:∀ (H3:Hp) (X3 Y3:List Str) (q4 q5 q6:Option V),X3 = X ++ Y3->SO H H3 ds gs f X3->(∀ y ∈ X ++ Y,y ∈ X3)->(dr.a = here->dr.sg = stillSg->dr.b ∈ gs ++ X3) ->
     ∃ (X' Y:List Str) (x y z:Option V),[some (.ref l4),some (.ref l),some (.ref f),some (.int at_),q4,q5,q6] = [some (.ref l4),some (.ref l),some (.ref f),some (.int at_),x,y,z]/\X' = X ++ Y/\SO H H3 ds gs f X'/\∀ d ∈ ds.take (j + 1),d.a = here->d.sg = stillSg->d.b ∈ gs ++ X':=by
    intro H3 X3 Y3 q4 q5 q6 e D3 hsub hnew
    refine ⟨X3,Y3,q4,q5,q6,rfl,e,D3,fun d hd e1 e2=>?_⟩
    rw [take_snoc hdr] at hd
    rcases List.mem_append.mp hd with hd | hd
    ·rcases List.mem_append.mp (hdone d hd e1 e2) with h | h
     ·exact List.mem_append_left _ h
     ·exact List.mem_append_right _ (hsub _ h)
    ·have:d = dr:=by simpa using hd
     subst this
     exact hnew e1 e2
   refine ⟨_,rfl,_,rfl,_,rfl,.inl ⟨f,_,_,_,rfl,rfl,SqL.of D2.f,atI_nat (j:=at_) (by rw [List.getElem?_map,hget2]; rfl),sDT dr.a,sDT here,dIn_s _,dIn_s _,(by show 0 <= 8; decide),(by show 0 <= 8; decide),_,rfl,?_⟩⟩
   rw [dec_sDT]
   by_cases c1:dr.a = here
   rotate_left
   ·rw [decide_eq_false c1]
    exact iteF (iteF (nextI H2 _ _ _ _ _ rfl D2 (fun _ h=>h) fun e=>absurd e c1))
   rw [decide_eq_true c1]
   refine iteT ?_
   refine ⟨_,rfl,(by show 1 <= sizeLine; decide),fun st hst=>⟨gDT dr.sg,gDT stillSg,dIn_sign (SqT.of (kp hs2 hst)),dIn_sign (SqT.of upd_same),by rw [depth_g]; decide,by rw [depth_g]; decide,_,rfl,?_⟩⟩
   rw [dec_gDT]
   have D3:SO H (upd H2 st (.tup [.str "still"])) ds gs f (X ++ Y):=⟨kp D2.f hst,D2.same.trans (Same.new hst),D2.nd,D2.new,D2.sound⟩
   have hstS:H st = none:=D2.same.free hst
   generalize upd H2 st (.tup [.str "still"]) = H3 at D3 ⊢
   by_cases c2:dr.sg = stillSg
   rotate_left
   ·rw [decide_eq_false c2]
    exact iteF (iteF (nextI H3 _ _ _ _ _ rfl D3 (fun _ h=>h) fun _ e=>absurd e c2))
   rw [decide_eq_true c2]
   refine iteT ?_
   refine ⟨_,rfl,_,rfl,sDT dr.b,(gs ++ (X ++ Y)).map sDT,f,_,dIn_s _,rfl,.inl (SqL.of D3.f),dIns_s _,(by show 0 <= 8; decide),by rw [depths_s]; decide,_,rfl,?_⟩
   rw [if_pos rfl]
   by_cases c3:dr.b ∈ gs ++ (X ++ Y)
   ·rw [decide_eq_true (mem_sDT.mpr c3)]
    exact iteF (nextI H3 _ _ _ _ _ rfl D3 (fun _ h=>h) fun _ _=>c3)
   rw [decide_eq_false (fun z=>c3 (mem_sDT.mp z))]
   refine iteT ?_
   refine ⟨_,rfl,.inl ⟨rfl,_,SqL.of D3.f⟩,_,rfl,f,_,_,rfl,rfl,D3.f,by rw [List.length_map,List.length_append]; exact small9000 (by omega),?_⟩
   have hedge:(⟨here,stillSg,dr.b⟩:Door) ∈ ds:=by
    have:dr = ⟨here,stillSg,dr.b⟩:=by cases dr; simp only at c1 c2; rw [c1,c2]
    rw [<- this]; exact hmem
   refine nextI _ (X ++ (Y ++ [dr.b])) _ _ _ _ rfl ⟨?_,?_,?_,?_,?_⟩ ?_ ?_
   ·rw [upd_same]
    have:gs ++ (X ++ (Y ++ [dr.b])) = gs ++ (X ++ Y) ++ [dr.b]:=by simp
    rw [this,List.map_append (l₂:=[dr.b])]
    rfl
   ·intro b o q
    rw [upd_ne (ne_of_none q hf)]; exact D3.same _ _ q
   ·rw [<- List.append_assoc,List.nodup_append]
    refine ⟨D3.nd,by simp,fun a ha b hb e=>?_⟩
    have:b = dr.b:=by simpa using hb
    exact c3 (List.mem_append_right _ (by rw [<- this,<- e]; exact ha))
   ·intro y hy
    rw [<- List.append_assoc] at hy
    rcases List.mem_append.mp hy with hy | hy
    ·exact D3.new y hy
    ·have:y = dr.b:=by simpa using hy
     rw [this]
     exact fun z=>c3 (List.mem_append_left _ z)
   ·intro y hy
    rw [<- List.append_assoc] at hy
    rcases List.mem_append.mp hy with hy | hy
    ·exact D3.sound y hy
    ·have:y = dr.b:=by simpa using hy
     rw [this]
     exact (hfrom D.sound (List.mem_of_getElem? hget)).step hedge
   ·intro y hy
    rw [<- List.append_assoc]
    exact List.mem_append_left _ hy
   ·intro _ _
    exact List.mem_append_right _ (by simp)
  ·rintro σ H2 ⟨X',Y,x4',x5',x6',rfl,rfl,D2,hdone⟩
   rw [List.length_map,Paired.length hds,List.take_length] at hdone
   refine ⟨_,rfl,_,_,rfl,rfl,X ++ Y,_,_,_,rfl,D2,?_,fun i y hi hy c hc=>?_⟩
   ·rw [<- List.append_assoc,List.length_append]; omega
   ·by_cases e:i = at_
    ·subst e
     rw [<- List.append_assoc,List.getElem?_append_left hlt',hget] at hy
     have:=Option.some.inj hy
     subst this
     exact hdone _ hc rfl rfl
    ·have hi':i < at_:=by omega
     rw [<- List.append_assoc,List.getElem?_append_left (by omega)] at hy
     have:=hcl i y hi' hy c hc
     rw [<- List.append_assoc]
     exact List.mem_append_left _ this
 ·have hend:at_ = (gs ++ X).length:=by
   have:¬ (at_ < (gs ++ X).length):=fun z=>hlt (decide_eq_true (by rw [List.length_map]; omega))
   omega
  refine ⟨_,rfl,k f (gs ++ X) H1 D.f (fun w=>⟨fun hw=>?_,fun hw=>?_⟩) (by rw [List.length_append]; omega) hf D.same⟩
  ·rcases List.mem_append.mp hw with hw | hw
   ·exact ⟨_,hw,.inl rfl⟩
   ·exact D.sound _ hw
  ·have closed:∀ y ∈ gs ++ X,∀ c,(⟨y,stillSg,c⟩:Door) ∈ ds->c ∈ gs ++ X:=fun y hy c hc=>by
    obtain ⟨n,hn⟩:=List.getElem?_of_mem hy
    exact hcl n y (by rw [hend]; exact (List.getElem?_eq_some_iff.mp hn).1) hn c hc
   obtain ⟨g,hg,rfl | h⟩:=hw
   ·exact List.mem_append_left _ hg
   ·induction h with
    | one e=>exact closed _ (List.mem_append_left _ hg) _ e
    | step r e ih=>exact closed _ ih _ e

structure TI (H0:Hp) (p c l:Addr) (asks says rooms:List Str) (m:Nat) (H:Hp):Prop where
 pen:Pen H p c
 ds:∃ ts ds,H l = some (.lst (ts.map V.ref))/\Doors H ts ds/\ModelOk asks says rooms ds/\ds.length <= m
 ex:ExB p H0 H
 fr:H0 l = none
 pl:p ≠ l
 cl:c ≠ l
section
variable {H0 H H':Hp} {p c l:Addr} {asks says rooms:List Str} {m:Nat}
end
def goalsAll (ds:List Door) (sg:List Str) (face:List Str):List Str:=face.flatMap fun r=>goalsOf ds (r,sg)
theorem mem_goalsAll {ds:List Door} {sg face:List Str} {b:Str}:b ∈ goalsAll ds sg face ↔ ∃ r ∈ face,(⟨r,sg,b⟩:Door) ∈ ds:=by
 unfold goalsAll
 rw [List.mem_flatMap]
 constructor
 ·rintro ⟨r,hr,h⟩
  exact ⟨r,hr,mem_goalsOf.mp h⟩
 ·rintro ⟨r,hr,h⟩
  exact ⟨r,hr,mem_goalsOf.mpr h⟩
def LedBy (sg face Fd:List Str) (bsg:List Str) (o:Str):Prop:=(bsg = sg/\o ∈ face) ∨ (bsg = stillSg/\o ∈ Fd)
instance {sg face Fd bsg:List Str} {o:Str}:Decidable (LedBy sg face Fd bsg o):=by unfold LedBy; exact inferInstance
theorem filter_snocD {ds:List Door} {i:Nat} {d:Door} {p:Door->Bool} (h:ds[i]? = some d):(ds.take (i + 1)).filter p = (ds.take i).filter p ++ (if p d = true then [d] else []):=by
 rw [take_snoc h,List.filter_append]
 congr 1
 by_cases c:p d = true
 ·rw [if_pos c]; simp [c]
 ·rw [if_neg c]; simp [c]
theorem rd_pickAt {K:PySem.W.Frag} {σ:L2.St} {H:Hp} {Q:VK} {p c a:Addr} {i0 j:Nat} {ws:List Str} (h0:σ[i0]? = some (some (.ref p))) (hj:σ[j]? = some (some (.ref a))) (hp:Pen H p c)
  (ha:H a = some (.lst (ws.map V.str))) (hne:ws ≠ []) (hlen:ws.length <= 1000) (k:∀ w ∈ ws,∀ H',Pen H' p c->ExB p H H'->Q (.str w) H') :
  (tOp (rIxL K) (tVar j) (tCall sp_take [] E0 (tCons (tVar i0) (tCons (tCB (rLen K) (tCons (tVar j) tNil)) tNil)))) σ H Q:=by
 have hl:0 < ws.length:=by cases ws with | nil=>exact absurd rfl hne | cons _ _=>simp
 have la:(V.int ((ws.map V.str).length:Nat)) = V.int (ws.length:Nat):=by rw [List.length_map]
 have hpa:=hp.ne_strs ha
 have fin:∀ (x:Int) (H':Hp),0 <= x->x < (ws.length:Int)->Pen H' p c->ExB p H H'->rIxL K (.ref a) (.int x) H' Q:=by
  intro x H' x0 x1 hp' ex
  obtain ⟨n,rfl⟩:=Int.eq_ofNat_of_zero_le x0
  have hn:n < ws.length:=by omega
  exact ⟨a,_,(n:Int),.str ws[n],rfl,rfl,SqL.of (ex _ _ ha hpa),atI_nat (by simp [hn]),k _ (List.getElem_mem hn) H' hp' ex⟩
 exact ⟨_,hj,_,h0,_,hj,.inl ⟨a,_,rfl,.inl (SqL.of ha),by rw [la]; exact take_i hp (by omega) (by omega) fun x H' x0 x1 hp' ex=>fin x H' x0 x1 hp' ex⟩⟩


def PairAt (H:Hp) (u:Addr) (d:Door):Prop:=H u = some (.tup [.str d.a,.str d.b])
theorem dec_mem (o:Str) (L:List Str):decide (sDT o ∈ L.map sDT) = decide (o ∈ L):=by
 by_cases c:o ∈ L
 ·rw [decide_eq_true (mem_sDT.mpr c),decide_eq_true c]
 ·rw [decide_eq_false (fun z=>c (mem_sDT.mp z)),decide_eq_false c]
theorem SqT.same {K:PySem.W.Frag} {H H':Hp} {a:Addr} {xs:List V} (S:Same H H') (h:SqT K H a xs):SqT K H' a xs:=by
 rcases h with (h | ⟨o,h⟩) | h
 ·exact .inl (.inl (S _ _ h))
 ·exact .inl (.inr ⟨o,S _ _ h⟩)
 ·exact .inr h
theorem SqL.same {K:PySem.W.Frag} {H H':Hp} {a:Addr} {xs:List V} (S:Same H H') (h:SqL K H a xs):SqL K H' a xs:=by
 rcases h with (h | ⟨o,h⟩) | h
 ·exact .inl (.inl (S _ _ h))
 ·exact .inl (.inr ⟨o,S _ _ h⟩)
 ·exact .inr h
mutual
theorem DIn.same {K:PySem.W.Frag} {H H':Hp} (S:Same H H'):∀ {d:DT} {v:V},DIn K H d v->DIn K H' d v
 | .k a,v,h=>by unfold DIn at h ⊢; exact h
 | .t l,v,h=>by
  unfold DIn at h ⊢
  obtain ⟨b,xs,e,q,r⟩:=h
  exact ⟨b,xs,e,SqT.same S q,DIns.same S r⟩
 | .s l,v,h=>by
  unfold DIn at h ⊢
  obtain ⟨b,xs,e,q,r⟩:=h
  exact ⟨b,xs,e,SqL.same S q,DIns.same S r⟩
theorem DIns.same {K:PySem.W.Frag} {H H':Hp} (S:Same H H'):∀ {ds:List DT} {vs:List V},DIns K H ds vs->DIns K H' ds vs
 | [],vs,h=>by unfold DIns at h ⊢; exact h
 | d :: ds,vs,h=>by
  unfold DIns at h ⊢
  obtain ⟨v,us,e,q,r⟩:=h
  exact ⟨v,us,e,DIn.same S q,DIns.same S r⟩
end
inductive Kd (K:PySem.W.Frag) (H:Hp):DT->V->Prop
 | int (i:Int):Kd K H (.k (.inl i)) (.int i)
 | str (x:Str):Kd K H (.k (.inr x)) (.str x)
 | tup {a:Addr} {xs:List V} {l:List DT} (q:SqT K H a xs) (r:DIns K H l xs):Kd K H (.t l) (.ref a)
 | lst {a:Addr} {xs:List V} {l:List DT} (q:SqL K H a xs) (r:DIns K H l xs):Kd K H (.s l) (.ref a)
def t_law_on (K:PySem.W.Frag) (sp_law_still_on:Sp):TS :=
 tSeq (tAsg (tCall sp_law_still_on [] E0 (tCons (tOp (rIx K) (tVar 0) (tC (.int 3))) (tCons (tVar 1) tNil))) (gName 2))
 (tRet (tCB (rTupA K) (tCons (tComp 1 [2] (iList K (tOp (rIx K) (tVar 0) (tC (.int 2)))) (gName 0) (tTest (tOp (rInD K false) (tVar 0) (tVar 1))) (tVar 0)) tNil)))
def N_law_on:List Str:=["told","some","there"]
def ps_law_on:List Str:=["told","some"]
def t_law_is_quiet (K:PySem.W.Frag) :TS :=
 tRet (tOp (rEqD K) (tComp 1 [1] (iList K (tOp (rIx K) (tVar 0) (tC (.int 3)))) (gName 0) (tAnd (tTest (tOp (rEqD K) (tOp (rIx K) (tVar 0) (tC (.int 0))) (tVar 1))) (tTest (tOp rNe (tOp (rIx K) (tOp (rIx K) (tVar 0) (tC (.int 1))) (tC (.int 0))) (tC (.str "ask"))))) (tVar 0)) (tLst (tNil)))
def N_law_is_quiet:List Str:=["told","room"]
def ps_law_is_quiet:List Str:=["told","room"]
def t_law_behind (K:PySem.W.Frag) (sp_law_on:Sp) (sp_law_is_quiet:Sp):TS :=
 tSeq (tIfS (tTest (tOp (rEqD K) (tVar 2) (tTup (tCons (tC (.str "hush")) tNil)))) (tRet (tCB (rTupA K) (tCons (tComp 1 [0] (iTup K (tVar 1)) (gName 0) (tB (tCall sp_law_is_quiet [] E0 (tCons (tVar 1) (tCons (tVar 0) tNil)))) (tVar 0)) tNil))) (tNext))
 (tRet (tCall sp_law_on [] E0 (tCons (tVar 0) (tCons (tComp 1 [1,2] (iList K (tOp (rIx K) (tVar 0) (tC (.int 3)))) (gName 0) (tAnd (tTest (tOp (rInD K false) (tOp (rIx K) (tVar 0) (tC (.int 0))) (tVar 1))) (tTest (tOp (rEqD K) (tOp (rIx K) (tVar 0) (tC (.int 1))) (tVar 2)))) (tOp (rIx K) (tVar 0) (tC (.int 2)))) tNil))))
def N_law_behind:List Str:=["told","face","sign"]
def ps_law_behind:List Str:=["told","face","sign"]
def t_law_signs (K:PySem.W.Frag) :TS :=
 tRet (tOp rCat (tOp rCat (tComp 1 [] (iList K (tOp (rIx K) (tVar 0) (tC (.int 0)))) (gName 0) (tYes) (tTup (tCons (tC (.str "ask")) (tCons (tVar 0) tNil)))) (tComp 1 [] (iList K (tOp (rIx K) (tVar 0) (tC (.int 1)))) (gName 0) (tYes) (tTup (tCons (tC (.str "say")) (tCons (tVar 0) tNil))))) (tLst (tCons (tTup (tCons (tC (.str "hush")) tNil)) tNil)))
def N_law_signs:List Str:=["told"]
def ps_law_signs:List Str:=["told"]
def t_law_story (K:PySem.W.Frag) (sp_law_take:Sp) (sp_law_behind:Sp) (sp_law_signs:Sp) (sp_law_on:Sp) (sp_law_anew:Sp):TS :=
 tSeq (tDrop (tCall sp_law_anew [] E0 (tCons (tVar 0) tNil)))
 (tSeq (tAsg (tLst (tNil)) (gName 3))
 (tSeq (tAsg (tCall sp_law_on [] E0 (tCons (tVar 1) (tCons (tSl (rSlA K) (tOp (rIx K) (tVar 1) (tC (.int 2))) (tNoPart) (tPart (tC (.int 1)))) tNil))) (gName 4))
 (tSeq (tFor (iRng1 (tCons (tCall sp_law_take [] E0 (tCons (tVar 0) (tCons (tOp rAddI (tVar 2) (tC (.int 1))) tNil))) tNil)) (gName 5) (tSeq (tAsg (tCall sp_law_signs [] E0 (tCons (tVar 1) tNil)) (gName 6))
 (tSeq (tAsg (tComp 1 [1,4] (iList K (tVar 6)) (gName 0) (tTest (tOp (rNeD K) (tCall sp_law_behind [] E0 (tCons (tVar 1) (tCons (tVar 2) (tCons (tVar 0) tNil)))) (tTup (tNil)))) (tVar 0)) (gName 7))
 (tSeq (tIfS (tAnd (tTest (tOp (rNeD K) (tVar 7) (tLst (tNil)))) (tTest (tOp rGtI (tCall sp_law_take [] E0 (tCons (tVar 0) (tCons (tC (.int 16)) tNil))) (tC (.int 0))))) (tAsg (tVar 7) (gName 6)) (tNext))
 (tSeq (tDrop (tBM K "list" rAppend (tVar 3) (tCons (tOp (rIxL K) (tVar 6) (tCall sp_law_take [] E0 (tCons (tVar 0) (tCons (tCB (rLen K) (tCons (tVar 6) tNil)) tNil)))) tNil)))
 (tAsg (tCall sp_law_behind [] E0 (tCons (tVar 1) (tCons (tVar 4) (tCons (tOp (rIxL K) (tVar 3) (tUn (rU fun i=>.int (-i)) (tC (.int 1)))) tNil)))) (gName 4)))))))
 (tRet (tVar 3)))))
def N_law_story:List Str:=["pen","told","most","story","face","turn","signs","ways"]
def ps_law_story:List Str:=["pen","told","most"]
def t_law_odd (K:PySem.W.Frag) (sp_law_take:Sp) (sp_law_names:Sp) (sp_law_anew:Sp):TS :=
 tSeq (tDrop (tCall sp_law_anew [] E0 (tCons (tVar 0) tNil)))
 (tSeq (tAsg (tOp rCat (tOp rCat (tOp (rIx K) (tVar 1) (tC (.int 0))) (tOp (rIx K) (tVar 1) (tC (.int 1)))) (tCall sp_law_names [] E0 (tCons (tVar 0) (tCons (tC (.int 1)) tNil)))) (gName 3))
 (tSeq (tAsg (tTup (tCons (tOp (rIxL K) (tLst (tCons (tC (.str "ask")) (tCons (tC (.str "say")) tNil))) (tCall sp_law_take [] E0 (tCons (tVar 0) (tCons (tC (.int 2)) tNil)))) (tCons (tOp (rIxL K) (tVar 3) (tCall sp_law_take [] E0 (tCons (tVar 0) (tCons (tCB (rLen K) (tCons (tVar 3) tNil)) tNil)))) tNil))) (gName 4))
 (tSeq (tAsg (tCall sp_law_take [] E0 (tCons (tVar 0) (tCons (tOp rAddI (tCB (rLen K) (tCons (tVar 2) tNil)) (tC (.int 1))) tNil))) (gName 5))
 (tSeq (tIfS (tTest (tOp rGtI (tCall sp_law_take [] E0 (tCons (tVar 0) (tCons (tC (.int 3)) tNil))) (tC (.int 0)))) (tRet (tVar 2)) (tNext))
 (tRet (tOp rCat (tOp rCat (tSl (rSlL K) (tVar 2) (tNoPart) (tPart (tVar 5))) (tLst (tCons (tVar 4) tNil))) (tSl (rSlL K) (tVar 2) (tPart (tOp rAddI (tVar 5) (tCall sp_law_take [] E0 (tCons (tVar 0) (tCons (tC (.int 2)) tNil))))) (tNoPart))))))))
def N_law_odd:List Str:=["pen","told","story","words","sign","at"]
def ps_law_odd:List Str:=["pen","told","story"]
open Classical in
noncomputable def closF (rooms:List Str) (ds:List Door) (gs:List Str):List Str:=rooms.filter fun r=>decide (From ds gs r)
open Classical in
theorem closF_eq {rooms F gs:List Str} {ds:List Door} (hF:∀ w,w ∈ F ↔ From ds gs w):rooms.filter (fun r=>decide (r ∈ F)) = closF rooms ds gs:=by
 unfold closF
 refine List.filter_congr fun r _=>?_
 by_cases c:r ∈ F
 ·rw [decide_eq_true c,decide_eq_true ((hF r).mp c)]
 ·rw [decide_eq_false c,decide_eq_false fun z=>c ((hF r).mpr z)]
open Classical in
theorem closF_congr {rooms gs gs':List Str} {ds:List Door} (h:∀ g,g ∈ gs ↔ g ∈ gs'):closF rooms ds gs = closF rooms ds gs':=by
 have:∀ r,From ds gs r ↔ From ds gs' r:=fun r=>⟨fun ⟨g,hg,e⟩=>⟨g,(h g).mp hg,e⟩,fun ⟨g,hg,e⟩=>⟨g,(h g).mpr hg,e⟩⟩
 unfold closF
 refine List.filter_congr fun r _=>?_
 by_cases c:From ds gs r
 ·rw [decide_eq_true c,decide_eq_true ((this r).mp c)]
 ·rw [decide_eq_false c,decide_eq_false fun z=>c ((this r).mpr z)]
theorem closF_sub {rooms gs:List Str} {ds:List Door}:∀ r ∈ closF rooms ds gs,r ∈ rooms:=fun r h=>(List.mem_filter.mp h).1
theorem closF_len {rooms gs:List Str} {ds:List Door}:(closF rooms ds gs).length <= rooms.length:=List.length_filter_le _ _
noncomputable def behF (rooms:List Str) (ds:List Door) (face sg:List Str):List Str:=if sg = hushSg then face.filter (fun r=>decide (r ∉ loudOf ds)) else closF rooms ds (goalsAll ds sg face)
theorem behF_sub {rooms face sg:List Str} {ds:List Door} (hf:∀ r ∈ face,r ∈ rooms):∀ r ∈ behF rooms ds face sg,r ∈ rooms:=by
 intro r h
 unfold behF at h
 split at h
 ·exact hf r (List.mem_filter.mp h).1
 ·exact closF_sub r h
theorem behF_len {rooms face sg:List Str} {ds:List Door} (hr:rooms.length <= 1000) (hf:face.length <= 1000):(behF rooms ds face sg).length <= 1000:=by
 unfold behF
 split
 ·exact Nat.le_trans (List.length_filter_le _ _) hf
 ·exact Nat.le_trans closF_len hr
def sp_on:Sp:=fun vs H Q _=>∃ (t l l1 l2 l3 l4:Addr) (ts:List Addr) (asks says rooms gs:List Str) (ds:List Door),vs = [.ref t,.ref l]/\Told H t l1 l2 l3 l4 ts asks says rooms ds/\ModelOk asks says rooms ds/\H l = some (.lst (gs.map V.str))/\gs.length <= 1000 /\
 ∀ (t':Addr) (H':Hp),H' t' = some (.tup ((closF rooms ds gs).map V.str))->Same H H'->Q (.ref t') H'
theorem rd_on {K:PySem.W.Frag} {vs:List V} {H:Hp} {Q:VK} {E:XK} (h:sp_on vs H Q E):t_law_on K (sp_still_on K) { nx:=fun _ H'=>Q .non H',rt:=Q } (start N_law_on vs) H:=by
 obtain ⟨t,l,l1,l2,l3,l4,ts,asks,says,rooms,gs,ds,rfl,T,m,hl,hz,k⟩:=h
 have z3:=m.rooms26
 refine ⟨_,rfl,.inr (.inl ⟨t,_,3,_,rfl,rfl,SqT.of T.t,rfl,_,rfl,l4,l,ts,ds,gs,rooms,rfl,T.a4,T.ds,hl,fun d hd=>(m.good d hd).b,by omega,hz,fun th F H1 hth hF hFl fr S1=>?_⟩)⟩
 have T1:=T.same S1
 refine ⟨_,rfl,.inr (.inl ⟨t,_,2,_,rfl,rfl,SqT.of T1.t,rfl,l3,rfl,⟨_,SqL.of T1.a3⟩,fun f hf=>?_⟩)⟩
 refine comp_list (xs:=rooms.map V.str) (fun i vs H'=>vs = ((rooms.take i).filter fun r=>decide (r ∈ F)).map V.str/\Same H1 H'/\H' f = some (.lst vs)) ⟨rfl,Same.new hf,upd_same⟩ (fun i vs H' _ ⟨_,S,h'⟩=>⟨h',SqL.of (S _ _ T1.a3)⟩) ?_ ?_
 ·rintro vs H' ⟨rfl,S,f'⟩
  rw [List.length_map,List.take_length,closF_eq hF] at f'
  exact ⟨f,_,rfl,.inl ⟨SqL.of f',fun t' ht'=>k t' _ upd_same ((S1.trans S).trans (Same.new ht'))⟩⟩
 ·rintro i vs H' x' hx' hi ⟨rfl,S,f'⟩
  obtain ⟨r,hr,rfl⟩:=strs_get hx'
  refine gN ?_
  refine ⟨_,rfl,_,rfl,sDT r,F.map sDT,th,_,dIn_s r,rfl,.inl (SqL.of (S _ _ hth)),dIns_s _,(by show 0 <= 8; decide),by rw [depths_s]; decide,_,rfl,?_⟩
  rw [if_neg Bool.false_ne_true,dec_mem]
  have hlen:(((rooms.take i).filter fun r=>decide (r ∈ F)).map V.str).length < sizeLine:=by
   rw [List.length_map]
   refine small1000 (Nat.le_trans (List.length_filter_le _ _) ?_)
   rw [List.length_take]; omega
  refine ite2 (fun hq=>?_) (fun hq=>?_)
  ·refine ⟨_,rfl,f',hlen,nxt hi ⟨?_,?_,upd_same⟩⟩
   ·rw [filter_snoc hr,if_pos hq,List.map_append]; rfl
   ·intro b o q
    rw [upd_ne (ne_of_none q hf)]
    exact S _ _ q
  ·refine nxt hi ⟨?_,S,f'⟩
   rw [filter_snoc hr,if_neg hq,List.append_nil]
theorem depths_ds2 (ds:List Door):DT.depths (ds.map dDT) <= 2:=by
 induction ds with
 | nil=>exact Nat.zero_le _
 | cons x xs ih=>rw [List.map_cons]; show max (DT.depth (dDT x)) (DT.depths _) <= 2; rw [depth_d]; omega
theorem sign_head {asks says rooms:List Str} {dr:Door} (g:GoodD asks says rooms dr):∃ s0 rest,dr.sg = s0 :: rest/\(!decide (V.str s0 = V.str ("ask":Str))) = !isAsk dr:=by
 obtain ⟨s0,rest,hsg⟩:∃ s0 rest,dr.sg = s0 :: rest:=by
  rcases g.sg with ⟨w,_,e⟩ | ⟨w,_,e⟩ | e <;> exact ⟨_,_,e⟩
 refine ⟨s0,rest,hsg,?_⟩
 unfold isAsk
 rw [hsg]
 congr 1
 show _ = decide (s0 = ("ask":Str))
 by_cases c:s0 = ("ask":Str)
 ·rw [decide_eq_true c,decide_eq_true (by rw [c])]
 ·rw [decide_eq_false c,decide_eq_false (fun z=>c (by injection z))]
def sp_lquiet:Sp:=fun vs H Q _=>∃ (t l1 l2 l3 l4:Addr) (ts:List Addr) (asks says rooms:List Str) (ds:List Door) (r:Str),vs = [.ref t,.str r]/\Told H t l1 l2 l3 l4 ts asks says rooms ds/\ModelOk asks says rooms ds/\∀ H',Same H H'->Q (.bl (decide (r ∉ loudOf ds))) H'
theorem rd_lquiet {K:PySem.W.Frag} {vs:List V} {H:Hp} {Q:VK} {E:XK} (h:sp_lquiet vs H Q E):t_law_is_quiet K { nx:=fun _ H'=>Q .non H',rt:=Q } (start N_law_is_quiet vs) H:=by
 obtain ⟨t,l1,l2,l3,l4,ts,asks,says,rooms,ds,r,rfl,T,m,k⟩:=h
 have z4:=m.few
 refine ⟨_,rfl,.inr (.inl ⟨t,_,3,_,rfl,rfl,SqT.of T.t,rfl,l4,rfl,⟨_,SqL.of T.a4⟩,fun f hf=>?_⟩)⟩
 refine comp_list (xs:=ts.map V.ref) (fun i vs H'=>∃ us:List Addr,vs = us.map V.ref/\Same H H'/\H' f = some (.lst vs)/\Doors H' us ((ds.take i).filter fun d=>decide (d.a = r) && !isAsk d)) ⟨[],rfl,Same.new hf,upd_same,.nil⟩ (fun i vs H' _ ⟨_,_,S,h',_⟩=>⟨h',SqL.of (S _ _ T.a4)⟩) ?_ ?_
 rotate_left
 ·rintro i vs H' x' hx' hi ⟨us,rfl,S,f',hP⟩
  obtain ⟨u,hu,rfl⟩:=refs_get hx'
  obtain ⟨dr,hdr,hatd⟩:=Paired.getL T.ds hu
  have hat':=hatd.kt (Same.kt S)
  obtain ⟨sb,ht2,hs2⟩:=hatd.kt (Same.kt S)
  obtain ⟨s0,rest,hsg,ea⟩:=sign_head (m.good dr (List.mem_of_getElem? hdr))
  unfold SignAt at hs2
  rw [hsg] at hs2
  have keep:(decide (dr.a = r) && !isAsk dr) = false->∃ m',m' < (ts.map V.ref).length - i/\Wc (ts.map V.ref).length (fun i vs H'=>∃ us:List Addr,vs = us.map V.ref/\Same H H'/\H' f = some (.lst vs)/\Doors H' us ((ds.take i).filter fun d=>decide (d.a = r) && !isAsk d)) (i + 1) m' (us.map V.ref) H':=by
   intro z
   refine nxt hi ⟨us,rfl,S,f',?_⟩
   rw [filter_snocD hdr,if_neg (by rw [z]; decide),List.append_nil]
   exact hP
  refine gN ?_
  refine ⟨_,rfl,.inr (.inl ⟨u,_,0,_,rfl,rfl,SqT.of ht2,rfl,_,rfl,sDT dr.a,sDT r,dIn_s _,dIn_s _,(by show 0 <= 8; decide),(by show 0 <= 8; decide),_,rfl,?_⟩)⟩
  rw [dec_sDT]
  by_cases c1:dr.a = r
  rotate_left
  ·rw [decide_eq_false c1]
   exact iteF (iteF (keep (by rw [decide_eq_false c1]; rfl)))
  rw [decide_eq_true c1]
  refine iteT ?_
  refine ⟨_,rfl,.inr (.inl ⟨u,_,1,_,rfl,rfl,SqT.of ht2,rfl,.inr (.inl ⟨sb,_,0,.str s0,rfl,rfl,SqT.of hs2,atI_nat (j:=0) rfl,rfl,_,rfl,?_⟩)⟩)⟩
  rw [ea]
  cases q:isAsk dr with
  | true=>exact iteF (keep (by rw [q,decide_eq_true c1]; rfl))
  | false =>
   refine iteT ?_
   refine ⟨_,rfl,f',?_,nxt hi ⟨us ++ [u],by rw [List.map_append]; rfl,?_,upd_same,?_⟩⟩
   ·rw [List.length_map,Paired.length hP]
    refine small1000 (Nat.le_trans (List.length_filter_le _ _) ?_)
    rw [List.length_take]; omega
   ·intro b o q
    rw [upd_ne (ne_of_none q hf)]
    exact S _ _ q
   ·rw [filter_snocD hdr,if_pos (by rw [q,decide_eq_true c1]; rfl)]
    have hk:KT0 H' (upd H' f (.lst (us.map V.ref ++ [.ref u]))):=kt_upd f'
    exact Paired.snoc (hP.kt hk) (hat'.kt hk)
 rintro vs H1 ⟨us,rfl,S1,f1,hP⟩
 rw [List.length_map,Paired.length T.ds,List.take_length] at hP
 refine ⟨(by show 0 <= sizeLine; decide),fun e he=>⟨.s ((ds.filter fun d=>decide (d.a = r) && !isAsk d).map dDT),.s [],?_,dIn_nil (SqL.of upd_same),?_,by decide,?_⟩⟩
 ·unfold DIn
  exact ⟨f,_,rfl,SqL.of (kp f1 he),Doors.dIns (hP.kt (Same.kt (Same.new he)))⟩
 ·show DT.depths _ + 1 <= 8
  have:=depths_ds2 (ds.filter fun d=>decide (d.a = r) && !isAsk d)
  omega
 have ed:decide (DT.s ((ds.filter fun d=>decide (d.a = r) && !isAsk d).map dDT) = DT.s []) = decide (r ∉ loudOf ds):=by
  by_cases c:r ∈ loudOf ds
  ·have e0:decide (r ∉ loudOf ds) = false:=decide_eq_false (fun z=>z c)
   rw [e0]
   refine decide_eq_false fun z=>?_
   injection z with z
   unfold loudOf at c
   obtain ⟨d,hd,e1⟩:=List.mem_map.mp c
   obtain ⟨h1,h2⟩:=List.mem_filter.mp hd
   have:dDT d ∈ (ds.filter fun d=>decide (d.a = r) && !isAsk d).map dDT:=List.mem_map_of_mem (List.mem_filter.mpr ⟨h1,by rw [decide_eq_true e1,h2]; rfl⟩)
   rw [z] at this
   cases this
  ·have e0:decide (r ∉ loudOf ds) = true:=decide_eq_true c
   rw [e0]
   refine decide_eq_true ?_
   have:(ds.filter fun d=>decide (d.a = r) && !isAsk d) = []:=by
    rw [List.filter_eq_nil_iff]
    intro d hd z
    rw [Bool.and_eq_true] at z
    exact c (List.mem_map.mpr ⟨d,List.mem_filter.mpr ⟨hd,z.2⟩,of_decide_eq_true z.1⟩)
   rw [this]
   rfl
 rw [ed]
 exact k _ (S1.trans (Same.new he))
def sp_beh (K:PySem.W.Frag):Sp:=fun vs H Q _=>∃ (t ft s l1 l2 l3 l4:Addr) (ts:List Addr) (asks says rooms face sg:List Str) (ds:List Door),vs = [.ref t,.ref ft,.ref s]/\Told H t l1 l2 l3 l4 ts asks says rooms ds/\ModelOk asks says rooms ds/\H ft = some (.tup (face.map V.str))/\SqT K H s (sg.map V.str)/\face.length <= 1000 /\
 ∀ (t':Addr) (H':Hp),H' t' = some (.tup ((behF rooms ds face sg).map V.str))->Same H H'->Q (.ref t') H'
theorem rd_beh {K:PySem.W.Frag} {vs:List V} {H:Hp} {Q:VK} {E:XK} (h:sp_beh K vs H Q E):t_law_behind K sp_on sp_lquiet { nx:=fun _ H'=>Q .non H',rt:=Q } (start N_law_behind vs) H:=by
 obtain ⟨t,ft,s,l1,l2,l3,l4,ts,asks,says,rooms,face,sg,ds,rfl,T,m,hft,hs,hz,k⟩:=h
 have z4:=m.few
 refine ⟨_,rfl,(by show 1 <= sizeLine; decide),fun hh hhh=>⟨gDT sg,gDT hushSg,dIn_sign (SqT.same (Same.new hhh) hs),dIn_sign (SqT.of upd_same),by rw [depth_g]; decide,by rw [depth_g]; decide,_,rfl,?_⟩⟩
 rw [dec_gDT]
 have Sn:Same H (upd H hh (.tup [.str "hush"])):=Same.new hhh
 generalize upd H hh (.tup [.str "hush"]) = H1 at Sn ⊢
 have T1:=T.same Sn
 have ft1:=Sn _ _ hft
 have hs1:=SqT.same Sn hs
 by_cases c:sg = hushSg
 ·rw [decide_eq_true c]
  refine iteT ?_
  refine ⟨_,rfl,ft,rfl,⟨_,SqT.of ft1⟩,fun f hf=>?_⟩
  refine comp_tup (xs:=face.map V.str) (fun i vs H'=>vs = ((face.take i).filter fun r=>decide (r ∉ loudOf ds)).map V.str/\Same H1 H'/\H' f = some (.lst vs)) ⟨rfl,Same.new hf,upd_same⟩ (fun i vs H' _ ⟨_,S,h'⟩=>⟨h',SqT.of (S _ _ ft1)⟩) ?_ ?_
  ·rintro vs H' ⟨rfl,S,f'⟩
   rw [List.length_map,List.take_length] at f'
   refine ⟨f,_,rfl,.inl ⟨SqL.of f',fun t' ht'=>k t' _ ?_ ((Sn.trans S).trans (Same.new ht'))⟩⟩
   rw [upd_same]
   unfold behF
   rw [if_pos c]
  ·rintro i vs H' x' hx' hi ⟨rfl,S,f'⟩
   obtain ⟨r,hr,rfl⟩:=strs_get hx'
   refine gN ?_
   refine ⟨_,rfl,_,rfl,t,l1,l2,l3,l4,ts,asks,says,rooms,ds,r,rfl,T1.same S,m,fun H2 S2=>⟨_,rfl,?_⟩⟩
   have hlen:(((face.take i).filter fun r=>decide (r ∉ loudOf ds)).map V.str).length < sizeLine:=by
    rw [List.length_map]
    refine small1000 (Nat.le_trans (List.length_filter_le _ _) ?_)
    rw [List.length_take]; omega
   refine ite2 (fun hq=>?_) (fun hq=>?_)
   ·refine ⟨_,rfl,S2 _ _ f',hlen,nxt hi ⟨?_,?_,upd_same⟩⟩
    ·rw [filter_snoc hr,if_pos hq,List.map_append]; rfl
    ·intro b o q
     rw [upd_ne (ne_of_none q hf)]
     exact S2 _ _ (S _ _ q)
   ·refine nxt hi ⟨?_,S.trans S2,S2 _ _ f'⟩
    rw [filter_snoc hr,if_neg hq,List.append_nil]
 ·rw [decide_eq_false c]
  refine iteF ?_
  refine ⟨_,rfl,_,rfl,.inr (.inl ⟨t,_,3,_,rfl,rfl,SqT.of T1.t,rfl,l4,rfl,⟨_,SqL.of T1.a4⟩,fun f hf=>?_⟩)⟩
  refine comp_list (xs:=ts.map V.ref) (fun i vs H'=>∃ G:List Str,vs = G.map V.str/\Same H1 H'/\H' f = some (.lst vs)/\G.length <= i/\∀ g,g ∈ G ↔ ∃ d ∈ ds.take i,d.a ∈ face/\d.sg = sg/\d.b = g)
   ⟨[],rfl,Same.new hf,upd_same,Nat.le_refl _,fun g=>⟨fun h=>(by cases h),fun ⟨_,h,_⟩=>by simp at h⟩⟩ (fun i vs H' _ ⟨_,_,S,h',_⟩=>⟨h',SqL.of (S _ _ T1.a4)⟩) ?_ ?_
  rotate_left
  ·rintro i vs H' x' hx' hi ⟨G,rfl,S,f',hl,hG⟩
   obtain ⟨u,hu,rfl⟩:=refs_get hx'
   obtain ⟨dr,hdr,hatd⟩:=Paired.getL T1.ds hu
   obtain ⟨sb,ht2,hs2⟩:=hatd.kt (Same.kt S)
   have hi':i < ds.length:=(List.getElem?_eq_some_iff.mp hdr).1
   have hstep:∀ g,(∃ d ∈ ds.take (i + 1),d.a ∈ face/\d.sg = sg/\d.b = g) ↔ ((∃ d ∈ ds.take i,d.a ∈ face/\d.sg = sg/\d.b = g) ∨ (dr.a ∈ face/\dr.sg = sg/\dr.b = g)):=by
    intro g
    rw [take_snoc hdr]
    constructor
    ·rintro ⟨d,hd,h⟩
     rcases List.mem_append.mp hd with hd | hd
     ·exact .inl ⟨d,hd,h⟩
     ·have:d = dr:=by simpa using hd
      subst this
      exact .inr h
    ·rintro (⟨d,hd,h⟩ | h)
     ·exact ⟨d,List.mem_append_left _ hd,h⟩
     ·exact ⟨dr,List.mem_append_right _ (by simp),h⟩
   have keep:¬ (dr.a ∈ face/\dr.sg = sg)->∃ m',m' < (ts.map V.ref).length - i/\Wc (ts.map V.ref).length (fun i vs H'=>∃ G:List Str,vs = G.map V.str/\Same H1 H'/\H' f = some (.lst vs)/\G.length <= i/\∀ g,g ∈ G ↔ ∃ d ∈ ds.take i,d.a ∈ face/\d.sg = sg/\d.b = g) (i + 1) m' (G.map V.str) H':=by
    intro z
    refine nxt hi ⟨G,rfl,S,f',by omega,fun g=>?_⟩
    rw [hstep,hG]
    exact ⟨.inl,fun h=>h.elim id fun h=>absurd ⟨h.1,h.2.1⟩ z⟩
   refine gN ?_
   refine ⟨_,rfl,.inr (.inl ⟨u,_,0,_,rfl,rfl,SqT.of ht2,rfl,_,rfl,sDT dr.a,face.map sDT,ft,_,dIn_s _,rfl,.inr (SqT.of (S _ _ ft1)),dIns_s _,(by show 0 <= 8; decide),by rw [depths_s]; decide,_,rfl,?_⟩)⟩
   rw [if_neg Bool.false_ne_true,dec_mem]
   by_cases c1:dr.a ∈ face
   rotate_left
   ·rw [decide_eq_false c1]
    exact iteF (iteF (keep fun z=>c1 z.1))
   rw [decide_eq_true c1]
   refine iteT ?_
   refine ⟨_,rfl,.inr (.inl ⟨u,_,1,_,rfl,rfl,SqT.of ht2,rfl,_,rfl,gDT dr.sg,gDT sg,dIn_sign (SqT.of hs2),dIn_sign (SqT.same S hs1),by rw [depth_g]; decide,by rw [depth_g]; decide,_,rfl,?_⟩)⟩
   rw [dec_gDT]
   by_cases c2:dr.sg = sg
   rotate_left
   ·rw [decide_eq_false c2]
    exact iteF (keep fun z=>c2 z.2)
   rw [decide_eq_true c2]
   refine iteT ?_
   refine ⟨_,rfl,.inr (.inl ⟨u,_,2,_,rfl,rfl,SqT.of ht2,rfl,f',by rw [List.length_map]; exact small1000 (by omega),nxt hi ⟨G ++ [dr.b],by rw [List.map_append]; rfl,?_,upd_same,by rw [List.length_append]; show G.length + 1 <= i + 1; omega,fun g=>?_⟩⟩)⟩
   ·intro b o q
    rw [upd_ne (ne_of_none q hf)]
    exact S _ _ q
   ·rw [hstep,<- hG,List.mem_append]
    simp only [List.mem_singleton]
    exact ⟨fun h=>h.imp id fun h=>⟨c1,c2,h.symm⟩,fun h=>h.imp id fun h=>h.2.2.symm⟩
  rintro vs H2 ⟨G,rfl,S2,f2,hl,hG⟩
  rw [List.length_map,Paired.length T.ds] at hl
  rw [List.length_map,Paired.length T.ds,List.take_length] at hG
  refine ⟨t,f,l1,l2,l3,l4,ts,asks,says,rooms,G,ds,rfl,T1.same S2,m,f2,by omega,fun t' H' h1 S'=>k t' H' ?_ ((Sn.trans S2).trans S')⟩
  rw [h1]
  unfold behF
  rw [if_neg c]
  suffices e0:closF rooms ds G = closF rooms ds (goalsAll ds sg face) by rw [e0]
  refine closF_congr fun g=>?_
  rw [hG,mem_goalsAll]
  constructor
  ·rintro ⟨⟨a,sgd,b⟩,hd,h1,h2,h3⟩
   simp only at h1 h2 h3
   subst h2 h3
   exact ⟨a,h1,hd⟩
  ·rintro ⟨r,hr,h⟩
   exact ⟨_,h,hr,rfl,rfl⟩
abbrev Sgns (H:Hp) (us:List Addr) (L:List (List Str)):Prop:=Paired (SignAt H) us L
theorem Sgns.kt {H H':Hp} {us:List Addr} {L:List (List Str)} (k:KT0 H H') (h:Sgns H us L):Sgns H' us L:=Paired.mapP h fun _ _ r=>k _ _ r
theorem Sgns.dIns {K:PySem.W.Frag} {H:Hp}:∀ {us:List Addr} {L:List (List Str)},Sgns H us L->DIns K H (L.map gDT) (us.map V.ref)
 | _,_,.nil=>by show DIns K H [] []; unfold DIns; rfl
 | _,_,.cons r t=>by
  rw [List.map_cons,List.map_cons]
  unfold DIns
  exact ⟨_,_,rfl,dIn_sign (SqT.of r),Sgns.dIns t⟩
theorem depths_sg1 (L:List (List Str)):DT.depths (L.map gDT) <= 1:=by
 induction L with
 | nil=>exact Nat.zero_le _
 | cons x xs ih=>rw [List.map_cons]; show max (DT.depth (gDT x)) (DT.depths _) <= 1; rw [depth_g]; omega
theorem dIn_tnil {K:PySem.W.Frag} {H:Hp} {a:Addr} (h:SqT K H a []):DIn K H (.t []) (.ref a):=by
 unfold DIn
 refine ⟨a,_,rfl,h,?_⟩
 unfold DIns
 rfl
def lawSigns (asks says:List Str):List (List Str):=asks.map askSg ++ says.map saySg ++ [hushSg]
def sp_signs:Sp:=fun vs H Q _=>∃ (t l1 l2 l3 l4:Addr) (ts:List Addr) (asks says rooms:List Str) (ds:List Door),vs = [.ref t]/\Told H t l1 l2 l3 l4 ts asks says rooms ds/\ModelOk asks says rooms ds /\
 ∀ (l:Addr) (us:List Addr) (H':Hp),H' l = some (.lst (us.map V.ref))->Sgns H' us (lawSigns asks says)->H l = none->Same H H'->Q (.ref l) H'
theorem comp_signs {K:PySem.W.Frag} {σ:L2.St} {H:Hp} {a l:Addr} {ws:List Str} {kd:Str} {Q:Hp->Prop} (ha:H a = some (.lst (ws.map V.str))) (hz:ws.length <= 1000) (hl:H l = none)
  (k:∀ (us:List Addr) (H':Hp),H' l = some (.lst (us.map V.ref))->Sgns H' us (ws.map fun w=>[kd,w])->Same H H'->Q H') :
  CompLoop 1 [] σ (Itl K a) (gName 0) tYes (tTup (tCons (tC (.str kd)) (tCons (tVar 0) tNil))) H l Q:=by
 refine comp_list (xs:=ws.map V.str) (fun i vs H'=>∃ us:List Addr,vs = us.map V.ref/\Same H H'/\H' l = some (.lst vs)/\Sgns H' us ((ws.take i).map fun w=>[kd,w])) ⟨[],rfl,Same.new hl,upd_same,.nil⟩ (fun i vs H' _ ⟨_,_,S,h',_⟩=>⟨h',SqL.of (S _ _ ha)⟩) ?_ ?_
 ·rintro vs H' ⟨us,rfl,S,h',hP⟩
  rw [List.length_map,List.take_length] at hP
  exact k us H' h' hP S
 ·rintro i vs H' x' hx' hi ⟨us,rfl,S,f',hP⟩
  obtain ⟨w,hw,rfl⟩:=strs_get hx'
  refine gN (yesT ?_)
  refine ⟨_,rfl,(by show 2 <= sizeLine; decide),fun u hu=>⟨kp f' hu,?_,nxt hi ⟨us ++ [u],by rw [List.map_append]; rfl,?_,upd_same,?_⟩⟩⟩
  ·rw [List.length_map,Paired.length hP,List.length_map,List.length_take]
   exact small1000 (by omega)
  ·intro b o q
   rw [upd_ne (ne_of_none q hl)]
   exact kp (S _ _ q) hu
  ·rw [take_snoc hw,List.map_append]
   have hk:KT0 H' (upd (upd H' u (.tup [.str kd,.str w])) l (.lst (us.map V.ref ++ [.ref u]))):=(Same.kt (Same.new hu)).trans (kt_upd (kp f' hu))
   exact Paired.snoc (Sgns.kt hk hP) ((kt_upd (kp f' hu)) _ _ upd_same)
theorem rd_signs {K:PySem.W.Frag} {vs:List V} {H:Hp} {Q:VK} {E:XK} (h:sp_signs vs H Q E):t_law_signs K { nx:=fun _ H'=>Q .non H',rt:=Q } (start N_law_signs vs) H:=by
 obtain ⟨t,l1,l2,l3,l4,ts,asks,says,rooms,ds,rfl,T,m,k⟩:=h
 have z1:=m.asks4
 have z2:=m.says4
 refine ⟨_,rfl,.inr (.inl ⟨t,_,0,_,rfl,rfl,SqT.of T.t,rfl,l1,rfl,⟨_,SqL.of T.a1⟩,fun la hla=>?_⟩)⟩
 refine comp_signs (kd:="ask") T.a1 (by omega) hla fun ua H1 h1 hP1 S1=>?_
 have T1:=T.same S1
 refine ⟨_,rfl,.inr (.inl ⟨t,_,1,_,rfl,rfl,SqT.of T1.t,rfl,l2,rfl,⟨_,SqL.of T1.a2⟩,fun ls hls=>?_⟩)⟩
 refine comp_signs (kd:="say") T1.a2 (by omega) hls fun us H2 h2 hP2 S2=>?_
 have h12:=S2 _ _ h1
 have hP12:=Sgns.kt (Same.kt S2) hP1
 refine ⟨la,ls,_,_,rfl,rfl,h12,h2,?_,fun c1 hc1=>?_⟩
 ·rw [List.length_map,List.length_map,Paired.length hP1,Paired.length hP2,List.length_map,List.length_map]
  exact Nat.le_of_lt (small1000 (by omega))
 refine ⟨(by show 1 <= sizeLine; decide),fun hh hhh=>⟨(by show 1 <= sizeLine; decide),fun hl hhl=>?_⟩⟩
 refine ⟨c1,hl,_,_,rfl,rfl,kp (kp upd_same hhh) hhl,upd_same,?_,fun r hr=>?_⟩
 ·rw [List.length_append,List.length_map,List.length_map,Paired.length hP1,Paired.length hP2,List.length_map,List.length_map]
  exact Nat.le_of_lt (small1000 (by show _ + 1 <= 1000; omega))
 have S3:=(((Same.new (o:=.lst (ua.map V.ref ++ us.map V.ref)) hc1).trans (Same.new (o:=.tup [.str "hush"]) hhh)).trans (Same.new (o:=.lst [.ref hh]) hhl)).trans (Same.new (o:=.lst (ua.map V.ref ++ us.map V.ref ++ [.ref hh])) hr)
 refine k r (ua ++ us ++ [hh]) _ ?_ ?_ ?_ ((S1.trans S2).trans S3)
 ·rw [upd_same,List.map_append,List.map_append]; rfl
 ·refine Paired.app (Paired.app (Sgns.kt (Same.kt S3) hP12) (Sgns.kt (Same.kt S3) hP2)) (.cons ?_ .nil)
  exact kp (kp upd_same hhl) hr
 ·exact (((S1.trans S2).trans ((Same.new hc1).trans (Same.new hhh))).trans (Same.new hhl)).free hr
theorem cutV_toV (xs:List V) (k:Nat):cutV xs none (some (k:Int)) = xs.take k:=by
 unfold cutV
 rw [HT.sIx_none,HT.sIx_nat,List.drop_zero,Nat.sub_zero,List.take_eq_take_iff]
 omega
theorem cutV_fromV (xs:List V) (k:Nat):cutV xs (some (k:Int)) none = xs.drop k:=by
 unfold cutV
 rw [HT.sIx_none,HT.sIx_nat,List.take_of_length_le (by rw [List.length_drop]; omega)]
 by_cases h:k <= xs.length
 ·rw [Nat.min_eq_left h]
 ·rw [Nat.min_eq_right (by omega),List.drop_of_length_le (by simp),List.drop_of_length_le (by omega)]
theorem Paired.takeP {α β:Type} {R:α->β->Prop}:∀ (n:Nat) {xs:List α} {ys:List β},Paired R xs ys->Paired R (xs.take n) (ys.take n)
 | 0,_,_,_=>by rw [List.take_zero,List.take_zero]; exact .nil
 | _ + 1,_,_,.nil=>.nil
 | n + 1,_,_,.cons r t=>.cons r (Paired.takeP n t)
theorem Paired.dropP {α β:Type} {R:α->β->Prop}:∀ (n:Nat) {xs:List α} {ys:List β},Paired R xs ys->Paired R (xs.drop n) (ys.drop n)
 | 0,_,_,h=>h
 | _ + 1,_,_,.nil=>.nil
 | n + 1,_,_,.cons r t=>Paired.dropP n t
noncomputable def faceOf (rooms:List Str) (ds:List Door) (story:List (List Str)):List Str:=story.foldl (behF rooms ds) (closF rooms ds (rooms.take 1))
theorem faceOf_snoc (rooms:List Str) (ds:List Door) (story:List (List Str)) (sg:List Str):faceOf rooms ds (story ++ [sg]) = behF rooms ds (faceOf rooms ds story) sg:=by
 unfold faceOf
 rw [List.foldl_append]
 rfl
theorem faceOf_ok {rooms:List Str} {ds:List Door} (hr:rooms.length <= 1000) (story:List (List Str)):(∀ r ∈ faceOf rooms ds story,r ∈ rooms)/\(faceOf rooms ds story).length <= 1000:=by
 have key:∀ (L:List (List Str)) (f:List Str),(∀ r ∈ f,r ∈ rooms)->f.length <= 1000->(∀ r ∈ L.foldl (behF rooms ds) f,r ∈ rooms)/\(L.foldl (behF rooms ds) f).length <= 1000:=by
  intro L
  induction L with
  | nil=>intro f h1 h2; exact ⟨h1,h2⟩
  | cons sg L ih=>intro f h1 h2; exact ih _ (behF_sub h1) (behF_len hr h2)
 exact key story _ closF_sub (Nat.le_trans closF_len hr)
def t_law_face (K:PySem.W.Frag) (sp_law_behind:Sp) (sp_law_on:Sp):TS :=
 tSeq (tAsg (tCall sp_law_on [] E0 (tCons (tVar 0) (tCons (tSl (rSlA K) (tOp (rIx K) (tVar 0) (tC (.int 2))) (tNoPart) (tPart (tC (.int 1)))) tNil))) (gName 2))
 (tSeq (tFor (iList K (tVar 1)) (gName 3) (tAsg (tCall sp_law_behind [] E0 (tCons (tVar 0) (tCons (tVar 2) (tCons (tVar 3) tNil)))) (gName 2)))
 (tRet (tVar 2)))
def N_law_face:List Str:=["told","story","face","sign"]
def ps_law_face:List Str:=["told","story"]

def sp_lface:Sp:=fun vs H Q _=>∃ (t st l1 l2 l3 l4:Addr) (ts us:List Addr) (story:List (List Str)) (asks says rooms:List Str) (ds:List Door),vs = [.ref t,.ref st]/\Told H t l1 l2 l3 l4 ts asks says rooms ds/\ModelOk asks says rooms ds/\H st = some (.lst (us.map V.ref))/\Sgns H us story /\
 ∀ (t':Addr) (H':Hp),H' t' = some (.tup ((faceOf rooms ds story).map V.str))->Same H H'->Q (.ref t') H'
theorem rd_lface {K:PySem.W.Frag} {vs:List V} {H:Hp} {Q:VK} {E:XK} (h:sp_lface vs H Q E):t_law_face K (sp_beh K) sp_on { nx:=fun _ H'=>Q .non H',rt:=Q } (start N_law_face vs) H:=by
 obtain ⟨t,st,l1,l2,l3,l4,ts,us,story,asks,says,rooms,ds,rfl,T,m,hst,hS,k⟩:=h
 have z3:=m.rooms26
 have c1:cutV (rooms.map V.str) none (some 1) = (rooms.take 1).map V.str:=cutV_to rooms 1
 refine ⟨_,rfl,_,rfl,.inr (.inl ⟨t,_,2,_,rfl,rfl,SqT.of T.t,rfl,_,rfl,.inl ⟨l3,_,rfl,SqL.of T.a3,fun fl hfl=>?_⟩⟩)⟩
 rw [c1]
 have Sf:Same H (upd H fl (.lst ((rooms.take 1).map V.str))):=Same.new hfl
 refine ⟨t,fl,l1,l2,l3,l4,ts,asks,says,rooms,rooms.take 1,ds,rfl,T.same Sf,m,upd_same,by rw [List.length_take]; omega,fun f0 H1 hf0 S1'=>?_⟩
 have S1:=Sf.trans S1'
 refine ⟨_,rfl,st,rfl,⟨_,SqL.of (S1 _ _ hst)⟩,?_⟩
 refine for_list (xs:=us.map V.ref) (fun i σ H'=>∃ (f:Addr) (x3:Option V),σ = [some (.ref t),some (.ref st),some (.ref f),x3]/\H' f = some (.tup ((faceOf rooms ds (story.take i)).map V.str))/\Same H H')
  ⟨f0,_,rfl,hf0,S1⟩ (fun i σ H' _ ⟨_,_,_,_,S⟩=>SqL.of (S _ _ hst)) ?_ ?_
 ·rintro i y σ H2 hi ⟨f,x3,rfl,hf,S2⟩
  obtain ⟨u,hu,rfl⟩:=refs_get hi
  obtain ⟨sg,hsg,hat⟩:=Paired.getL hS hu
  have hat2:=S2 _ _ hat
  obtain ⟨o1,o2⟩:=faceOf_ok (ds:=ds) (show rooms.length <= 1000 by omega) (story.take i)
  refine ⟨_,rfl,_,rfl,_,rfl,t,f,u,l1,l2,l3,l4,ts,asks,says,rooms,_,sg,ds,rfl,T.same S2,m,hf,SqT.of hat2,o2,fun f' H3 hf' S3=>⟨f',_,rfl,?_,S2.trans S3⟩⟩
  rw [take_snoc hsg,faceOf_snoc]
  exact hf'
 ·rintro σ H2 ⟨f,x3,rfl,hf,S2⟩
  rw [List.length_map,Paired.length hS,List.take_length] at hf
  exact ⟨_,rfl,k f H2 hf S2⟩
open Classical in
theorem mem_closF {rooms gs:List Str} {ds:List Door} {r:Str}:r ∈ closF rooms ds gs ↔ r ∈ rooms/\From ds gs r:=by
 unfold closF
 rw [List.mem_filter,decide_eq_true_iff]
theorem ne_snoc {L:List (List Str)} {x:List Str} (h:∀ sg ∈ L,sg ≠ stillSg) (hx:x ≠ stillSg):∀ sg ∈ L ++ [x],sg ≠ stillSg:=fun sg z=>by
 rcases List.mem_append.mp z with z | z
 ·exact h sg z
 ·have e:sg = x:=by simpa using z
  rw [e]; exact hx
theorem hush_ne:hushSg ≠ stillSg:=by decide +kernel
theorem lawSigns_ne {asks says:List Str} {sg:List Str} (h:sg ∈ lawSigns asks says):sg ≠ stillSg:=by
 unfold lawSigns at h
 rcases List.mem_append.mp h with h | h
 ·rcases List.mem_append.mp h with h | h
  ·obtain ⟨w,_,rfl⟩:=List.mem_map.mp h
   intro z; unfold askSg stillSg at z; injection z with _ z; cases z
  ·obtain ⟨w,_,rfl⟩:=List.mem_map.mp h
   intro z; unfold saySg stillSg at z; injection z with _ z; cases z
 ·have e:sg = hushSg:=by simpa using h
  rw [e]; exact hush_ne
def sp_storyN (K:PySem.W.Frag):Sp:=fun vs H Q _=>∃ (p c t l1 l2 l3 l4:Addr) (ts:List Addr) (asks says rooms:List Str) (ds:List Door) (most:Nat),vs = [.ref p,.ref t,.int most]/\Pen H p c/\Told H t l1 l2 l3 l4 ts asks says rooms ds/\ModelOk asks says rooms ds/\most <= 100 /\
 ∀ (l:Addr) (us:List Addr) (story:List (List Str)) (H':Hp),H' l = some (.lst (us.map V.ref))->Sgns H' us story->(∀ sg ∈ story,sg ≠ stillSg)->story.length <= most->Pen H' p c->ExB p H H'->Q (.ref l) H'
theorem rd_storyN {K:PySem.W.Frag} {vs:List V} {H:Hp} {Q:VK} {E:XK} (h:sp_storyN K vs H Q E):t_law_story K sp_take (sp_beh K) sp_signs sp_on sp_anew { nx:=fun _ H'=>Q .non H',rt:=Q } (start N_law_story vs) H:=by
 obtain ⟨p,c,t,l1,l2,l3,l4,ts,asks,says,rooms,ds,most,rfl,hp,T,m,hm,k⟩:=h
 have z1:=m.asks4
 have z2:=m.says4
 have z3:=m.rooms26
 refine ⟨_,rfl,p,c,rfl,hp,fun H1 hp1 ex1=>?_⟩
 have T1:=T.ex hp ex1
 refine ⟨(by show 0 <= sizeLine; decide),fun st hst=>?_⟩
 have stp:=hp1.nep hst
 have stc:=hp1.nec hst
 have T2:=T1.same (Same.new (o:=.lst []) hst)
 have hp2:=hp1.ex (Same.new (o:=.lst []) hst)
 have st2:upd H1 st (.lst []) st = some (.lst (([]:List Addr).map V.ref)):=upd_same
 have ex2:ExB p H1 (upd H1 st (.lst [])):=ExB.new hst
 generalize upd H1 st (.lst []) = H2 at T2 hp2 st2 ex2 ⊢
 have c1:cutV (rooms.map V.str) none (some 1) = (rooms.take 1).map V.str:=cutV_to rooms 1
 refine ⟨_,rfl,_,rfl,.inr (.inl ⟨t,_,2,_,rfl,rfl,SqT.of T2.t,rfl,_,rfl,.inl ⟨l3,_,rfl,SqL.of T2.a3,fun fl hfl=>?_⟩⟩)⟩
 rw [c1]
 have Sf:Same H2 (upd H2 fl (.lst ((rooms.take 1).map V.str))):=Same.new hfl
 refine ⟨t,fl,l1,l2,l3,l4,ts,asks,says,rooms,rooms.take 1,ds,rfl,T2.same Sf,m,upd_same,by rw [List.length_take]; omega,fun ft H3 hft S3'=>?_⟩
 have S3:=Sf.trans S3'
 have hp3:=hp2.ex S3
 have T3:=T2.same S3
 have st3:=S3 _ _ st2
 have ex3:ExB p H1 H3:=ex2.trans (Same.exB S3)
 have hfl3:(closF rooms ds (rooms.take 1)).length <= 1000:=Nat.le_trans closF_len (by omega)
 refine ⟨_,rfl,_,rfl,_,_,rfl,rfl,take_i hp3 (by omega) (by omega) fun n H4 n0 n1 hp4 ex4=>?_⟩
 refine ⟨n,rfl,by omega,by omega,?_⟩
 obtain ⟨xs3,hx3⟩:=hp3.lst
 refine for_range (lo:=0) (n:=n.toNat) (fun i σ H'=>∃ (ft:Addr) (face:List Str) (us:List Addr) (story:List (List Str)) (a5 a6 a7:Option V),σ = [some (.ref p),some (.ref t),some (.int most),some (.ref st),some (.ref ft),a5,a6,a7]/\H' st = some (.lst (us.map V.ref))/\Sgns H' us story/\(∀ sg ∈ story,sg ≠ stillSg)/\story.length <= i/\H' ft = some (.tup (face.map V.str))/\face.length <= 1000/\Pen H' p c/\ExB p H1 H')
  ⟨ft,_,[],[],_,_,_,rfl,ex4 _ _ st3 stp.symm,.nil,(fun _ z=>nomatch z),Nat.le_refl _,(ex4.kt hx3) _ _ hft,hfl3,hp4,ex3.trans ex4⟩ ?_ ?_
 ·rintro i σ H5 hi ⟨ft,face,us,story,a5,a6,a7,rfl,st5,hP5,hN5,hl5,ft5,hfc,hp5,ex5⟩
  have T5:=T1.ex hp1 ex5
  have hus:us.length <= 1000:=by rw [Paired.length hP5]; omega
  refine ⟨_,rfl,t,l1,l2,l3,l4,ts,asks,says,rooms,ds,rfl,T5,m,fun sl su H6 hsl hsu frsl S6=>?_⟩
  have T6:=T5.same S6
  have ft6:=S6 _ _ ft5
  have hlsu:su.length <= 1000:=by
   rw [Paired.length hsu]
   unfold lawSigns
   rw [List.length_append,List.length_append,List.length_map,List.length_map]
   show _ + 1 <= 1000
   omega
  have hsu0:0 < su.length:=by
   rw [Paired.length hsu]
   unfold lawSigns
   rw [List.length_append]
   show 0 < _ + 1
   omega
  refine ⟨_,rfl,sl,rfl,⟨_,SqL.of hsl⟩,fun f hf=>?_⟩
  refine comp_list (xs:=su.map V.ref) (fun i vs H'=>∃ (wu:List Addr) (L:List (List Str)),vs = wu.map V.ref/\Same H6 H'/\H' f = some (.lst vs)/\Sgns H' wu L/\(∀ sg ∈ L,sg ≠ stillSg)/\L.length <= i) ⟨[],[],rfl,Same.new hf,upd_same,.nil,(fun _ z=>nomatch z),Nat.le_refl _⟩ (fun i vs H' _ ⟨_,_,_,S,h',_⟩=>⟨h',SqL.of (S _ _ hsl)⟩) ?_ ?_
  rotate_left
  ·rintro j vs H' x' hx' hj ⟨wu,L,rfl,S,f',hW,hWN,hLl⟩
   obtain ⟨u,hu,rfl⟩:=refs_get hx'
   obtain ⟨sg,hsg,hat⟩:=Paired.getL hsu hu
   have hat':H' u = some (.tup (sg.map V.str)):=S _ _ hat
   refine gN ?_
   refine ⟨_,rfl,_,rfl,_,rfl,t,ft,u,l1,l2,l3,l4,ts,asks,says,rooms,face,sg,ds,rfl,T6.same S,m,S _ _ ft6,SqT.of hat',hfc,fun b H7 hb S7=>?_⟩
   refine ⟨(by show 0 <= sizeLine; decide),fun e he=>⟨.t ((behF rooms ds face sg).map sDT),.t [],dIn_sign (SqT.of (kp hb he)),dIn_tnil (SqT.of upd_same),?_,by decide,_,rfl,?_⟩⟩
   ·show DT.depths _ + 1 <= 8
    rw [depths_s]; decide
   have S8:Same H' (upd H7 e (.tup [])):=S7.trans (Same.new he)
   generalize upd H7 e (.tup []) = H8 at S8 ⊢
   refine ite2 (fun _=>?_) (fun _=>?_)
   ·refine ⟨_,rfl,S8 _ _ f',?_,nxt hj ⟨wu ++ [u],L ++ [sg],by rw [List.map_append]; rfl,?_,upd_same,?_,ne_snoc hWN (lawSigns_ne (List.mem_of_getElem? hsg)),by rw [List.length_append]; show L.length + 1 <= j + 1; omega⟩⟩
    ·rw [List.length_map] at hj
     rw [List.length_map,Paired.length hW]
     exact small1000 (by omega)
    ·intro b o q
     rw [upd_ne (ne_of_none q hf)]
     exact S8 _ _ (S _ _ q)
    ·have hk:KT0 H' (upd H8 f (.lst (wu.map V.ref ++ [.ref u]))):=(Same.kt S8).trans (kt_upd (S8 _ _ f'))
     exact Paired.snoc (Sgns.kt hk hW) (hk _ _ hat')
   ·exact nxt hj ⟨wu,L,rfl,S.trans S8,S8 _ _ f',Sgns.kt (Same.kt S8) hW,hWN,by omega⟩
  rintro vs H7 ⟨wu,L,rfl,S7,f7,hW,hWN,hLl⟩
  rw [List.length_map] at hLl
  have S57:=S6.trans S7
  have hp7:=hp5.ex S57
  have hsl7:=S7 _ _ hsl
  have fin:∀ (H8:Hp) (q:Addr) (qu:List Addr) (QL:List (List Str)),H8 q = some (.lst (qu.map V.ref))->Sgns H8 qu QL->(∀ sg ∈ QL,sg ≠ stillSg)->0 < qu.length->qu.length <= 1000->q ≠ st->Pen H8 p c->ExB p H1 H8->H8 st = some (.lst (us.map V.ref))->Sgns H8 us story->H8 ft = some (.tup (face.map V.str)) ->
    (tSeq (tDrop (tBM K "list" rAppend (tVar 3) (tCons (tOp (rIxL K) (tVar 6) (tCall sp_take [] E0 (tCons (tVar 0) (tCons (tCB (rLen K) (tCons (tVar 6) tNil)) tNil)))) tNil)))
 (tAsg (tCall (sp_beh K) [] E0 (tCons (tVar 1) (tCons (tVar 4) (tCons (tOp (rIxL K) (tVar 3) (tUn (rU fun i=>.int (-i)) (tC (.int 1)))) tNil)))) (gName 4)))
    { nx:=fun σ H'=>∃ (ft:Addr) (face:List Str) (us:List Addr) (story:List (List Str)) (a5 a6 a7:Option V),σ = [some (.ref p),some (.ref t),some (.int most),some (.ref st),some (.ref ft),a5,a6,a7]/\H' st = some (.lst (us.map V.ref))/\Sgns H' us story/\(∀ sg ∈ story,sg ≠ stillSg)/\story.length <= i + 1/\H' ft = some (.tup (face.map V.str))/\face.length <= 1000/\Pen H' p c/\ExB p H1 H',rt:=Q } [some (.ref p),some (.ref t),some (.int most),some (.ref st),some (.ref ft),some (.int (0 + i)),some (.ref q),some (.ref f)] H8:=by
   intro H8 q qu QL hq hQ hQN q0 qz qst hp8 ex8 st8 hS8 ft8
   have hqp:=hp8.ne_refs hq
   refine ⟨_,rfl,.inl ⟨rfl,_,SqL.of st8⟩,_,rfl,_,rfl,_,rfl,.inl ⟨q,_,rfl,.inl (SqL.of hq),take_i (m:=((qu.map V.ref).length:Nat)) hp8 (by rw [List.length_map]; omega) (by rw [List.length_map]; omega) fun r H9 r0 r1 hp9 ex9=>?_⟩⟩
   rw [List.length_map] at r1
   obtain ⟨rn,rfl⟩:=Int.eq_ofNat_of_zero_le r0
   have hrn:rn < qu.length:=by omega
   obtain ⟨sg,hsg,hat⟩:=Paired.getL hQ (List.getElem?_eq_getElem hrn)
   obtain ⟨xs8,hx8⟩:=hp8.lst
   have kt9:=ex9.kt hx8
   have st9:=ex9 _ _ st8 stp.symm
   have hat9:H9 qu[rn] = some (.tup (sg.map V.str)):=kt9 _ _ hat
   refine ⟨q,_,(rn:Int),.ref qu[rn],rfl,rfl,SqL.of (ex9 _ _ hq hqp),atI_nat (by rw [List.getElem?_map,List.getElem?_eq_getElem hrn]; rfl),st,_,_,rfl,rfl,st9,by rw [List.length_map]; exact small1000 hus,?_⟩
   have hk:KT0 H9 (upd H9 st (.lst (us.map V.ref ++ [.ref qu[rn]]))):=kt_upd st9
   have st10:upd H9 st (.lst (us.map V.ref ++ [.ref qu[rn]])) st = some (.lst ((us ++ [qu[rn]]).map V.ref)):=by rw [upd_same,List.map_append]; rfl
   have hp10:Pen (upd H9 st (.lst (us.map V.ref ++ [.ref qu[rn]]))) p c:=hp9.upd stp stc
   have ex10:ExB p H1 (upd H9 st (.lst (us.map V.ref ++ [.ref qu[rn]]))):=fun b o e n=>by
    rw [upd_ne (ne_of_none e hst)]; exact (ex8.trans ex9) _ _ e n
   generalize upd H9 st (.lst (us.map V.ref ++ [.ref qu[rn]])) = H10 at hk st10 hp10 ex10 ⊢
   have T10:=T1.ex hp1 ex10
   have ft10:=hk _ _ (kt9 _ _ ft8)
   have hat10:=hk _ _ hat9
   refine ⟨_,rfl,_,rfl,_,rfl,_,rfl,st,_,-1,.ref qu[rn],rfl,rfl,SqL.of st10,by rw [List.map_append]; exact atI_last _ _,t,ft,qu[rn],l1,l2,l3,l4,ts,asks,says,rooms,face,sg,ds,rfl,T10,m,ft10,SqT.of hat10,hfc,fun ft' H11 hft' S11=>?_⟩
   exact ⟨ft',_,us ++ [qu[rn]],story ++ [sg],_,_,_,rfl,S11 _ _ st10,Paired.snoc (Sgns.kt (((kt9.trans hk)).trans (Same.kt S11)) hS8) (S11 _ _ hat10),ne_snoc hN5 (hQN _ (List.mem_of_getElem? hsg)),by rw [List.length_append]; show story.length + 1 <= i + 1; omega,hft',behF_len (by omega) hfc,hp10.ex S11,ex10.trans (Same.exB S11)⟩
  have slst:sl ≠ st:=fun z=>by rw [z,st5] at frsl; cases frsl
  have fst:f ≠ st:=fun z=>by
   have:=S6 _ _ st5
   rw [z,this] at hf; cases hf
  refine ⟨_,rfl,(by show 0 <= sizeLine; decide),fun e he=>⟨.s (L.map gDT),.s [],?_,dIn_nil (SqL.of upd_same),?_,by decide,_,rfl,?_⟩⟩
  ·unfold DIn
   exact ⟨f,_,rfl,SqL.of (kp f7 he),Sgns.dIns (Sgns.kt (Same.kt (Same.new he)) hW)⟩
  ·show DT.depths _ + 1 <= 8
   have:=depths_sg1 L
   omega
  have Se:Same H7 (upd H7 e (.lst [])):=Same.new he
  generalize upd H7 e (.lst []) = H8 at Se ⊢
  have S58:=S57.trans Se
  have hp8:=hp5.ex S58
  have ex8:ExB p H1 H8:=ex5.trans (Same.exB S58)
  have use1:=fin H8 sl su _ (Se _ _ hsl7) (Sgns.kt (Same.kt (S7.trans Se)) hsu) (fun _ z=>lawSigns_ne z) hsu0 hlsu slst hp8 ex8 (S58 _ _ st5) (Sgns.kt (Same.kt S58) hP5) (S58 _ _ ft5)
  by_cases hL:L = []
  ·have ez:(!decide (DT.s (L.map gDT) = DT.s [])) = false:=by rw [hL,decide_eq_true (by rfl)]; rfl
   rw [ez]
   exact iteF (iteF use1)
  have ez:(!decide (DT.s (L.map gDT) = DT.s [])) = true:=by
   rw [decide_eq_false (fun z=>hL (by injection z with z; exact List.map_eq_nil_iff.mp z))]; rfl
  rw [ez]
  refine iteT ?_
  refine ⟨_,rfl,take_i hp8 (by decide) (by decide) fun r H9 r0 r1 hp9 ex9=>⟨_,_,rfl,rfl,_,rfl,?_⟩⟩
  obtain ⟨xs8,hx8⟩:=hp8.lst
  have kt9:=ex9.kt hx8
  have hL0:0 < wu.length:=by
   rw [Paired.length hW]
   exact List.length_pos_iff.mpr hL
  have st9:=ex9 _ _ (S58 _ _ st5) stp.symm
  refine ite2 (fun _=>?_) (fun _=>?_)
  ·refine ⟨_,rfl,?_⟩
   have f8:=Se _ _ f7
   exact fin H9 f wu L (ex9 _ _ f8 (hp8.ne_refs f8)) (Sgns.kt ((Same.kt Se).trans kt9) hW) hWN hL0 (by rw [Paired.length hW]; omega) fst hp9 (ex8.trans ex9) st9 (Sgns.kt ((Same.kt S58).trans kt9) hP5) (kt9 _ _ (S58 _ _ ft5))
  ·have sl8:=Se _ _ hsl7
   exact fin H9 sl su _ (ex9 _ _ sl8 (hp8.ne_refs sl8)) (Sgns.kt ((Same.kt (S7.trans Se)).trans kt9) hsu) (fun _ z=>lawSigns_ne z) hsu0 hlsu slst hp9 (ex8.trans ex9) st9 (Sgns.kt ((Same.kt S58).trans kt9) hP5) (kt9 _ _ (S58 _ _ ft5))
 ·rintro σ H5 ⟨ft,face,us,story,a5,a6,a7,rfl,st5,hP5,hN5,hl5,ft5,hfc,hp5,ex5⟩
  exact ⟨_,rfl,k st us story H5 st5 hP5 hN5 (by omega) hp5 (ex1.trans ex5)⟩
def sp_oddN:Sp:=fun vs H Q _=>∃ (p c t st l1 l2 l3 l4:Addr) (ts us:List Addr) (asks says rooms:List Str) (ds:List Door) (story:List (List Str)),vs = [.ref p,.ref t,.ref st]/\Pen H p c/\Told H t l1 l2 l3 l4 ts asks says rooms ds/\ModelOk asks says rooms ds/\H st = some (.lst (us.map V.ref))/\Sgns H us story/\(∀ sg ∈ story,sg ≠ stillSg)/\story.length <= 100 /\
 ∀ (l:Addr) (us':List Addr) (story':List (List Str)) (H':Hp),H' l = some (.lst (us'.map V.ref))->Sgns H' us' story'->(∀ sg ∈ story',sg ≠ stillSg)->story'.length <= 101->Pen H' p c->ExB p H H'->Q (.ref l) H'
theorem rd_oddN {K:PySem.W.Frag} {vs:List V} {H:Hp} {Q:VK} {E:XK} (h:sp_oddN vs H Q E):t_law_odd K sp_take sp_names sp_anew { nx:=fun _ H'=>Q .non H',rt:=Q } (start N_law_odd vs) H:=by
 obtain ⟨p,c,t,st,l1,l2,l3,l4,ts,us,asks,says,rooms,ds,story,rfl,hp,T,m,hst,hS,hN,hz,k⟩:=h
 have z1:=m.asks4
 have z2:=m.says4
 have hus:us.length = story.length:=Paired.length hS
 refine ⟨_,rfl,p,c,rfl,hp,fun H6 hp6 ex6=>?_⟩
 have T6:=T.ex hp ex6
 obtain ⟨xs0,hx0⟩:=hp.lst
 have st6:=ex6 _ _ hst (hp.ne_refs hst)
 have hS6:=Sgns.kt (ex6.kt hx0) hS
 refine ⟨_,rfl,.inr (.inl ⟨t,_,0,_,rfl,rfl,SqT.of T6.t,rfl,_,rfl,.inr (.inl ⟨t,_,1,_,rfl,rfl,SqT.of T6.t,rfl,l1,l2,_,_,rfl,rfl,T6.a1,T6.a2,?_,fun w1 hw1=>?_⟩)⟩)⟩
 ·rw [List.length_map,List.length_map]; exact Nat.le_of_lt (small1000 (by omega))
 have hw1':upd H6 w1 (.lst (asks.map V.str ++ says.map V.str)) w1 = some (.lst ((asks ++ says).map V.str)):=by rw [upd_same,List.map_append]
 have S7:Same H6 (upd H6 w1 (.lst (asks.map V.str ++ says.map V.str))):=Same.new hw1
 generalize upd H6 w1 (.lst (asks.map V.str ++ says.map V.str)) = H7 at hw1' S7 ⊢
 have hp7:=hp6.ex S7
 have st7:=S7 _ _ st6
 have hS7:=Sgns.kt (Same.kt S7) hS6
 have ex7:ExB p H H7:=ex6.trans (Same.exB S7)
 refine ⟨_,rfl,p,c,1,rfl,hp7,by decide,fun lw ws H8 okw lenw frw hlw hp8 ex8=>?_⟩
 obtain ⟨xs7,hx7⟩:=hp7.lst
 have w18:=ex8 _ _ hw1' (hp7.ne_strs hw1')
 have st8:=ex8 _ _ st7 (hp7.ne_refs st7)
 have hS8:=Sgns.kt (ex8.kt hx7) hS7
 refine ⟨w1,lw,_,_,rfl,rfl,w18,hlw,?_,fun w2 hw2=>?_⟩
 ·rw [List.length_map,List.length_map,List.length_append]; exact Nat.le_of_lt (small1000 (by omega))
 have hw2':upd H8 w2 (.lst ((asks ++ says).map V.str ++ ws.map V.str)) w2 = some (.lst ((asks ++ says ++ ws).map V.str)):=by rw [upd_same,List.map_append (l₁:=asks ++ says)]
 have S9:Same H8 (upd H8 w2 (.lst ((asks ++ says).map V.str ++ ws.map V.str))):=Same.new hw2
 generalize upd H8 w2 (.lst ((asks ++ says).map V.str ++ ws.map V.str)) = H9 at hw2' S9 ⊢
 have hp9:=hp8.ex S9
 have st9:=S9 _ _ st8
 have hS9:=Sgns.kt (Same.kt S9) hS8
 have ex9:ExB p H H9:=(ex7.trans ex8).trans (Same.exB S9)
 refine ⟨(by show 2 <= sizeLine; decide),fun q hq=>⟨_,rfl,take_i (hp9.ex (Same.new hq)) (by decide) (by decide) fun r H10 r0 r1 hp10 ex10=>?_⟩⟩
 have hp9q:=hp9.ex (Same.new (o:=.lst [.str "ask",.str "say"]) hq)
 obtain ⟨xs9,hx9⟩:=hp9q.lst
 have w210:=ex10 _ _ (kp (x:=.lst [.str "ask",.str "say"]) hw2' hq) (hp9.ne_strs hw2')
 have q10:H10 q = some (.lst [.str "ask",.str "say"]):=ex10 _ _ upd_same (hp9.nep hq).symm
 have st10:=ex10 _ _ (kp (x:=.lst [.str "ask",.str "say"]) st9 hq) (hp9.ne_refs st9)
 have hS10:=Sgns.kt (ex10.kt hx9) (Sgns.kt (Same.kt (Same.new (o:=.lst [.str "ask",.str "say"]) hq)) hS9)
 have exA:ExB p H H10:=ex9.trans ((ExB.new hq).trans ex10)
 obtain ⟨kd,hkd⟩:∃ kd:Str,atI [V.str "ask",.str "say"] r = some (.str kd):=by
  have:r = 0 ∨ r = 1:=by omega
  rcases this with rfl | rfl
  ·exact ⟨_,rfl⟩
  ·exact ⟨_,rfl⟩
 refine ⟨q,_,_,_,rfl,rfl,SqL.of q10,hkd,?_⟩
 refine rd_pickAt (i0:=0) (j:=3) (ws:=asks ++ says ++ ws) rfl rfl hp10 w210 ?_ ?_ fun w hw H11 hp11 ex11=>?_
 ·intro z
  have:=congrArg List.length z
  rw [List.length_append,lenw] at this
  simp at this
 ·rw [List.length_append,List.length_append,lenw]; omega
 obtain ⟨xs10,hx10⟩:=hp10.lst
 have st11:=ex11 _ _ st10 (hp10.ne_refs st10)
 have hS11:=Sgns.kt (ex11.kt hx10) hS10
 have exB:=exA.trans ex11
 refine ⟨(by show 2 <= sizeLine; decide),fun sgA hsgA=>?_⟩
 have S12:Same H11 (upd H11 sgA (.tup [.str kd,.str w])):=Same.new hsgA
 have sg12:upd H11 sgA (.tup [.str kd,.str w]) sgA = some (.tup ([kd,w].map V.str)):=upd_same
 generalize upd H11 sgA (.tup [.str kd,.str w]) = H12 at S12 sg12 ⊢
 have hp12:=hp11.ex S12
 have st12:=S12 _ _ st11
 have hS12:=Sgns.kt (Same.kt S12) hS11
 have ex12:ExB p H H12:=exB.trans (Same.exB S12)
 refine ⟨_,rfl,_,rfl,.inl ⟨st,_,rfl,.inl (SqL.of st12),_,_,rfl,rfl,take_i (m:=((us.map V.ref).length:Int) + 1) hp12 (by rw [List.length_map]; omega) (by rw [List.length_map]; omega) fun r H13 r0 r1 hp13 ex13=>?_⟩⟩
 obtain ⟨n,rfl⟩:=Int.eq_ofNat_of_zero_le r0
 rw [List.length_map] at r1
 obtain ⟨xs12,hx12⟩:=hp12.lst
 have st13:=ex13 _ _ st12 (hp12.ne_refs st12)
 have hS13:=Sgns.kt (ex13.kt hx12) hS12
 have sg13:=(ex13.kt hx12) _ _ sg12
 have ex13':=ex12.trans ex13
 refine ⟨_,rfl,take_i hp13 (by decide) (by decide) fun r H14 r0 r1 hp14 ex14=>⟨_,_,rfl,rfl,_,rfl,?_⟩⟩
 obtain ⟨xs13,hx13⟩:=hp13.lst
 have st14:=ex14 _ _ st13 (hp13.ne_refs st13)
 have hS14:=Sgns.kt (ex14.kt hx13) hS13
 have sg14:=(ex14.kt hx13) _ _ sg13
 have ex14':=ex13'.trans ex14
 refine ite2 (fun _=>⟨_,rfl,k st us story H14 st14 hS14 hN (by omega) hp14 ex14'⟩) (fun _=>?_)
 refine ⟨_,rfl,_,rfl,_,rfl,st,_,rfl,SqL.of st14,fun q1 hq1=>⟨_,rfl,(by show 1 <= sizeLine; decide),fun q2 hq2=>⟨q1,q2,_,_,rfl,rfl,kp upd_same hq2,upd_same,?_,fun q3 hq3=>?_⟩⟩⟩
 ·rw [cutV_toV,List.length_take,List.length_map]
  exact Nat.le_of_lt (small1000 (by show _ + 1 <= 1000; omega))
 rw [cutV_toV] at hq2 hq3 ⊢
 have S15:=((Same.new (o:=.lst ((us.map V.ref).take n)) hq1).trans (Same.new (o:=.lst [.ref sgA]) hq2)).trans (Same.new (o:=.lst ((us.map V.ref).take n ++ [.ref sgA])) hq3)
 have q315:upd (upd (upd H14 q1 (.lst ((us.map V.ref).take n))) q2 (.lst [.ref sgA])) q3 (.lst ((us.map V.ref).take n ++ [.ref sgA])) q3 = some (.lst ((us.take n ++ [sgA]).map V.ref)):=by
  rw [upd_same,List.map_append,List.map_take]; rfl
 generalize upd (upd (upd H14 q1 (.lst ((us.map V.ref).take n))) q2 (.lst [.ref sgA])) q3 (.lst ((us.map V.ref).take n ++ [.ref sgA])) = H15 at S15 q315 ⊢
 have hp15:=hp14.ex S15
 have st15:=S15 _ _ st14
 refine ⟨_,rfl,_,rfl,_,rfl,take_i hp15 (by decide) (by decide) fun r H16 r0 r1 hp16 ex16=>⟨_,_,rfl,rfl,_,rfl,?_⟩⟩
 obtain ⟨j,rfl⟩:=Int.eq_ofNat_of_zero_le r0
 obtain ⟨xs15,hx15⟩:=hp15.lst
 have st16:=ex16 _ _ st15 (hp15.ne_refs st15)
 have q316:=ex16 _ _ q315 (hp15.ne_refs q315)
 have kt16:=(Same.kt S15).trans (ex16.kt hx15)
 refine ⟨st,_,rfl,SqL.of st16,fun q4 hq4=>⟨q3,q4,_,_,rfl,rfl,kp q316 hq4,upd_same,?_,fun q5 hq5=>?_⟩⟩
 ·refine Nat.le_trans (Nat.add_le_add_left (cutV_length _ _ _) _) ?_
  rw [List.length_map,List.length_map,List.length_append,List.length_take]
  exact Nat.le_of_lt (small1000 (by show _ + 1 + _ <= 1000; omega))
 have ed:cutV (us.map V.ref) (some ((n:Int) + (j:Int))) none = (us.drop (n + j)).map V.ref:=by
  have:((n:Int) + (j:Int)) = ((n + j:Nat):Int):=by omega
  rw [this,cutV_fromV,List.map_drop]
 rw [ed] at hq5 ⊢
 have S17:=(Same.new (o:=.lst ((us.drop (n + j)).map V.ref)) (by exact hq4)).trans (Same.new (o:=.lst ((us.take n ++ [sgA]).map V.ref ++ (us.drop (n + j)).map V.ref)) hq5)
 have kt17:=kt16.trans (Same.kt S17)
 refine k q5 (us.take n ++ [sgA] ++ us.drop (n + j)) (story.take n ++ [[kd,w]] ++ story.drop (n + j)) _ ?_ ?_ (fun sg z=>?_) ?_ (hp16.ex S17) ((ex14'.trans ((Same.exB S15).trans ex16)).trans (Same.exB S17))
 ·rw [upd_same,List.map_append (l₁:=us.take n ++ [sgA])]
 ·refine Paired.app (Paired.app (Paired.takeP n (Sgns.kt kt17 hS14)) (.cons ?_ .nil)) (Paired.dropP (n + j) (Sgns.kt kt17 hS14))
  exact kt17 _ _ sg14
 ·rcases List.mem_append.mp z with z | z
  ·rcases List.mem_append.mp z with z | z
   ·exact hN sg (List.mem_of_mem_take z)
   ·have e:sg = [kd,w]:=by simpa using z
    rw [e]; intro y; unfold stillSg at y; injection y with _ y; cases y
  ·exact hN sg (List.mem_of_mem_drop z)
 ·rw [List.length_append,List.length_append,List.length_take,List.length_drop]
  show _ + 1 + _ <= 101
  omega
mutual
def DR (K:PySem.W.Frag) (G:Hp):DT->V->Prop
 | .k a,v=>v = kV a
 | .t l,v=>∃ b xs,v = .ref b/\SqT K G b xs/\DRs K G l xs
 | .s l,v=>∃ b xs,v = .ref b/\G b = some (.lst xs)/\DRs K G l xs
def DRs (K:PySem.W.Frag) (G:Hp):List DT->List V->Prop
 | [],vs=>vs = []
 | k :: r,vs=>∃ v us,vs = v :: us/\DR K G k v/\DRs K G r us
end
mutual
theorem DR.same {K:PySem.W.Frag} {H H':Hp} (S:Same H H'):∀ {d:DT} {v:V},DR K H d v->DR K H' d v
 | .k a,v,h=>by unfold DR at h ⊢; exact h
 | .t l,v,h=>by
  unfold DR at h ⊢
  obtain ⟨b,xs,e,q,r⟩:=h
  exact ⟨b,xs,e,SqT.same S q,DRs.same S r⟩
 | .s l,v,h=>by
  unfold DR at h ⊢
  obtain ⟨b,xs,e,q,r⟩:=h
  exact ⟨b,xs,e,S _ _ q,DRs.same S r⟩
theorem DRs.same {K:PySem.W.Frag} {H H':Hp} (S:Same H H'):∀ {ds:List DT} {vs:List V},DRs K H ds vs->DRs K H' ds vs
 | [],vs,h=>by unfold DRs at h ⊢; exact h
 | d :: ds,vs,h=>by
  unfold DRs at h ⊢
  obtain ⟨v,us,e,q,r⟩:=h
  exact ⟨v,us,e,DR.same S q,DRs.same S r⟩
end
mutual
theorem DR.dIn {K:PySem.W.Frag} {H:Hp}:∀ {d:DT} {v:V},DR K H d v->DIn K H d v
 | .k a,v,h=>by unfold DR at h; unfold DIn; exact h
 | .t l,v,h=>by
  unfold DR at h; unfold DIn
  obtain ⟨b,xs,e,q,r⟩:=h
  exact ⟨b,xs,e,q,DRs.dIns r⟩
 | .s l,v,h=>by
  unfold DR at h; unfold DIn
  obtain ⟨b,xs,e,q,r⟩:=h
  exact ⟨b,xs,e,SqL.of q,DRs.dIns r⟩
theorem DRs.dIns {K:PySem.W.Frag} {H:Hp}:∀ {ds:List DT} {vs:List V},DRs K H ds vs->DIns K H ds vs
 | [],vs,h=>by unfold DRs at h; unfold DIns; exact h
 | d :: ds,vs,h=>by
  unfold DRs at h; unfold DIns
  obtain ⟨v,us,e,q,r⟩:=h
  exact ⟨v,us,e,DR.dIn q,DRs.dIns r⟩
end
structure AV where
 p:Hp->V->Prop
 mono:∀ {G G':Hp} {v:V},Same G G'->p G v->p G' v
def dv (K:PySem.W.Frag) (d:DT):AV:=⟨fun G v=>DR K G d v,fun S h=>DR.same S h⟩
def bv (b:Bool):AV:=⟨fun _ v=>v = .bl b,fun _ h=>h⟩
def nv:AV:=⟨fun _ v=>v = .non,fun _ h=>h⟩
abbrev iDT (n:Int):DT:=.k (.inl n)
section
variable {K:PySem.W.Frag}
def RV (v:V) (z:AV):Prop:=∀ G,z.p G v
theorem rv_int {n:Int}:RV (.int n) (dv K (iDT n)):=fun G=>by show DR K G _ _; unfold DR; rfl
theorem rv_str {w:Str}:RV (.str w) (dv K (sDT w)):=fun G=>by show DR K G _ _; unfold sDT DR; rfl
theorem drs_strs {G:Hp}:∀ ws:List Str,DRs K G (ws.map sDT) (ws.map V.str)
 | []=>by unfold DRs; rfl
 | w :: ws=>by
  rw [List.map_cons,List.map_cons]
  unfold DRs
  exact ⟨_,_,rfl,rv_str (K:=K) G,drs_strs ws⟩
def tvD (asks says rooms:List Str) (ds:List Door):DT:=.t [.s (asks.map sDT),.s (says.map sDT),.s (rooms.map sDT),.s (ds.map dDT)]
theorem dr_sign {G:Hp} {s:Addr} {sg:List Str} (h:SqT K G s (sg.map V.str)):DR K G (gDT sg) (.ref s):=by
 unfold gDT DR
 exact ⟨s,_,rfl,h,drs_strs sg⟩
theorem sq_of_dr {G:Hp} {v:V} {sg:List Str} (h:DR K G (gDT sg) v):∃ s,v = .ref s/\SqT K G s (sg.map V.str):=by
 unfold gDT DR at h
 obtain ⟨s,xs,e,h1,h2⟩:=h
 have:∀ (sg:List Str) (xs:List V),DRs K G (sg.map sDT) xs->xs = sg.map V.str:=by
  intro sg
  induction sg with
  | nil=>intro xs h; unfold DRs at h; exact h
  | cons w sg ih =>
   intro xs h
   rw [List.map_cons] at h
   unfold DRs at h
   obtain ⟨v,us,rfl,g1,g2⟩:=h
   unfold sDT DR at g1
   rw [g1,ih us g2]; rfl
 rw [this sg xs h2] at h1
 exact ⟨s,e,h1⟩
theorem dr_door {G:Hp} {t:Addr} {d:Door} (h:DoorAt G t d):DR K G (dDT d) (.ref t):=by
 obtain ⟨s,h1,h2⟩:=h
 unfold dDT DR
 refine ⟨t,_,rfl,SqT.of h1,?_⟩
 unfold DRs
 refine ⟨_,_,rfl,rv_str (K:=K) G,?_⟩
 unfold DRs
 refine ⟨_,_,rfl,dr_sign (SqT.of h2),?_⟩
 unfold DRs
 refine ⟨_,_,rfl,rv_str (K:=K) G,?_⟩
 unfold DRs
 rfl
theorem drs_doors {G:Hp}:∀ {ts:List Addr} {ds:List Door},Doors G ts ds->DRs K G (ds.map dDT) (ts.map V.ref)
 | _,_,.nil=>by unfold DRs; rfl
 | _,_,.cons h r=>by
  rw [List.map_cons,List.map_cons]
  unfold DRs
  exact ⟨_,_,rfl,dr_door h,drs_doors r⟩
theorem dr_told {G:Hp} {t l1 l2 l3 l4:Addr} {ts:List Addr} {asks says rooms:List Str} {ds:List Door} (T:Told G t l1 l2 l3 l4 ts asks says rooms ds):DR K G (tvD asks says rooms ds) (.ref t):=by
 have ls:∀ {l:Addr} {ws:List Str},G l = some (.lst (ws.map V.str))->DR K G (.s (ws.map sDT)) (.ref l):=fun h=>by unfold DR; exact ⟨_,_,rfl,h,drs_strs _⟩
 unfold tvD DR
 refine ⟨t,_,rfl,SqT.of T.t,?_⟩
 unfold DRs
 refine ⟨_,_,rfl,ls T.a1,?_⟩
 unfold DRs
 refine ⟨_,_,rfl,ls T.a2,?_⟩
 unfold DRs
 refine ⟨_,_,rfl,ls T.a3,?_⟩
 unfold DRs
 refine ⟨_,_,rfl,by unfold DR; exact ⟨_,_,rfl,T.a4,drs_doors T.ds⟩,?_⟩
 unfold DRs
 rfl
end
def mv (C:Addr) (asks says rooms:List Str) (ds:List Door):AV:=⟨fun G v=>∃ x,v = .ref x/\MachAt C G x asks says rooms ds,fun S ⟨x,e,h⟩=>⟨x,e,h.same S⟩⟩
theorem dpS (w:Str):(sDT w).depth <= 8:=Nat.zero_le _
theorem dpG (sg:List Str):(gDT sg).depth <= 8:=by rw [depth_g]; decide
theorem dpD (d:Door):(dDT d).depth <= 8:=by rw [depth_d]; decide
theorem dpGs (L:List (List Str)):(DT.s (L.map gDT)).depth <= 8:=by
 have:=depths_sg1 L
 show DT.depths _ + 1 <= 8
 omega
theorem at0 {α:Type} {x:α} {xs:List α}:atI (x :: xs) 0 = some x:=atI_nat (j:=0) rfl
theorem at_last {α:Type} {xs:List α} {x:α}:atI (xs ++ [x]) (-1) = some x:=atI_last _ _
def cutL {α:Type} (xs:List α) (lo hi:Option Int):List α:=(xs.drop (HT.sIx xs.length 0 lo)).take (HT.sIx xs.length xs.length hi - HT.sIx xs.length 0 lo)
inductive Sl where
 | no
 | im (a:AV)
 | lc (n:Nat)
 | pn
inductive Ce where
 | lst (xs:List Sl)
 | dk (kvs:List (Key × Sl))
 | dt (kvs:List (TK × Sl))
 | ins (C:Addr) (fs:List (Str × Sl))
 | fk (o:Obj) (l:List (Key × V)) (kvs:List (Key × Sl))
abbrev SH:=List (Nat × Ce)
structure Mp where
 G:Hp
 H:Hp
 ad:Nat->Addr
 P:Addr->Prop
def Ok (m:Mp) (h:SH):Sl->V->Prop
 | .no,_=>True
 | .im a,v=>a.p m.G v
 | .lc n,v=>(∃ c,(n,c) ∈ h)/\v = .ref (m.ad n)
 | .pn,v=>∃ p c o,v = .ref p/\m.P p/\m.G c = some o/\Pen m.H p c
abbrev Oks (m:Mp) (h:SH):List V->List Sl->Prop:=Paired fun v x=>Ok m h x v
def CeOk (m:Mp) (h:SH) (a:Addr):Ce->Prop
 | .lst xs=>∃ vs,m.H a = some (.lst vs)/\Oks m h vs xs
 | .dk kvs=>∃ vs,m.H a = some (.dK ((kvs.map (·.1)).zip vs))/\Oks m h vs (kvs.map (·.2))
 | .dt kvs=>∃ vs,m.H a = some (.dT ((kvs.map (·.1)).zip vs))/\Oks m h vs (kvs.map (·.2))
 | .ins C fs=>∃ dx vs,m.H a = some (.ins C dx ((fs.map (·.1)).zip vs))/\Oks m h vs (fs.map (·.2))
 | .fk o l kvs=>m.H a = some (.frz o (.dK l))/\Paired (fun (p:Key × V) (q:Key × Sl)=>p.1 = q.1/\Ok m h q.2 p.2) l kvs
structure Wf (m:Mp) (h:SH):Prop where
 s:Same m.G m.H
 p:∀ a,m.P a->m.G a = none/\m.H a ≠ none
 c:∀ n c,(n,c) ∈ h->m.G (m.ad n) = none/\¬ m.P (m.ad n)/\CeOk m h (m.ad n) c
 i:∀ n c n' c',(n,c) ∈ h->(n',c') ∈ h->m.ad n = m.ad n'->n = n'
 u:(h.map (·.1)).Nodup
structure Bs where
 G:Hp
 H:Hp
 P:Addr->Prop
 M:Addr->Prop
 R:Addr->Prop
 N:List (Nat × Addr)
structure Fr (B:Bs) (m:Mp) (h:SH):Prop where
 gg:Same B.G m.G
 hh:∀ a o,B.H a = some o->¬ B.P a->¬ B.M a->m.H a = some o
 al:∀ a,B.H a ≠ none->m.H a ≠ none
 fr:∀ a,m.G a ≠ none->B.G a ≠ none ∨ B.H a = none
 pe:∀ p c o,B.P p->B.G c = some o->Pen B.H p c->Pen m.H p c
 pp:∀ a,B.P a ↔ m.P a
 ow:∀ n c,(n,c) ∈ h->B.H (m.ad n) = none ∨ B.M (m.ad n) ∨ B.R (m.ad n)
 nd:∀ n a,(n,a) ∈ B.N->1000 <= n/\m.ad n = a/\∃ c,(n,c) ∈ h
structure Rw (B:Bs) (s:List Sl) (h:SH) (T:List Sl) (σ:L2.St) (vs:List V) (m:Mp):Prop where
 fr:Fr B m h
 wf:Wf m h
 len:s.length = σ.length
 sl:∀ (i:Nat) (x:Sl),s[i]? = some x->x = .no ∨ ∃ v,σ[i]? = some (some v)/\Ok m h x v
 tm:Oks m h vs T
def A (B:Bs) (s:List Sl) (h:SH) (T:List Sl) (σ:L2.St) (vs:List V) (H:Hp):Prop:=∃ m,m.H = H/\Rw B s h T σ vs m
theorem CeOk.some {m:Mp} {h:SH} {a:Addr} {c:Ce} (x:CeOk m h a c):∃ o,m.H a = some o:=by
 cases c with
 | lst xs=>obtain ⟨vs,e,_⟩:=x; exact ⟨_,e⟩
 | dk xs=>obtain ⟨vs,e,_⟩:=x; exact ⟨_,e⟩
 | dt xs=>obtain ⟨vs,e,_⟩:=x; exact ⟨_,e⟩
 | ins C fs=>obtain ⟨dx,vs,e,_⟩:=x; exact ⟨_,e⟩
 | fk o l xs=>exact ⟨_,x.1⟩
structure Mv (m:Mp) (h:SH) (m':Mp) (h':SH):Prop where
 gg:Same m.G m'.G
 s:Same m'.G m'.H
 hh:∀ a o,m.H a = some o->¬ m.P a->m'.H a = some o
 al:∀ a,m.H a ≠ none->m'.H a ≠ none
 fr:∀ a,m'.G a ≠ none->m.G a ≠ none ∨ m.H a = none
 pe:∀ p c o,m.P p->m.G c = some o->Pen m.H p c->Pen m'.H p c
 pp:m'.P = m.P
 ad:∀ n c,(n,c) ∈ h->m'.ad n = m.ad n
 nm:∀ n c,(n,c) ∈ h->∃ c',(n,c') ∈ h'
theorem Ok.mv {m m':Mp} {h h':SH} (M:Mv m h m' h'):∀ {x:Sl} {v:V},Ok m h x v->Ok m' h' x v
 | .no,_,_=>True.intro
 | .im a,_,q=>a.mono M.gg q
 | .lc n,v,⟨⟨c,hc⟩,e⟩=>⟨M.nm n c hc,by rw [M.ad n c hc]; exact e⟩
 | .pn,v,⟨p,c,o,h1,h2,h3,h4⟩=>⟨p,c,o,h1,by rw [M.pp]; exact h2,M.gg _ _ h3,M.pe p c o h2 h3 h4⟩
theorem CeOk.mv {m m':Mp} {h h':SH} {a:Addr} {c:Ce} (M:Mv m h m' h') (ha:¬ m.P a) (x:CeOk m h a c):CeOk m' h' a c:=by
 cases c with
 | lst xs=>obtain ⟨vs,e,r⟩:=x; exact ⟨vs,M.hh _ _ e ha,Paired.mapP r fun v x q=>Ok.mv M q⟩
 | dk xs=>obtain ⟨vs,e,r⟩:=x; exact ⟨vs,M.hh _ _ e ha,Paired.mapP r fun v x q=>Ok.mv M q⟩
 | dt xs=>obtain ⟨vs,e,r⟩:=x; exact ⟨vs,M.hh _ _ e ha,Paired.mapP r fun v x q=>Ok.mv M q⟩
 | ins C fs=>obtain ⟨dx,vs,e,r⟩:=x; exact ⟨dx,vs,M.hh _ _ e ha,Paired.mapP r fun v x q=>Ok.mv M q⟩
 | fk o l xs=>exact ⟨M.hh _ _ x.1 ha,Paired.mapP x.2 fun v x q=>⟨q.1,Ok.mv M q.2⟩⟩
theorem Mv.refl {m:Mp} {h:SH} (S:Same m.G m.H):Mv m h m h:=⟨.refl _,S,fun _ _ e _=>e,fun _ e=>e,fun _ e=>.inl e,fun _ _ _ _ _ e=>e,rfl,fun _ _ _=>rfl,fun n c e=>⟨c,e⟩⟩
theorem Mv.trans {m m1 m2:Mp} {h h1 h2:SH} (a:Mv m h m1 h1) (b:Mv m1 h1 m2 h2):Mv m h m2 h2 :=
 ⟨a.gg.trans b.gg,b.s,fun x o e n=>b.hh x o (a.hh x o e n) (by rw [a.pp]; exact n),fun x e=>b.al x (a.al x e),fun x e=>by
  rcases b.fr x e with e | e
  ·exact a.fr x e
  ·refine .inr ?_
   cases q:m.H x with
   | none=>rfl
   | some u=>exact absurd e (a.al x (by rw [q]; exact nofun)),fun p c o hp hc e=>b.pe p c o (by rw [a.pp]; exact hp) (a.gg _ _ hc) (a.pe p c o hp hc e),b.pp.trans a.pp,fun n c e=>by
  obtain ⟨c',e'⟩:=a.nm n c e
  rw [b.ad n c' e',a.ad n c e],fun n c e=>by
  obtain ⟨c',e'⟩:=a.nm n c e
  exact b.nm n c' e'⟩
theorem Rw.mv {B:Bs} {s:List Sl} {h:SH} {T:List Sl} {σ:L2.St} {vs:List V} {m m':Mp} (R:Rw B s h T σ vs m) (M:Mv m h m' h):Rw B s h T σ vs m':=by
 refine ⟨⟨R.fr.gg.trans M.gg,fun a o e n1 n2=>M.hh a o (R.fr.hh a o e n1 n2) (fun z=>n1 ((R.fr.pp a).mpr z)),fun a e=>M.al a (R.fr.al a e),fun a e=>?_,fun p c o hp hc e=>M.pe p c o ((R.fr.pp p).mp hp) (R.fr.gg _ _ hc) (R.fr.pe p c o hp hc e),fun a=>by rw [M.pp]; exact R.fr.pp a,fun n c e=>by rw [M.ad n c e]; exact R.fr.ow n c e,fun n a e=>by
   obtain ⟨h1,h2,c,h3⟩:=R.fr.nd n a e
   exact ⟨h1,by rw [M.ad n c h3]; exact h2,c,h3⟩⟩,
  ⟨M.s,fun a e=>?_,fun n c e=>?_,fun n c n' c' e e' z=>?_,R.wf.u⟩,R.len,fun i x e=>(R.sl i x e).imp id fun ⟨v,e,q⟩=>⟨v,e,Ok.mv M q⟩,Paired.mapP R.tm fun v x q=>Ok.mv M q⟩
 ·rcases M.fr a e with e | e
  ·exact R.fr.fr a e
  ·refine .inr ?_
   cases q:B.H a with
   | none=>rfl
   | some u=>exact absurd e (R.fr.al a (by rw [q]; exact nofun))
 ·rw [M.pp] at e
  obtain ⟨h1,h2⟩:=R.wf.p a e
  refine ⟨?_,M.al a h2⟩
  cases q:m'.G a with
  | none=>rfl
  | some u=>rcases M.fr a (by rw [q]; exact nofun) with z | z; exact absurd h1 z; exact absurd z h2
 ·obtain ⟨h1,h2,h3⟩:=R.wf.c n c e
  rw [M.ad n c e]
  refine ⟨?_,by rw [M.pp]; exact h2,h3.mv M h2⟩
  cases q:m'.G (m.ad n) with
  | none=>rfl
  | some u =>
   obtain ⟨o,ho⟩:=h3.some
   rcases M.fr _ (by rw [q]; exact nofun) with z | z
   ·exact absurd h1 z
   ·rw [ho] at z; cases z
 ·rw [M.ad n c e,M.ad n' c' e'] at z
  exact R.wf.i n c n' c' e e' z
section
variable {B:Bs} {s:List Sl} {h:SH} {T:List Sl} {σ:L2.St} {vs:List V} {m:Mp}
theorem Rw.push (R:Rw B s h T σ vs m) {x:Sl} {v:V} (q:Ok m h x v):A B s h (x :: T) σ (v :: vs) m.H:=⟨m,rfl,R.fr,R.wf,R.len,R.sl,.cons q R.tm⟩
theorem Rw.drop {x:Sl} {v:V} (R:Rw B s h (x :: T) σ (v :: vs) m):Rw B s h T σ vs m:=⟨R.fr,R.wf,R.len,R.sl,by cases R.tm with | cons _ r=>exact r⟩
theorem Rw.top {x:Sl} {v:V} (R:Rw B s h (x :: T) σ (v :: vs) m):Ok m h x v:=by cases R.tm with | cons q _=>exact q
theorem Rw.fresh (R:Rw B s h T σ vs m) {l:Addr} (hl:m.H l = none):B.H l = none/\m.G l = none/\¬ m.P l/\∀ n c,(n,c) ∈ h->m.ad n ≠ l:=by
 refine ⟨?_,R.wf.s.free hl,fun z=>(R.wf.p l z).2 hl,fun n c e z=>?_⟩
 ·cases q:B.H l with
  | none=>rfl
  | some u=>exact absurd hl (R.fr.al l (by rw [q]; exact nofun))
 ·obtain ⟨o,ho⟩:=(R.wf.c n c e).2.2.some
  rw [z,hl] at ho; cases ho
theorem Mv.new {l:Addr} {o:HO} (S:Same m.G m.H) (hl:m.H l = none):Mv m h { m with G:=upd m.G l o,H:=upd m.H l o } h:=by
 have gl:m.G l = none:=S.free hl
 refine ⟨Same.new gl,fun b u e=>?_,fun a u e _=>kp e hl,fun a e=>?_,fun a e=>?_,fun p c _ _ _ e=>e.ex (Same.new hl),rfl,fun _ _ _=>rfl,fun n c e=>⟨c,e⟩⟩
 ·by_cases z:b = l
  ·subst z
   have e':upd m.G b o b = some u:=e
   rw [upd_same] at e'
   show upd m.H b o b = some u
   rw [upd_same]; exact e'
  ·have e':upd m.G l o b = some u:=e
   rw [upd_ne z] at e'
   show upd m.H l o b = some u
   rw [upd_ne z]; exact S _ _ e'
 ·show upd m.H l o a ≠ none
  by_cases z:a = l
  ·subst z; rw [upd_same]; exact nofun
  ·rw [upd_ne z]; exact e
 ·by_cases z:a = l
  ·subst z; exact .inr hl
  ·have e':upd m.G l o a ≠ none:=e
   rw [upd_ne z] at e'; exact .inl e'
def free (h:SH) (n:Nat):Prop:=n < 1000/\∀ c,(n,c) ∉ h
theorem free_of {h:SH} {n:Nat} (l:n < 1000) (e:(h.map (·.1)).contains n = false):free h n:=⟨l,fun c z=>by
 have:n ∈ h.map (·.1):=List.mem_map.mpr ⟨(n,c),z,rfl⟩
 have:=List.contains_iff_mem.mpr this
 rw [e] at this; cases this⟩
theorem Rw.cell {l:Addr} {n:Nat} {c:Ce} {m':Mp} (R:Rw B s h T σ vs m) (M:Mv m h m' h) (fn:free h n) (hl:m.H l = none) (gl:m'.G l = none) (hc:CeOk { m' with ad:=fun k=>if k = n then l else m'.ad k } ((n,c) :: h) l c) :
  ∃ m2:Mp,m2.H = m'.H/\m2.ad n = l/\Rw B s ((n,c) :: h) T σ vs m2:=by
 have R1:=R.mv M
 obtain ⟨f1,f2,f3,f4⟩:=R.fresh hl
 let m2:Mp:={ m' with ad:=fun k=>if k = n then l else m'.ad k }
 have an:m2.ad n = l:=if_pos rfl
 have ne:∀ k ck,(k,ck) ∈ h->k ≠ n:=fun k ck e z=>fn.2 ck (by rw [<- z]; exact e)
 have ak:∀ k ck,(k,ck) ∈ h->m2.ad k = m'.ad k:=fun k ck e=>if_neg (ne k ck e)
 have M2:Mv m' h m2 ((n,c) :: h):=⟨.refl _,R1.wf.s,fun _ _ e _=>e,fun _ e=>e,fun _ e=>.inl e,fun _ _ _ _ _ e=>e,rfl,ak,fun k ck e=>⟨ck,List.mem_cons_of_mem _ e⟩⟩
 have pl:¬ m'.P l:=by rw [M.pp]; exact f3
 refine ⟨m2,rfl,an,⟨R1.fr.gg,R1.fr.hh,R1.fr.al,R1.fr.fr,R1.fr.pe,R1.fr.pp,fun k ck e=>?_,fun k a e=>?_⟩,⟨R1.wf.s,R1.wf.p,fun k ck e=>?_,fun k ck k' ck' e e' z=>?_,?_⟩,R1.len,fun i x e=>(R1.sl i x e).imp id fun ⟨v,e,q⟩=>⟨v,e,Ok.mv M2 q⟩,Paired.mapP R1.tm fun v x q=>Ok.mv M2 q⟩
 ·rcases List.mem_cons.mp e with e | e
  ·cases e; rw [an]; exact .inl f1
  ·rw [ak k ck e]; exact R1.fr.ow k ck e
 ·obtain ⟨h1,h2,ck,h3⟩:=R1.fr.nd k a e
  exact ⟨h1,by rw [ak k ck h3]; exact h2,ck,List.mem_cons_of_mem _ h3⟩
 ·rcases List.mem_cons.mp e with e | e
  ·cases e; rw [an]; exact ⟨gl,pl,hc⟩
  ·obtain ⟨h1,h2,h3⟩:=R1.wf.c k ck e
   rw [ak k ck e]
   exact ⟨h1,h2,h3.mv M2 h2⟩
 ·rcases List.mem_cons.mp e with e | e
  ·cases e
   rcases List.mem_cons.mp e' with e' | e'
   ·cases e'; rfl
   ·rw [an,ak k' ck' e',M.ad k' ck' e'] at z
    exact absurd z.symm (f4 k' ck' e')
  ·rcases List.mem_cons.mp e' with e' | e'
   ·cases e'
    rw [an,ak k ck e,M.ad k ck e] at z
    exact absurd z (f4 k ck e)
   ·rw [ak k ck e,ak k' ck' e'] at z
    exact R1.wf.i k ck k' ck' e e' z
 ·rw [List.map_cons,List.nodup_cons]
  refine ⟨fun z=>?_,R1.wf.u⟩
  obtain ⟨⟨k,ck⟩,e,ek⟩:=List.mem_map.mp z
  exact ne k ck e ek
end
theorem look_mem {h:SH} {n:Nat} {c:Ce} (e:h.lookup n = some c):(n,c) ∈ h:=by
 induction h with
 | nil=>cases e
 | cons p h ih =>
  obtain ⟨k,ck⟩:=p
  rw [List.lookup_cons] at e
  by_cases z:n == k
  ·rw [z] at e
   cases e
   have:n = k:=by simpa using z
   subst this
   exact List.mem_cons_self
  ·have z':(n == k) = false:=by simpa using z
   rw [z'] at e
   exact List.mem_cons_of_mem _ (ih e)
def EV (s:List Sl) (h:SH) (t:TE) (φ:Sl->SH->Prop):Prop:=∀ B T σ vs H Q,A B s h T σ vs H->(∀ x v h' H',φ x h'->A B s h' (x :: T) σ (v :: vs) H'->Q v H')->t σ H Q
def ET (s:List Sl) (h:SH) (t:TT) (ψ:Bool->SH->Prop):Prop:=∀ B T σ vs H Q,A B s h T σ vs H->(∀ b h' H',ψ b h'->A B s h' T σ vs H'->Q b H')->t σ H Q
def EA (s:List Sl) (h:SH) (t:TA) (Φ:List Sl->SH->Prop):Prop:=∀ B T σ vs H Q,A B s h T σ vs H->(∀ xs us h' H',Φ xs h'->us.length = xs.length->A B s h' (xs ++ T) σ (us ++ vs) H'->Q us H')->t σ H Q
def EP (s:List Sl) (h:SH) (t:TO) (Ψ:Option Int->SH->Prop):Prop:=∀ B T σ vs H Q,A B s h T σ vs H->(∀ o h' H',Ψ o h'->A B s h' T σ vs H'->Q o H')->t σ H Q
abbrev imd (K:PySem.W.Frag) (d:DT):Sl:=.im (dv K d)
def lv (as:List AV):AV:=⟨fun G v=>∃ a vs,v = .ref a/\G a = some (.lst vs)/\Paired (fun v (x:AV)=>x.p G v) vs as,fun S ⟨a,vs,e,h,r⟩=>⟨a,vs,e,S _ _ h,Paired.mapP r fun v x q=>x.mono S q⟩⟩
def tv (as:List AV):AV:=⟨fun G v=>∃ a vs,v = .ref a/\G a = some (.tup vs)/\Paired (fun v (x:AV)=>x.p G v) vs as,fun S ⟨a,vs,e,h,r⟩=>⟨a,vs,e,S _ _ h,Paired.mapP r fun v x q=>x.mono S q⟩⟩
inductive IsV (K:PySem.W.Frag) (h:SH):Sl->Bool->List Sl->Prop
 | s {ds:List DT}:IsV K h (imd K (.s ds)) true (ds.map (imd K))
 | t {ds:List DT}:IsV K h (imd K (.t ds)) false (ds.map (imd K))
 | v {as:List AV}:IsV K h (.im (lv as)) true (as.map .im)
 | w {as:List AV}:IsV K h (.im (tv as)) false (as.map .im)
 | c {n:Nat} {xs:List Sl} (e:h.lookup n = some (.lst xs)):IsV K h (.lc n) true xs
inductive IsQ (K:PySem.W.Frag) (h:SH):Sl->Bool->List DT->Prop
 | s {ds:List DT}:IsQ K h (imd K (.s ds)) true ds
 | t {ds:List DT}:IsQ K h (imd K (.t ds)) false ds
 | c {n:Nat} {ds:List DT} (e:h.lookup n = some (.lst (ds.map (imd K)))):IsQ K h (.lc n) true ds
theorem IsQ.v {K:PySem.W.Frag} {h:SH} {x:Sl} {b:Bool} {ds:List DT} (q:IsQ K h x b ds):IsV K h x b (ds.map (imd K)):=by
 cases q with
 | s=>exact .s
 | t=>exact .t
 | c e=>exact .c e
inductive IsDt (K:PySem.W.Frag) (h:SH):Sl->DT->Prop
 | d {d:DT}:IsDt K h (imd K d) d
 | c {n:Nat} {xs:List Sl} {ds:List DT} (e:h.lookup n = some (.lst xs)) (r:Paired (IsDt K h) xs ds):IsDt K h (.lc n) (.s ds)
inductive AllD (K:PySem.W.Frag):List Sl->List DT->Prop
 | nil:AllD K [] []
 | cons {d:DT} {xs:List Sl} {ds:List DT}:AllD K xs ds->AllD K (imd K d :: xs) (d :: ds)
inductive AllI:List Sl->List AV->Prop
 | nil:AllI [] []
 | cons {a:AV} {xs:List Sl} {as:List AV}:AllI xs as->AllI (.im a :: xs) (a :: as)
section
variable {K:PySem.W.Frag} {m:Mp} {h:SH}
theorem oks_d {ds:List DT}:∀ {us:List V},DRs K m.G ds us->Oks m h us (ds.map (imd K)):=by
 induction ds with
 | nil=>intro us q; unfold DRs at q; subst q; exact .nil
 | cons d ds ih=>intro us q; unfold DRs at q; obtain ⟨v,us,rfl,q1,q2⟩:=q; exact .cons q1 (ih q2)
theorem d_oks:∀ {ds:List DT} {us:List V},Oks m h us (ds.map (imd K))->DRs K m.G ds us
 | [],us,q=>by cases q; unfold DRs; rfl
 | d :: ds,us,q=>by cases q with | cons q1 q2=>unfold DRs; exact ⟨_,_,rfl,q1,d_oks q2⟩
theorem oks_i:∀ {as:List AV} {us:List V},Paired (fun v (x:AV)=>x.p m.G v) us as->Oks m h us (as.map .im)
 | _,_,.nil=>.nil
 | _,_,.cons q r=>.cons q (oks_i r)
theorem IsV.view {x:Sl} {b:Bool} {xs:List Sl} {v:V} (q:IsV K h x b xs) (W:Wf m h) (o:Ok m h x v):∃ a us,v = .ref a/\Oks m h us xs/\(b = true->m.H a = some (.lst us))/\(b = false->SqT K m.H a us):=by
 cases q with
 | @s ds =>
  have o':DR K m.G (.s ds) v:=o
  unfold DR at o'
  obtain ⟨a,us,e,h1,h2⟩:=o'
  exact ⟨a,us,e,oks_d h2,fun _=>W.s _ _ h1,nofun⟩
 | @t ds =>
  have o':DR K m.G (.t ds) v:=o
  unfold DR at o'
  obtain ⟨a,us,e,h1,h2⟩:=o'
  exact ⟨a,us,e,oks_d h2,nofun,fun _=>SqT.same W.s h1⟩
 | v=>obtain ⟨a,us,e,h1,h2⟩:=o; exact ⟨a,us,e,oks_i h2,fun _=>W.s _ _ h1,nofun⟩
 | w=>obtain ⟨a,us,e,h1,h2⟩:=o; exact ⟨a,us,e,oks_i h2,nofun,fun _=>SqT.of (W.s _ _ h1)⟩
 | c e =>
  obtain ⟨_,rfl⟩:=o
  obtain ⟨_,_,us,h1,h2⟩:=W.c _ _ (look_mem e)
  exact ⟨_,us,rfl,h2,fun _=>h1,nofun⟩
theorem isDt_in {x:Sl} {d:DT} (q:IsDt K h x d) (W:Wf m h):∀ {v:V},Ok m h x v->DIn K m.H d v:=by
 have key:∀ (n:Nat) {x:Sl} {d:DT},d.depth <= n->IsDt K h x d->∀ {v:V},Ok m h x v->DIn K m.H d v:=by
  intro n
  induction n with
  | zero =>
   intro x d hd q v o
   cases q with
   | d=>exact DIn.same W.s (DR.dIn o)
   | c e r=>exact absurd hd (by show ¬ (DT.depths _ + 1 <= 0); omega)
  | succ n ih =>
   intro x d hd q v o
   cases q with
   | d=>exact DIn.same W.s (DR.dIn o)
   | @c k xs ds e r =>
    obtain ⟨_,rfl⟩:=o
    obtain ⟨_,_,us,h1,h2⟩:=W.c _ _ (look_mem e)
    have hd':DT.depths ds <= n:=by have:DT.depths ds + 1 <= n + 1:=hd; omega
    unfold DIn
    refine ⟨_,us,rfl,SqL.of h1,?_⟩
    clear e h1 hd
    induction r generalizing us with
    | nil=>cases h2; unfold DIns; rfl
    | @cons y d' ys ds' q1 q2 ihr =>
     cases h2 with
     | cons o1 o2 =>
      have hd2:max (DT.depth d') (DT.depths ds') <= n:=hd'
      unfold DIns
      exact ⟨_,_,rfl,ih (by omega) q1 o1,ihr _ o2 (by omega)⟩
 exact fun {v} o=>key _ (Nat.le_refl _) q o
theorem AllD.view {xs:List Sl} {ds:List DT} (q:AllD K xs ds):∀ {us:List V},Oks m h us xs->DRs K m.G ds us:=by
 induction q with
 | nil=>intro us h; cases h; unfold DRs; rfl
 | cons _ ih=>intro us h; cases h with | cons h1 h2=>unfold DRs; exact ⟨_,_,rfl,h1,ih h2⟩
theorem AllI.view {xs:List Sl} {as:List AV} (q:AllI xs as):∀ {us:List V},Oks m h us xs->Paired (fun v (x:AV)=>x.p m.G v) us as:=by
 induction q with
 | nil=>intro us h; cases h; exact .nil
 | cons _ ih=>intro us h; cases h with | cons h1 h2=>exact .cons h1 (ih h2)
end
theorem Paired.cut {R:V->Sl->Prop}:∀ {us:List V} {xs:List Sl} {vs:List V} {T:List Sl},us.length = xs.length->Paired R (us ++ vs) (xs ++ T)->Paired R us xs/\Paired R vs T
 | [],[],_,_,_,h=>⟨.nil,h⟩
 | [],_ :: _,_,_,e,_=>by cases e
 | _ :: _,[],_,_,e,_=>by cases e
 | u :: us,x :: xs,_,_,e,h=>by
  cases h with
  | cons h1 h2=>obtain ⟨g1,g2⟩:=Paired.cut (by simpa using e) h2; exact ⟨.cons h1 g1,g2⟩
theorem Rw.args {B:Bs} {s:List Sl} {h:SH} {T:List Sl} {σ:L2.St} {vs:List V} {m:Mp} {xs:List Sl} {us:List V} (R:Rw B s h (xs ++ T) σ (us ++ vs) m) (e:us.length = xs.length):Oks m h us xs/\Rw B s h T σ vs m:=by
 obtain ⟨h1,h2⟩:=Paired.cut e R.tm
 exact ⟨h1,R.fr,R.wf,R.len,R.sl,h2⟩
def Lst (K:PySem.W.Frag) (h:SH) (φ:Sl->SH->Prop) (xs:List Sl):Prop:=(∃ ds,AllD K xs ds/\φ (imd K (.s ds)) h) ∨ (∃ as,AllI xs as/\φ (.im (lv as)) h) ∨ ∃ n,(n < 1000/\(h.map (·.1)).contains n = false)/\φ (.lc n) ((n,.lst xs) :: h)
theorem allD_map {K:PySem.W.Frag}:∀ ds:List DT,AllD K (ds.map (imd K)) ds
 | []=>.nil
 | d :: ds=>.cons (allD_map ds)
section
variable {B:Bs} {s:List Sl} {h:SH} {T:List Sl} {σ:L2.St} {vs:List V} {m m':Mp}
theorem Rw.adopt {K:PySem.W.Frag} {φ:Sl->SH->Prop} {xs:List Sl} {us:List V} {l:Addr} (R:Rw B s h T σ vs m) (M:Mv m h m' h) (hl:m.H l = none) (gl:m'.G l = none) (e:m'.H l = some (.lst us)) (hd:Oks m' h us xs) (q:Lst K h φ xs):∃ x h',φ x h'/\A B s h' (x :: T) σ (.ref l :: vs) m'.H:=by
 have M':Mv m h { m' with G:=upd m'.G l (.lst us) } h:=⟨M.gg.trans (Same.new gl),fun b u q=>by
   have q':upd m'.G l (.lst us) b = some u:=q
   by_cases z:b = l
   ·subst z; rw [upd_same] at q'; rw [<- q']; exact e
   ·rw [upd_ne z] at q'; exact M.s _ _ q',M.hh,M.al,fun b q=>by
   have q':upd m'.G l (.lst us) b ≠ none:=q
   by_cases z:b = l
   ·subst z; exact .inr hl
   ·rw [upd_ne z] at q'; exact M.fr b q',M.pe,M.pp,M.ad,M.nm⟩
 rcases q with ⟨ds,a,q⟩ | ⟨as,a,q⟩ | ⟨n,fn,q⟩
 ·refine ⟨_,_,q,(R.mv M').push ?_⟩
  show DR K (upd m'.G l (.lst us)) (.s ds) (.ref l)
  unfold DR
  exact ⟨l,us,rfl,upd_same,DRs.same (Same.new gl) (a.view hd)⟩
 ·refine ⟨_,_,q,(R.mv M').push ?_⟩
  exact ⟨l,us,rfl,upd_same,Paired.mapP (a.view hd) fun v x r=>x.mono (Same.new gl) r⟩
 ·have fr:=free_of fn.1 fn.2
  obtain ⟨f1,f2,f3,f4⟩:=R.fresh hl
  have M2:Mv m' h { m' with ad:=fun k=>if k = n then l else m'.ad k } ((n,.lst xs) :: h):=⟨.refl _,M.s,fun _ _ e _=>e,fun _ e=>e,fun _ e=>.inl e,fun _ _ _ _ _ e=>e,rfl,fun k ck z=>if_neg (fun y=>fr.2 ck (by rw [<- y]; exact z)),fun k ck z=>⟨ck,List.mem_cons_of_mem _ z⟩⟩
  obtain ⟨m2,e2,a2,R2⟩:=R.cell (c:=.lst xs) M fr hl gl ⟨us,e,Paired.mapP hd fun v x r=>Ok.mv M2 r⟩
  refine ⟨_,_,q,?_⟩
  rw [<- e2]
  exact R2.push ⟨⟨_,List.mem_cons_self⟩,by rw [a2]⟩
theorem Mv.newO {l:Addr} {o:HO} (S:Same m.G m.H) (hl:m.H l = none):Mv m h { m with H:=upd m.H l o } h:=by
 refine ⟨.refl _,S.trans (Same.new hl),fun a u e _=>kp e hl,fun a e=>?_,fun a e=>.inl e,fun p c _ _ _ e=>e.ex (Same.new hl),rfl,fun _ _ _=>rfl,fun n c e=>⟨c,e⟩⟩
 show upd m.H l o a ≠ none
 by_cases z:a = l
 ·subst z; rw [upd_same]; exact nofun
 ·rw [upd_ne z]; exact e
theorem Rw.newLst {K:PySem.W.Frag} {φ:Sl->SH->Prop} {xs:List Sl} {us:List V} {l:Addr} (R:Rw B s h T σ vs m) (hl:m.H l = none) (hd:Oks m h us xs) (q:Lst K h φ xs):∃ x h',φ x h'/\A B s h' (x :: T) σ (.ref l :: vs) (upd m.H l (.lst us)) :=
 R.adopt (m':={ m with H:=upd m.H l (.lst us) }) (Mv.newO R.wf.s hl) hl (R.wf.s.free hl) upd_same (Paired.mapP hd fun v x r=>Ok.mv (Mv.newO R.wf.s hl) r) q
theorem A.drop {H:Hp} {x:Sl} {v:V} (a:A B s h (x :: T) σ (v :: vs) H):A B s h T σ vs H:=let ⟨m,e,R⟩:=a; ⟨m,e,R.drop⟩
theorem A.pushI {H:Hp} (a:A B s h T σ vs H) {x:AV} {v:V} (q:∀ G,x.p G v):A B s h (.im x :: T) σ (v :: vs) H:=let ⟨m,e,R⟩:=a; ⟨m,e,R.fr,R.wf,R.len,R.sl,.cons (q m.G) R.tm⟩
end
section
variable {K:PySem.W.Frag} {s:List Sl} {h:SH} {φ:Sl->SH->Prop} {ψ:Bool->SH->Prop} {Φ:List Sl->SH->Prop} {ta tb te:TE} {i:Nat}
theorem ev_var {x:Sl} (e:s[i]? = some x) (q:φ x h) (hx:x ≠ .no:=by exact nofun):EV s h (tVar i) φ:=by
 intro B T σ vs H Q a k
 obtain ⟨m,rfl,R⟩:=a
 rcases R.sl i x e with z | ⟨v,e2,o⟩
 ·exact absurd z hx
 ·exact ⟨v,e2,k x v h _ q (R.push o)⟩
theorem ev_str {w:Str} (q:φ (imd K (sDT w)) h):EV s h (tC (.str w)) φ:=fun B T σ vs H Q a k=>k _ _ _ _ q (a.pushI (rv_str (K:=K)))
theorem ev_int {n:Int} (q:φ (imd K (iDT n)) h):EV s h (tC (.int n)) φ:=fun B T σ vs H Q a k=>k _ _ _ _ q (a.pushI (rv_int (K:=K)))
theorem ev_bl {b:Bool} (q:φ (.im (bv b)) h):EV s h (tC (.bl b)) φ:=fun B T σ vs H Q a k=>k _ _ _ _ q (a.pushI fun G=>rfl)
theorem ev_non (q:φ (.im nv) h):EV s h (tC .non) φ:=fun B T σ vs H Q a k=>k _ _ _ _ q (a.pushI fun G=>rfl)
theorem ev_con {a:Addr} {d:DT} (e:∀ G,DR K G d (.ref a)) (q:φ (imd K d) h):EV s h (tC (.ref a)) φ:=fun B T σ vs H Q a k=>k _ _ _ _ q (a.pushI e)
theorem ea_nil (q:Φ [] h):EA s h tNil Φ:=fun B T σ vs H Q a k=>k [] [] h H q rfl a
theorem ea_cons {tr:TA} (q:EV s h ta fun x h1=>EA s h1 tr fun xs h2=>Φ (x :: xs) h2):EA s h (tCons ta tr) Φ:=by
 intro B T σ vs H Q a k
 refine q B T σ vs H _ a fun x v h1 H1 q1 a1=>q1 B _ σ _ H1 _ a1 fun xs us h2 H2 q2 hl a2=>k (x :: xs) (v :: us) h2 H2 q2 (by simp [hl]) ?_
 obtain ⟨m,e,R⟩:=a2
 refine ⟨m,e,R.fr,R.wf,R.len,R.sl,?_⟩
 have sp:∀ (xs:List Sl) (us:List V),us.length = xs.length->Oks m h2 (us ++ v :: vs) (xs ++ x :: T)->Oks m h2 (v :: us ++ vs) (x :: xs ++ T):=by
  intro xs
  induction xs with
  | nil=>intro us hl h; cases us with | nil=>exact h | cons _ _=>cases hl
  | cons y xs ih =>
   intro us hl h
   cases us with
   | nil=>cases hl
   | cons u us =>
    cases h with
    | cons h1 h2 =>
     have:=ih us (by simpa using hl) h2
     cases this with
     | cons g1 g2=>exact .cons g1 (.cons h1 g2)
 exact sp xs us hl R.tm
theorem top_bl {B:Bs} {T:List Sl} {σ:L2.St} {vs:List V} {H:Hp} {b:Bool} {v:V} (a:A B s h (.im (bv b) :: T) σ (v :: vs) H):v = .bl b/\A B s h T σ vs H:=by
 obtain ⟨m,e,R⟩:=a
 exact ⟨R.top,m,e,R.drop⟩
theorem top_int {B:Bs} {T:List Sl} {σ:L2.St} {vs:List V} {H:Hp} {n:Int} {v:V} (a:A B s h (imd K (iDT n) :: T) σ (v :: vs) H):v = .int n/\A B s h T σ vs H:=by
 obtain ⟨m,e,R⟩:=a
 have:DR K m.G (iDT n) v:=R.top
 unfold DR at this
 exact ⟨this,m,e,R.drop⟩
theorem et_b (q:EV s h te fun x h1=>∃ b,x = .im (bv b)/\ψ b h1):ET s h (tB te) ψ:=by
 intro B T σ vs H Q a k
 refine q B T σ vs H _ a fun x v h1 H1 ⟨b,e,q1⟩ a1=>?_
 subst e
 obtain ⟨e,a2⟩:=top_bl a1
 exact ⟨b,e,k b h1 H1 q1 a2⟩
theorem et_test (q:EV s h te fun x h1=>∃ b,x = .im (bv b)/\ψ b h1):ET s h (tTest te) ψ:=et_b q
theorem et_not {t:TT} (q:ET s h t fun b h1=>ψ (!b) h1):ET s h (tNot t) ψ:=fun B T σ vs H Q a k=>q B T σ vs H _ a fun b h1 H1 q1 a1=>k (!b) h1 H1 q1 a1
theorem et_or {t u:TT} (q:ET s h t fun b h1=>if b = true then ψ true h1 else ET s h1 u ψ):ET s h (tOr t u) ψ:=by
 intro B T σ vs H Q a k
 refine q B T σ vs H _ a fun b h1 H1 q1 a1=>?_
 cases b with
 | true=>exact iteT (k true h1 H1 ((if_pos rfl).mp q1) a1)
 | false=>exact iteF ((if_neg nofun).mp q1 B T σ vs H1 Q a1 k)
inductive IsNn:Sl->Bool->Prop
 | n:IsNn (.im nv) true
 | b {b:Bool}:IsNn (.im (bv b)) false
 | c {n:Nat}:IsNn (.lc n) false
 | d {K:PySem.W.Frag} {d:DT}:IsNn (imd K d) false
 | l {as:List AV}:IsNn (.im (lv as)) false
 | t {as:List AV}:IsNn (.im (tv as)) false
theorem IsNn.view {x:Sl} {b:Bool} (q:IsNn x b) {m:Mp} {v:V} (o:Ok m h x v):decide (v = .non) = b:=by
 cases q with
 | n=>exact decide_eq_true o
 | b=>have o':v = .bl _:=o; subst o'; rfl
 | c=>obtain ⟨_,rfl⟩:=o; rfl
 | @d K d =>
  have o':DR K m.G d v:=o
  cases d with
  | k a=>unfold DR at o'; subst o'; cases a <;> rfl
  | t l=>unfold DR at o'; obtain ⟨_,_,rfl,_⟩:=o'; rfl
  | s l=>unfold DR at o'; obtain ⟨_,_,rfl,_⟩:=o'; rfl
 | l=>obtain ⟨_,_,rfl,_⟩:=o; rfl
 | t=>obtain ⟨_,_,rfl,_⟩:=o; rfl
theorem ev_notN (q:EV s h ta fun x h1=>∃ b,IsNn x b/\φ (.im (bv (!b))) h1):EV s h (tNotN ta) φ:=by
 intro B T σ vs H Q a k
 refine q B T σ vs H _ a fun x u h1 H1 ⟨b,e,q1⟩ a1=>?_
 obtain ⟨m,rfl,R⟩:=a1
 rw [e.view R.top]
 exact k _ _ h1 _ q1 (R.drop.push rfl)
theorem ix_view {B:Bs} {T:List Sl} {σ:L2.St} {vs:List V} {H:Hp} {Q:VK} {x y z:Sl} {u v:V} {b:Bool} {xs:List Sl} {i:Int} (q:IsV K h x b xs) (ey:y = imd K (iDT i)) (e:atI xs i = some z) (c:φ z h) (a:A B s h (y :: x :: T) σ (v :: u :: vs) H) (k:∀ z w h' H',φ z h'->A B s h' (z :: T) σ (w :: vs) H'->Q w H') :
  (b = true->rIxL K u v H Q)/\(b = false->rIxT K u v H Q):=by
 subst ey
 obtain ⟨ev,a2⟩:=top_int a
 obtain ⟨m,rfl,R⟩:=a2
 obtain ⟨p,us,rfl,hd,g1,g2⟩:=q.view R.wf R.top
 have:∃ w,atI us i = some w/\Ok m h z w:=by
  unfold atI at e ⊢
  rw [Paired.length hd]
  cases q:ixN xs.length i with
  | none=>rw [q] at e; cases e
  | some j=>rw [q] at e; exact Paired.get (R:=fun v x=>Ok m h x v) hd e
 obtain ⟨w,hw,ok⟩:=this
 exact ⟨fun e=>⟨p,us,i,w,rfl,ev,SqL.of (g1 e),hw,k _ _ h _ c (R.drop.push ok)⟩,fun e=>⟨p,us,i,w,rfl,ev,g2 e,hw,k _ _ h _ c (R.drop.push ok)⟩⟩
theorem ev_ixV (q:EV s h ta fun x h1=>EV s h1 tb fun y h2=>∃ b xs i z,IsV K h2 x b xs/\y = imd K (iDT i)/\atI xs i = some z/\φ z h2):EV s h (tOp (rIx K) ta tb) φ:=by
 intro B T σ vs H Q a k
 refine q B T σ vs H _ a fun x u h1 H1 q1 a1=>q1 B _ σ _ H1 _ a1 fun y v h2 H2 q2 a2=>?_
 obtain ⟨b,xs,i,z,iv,ey,e,c⟩:=q2
 obtain ⟨h3,h4⟩:=ix_view iv ey e c a2 k
 cases b with
 | true=>exact .inl (h3 rfl)
 | false=>exact .inr (.inl (h4 rfl))
theorem ev_ixLV (q:EV s h ta fun x h1=>EV s h1 tb fun y h2=>∃ xs i z,IsV K h2 x true xs/\y = imd K (iDT i)/\atI xs i = some z/\φ z h2):EV s h (tOp (rIxL K) ta tb) φ:=by
 intro B T σ vs H Q a k
 refine q B T σ vs H _ a fun x u h1 H1 q1 a1=>q1 B _ σ _ H1 _ a1 fun y v h2 H2 q2 a2=>?_
 obtain ⟨xs,i,z,iv,ey,e,c⟩:=q2
 exact (ix_view iv ey e c a2 k).1 rfl
theorem at_map {α β:Type} {xs:List α} {f:α->β} {i:Int} {a:α} (e:atI xs i = some a):atI (xs.map f) i = some (f a):=by
 unfold atI at e ⊢
 rw [List.length_map]
 cases q:ixN xs.length i with
 | none=>rw [q] at e; cases e
 | some j =>
  rw [q] at e
  show (xs.map f)[j]? = _
  rw [List.getElem?_map,show xs[j]? = some a from e]; rfl
theorem ev_ix (q:EV s h ta fun x h1=>EV s h1 tb fun y h2=>∃ b ds i d,IsQ K h2 x b ds/\y = imd K (iDT i)/\atI ds i = some d/\φ (imd K d) h2):EV s h (tOp (rIx K) ta tb) φ :=
 ev_ixV fun B T σ vs H Q a k=>q B T σ vs H Q a fun x u h1 H1 q1 a1=>k x u h1 H1 (fun B T σ vs H Q a k=>q1 B T σ vs H Q a fun y v h2 H2 ⟨b,ds,i,d,iq,ey,e,c⟩ a2=>k y v h2 H2 ⟨b,_,i,_,iq.v,ey,at_map e,c⟩ a2) a1
theorem ev_ixL (q:EV s h ta fun x h1=>EV s h1 tb fun y h2=>∃ ds i d,IsQ K h2 x true ds/\y = imd K (iDT i)/\atI ds i = some d/\φ (imd K d) h2):EV s h (tOp (rIxL K) ta tb) φ :=
 ev_ixLV fun B T σ vs H Q a k=>q B T σ vs H Q a fun x u h1 H1 q1 a1=>k x u h1 H1 (fun B T σ vs H Q a k=>q1 B T σ vs H Q a fun y v h2 H2 ⟨ds,i,d,iq,ey,e,c⟩ a2=>k y v h2 H2 ⟨_,i,_,iq.v,ey,at_map e,c⟩ a2) a1
theorem ev_eqD (q:EV s h ta fun x h1=>EV s h1 tb fun y h2=>∃ d e,IsDt K h2 x d/\IsDt K h2 y e/\d.depth <= 8/\e.depth <= 8/\φ (.im (bv (decide (d = e)))) h2):EV s h (tOp (rEqD K) ta tb) φ:=by
 intro B T σ vs H Q a k
 refine q B T σ vs H _ a fun x u h1 H1 q1 a1=>q1 B _ σ _ H1 _ a1 fun y v h2 H2 q2 a2=>?_
 obtain ⟨d,e,i1,i2,z1,z2,c⟩:=q2
 obtain ⟨m,rfl,R⟩:=a2
 exact ⟨d,e,isDt_in i1 R.wf R.drop.top,isDt_in i2 R.wf R.top,z1,z2,k _ _ h2 _ c (R.drop.drop.push rfl)⟩
theorem ev_neD (q:EV s h ta fun x h1=>EV s h1 tb fun y h2=>∃ d e,IsDt K h2 x d/\IsDt K h2 y e/\d.depth <= 8/\e.depth <= 8/\φ (.im (bv (!decide (d = e)))) h2):EV s h (tOp (rNeD K) ta tb) φ:=by
 intro B T σ vs H Q a k
 refine q B T σ vs H _ a fun x u h1 H1 q1 a1=>q1 B _ σ _ H1 _ a1 fun y v h2 H2 q2 a2=>?_
 obtain ⟨d,e,i1,i2,z1,z2,c⟩:=q2
 obtain ⟨m,rfl,R⟩:=a2
 exact ⟨d,e,isDt_in i1 R.wf R.drop.top,isDt_in i2 R.wf R.top,z1,z2,k _ _ h2 _ c (R.drop.drop.push rfl)⟩
theorem ev_inD {neg:Bool} (q:EV s h ta fun x h1=>EV s h1 tb fun y h2=>∃ d b es,IsDt K h2 x d/\IsQ K h2 y b es/\d.depth <= 8/\DT.depths es <= 8/\φ (.im (bv (if neg then !decide (d ∈ es) else decide (d ∈ es)))) h2):EV s h (tOp (rInD K neg) ta tb) φ:=by
 intro B T σ vs H Q a k
 refine q B T σ vs H _ a fun x u h1 H1 q1 a1=>q1 B _ σ _ H1 _ a1 fun y v h2 H2 q2 a2=>?_
 obtain ⟨d,b,es,i1,i2,z1,z2,c⟩:=q2
 obtain ⟨m,rfl,R⟩:=a2
 obtain ⟨p,us,rfl,hd,g1,g2⟩:=i2.v.view R.wf R.top
 refine ⟨d,es,p,us,isDt_in i1 R.wf R.drop.top,rfl,?_,DIns.same R.wf.s (d_oks hd).dIns,z1,z2,k _ _ h2 _ c (R.drop.drop.push rfl)⟩
 cases b with
 | true=>exact .inl (SqL.of (g1 rfl))
 | false=>exact .inr (g2 rfl)
theorem ev_I0 {g:Int->Int->V} (q:EV s h ta fun x h1=>EV s h1 tb fun y h2=>∃ i j z,x = imd K (iDT i)/\y = imd K (iDT j)/\RV (g i j) z/\φ (.im z) h2):EV s h (tOp (rI0 g) ta tb) φ:=by
 intro B T σ vs H Q a k
 refine q B T σ vs H _ a fun x u h1 H1 q1 a1=>q1 B _ σ _ H1 _ a1 fun y v h2 H2 q2 a2=>?_
 obtain ⟨i,j,z,rfl,rfl,r,c⟩:=q2
 obtain ⟨e1,a3⟩:=top_int a2
 obtain ⟨e2,a4⟩:=top_int a3
 exact ⟨i,j,e2,e1,k _ _ h2 _ c (a4.pushI r)⟩
theorem ev_neg {g:Int->V} (q:EV s h ta fun x h1=>∃ i z,x = imd K (iDT i)/\RV (g i) z/\φ (.im z) h1):EV s h (tUn (rU g) ta) φ:=by
 intro B T σ vs H Q a k
 refine q B T σ vs H _ a fun x u h1 H1 q1 a1=>?_
 obtain ⟨i,z,rfl,r,c⟩:=q1
 obtain ⟨e1,a3⟩:=top_int a1
 exact ⟨i,e1,k _ _ h1 _ c (a3.pushI r)⟩
theorem dec_kI (i j:Int):decide (V.int i = V.int j) = decide (i = j):=by
 rw [Bool.eq_iff_iff,decide_eq_true_iff,decide_eq_true_iff]
 exact ⟨fun z=>by injection z,fun z=>by rw [z]⟩
theorem ev_eqI (q:EV s h ta fun x h1=>EV s h1 tb fun y h2=>∃ i j:Int,x = imd K (iDT i)/\y = imd K (iDT j)/\φ (.im (bv (decide (i = j)))) h2):EV s h (tOp rEq ta tb) φ:=by
 intro B T σ vs H Q a k
 refine q B T σ vs H _ a fun x u h1 H1 q1 a1=>q1 B _ σ _ H1 _ a1 fun y v h2 H2 q2 a2=>?_
 obtain ⟨i,j,rfl,rfl,c⟩:=q2
 obtain ⟨rfl,a3⟩:=top_int a2
 obtain ⟨rfl,a4⟩:=top_int a3
 refine ⟨rfl,?_⟩
 rw [dec_kI]
 exact k _ _ h2 _ c (a4.pushI fun G=>rfl)
theorem ev_neI (q:EV s h ta fun x h1=>EV s h1 tb fun y h2=>∃ i j:Int,x = imd K (iDT i)/\y = imd K (iDT j)/\φ (.im (bv (!decide (i = j)))) h2):EV s h (tOp rNe ta tb) φ:=by
 intro B T σ vs H Q a k
 refine q B T σ vs H _ a fun x u h1 H1 q1 a1=>q1 B _ σ _ H1 _ a1 fun y v h2 H2 q2 a2=>?_
 obtain ⟨i,j,rfl,rfl,c⟩:=q2
 obtain ⟨rfl,a3⟩:=top_int a2
 obtain ⟨rfl,a4⟩:=top_int a3
 refine ⟨rfl,?_⟩
 rw [dec_kI]
 exact k _ _ h2 _ c (a4.pushI fun G=>rfl)
theorem ev_tup {t:TA} (q:EA s h t fun xs h1=>∃ ds,AllD K xs ds/\xs.length <= sizeLine/\φ (imd K (.t ds)) h1):EV s h (tTup t) φ:=by
 intro B T σ vs H Q a k
 refine q B T σ vs H _ a fun xs us h1 H1 ⟨ds,al,z,c⟩ hl a1=>?_
 obtain ⟨m,rfl,R⟩:=a1
 obtain ⟨g1,R1⟩:=R.args hl
 refine ⟨by rw [hl]; exact z,fun p hp=>k _ _ h1 _ c ((R1.mv (Mv.new (o:=.tup us) R1.wf.s hp)).push ?_)⟩
 show DR K (upd m.G p (.tup us)) (.t ds) (.ref p)
 unfold DR
 exact ⟨p,us,rfl,SqT.of upd_same,DRs.same (Same.new (R1.wf.s.free hp)) (al.view g1)⟩
theorem ev_lst {t:TA} (q:EA s h t fun xs h1=>xs.length <= sizeLine/\Lst K h1 φ xs):EV s h (tLst t) φ:=by
 intro B T σ vs H Q a k
 refine q B T σ vs H _ a fun xs us h1 H1 ⟨z,c⟩ hl a1=>?_
 obtain ⟨m,rfl,R⟩:=a1
 obtain ⟨g1,R1⟩:=R.args hl
 refine ⟨by rw [hl]; exact z,fun p hp=>?_⟩
 obtain ⟨z,h',hz,a3⟩:=R1.newLst hp g1 c
 exact k z _ h' _ hz a3
theorem ep_no {Ψ:Option Int->SH->Prop} (q:Ψ none h):EP s h tNoPart Ψ:=fun B T σ vs H Q a k=>k none h H q a
theorem ep_part {Ψ:Option Int->SH->Prop} (q:EV s h te fun x h1=>∃ i,x = imd K (iDT i)/\Ψ (some i) h1):EP s h (tPart te) Ψ:=by
 intro B T σ vs H Q a k
 refine q B T σ vs H _ a fun x u h1 H1 ⟨i,e,q1⟩ a1=>?_
 subst e
 obtain ⟨e,a2⟩:=top_int a1
 exact ⟨i,e,k _ h1 H1 q1 a2⟩
theorem ev_len {t:TE} (q:EV s h t fun x h1=>∃ b xs,IsV K h1 x b xs/\φ (imd K (iDT xs.length)) h1):EV s h (tCB (rLen K) (tCons t tNil)) φ:=by
 intro B T σ vs H Q a k
 refine q B T σ vs H _ a fun x v h1 H1 ⟨b,xs,iv,c⟩ a1=>?_
 obtain ⟨m,rfl,R⟩:=a1
 obtain ⟨p,us,rfl,hd,g1,g2⟩:=iv.view R.wf R.top
 refine .inl ⟨p,us,rfl,?_,?_⟩
 ·cases b with
  | true=>exact .inl (SqL.of (g1 rfl))
  | false=>exact .inr (g2 rfl)
 ·rw [Paired.length hd]
  exact k _ _ h1 _ c (R.drop.push (rv_int (K:=K) m.G))
theorem ev_list {t:TE} (q:EV s h t fun x h1=>∃ b xs,IsV K h1 x b xs/\Lst K h1 φ xs):EV s h (tCB (rListA K) (tCons t tNil)) φ:=by
 intro B T σ vs H Q a k
 refine q B T σ vs H _ a fun x v h1 H1 ⟨b,xs,iv,c⟩ a1=>?_
 obtain ⟨m,rfl,R⟩:=a1
 obtain ⟨p,us,rfl,hd,g1,g2⟩:=iv.view R.wf R.top
 refine .inl ⟨p,us,rfl,?_,fun l hl=>?_⟩
 ·cases b with
  | true=>exact .inl (SqL.of (g1 rfl))
  | false=>exact .inr (g2 rfl)
 ·obtain ⟨z,h',hz,a4⟩:=R.drop.newLst hl hd c
  exact k z _ h' _ hz a4
theorem ev_isL (q:EV s h te fun x h1=>∃ xs,IsV K h1 x true xs/\φ (.im (bv true)) h1):EV s h (tCB (rIsi K) (tCons te (tCons (tC (.ty "list")) tNil))) φ:=by
 intro B T σ vs H Q a k
 refine q B T σ vs H _ a fun x u h1 H1 ⟨xs,iv,c⟩ a1=>?_
 obtain ⟨m,rfl,R⟩:=a1
 obtain ⟨p,us,rfl,hd,g1,g2⟩:=iv.view R.wf R.top
 exact ⟨_,"list",.type "list",true,rfl,.inr (.inr ⟨p,us,rfl,rfl,SqL.of (g1 rfl)⟩),rfl,k _ _ h1 _ c (R.drop.push rfl)⟩
theorem ev_isT (q:EV s h te fun x h1=>∃ xs,IsV K h1 x false xs/\φ (.im (bv true)) h1):EV s h (tCB (rIsi K) (tCons te (tCons (tC (.ty "tuple")) tNil))) φ:=by
 intro B T σ vs H Q a k
 refine q B T σ vs H _ a fun x u h1 H1 ⟨xs,iv,c⟩ a1=>?_
 obtain ⟨m,rfl,R⟩:=a1
 obtain ⟨p,us,rfl,hd,g1,g2⟩:=iv.view R.wf R.top
 exact ⟨_,"tuple",.type "tuple",true,rfl,.inr (.inl ⟨p,us,rfl,rfl,g2 rfl⟩),rfl,k _ _ h1 _ c (R.drop.push rfl)⟩
end
abbrev bas (m:Mp) (h:SH) (N:List (Nat × Addr)):Bs:=⟨m.G,m.H,m.P,fun a=>∃ n c,(n,c) ∈ h/\m.ad n = a,fun _=>False,N⟩
def Fin (m:Mp) (h:SH) (Q:VK) (φ:Sl->SH->Prop):Prop:=∀ r v h' m',φ r h'->Fr (bas m h (h.map fun p=>(p.1,m.ad p.1))) m' h'->Wf m' h'->Ok m' h' r v->Q v m'.H
def Cn (sp:Sp) (xs:List Sl) (h:SH) (φ:Sl->SH->Prop):Prop:=∀ us m Q E,(∀ n c,(n,c) ∈ h->1000 <= n)->Wf m h->Oks m h us xs->Fin m h Q φ->sp us m.H Q E
theorem Cn.imp {sp:Sp} {xs:List Sl} {h:SH} {φ φ':Sl->SH->Prop} (c:Cn sp xs h φ) (q:∀ r h',φ r h'->φ' r h'):Cn sp xs h φ':=fun us m Q E hn W o f=>c us m Q E hn W o fun r v h' m' hr=>f r v h' m' (q r h' hr)
def plain:Sl->Prop
 | .im _=>True
 | .pn=>True
 | _=>False
def Res (K:PySem.W.Frag) (h:SH) (φ:Sl->SH->Prop) (r:Sl) (h':SH):Prop:=(∃ a,r = .im a/\φ r h) ∨ ∃ n xs,r = .lc n/\h'.lookup n = some (.lst xs)/\(∀ x ∈ xs,plain x)/\Lst K h φ xs
theorem ok_plain {m m':Mp} {h h':SH} {x:Sl} {v:V} (hx:plain x) (hG:m'.G = m.G) (hH:m'.H = m.H) (hP:m'.P = m.P) (o:Ok m h x v):Ok m' h' x v:=by
 cases x with
 | no=>exact True.intro
 | im a=>show a.p m'.G v; rw [hG]; exact o
 | lc n=>exact hx.elim
 | pn=>obtain ⟨p,c,o,h1,h2,h3,h4⟩:=o; exact ⟨p,c,o,h1,by rw [hP]; exact h2,by rw [hG]; exact h3,by rw [hH]; exact h4⟩
theorem Wf.nil {m:Mp} {h:SH} (W:Wf m h):Wf m []:=⟨W.s,W.p,(fun _ _ e=>nomatch e),(fun _ _ _ _ e=>nomatch e),List.nodup_nil⟩
theorem oks_plain {m m':Mp} {h h':SH} (hG:m'.G = m.G) (hH:m'.H = m.H) (hP:m'.P = m.P):∀ {us:List V} {xs:List Sl},(∀ x ∈ xs,plain x)->Oks m h us xs->Oks m' h' us xs
 | _,_,_,.nil=>.nil
 | _,_,hx,.cons o r=>.cons (ok_plain (hx _ List.mem_cons_self) hG hH hP o) (oks_plain hG hH hP (fun x hx'=>hx x (List.mem_cons_of_mem _ hx')) r)
section
variable {K:PySem.W.Frag} {B:Bs} {s:List Sl} {h:SH} {T:List Sl} {σ:L2.St} {vs:List V} {φ:Sl->SH->Prop}
theorem Fr.mv0 {m m':Mp} {h h' h0:SH} {N:List (Nat × Addr)} {M:Addr->Prop} {R:Addr->Prop} (F:Fr ⟨m.G,m.H,m.P,M,R,N⟩ m' h') (W:Wf m' h') (hM:∀ a,¬ M a):Mv m h { m' with ad:=m.ad } h :=
 ⟨F.gg,W.s,fun a o e n=>F.hh a o e n (hM a),F.al,F.fr,F.pe,by funext a; exact propext (F.pp a).symm,fun _ _ _=>rfl,fun n c e=>⟨c,e⟩⟩
theorem call_core {sp:Sp} {H:Hp} {Q:VK} {E:XK} {xs:List Sl} {us:List V} (hp:∀ x ∈ xs,plain x) (c:Cn sp xs [] (Res K h φ)) (hl:us.length = xs.length) (a:A B s h (xs ++ T) σ (us ++ vs) H)
  (k:∀ x v h' H',φ x h'->A B s h' (x :: T) σ (v :: vs) H'->Q v H'):sp us H Q E:=by
 obtain ⟨m,rfl,R⟩:=a
 obtain ⟨g1,R1⟩:=R.args hl
 refine c us m Q E (fun _ _ e=>nomatch e) R1.wf.nil (oks_plain rfl rfl rfl hp g1) fun r v h' m' q F W o=>?_
 have nM:∀ a,¬ ∃ n c,(n,c) ∈ ([]:SH)/\m.ad n = a:=fun a ⟨_,_,e,_⟩=>nomatch e
 have M:Mv m h { m' with ad:=m.ad } h:=Fr.mv0 (h0:=[]) F W nM
 rcases q with ⟨x,rfl,q⟩ | ⟨n,ys,rfl,lk,hy,q⟩
 ·exact k _ _ h _ q ((R1.mv M).push o)
 ·obtain ⟨_,rfl⟩:=o
  obtain ⟨gn,_,ws,e,os⟩:=W.c _ _ (look_mem lk)
  have fr:m.H (m'.ad n) = none:=by
   rcases F.ow _ _ (look_mem lk) with z | z | z
   ·exact z
   ·exact absurd z (nM _)
   ·exact z.elim
  obtain ⟨x,h2,hx,a2⟩:=R1.adopt M fr gn e (oks_plain (m:=m') (m':={ m' with ad:=m.ad }) rfl rfl rfl hy os) q
  exact k x _ h2 _ hx a2
theorem ev_call {sp:Sp} {t:TA} (q:EA s h t fun xs h1=>(∀ x ∈ xs,plain x)/\Cn sp xs [] (Res K h1 φ)):EV s h (tCall sp [] E0 t) φ:=by
 intro B T σ vs H Q a k
 refine q B T σ vs H _ a fun xs us h1 H1 ⟨hp,c⟩ hl a1=>?_
 rw [List.append_nil]
 exact call_core hp c hl a1 k
def Inst (C:Addr) (m:Str) (x:AV):Prop:=∀ G v,x.p G v->∃ a dx fs,v = .ref a/\G a = some (.ins C dx fs)/\fs.lookup m = none
theorem ev_meth {C:Addr} {mt:Str} {sp:Sp} {t:TA} {te:TE} (q:EV s h te fun x h1=>∃ a,x = .im a/\Inst C mt a/\EA s h1 t fun xs h2=>(∀ x ∈ xs,plain x)/\Cn sp (.im a :: xs) [] (Res K h2 φ)):EV s h (tMeth C mt sp [] E0 te t) φ:=by
 intro B T σ vs H Q a k
 refine q B T σ vs H _ a fun x v h1 H1 ⟨av,e,hi,q1⟩ a1=>?_
 subst e
 obtain ⟨m,rfl,R⟩:=a1
 obtain ⟨ad,dx,fs,rfl,g1,g2⟩:=hi m.G v R.top
 refine ⟨ad,dx,fs,rfl,R.wf.s _ _ g1,g2,q1 B _ σ _ _ _ ⟨m,rfl,R⟩ fun xs us h2 H2 ⟨hp,c⟩ hl a2=>?_⟩
 rw [List.append_nil]
 have a3:A B s h2 ((.im av :: xs) ++ T) σ ((.ref ad :: us) ++ vs) H2:=by
  obtain ⟨m,e,R⟩:=a2
  refine ⟨m,e,R.fr,R.wf,R.len,R.sl,?_⟩
  obtain ⟨p1,p2⟩:=Paired.cut hl R.tm
  cases p2 with
  | cons q1 q2=>exact .cons q1 (Paired.app p1 q2)
 exact call_core (xs:=.im av :: xs) (fun x hx=>by rcases List.mem_cons.mp hx with e | e; subst e; exact True.intro; exact hp x e) c (by simp [hl]) a3 k
end
def EG (s:List Sl) (h:SH) (x:Sl) (g:TG) (Ψ:List Sl->SH->Prop):Prop:=∀ B T σ vs v H Q,A B s h (x :: T) σ (v :: vs) H->(∀ s' σ' h' H',Ψ s' h'->A B s' h' T σ' vs H'->Q σ' H')->g v σ H Q
section
variable {K:PySem.W.Frag} {s:List Sl} {h:SH} {Ψ:List Sl->SH->Prop}
theorem eg_name {x:Sl} {i:Nat} (q:Ψ (s.set i x) h):EG s h x (gName i) Ψ:=by
 intro B T σ vs v H Q a k
 obtain ⟨m,e,R⟩:=a
 refine k _ _ h H q ⟨m,e,R.drop.fr,R.drop.wf,by rw [List.length_set,List.length_set]; exact R.len,fun j y hj=>?_,R.drop.tm⟩
 rw [List.getElem?_set] at hj
 by_cases z:i = j
 ·subst z
  rw [if_pos rfl] at hj
  by_cases l:i < s.length
  ·rw [if_pos l] at hj
   cases hj
   refine .inr ⟨v,?_,R.top⟩
   rw [List.getElem?_set,if_pos rfl,if_pos (by rw [<- R.len]; exact l)]
  ·rw [if_neg l] at hj; cases hj
 ·rw [if_neg z] at hj
  refine (R.sl j y hj).imp id fun ⟨w,e,o⟩=>⟨w,?_,o⟩
  rw [List.getElem?_set,if_neg z]; exact e
end
structure Src (G:Hp) (J:It) (n:Nat) (el:Nat->AV):Prop where
 go:∀ i G2 H2,i < n->Same G G2->Same G2 H2->J.go i H2
 st:∀ G2 H2,Same G G2->Same G2 H2->J.stop n H2
 yl:∀ i (m:Mp) (h:SH) x H3,i < n->Same G m.G->Same m.G m.H->J.yld i m.H x H3->∃ m3:Mp,m3.H = H3/\Mv m h m3 h/\(el i).p m3.G x
theorem Src.mono {G G':Hp} {J:It} {n:Nat} {el:Nat->AV} (S:Same G G') (h:Src G J n el):Src G' J n el:=⟨fun i G2 H2 hi s=>h.go i G2 H2 hi (S.trans s),fun G2 H2 s=>h.st G2 H2 (S.trans s),fun i m hh x H3 hi s=>h.yl i m hh x H3 hi (S.trans s)⟩
def srcV (J:It) (n:Nat) (el:Nat->AV):AV:=⟨fun G _=>Src G J n el,fun S h=>h.mono S⟩
def EI (s:List Sl) (h:SH) (wi:L2.TI) (Θ:Nat->(Nat->AV)->SH->Prop):Prop:=∀ B T σ vs H R,A B s h T σ vs H->(∀ n el J h1 m,Θ n el h1->Rw B s h1 T σ vs m->Src m.G J n el->R J m.H)->wi σ H R
def elI (as:List AV) (i:Nat):AV:=as.getD i nv
section
variable {K:PySem.W.Frag} {s:List Sl} {h:SH} {φ:Sl->SH->Prop} {Θ:Nat->(Nat->AV)->SH->Prop} {te:TE}
inductive IsF (K:PySem.W.Frag):AV->Bool->List AV->Prop
 | s {ds:List DT}:IsF K (dv K (.s ds)) true (ds.map (dv K))
 | t {ds:List DT}:IsF K (dv K (.t ds)) false (ds.map (dv K))
 | v {as:List AV}:IsF K (lv as) true as
 | w {as:List AV}:IsF K (tv as) false as
theorem drs_i {G:Hp} {ds:List DT} {us:List V} (q:DRs K G ds us):Paired (fun v (x:AV)=>x.p G v) us (ds.map (dv K)):=by
 induction ds generalizing us with
 | nil=>unfold DRs at q; subst q; exact .nil
 | cons d ds ih=>unfold DRs at q; obtain ⟨v,us,rfl,q1,q2⟩:=q; exact .cons q1 (ih q2)
theorem IsF.view {a:AV} {b:Bool} {as:List AV} (q:IsF K a b as) {G:Hp} {v:V} (o:a.p G v):∃ p us,v = .ref p/\Paired (fun v (x:AV)=>x.p G v) us as/\(b = true->G p = some (.lst us))/\(b = false->SqT K G p us):=by
 cases q with
 | @s ds =>
  have o':DR K G (.s ds) v:=o
  unfold DR at o'
  obtain ⟨a,us,e,h1,h2⟩:=o'
  exact ⟨a,us,e,drs_i h2,fun _=>h1,nofun⟩
 | @t ds =>
  have o':DR K G (.t ds) v:=o
  unfold DR at o'
  obtain ⟨a,us,e,h1,h2⟩:=o'
  exact ⟨a,us,e,drs_i h2,nofun,fun _=>h1⟩
 | v=>obtain ⟨a,us,e,h1,h2⟩:=o; exact ⟨a,us,e,h2,fun _=>h1,nofun⟩
 | w=>obtain ⟨a,us,e,h1,h2⟩:=o; exact ⟨a,us,e,h2,nofun,fun _=>SqT.of h1⟩
theorem el_at {G:Hp} {us:List V} {as:List AV} (r:Paired (fun v (x:AV)=>x.p G v) us as) {i:Nat} {x:V} (e:us[i]? = some x):(elI as i).p G x:=by
 obtain ⟨d,hd,hr⟩:=Paired.getL r e
 unfold elI
 rw [List.getD_eq_getElem?_getD,hd]
 exact hr
theorem ei_list (q:EV s h te fun x h1=>∃ a as,x = .im a/\IsF K a true as/\Θ as.length (elI as) h1):EI s h (iList K te) Θ:=by
 intro B T σ vs H R a k
 refine q B T σ vs H _ a fun x v h1 H1 ⟨a,as,e,f,q1⟩ a1=>?_
 subst e
 obtain ⟨m,rfl,R1⟩:=a1
 obtain ⟨b,us,rfl,hr,g1,_⟩:=f.view R1.top
 have gl:=g1 rfl
 have hlen:=Paired.length hr
 refine ⟨b,rfl,⟨_,SqL.of (R1.wf.s _ _ gl)⟩,k _ _ _ h1 m q1 R1.drop ⟨fun i G2 H2 hi s1 s2=>?_,fun G2 H2 s1 s2=>?_,fun i m2 hh x H3 hi s1 s2 y=>?_⟩⟩
 ·have:i < us.length:=by rw [hlen]; exact hi
  exact ⟨us,us[i],SqL.of (s2 _ _ (s1 _ _ gl)),by simp [this]⟩
 ·exact ⟨us,SqL.of (s2 _ _ (s1 _ _ gl)),by rw [hlen]; exact Nat.le_refl _⟩
 ·obtain ⟨rfl,y⟩:=y
  exact ⟨m2,rfl,.refl s2,(elI as i).mono s1 (el_at hr (y us (SqL.of (s2 _ _ (s1 _ _ gl)))))⟩
end
theorem small7 {n:Nat} (h:n <= 1000000):n < sizeLine:=Nat.lt_of_le_of_lt h (by decide)
section
variable {K:PySem.W.Frag} {s:List Sl} {h:SH} {φ:Sl->SH->Prop} {ψ:Bool->SH->Prop} {te:TE}
end
structure AE where
 nx:List Sl->SH->Prop
 rt:Sl->SH->Prop
 bk:List Sl->SH->Prop:=fun _ _=>False
 ct:List Sl->SH->Prop:=fun _ _=>False
structure Le (De:Ends) (D:AE) (B:Bs) (T:List AV) (vs:List V):Prop where
 nx:∀ s h σ H,D.nx s h->A B s h (T.map .im) σ vs H->De.nx σ H
 rt:∀ x h v H,D.rt x h->A B [] h [x] [] [v] H->De.rt v H
 bk:∀ s h σ H,D.bk s h->A B s h (T.map .im) σ vs H->De.bk σ H
 ct:∀ s h σ H,D.ct s h->A B s h (T.map .im) σ vs H->De.ct σ H
def SS (s:List Sl) (h:SH) (t:TS) (D:AE):Prop:=∀ B (T:List AV) σ vs H De,(∀ a,¬ B.R a)->A B s h (T.map .im) σ vs H->Le De D B T vs->t De σ H
def Wk (s s':List Sl):Prop:=s'.length = s.length/\∀ (i:Nat) x,s'[i]? = some x->x = .no ∨ s[i]? = some x
theorem Wk.refl (s:List Sl):Wk s s:=⟨rfl,fun _ _ h=>.inr h⟩
theorem Wk.cons {x:Sl} {s s':List Sl} (h:Wk s s'):Wk (x :: s) (x :: s'):=⟨by simp [h.1],fun i y e=>by
 cases i with
 | zero=>exact .inr e
 | succ i=>exact h.2 i y e⟩
theorem Wk.no {x:Sl} {s s':List Sl} (h:Wk s s'):Wk (x :: s) (.no :: s'):=⟨by simp [h.1],fun i y e=>by
 cases i with
 | zero=>exact .inl (Option.some.inj e).symm
 | succ i=>exact h.2 i y e⟩
def hasN (h:SH):Sl->Bool
 | .lc n=>(h.map (·.1)).contains n
 | _=>true
def ceN (h:SH):Ce->Bool
 | .lst xs=>xs.all (hasN h)
 | .dk kvs=>kvs.all fun p=>hasN h p.2
 | .dt kvs=>kvs.all fun p=>hasN h p.2
 | .ins _ fs=>fs.all fun p=>hasN h p.2
 | .fk _ _ kvs=>kvs.all fun p=>hasN h p.2
structure Fg (s:List Sl) (h h':SH):Prop where
 sub:h'.Sublist h
 sl:s.all (hasN h') = true
 ce:(h'.all fun p=>ceN h' p.2) = true
 lo:∀ n c,(n,c) ∈ h->1000 <= n->(n,c) ∈ h'
theorem hasN_ok {m:Mp} {h h':SH} {x:Sl} {v:V} (hx:hasN h' x = true) (o:Ok m h x v):Ok m h' x v:=by
 cases x with
 | no=>exact True.intro
 | im a=>exact o
 | pn=>exact o
 | lc n =>
  refine ⟨?_,o.2⟩
  have:n ∈ h'.map (·.1):=List.contains_iff_mem.mp hx
  obtain ⟨⟨k,c⟩,e,ek⟩:=List.mem_map.mp this
  have:k = n:=ek
  subst this
  exact ⟨c,e⟩
theorem oks_hasN {m:Mp} {h h':SH}:∀ {vs:List V} {xs:List Sl},xs.all (hasN h') = true->Oks m h vs xs->Oks m h' vs xs
 | _,_,_,.nil=>.nil
 | _,_,hx,.cons o r=>by
  rw [List.all_cons,Bool.and_eq_true] at hx
  exact .cons (hasN_ok hx.1 o) (oks_hasN hx.2 r)
theorem ceN_ok {m:Mp} {h h':SH} {a:Addr} {c:Ce} (hx:ceN h' c = true) (o:CeOk m h a c):CeOk m h' a c:=by
 cases c with
 | lst xs=>obtain ⟨vs,e,r⟩:=o; exact ⟨vs,e,oks_hasN hx r⟩
 | dk xs=>obtain ⟨vs,e,r⟩:=o; exact ⟨vs,e,oks_hasN (by rw [List.all_map]; exact hx) r⟩
 | dt xs=>obtain ⟨vs,e,r⟩:=o; exact ⟨vs,e,oks_hasN (by rw [List.all_map]; exact hx) r⟩
 | ins C fs=>obtain ⟨dx,vs,e,r⟩:=o; exact ⟨dx,vs,e,oks_hasN (by rw [List.all_map]; exact hx) r⟩
 | fk ob l xs =>
  refine ⟨o.1,?_⟩
  have key:∀ {l:List (Key × V)} {xs:List (Key × Sl)},Paired (fun (p:Key × V) (q:Key × Sl)=>p.1 = q.1/\Ok m h q.2 p.2) l xs->(xs.all fun p=>hasN h' p.2) = true->Paired (fun (p:Key × V) (q:Key × Sl)=>p.1 = q.1/\Ok m h' q.2 p.2) l xs:=by
   intro l xs q
   induction q with
   | nil=>exact fun _=>.nil
   | cons h1 _ ih =>
    intro z
    rw [List.all_cons,Bool.and_eq_true] at z
    exact .cons ⟨h1.1,hasN_ok z.1 h1.2⟩ (ih z.2)
  exact key o.2 hx
theorem A.wk {B:Bs} {s s':List Sl} {h:SH} {T:List Sl} {σ:L2.St} {vs:List V} {H:Hp} (a:A B s h T σ vs H) (w:Wk s s'):A B s' h T σ vs H:=by
 obtain ⟨m,e,R⟩:=a
 refine ⟨m,e,R.fr,R.wf,by rw [w.1]; exact R.len,fun i x h=>?_,R.tm⟩
 rcases w.2 i x h with e | e
 ·exact .inl e
 ·exact R.sl i x e
theorem tm_im {m:Mp} {h h':SH}:∀ {T:List AV} {vs:List V},Oks m h vs (T.map .im)->Oks m h' vs (T.map .im)
 | [],_,q=>by cases q; exact .nil
 | _ :: _,_,q=>by cases q with | cons q1 q2=>exact .cons q1 (tm_im q2)
theorem A.fg {B:Bs} {s:List Sl} {h h':SH} {T:List AV} {σ:L2.St} {vs:List V} {H:Hp} (a:A B s h (T.map .im) σ vs H) (f:Fg s h h'):A B s h' (T.map .im) σ vs H:=by
 obtain ⟨m,e,R⟩:=a
 have sub:∀ n c,(n,c) ∈ h'->(n,c) ∈ h:=fun n c e=>f.sub.subset e
 refine ⟨m,e,⟨R.fr.gg,R.fr.hh,R.fr.al,R.fr.fr,R.fr.pe,R.fr.pp,fun n c e=>R.fr.ow n c (sub n c e),fun n a e=>?_⟩,⟨R.wf.s,R.wf.p,fun n c e=>?_,fun n c n' c' e e'=>R.wf.i n c n' c' (sub n c e) (sub n' c' e'),R.wf.u.sublist (f.sub.map _)⟩,R.len,fun i x hx=>(R.sl i x hx).imp id fun ⟨v,e,o⟩=>⟨v,e,hasN_ok (List.all_eq_true.mp f.sl x (List.mem_of_getElem? hx)) o⟩,tm_im R.tm⟩
 ·obtain ⟨h1,h2,c,h3⟩:=R.fr.nd n a e
  exact ⟨h1,h2,c,f.lo n c h3 h1⟩
 ·obtain ⟨h1,h2,h3⟩:=R.wf.c n c (sub n c e)
  exact ⟨h1,h2,ceN_ok (List.all_eq_true.mp f.ce (n,c) e) h3⟩
theorem A.only {B:Bs} {s:List Sl} {h:SH} {T:List Sl} {σ:L2.St} {vs:List V} {H:Hp} {x:Sl} {v:V} (a:A B s h (x :: T) σ (v :: vs) H):A B [] h [x] [] [v] H:=by
 obtain ⟨m,e,R⟩:=a
 exact ⟨m,e,R.fr,R.wf,rfl,fun i x h=>by simp at h,.cons R.top .nil⟩
def Wf2 (s:List Sl) (h:SH) (I:List Sl->SH->Prop):Prop:=∃ s' h',Wk s s'/\Fg s' h h'/\I s' h'
theorem A.wf2 {B:Bs} {s:List Sl} {h:SH} {T:List AV} {σ:L2.St} {vs:List V} {H:Hp} {I:List Sl->SH->Prop} (a:A B s h (T.map .im) σ vs H) (w:Wf2 s h I):∃ s' h',I s' h'/\A B s' h' (T.map .im) σ vs H:=by
 obtain ⟨s',h',w1,w2,i⟩:=w
 exact ⟨s',h',i,(a.wk w1).fg w2⟩
section
variable {K:PySem.W.Frag} {s:List Sl} {h:SH} {D:AE} {te:TE} {t u:TS}
theorem ss_seq (q:SS s h t { D with nx:=fun s' h'=>SS s' h' u D }):SS s h (tSeq t u) D:=fun B T σ vs H De r a l=>q B T σ vs H _ r a ⟨fun s' h' σ' H' q' a'=>q' B T σ' vs H' De r a' l,l.rt,l.bk,l.ct⟩
theorem ss_nx (q:D.nx s h):SS s h tNext D:=fun B T σ vs H De r a l=>l.nx s h σ H q a
theorem ss_ret (q:EV s h te D.rt):SS s h (tRet te) D:=fun B T σ vs H De r a l=>q B _ σ vs H _ a fun x v h1 H1 q1 a1=>l.rt x h1 v H1 q1 a1.only
theorem ss_asg {g:TG} (q:EV s h te fun x h1=>EG s h1 x g D.nx):SS s h (tAsg te g) D:=fun B T σ vs H De r a l=>q B _ σ vs H _ a fun x v h1 H1 q1 a1=>q1 B _ σ vs v H1 _ a1 fun s' σ' h' H' q' a'=>l.nx s' h' σ' H' q' a'
theorem ss_if {c:TT} (q:ET s h c fun b h1=>if b = true then SS s h1 t D else SS s h1 u D):SS s h (tIfS c t u) D:=by
 intro B T σ vs H De r a l
 refine q B _ σ vs H _ a fun b h1 H1 q1 a1=>?_
 cases b with
 | true=>exact iteT ((if_pos rfl).mp q1 B T σ vs H1 De r a1 l)
 | false=>exact iteF ((if_neg nofun).mp q1 B T σ vs H1 De r a1 l)
theorem ss_for {wi:L2.TI} {g:TG} {tb:TS} (q:EI s h wi fun n el h1=>∃ I:Nat->List Sl->SH->Prop,Wf2 s h1 (I 0) /\
  (∀ i s' h',i < n->I i s' h'->EG s' h' (.im (el i)) g fun s2 h2=>SS s2 h2 tb { D with nx:=fun s3 h3=>Wf2 s3 h3 (I (i + 1)),ct:=fun s3 h3=>Wf2 s3 h3 (I (i + 1)),bk:=D.nx })/\∀ s' h',I n s' h'->D.nx s' h'):SS s h (tFor wi g tb) D:=by
 intro B T σ vs H De r a l
 refine q B _ σ vs H _ a fun n el J h1 m ⟨I,w0,st,fin⟩ R S=>?_
 obtain ⟨s0,h0,i0,a0⟩:=A.wf2 (T:=srcV J n el :: T) (R.push (x:=.im (srcV J n el)) (v:=.non) S) w0
 refine ⟨fun i m σ' H'=>m = n - i/\i <= n/\∃ s' h',I i s' h'/\A B s' h' ((srcV J n el :: T).map .im) σ' (.non :: vs) H',⟨n,by simp,Nat.zero_le _,s0,h0,i0,a0⟩,?_⟩
 rintro i k σ' H' ⟨rfl,hi,s',h',hI,m2,rfl,R2⟩
 have S2:Src m2.G J n el:=R2.top
 by_cases hlt:i < n
 ·refine .inr ⟨S2.go i m2.G m2.H hlt (.refl _) R2.wf.s,fun σ3 H3=>∃ s3 h3,I (i + 1) s3 h3/\A B s3 h3 ((srcV J n el :: T).map .im) σ3 (.non :: vs) H3,fun σ3 H3 ⟨s3,h3,i3,a3⟩=>⟨n - (i + 1),by omega,rfl,hlt,s3,h3,i3,a3⟩,fun x H3 y=>?_⟩
  obtain ⟨m3,rfl,M3,hx⟩:=S2.yl i m2 h' x H3 hlt (.refl _) R2.wf.s y
  refine st i s' h' hlt hI B _ σ' _ x _ _ ((R2.mv M3).push hx) fun s2 σ2 h2 H2 q2 a2=>q2 B (srcV J n el :: T) σ2 _ H2 _ r a2 ⟨fun s4 h4 σ4 H4 w5 a4=>a4.wf2 w5,l.rt,fun s4 h4 σ4 H4 q4 a4=>l.nx s4 h4 σ4 H4 q4 a4.drop,fun s4 h4 σ4 H4 w5 a4=>a4.wf2 w5⟩
 ·have e:i = n:=by omega
  subst e
  exact .inl ⟨S2.st m2.G m2.H (.refl _) R2.wf.s,l.nx s' h' σ' _ (fin s' h' hI) (A.drop ⟨m2,rfl,R2⟩)⟩
theorem ss_while {c:TT} {tb:TS} (I:Nat->List Sl->SH->Prop) (h0:∃ m,Wf2 s h (I m))
  (st:∀ m s' h',I m s' h'->ET s' h' c fun b h1=>if b = true then SS s' h1 tb { D with nx:=fun s3 h3=>∃ m',m' < m/\Wf2 s3 h3 (I m'),ct:=fun s3 h3=>∃ m',m' < m/\Wf2 s3 h3 (I m'),bk:=D.nx } else D.nx s' h1):SS s h (tWhile c tb) D:=by
 intro B T σ vs H De r a l
 obtain ⟨m0,w0⟩:=h0
 obtain ⟨s0,hh0,i0,a0⟩:=a.wf2 w0
 refine ⟨fun m σ' H'=>∃ s' h',I m s' h'/\A B s' h' (T.map .im) σ' vs H',⟨m0,s0,hh0,i0,a0⟩,?_⟩
 rintro m σ' H' ⟨s',h',hI,a'⟩
 refine st m s' h' hI B _ σ' vs H' _ a' fun b h1 H1 q1 a1=>?_
 cases b with
 | true =>
  refine iteT ⟨fun σ3 H3=>∃ m',m' < m/\∃ s3 h3,I m' s3 h3/\A B s3 h3 (T.map .im) σ3 vs H3,fun σ3 H3 z=>z,?_⟩
  exact (if_pos rfl).mp q1 B T σ' vs H1 _ r a1 ⟨fun s4 h4 σ4 H4 ⟨m',hm,w5⟩ a4=>⟨m',hm,a4.wf2 w5⟩,l.rt,fun s4 h4 σ4 H4 q4 a4=>l.nx s4 h4 σ4 H4 q4 a4,fun s4 h4 σ4 H4 ⟨m',hm,w5⟩ a4=>⟨m',hm,a4.wf2 w5⟩⟩
 | false=>exact iteF (l.nx s' h1 σ' H1 ((if_neg nofun).mp q1) a1)
end
def hset (h:SH) (n:Nat) (c:Ce):SH:=h.map fun p=>if p.1 = n then (n,c) else p
theorem hset_names (h:SH) (n:Nat) (c:Ce):(hset h n c).map (·.1) = h.map (·.1):=by
 unfold hset
 rw [List.map_map]
 apply List.map_congr_left
 intro p _
 show (if p.1 = n then (n,c) else p).1 = p.1
 by_cases z:p.1 = n
 ·rw [if_pos z]; exact z.symm
 ·rw [if_neg z]
theorem mem_hset {h:SH} {n:Nat} {c:Ce} {k:Nat} {ck:Ce} (e:(k,ck) ∈ hset h n c):(k = n/\ck = c/\∃ c0,(n,c0) ∈ h) ∨ (k ≠ n/\(k,ck) ∈ h):=by
 unfold hset at e
 obtain ⟨⟨k',c'⟩,e1,e2⟩:=List.mem_map.mp e
 by_cases z:k' = n
 ·rw [if_pos z] at e2
  cases e2
  exact .inl ⟨rfl,rfl,c',by rw [<- z]; exact e1⟩
 ·rw [if_neg z] at e2
  cases e2
  exact .inr ⟨z,e1⟩
theorem name_hset {h:SH} {n:Nat} {c:Ce} {k:Nat} {ck:Ce} (e:(k,ck) ∈ h):∃ c',(k,c') ∈ hset h n c:=by
 have:k ∈ (hset h n c).map (·.1):=by rw [hset_names]; exact List.mem_map.mpr ⟨_,e,rfl⟩
 obtain ⟨⟨k',c'⟩,e1,e2⟩:=List.mem_map.mp this
 have:k' = k:=e2
 subst this
 exact ⟨c',e1⟩
theorem Rw.setW {B:Bs} {s:List Sl} {h:SH} {T:List Sl} {σ:L2.St} {vs:List V} {m:Mp} (R:Rw B s h T σ vs m) {n:Nat} {c0 c:Ce} {o:HO} (bn0:∀ b u,B.H b = some u->¬ B.M b->b ≠ m.ad n) (hn:(n,c0) ∈ h) (hc:CeOk { m with H:=upd m.H (m.ad n) o } (hset h n c) (m.ad n) c):Rw B s (hset h n c) T σ vs { m with H:=upd m.H (m.ad n) o }:=by
 obtain ⟨gn,pn,cn⟩:=R.wf.c n c0 hn
 have al:∀ b,m.H b ≠ none->upd m.H (m.ad n) o b ≠ none:=fun b e=>by
  by_cases z:b = m.ad n
  ·rw [z,upd_same]; exact nofun
  ·rw [upd_ne z]; exact e
 have np:∀ {b},m.P b->b ≠ m.ad n:=fun e z=>pn (by rw [<- z]; exact e)
 have ng:∀ {b u},m.G b = some u->b ≠ m.ad n:=fun e z=>by rw [z,gn] at e; cases e
 have up:∀ {x v},Ok m h x v->Ok { m with H:=upd m.H (m.ad n) o } (hset h n c) x v:=fun {x v} q=>by
  cases x with
  | no=>exact True.intro
  | im a=>exact q
  | lc k=>obtain ⟨⟨ck,e⟩,e2⟩:=q; exact ⟨name_hset e,e2⟩
  | pn=>obtain ⟨p,d,u,h1,h2,h3,h4⟩:=q; exact ⟨p,d,u,h1,h2,h3,h4.upd (np h2) (ng h3)⟩
 have ups:∀ {us xs},Oks m h us xs->Oks { m with H:=upd m.H (m.ad n) o } (hset h n c) us xs:=fun q=>Paired.mapP q fun v x r=>up r
 have bn:∀ b u,B.H b = some u->¬ B.P b->¬ B.M b->b ≠ m.ad n:=fun b u e _ nm=>bn0 b u e nm
 refine ⟨⟨R.fr.gg,fun b u e n1 n2=>?_,fun b e=>al b (R.fr.al b e),R.fr.fr,fun p d u hp hd e=>(R.fr.pe p d u hp hd e).upd (np ((R.fr.pp p).mp hp)) (ng (R.fr.gg _ _ hd)),R.fr.pp,fun k ck e=>?_,fun k a e=>?_⟩,⟨fun b u e=>?_,fun b e=>⟨(R.wf.p b e).1,al b (R.wf.p b e).2⟩,fun k ck e=>?_,fun k ck k' ck' e e' z=>?_,by rw [hset_names]; exact R.wf.u⟩,R.len,fun i x e=>(R.sl i x e).imp id fun ⟨v,e,q⟩=>⟨v,e,up q⟩,ups R.tm⟩
 ·show upd m.H (m.ad n) o b = some u
  rw [upd_ne (bn b u e n1 n2)]; exact R.fr.hh b u e n1 n2
 ·rcases mem_hset e with ⟨rfl,rfl,_⟩ | ⟨_,e⟩
  ·exact R.fr.ow _ c0 hn
  ·exact R.fr.ow k ck e
 ·obtain ⟨h1,h2,ck,h3⟩:=R.fr.nd k a e
  exact ⟨h1,h2,name_hset h3⟩
 ·show upd m.H (m.ad n) o b = some u
  rw [upd_ne (ng e)]; exact R.wf.s b u e
 ·rcases mem_hset e with ⟨rfl,rfl,_⟩ | ⟨zn,e⟩
  ·exact ⟨gn,pn,hc⟩
  ·obtain ⟨h1,h2,h3⟩:=R.wf.c k ck e
   have ne:m.ad k ≠ m.ad n:=fun z=>zn (R.wf.i k ck n c0 e hn z)
   refine ⟨h1,h2,?_⟩
   cases ck with
   | lst xs=>obtain ⟨ws,e1,e2⟩:=h3; exact ⟨ws,by show upd m.H (m.ad n) o (m.ad k) = _; rw [upd_ne ne]; exact e1,ups e2⟩
   | dk xs=>obtain ⟨ws,e1,e2⟩:=h3; exact ⟨ws,by show upd m.H (m.ad n) o (m.ad k) = _; rw [upd_ne ne]; exact e1,ups e2⟩
   | dt xs=>obtain ⟨ws,e1,e2⟩:=h3; exact ⟨ws,by show upd m.H (m.ad n) o (m.ad k) = _; rw [upd_ne ne]; exact e1,ups e2⟩
   | ins C fs=>obtain ⟨dx,ws,e1,e2⟩:=h3; exact ⟨dx,ws,by show upd m.H (m.ad n) o (m.ad k) = _; rw [upd_ne ne]; exact e1,ups e2⟩
   | fk ob l xs=>obtain ⟨e1,e2⟩:=h3; exact ⟨by show upd m.H (m.ad n) o (m.ad k) = _; rw [upd_ne ne]; exact e1,Paired.mapP e2 fun p q r=>⟨r.1,up r.2⟩⟩
 ·have nm:∀ {k ck},(k,ck) ∈ hset h n c->∃ ck',(k,ck') ∈ h:=fun {k ck} e=>by
   rcases mem_hset e with ⟨rfl,_,e⟩ | ⟨_,e⟩
   ·exact e
   ·exact ⟨_,e⟩
  obtain ⟨_,h1⟩:=nm e
  obtain ⟨_,h2⟩:=nm e'
  exact R.wf.i k _ k' _ h1 h2 z
theorem Rw.set {B:Bs} {s:List Sl} {h:SH} {T:List Sl} {σ:L2.St} {vs:List V} {m:Mp} (R:Rw B s h T σ vs m) (r:∀ a,¬ B.R a) {n:Nat} {c0 c:Ce} {o:HO} (hn:(n,c0) ∈ h) (hc:CeOk { m with H:=upd m.H (m.ad n) o } (hset h n c) (m.ad n) c):Rw B s (hset h n c) T σ vs { m with H:=upd m.H (m.ad n) o } :=
 R.setW (fun b u e nm z=>by
  rcases R.fr.ow n c0 hn with q | q | q
  ·rw [z,q] at e; cases e
  ·exact nm (by rw [z]; exact q)
  ·exact r _ q) hn hc
section
variable {K:PySem.W.Frag} {s:List Sl} {h:SH} {D:AE} {te:TE} {t u:TS} {i n:Nat}
theorem slot_lc {B:Bs} {T:List Sl} {σ:L2.St} {vs:List V} {m:Mp} (R:Rw B s h T σ vs m) (e:s[i]? = some (.lc n)):σ[i]? = some (some (.ref (m.ad n))):=by
 rcases R.sl i _ e with z | ⟨v,e,_,rfl⟩
 ·cases z
 ·exact e
theorem cell_lst {m:Mp} {xs:List Sl} (W:Wf m h) (e:h.lookup n = some (.lst xs)):∃ us,m.H (m.ad n) = some (.lst us)/\Oks m h us xs:=(W.c _ _ (look_mem e)).2.2
theorem oks_set {m:Mp} {o:HO} {c0 c:Ce} {us:List V} {xs:List Sl} (W:Wf m h) (hn:(n,c0) ∈ h) (q:Oks m h us xs):Oks { m with H:=upd m.H (m.ad n) o } (hset h n c) us xs:=by
 obtain ⟨gn,pn,_⟩:=W.c n c0 hn
 refine Paired.mapP q fun v x q=>?_
 cases x with
 | no=>exact True.intro
 | im a=>exact q
 | lc k=>obtain ⟨⟨ck,e⟩,e2⟩:=q; exact ⟨name_hset e,e2⟩
 | pn=>obtain ⟨p,d,u,h1,h2,h3,h4⟩:=q; exact ⟨p,d,u,h1,h2,h3,h4.upd (fun z=>pn (by rw [<- z]; exact h2)) (fun z=>by rw [z,gn] at h3; cases h3)⟩
theorem ss_app (hi:s[i]? = some (.lc n)) (h0:∃ xs,h.lookup n = some (.lst xs)) (q:EV s h te fun y h1=>∃ xs,h1.lookup n = some (.lst xs)/\xs.length <= 1000000/\D.nx s (hset h1 n (.lst (xs ++ [y])))):SS s h (tDrop (tBM K "list" rAppend (tVar i) (tCons te tNil))) D:=by
 intro B T σ vs H De r a l
 obtain ⟨xs0,lk0⟩:=h0
 obtain ⟨m,rfl,R⟩:=a
 have hv:=slot_lc R hi
 obtain ⟨us0,e0,_⟩:=cell_lst R.wf lk0
 refine ⟨_,hv,.inl ⟨rfl,us0,SqL.of e0⟩,q B _ σ vs _ _ ⟨m,rfl,R⟩ fun y w h1 H1 ⟨xs,lk,hz,hn⟩ a1=>?_⟩
 obtain ⟨m1,rfl,R1⟩:=a1
 have hv1:=slot_lc R1 hi
 rw [hv] at hv1
 injection hv1 with hv1
 injection hv1 with hv1
 injection hv1 with ad
 obtain ⟨us,e,os⟩:=cell_lst R1.wf lk
 rw [ad]
 refine ⟨_,us,w,rfl,rfl,e,by rw [Paired.length os]; exact small7 hz,l.nx _ _ σ _ hn ⟨_,rfl,(R1.drop).set r (look_mem lk) ?_⟩⟩
 exact ⟨us ++ [w],upd_same,Paired.app (oks_set R1.wf (look_mem lk) os) (oks_set R1.wf (look_mem lk) (.cons R1.top .nil))⟩
theorem oks_rev {m:Mp} {us:List V} {xs:List Sl} (q:Oks m h us xs):Oks m h us.reverse xs.reverse:=by
 induction q with
 | nil=>exact .nil
 | cons h1 _ ih=>rw [List.reverse_cons,List.reverse_cons]; exact Paired.snoc ih h1
theorem ss_rev (hi:s[i]? = some (.lc n)) {xs:List Sl} (lk:h.lookup n = some (.lst xs)) (q:D.nx s (hset h n (.lst xs.reverse))):SS s h (tDrop (tBM0 K "list" rReverse (tVar i))) D:=by
 intro B T σ vs H De r a l
 obtain ⟨m,rfl,R⟩:=a
 obtain ⟨us,e,os⟩:=cell_lst R.wf lk
 exact ⟨_,slot_lc R hi,.inl ⟨rfl,us,SqL.of e⟩,_,us,rfl,rfl,e,l.nx _ _ σ _ q ⟨_,rfl,R.set r (look_mem lk) ⟨us.reverse,upd_same,oks_set R.wf (look_mem lk) (oks_rev os)⟩⟩⟩
theorem ss_pop {g:TG} (hi:s[i]? = some (.lc n)) {xs:List Sl} {x:Sl} (lk:h.lookup n = some (.lst (xs ++ [x]))) (q:EG s (hset h n (.lst xs)) x g D.nx):SS s h (tAsg (tBM0 K "list" rPop (tVar i)) g) D:=by
 intro B T σ vs H De r a l
 obtain ⟨m,rfl,R⟩:=a
 obtain ⟨us,e,os⟩:=cell_lst R.wf lk
 have:∃ us' v,us = us' ++ [v]/\Oks m h us' xs/\Ok m h x v:=by
  have:∀ {xs:List Sl} {us:List V},Oks m h us (xs ++ [x])->∃ us' v,us = us' ++ [v]/\Oks m h us' xs/\Ok m h x v:=by
   intro xs
   induction xs with
   | nil=>intro us q; cases q with | cons q1 q2=>cases q2; exact ⟨[],_,rfl,.nil,q1⟩
   | cons y xs ih =>
    intro us q
    cases q with
    | cons q1 q2 =>
     obtain ⟨us',v,rfl,o1,o2⟩:=ih q2
     exact ⟨_ :: us',v,rfl,.cons q1 o1,o2⟩
  exact this os
 obtain ⟨us',v,rfl,o1,o2⟩:=this
 refine ⟨_,slot_lc R hi,.inl ⟨rfl,_,SqL.of e⟩,_,_,v,rfl,rfl,e,by simp,?_⟩
 rw [List.dropLast_concat]
 have R2:=R.set r (c:=.lst xs) (o:=.lst us') (look_mem lk) ⟨us',upd_same,oks_set R.wf (look_mem lk) o1⟩
 have ox:=oks_set (c:=.lst xs) (o:=.lst us') R.wf (look_mem lk) (.cons o2 .nil)
 cases ox with
 | cons ox _=>exact q B _ σ vs v _ _ (R2.push ox) fun s' σ' h' H' q' a'=>l.nx s' h' σ' H' q' a'
end
def spH (n:Nat) (PRE:List Sl->SH->(Sl->SH->Prop)->Prop):Sp:=fun vs H Q _=>∃ xs h φ m,xs.length = n/\m.H = H/\(∀ n c,(n,c) ∈ h->1000 <= n)/\Wf m h/\Oks m h vs xs/\PRE xs h φ/\Fin m h Q φ
theorem cn_h {n:Nat} {PRE:List Sl->SH->(Sl->SH->Prop)->Prop} {xs:List Sl} {h:SH} {φ:Sl->SH->Prop} (q:PRE xs h φ) (hn:xs.length = n:=by rfl):Cn (spH n PRE) xs h φ:=fun us m Q E h1 W o f=>⟨xs,h,φ,m,hn,rfl,h1,W,o,q,f⟩
theorem len_h {n:Nat} {PRE:List Sl->SH->(Sl->SH->Prop)->Prop} {vs:List V} {H:Hp} {Q:VK} {E:XK} (q:spH n PRE vs H Q E):vs.length = n:=by
 obtain ⟨xs,h,φ,m,hn,_,_,_,hx,_⟩:=q
 rw [Paired.length hx,hn]
theorem body {n:Nat} {PRE:List Sl->SH->(Sl->SH->Prop)->Prop} {vs:List V} {H:Hp} {Q:VK} {E:XK} {t:TS} {N:List Str} (q:spH n PRE vs H Q E) (hb:∀ xs h φ,PRE xs h φ->SS (xs ++ List.replicate (N.length - xs.length) .no) h t ⟨fun _ h'=>φ (.im nv) h',φ,fun _ _=>False,fun _ _=>False⟩) :
  t { nx:=fun _ H'=>Q .non H',rt:=Q } (start N vs) H:=by
 obtain ⟨xs,h,φ,m,_,rfl,h1,W,hx,hpre,f⟩:=q
 have hl:vs.length = xs.length:=Paired.length hx
 refine hb xs h φ hpre (bas m h (h.map fun p=>(p.1,m.ad p.1))) [] (start N vs) [] _ _ (fun _ z=>z) ⟨m,rfl,⟨.refl _,fun _ _ e _ _=>e,fun _ e=>e,fun _ e=>.inl e,fun _ _ _ _ _ e=>e,fun _=>Iff.rfl,fun n c e=>.inr (.inl ⟨n,c,e,rfl⟩),fun n a e=>?_⟩,W,by unfold L2.start; simp [hl],fun i x e=>?_,.nil⟩ ⟨?_,?_,fun _ _ _ _ z=>z.elim,fun _ _ _ _ z=>z.elim⟩
 ·obtain ⟨⟨k,c⟩,e1,e2⟩:=List.mem_map.mp e
  cases e2
  exact ⟨h1 k c e1,rfl,c,e1⟩
 ·by_cases z:i < xs.length
  ·rw [List.getElem?_append_left z] at e
   obtain ⟨v,hv,hk⟩:=Paired.get (R:=fun v x=>Ok m h x v) hx e
   refine .inr ⟨v,?_,hk⟩
   unfold L2.start
   rw [List.getElem?_append_left (by simpa [hl] using z),List.getElem?_map,hv]; rfl
  ·rw [List.getElem?_append_right (by omega)] at e
   exact .inl (List.eq_of_mem_replicate (List.mem_of_getElem? e))
 ·rintro s h' σ H' q ⟨m',rfl,R⟩
  exact f (.im nv) .non h' m' q R.fr R.wf rfl
 ·rintro x h' v H' q ⟨m',rfl,R⟩
  exact f x v h' m' q R.fr R.wf R.top
theorem ifB {b:Bool} {X Y:Prop} (h1:b = true->X) (h2:b = false->Y):if b = true then X else Y:=by
 cases b with
 | true=>exact iteT (h1 rfl)
 | false=>exact iteF (h2 rfl)
theorem dec_self {α:Type} [DecidableEq α] (a:α):decide (a = a) = true:=decide_eq_true rfl
section
variable {K:PySem.W.Frag} {s:List Sl} {h:SH} {φ φ':Sl->SH->Prop} {ψ ψ':Bool->SH->Prop} {ta tb te tl:TE} {g:TG} {tc:TT} {k:Nat} {fi:List Nat}
theorem ev_iff (q:EV s h te φ) (z:∀ x h',φ x h'->φ' x h'):EV s h te φ':=fun B T σ vs H Q a k=>q B T σ vs H Q a fun b v h1 H1 hb a1=>k b v h1 H1 (z b h1 hb) a1
theorem isF_s {α:Type} {xs:List α} {f:α->DT}:IsF K (dv K (.s (xs.map f))) true (xs.map fun a=>dv K (f a)):=by
 have:=IsF.s (K:=K) (ds:=xs.map f)
 rw [List.map_map] at this
 exact this
theorem lst_d {ds:List DT} (q:φ (imd K (.s ds)) h):Lst K h φ (ds.map (imd K)):=.inl ⟨ds,allD_map ds,q⟩
end
theorem fr_pen {m:Mp} {H':Hp} {p c:Addr} {o:HO} (W:Wf m []) (hp:m.P p) (hc:m.G c = some o) (h1:Pen m.H p c) (h2:Pen H' p c) (e:ExB p m.H H'):Fr (bas m [] []) { m with H:=H' } []/\Wf { m with H:=H' } []:=by
 have np:∀ {b u},m.G b = some u->b ≠ p:=fun e z=>by rw [z,(W.p p hp).1] at e; cases e
 have al:∀ a,m.H a ≠ none->H' a ≠ none:=fun a h=>by
  by_cases z:a = p
  ·subst z; obtain ⟨u,hu⟩:=h2.pen; rw [hu]; exact nofun
  ·cases q:m.H a with
   | none=>exact absurd q h
   | some u=>rw [e a u q z]; exact nofun
 refine ⟨⟨.refl _,fun a u h n _=>e a u h (fun z=>n (by rw [z]; exact hp)),al,fun a h=>.inl h,fun q d u hq hd hpen=>?_,fun _=>Iff.rfl,(fun _ _ e=>nomatch e),(fun _ _ e=>nomatch e)⟩,⟨fun b u h=>e b u (W.s b u h) (np h),fun a h=>⟨(W.p a h).1,al a (W.p a h).2⟩,(fun _ _ e=>nomatch e),(fun _ _ _ _ e=>nomatch e),List.nodup_nil⟩⟩
 by_cases z:q = p
 ·subst z
  have:d = c:=by
   obtain ⟨a,r,ns,g1,_⟩:=hpen
   obtain ⟨a',r',ns',g1',_⟩:=h1
   have g3:m.H q = _:=g1
   rw [g1'] at g3
   injection g3 with g3
   injection g3 with g3
   injection g3 with g3 _
   injection g3 with g3
   exact g3.symm
  subst this
  exact h2
 ·obtain ⟨a,r,ns,g1,g2,g3,g4⟩:=hpen
  exact ⟨a,r,ns,e q _ g1 z,e d _ g2 (np hd),g3,g4⟩
theorem fr_same {m:Mp} {H':Hp} (W:Wf m []) (e:Same m.H H'):Fr (bas m [] []) { m with H:=H' } []/\Wf { m with H:=H' } []:=by
 have al:∀ a,m.H a ≠ none->H' a ≠ none:=fun a h=>by
  cases q:m.H a with
  | none=>exact absurd q h
  | some u=>rw [e a u q]; exact nofun
 exact ⟨⟨.refl _,fun a u h _ _=>e a u h,al,fun a h=>.inl h,fun q d u _ _ h=>h.ex e,fun _=>Iff.rfl,(fun _ _ e=>nomatch e),(fun _ _ e=>nomatch e)⟩,⟨W.s.trans e,fun a h=>⟨(W.p a h).1,al a (W.p a h).2⟩,(fun _ _ e=>nomatch e),(fun _ _ _ _ e=>nomatch e),List.nodup_nil⟩⟩
theorem fin_list {m:Mp} {H':Hp} {Q:VK} {φ:Sl->SH->Prop} {l:Addr} {us:List V} {xs:List Sl} (W:Wf m []) (f:Fin m [] Q φ) (F1:Fr (bas m [] []) { m with H:=H' } []) (W1:Wf { m with H:=H' } []) (hl:m.H l = none) (e:H' l = some (.lst us)) (hx:∀ x ∈ xs,plain x) (o:Oks { m with H:=H' } [] us xs) (q:φ (.lc 0) [(0,.lst xs)]):Q (.ref l) H':=by
 have gl:m.G l = none:=W.s.free hl
 have pl:¬ m.P l:=fun z=>(W.p l z).2 hl
 have o':Oks ⟨m.G,H',fun _=>l,m.P⟩ [(0,.lst xs)] us xs:=oks_plain (m:={ m with H:=H' }) (m':=⟨m.G,H',fun _=>l,m.P⟩) rfl rfl rfl hx o
 refine f (.lc 0) (.ref l) [(0,.lst xs)] ⟨m.G,H',fun _=>l,m.P⟩ q ⟨F1.gg,F1.hh,F1.al,F1.fr,F1.pe,F1.pp,fun n c z=>.inl hl,(fun _ _ e=>nomatch e)⟩ ⟨W1.s,W1.p,fun n c z=>?_,fun n c n' c' z z' _=>?_,by simp⟩ ⟨⟨_,List.mem_cons_self⟩,rfl⟩
 ·have:(n,c) = (0,Ce.lst xs):=by simpa using z
  cases this
  exact ⟨gl,pl,us,e,o'⟩
 ·have h1:(n,c) = (0,Ce.lst xs):=by simpa using z
  have h2:(n',c') = (0,Ce.lst xs):=by simpa using z'
  cases h1; cases h2; rfl
section
variable {K:PySem.W.Frag}
theorem pair1 {R:V->Sl->Prop} {us:List V} {x:Sl} (h:Paired R us [x]):∃ u,us = [u]/\R u x:=by cases h with | cons h1 h2=>cases h2; exact ⟨_,rfl,h1⟩
theorem pair2 {R:V->Sl->Prop} {us:List V} {x y:Sl} (h:Paired R us [x,y]):∃ u v,us = [u,v]/\R u x/\R v y:=by cases h with | cons h1 h2=>obtain ⟨v,rfl,h3⟩:=pair1 h2; exact ⟨_,_,rfl,h1,h3⟩
theorem pair3 {R:V->Sl->Prop} {us:List V} {x y z:Sl} (h:Paired R us [x,y,z]):∃ u v w,us = [u,v,w]/\R u x/\R v y/\R w z:=by cases h with | cons h1 h2=>obtain ⟨v,w,rfl,h3⟩:=pair2 h2; exact ⟨_,_,_,rfl,h1,h3⟩
theorem ok_str {m:Mp} {h:SH} {w:Str} {u:V} (o:Ok m h (imd K (sDT w)) u):u = .str w:=by
 have o':DR K m.G (sDT w) u:=o
 unfold sDT DR at o'; exact o'
theorem plain_d (ds:List DT):∀ x ∈ ds.map (imd K),plain x:=fun x hx=>by
 obtain ⟨d,_,rfl⟩:=List.mem_map.mp hx
 exact True.intro
theorem oks_strs {m:Mp} {h:SH} (ws:List Str):Oks m h (ws.map V.str) ((ws.map sDT).map (imd K)):=oks_d (drs_strs ws)
theorem inst_mv {C:Addr} {asks says rooms:List Str} {ds:List Door} {m:Str} (hm:m = "is_quiet" ∨ m = "goals" ∨ m = "led_from" ∨ m = "rooms" ∨ m = "asks" ∨ m = "says" ∨ m = "doors" ∨ m = "doors_from"):Inst C m (mv C asks says rooms ds):=by
 rintro G v ⟨x,rfl,h⟩
 obtain ⟨dx,fs,o1,o2,o3,o4,lv,qu,sg,sl,ts,lps,gps,sps,g1,a1,a2,a3,a4,_⟩:=h.at_
 obtain ⟨dx',fs',g1',e1,e2,e3,e4⟩:=h.more
 rw [g1] at g1'
 cases g1'
 refine ⟨x,dx,fs,rfl,g1,?_⟩
 rcases hm with h | h | h | h | h | h | h | h <;> subst h <;> assumption
theorem fin_strs {m:Mp} {Q:VK} {φ:Sl->SH->Prop} {l:Addr} {ws:List Str} (W:Wf m []) (f:Fin m [] Q φ) (hl:m.H l = none) (q:φ (.lc 0) [(0,.lst ((ws.map sDT).map (imd K)))]):Q (.ref l) (upd m.H l (.lst (ws.map V.str))):=by
 obtain ⟨F,W'⟩:=fr_same W (Same.new (o:=.lst (ws.map V.str)) hl)
 exact fin_list W f F W' hl upd_same (plain_d _) (oks_strs ws) q
theorem cn_rooms {C:Addr} {asks says rooms:List Str} {ds:List Door}:Cn (sp_rooms C) [.im (mv C asks says rooms ds)] [] (fun r h'=>r = .lc 0/\h' = [(0,.lst ((rooms.map sDT).map (imd K)))]):=by
 intro us m Q E _ W hx f
 obtain ⟨u,rfl,x,rfl,hm⟩:=pair1 hx
 exact ⟨x,asks,says,rooms,ds,rfl,hm.same W.s,fun l hl=>fin_strs (K:=K) W f hl ⟨rfl,rfl⟩⟩
theorem ev_methL {s:List Sl} {h:SH} {φ:Sl->SH->Prop} {te:TE} {C:Addr} {mt:Str} {sp:Sp} {asks says rooms:List Str} {ds:List Door} {L:List DT} (hm:mt = "is_quiet" ∨ mt = "goals" ∨ mt = "led_from" ∨ mt = "rooms" ∨ mt = "asks" ∨ mt = "says" ∨ mt = "doors" ∨ mt = "doors_from")
  (c:Cn sp [.im (mv C asks says rooms ds)] [] (fun r h'=>r = .lc 0/\h' = [(0,.lst (L.map (imd K)))])) (q:EV s h te fun x h1=>x = .im (mv C asks says rooms ds)/\Lst K h1 φ (L.map (imd K))):EV s h (tMeth C mt sp [] E0 te tNil) φ:=by
 refine ev_meth (K:=K) (ev_iff q fun x h1 ⟨e,z⟩=>⟨_,e,inst_mv hm,ea_nil ⟨(fun _ y=>nomatch y),Cn.imp c fun r h' ⟨e1,e2⟩=>.inr ⟨0,_,e1,?_,plain_d _,z⟩⟩⟩)
 rw [e2]; rfl
end
theorem enter {s:List Sl} {t:TS} {De:Ends} {σ:L2.St} {H:Hp} {p c:Addr} (hp:Pen H p c) (hl:s.length = σ.length)
  (sl:∀ G:Hp,ExB p H G->∀ (i:Nat) (x:Sl),s[i]? = some x->x = .no ∨ (x = .pn/\σ[i]? = some (some (.ref p))) ∨ ∃ a v,x = .im a/\σ[i]? = some (some v)/\a.p G v)
  (q:SS s [] t ⟨fun _ _=>False,fun x _=>x = .im (bv true),fun _ _=>False,fun _ _=>False⟩) (k:∀ H',De.rt (.bl true) H'):t De σ H:=by
 classical
 let G:Hp:=fun a=>if a = p then none else H a
 have gp:G p = none:=if_pos rfl
 have gn:∀ a,a ≠ p->G a = H a:=fun a z=>if_neg z
 have S:Same G H:=fun b o e=>by
  by_cases z:b = p
  ·subst z; rw [gp] at e; cases e
  ·rw [gn b z] at e; exact e
 have ex:ExB p H G:=fun b o e z=>by rw [gn b z]; exact e
 let m:Mp:=⟨G,H,fun _=>p,fun a=>a = p⟩
 have W:Wf m []:=⟨S,fun a e=>by obtain ⟨o,ho⟩:=hp.pen; rw [show a = p from e]; exact ⟨gp,by show H p ≠ none; rw [ho]; exact nofun⟩,(fun _ _ e=>nomatch e),(fun _ _ _ _ e=>nomatch e),List.nodup_nil⟩
 obtain ⟨F,_⟩:=fr_same W (.refl _)
 refine q (bas m [] []) [] σ [] H De (fun _ h=>h) ⟨m,rfl,F,W,hl,fun i x hx=>?_,.nil⟩ ⟨fun _ _ _ _ h=>h.elim,?_,fun _ _ _ _ h=>h.elim,fun _ _ _ _ h=>h.elim⟩
 ·rcases sl G ex i x hx with e | ⟨e,hv⟩ | ⟨a,v,e,hv,ha⟩
  ·exact .inl e
  ·subst e
   obtain ⟨o,ho⟩:=hp.cell
   have cp:c ≠ p:=let ⟨_,_,_,h⟩:=hp; h.ne
   exact .inr ⟨_,hv,p,c,o,rfl,rfl,by show G c = some o; rw [gn c cp]; exact ho,hp⟩
  ·subst e; exact .inr ⟨v,hv,ha⟩
 ·rintro x h' v H' e ⟨m',rfl,R⟩
  subst e
  rw [show v = .bl true from R.top]
  exact k _

section
variable {K:PySem.W.Frag} {s:List Sl} {h:SH} {φ:Sl->SH->Prop} {ta tb te:TE}
end
mutual
def DT.sm:DT->Bool
 | .k _=>true
 | .t l=>decide (l.length <= 1000000) && DT.sms l
 | .s l=>decide (l.length <= 1000000) && DT.sms l
def DT.sms:List DT->Bool
 | []=>true
 | a :: r=>DT.sm a && DT.sms r
end
section
variable {asks says rooms:List Str} {ds:List Door}
end
theorem fg0 {s:List Sl} (e:s.all (hasN []) = true:=by rfl):Fg s [] []:=⟨List.Sublist.refl _,e,rfl,fun _ _ z=>nomatch z⟩
theorem wf0 {s s':List Sl} {I:List Sl->SH->Prop} (w:Wk s s') (i:I s' []) (e:s'.all (hasN []) = true:=by rfl):Wf2 s [] I:=⟨s',[],w,fg0 e,i⟩
theorem elI_at {α:Type} {xs:List α} {enc:α->AV} {i:Nat} (hi:i < (xs.map enc).length):∃ a,xs[i]? = some a/\elI (xs.map enc) i = enc a:=by
 rw [List.length_map] at hi
 refine ⟨xs[i],by simp [hi],?_⟩
 unfold elI
 rw [List.getD_eq_getElem?_getD,List.getElem?_map]
 simp [hi]
abbrev gs (a p:Str):Str:=a ++ (" ":Str) ++ p
def valS (kvs:List (Key × Sl)) (k:Key):Option Sl:=(kvs.find? fun kv=>decide (kv.1 = k)).map (·.2)
def putS (kvs:List (Key × Sl)) (k:Key) (x:Sl):List (Key × Sl) :=
 if (kvs.any fun kv=>decide (kv.1 = k)) = true then kvs.map (fun kv=>if kv.1 = k then (kv.1,x) else kv) else kvs ++ [(k,x)]
abbrev Kvs (m:Mp) (h:SH):List (Key × V)->List (Key × Sl)->Prop:=Paired fun p q=>p.1 = q.1/\Ok m h q.2 p.2
section
variable {m:Mp} {h:SH}
theorem Kvs.of:∀ {kvs:List (Key × Sl)} {vs:List V},Oks m h vs (kvs.map (·.2))->Kvs m h ((kvs.map (·.1)).zip vs) kvs
 | [],_,.nil=>.nil
 | kv :: kvs,_,.cons h1 h2=>.cons ⟨rfl,h1⟩ (Kvs.of h2)
theorem Kvs.to:∀ {l:List (Key × V)} {kvs:List (Key × Sl)},Kvs m h l kvs->l = (kvs.map (·.1)).zip (l.map (·.2))/\Oks m h (l.map (·.2)) (kvs.map (·.2))
 | _,_,.nil=>⟨rfl,.nil⟩
 | (k,v) :: l,(k',x) :: kvs,.cons h1 h2=>by
  obtain ⟨e1,e2⟩:=h1
  obtain ⟨e3,e4⟩:=Kvs.to h2
  have e1:k = k':=e1
  subst e1
  exact ⟨congrArg (fun z=>(k,v) :: z) e3,.cons e2 e4⟩
theorem Kvs.val {k:Key}:∀ {l:List (Key × V)} {kvs:List (Key × Sl)},Kvs m h l kvs->(valV l k = none/\valS kvs k = none) ∨ ∃ v x,valV l k = some v/\valS kvs k = some x/\Ok m h x v
 | _,_,.nil=>.inl ⟨rfl,rfl⟩
 | (k1,v) :: l,(k',x) :: kvs,.cons h1 h2=>by
  obtain ⟨e1,e2⟩:=h1
  have e1:k1 = k':=e1
  subst e1
  unfold valV valS
  rw [List.find?_cons,List.find?_cons]
  by_cases z:k1 = k
  ·rw [show decide ((k1,v).1 = k) = true from decide_eq_true z]
   exact .inr ⟨v,x,rfl,rfl,e2⟩
  ·rw [show decide ((k1,v).1 = k) = false from decide_eq_false z]
   exact Kvs.val h2
theorem Kvs.any {k:Key}:∀ {l:List (Key × V)} {kvs:List (Key × Sl)},Kvs m h l kvs->(l.any fun kv=>decide (kv.1 = k)) = kvs.any fun kv=>decide (kv.1 = k)
 | _,_,.nil=>rfl
 | (k1,v) :: l,(k',x) :: kvs,.cons h1 h2=>by
  have e1:k1 = k':=h1.1
  subst e1
  rw [List.any_cons,List.any_cons,Kvs.any h2]
theorem Kvs.maps {k:Key} {v:V} {x:Sl} (o:Ok m h x v):∀ {l:List (Key × V)} {kvs:List (Key × Sl)},Kvs m h l kvs->Kvs m h (l.map fun kv=>if kv.1 = k then (kv.1,v) else kv) (kvs.map fun kv=>if kv.1 = k then (kv.1,x) else kv)
 | _,_,.nil=>.nil
 | (k1,u) :: l,(k',y) :: kvs,.cons h1 h2=>by
  obtain ⟨e1,e2⟩:=h1
  have e1:k1 = k':=e1
  subst e1
  refine .cons ?_ (Kvs.maps o h2)
  show (if k1 = k then (k1,v) else (k1,u)).1 = (if k1 = k then (k1,x) else (k1,y)).1/\Ok m h (if k1 = k then (k1,x) else (k1,y)).2 (if k1 = k then (k1,v) else (k1,u)).2
  by_cases z:k1 = k
  ·rw [if_pos z,if_pos z]; exact ⟨rfl,o⟩
  ·rw [if_neg z,if_neg z]; exact ⟨rfl,e2⟩
theorem Kvs.put {k:Key} {v:V} {x:Sl} (o:Ok m h x v) {l:List (Key × V)} {kvs:List (Key × Sl)} (q:Kvs m h l kvs):Kvs m h (putK l k v) (putS kvs k x):=by
 unfold putK putS
 rw [q.any]
 by_cases z:(kvs.any fun kv=>decide (kv.1 = k)) = true
 ·rw [if_pos z,if_pos z]; exact q.maps o
 ·rw [if_neg z,if_neg z]; exact Paired.snoc q ⟨rfl,o⟩
theorem cell_dk {n:Nat} {kvs:List (Key × Sl)} (W:Wf m h) (e:h.lookup n = some (.dk kvs)):∃ l,m.H (m.ad n) = some (.dK l)/\Kvs m h l kvs:=by
 obtain ⟨vs,e1,e2⟩:=(W.c _ _ (look_mem e)).2.2
 exact ⟨_,e1,Kvs.of e2⟩
inductive IsDk (h:SH) (n:Nat) (kvs:List (Key × Sl)):Prop
 | dk (e:h.lookup n = some (.dk kvs))
 | fk {o:Obj} {l:List (Key × V)} (e:h.lookup n = some (.fk o l kvs))
theorem IsDk.view {n:Nat} {kvs:List (Key × Sl)} (W:Wf m h) (q:IsDk h n kvs):∃ l,Rd m.H (m.ad n) (.dK l)/\Kvs m h l kvs:=by
 cases q with
 | dk e=>obtain ⟨l,e1,e2⟩:=cell_dk W e; exact ⟨l,.inl e1,e2⟩
 | fk e=>obtain ⟨e1,e2⟩:=(W.c _ _ (look_mem e)).2.2; exact ⟨_,.inr ⟨_,e1⟩,e2⟩
theorem Kvs.set {n:Nat} {o:HO} {c0 c:Ce} {l:List (Key × V)} {kvs:List (Key × Sl)} (W:Wf m h) (hn:(n,c0) ∈ h) (q:Kvs m h l kvs):Kvs { m with H:=upd m.H (m.ad n) o } (hset h n c) l kvs:=by
 obtain ⟨e1,e2⟩:=q.to
 rw [e1]
 exact Kvs.of (oks_set W hn e2)
theorem Kvs.cell {a:Addr} {l:List (Key × V)} {kvs:List (Key × Sl)} (e:m.H a = some (.dK l)) (q:Kvs m h l kvs):CeOk m h a (.dk kvs):=by
 obtain ⟨e1,e2⟩:=q.to
 exact ⟨_,by rw [e]; exact congrArg (fun z=>some (HO.dK z)) e1,e2⟩
end
section
variable {K:PySem.W.Frag} {s:List Sl} {h:SH} {φ:Sl->SH->Prop} {te ta tb tv:TE} {D:AE} {i n:Nat}
def IsKey (K:PySem.W.Frag) (x:Sl) (k:Key):Prop:=∀ (m:Mp) (h:SH) v,Ok m h x v->v = kV k
theorem isKey_str {w:Str} {k:Key} (e:kV k = .str w):IsKey K (imd K (sDT w)) k:=fun m h v o=>by rw [e]; exact ok_str o
theorem ev_dnew (q:(n < 1000/\(h.map (·.1)).contains n = false)/\φ (.lc n) ((n,.dk []) :: h)):EV s h tDNewK φ:=by
 intro B T σ vs H Q a k
 obtain ⟨m,rfl,R⟩:=a
 intro p hp
 obtain ⟨fn,q⟩:=q
 obtain ⟨m2,e2,a2,R2⟩:=R.cell (c:=.dk []) (m':={ m with H:=upd m.H p (.dK []) }) (Mv.newO R.wf.s hp) (free_of fn.1 fn.2) hp (R.wf.s.free hp) ⟨[],upd_same,.nil⟩
 refine k _ _ _ _ q ?_
 rw [<- show m2.H = upd m.H p (.dK []) from e2]
 exact R2.push ⟨⟨_,List.mem_cons_self⟩,by rw [a2]⟩
theorem top2 {B:Bs} {T:List Sl} {σ:L2.St} {vs:List V} {m:Mp} {x y:Sl} {u v:V} (R:Rw B s h (y :: x :: T) σ (v :: u :: vs) m):Ok m h y v/\Ok m h x u:=⟨R.top,R.drop.top⟩
theorem ev_dget (q:EV s h ta fun x h1=>EV s h1 tb fun y h2=>∃ n kvs k z,x = .lc n/\IsDk h2 n kvs/\IsKey K y k/\valS kvs k = some z/\φ z h2):EV s h (tDGet K ta tb) φ:=by
 intro B T σ vs H Q a k
 refine q B T σ vs H _ a fun x u h1 H1 q1 a1=>q1 B _ σ _ H1 _ a1 fun y v h2 H2 q2 a2=>?_
 obtain ⟨n,kvs,key,z,rfl,lk,ik,hz,hq⟩:=q2
 obtain ⟨m,rfl,R⟩:=a2
 obtain ⟨o1,_,rfl⟩:=top2 R
 obtain ⟨l,el,kv⟩:=IsDk.view R.wf lk
 have ev:=ik m h2 v o1
 subst ev
 rcases kv.val (k:=key) with ⟨_,e2⟩ | ⟨w,x,e1,e2,o⟩
 ·rw [hz] at e2; cases e2
 ·rw [hz] at e2
  cases e2
  exact ⟨_,w,rfl,by rw [<- e1]; exact (.inl ⟨_,_,el,rfl,rfl⟩),k _ _ _ _ hq ((R.drop.drop).push o)⟩
theorem ev_dnotin (q:EV s h ta fun y h1=>EV s h1 tb fun x h2=>∃ n kvs k,x = .lc n/\IsDk h2 n kvs/\IsKey K y k/\φ (.im (bv (!(valS kvs k).isSome))) h2):EV s h (tDNotIn K ta tb) φ:=by
 intro B T σ vs H Q a k
 refine q B T σ vs H _ a fun y v h1 H1 q1 a1=>q1 B _ σ _ H1 _ a1 fun x u h2 H2 q2 a2=>?_
 obtain ⟨n,kvs,key,rfl,lk,ik,hq⟩:=q2
 obtain ⟨m,rfl,R⟩:=a2
 obtain ⟨⟨_,rfl⟩,o1⟩:=top2 R
 obtain ⟨l,el,kv⟩:=IsDk.view R.wf lk
 have ev:=ik m h2 v o1
 subst ev
 refine ⟨_,_,rfl,(.inl ⟨_,_,el,rfl,rfl⟩),?_⟩
 have e:(valV l key).isSome = (valS kvs key).isSome:=by
  rcases kv.val (k:=key) with ⟨e1,e2⟩ | ⟨w,x,e1,e2,o⟩ <;> rw [e1,e2] <;> rfl
 rw [e]
 exact k _ _ _ _ hq (A.pushI ⟨m,rfl,R.drop.drop⟩ fun G=>rfl)
theorem ss_dput (q:EV s h tv fun z h1=>EV s h1 ta fun x h2=>EV s h2 tb fun y h3=>∃ n kvs k,x = .lc n/\h3.lookup n = some (.dk kvs)/\kvs.length <= 1000000/\IsKey K y k/\D.nx s (hset h3 n (.dk (putS kvs k z)))):SS s h (sDPut ta tb tv) D:=by
 intro B T σ vs H De r a l
 refine q B _ σ vs H _ a fun z w h1 H1 q1 a1=>q1 B _ σ _ H1 _ a1 fun x u h2 H2 q2 a2=>q2 B _ σ _ H2 _ a2 fun y v h3 H3 q3 a3=>?_
 obtain ⟨n,kvs,key,rfl,lk,hz,ik,hq⟩:=q3
 obtain ⟨m,rfl,R⟩:=a3
 obtain ⟨o1,_,rfl⟩:=top2 R
 obtain ⟨ll,el,kv⟩:=cell_dk R.wf lk
 have ev:=ik m h3 v o1
 subst ev
 refine ⟨_,_,rfl,DPut.k el (by rw [Paired.length kv]; exact small7 hz),l.nx _ _ σ _ hq ⟨_,rfl,(R.drop.drop.drop).set r (look_mem lk) ?_⟩⟩
 have o3:=(oks_set (c:=.dk (putS kvs key z)) (o:=.dK (putK ll key w)) R.wf (look_mem lk) (.cons R.drop.drop.top .nil))
 cases o3 with
 | cons o3 _=>exact Kvs.cell upd_same ((kv.set R.wf (look_mem lk)).put o3)
theorem ev_dlist (q:EV s h te fun x h1=>∃ n kvs xs,x = .lc n/\IsDk h1 n kvs/\xs.length = kvs.length/\(∀ (m:Mp) (h:SH),Oks m h (kvs.map fun kv=>kV kv.1) xs)/\Lst K h1 φ xs):EV s h (tCB (rListA K) (tCons te tNil)) φ:=by
 intro B T σ vs H Q a k
 refine q B T σ vs H _ a fun x v h1 H1 ⟨n,kvs,xs,e,lk,hl,ho,hq⟩ a1=>?_
 subst e
 obtain ⟨m,rfl,R⟩:=a1
 obtain ⟨_,rfl⟩:=R.top
 obtain ⟨ll,el,kv⟩:=IsDk.view R.wf lk
 refine .inr ⟨_,ll,rfl,el,fun l hl=>?_⟩
 have ek:(ll.map fun kv=>kV kv.1) = kvs.map fun kv=>kV kv.1:=by
  have:∀ {l:List (Key × V)} {kvs:List (Key × Sl)},Kvs m h1 l kvs->(l.map fun kv=>kV kv.1) = kvs.map fun kv=>kV kv.1:=by
   intro l kvs q
   induction q with
   | nil=>rfl
   | cons h1 _ ih=>rw [List.map_cons,List.map_cons,ih,h1.1]
  exact this kv
 rw [ek]
 obtain ⟨x,h',hx,hA⟩:=R.drop.newLst hl (ho m h1) hq
 exact k _ _ _ _ hx hA
end
abbrev Bs.pin (B:Bs) (n:Nat) (a:Addr):Bs:={ B with N:=(n,a) :: B.N }
section
variable {B:Bs} {s:List Sl} {h:SH} {T:List Sl} {σ:L2.St} {vs:List V} {m:Mp} {n:Nat} {a:Addr} {H:Hp}
theorem Rw.pin (R:Rw B s h T σ vs m) {c:Ce} (hn:(n,c) ∈ h) (hl:1000 <= n):Rw (B.pin n (m.ad n)) s h T σ vs m :=
 ⟨⟨R.fr.gg,R.fr.hh,R.fr.al,R.fr.fr,R.fr.pe,R.fr.pp,R.fr.ow,fun k b e=>by
  rcases List.mem_cons.mp e with e | e
  ·cases e; exact ⟨hl,rfl,c,hn⟩
  ·exact R.fr.nd k b e⟩,R.wf,R.len,R.sl,R.tm⟩
theorem A.unpin (x:A (B.pin n a) s h T σ vs H):A B s h T σ vs H :=
 let ⟨m,e,R⟩:=x
 ⟨m,e,⟨R.fr.gg,R.fr.hh,R.fr.al,R.fr.fr,R.fr.pe,R.fr.pp,R.fr.ow,fun k b z=>R.fr.nd k b (List.mem_cons_of_mem _ z)⟩,R.wf,R.len,R.sl,R.tm⟩
theorem Rw.pinned {B:Bs} (R:Rw (B.pin n a) s h T σ vs m):m.ad n = a:=(R.fr.nd n a List.mem_cons_self).2.1
theorem cell_fk {o:Obj} {l:List (Key × V)} {kvs:List (Key × Sl)} (W:Wf m h) (e:h.lookup n = some (.fk o l kvs)):m.H (m.ad n) = some (.frz o (.dK l))/\Kvs m h l kvs:=(W.c _ _ (look_mem e)).2.2
end
section
variable {K:PySem.W.Frag} {s:List Sl} {h:SH} {te:TE} {D:AE} {t:TS}
theorem ss_forK {g:TG} {tb:TS} (q:EV s h te fun x h1=>∃ n kvs,x = .lc n/\1000 <= n/\h1.lookup n = some (.dk kvs)/\∃ el:Nat->AV,(∀ i kv,kvs[i]? = some kv->∀ G,(el i).p G (kV kv.1))/\∀ o l,∃ I:Nat->List Sl->SH->Prop,Wf2 s (hset h1 n (.fk o l kvs)) (I 0) /\
  (∀ i s' h',I i s' h'->h'.lookup n = some (.fk o l kvs)) /\
  (∀ i s' h',i < kvs.length->I i s' h'->EG s' h' (.im (el i)) g fun s2 h2=>SS s2 h2 tb { D with nx:=fun s3 h3=>Wf2 s3 h3 (I (i + 1)),ct:=fun s3 h3=>Wf2 s3 h3 (I (i + 1)),bk:=D.nx })/\∀ s' h',I kvs.length s' h'->D.nx s' h'):SS s h (tFor (iKeys te) g tb) D:=by
 intro B T σ vs H De r a l
 refine q B _ σ vs H _ a fun x v h1 H1 ⟨n,kvs,e,hn,lk,el,hel,q1⟩ a1=>?_
 subst e
 obtain ⟨m,rfl,R⟩:=a1
 obtain ⟨_,rfl⟩:=R.top
 obtain ⟨ll,e1,kv⟩:=cell_dk R.wf lk
 have hlen:ll.length = kvs.length:=Paired.length kv
 refine ⟨m.ad n,ll,rfl,.inl ⟨e1,fun o=>?_⟩⟩
 obtain ⟨I,w0,ifk,st,fin⟩:=q1 o ll
 have R1:Rw B s (hset h1 n (.fk o ll kvs)) (T.map .im) σ vs { m with H:=upd m.H (m.ad n) (.frz o (.dK ll)) }:=R.drop.set r (look_mem lk) ⟨upd_same,kv.set R.wf (look_mem lk)⟩
 obtain ⟨c2,hc2⟩:∃ c2,(n,c2) ∈ hset h1 n (.fk o ll kvs):=name_hset (look_mem lk)
 have R2:=R1.pin hc2 hn
 obtain ⟨s0,h0,i0,a0⟩:=A.wf2 (T:=T) ⟨_,rfl,R2⟩ w0
 refine ⟨fun i k σ' H'=>k = ll.length - i/\i <= ll.length/\∃ s' h',I i s' h'/\A (B.pin n (m.ad n)) s' h' (T.map .im) σ' vs H',⟨ll.length,by simp,Nat.zero_le _,s0,h0,i0,a0⟩,?_⟩
 rintro i k σ' H' ⟨rfl,hi,s',h',hI,m2,rfl,R3⟩
 have ad:=R3.pinned
 obtain ⟨ef,kv2⟩:=cell_fk R3.wf (ifk i s' h' hI)
 rw [ad] at ef
 by_cases hlt:i < ll.length
 ·refine .inr ⟨⟨ef,hlt⟩,fun σ3 H3=>∃ s3 h3,I (i + 1) s3 h3/\A (B.pin n (m.ad n)) s3 h3 (T.map .im) σ3 vs H3,fun σ3 H3 ⟨s3,h3,i3,a3⟩=>⟨ll.length - (i + 1),by omega,rfl,hlt,s3,h3,i3,a3⟩,fun x H3 y=>?_⟩
  obtain ⟨rfl,kv',hk,rfl⟩:=y
  have hq:∃ q,kvs[i]? = some q/\kv'.1 = q.1:=by
   have hlt':i < kvs.length:=by omega
   exact ⟨kvs[i],by simp [hlt'],(pairedGet kv hk (by simp [hlt'])).1⟩
  obtain ⟨q,hq,ek⟩:=hq
  have ox:(el i).p m2.G (kV kv'.1):=by rw [ek]; exact hel i q hq m2.G
  refine st i s' h' (by omega) hI (B.pin n (m.ad n)) _ σ' _ _ _ _ (R3.push (x:=.im (el i)) ox) fun s2 σ2 h2 H2 q2 a2=>q2 (B.pin n (m.ad n)) T σ2 _ H2 _ r a2 ⟨fun s4 h4 σ4 H4 w5 a4=>a4.wf2 w5,fun x4 h4 v4 H4 q4 a4=>l.rt x4 h4 v4 H4 q4 a4.unpin,fun s4 h4 σ4 H4 q4 a4=>l.nx s4 h4 σ4 H4 q4 a4.unpin,fun s4 h4 σ4 H4 w5 a4=>a4.wf2 w5⟩
 ·have e:i = kvs.length:=by omega
  subst e
  exact .inl ⟨⟨ef,by omega⟩,l.nx s' h' σ' _ (fin s' h' hI) (A.unpin ⟨m2,rfl,R3⟩)⟩
end
def plainC:Ce->Prop
 | .lst xs=>∀ x ∈ xs,plain x
 | .dk kvs=>∀ p ∈ kvs,plain p.2
 | .dt kvs=>∀ p ∈ kvs,plain p.2
 | .ins _ fs=>∀ p ∈ fs,plain p.2
 | .fk _ _ kvs=>∀ p ∈ kvs,plain p.2
theorem plain_map {α:Type} {l:List (α × Sl)} (h:∀ p ∈ l,plain p.2):∀ x ∈ l.map (·.2),plain x:=fun x hx=>by
 obtain ⟨p,hp,rfl⟩:=List.mem_map.mp hx
 exact h p hp
theorem kvs_plain {m m':Mp} {h h':SH} (hG:m'.G = m.G) (hH:m'.H = m.H) (hP:m'.P = m.P) {l:List (Key × V)} {kvs:List (Key × Sl)} (q:Kvs m h l kvs):(∀ p ∈ kvs,plain p.2)->Kvs m' h' l kvs:=by
 induction q with
 | nil=>exact fun _=>.nil
 | cons h1 _ ih=>exact fun z=>.cons ⟨h1.1,ok_plain (z _ List.mem_cons_self) hG hH hP h1.2⟩ (ih fun p hp=>z p (List.mem_cons_of_mem _ hp))
theorem ceOk_plain {m m':Mp} {h h':SH} {a:Addr} {c:Ce} (hc:plainC c) (hG:m'.G = m.G) (hH:m'.H = m.H) (hP:m'.P = m.P) (o:CeOk m h a c):CeOk m' h' a c:=by
 cases c with
 | lst xs=>obtain ⟨vs,e,r⟩:=o; exact ⟨vs,by rw [hH]; exact e,oks_plain hG hH hP hc r⟩
 | dk xs=>obtain ⟨vs,e,r⟩:=o; exact ⟨vs,by rw [hH]; exact e,oks_plain hG hH hP (plain_map hc) r⟩
 | dt xs=>obtain ⟨vs,e,r⟩:=o; exact ⟨vs,by rw [hH]; exact e,oks_plain hG hH hP (plain_map hc) r⟩
 | ins C fs=>obtain ⟨dx,vs,e,r⟩:=o; exact ⟨dx,vs,by rw [hH]; exact e,oks_plain hG hH hP (plain_map hc) r⟩
 | fk ob l xs=>exact ⟨by rw [hH]; exact o.1,kvs_plain hG hH hP o.2 hc⟩
def renC:Sl->Sl
 | .lc _=>.lc 1000
 | x=>x
section
variable {B:Bs} {s:List Sl} {h:SH} {T:List Sl} {σ:L2.St} {vs:List V} {m m':Mp} {n:Nat} {c0 c1:Ce} {h':SH}
abbrev Mp.hand (m:Mp) (n:Nat):Mp:={ m with ad:=fun k=>if k = 1000 then m.ad n else m.ad k }
theorem hand_ad {m:Mp} {n:Nat}:(m.hand n).ad 1000 = m.ad n:=by
 show (if (1000:Nat) = 1000 then m.ad n else m.ad 1000) = m.ad n
 exact if_pos rfl
theorem Rw.turned (R:Rw B s h T σ vs m) (r:∀ a,¬ B.R a) (hn:(n,c0) ∈ h) (F:Fr (bas (m.hand n) [(1000,c0)] [(1000,m.ad n)]) m' h') (W:Wf m' h') (h1:(1000,c1) ∈ h') (pc:plainC c1):Rw B s (hset h n c1) T σ vs { m' with ad:=m.ad }:=by
 obtain ⟨gn,pn,cn⟩:=R.wf.c n c0 hn
 obtain ⟨on,hon⟩:=cn.some
 have aM:m'.ad 1000 = m.ad n:=(F.nd 1000 (m.ad n) List.mem_cons_self).2.1
 have nM:∀ {b},b ≠ m.ad n->¬ (bas (m.hand n) [(1000,c0)] [(1000,m.ad n)]).M b:=fun {b} ne ⟨k,c,e,z⟩=>by
  rcases List.mem_cons.mp e with e | e
  ·cases e; exact ne (by rw [<- z]; exact hand_ad)
  ·cases e
 have bn:∀ b u,B.H b = some u->¬ B.M b->b ≠ m.ad n:=fun b u e nm z=>by
  rcases R.fr.ow n c0 hn with q | q | q
  ·rw [z,q] at e; cases e
  ·exact nm (by rw [z]; exact q)
  ·exact r _ q
 have up:∀ {x v},Ok m h x v->Ok { m' with ad:=m.ad } (hset h n c1) x v:=fun {x v} q=>by
  cases x with
  | no=>exact True.intro
  | im a=>exact a.mono F.gg q
  | lc k=>obtain ⟨⟨ck,e⟩,e2⟩:=q; exact ⟨name_hset e,e2⟩
  | pn=>obtain ⟨p,d,u,h1,h2,h3,h4⟩:=q; exact ⟨p,d,u,h1,(F.pp p).mp h2,F.gg _ _ h3,F.pe p d u h2 h3 h4⟩
 refine ⟨⟨R.fr.gg.trans F.gg,fun b u e n1 n2=>F.hh b u (R.fr.hh b u e n1 n2) (fun z=>n1 ((R.fr.pp b).mpr z)) (nM (bn b u e n2)),fun b e=>F.al b (R.fr.al b e),fun b e=>?_,fun p d u hp hd e=>F.pe p d u ((R.fr.pp p).mp hp) (R.fr.gg _ _ hd) (R.fr.pe p d u hp hd e),fun b=>(R.fr.pp b).trans (F.pp b),fun k ck e=>?_,fun k b e=>?_⟩,
  ⟨W.s,W.p,fun k ck e=>?_,fun k ck k' ck' e e' z=>?_,by rw [hset_names]; exact R.wf.u⟩,R.len,fun i x e=>(R.sl i x e).imp id fun ⟨v,e,q⟩=>⟨v,e,up q⟩,Paired.mapP R.tm fun v x q=>up q⟩
 ·rcases F.fr b e with e | e
  ·exact R.fr.fr b e
  ·refine .inr ?_
   cases q:B.H b with
   | none=>rfl
   | some u=>exact absurd e (R.fr.al b (by rw [q]; exact nofun))
 ·rcases mem_hset e with ⟨rfl,rfl,_⟩ | ⟨_,e⟩
  ·exact R.fr.ow _ c0 hn
  ·exact R.fr.ow k ck e
 ·obtain ⟨h1,h2,ck,h3⟩:=R.fr.nd k b e
  exact ⟨h1,h2,name_hset h3⟩
 ·rcases mem_hset e with ⟨rfl,rfl,_⟩ | ⟨zn,e⟩
  ·obtain ⟨w1,w2,w3⟩:=W.c _ _ h1
   rw [aM] at w1 w2 w3
   exact ⟨w1,w2,ceOk_plain (m:=m') (m':={ m' with ad:=m.ad }) pc rfl rfl rfl w3⟩
  ·obtain ⟨g1,g2,g3⟩:=R.wf.c k ck e
   have ne:m.ad k ≠ m.ad n:=fun z=>zn (R.wf.i k ck n c0 e hn z)
   obtain ⟨o,ho⟩:=g3.some
   refine ⟨?_,fun z=>g2 ((F.pp _).mpr z),?_⟩
   ·show m'.G (m.ad k) = none
    cases q:m'.G (m.ad k) with
    | none=>rfl
    | some u =>
     rcases F.fr _ (by rw [q]; exact nofun) with z | z
     ·exact absurd g1 z
     ·have z':m.H (m.ad k) = none:=z
      rw [ho] at z'; cases z'
   ·have hh:∀ {u},m.H (m.ad k) = some u->m'.H (m.ad k) = some u:=fun e=>F.hh _ _ e g2 (nM ne)
    show CeOk { m' with ad:=m.ad } (hset h n c1) (m.ad k) ck
    cases ck with
    | lst xs=>obtain ⟨ws,e1,e2⟩:=g3; exact ⟨ws,hh e1,Paired.mapP e2 fun v x q=>up q⟩
    | dk xs=>obtain ⟨ws,e1,e2⟩:=g3; exact ⟨ws,hh e1,Paired.mapP e2 fun v x q=>up q⟩
    | dt xs=>obtain ⟨ws,e1,e2⟩:=g3; exact ⟨ws,hh e1,Paired.mapP e2 fun v x q=>up q⟩
    | ins C fs=>obtain ⟨dx,ws,e1,e2⟩:=g3; exact ⟨dx,ws,hh e1,Paired.mapP e2 fun v x q=>up q⟩
    | fk ob l xs=>obtain ⟨e1,e2⟩:=g3; exact ⟨hh e1,Paired.mapP e2 fun p q r=>⟨r.1,up r.2⟩⟩
 ·have nm:∀ {k ck},(k,ck) ∈ hset h n c1->∃ ck',(k,ck') ∈ h:=fun {k ck} e=>by
   rcases mem_hset e with ⟨rfl,_,e⟩ | ⟨_,e⟩
   ·exact e
   ·exact ⟨_,e⟩
  obtain ⟨_,h1⟩:=nm e
  obtain ⟨_,h2⟩:=nm e'
  exact R.wf.i k _ k' _ h1 h2 z
theorem Rw.claim {l:Addr} {c:Ce} (R:Rw B s h T σ vs m) (fn:free h n) (f1:B.H l = none) (gl:m.G l = none) (pl:¬ m.P l) (f4:∀ k ck,(k,ck) ∈ h->m.ad k ≠ l) (hc:CeOk { m with ad:=fun k=>if k = n then l else m.ad k } ((n,c) :: h) l c) :
  ∃ m2:Mp,m2.H = m.H/\m2.ad n = l/\Rw B s ((n,c) :: h) T σ vs m2:=by
 let m2:Mp:={ m with ad:=fun k=>if k = n then l else m.ad k }
 have an:m2.ad n = l:=if_pos rfl
 have ne:∀ k ck,(k,ck) ∈ h->k ≠ n:=fun k ck e z=>fn.2 ck (by rw [<- z]; exact e)
 have ak:∀ k ck,(k,ck) ∈ h->m2.ad k = m.ad k:=fun k ck e=>if_neg (ne k ck e)
 have M2:Mv m h m2 ((n,c) :: h):=⟨.refl _,R.wf.s,fun _ _ e _=>e,fun _ e=>e,fun _ e=>.inl e,fun _ _ _ _ _ e=>e,rfl,ak,fun k ck e=>⟨ck,List.mem_cons_of_mem _ e⟩⟩
 refine ⟨m2,rfl,an,⟨R.fr.gg,R.fr.hh,R.fr.al,R.fr.fr,R.fr.pe,R.fr.pp,fun k ck e=>?_,fun k a e=>?_⟩,⟨R.wf.s,R.wf.p,fun k ck e=>?_,fun k ck k' ck' e e' z=>?_,?_⟩,R.len,fun i x e=>(R.sl i x e).imp id fun ⟨v,e,q⟩=>⟨v,e,Ok.mv M2 q⟩,Paired.mapP R.tm fun v x q=>Ok.mv M2 q⟩
 ·rcases List.mem_cons.mp e with e | e
  ·cases e; rw [an]; exact .inl f1
  ·rw [ak k ck e]; exact R.fr.ow k ck e
 ·obtain ⟨h1,h2,ck,h3⟩:=R.fr.nd k a e
  exact ⟨h1,by rw [ak k ck h3]; exact h2,ck,List.mem_cons_of_mem _ h3⟩
 ·rcases List.mem_cons.mp e with e | e
  ·cases e; rw [an]; exact ⟨gl,pl,hc⟩
  ·obtain ⟨h1,h2,h3⟩:=R.wf.c k ck e
   rw [ak k ck e]
   exact ⟨h1,h2,h3.mv M2 h2⟩
 ·rcases List.mem_cons.mp e with e | e
  ·cases e
   rcases List.mem_cons.mp e' with e' | e'
   ·cases e'; rfl
   ·rw [an,ak k' ck' e'] at z
    exact absurd z.symm (f4 k' ck' e')
  ·rcases List.mem_cons.mp e' with e' | e'
   ·cases e'
    rw [an,ak k ck e] at z
    exact absurd z (f4 k ck e)
   ·rw [ak k ck e,ak k' ck' e'] at z
    exact R.wf.i k ck k' ck' e e' z
 ·rw [List.map_cons,List.nodup_cons]
  refine ⟨fun z=>?_,R.wf.u⟩
  obtain ⟨⟨k,ck⟩,e,ek⟩:=List.mem_map.mp z
  exact ne k ck e ek
end
def ResC (h:SH) (n:Nat) (φ:Sl->SH->Prop) (r:Sl) (h':SH):Prop:=∃ c1,(1000,c1) ∈ h'/\plainC c1 /\
 ((∃ a,r = .im a/\φ r (hset h n c1)) ∨ ∃ k c2 n',r = .lc k/\k ≠ 1000/\(k,c2) ∈ h'/\plainC c2/\(n' < 1000/\((hset h n c1).map (·.1)).contains n' = false)/\φ (.lc n') ((n',c2) :: hset h n c1))
section
variable {B:Bs} {s:List Sl} {h:SH} {T:List Sl} {σ:L2.St} {vs:List V} {φ:Sl->SH->Prop} {n:Nat} {c0:Ce}
theorem oks_ren {m:Mp} (hn:(n,c0) ∈ h):∀ {us:List V} {xs:List Sl},(∀ x ∈ xs,plain x ∨ x = .lc n)->Oks m h us xs->Oks (m.hand n) [(1000,c0)] us (xs.map renC)
 | _,_,_,.nil=>.nil
 | _,x :: xs,hx,.cons o r=>by
  refine .cons ?_ (oks_ren hn (fun y hy=>hx y (List.mem_cons_of_mem _ hy)) r)
  rcases hx x List.mem_cons_self with z | z
  ·have e:renC x = x:=by cases x <;> first | rfl | exact z.elim
   rw [e]
   exact ok_plain (m:=m) (m':=m.hand n) z rfl rfl rfl o
  ·subst z
   obtain ⟨_,rfl⟩:=o
   exact ⟨⟨c0,List.mem_cons_self⟩,congrArg V.ref hand_ad.symm⟩
theorem call_cell {sp:Sp} {H:Hp} {Q:VK} {E:XK} {xs:List Sl} {us:List V} (r:∀ a,¬ B.R a) (hn:(n,c0) ∈ h) (pc:plainC c0) (hp:∀ x ∈ xs,plain x ∨ x = .lc n) (c:Cn sp (xs.map renC) [(1000,c0)] (ResC h n φ)) (hl:us.length = xs.length) (a:A B s h (xs ++ T) σ (us ++ vs) H)
  (k:∀ x v h' H',φ x h'->A B s h' (x :: T) σ (v :: vs) H'->Q v H'):sp us H Q E:=by
 obtain ⟨m,rfl,R⟩:=a
 obtain ⟨g1,R1⟩:=R.args hl
 obtain ⟨gn,pn,cn⟩:=R1.wf.c n c0 hn
 have W0:Wf (m.hand n) [(1000,c0)]:=by
  refine ⟨R1.wf.s,R1.wf.p,fun k ck e=>?_,fun k ck k' ck' e e' _=>?_,by simp⟩
  ·rcases List.mem_cons.mp e with e | e
   ·cases e
    have z:(m.hand n).ad 1000 = m.ad n:=hand_ad
    rw [z]
    exact ⟨gn,pn,ceOk_plain (m:=m) (m':=m.hand n) pc rfl rfl rfl cn⟩
   ·cases e
  ·rcases List.mem_cons.mp e with e | e
   ·rcases List.mem_cons.mp e' with e' | e'
    ·cases e; cases e'; rfl
    ·cases e'
   ·cases e
 refine c us (m.hand n) Q E (fun k ck e=>?_) W0 (oks_ren hn hp g1) fun x v h' m' ⟨c1,i1,p1,q⟩ F W o=>?_
 ·rcases List.mem_cons.mp e with e | e
  ·cases e; exact Nat.le_refl _
  ·cases e
 have F':Fr (bas (m.hand n) [(1000,c0)] [(1000,m.ad n)]) m' h':=by
  have z:([(1000,c0)]:SH).map (fun p=>(p.1,(m.hand n).ad p.1)) = [(1000,m.ad n)]:=by
   show [(1000,(m.hand n).ad 1000)] = _
   rw [hand_ad]
  rw [z] at F
  exact F
 have R2:=R1.turned r hn F' W i1 p1
 rcases q with ⟨x,rfl,q⟩ | ⟨k',c2,n',rfl,nk,i2,p2,fn,q⟩
 ·exact k _ _ _ _ q (R2.push o)
 ·obtain ⟨_,rfl⟩:=o
  obtain ⟨w1,w2,w3⟩:=W.c _ _ i2
  have aM:m'.ad 1000 = m.ad n:=(F'.nd 1000 (m.ad n) List.mem_cons_self).2.1
  have fr:m.H (m'.ad k') = none:=by
   rcases F'.ow _ _ i2 with z | ⟨j,cj,e,z⟩ | z
   ·exact z
   ·rcases List.mem_cons.mp e with e | e
    ·cases e
     have z':m.ad n = m'.ad k':=by rw [<- z]; exact hand_ad.symm
     rw [<- aM] at z'
     exact absurd (W.i _ _ _ _ i1 i2 z').symm nk
    ·cases e
   ·exact z.elim
  have f1:B.H (m'.ad k') = none:=by
   cases q:B.H (m'.ad k') with
   | none=>rfl
   | some u=>exact absurd fr (R1.fr.al _ (by rw [q]; exact nofun))
  obtain ⟨m2,e2,a2,R3⟩:=R2.claim (n:=n') (l:=m'.ad k') (c:=c2) (free_of fn.1 fn.2) f1 w1 w2 (fun j cj e z=>by
   obtain ⟨cj',e'⟩:∃ cj',(j,cj') ∈ h:=by
    rcases mem_hset e with ⟨rfl,_,e⟩ | ⟨_,e⟩
    ·exact e
    ·exact ⟨_,e⟩
   obtain ⟨u,hu⟩:=(R1.wf.c j cj' e').2.2.some
   have z':m.ad j = m'.ad k':=z
   rw [z',fr] at hu
   cases hu) (ceOk_plain (m:=m') p2 rfl rfl rfl w3)
  refine k _ _ _ _ q ?_
  rw [<- show m2.H = m'.H from e2]
  exact R3.push ⟨⟨_,List.mem_cons_self⟩,by rw [a2]⟩
variable {D:AE}
theorem ss_dropC {sp:Sp} {t:TA} (q:EA s h t fun xs h1=>∃ n c0,h1.lookup n = some c0/\plainC c0/\(∀ x ∈ xs,plain x ∨ x = .lc n)/\Cn sp (xs.map renC) [(1000,c0)] (ResC h1 n fun _ h2=>D.nx s h2)):SS s h (tDrop (tCall sp [] E0 t)) D:=by
 intro B T σ vs H De r a l
 refine q B _ σ vs H _ a fun xs us h1 H1 ⟨n,c0,lk,pc,hp,c⟩ hl a1=>?_
 rw [List.append_nil]
 exact call_cell r (look_mem lk) pc hp c hl a1 fun x v h' H' q' a'=>l.nx s h' σ H' q' a'.drop
theorem ss_asgC {sp:Sp} {t:TA} {g:TG} (q:EA s h t fun xs h1=>∃ n c0,h1.lookup n = some c0/\plainC c0/\(∀ x ∈ xs,plain x ∨ x = .lc n)/\Cn sp (xs.map renC) [(1000,c0)] (ResC h1 n fun x h2=>EG s h2 x g D.nx)):SS s h (tAsg (tCall sp [] E0 t) g) D:=by
 intro B T σ vs H De r a l
 refine q B _ σ vs H _ a fun xs us h1 H1 ⟨n,c0,lk,pc,hp,c⟩ hl a1=>?_
 rw [List.append_nil]
 exact call_cell r (look_mem lk) pc hp c hl a1 fun x v h' H' q' a'=>q' B _ σ vs v H' _ a' fun s' σ' h2 H2 q2 a2=>l.nx s' h2 σ' H2 q2 a2
end
section
variable {K:PySem.W.Frag} {s:List Sl} {h:SH} {φ:Sl->SH->Prop} {tk tv:TE} {n:Nat}
theorem ev_disp1 (q:(n < 1000/\(h.map (·.1)).contains n = false)/\EV s ((n,.dk []) :: h) tk fun x h1=>EV s h1 tv fun y h2=>∃ k,IsKey K x k/\h2.lookup n = some (.dk [])/\φ (.lc n) (hset h2 n (.dk [(k,y)]))):EV s h (tDisp [(tk,tv)]) φ:=by
 intro B T σ vs H Q a k
 obtain ⟨m,rfl,R⟩:=a
 obtain ⟨fn,q⟩:=q
 intro p hp
 have f1:=(R.fresh hp).1
 obtain ⟨m2,e2,a2,R2⟩:=R.cell (c:=.dk []) (m':={ m with H:=upd m.H p (.dK []) }) (Mv.newO R.wf.s hp) (free_of fn.1 fn.2) hp (R.wf.s.free hp) ⟨[],upd_same,.nil⟩
 have a3:A B s ((n,.dk []) :: h) (.lc n :: T) σ (.ref p :: vs) (upd m.H p (.dK [])):=by
  rw [<- show m2.H = upd m.H p (.dK []) from e2]
  exact R2.push ⟨⟨_,List.mem_cons_self⟩,by rw [a2]⟩
 refine q B _ σ _ _ _ a3 fun x u h1 H1 q1 a4=>q1 B _ σ _ H1 _ a4 fun y w h2 H2 q2 a5=>?_
 obtain ⟨key,ik,lk,hq⟩:=q2
 obtain ⟨m3,rfl,R3⟩:=a5
 obtain ⟨oy,ox⟩:=top2 R3
 have eu:=ik m3 h2 u ox
 subst eu
 obtain ⟨_,ep⟩:=R3.drop.drop.top
 have ep:p = m3.ad n:=by injection ep
 obtain ⟨ll,el,kv⟩:=cell_dk R3.wf lk
 cases kv
 subst ep
 refine ⟨el,[(key,w)],rfl,by simp,k _ _ _ _ hq ?_⟩
 have o3:=oks_set (c:=.dk [(key,y)]) (o:=.dK (mergeK [] [(key,w)])) R3.wf (look_mem lk) (.cons oy .nil)
 refine Rw.push (R3.drop.drop.drop.setW (c:=.dk [(key,y)]) (o:=.dK (mergeK [] [(key,w)])) (fun b u e _ z=>?_) (look_mem lk) ?_) ⟨name_hset (look_mem lk),rfl⟩
 ·rw [z,f1] at e; cases e
 ·exact ⟨[w],upd_same,o3⟩
theorem ev_dlen {te:TE} (q:EV s h te fun x h1=>∃ n kvs,x = .lc n/\IsDk h1 n kvs/\φ (imd K (iDT kvs.length)) h1):EV s h (tCB (rLenD K) (tCons te tNil)) φ:=by
 intro B T σ vs H Q a k
 refine q B T σ vs H _ a fun x v h1 H1 ⟨n,kvs,e,lk,hq⟩ a1=>?_
 subst e
 obtain ⟨m,rfl,R⟩:=a1
 obtain ⟨_,rfl⟩:=R.top
 obtain ⟨ll,el,kv⟩:=IsDk.view R.wf lk
 refine .inr ⟨_,ll,rfl,el,?_⟩
 rw [Paired.length kv]
 exact k _ _ _ _ hq (R.drop.push (rv_int (K:=K) m.G))
end
def t_add_still_steps (K:PySem.W.Frag) (C_Machine:Addr) (sp_Machine_goals:Sp) (a_STILL:Addr):TS :=
 tSeq (tAsg (tCB (rListA K) (tCons (tVar 1) tNil)) (gName 2))
 (tWhile (tTest (tOp rGtI (tCB (rLen K) (tCons (tVar 2) tNil)) (tC (.int 0)))) (tSeq (tAsg (tBM0 K "list" rPop (tVar 2)) (gName 3))
 (tFor (iList K (tMeth C_Machine "goals" sp_Machine_goals [] E0 (tVar 0) (tCons (tVar 3) (tCons (tC (.ref a_STILL)) tNil)))) (gName 4) (tIfS (tB (tDNotIn K (tVar 4) (tVar 1))) (tSeq (sDPut (tVar 1) (tVar 4) (tTup (tCons (tVar 3) (tCons (tC (.ref a_STILL)) (tCons (tVar 4) tNil)))))
 (tDrop (tBM K "list" rAppend (tVar 2) (tCons (tVar 4) tNil)))) (tNext)))))
def N_add_still_steps:List Str:=["M","steps","waiting","room","goal"]
def ps_add_still_steps:List Str:=["M","steps"]
def t_steps_by (K:PySem.W.Frag) (a_HUSH:Addr) (C_Machine:Addr) (sp_Machine_is_quiet:Sp) (sp_Machine_goals:Sp):TS :=
 tSeq (tAsg (tDNewK) (gName 3))
 (tSeq (tFor (iKeys (tVar 1)) (gName 4) (tIfS (tTest (tOp (rEqD K) (tVar 2) (tC (.ref a_HUSH)))) (tIfS (tB (tMeth C_Machine "is_quiet" sp_Machine_is_quiet [] E0 (tVar 0) (tCons (tVar 4) tNil))) (sDPut (tVar 3) (tVar 4) (tTup (tCons (tVar 4) (tCons (tC (.ref a_HUSH)) (tCons (tVar 4) tNil))))) (tNext)) (tFor (iList K (tMeth C_Machine "goals" sp_Machine_goals [] E0 (tVar 0) (tCons (tVar 4) (tCons (tVar 2) tNil)))) (gName 5) (sDPut (tVar 3) (tVar 5) (tTup (tCons (tVar 4) (tCons (tVar 2) (tCons (tVar 5) tNil))))))))
 (tRet (tVar 3)))
def N_steps_by:List Str:=["M","rooms","sign","steps","room","goal"]
def ps_steps_by:List Str:=["M","rooms","sign"]
def t_steps_along (K:PySem.W.Frag) (sp_add_still_steps:Sp) (sp_steps_by:Sp) (C_Machine:Addr) (sp_Machine_rooms:Sp):TS :=
 tSeq (tAsg (tDisp [(tOp (rIxL K) (tMeth C_Machine "rooms" sp_Machine_rooms [] E0 (tVar 0) tNil) (tC (.int 0)),tC .non)]) (gName 2))
 (tSeq (tAsg (tLst (tCons (tVar 2) tNil)) (gName 3))
 (tSeq (tDrop (tCall sp_add_still_steps [] E0 (tCons (tVar 0) (tCons (tVar 2) tNil))))
 (tSeq (tFor (iList K (tVar 1)) (gName 4) (tSeq (tAsg (tCall sp_steps_by [] E0 (tCons (tVar 0) (tCons (tVar 2) (tCons (tVar 4) tNil)))) (gName 2))
 (tSeq (tDrop (tBM K "list" rAppend (tVar 3) (tCons (tVar 2) tNil)))
 (tDrop (tCall sp_add_still_steps [] E0 (tCons (tVar 0) (tCons (tVar 2) tNil)))))))
 (tRet (tVar 3)))))
def N_steps_along:List Str:=["M","story","steps","along","sign"]
def ps_steps_along:List Str:=["M","story"]
def t_walk_of (K:PySem.W.Frag) (a_STILL:Addr) (sp_steps_along:Sp):TS :=
 tSeq (tAsg (tCall sp_steps_along [] E0 (tCons (tVar 0) (tCons (tVar 1) tNil))) (gName 2))
 (tSeq (tIfS (tTest (tOp rEq (tCB (rLenD K) (tCons (tOp (rIxL K) (tVar 2) (tUn (rU fun i=>.int (-i)) (tC (.int 1)))) tNil)) (tC (.int 0)))) (tRet (tC .non)) (tNext))
 (tSeq (tAsg (tOp (rIxL K) (tCB (rListA K) (tCons (tOp (rIxL K) (tVar 2) (tUn (rU fun i=>.int (-i)) (tC (.int 1)))) tNil)) (tC (.int 0))) (gName 3))
 (tSeq (tAsg (tLst (tNil)) (gName 4))
 (tSeq (tAsg (tBM0 K "list" rPop (tVar 2)) (gName 5))
 (tSeq (tWhile (tB (tNotN (tDGet K (tVar 5) (tVar 3)))) (tSeq (tAsg (tDGet K (tVar 5) (tVar 3)) (gName 6))
 (tSeq (tDrop (tBM K "list" rAppend (tVar 4) (tCons (tVar 6) tNil)))
 (tSeq (tAsg (tOp (rIxT K) (tVar 6) (tC (.int 0))) (gName 3))
 (tIfS (tTest (tOp (rNeD K) (tOp (rIxT K) (tVar 6) (tC (.int 1))) (tC (.ref a_STILL)))) (tAsg (tBM0 K "list" rPop (tVar 2)) (gName 5)) (tNext))))))
 (tSeq (tDrop (tBM0 K "list" rReverse (tVar 4)))
 (tRet (tVar 4))))))))
def N_walk_of:List Str:=["M","story","along","room","walk","steps","step"]
def ps_walk_of:List Str:=["M","story"]
section
variable {K:PySem.W.Frag} {B:Bs} {s:List Sl} {T:List Sl} {σ:L2.St} {vs:List V} {φ:Sl->SH->Prop}
theorem ev_call0 {sp:Sp} {t:TA} (q:EA s [] t fun xs h1=>h1 = []/\(∀ x ∈ xs,plain x)/\Cn sp xs [] φ):EV s [] (tCall sp [] E0 t) φ:=by
 intro B T σ vs H Q a k
 refine q B T σ vs H _ a fun xs us h1 H1 ⟨e,hp,c⟩ hl a1=>?_
 subst e
 rw [List.append_nil]
 obtain ⟨m,rfl,R⟩:=a1
 obtain ⟨g1,R1⟩:=R.args hl
 refine c us m Q _ (fun _ _ e=>nomatch e) R1.wf g1 fun r v h' m' q F W o=>?_
 have nM:∀ a,¬ ∃ n c,(n,c) ∈ ([]:SH)/\m.ad n = a:=fun a ⟨_,_,e,_⟩=>nomatch e
 have up:∀ {x v},Ok m [] x v->Ok m' h' x v:=fun {x v} q=>by
  cases x with
  | no=>exact True.intro
  | im a=>exact a.mono F.gg q
  | lc k=>obtain ⟨⟨ck,e⟩,e2⟩:=q; cases e
  | pn=>obtain ⟨p,d,u,h1,h2,h3,h4⟩:=q; exact ⟨p,d,u,h1,(F.pp p).mp h2,F.gg _ _ h3,F.pe p d u h2 h3 h4⟩
 have bn:∀ {b},m.H b = none->B.H b = none:=fun {b} e=>by
  cases q:B.H b with
  | none=>rfl
  | some u=>exact absurd e (R1.fr.al b (by rw [q]; exact nofun))
 refine k r v h' m'.H q ⟨m',rfl,⟨R1.fr.gg.trans F.gg,fun b u e n1 n2=>F.hh b u (R1.fr.hh b u e n1 n2) (fun z=>n1 ((R1.fr.pp b).mpr z)) (nM b),fun b e=>F.al b (R1.fr.al b e),fun b e=>?_,fun p d u hp hd e=>F.pe p d u ((R1.fr.pp p).mp hp) (R1.fr.gg _ _ hd) (R1.fr.pe p d u hp hd e),fun b=>(R1.fr.pp b).trans (F.pp b),fun k ck e=>?_,fun k b e=>?_⟩,W,R1.len,fun i x e=>(R1.sl i x e).imp id fun ⟨v,e,q⟩=>⟨v,e,up q⟩,.cons o (Paired.mapP R1.tm fun v x q=>up q)⟩
 ·rcases F.fr b e with e | e
  ·exact R1.fr.fr b e
  ·exact .inr (bn e)
 ·rcases F.ow k ck e with z | z | z
  ·exact .inl (bn z)
  ·exact absurd z (nM _)
  ·exact z.elim
 ·obtain ⟨_,_,_,z⟩:=R1.fr.nd k b e
  cases z
end
def sp_mgoalsK (K:PySem.W.Frag) (C:Addr):Sp:=fun vs H Q _=>∃ (x s:Addr) (r:Str) (sg asks says rooms:List Str) (ds:List Door),vs = [.ref x,.str r,.ref s]/\MachAt C H x asks says rooms ds/\SqT K H s (sg.map V.str) /\
 ∀ (l:Addr) (H':Hp),H' l = some (.lst ((goalsOf ds (r,sg)).map V.str))->H l = none->Same H H'->Q (.ref l) H'
theorem tkIns_s {K:PySem.W.Frag} {H:Hp}:∀ xs:List Str,TKIns K H (xs.map sTK) (xs.map V.str)
 | []=>by unfold TKIns; rfl
 | x :: xs=>by
  rw [List.map_cons,List.map_cons]
  unfold TKIns
  exact ⟨_,_,rfl,by unfold sTK TKIn; rfl,tkIns_s xs⟩
theorem rd_mgoalsK {K:PySem.W.Frag} {C:Addr} (M:MC K C) {vs:List V} {H:Hp} {Q:VK} {E:XK} (h:sp_mgoalsK K C vs H Q E):t_Machine_goals K { nx:=fun _ H'=>Q .non H',rt:=Q } (start N_Machine_goals vs) H:=by
 obtain ⟨x,s,r,sgn,asks,says,rooms,ds,rfl,h,hs,k⟩:=h
 obtain ⟨dx,fs,o1,o2,o3,o4,lv,qu,sg,sl,ts,lps,gps,sps,g1,a1,a2,a3,a4,b1,b2,b3,b4,b5,b6,b7,b8,L,c1,c2,c3,c4,G,d1,d2,d3⟩:=h.at_
 have nod:=h.ok.okR.1
 refine ⟨_,rfl,x,C,dx,fs,.ref sg,rfl,g1,M.cls,M.a7,b7,sg,rfl,.inr ⟨_,.inl G.g⟩,_,rfl,_,rfl,(by show 2 <= sizeLine; decide),fun kt hkt=>⟨(by show 0 <= sizeLine; decide),fun et het=>⟨valV (kvOf sgk gps) (sgk (r,sgn)),.inr ⟨_,sgk (r,sgn),kt,.inl (kp (kp G.g hkt) het),rfl,?_,sgk_depth _,rfl⟩,?_⟩⟩⟩
 ·unfold sgk TKIn
  refine ⟨kt,_,rfl,SqT.of (kp upd_same het),?_⟩
  unfold TKIns
  refine ⟨_,_,rfl,by unfold sTK TKIn; rfl,?_⟩
  unfold TKIns
  refine ⟨_,_,rfl,?_,by unfold TKIns; rfl⟩
  unfold gTK TKIn
  exact ⟨s,_,rfl,SqT.same ((Same.new hkt).trans (Same.new het)) hs,tkIns_s sgn⟩
 have S2:Same H (upd (upd H kt (.tup [.str r,.ref s])) et (.tup [])):=(Same.new hkt).trans (Same.new het)
 by_cases hmem:(r,sgn) ∈ gps.map (·.1)
 ·obtain ⟨⟨y,a⟩,hra,er⟩:=List.mem_map.mp hmem
  obtain rfl:y = (r,sgn):=er
  rw [kv_some sgk_inj G.nd hra]
  exact .inl ⟨a,_,rfl,.inl (SqL.of (S2 _ _ (G.ls _ hra))),fun l hl=>k l _ upd_same (S2.free hl) (S2.trans (Same.new hl))⟩
 ·rw [kv_none sgk_inj hmem]
  have hnil:goalsOf ds (r,sgn) = []:=goalsOf_nil fun y hy z=>hmem (by rw [<- z]; exact G.all y hy)
  refine .inl ⟨et,[],rfl,.inr (SqT.of upd_same),fun l hl=>k l _ ?_ (S2.free hl) (S2.trans (Same.new hl))⟩
  rw [hnil]
  exact upd_same
section
variable {K:PySem.W.Frag}
theorem cn_mgoalsH {C:Addr} {asks says rooms:List Str} {ds:List Door} {w:Str} {sg:List Str}:Cn (sp_mgoalsK K C) [.im (mv C asks says rooms ds),imd K (sDT w),imd K (gDT sg)] [] (fun r h'=>r = .lc 0/\h' = [(0,.lst (((goalsOf ds (w,sg)).map sDT).map (imd K)))]):=by
 intro us m Q E _ W hx f
 obtain ⟨u,v,y,rfl,⟨x,rfl,hm⟩,hv,hy⟩:=pair3 hx
 have:=ok_str hv
 subst this
 obtain ⟨s,rfl,hs⟩:=sq_of_dr hy
 refine ⟨x,s,w,sg,asks,says,rooms,ds,rfl,hm.same W.s,SqT.same W.s hs,fun l H' h1 h2 h3=>?_⟩
 obtain ⟨F,W'⟩:=fr_same W h3
 exact fin_list W f F W' h2 h1 (plain_d _) (oks_strs _) ⟨rfl,rfl⟩
theorem cn_quietH {C:Addr} {asks says rooms:List Str} {ds:List Door} {w:Str}:Cn (sp_is_quiet C) [.im (mv C asks says rooms ds),imd K (sDT w)] [] (fun r h'=>r = .im (bv (decide (w ∈ rooms.filter (quietB ds))))/\h' = []):=by
 intro us m Q E _ W hx f
 obtain ⟨u,v,rfl,⟨x,rfl,hm⟩,hv⟩:=pair2 hx
 have:=ok_str hv
 subst this
 obtain ⟨F,W'⟩:=fr_same W (.refl m.H)
 exact ⟨x,w,asks,says,rooms,ds,rfl,hm.same W.s,f _ _ [] { m with H:=m.H } ⟨rfl,rfl⟩ F W' rfl⟩
end
abbrev Steps:=List (Str × Option Door)
def stV (K:PySem.W.Frag):Option Door->Sl
 | none=>.im nv
 | some d=>imd K (dDT d)
def kvS (K:PySem.W.Frag) (p:Str × Option Door):Key × Sl:=(.inr p.1,stV K p.2)
def stAt (st:Steps) (r:Str):Option (Option Door):=(st.find? fun p=>decide (p.1 = r)).map (·.2)
def stPut (st:Steps) (r:Str) (d:Option Door):Steps:=if (st.any fun p=>decide (p.1 = r)) = true then st.map (fun p=>if p.1 = r then (p.1,d) else p) else st ++ [(r,d)]
section
variable {K:PySem.W.Frag}
theorem stV_plain (d:Option Door):plain (stV K d):=by cases d <;> exact True.intro
theorem steps_plain (st:Steps):plainC (.dk (st.map (kvS K))):=fun p hp=>by
 obtain ⟨q,_,rfl⟩:=List.mem_map.mp hp
 exact stV_plain _
theorem steps_plainF (o:Obj) (l:List (Key × V)) (st:Steps):plainC (.fk o l (st.map (kvS K))):=fun p hp=>by
 obtain ⟨q,_,rfl⟩:=List.mem_map.mp hp
 exact stV_plain _
theorem isKey_s (w:Str):IsKey K (imd K (sDT w)) (.inr w):=isKey_str rfl
theorem dec_inr (a b:Str):decide ((Sum.inr a:Key) = .inr b) = decide (a = b):=by
 by_cases z:a = b
 ·subst z; simp
 ·rw [decide_eq_false z]; exact decide_eq_false fun e=>z (by injection e)
theorem valS_steps {r:Str}:∀ {st:Steps},valS (st.map (kvS K)) (.inr r) = (stAt st r).map (stV K)
 | []=>rfl
 | (a,d) :: st=>by
  have ih:=valS_steps (r:=r) (st:=st)
  unfold valS stAt at ih ⊢
  rw [List.map_cons,List.find?_cons,List.find?_cons]
  by_cases z:a = r
  ·rw [show decide ((kvS K (a,d)).1 = (Sum.inr r:Key)) = true from (dec_inr a r).trans (decide_eq_true z),show decide ((a,d).1 = r) = true from decide_eq_true z]; rfl
  ·rw [show decide ((kvS K (a,d)).1 = (Sum.inr r:Key)) = false from (dec_inr a r).trans (decide_eq_false z),show decide ((a,d).1 = r) = false from decide_eq_false z]; exact ih
theorem any_steps {r:Str}:∀ {st:Steps},((st.map (kvS K)).any fun kv=>decide (kv.1 = .inr r)) = st.any fun p=>decide (p.1 = r)
 | []=>rfl
 | (a,d) :: st=>by
  rw [List.map_cons,List.any_cons,List.any_cons,any_steps (st:=st)]
  show (decide ((Sum.inr a:Key) = .inr r) || _) = _
  rw [dec_inr]
theorem putS_steps {r:Str} {d:Option Door} {st:Steps}:putS (st.map (kvS K)) (.inr r) (stV K d) = (stPut st r d).map (kvS K):=by
 unfold putS stPut
 rw [any_steps]
 by_cases z:(st.any fun p=>decide (p.1 = r)) = true
 ·rw [if_pos z,if_pos z,List.map_map,List.map_map]
  apply List.map_congr_left
  intro p _
  show (if (Sum.inr p.1:Key) = .inr r then ((Sum.inr p.1:Key),stV K d) else kvS K p) = kvS K (if p.1 = r then (p.1,d) else p)
  by_cases y:p.1 = r
  ·rw [if_pos y,if_pos (by rw [y])]; rfl
  ·rw [if_neg y,if_neg (fun e=>y (by injection e))]
 ·rw [if_neg z,if_neg z,List.map_append]; rfl
theorem stAt_none {st:Steps} {r:Str}:stAt st r = none ↔ r ∉ st.map (·.1):=by
 unfold stAt
 rw [Option.map_eq_none_iff,List.find?_eq_none]
 constructor
 ·intro h e
  obtain ⟨p,hp,e⟩:=List.mem_map.mp e
  exact h p hp (decide_eq_true e)
 ·intro h p hp e
  exact h (List.mem_map.mpr ⟨p,hp,of_decide_eq_true e⟩)
theorem stAt_isSome {st:Steps} {r:Str}:(stAt st r).isSome = decide (r ∈ st.map (·.1)):=by
 by_cases z:r ∈ st.map (·.1)
 ·rw [decide_eq_true z]
  cases q:stAt st r with
  | none=>exact absurd z (stAt_none.mp q)
  | some d=>rfl
 ·rw [decide_eq_false z,stAt_none.mpr z]; rfl
theorem stPut_new {st:Steps} {r:Str} {d:Option Door} (h:r ∉ st.map (·.1)):stPut st r d = st ++ [(r,d)]:=by
 unfold stPut
 rw [if_neg]
 intro e
 obtain ⟨p,hp,e⟩:=List.any_eq_true.mp e
 exact h (List.mem_map.mpr ⟨p,hp,of_decide_eq_true e⟩)
inductive StillOn (ds:List Door):Steps->Steps->Prop
 | refl (st:Steps):StillOn ds st st
 | step {st st':Steps} {d:Door} (h:StillOn ds st st') (hd:d.sg = stillSg) (ha:d.a ∈ st'.map (·.1)) (hb:d.b ∈ goalsOf ds (d.a,d.sg)) (hn:d.b ∉ st'.map (·.1)):StillOn ds st (st' ++ [(d.b,some d)])
theorem StillOn.trans {ds:List Door} {a b c:Steps} (x:StillOn ds a b) (y:StillOn ds b c):StillOn ds a c:=by
 induction y with
 | refl=>exact x
 | step _ hd ha hb hn ih=>exact .step ih hd ha hb hn
theorem StillOn.keys {ds:List Door} {a b:Steps} (x:StillOn ds a b):∀ r ∈ a.map (·.1),r ∈ b.map (·.1):=by
 induction x with
 | refl=>exact fun r h=>h
 | step _ _ _ _ _ ih=>exact fun r h=>by rw [List.map_append]; exact List.mem_append_left _ (ih r h)
theorem StillOn.nodup {ds:List Door} {a b:Steps} (x:StillOn ds a b) (h:(a.map (·.1)).Nodup):(b.map (·.1)).Nodup:=by
 induction x with
 | refl=>exact h
 | @step st' d _ hd ha hb hn ih =>
  rw [List.map_append,List.nodup_append]
  refine ⟨ih,by simp,fun x hx y hy z=>?_⟩
  have e:y = d.b:=by simpa using hy
  exact hn (by rw [<- e,<- z]; exact hx)
end
def sp_addStill (K:PySem.W.Frag) (C:Addr):Sp:=spH 2 fun xs h φ=>∃ asks says rooms ds st,xs = [.im (mv C asks says rooms ds),.lc 1000]/\h = [(1000,.dk (st.map (kvS K)))]/\(st.map (·.1)).Nodup/\(∀ r ∈ st.map (·.1),r ∈ rooms)/\rooms.length <= 9000/\(∀ d ∈ ds,d.b ∈ rooms) /\
 ∀ st' h',StillOn ds st st'->(∀ r ∈ st'.map (·.1),∀ g ∈ goalsOf ds (r,stillSg),g ∈ st'.map (·.1))->(1000,.dk (st'.map (kvS K))) ∈ h'->φ (.im nv) h'
theorem StillOn.rooms {ds:List Door} {rooms:List Str} {a b:Steps} (x:StillOn ds a b) (h:∀ r ∈ a.map (·.1),r ∈ rooms) (hd:∀ d ∈ ds,d.b ∈ rooms) (hg:∀ {w sg g},g ∈ goalsOf ds (w,sg)->(⟨w,sg,g⟩:Door) ∈ ds):∀ r ∈ b.map (·.1),r ∈ rooms:=by
 induction x with
 | refl=>exact h
 | @step st' d _ _ _ hb _ ih =>
  intro r hr
  rw [List.map_append] at hr
  rcases List.mem_append.mp hr with z | z
  ·exact ih r z
  ·have e:r = d.b:=by simpa using z
   rw [e]
   exact hd _ (hg hb)
structure Wt (ds:List Door) (st st':Steps) (wait:List Str):Prop where
 on:StillOn ds st st'
 there:∀ r ∈ wait,r ∈ st'.map (·.1)
 done:∀ r ∈ st'.map (·.1),r ∈ wait ∨ ∀ g ∈ goalsOf ds (r,stillSg),g ∈ st'.map (·.1)
def addI (K:PySem.W.Frag) (M:AV) (rooms:List Str) (ds:List Door) (st:Steps) (k:Nat) (s:List Sl) (h:SH):Prop:=∃ (st':Steps) (wait:List Str),s = [.im M,.lc 1000,.lc 0,.no,.no]/\h = [(0,.lst ((wait.map sDT).map (imd K))),(1000,.dk (st'.map (kvS K)))]/\Wt ds st st' wait/\k = wait.length + 2 * (rooms.length - st'.length)/\k <= 18000
def addJ (K:PySem.W.Frag) (M:AV) (ds:List Door) (st:Steps) (N:Nat) (rooms:List Str) (room:Str) (wait0:List Str) (i:Nat) (s:List Sl) (h:SH):Prop:=∃ (st':Steps) (wait:List Str),s = [.im M,.lc 1000,.lc 0,imd K (sDT room),.no]/\h = [(0,.lst ((wait.map sDT).map (imd K))),(1000,.dk (st'.map (kvS K)))]/\StillOn ds st st'/\room ∈ st'.map (·.1)/\(∀ r ∈ wait,r ∈ st'.map (·.1))/\(∀ r ∈ st'.map (·.1),r = room ∨ r ∈ wait ∨ ∀ g ∈ goalsOf ds (r,stillSg),g ∈ st'.map (·.1)) /\
 (∀ g ∈ (goalsOf ds (room,stillSg)).take i,g ∈ st'.map (·.1))/\wait.length + 2 * (rooms.length - st'.length) < N
theorem ceN_d {K:PySem.W.Frag} (h:SH) (ds:List DT):ceN h (.lst (ds.map (imd K))) = true:=by
 show (ds.map (imd K)).all (hasN h) = true
 rw [List.all_map]; exact List.all_eq_true.mpr fun x _=>rfl
theorem ceN_st {K:PySem.W.Frag} (h:SH) (st:Steps):ceN h (.dk (st.map (kvS K))) = true:=by
 show ((st.map (kvS K)).all fun p=>hasN h p.2) = true
 rw [List.all_map]; exact List.all_eq_true.mpr fun p _=>by
  obtain ⟨a,d⟩:=p
  cases d <;> rfl
theorem fg_add {K:PySem.W.Frag} {s:List Sl} {ds:List DT} {st:Steps} (hs:s.all (hasN [(0,.lst (ds.map (imd K))),(1000,.dk (st.map (kvS K)))]) = true):Fg s [(0,.lst (ds.map (imd K))),(1000,.dk (st.map (kvS K)))] [(0,.lst (ds.map (imd K))),(1000,.dk (st.map (kvS K)))] :=
 ⟨.refl _,hs,by show (ceN _ _ && (ceN _ _ && true)) = true; rw [ceN_d,ceN_st]; rfl,fun n c e _=>e⟩
theorem rd_addStill {K:PySem.W.Frag} {C a:Addr} (ha:∀ G,DR K G (gDT stillSg) (.ref a)) {vs:List V} {H:Hp} {Q:VK} {E:XK} (q:sp_addStill K C vs H Q E):t_add_still_steps K C (sp_mgoalsK K C) a { nx:=fun _ H'=>Q .non H',rt:=Q } (start N_add_still_steps vs) H:=by
 refine body q fun xs h φ ⟨asks,says,rooms,ds,st,e1,e2,hn,hr,hl,hd,f⟩=>?_
 subst e1 e2
 have rm:∀ {st'},StillOn ds st st'->st'.length <= rooms.length:=fun {st'} o=>by
  have:=nodup_le (o.nodup hn) (o.rooms hr hd fun hg=>mem_goalsOf.mp hg)
  simpa using this
 refine ss_seq <| ss_asg <| ev_dlist (K:=K) <| ev_var rfl ⟨1000,st.map (kvS K),((st.map (·.1)).map sDT).map (imd K),rfl,.dk rfl,by simp,fun m h=>?_,.inr (.inr ⟨0,⟨by decide,rfl⟩,eg_name ?_⟩)⟩
 ·have e:((st.map (kvS K)).map fun kv=>kV kv.1) = (st.map (·.1)).map V.str:=by rw [List.map_map,List.map_map]; rfl
  rw [e]
  exact oks_strs _
 refine ss_while (addI K (mv C asks says rooms ds) rooms ds st) ⟨_,_,_,.refl _,fg_add rfl,st,st.map (·.1),rfl,rfl,⟨.refl _,fun r h=>h,fun r h=>.inl h⟩,rfl,by have:=rm (.refl st); rw [List.length_map]; omega⟩ ?_
 rintro k s' h' ⟨st',wait,rfl,rfl,W,rfl,hk⟩
 refine et_test <| ev_I0 (K:=K) <| ev_len (K:=K) <| ev_var rfl ⟨true,_,.c rfl,ev_int (K:=K) ⟨_,_,bv (decide ((0:Int) < ((wait.map sDT).map (imd K)).length)),rfl,rfl,fun _=>rfl,_,rfl,ifB (fun e=>?_) fun e=>?_⟩⟩
 ·rcases List.eq_nil_or_concat wait with z | ⟨w',room,z⟩
  ·subst z; simp at e
  rw [List.concat_eq_append] at z
  subst z
  have ew:((w' ++ [room]).map sDT).map (imd K) = (w'.map sDT).map (imd K) ++ [imd K (sDT room)]:=by simp
  rw [ew]
  refine ss_seq <| ss_pop rfl rfl <| eg_name ?_
  show SS [.im (mv C asks says rooms ds),.lc 1000,.lc 0,imd K (sDT room),.no] [(0,.lst ((w'.map sDT).map (imd K))),(1000,.dk (st'.map (kvS K)))] _ _
  refine ss_for <| ei_list (K:=K) <| ev_meth (K:=K) <| ev_var rfl ⟨_,rfl,inst_mv (.inr (.inl rfl)),ea_cons <| ev_var rfl <| ea_cons <| ev_con (K:=K) (d:=gDT stillSg) ha <| ea_nil ⟨by simp [plain,imd],Cn.imp (cn_mgoalsH (sg:=stillSg)) fun r h' ⟨e1,e2⟩=>.inr ⟨0,((goalsOf ds (room,stillSg)).map sDT).map (imd K),e1,by rw [e2]; rfl,plain_d _,lst_d ⟨_,_,rfl,isF_s,addJ K (mv C asks says rooms ds) ds st ((w' ++ [room]).length + 2 * (rooms.length - st'.length)) rooms room w',?_,?_,?_⟩⟩⟩⟩
  ·refine ⟨_,_,.refl _,fg_add rfl,st',w',rfl,rfl,W.on,W.there room (by simp),fun r h=>W.there r (by simp [h]),fun r h=>?_,by simp,by simp⟩
   rcases W.done r h with z | z
   ·rcases List.mem_append.mp z with z | z
    ·exact .inr (.inl z)
    ·exact .inl (by simpa using z)
   ·exact .inr (.inr z)
  ·rintro i s2 h2 hi ⟨st2,w2,rfl,rfl,on,ir,th,dn,tk,lt⟩
   rw [List.length_map] at hi
   have hg:(goalsOf ds (room,stillSg))[i]? = some (goalsOf ds (room,stillSg))[i]:=by simp [hi]
   generalize (goalsOf ds (room,stillSg))[i] = g at hg
   have ge:elI ((goalsOf ds (room,stillSg)).map fun a=>dv K (sDT a)) i = dv K (sDT g):=by
    unfold elI
    rw [List.getD_eq_getElem?_getD,List.getElem?_map,hg]; rfl
   rw [ge]
   refine eg_name ?_
   show SS [.im (mv C asks says rooms ds),.lc 1000,.lc 0,imd K (sDT room),imd K (sDT g)] _ _ _
   have tk1:∀ {st3:Steps},g ∈ st3.map (·.1)->(∀ x ∈ st2.map (·.1),x ∈ st3.map (·.1))->∀ x ∈ (goalsOf ds (room,stillSg)).take (i + 1),x ∈ st3.map (·.1):=fun {st3} h1 h2 x hx=>by
    rw [List.take_add_one,hg] at hx
    rcases List.mem_append.mp hx with z | z
    ·exact h2 x (tk x z)
    ·have:x = g:=by simpa using z
     rw [this]; exact h1
   refine ss_if <| et_b <| ev_dnotin (K:=K) <| ev_var rfl <| ev_var rfl ⟨1000,st2.map (kvS K),.inr g,rfl,.dk rfl,isKey_s g,_,rfl,?_⟩
   rw [valS_steps,Option.isSome_map,stAt_isSome]
   refine ifB (fun e=>?_) fun e=>?_
   ·have ng:g ∉ st2.map (·.1):=by simpa using e
    have gi:g ∈ goalsOf ds (room,stillSg):=List.mem_of_getElem? hg
    refine ss_seq <| ss_dput (K:=K) <| ev_tup (K:=K) <| ea_cons <| ev_var rfl <| ea_cons <| ev_con (K:=K) (d:=gDT stillSg) ha <| ea_cons <| ev_var rfl <| ea_nil ⟨_,.cons (.cons (.cons .nil)),by show 3 <= sizeLine; decide,ev_var rfl <| ev_var rfl ⟨1000,st2.map (kvS K),.inr g,rfl,rfl,?_,isKey_s g,?_⟩⟩
    ·rw [List.length_map]; have:=rm on; omega
    have ep:putS (st2.map (kvS K)) (.inr g) (imd K (.t [sDT room,gDT stillSg,sDT g])) = (st2 ++ [(g,some (⟨room,stillSg,g⟩:Door))]).map (kvS K):=by
     rw [<- stPut_new ng]; exact putS_steps (d:=some (⟨room,stillSg,g⟩:Door))
    rw [ep]
    show SS _ [(0,.lst ((w2.map sDT).map (imd K))),(1000,.dk ((st2 ++ [(g,some (⟨room,stillSg,g⟩:Door))]).map (kvS K)))] _ _
    have on3:StillOn ds st (st2 ++ [(g,some (⟨room,stillSg,g⟩:Door))]):=.step (d:=⟨room,stillSg,g⟩) on rfl ir gi ng
    have l3:=rm on3
    have k3:∀ x ∈ st2.map (·.1),x ∈ (st2 ++ [(g,some (⟨room,stillSg,g⟩:Door))]).map (·.1):=fun x h=>by rw [List.map_append]; exact List.mem_append_left _ h
    have kg:g ∈ (st2 ++ [(g,some (⟨room,stillSg,g⟩:Door))]).map (·.1):=by rw [List.map_append]; exact List.mem_append_right _ (by simp)
    refine ss_app rfl ⟨_,rfl⟩ <| ev_var rfl ⟨_,rfl,by rw [List.length_map,List.length_map]; omega,?_⟩
    have ew2:(w2.map sDT).map (imd K) ++ [imd K (sDT g)] = ((w2 ++ [g]).map sDT).map (imd K):=by simp
    rw [ew2]
    refine ⟨_,_,.cons (.cons (.cons (.cons (.no (.refl _))))),fg_add rfl,_,w2 ++ [g],rfl,rfl,on3,k3 _ ir,fun r h=>?_,fun r h=>?_,tk1 kg k3,?_⟩
    ·rcases List.mem_append.mp h with z | z
     ·exact k3 r (th r z)
     ·have:r = g:=by simpa using z
      rw [this]; exact kg
    ·rw [List.map_append] at h
     rcases List.mem_append.mp h with z | z
     ·rcases dn r z with y | y | y
      ·exact .inl y
      ·exact .inr (.inl (List.mem_append_left _ y))
      ·exact .inr (.inr fun g' hg'=>k3 g' (y g' hg'))
     ·have:r = g:=by simpa using z
      exact .inr (.inl (List.mem_append_right _ (by simp [this])))
    ·simp only [List.length_append,List.length_cons,List.length_nil] at lt l3 ⊢
     omega
   ·have ig:g ∈ st2.map (·.1):=by simpa using e
    exact ss_nx ⟨_,_,.cons (.cons (.cons (.cons (.no (.refl _))))),fg_add rfl,st2,w2,rfl,rfl,on,ir,th,dn,tk1 ig fun x h=>h,lt⟩
  ·rintro s2 h2 ⟨st2,w2,rfl,rfl,on,ir,th,dn,tk,lt⟩
   rw [List.length_map,List.take_length] at tk
   refine ⟨_,lt,_,_,.cons (.cons (.cons (.no (.refl _)))),fg_add rfl,st2,w2,rfl,rfl,⟨on,th,fun r h=>?_⟩,rfl,Nat.le_trans (Nat.le_of_lt lt) hk⟩
   rcases dn r h with z | z | z
   ·subst z; exact .inr tk
   ·exact .inl z
   ·exact .inr z
 ·have z:wait = []:=by
   cases wait with
   | nil=>rfl
   | cons x l=>simp at e
  subst z
  exact f st' _ W.on (fun r h=>(W.done r h).resolve_left (by simp)) (by simp)
def goalsPut (ds:List Door) (sg:List Str) (r:Str) (gs:List Str) (acc:Steps):Steps:=gs.foldl (fun acc g=>stPut acc g (some ⟨r,sg,g⟩)) acc
def roomPut (rooms:List Str) (ds:List Door) (sg:List Str) (acc:Steps) (r:Str):Steps :=
 if sg = hushSg then (if r ∈ rooms.filter (quietB ds) then stPut acc r (some ⟨r,hushSg,r⟩) else acc) else goalsPut ds sg r (goalsOf ds (r,sg)) acc
def stepsBy (rooms:List Str) (ds:List Door) (sg:List Str) (keys:List Str):Steps:=keys.foldl (roomPut rooms ds sg) []
theorem stPut_keys {st:Steps} {r:Str} {d:Option Door}:(stPut st r d).map (·.1) = if r ∈ st.map (·.1) then st.map (·.1) else st.map (·.1) ++ [r]:=by
 by_cases z:r ∈ st.map (·.1)
 ·rw [if_pos z]
  unfold stPut
  have:(st.any fun p=>decide (p.1 = r)) = true:=by
   obtain ⟨p,hp,e⟩:=List.mem_map.mp z
   exact List.any_eq_true.mpr ⟨p,hp,decide_eq_true e⟩
  rw [if_pos this,List.map_map]
  apply List.map_congr_left
  intro p _
  show (if p.1 = r then (p.1,d) else p).1 = p.1
  by_cases y:p.1 = r
  ·rw [if_pos y]
  ·rw [if_neg y]
 ·rw [if_neg z,stPut_new z,List.map_append]; rfl
structure Kin (rooms:List Str) (st:Steps):Prop where
 nd:(st.map (·.1)).Nodup
 inr:∀ r ∈ st.map (·.1),r ∈ rooms
theorem Kin.put {rooms:List Str} {st:Steps} {r:Str} {d:Option Door} (h:Kin rooms st) (hr:r ∈ rooms):Kin rooms (stPut st r d):=by
 refine ⟨?_,?_⟩ <;> rw [stPut_keys] <;> by_cases z:r ∈ st.map (·.1)
 ·rw [if_pos z]; exact h.nd
 ·rw [if_neg z,List.nodup_append]
  refine ⟨h.nd,by simp,fun x hx y hy e=>z ?_⟩
  have:y = r:=by simpa using hy
  rw [<- this,<- e]; exact hx
 ·rw [if_pos z]; exact h.inr
 ·rw [if_neg z]
  intro x hx
  rcases List.mem_append.mp hx with y | y
  ·exact h.inr x y
  ·have:x = r:=by simpa using y
   rw [this]; exact hr
theorem Kin.len {rooms:List Str} {st:Steps} (h:Kin rooms st):st.length <= rooms.length:=by simpa using nodup_le h.nd h.inr
theorem Kin.goals {rooms:List Str} {ds:List Door} {sg:List Str} {r:Str}:∀ {gs:List Str} {acc:Steps},Kin rooms acc->(∀ g ∈ gs,g ∈ rooms)->Kin rooms (goalsPut ds sg r gs acc)
 | [],_,h,_=>h
 | g :: gs,acc,h,hg=>Kin.goals (ds:=ds) (gs:=gs) (h.put (hg g List.mem_cons_self)) fun x hx=>hg x (List.mem_cons_of_mem _ hx)
theorem Kin.room {rooms:List Str} {ds:List Door} {sg:List Str} {r:Str} {acc:Steps} (h:Kin rooms acc) (hd:∀ d ∈ ds,d.b ∈ rooms):Kin rooms (roomPut rooms ds sg acc r):=by
 unfold roomPut
 by_cases z:sg = hushSg
 ·rw [if_pos z]
  by_cases y:r ∈ rooms.filter (quietB ds)
  ·rw [if_pos y]; exact h.put (List.mem_filter.mp y).1
  ·rw [if_neg y]; exact h
 ·rw [if_neg z]; exact h.goals fun g hg=>hd _ (mem_goalsOf.mp hg)
theorem Kin.by_ {rooms:List Str} {ds:List Door} {sg:List Str} (hd:∀ d ∈ ds,d.b ∈ rooms):∀ (keys:List Str) {acc:Steps},Kin rooms acc->Kin rooms (keys.foldl (roomPut rooms ds sg) acc)
 | [],_,h=>h
 | r :: keys,acc,h=>Kin.by_ hd keys (h.room hd)
theorem stepsBy_kin {rooms:List Str} {ds:List Door} {sg:List Str} (hd:∀ d ∈ ds,d.b ∈ rooms) (keys:List Str):Kin rooms (stepsBy rooms ds sg keys):=Kin.by_ hd keys ⟨List.nodup_nil,by simp⟩
theorem stepsBy_snoc {rooms:List Str} {ds:List Door} {sg:List Str} {keys:List Str} {i:Nat} {r:Str} (h:keys[i]? = some r):stepsBy rooms ds sg (keys.take (i + 1)) = roomPut rooms ds sg (stepsBy rooms ds sg (keys.take i)) r:=by
 unfold stepsBy
 rw [List.take_add_one,h,List.foldl_append]; rfl
def sp_stepsBy (K:PySem.W.Frag) (C:Addr):Sp:=spH 3 fun xs h φ=>∃ (asks says rooms:List Str) (ds:List Door) (st:Steps) (sg:List Str),xs = [.im (mv C asks says rooms ds),.lc 1000,imd K (gDT sg)]/\h = [(1000,.dk (st.map (kvS K)))]/\rooms.length <= 9000/\(∀ d ∈ ds,d.b ∈ rooms) /\
 ∀ o l,φ (.lc 0) [(0,.dk ((stepsBy rooms ds sg (st.map (·.1))).map (kvS K))),(1000,.fk o l (st.map (kvS K)))]
theorem ceN_fk {K:PySem.W.Frag} (h:SH) (o:Obj) (l:List (Key × V)) (st:Steps):ceN h (.fk o l (st.map (kvS K))) = true:=ceN_st (K:=K) h st
theorem fg_by {K:PySem.W.Frag} {s:List Sl} {o:Obj} {l:List (Key × V)} {a st:Steps} (hs:s.all (hasN [(0,.dk (a.map (kvS K))),(1000,.fk o l (st.map (kvS K)))]) = true):Fg s [(0,.dk (a.map (kvS K))),(1000,.fk o l (st.map (kvS K)))] [(0,.dk (a.map (kvS K))),(1000,.fk o l (st.map (kvS K)))] :=
 ⟨.refl _,hs,by show (ceN _ _ && (ceN _ _ && true)) = true; rw [ceN_fk,ceN_st]; rfl,fun n c e _=>e⟩
def keyAt (st:Steps) (i:Nat):Str:=(st.map (·.1)).getD i ("":Str)
theorem keyAt_of {st:Steps} {i:Nat} {p:Str × Option Door} (h:st[i]? = some p):keyAt st i = p.1:=by
 unfold keyAt
 rw [List.getD_eq_getElem?_getD,List.getElem?_map,h]; rfl
theorem rd_stepsBy {K:PySem.W.Frag} {C hu:Addr} (hh:∀ G,DR K G (gDT hushSg) (.ref hu)) {vs:List V} {H:Hp} {Q:VK} {E:XK} (q:sp_stepsBy K C vs H Q E):t_steps_by K hu C (sp_is_quiet C) (sp_mgoalsK K C) { nx:=fun _ H'=>Q .non H',rt:=Q } (start N_steps_by vs) H:=by
 refine body q fun xs h φ ⟨asks,says,rooms,ds,st,sg,e1,e2,hl,hd,f⟩=>?_
 subst e1 e2
 refine ss_seq <| ss_asg <| ev_dnew (n:=0) ⟨⟨by decide,rfl⟩,eg_name ?_⟩
 refine ss_seq <| ss_forK <| ev_var rfl ⟨1000,st.map (kvS K),rfl,Nat.le_refl _,rfl,fun i=>dv K (sDT (keyAt st i)),fun i kv e G=>?_,fun o l=>⟨fun i s h=>s = [.im (mv C asks says rooms ds),.lc 1000,imd K (gDT sg),.lc 0,.no,.no]/\h = [(0,.dk ((stepsBy rooms ds sg ((st.map (·.1)).take i)).map (kvS K))),(1000,.fk o l (st.map (kvS K)))],?_,?_,?_,?_⟩⟩
 ·rw [List.getElem?_map] at e
  obtain ⟨p,hp,rfl⟩:=Option.map_eq_some_iff.mp e
  show (dv K (sDT (keyAt st i))).p G (.str p.1)
  rw [keyAt_of hp]
  exact rv_str (K:=K) G
 ·exact ⟨_,_,.refl _,fg_by (a:=[]) rfl,rfl,rfl⟩
 ·rintro i s h ⟨rfl,rfl⟩; rfl
 ·rintro i s h hi ⟨rfl,rfl⟩
  rw [List.length_map] at hi
  have hp:(st.map (·.1))[i]? = some (keyAt st i):=by
   have h1:st[i]? = some st[i]:=by simp [hi]
   rw [keyAt_of h1,List.getElem?_map,h1]; rfl
  refine eg_name ?_
  show SS [.im (mv C asks says rooms ds),.lc 1000,imd K (gDT sg),.lc 0,imd K (sDT (keyAt st i)),.no] _ _ _
  generalize keyAt st i = r at hp ⊢
  have kin:=stepsBy_kin (sg:=sg) hd ((st.map (·.1)).take i)
  dsimp only
  rw [stepsBy_snoc hp]
  generalize stepsBy rooms ds sg ((st.map (·.1)).take i) = acc at kin
  refine ss_if <| et_test <| ev_eqD (K:=K) <| ev_var rfl <| ev_con (K:=K) (d:=gDT hushSg) hh ⟨_,_,.d,.d,dpG _,dpG _,_,rfl,ifB (fun e=>?_) fun e=>?_⟩
  ·have es:sg = hushSg:=gDT_inj (of_decide_eq_true e)
   refine ss_if <| et_b <| ev_meth (K:=K) <| ev_var rfl ⟨_,rfl,inst_mv (.inl rfl),ea_cons <| ev_var rfl <| ea_nil ⟨by simp [plain,imd],Cn.imp cn_quietH fun r' h' ⟨e1,e2⟩=>.inl ⟨_,e1,_,e1,ifB (fun e=>?_) fun e=>?_⟩⟩⟩
   ·have y:=of_decide_eq_true e
    refine ss_dput (K:=K) <| ev_tup (K:=K) <| ea_cons <| ev_var rfl <| ea_cons <| ev_con (K:=K) (d:=gDT hushSg) hh <| ea_cons <| ev_var rfl <| ea_nil ⟨_,.cons (.cons (.cons .nil)),by show 3 <= sizeLine; decide,ev_var rfl <| ev_var rfl ⟨0,acc.map (kvS K),.inr r,rfl,rfl,?_,isKey_s r,?_⟩⟩
    ·rw [List.length_map]; have:=kin.len; omega
    have ep:putS (acc.map (kvS K)) (.inr r) (imd K (.t [sDT r,gDT hushSg,sDT r])) = (roomPut rooms ds sg acc r).map (kvS K):=by
     unfold roomPut; rw [if_pos es,if_pos y]; exact putS_steps (d:=some (⟨r,hushSg,r⟩:Door))
    rw [ep]
    exact ⟨_,_,.cons (.cons (.cons (.cons (.no (.refl _))))),fg_by rfl,rfl,rfl⟩
   ·have y:=of_decide_eq_false e
    have ep:roomPut rooms ds sg acc r = acc:=by unfold roomPut; rw [if_pos es,if_neg y]
    rw [ep]
    exact ss_nx ⟨_,_,.cons (.cons (.cons (.cons (.no (.refl _))))),fg_by rfl,rfl,rfl⟩
  ·have es:sg ≠ hushSg:=fun z=>of_decide_eq_false e (by rw [z])
   have ep:roomPut rooms ds sg acc r = goalsPut ds sg r (goalsOf ds (r,sg)) acc:=by unfold roomPut; rw [if_neg es]
   rw [ep]
   refine ss_for <| ei_list (K:=K) <| ev_meth (K:=K) <| ev_var rfl ⟨_,rfl,inst_mv (.inr (.inl rfl)),ea_cons <| ev_var rfl <| ea_cons <| ev_var rfl <| ea_nil ⟨by simp [plain,imd],Cn.imp (cn_mgoalsH (sg:=sg)) fun r' h' ⟨e1,e2⟩=>.inr ⟨0,((goalsOf ds (r,sg)).map sDT).map (imd K),e1,by rw [e2]; rfl,plain_d _,lst_d ⟨_,_,rfl,isF_s,fun j s h=>s = [.im (mv C asks says rooms ds),.lc 1000,imd K (gDT sg),.lc 0,imd K (sDT r),.no]/\h = [(0,.dk ((goalsPut ds sg r ((goalsOf ds (r,sg)).take j) acc).map (kvS K))),(1000,.fk o l (st.map (kvS K)))],?_,?_,?_⟩⟩⟩⟩
   ·exact ⟨_,_,.refl _,fg_by rfl,rfl,rfl⟩
   ·rintro j s2 h2 hj ⟨rfl,rfl⟩
    rw [List.length_map] at hj
    have hg:(goalsOf ds (r,sg))[j]? = some (goalsOf ds (r,sg))[j]:=by simp [hj]
    generalize (goalsOf ds (r,sg))[j] = g at hg
    have ge:elI ((goalsOf ds (r,sg)).map fun a=>dv K (sDT a)) j = dv K (sDT g):=by
     unfold elI
     rw [List.getD_eq_getElem?_getD,List.getElem?_map,hg]; rfl
    rw [ge]
    refine eg_name ?_
    show SS [.im (mv C asks says rooms ds),.lc 1000,imd K (gDT sg),.lc 0,imd K (sDT r),imd K (sDT g)] _ _ _
    have kin2:Kin rooms (goalsPut ds sg r ((goalsOf ds (r,sg)).take j) acc):=kin.goals fun x hx=>hd _ (mem_goalsOf.mp (List.mem_of_mem_take hx))
    have e2:goalsPut ds sg r ((goalsOf ds (r,sg)).take (j + 1)) acc = stPut (goalsPut ds sg r ((goalsOf ds (r,sg)).take j) acc) g (some ⟨r,sg,g⟩):=by
     unfold goalsPut
     rw [List.take_add_one,hg,List.foldl_append]; rfl
    dsimp only
    rw [e2]
    generalize goalsPut ds sg r ((goalsOf ds (r,sg)).take j) acc = ac2 at kin2
    refine ss_dput (K:=K) <| ev_tup (K:=K) <| ea_cons <| ev_var rfl <| ea_cons <| ev_var rfl <| ea_cons <| ev_var rfl <| ea_nil ⟨_,.cons (.cons (.cons .nil)),by show 3 <= sizeLine; decide,ev_var rfl <| ev_var rfl ⟨0,ac2.map (kvS K),.inr g,rfl,rfl,?_,isKey_s g,?_⟩⟩
    ·rw [List.length_map]; have:=kin2.len; omega
    have ep:putS (ac2.map (kvS K)) (.inr g) (imd K (.t [sDT r,gDT sg,sDT g])) = (stPut ac2 g (some ⟨r,sg,g⟩)).map (kvS K):=putS_steps (d:=some (⟨r,sg,g⟩:Door))
    rw [ep]
    exact ⟨_,_,.cons (.cons (.cons (.cons (.cons (.no (.refl _)))))),fg_by rfl,rfl,rfl⟩
   ·rintro s2 h2 ⟨rfl,rfl⟩
    rw [List.length_map,List.take_length]
    exact ⟨_,_,.cons (.cons (.cons (.cons (.no (.refl _))))),fg_by rfl,rfl,rfl⟩
 ·rintro s h ⟨rfl,rfl⟩
  refine ss_ret <| ev_var rfl ?_
  rw [List.length_map,List.take_of_length_le (by simp)]
  exact f o l
def t_law_is_walked (K:PySem.W.Frag) (sp_law_is_quiet:Sp):TS :=
 tSeq (tIfS (tNot (tB (tCB (rIsi K) (tCons (tVar 2) (tCons (tC (.ty "list")) tNil))))) (tRet (tC (.bl false))) (tNext))
 (tSeq (tAsg (tOp (rIxL K) (tOp (rIx K) (tVar 0) (tC (.int 2))) (tC (.int 0))) (gName 3))
 (tSeq (tAsg (tLst (tNil)) (gName 4))
 (tSeq (tFor (iList K (tVar 2)) (gName 5) (tSeq (tIfS (tOr (tNot (tB (tCB (rIsi K) (tCons (tVar 5) (tCons (tC (.ty "tuple")) tNil))))) (tOr (tTest (tOp rNe (tCB (rLen K) (tCons (tVar 5) tNil)) (tC (.int 3)))) (tTest (tOp (rNeD K) (tOp (rIx K) (tVar 5) (tC (.int 0))) (tVar 3))))) (tRet (tC (.bl false))) (tNext))
 (tSeq (tIfS (tTest (tOp (rEqD K) (tOp (rIx K) (tVar 5) (tC (.int 1))) (tTup (tCons (tC (.str "hush")) tNil)))) (tIfS (tOr (tTest (tOp (rNeD K) (tOp (rIx K) (tVar 5) (tC (.int 2))) (tVar 3))) (tNot (tB (tCall sp_law_is_quiet [] E0 (tCons (tVar 0) (tCons (tVar 3) tNil)))))) (tRet (tC (.bl false))) (tNext)) (tIfS (tTest (tOp (rInD K true) (tVar 5) (tOp (rIx K) (tVar 0) (tC (.int 3))))) (tRet (tC (.bl false))) (tNext)))
 (tSeq (tIfS (tTest (tOp (rNeD K) (tOp (rIx K) (tVar 5) (tC (.int 1))) (tTup (tCons (tC (.str "still")) tNil)))) (tDrop (tBM K "list" rAppend (tVar 4) (tCons (tOp (rIx K) (tVar 5) (tC (.int 1))) tNil))) (tNext))
 (tAsg (tOp (rIx K) (tVar 5) (tC (.int 2))) (gName 3))))))
 (tRet (tOp (rEqD K) (tVar 4) (tVar 1))))))
def N_law_is_walked:List Str:=["told","story","walk","room","heard","step"]
def ps_law_is_walked:List Str:=["told","story","walk"]
def t_law19 (K:PySem.W.Frag) (sp_law_face:Sp) (sp_law_is_walked:Sp) (sp_walk_of:Sp) (sp_law_odd:Sp) (sp_law_story:Sp) (sp_law_machine:Sp) (sp_law_model:Sp) (sp_law_open:Sp):TS :=
 tSeq (tAsg (tCall sp_law_open [] E0 (tCons (tVar 0) tNil)) (gName 1))
 (tSeq (tAsg (tCall sp_law_model [] E0 (tCons (tVar 1) (tCons (tC (.int 5)) (tCons (tC (.int 0)) tNil)))) (gName 2))
 (tSeq (tAsg (tCall sp_law_machine [] E0 (tCons (tVar 2) tNil)) (gName 3))
 (tSeq (tAsg (tLst (tCons (tCall sp_law_story [] E0 (tCons (tVar 1) (tCons (tVar 2) (tCons (tC (.int 12)) tNil)))) (tCons (tCall sp_law_odd [] E0 (tCons (tVar 1) (tCons (tVar 2) (tCons (tCall sp_law_story [] E0 (tCons (tVar 1) (tCons (tVar 2) (tCons (tC (.int 12)) tNil)))) tNil)))) tNil))) (gName 4))
 (tSeq (tFor (iList K (tOp rCat (tVar 4) (tSl (rSlL K) (tVar 4) (tNoPart) (tPart (tC (.int 1)))))) (gName 5) (tSeq (tAsg (tCB (rListA K) (tCons (tVar 5) tNil)) (gName 6))
 (tSeq (tAsg (tCall sp_walk_of [] E0 (tCons (tVar 3) (tCons (tVar 6) tNil))) (gName 7))
 (tSeq (tIfS (tTest (tOp (rNeD K) (tVar 6) (tVar 5))) (tRet (tC (.bl false))) (tNext))
 (tIfS (tTest (tOp (rEqD K) (tCall sp_law_face [] E0 (tCons (tVar 2) (tCons (tVar 5) tNil))) (tTup (tNil)))) (tIfS (tB (tNotN (tVar 7))) (tRet (tC (.bl false))) (tNext)) (tIfS (tNot (tB (tCall sp_law_is_walked [] E0 (tCons (tVar 2) (tCons (tVar 5) (tCons (tVar 7) tNil)))))) (tRet (tC (.bl false))) (tDrop (tBM K "list" rAppend (tVar 7) (tCons (tTup (tCons (tOp (rIxL K) (tOp (rIx K) (tVar 2) (tC (.int 2))) (tC (.int 0))) (tCons (tTup (tCons (tC (.str "still")) tNil)) (tCons (tOp (rIxL K) (tOp (rIx K) (tVar 2) (tC (.int 2))) (tC (.int 0))) tNil)))) tNil)))))))))
 (tRet (tC (.bl true)))))))
def t_law19r (K:PySem.W.Frag) (sp_law_face:Sp) (sp_law_is_walked:Sp) (sp_walk_of:Sp) (sp_law_odd:Sp) (sp_law_story:Sp) (sp_law_machine:Sp) (sp_law_model:Sp) (sp_law_open:Sp):TS :=
 tSeq (tFor (iList K (tOp rCat (tVar 4) (tSl (rSlL K) (tVar 4) (tNoPart) (tPart (tC (.int 1)))))) (gName 5) (tSeq (tAsg (tCB (rListA K) (tCons (tVar 5) tNil)) (gName 6))
 (tSeq (tAsg (tCall sp_walk_of [] E0 (tCons (tVar 3) (tCons (tVar 6) tNil))) (gName 7))
 (tSeq (tIfS (tTest (tOp (rNeD K) (tVar 6) (tVar 5))) (tRet (tC (.bl false))) (tNext))
 (tIfS (tTest (tOp (rEqD K) (tCall sp_law_face [] E0 (tCons (tVar 2) (tCons (tVar 5) tNil))) (tTup (tNil)))) (tIfS (tB (tNotN (tVar 7))) (tRet (tC (.bl false))) (tNext)) (tIfS (tNot (tB (tCall sp_law_is_walked [] E0 (tCons (tVar 2) (tCons (tVar 5) (tCons (tVar 7) tNil)))))) (tRet (tC (.bl false))) (tDrop (tBM K "list" rAppend (tVar 7) (tCons (tTup (tCons (tOp (rIxL K) (tOp (rIx K) (tVar 2) (tC (.int 2))) (tC (.int 0))) (tCons (tTup (tCons (tC (.str "still")) tNil)) (tCons (tOp (rIxL K) (tOp (rIx K) (tVar 2) (tC (.int 2))) (tC (.int 0))) tNil)))) tNil)))))))))
 (tRet (tC (.bl true)))
def N_law19:List Str:=["script","pen","told","made","stories","story","handed","found"]
def ps_law19:List Str:=["script"]
def firstR (rooms:List Str):Str:=rooms.headD ""
theorem ModelOk.first {asks says rooms:List Str} {ds:List Door} (m:ModelOk asks says rooms ds):rooms[0]? = some (firstR rooms)/\firstR rooms ∈ rooms:=by
 have:=m.rooms0
 cases rooms with
 | nil=>exact absurd rfl this
 | cons r l=>exact ⟨rfl,List.mem_cons_self⟩
theorem ModelOk.take1 {asks says rooms:List Str} {ds:List Door} (m:ModelOk asks says rooms ds):rooms.take 1 = [firstR rooms]:=by
 have:=m.rooms0
 cases rooms with
 | nil=>exact absurd rfl this
 | cons r l=>rfl
def goL (ds:List Door):Str->List Door->Bool
 | _,[]=>true
 | r,d :: w=>decide (d.a = r) && ((if d.sg = hushSg then decide (d.b = r) && decide (r ∉ loudOf ds) else decide (d ∈ ds)) && goL ds d.b w)
def heardOf (w:List Door):List (List Str):=(w.filter fun d=>!decide (d.sg = stillSg)).map (·.sg)
theorem heard_app (w v:List Door):heardOf (w ++ v) = heardOf w ++ heardOf v:=by
 unfold heardOf
 rw [List.filter_append,List.map_append]
def stepOk (ds:List Door) (d:Door):Prop:=(d.sg = hushSg->d.b = d.a/\d.a ∉ loudOf ds)/\(d.sg ≠ hushSg->d ∈ ds)
inductive Wlk (ds:List Door) (r0:Str):List Door->Str->Prop
 | nil:Wlk ds r0 [] r0
 | snoc {w:List Door} {d:Door} (h:Wlk ds r0 w d.a) (ok:stepOk ds d):Wlk ds r0 (w ++ [d]) d.b
theorem Wlk.go {ds:List Door} {r0:Str} {w:List Door} {r:Str} (h:Wlk ds r0 w r):∀ v,goL ds r0 (w ++ v) = goL ds r v:=by
 induction h with
 | nil=>intro v; rfl
 | @snoc w d h ok ih =>
  intro v
  rw [List.append_assoc,ih]
  show (decide (d.a = d.a) && ((if d.sg = hushSg then decide (d.b = d.a) && decide (d.a ∉ loudOf ds) else decide (d ∈ ds)) && goL ds d.b v)) = goL ds d.b v
  rw [decide_eq_true rfl]
  by_cases z:d.sg = hushSg
  ·rw [if_pos z,decide_eq_true (ok.1 z).1,decide_eq_true (ok.1 z).2]; rfl
  ·rw [if_neg z,decide_eq_true (ok.2 z)]; rfl
theorem Wlk.ok {ds:List Door} {r0:Str} {w:List Door} {r:Str} (h:Wlk ds r0 w r):goL ds r0 w = true:=by
 have:=h.go []
 rw [List.append_nil] at this
 rw [this]; rfl
theorem stAt_mem {st:Steps} {r:Str} {v:Option Door} (h:stAt st r = some v):(r,v) ∈ st:=by
 unfold stAt at h
 obtain ⟨p,hp,rfl⟩:=Option.map_eq_some_iff.mp h
 have h1:=List.find?_some hp
 have h2:=List.mem_of_find?_eq_some hp
 have e:p.1 = r:=of_decide_eq_true h1
 rw [<- e]; exact h2
theorem stAt_some {st:Steps} {r:Str} (h:r ∈ st.map (·.1)):∃ v,stAt st r = some v:=by
 cases q:stAt st r with
 | none=>exact absurd h (stAt_none.mp q)
 | some v=>exact ⟨v,rfl⟩
theorem stAt_app {st:Steps} {x:Steps} {r:Str} (h:r ∈ st.map (·.1)):stAt (st ++ x) r = stAt st r:=by
 obtain ⟨v,hv⟩:=stAt_some h
 rw [hv]
 unfold stAt at hv ⊢
 obtain ⟨p,hp,rfl⟩:=Option.map_eq_some_iff.mp hv
 rw [List.find?_append,hp]; rfl
theorem stAt_new {st:Steps} {r:Str} {v:Option Door} (h:r ∉ st.map (·.1)):stAt (st ++ [(r,v)]) r = some v:=by
 have h1:=stAt_none.mpr h
 unfold stAt at h1 ⊢
 rw [Option.map_eq_none_iff] at h1
 rw [List.find?_append,h1]
 show ((([(r,v)]:Steps).find? fun p=>decide (p.1 = r)).map (·.2)) = some v
 rw [List.find?_cons,show decide ((r,v).1 = r) = true from decide_eq_true rfl]; rfl
theorem StillOn.at_ {ds:List Door} {a b:Steps} (x:StillOn ds a b) {r:Str} (h:r ∈ a.map (·.1)):stAt b r = stAt a r:=by
 induction x with
 | refl=>rfl
 | step y _ _ _ _ ih=>rw [stAt_app (y.keys r h),ih]
theorem mem_stPut {st:Steps} {r:Str} {d:Option Door} {p:Str × Option Door} (h:p ∈ stPut st r d):p ∈ st ∨ p = (r,d):=by
 unfold stPut at h
 split at h
 ·obtain ⟨q,hq,e⟩:=List.mem_map.mp h
  by_cases z:q.1 = r
  ·rw [if_pos z] at e; rw [<- e,z]; exact .inr rfl
  ·rw [if_neg z] at e; rw [<- e]; exact .inl hq
 ·rcases List.mem_append.mp h with z | z
  ·exact .inl z
  ·exact .inr (by simpa using z)
theorem mem_stPut_keys {st:Steps} {r:Str} {d:Option Door} {x:Str}:x ∈ (stPut st r d).map (·.1) ↔ x ∈ st.map (·.1) ∨ x = r:=by
 rw [stPut_keys]
 by_cases z:r ∈ st.map (·.1)
 ·rw [if_pos z]
  exact ⟨.inl,fun h=>h.elim id fun e=>by rw [e]; exact z⟩
 ·rw [if_neg z,List.mem_append]; simp
def outOf (rooms:List Str) (ds:List Door) (sg:List Str) (k:Str):List Str:=if sg = hushSg then (if k ∈ rooms.filter (quietB ds) then [k] else []) else goalsOf ds (k,sg)
def ByOk (ds:List Door) (sg:List Str) (ks:List Str) (p:Str × Option Door):Prop:=∃ d,p.2 = some d/\d.b = p.1/\d.sg = sg/\d.a ∈ ks/\stepOk ds d
theorem goalsPut_all {ds:List Door} {sg:List Str} {r:Str} {P:Str × Option Door->Prop}:∀ {gs:List Str} {acc:Steps},(∀ p ∈ acc,P p)->(∀ g ∈ gs,P (g,some ⟨r,sg,g⟩))->∀ p ∈ goalsPut ds sg r gs acc,P p
 | [],_,h,_=>h
 | g :: gs,acc,h,hg=>goalsPut_all (ds:=ds) (gs:=gs) (acc:=stPut acc g (some ⟨r,sg,g⟩)) (fun p hp=>by
   rcases mem_stPut hp with z | z
   ·exact h p z
   ·rw [z]; exact hg g List.mem_cons_self) fun x hx=>hg x (List.mem_cons_of_mem _ hx)
theorem goalsPut_keys {ds:List Door} {sg:List Str} {r x:Str}:∀ {gs:List Str} {acc:Steps},x ∈ (goalsPut ds sg r gs acc).map (·.1) ↔ x ∈ acc.map (·.1) ∨ x ∈ gs
 | [],acc=>by show x ∈ acc.map (·.1) ↔ _; simp
 | g :: gs,acc=>by
  show x ∈ (goalsPut ds sg r gs (stPut acc g (some ⟨r,sg,g⟩))).map (·.1) ↔ _
  rw [goalsPut_keys (ds:=ds) (gs:=gs),mem_stPut_keys,List.mem_cons]
  exact ⟨fun h=>by rcases h with (h | h) | h; exact .inl h; exact .inr (.inl h); exact .inr (.inr h),fun h=>by rcases h with h | h | h; exact .inl (.inl h); exact .inl (.inr h); exact .inr h⟩
theorem roomPut_keys {rooms:List Str} {ds:List Door} {sg:List Str} {acc:Steps} {k x:Str}:x ∈ (roomPut rooms ds sg acc k).map (·.1) ↔ x ∈ acc.map (·.1) ∨ x ∈ outOf rooms ds sg k:=by
 unfold roomPut outOf
 by_cases z:sg = hushSg
 ·rw [if_pos z,if_pos z]
  by_cases y:k ∈ rooms.filter (quietB ds)
  ·rw [if_pos y,if_pos y,mem_stPut_keys]; simp
  ·rw [if_neg y,if_neg y]; simp
 ·rw [if_neg z,if_neg z,goalsPut_keys]
theorem roomPut_ok {rooms:List Str} {ds:List Door} {sg:List Str} {acc:Steps} {k:Str} {ks:List Str} (hk:k ∈ ks) (h:∀ p ∈ acc,ByOk ds sg ks p):∀ p ∈ roomPut rooms ds sg acc k,ByOk ds sg ks p:=by
 unfold roomPut
 by_cases z:sg = hushSg
 ·rw [if_pos z]
  by_cases y:k ∈ rooms.filter (quietB ds)
  ·rw [if_pos y]
   intro p hp
   rcases mem_stPut hp with x | x
   ·exact h p x
   ·rw [x]
    have q:=(List.mem_filter.mp y).2
    rw [quiet_loud] at q
    exact ⟨⟨k,hushSg,k⟩,rfl,rfl,z.symm,hk,fun _=>⟨rfl,of_decide_eq_true q⟩,fun n=>absurd rfl n⟩
  ·rw [if_neg y]; exact h
 ·rw [if_neg z]
  exact goalsPut_all h fun g hg=>⟨⟨k,sg,g⟩,rfl,rfl,rfl,hk,fun e=>absurd e z,fun _=>mem_goalsOf.mp hg⟩
theorem byFold_keys {rooms:List Str} {ds:List Door} {sg:List Str} {x:Str}:∀ {ks:List Str} {acc:Steps},x ∈ (ks.foldl (roomPut rooms ds sg) acc).map (·.1) ↔ x ∈ acc.map (·.1) ∨ ∃ k ∈ ks,x ∈ outOf rooms ds sg k
 | [],acc=>by show x ∈ acc.map (·.1) ↔ _; simp
 | k :: ks,acc=>by
  show x ∈ (ks.foldl (roomPut rooms ds sg) (roomPut rooms ds sg acc k)).map (·.1) ↔ _
  rw [byFold_keys (ks:=ks),roomPut_keys]
  constructor
  ·rintro ((h | h) | ⟨j,hj,h⟩)
   ·exact .inl h
   ·exact .inr ⟨k,List.mem_cons_self,h⟩
   ·exact .inr ⟨j,List.mem_cons_of_mem _ hj,h⟩
  ·rintro (h | ⟨j,hj,h⟩)
   ·exact .inl (.inl h)
   ·rcases List.mem_cons.mp hj with rfl | hj
    ·exact .inl (.inr h)
    ·exact .inr ⟨j,hj,h⟩
theorem byFold_ok {rooms:List Str} {ds:List Door} {sg:List Str} {K:List Str}:∀ {ks:List Str} {acc:Steps},(∀ k ∈ ks,k ∈ K)->(∀ p ∈ acc,ByOk ds sg K p)->∀ p ∈ ks.foldl (roomPut rooms ds sg) acc,ByOk ds sg K p
 | [],_,_,h=>h
 | k :: ks,acc,hk,h=>byFold_ok (ks:=ks) (fun x hx=>hk x (List.mem_cons_of_mem _ hx)) (roomPut_ok (hk k List.mem_cons_self) h)
theorem stepsBy_keys {rooms:List Str} {ds:List Door} {sg ks:List Str} {x:Str}:x ∈ (stepsBy rooms ds sg ks).map (·.1) ↔ ∃ k ∈ ks,x ∈ outOf rooms ds sg k:=by
 unfold stepsBy
 rw [byFold_keys]; simp
theorem stepsBy_ok {rooms:List Str} {ds:List Door} {sg ks:List Str}:∀ p ∈ stepsBy rooms ds sg ks,ByOk ds sg ks p:=byFold_ok (fun _ h=>h) fun _ h=>nomatch h
def StillAll (ds:List Door) (a b:Steps):Prop:=StillOn ds a b/\∀ r ∈ b.map (·.1),∀ g ∈ goalsOf ds (r,stillSg),g ∈ b.map (·.1)
inductive Along (rooms:List Str) (ds:List Door):List (List Str)->List Steps->Steps->Prop
 | nil {st:Steps} (h:StillAll ds [(firstR rooms,none)] st):Along rooms ds [] [] st
 | snoc {story:List (List Str)} {fz:List Steps} {st:Steps} {sg:List Str} {st':Steps} (a:Along rooms ds story fz st) (h:StillAll ds (stepsBy rooms ds sg (st.map (·.1))) st'):Along rooms ds (story ++ [sg]) (st :: fz) st'
theorem StillAll.from_ {ds:List Door} {a b:Steps} (h:StillAll ds a b) {r:Str}:r ∈ b.map (·.1) ↔ From ds (a.map (·.1)) r:=by
 obtain ⟨on,cl⟩:=h
 constructor
 ·clear cl
  intro hr
  induction on generalizing r with
  | refl=>exact ⟨r,hr,.inl rfl⟩
  | @step st' d y hd ha hb hn ih =>
   rw [List.map_append] at hr
   rcases List.mem_append.mp hr with z | z
   ·exact ih z
   ·have e:r = d.b:=by simpa using z
    have hb':(⟨d.a,stillSg,d.b⟩:Door) ∈ ds:=by
     have:=mem_goalsOf.mp hb
     rw [hd] at this; exact this
    obtain ⟨g,hg,q⟩:=ih ha
    rw [e]
    rcases q with q | q
    ·exact ⟨g,hg,.inr (.one (by rw [<- q]; exact hb'))⟩
    ·exact ⟨g,hg,.inr (.step q hb')⟩
 ·rintro ⟨g,hg,rfl | q⟩
  ·exact on.keys _ hg
  ·induction q with
   | one e=>exact cl g (on.keys _ hg) _ (mem_goalsOf.mpr e)
   | step _ e ih=>exact cl _ ih _ (mem_goalsOf.mpr e)
theorem quiet_end {ds:List Door} {r:Str} (h:r ∉ loudOf ds) {g:Str}:(⟨r,stillSg,g⟩:Door) ∉ ds:=fun z=>h (List.mem_map.mpr ⟨_,List.mem_filter.mpr ⟨z,by show (!decide (("still":Str) = "ask")) = true; decide +kernel⟩,rfl⟩)
theorem from_quiet {ds:List Door} {gs:List Str} (h:∀ g ∈ gs,g ∉ loudOf ds) {r:Str}:From ds gs r ↔ r ∈ gs:=by
 constructor
 ·rintro ⟨g,hg,rfl | q⟩
  ·exact hg
  ·exfalso
   have:∀ {x},Reach ds g x->∃ y,(⟨g,stillSg,y⟩:Door) ∈ ds:=by
    intro x q
    induction q with
    | one e=>exact ⟨_,e⟩
    | step _ _ ih=>exact ih
   obtain ⟨y,hy⟩:=this q
   exact quiet_end (h g hg) hy
 ·exact fun hr=>⟨r,hr,.inl rfl⟩
section
variable {asks says rooms:List Str} {ds:List Door}
theorem Along.face (m:ModelOk asks says rooms ds) {story:List (List Str)} {fz:List Steps} {st:Steps} (h:Along rooms ds story fz st):∀ r,r ∈ st.map (·.1) ↔ r ∈ faceOf rooms ds story:=by
 have hd:∀ d ∈ ds,d.b ∈ rooms:=fun d hd=>(m.good d hd).b
 induction h with
 | @nil st h =>
  intro r
  rw [h.from_]
  show _ ↔ r ∈ closF rooms ds (rooms.take 1)
  rw [mem_closF,m.take1]
  have h1:∀ g ∈ [firstR rooms],g ∈ rooms:=fun g hg=>by
   rw [List.mem_singleton.mp hg]; exact m.first.2
  exact ⟨fun q=>⟨q.in_ h1 hd,q⟩,fun q=>q.2⟩
 | @snoc story fz st sg st' a h ih =>
  intro r
  rw [h.from_,faceOf_snoc]
  have hin:∀ k ∈ st.map (·.1),k ∈ rooms:=fun k hk=>(faceOf_ok (by have:=m.rooms26; omega) story).1 k ((ih k).mp hk)
  unfold behF
  by_cases z:sg = hushSg
  ·rw [if_pos z,List.mem_filter,decide_eq_true_iff,<- ih r]
   have ks:∀ g,g ∈ (stepsBy rooms ds sg (st.map (·.1))).map (·.1) ↔ g ∈ st.map (·.1)/\g ∉ loudOf ds:=by
    intro g
    rw [stepsBy_keys]
    constructor
    ·rintro ⟨k,hk,hg⟩
     unfold outOf at hg
     rw [if_pos z] at hg
     by_cases y:k ∈ rooms.filter (quietB ds)
     ·rw [if_pos y] at hg
      have e:g = k:=by simpa using hg
      have q:=(List.mem_filter.mp y).2
      rw [quiet_loud] at q
      rw [e]; exact ⟨hk,of_decide_eq_true q⟩
     ·rw [if_neg y] at hg; cases hg
    ·rintro ⟨hk,hq⟩
     refine ⟨g,hk,?_⟩
     unfold outOf
     rw [if_pos z,if_pos (List.mem_filter.mpr ⟨hin g hk,by rw [quiet_loud]; exact decide_eq_true hq⟩)]
     exact List.mem_cons_self
   rw [from_quiet fun g hg=>((ks g).mp hg).2,ks]
  ·rw [if_neg z,mem_closF]
   have ks:∀ g,g ∈ (stepsBy rooms ds sg (st.map (·.1))).map (·.1) ↔ g ∈ goalsAll ds sg (faceOf rooms ds story):=by
    intro g
    rw [stepsBy_keys,mem_goalsAll]
    unfold outOf
    simp only [if_neg z]
    exact ⟨fun ⟨k,hk,hg⟩=>⟨k,(ih k).mp hk,mem_goalsOf.mp hg⟩,fun ⟨k,hk,hg⟩=>⟨k,(ih k).mpr hk,mem_goalsOf.mpr hg⟩⟩
   constructor
   ·rintro ⟨g,hg,q⟩
    have fr:From ds (goalsAll ds sg (faceOf rooms ds story)) r:=⟨g,(ks g).mp hg,q⟩
    exact ⟨fr.in_ (fun x hx=>by obtain ⟨y,_,hy⟩:=mem_goalsAll.mp hx; exact hd _ hy) hd,fr⟩
   ·rintro ⟨_,g,hg,q⟩
    exact ⟨g,(ks g).mpr hg,q⟩
theorem Along.kin (m:ModelOk asks says rooms ds) {story:List (List Str)} {fz:List Steps} {st:Steps} (h:Along rooms ds story fz st):Kin rooms st:=by
 have hd:∀ d ∈ ds,d.b ∈ rooms:=fun d hd=>(m.good d hd).b
 refine ⟨?_,fun r hr=>(faceOf_ok (by have:=m.rooms26; omega) story).1 r ((h.face m r).mp hr)⟩
 cases h with
 | nil h=>exact h.1.nodup (by simp)
 | snoc a h=>exact h.1.nodup (stepsBy_kin hd _).nd
end
inductive Back:List Steps->Steps->Str->List Door->Prop
 | stop {fz:List Steps} {st:Steps} {r:Str} (h:stAt st r = some none):Back fz st r []
 | still {fz:List Steps} {st:Steps} {r:Str} {d:Door} {ws:List Door} (h:stAt st r = some (some d)) (e:d.sg = stillSg) (b:Back fz st d.a ws):Back fz st r (d :: ws)
 | pop {fz:List Steps} {st st':Steps} {r:Str} {d:Door} {ws:List Door} (h:stAt st r = some (some d)) (e:d.sg ≠ stillSg) (b:Back fz st' d.a ws):Back (st' :: fz) st r (d :: ws)
section
variable {asks says rooms:List Str} {ds:List Door}
theorem back_still {fz:List Steps} {a st:Steps} {story:List (List Str)} {N:Nat} (h:StillOn ds a st) (base:∀ r ∈ a.map (·.1),∃ w,Wlk ds (firstR rooms) w r/\heardOf w = story/\w.length <= N + a.length/\Back fz st r w.reverse) :
  ∀ {b:Steps},StillOn ds a b->StillOn ds b st->∀ r ∈ b.map (·.1),∃ w,Wlk ds (firstR rooms) w r/\heardOf w = story/\w.length <= N + b.length/\Back fz st r w.reverse:=by
 intro b hb
 induction hb with
 | refl=>exact fun _=>base
 | @step b d y hd ha hb hn ih =>
  intro on r hr
  have on':StillOn ds b st:=(StillOn.step (.refl b) hd ha hb hn).trans on
  rw [List.map_append] at hr
  rcases List.mem_append.mp hr with z | z
  ·obtain ⟨w,h1,h2,h3,h4⟩:=ih on' r z
   exact ⟨w,h1,h2,by rw [List.length_append]; omega,h4⟩
  ·have e:r = d.b:=by simpa using z
   obtain ⟨w,h1,h2,h3,h4⟩:=ih on' d.a ha
   have hmem:d.b ∈ (b ++ [(d.b,some d)]).map (·.1):=by rw [List.map_append]; exact List.mem_append_right _ (by simp)
   have hat:stAt st d.b = some (some d):=by rw [on.at_ hmem,stAt_new hn]
   have hin:d ∈ ds:=mem_goalsOf.mp hb
   have ns:d.sg ≠ hushSg:=by rw [hd]; exact fun z=>hush_ne z.symm
   rw [e]
   refine ⟨w ++ [d],.snoc h1 ⟨fun z=>absurd z ns,fun _=>hin⟩,?_,?_,?_⟩
   ·rw [heard_app,h2]
    have:heardOf [d] = []:=by unfold heardOf; rw [List.filter_cons_of_neg (by rw [hd]; simp)]; rfl
    rw [this,List.append_nil]
   ·rw [List.length_append,List.length_append]; show w.length + 1 <= N + (b.length + 1); omega
   ·rw [List.reverse_append]
    exact .still hat hd h4
theorem Along.back (m:ModelOk asks says rooms ds) {story:List (List Str)} {fz:List Steps} {st:Steps} (h:Along rooms ds story fz st):(∀ sg ∈ story,sg ≠ stillSg)->∀ r ∈ st.map (·.1),∃ w,Wlk ds (firstR rooms) w r/\heardOf w = story/\w.length <= story.length * 27 + st.length/\Back fz st r w.reverse:=by
 induction h with
 | @nil st h =>
  intro _
  refine back_still (N:=0) h.1 (fun r hr=>?_) h.1 (.refl _)
  have e:r = firstR rooms:=by simpa using hr
  refine ⟨[],by rw [e]; exact .nil,rfl,Nat.zero_le _,.stop ?_⟩
  rw [h.1.at_ hr,e]
  exact stAt_new (st:=[]) (by simp)
 | @snoc story fz st sg st' a h ih =>
  intro ns
  have ns':∀ s ∈ story,s ≠ stillSg:=fun s hs=>ns s (List.mem_append_left _ hs)
  have nsg:sg ≠ stillSg:=ns sg (List.mem_append_right _ (by simp))
  have kl:=(a.kin m).len
  have r26:=m.rooms26
  refine back_still (N:=(story ++ [sg]).length * 27) h.1 (fun r hr=>?_) h.1 (.refl _)
  obtain ⟨v,hv⟩:=stAt_some hr
  obtain ⟨d,e1,e2,e3,e4,e5⟩:=stepsBy_ok (r,v) (stAt_mem hv)
  have e1':v = some d:=e1
  have e2':d.b = r:=e2
  subst e1'
  obtain ⟨w,h1,h2,h3,h4⟩:=ih ns' d.a e4
  rw [<- e2']
  refine ⟨w ++ [d],.snoc h1 e5,?_,?_,?_⟩
  ·rw [heard_app,h2]
   have:heardOf [d] = [sg]:=by unfold heardOf; rw [List.filter_cons_of_pos (by rw [e3]; simp [nsg])]; show [d.sg] = _; rw [e3]
   rw [this]
  ·rw [List.length_append,List.length_append]; show w.length + 1 <= (story.length + 1) * 27 + _; omega
  ·rw [List.reverse_append]
   exact .pop (by rw [e2',h.1.at_ hr]; exact hv) (by rw [e3]; exact nsg) h4
end
section
variable {K:PySem.W.Frag} {s:List Sl} {h h':SH} {φ:Sl->SH->Prop} {ta tb te:TE} {D:AE} {t:TS}
theorem ev_ixTV (q:EV s h ta fun x h1=>EV s h1 tb fun y h2=>∃ xs i z,IsV K h2 x false xs/\y = imd K (iDT i)/\atI xs i = some z/\φ z h2):EV s h (tOp (rIxT K) ta tb) φ:=by
 intro B T σ vs H Q a k
 refine q B T σ vs H _ a fun x u h1 H1 q1 a1=>q1 B _ σ _ H1 _ a1 fun y v h2 H2 q2 a2=>?_
 obtain ⟨xs,i,z,iv,ey,e,c⟩:=q2
 exact (ix_view iv ey e c a2 k).2 rfl
theorem ev_catV (q:EV s h ta fun x h1=>EV s h1 tb fun y h2=>∃ xs ys,IsV K h2 x true xs/\IsV K h2 y true ys/\xs.length + ys.length <= sizeLine/\Lst K h2 φ (xs ++ ys)):EV s h (tOp rCat ta tb) φ:=by
 intro B T σ vs H Q a k
 refine q B T σ vs H _ a fun x u h1 H1 q1 a1=>q1 B _ σ _ H1 _ a1 fun y v h2 H2 q2 a2=>?_
 obtain ⟨xs,ys,i1,i2,hz,c⟩:=q2
 obtain ⟨m,rfl,R⟩:=a2
 obtain ⟨p,us,rfl,hd,g1,_⟩:=i1.view R.wf R.drop.top
 obtain ⟨p',us',rfl,hd',g1',_⟩:=i2.view R.wf R.top
 have l1:=Paired.length hd
 have l2:=Paired.length hd'
 refine ⟨p,p',us,us',rfl,rfl,g1 rfl,g1' rfl,by omega,fun l hl=>?_⟩
 obtain ⟨z,h',hz,a3⟩:=R.drop.drop.newLst hl (Paired.app hd hd') c
 exact k z _ h' _ hz a3
theorem ev_slV {tl th:TO} (q:EV s h te fun x h1=>EP s h1 tl fun l h2=>EP s h2 th fun u h3=>∃ xs,IsV K h3 x true xs/\Lst K h3 φ (cutL xs l u)):EV s h (tSl (rSlL K) te tl th) φ:=by
 intro B T σ vs H Q a k
 refine q B T σ vs H _ a fun x v h1 H1 q1 a1=>q1 B _ σ _ H1 _ a1 fun l h2 H2 q2 a2=>q2 B _ σ _ H2 _ a2 fun u h3 H3 ⟨xs,iv,c⟩ a3=>?_
 obtain ⟨m,rfl,R⟩:=a3
 obtain ⟨p,us,rfl,hd,g1,_⟩:=iv.view R.wf R.top
 refine ⟨p,us,rfl,SqL.of (g1 rfl),fun n hn=>?_⟩
 have hc:Oks m h3 (cutV us l u) (cutL xs l u):=by
  unfold cutV cutL
  rw [Paired.length hd]
  exact Paired.takeP _ (Paired.dropP _ hd)
 obtain ⟨z,h',hz,a4⟩:=R.drop.newLst hn hc c
 exact k z _ h' _ hz a4
theorem ev_as (q:EV s h te fun x h1=>∃ a b,x = .im a/\(∀ G v,a.p G v->b.p G v)/\φ (.im b) h1):EV s h te φ:=by
 intro B T σ vs H Q a k
 refine q B T σ vs H _ a fun x v h1 H1 ⟨a,b,e,z,q1⟩ a1=>?_
 subst e
 obtain ⟨m,rfl,R⟩:=a1
 exact k _ _ _ _ q1 (R.drop.push (z m.G v R.top))
theorem ok_perm {m:Mp} (p:∀ n c,(n,c) ∈ h->(n,c) ∈ h') {x:Sl} {v:V} (o:Ok m h x v):Ok m h' x v:=by
 cases x with
 | no=>exact True.intro
 | im a=>exact o
 | pn=>exact o
 | lc n=>obtain ⟨⟨c,e⟩,e2⟩:=o; exact ⟨⟨c,p n c e⟩,e2⟩
theorem ceOk_perm {m:Mp} (p:∀ n c,(n,c) ∈ h->(n,c) ∈ h') {a:Addr} {c:Ce} (o:CeOk m h a c):CeOk m h' a c:=by
 cases c with
 | lst xs=>obtain ⟨vs,e,r⟩:=o; exact ⟨vs,e,Paired.mapP r fun v x q=>ok_perm p q⟩
 | dk xs=>obtain ⟨vs,e,r⟩:=o; exact ⟨vs,e,Paired.mapP r fun v x q=>ok_perm p q⟩
 | dt xs=>obtain ⟨vs,e,r⟩:=o; exact ⟨vs,e,Paired.mapP r fun v x q=>ok_perm p q⟩
 | ins C fs=>obtain ⟨dx,vs,e,r⟩:=o; exact ⟨dx,vs,e,Paired.mapP r fun v x q=>ok_perm p q⟩
 | fk ob l xs=>exact ⟨o.1,Paired.mapP o.2 fun v x q=>⟨q.1,ok_perm p q.2⟩⟩
theorem A.perm {B:Bs} {T:List Sl} {σ:L2.St} {vs:List V} {H:Hp} (p:h.Perm h') (a:A B s h T σ vs H):A B s h' T σ vs H:=by
 obtain ⟨m,e,R⟩:=a
 have p1:∀ n c,(n,c) ∈ h->(n,c) ∈ h':=fun n c e=>p.subset e
 have p2:∀ n c,(n,c) ∈ h'->(n,c) ∈ h:=fun n c e=>p.symm.subset e
 exact ⟨m,e,⟨R.fr.gg,R.fr.hh,R.fr.al,R.fr.fr,R.fr.pe,R.fr.pp,fun n c e=>R.fr.ow n c (p2 n c e),fun n a e=>by
   obtain ⟨h1,h2,c,h3⟩:=R.fr.nd n a e
   exact ⟨h1,h2,c,p1 n c h3⟩⟩,⟨R.wf.s,R.wf.p,fun n c e=>by
   obtain ⟨h1,h2,h3⟩:=R.wf.c n c (p2 n c e)
   exact ⟨h1,h2,ceOk_perm p1 h3⟩,fun n c n' c' e e'=>R.wf.i n c n' c' (p2 n c e) (p2 n' c' e'),(p.map _).nodup_iff.mp R.wf.u⟩,R.len,fun i x e=>(R.sl i x e).imp id fun ⟨v,e,q⟩=>⟨v,e,ok_perm p1 q⟩,Paired.mapP R.tm fun v x q=>ok_perm p1 q⟩
theorem ss_perm (p:h.Perm h') (q:SS s h' t D):SS s h t D:=fun B T σ vs H De r a l=>q B T σ vs H De r (a.perm p) l
def lendC (K:PySem.W.Frag) (ds:List DT):Sl->Sl
 | .lc _=>imd K (.s ds)
 | x=>x
theorem oks_lend {m:Mp} {n:Nat} {c:Ce} {ds:List DT} {us:List V} (gn:m.G (m.ad n) = none) (hd:DRs K m.G ds us):∀ {ws:List V} {xs:List Sl},(∀ x ∈ xs,plain x ∨ x = .lc n)->Oks m h ws xs->Oks { m with G:=upd m.G (m.ad n) (.lst us) } [] ws (xs.map (lendC K ds))
 | _,_,_,.nil=>.nil
 | _,x :: xs,hx,.cons o r=>by
  have S:Same m.G (upd m.G (m.ad n) (.lst us)):=Same.new gn
  refine .cons ?_ (oks_lend (c:=c) gn hd (fun y hy=>hx y (List.mem_cons_of_mem _ hy)) r)
  rcases hx x List.mem_cons_self with z | z
  ·cases x with
   | no=>exact True.intro
   | im a=>exact a.mono S o
   | pn=>obtain ⟨p,d,u,h1,h2,h3,h4⟩:=o; exact ⟨p,d,u,h1,h2,S _ _ h3,h4⟩
   | lc k=>exact z.elim
  ·subst z
   obtain ⟨_,rfl⟩:=o
   show DR K (upd m.G (m.ad n) (.lst us)) (.s ds) _
   unfold DR
   exact ⟨_,us,rfl,upd_same,DRs.same S hd⟩
theorem ev_callL {sp:Sp} {t:TA} (q:EA s h t fun xs h1=>∃ n ds,h1.lookup n = some (.lst (ds.map (imd K)))/\(∀ x ∈ xs,plain x ∨ x = .lc n)/\Cn sp (xs.map (lendC K ds)) [] fun r _=>∃ b,r = .im (bv b)/\φ (.im (bv b)) h1):EV s h (tCall sp [] E0 t) φ:=by
 intro B T σ vs H Q a k
 refine q B T σ vs H _ a fun xs us h1 H1 ⟨n,ds,lk,hp,c⟩ hl a1=>?_
 rw [List.append_nil]
 obtain ⟨m,rfl,R⟩:=a1
 obtain ⟨g1,R1⟩:=R.args hl
 obtain ⟨gn,pn,ws,e1,e2⟩:=R1.wf.c n _ (look_mem lk)
 have hd:=d_oks e2
 let m0:Mp:={ m with G:=upd m.G (m.ad n) (.lst ws) }
 have S0:Same m.G m0.G:=Same.new gn
 have W0:Wf m0 []:=⟨fun b o e=>by
   have e':upd m.G (m.ad n) (.lst ws) b = some o:=e
   by_cases z:b = m.ad n
   ·rw [z,upd_same] at e'
    rw [z,<- e']; exact e1
   ·rw [upd_ne z] at e'; exact R1.wf.s _ _ e',fun b e=>⟨by
   show upd m.G (m.ad n) (.lst ws) b = none
   rw [upd_ne fun z=>pn (by rw [<- z]; exact e)]
   exact (R1.wf.p b e).1,(R1.wf.p b e).2⟩,(fun _ _ e=>nomatch e),(fun _ _ _ _ e=>nomatch e),List.nodup_nil⟩
 refine c us m0 Q _ (fun _ _ e=>nomatch e) W0 (oks_lend (c:=.lst []) gn hd hp g1) fun x v h' m' ⟨b,e,q1⟩ F W o=>?_
 subst e
 have ev:v = .bl b:=o
 subst ev
 have M:Mv m h1 { m with H:=m'.H } h1:=⟨.refl _,fun b o e=>W.s _ _ (F.gg _ _ (S0 _ _ e)),fun b o e np=>F.hh b o e np (fun ⟨_,_,z,_⟩=>nomatch z),fun b e=>F.al b e,fun b e=>.inl e,fun p d o hp hc e=>F.pe p d o hp (S0 _ _ hc) e,rfl,fun _ _ _=>rfl,fun n c e=>⟨c,e⟩⟩
 exact k _ _ _ _ q1 ((R1.mv M).push rfl)
theorem Mv.grow {m:Mp} {H':Hp} (S:Same m.G m.H) (e:Same m.H H'):Mv m h { m with H:=H' } h:=⟨.refl _,S.trans e,fun b o q _=>e _ _ q,fun b q=>by
  cases z:m.H b with
  | none=>exact absurd z q
  | some u=>rw [show ({ m with H:=H' }:Mp).H b = some u from e _ _ z]; exact nofun,fun b q=>.inl q,fun p d o _ _ q=>q.ex e,rfl,fun _ _ _=>rfl,fun n c e=>⟨c,e⟩⟩
end
theorem lk_hd {n:Nat} {c:Ce} {h:SH}:List.lookup n ((n,c) :: h) = some c:=by rw [List.lookup_cons]; simp
theorem lk_tl {n k:Nat} {c:Ce} {h:SH} (z:n ≠ k):List.lookup n ((k,c) :: h) = List.lookup n h:=by
 rw [List.lookup_cons]
 have:(n == k) = false:=by simpa using z
 rw [this]
theorem hset_hd {n:Nat} {c0 c:Ce} {h:SH}:hset ((n,c0) :: h) n c = (n,c) :: hset h n c:=by
 unfold hset
 rw [List.map_cons,if_pos rfl]
theorem hset_tl {n k:Nat} {c0 c:Ce} {h:SH} (z:k ≠ n):hset ((k,c0) :: h) n c = (k,c0) :: hset h n c:=by
 unfold hset
 rw [List.map_cons,if_neg z]
abbrev Fz:=Obj × List (Key × V) × Steps
def frzH (K:PySem.W.Frag):List Fz->List Sl->SH
 | [],xs=>[(900,.lst xs)]
 | (o,l,st) :: r,xs=>(r.length,.fk o l (st.map (kvS K))) :: frzH K r xs
def nms (n:Nat):List Sl:=(List.range n).map .lc
theorem nms_succ (n:Nat):nms (n + 1) = nms n ++ [.lc n]:=by
 unfold nms
 rw [List.range_succ,List.map_append]; rfl
section
variable {K:PySem.W.Frag}
theorem frz_look {xs:List Sl}:∀ {fz:List Fz},fz.length <= 900->(frzH K fz xs).lookup 900 = some (.lst xs)
 | [],_=>rfl
 | (o,l,st) :: r,e=>by
  have e':r.length + 1 <= 900:=e
  show List.lookup 900 ((r.length,_) :: frzH K r xs) = _
  rw [lk_tl (by omega)]
  exact frz_look (by omega)
theorem frz_set9 {xs ys:List Sl}:∀ {fz:List Fz},fz.length <= 900->hset (frzH K fz xs) 900 (.lst ys) = frzH K fz ys
 | [],_=>rfl
 | (o,l,st) :: r,e=>by
  have e':r.length + 1 <= 900:=e
  show hset ((r.length,_) :: frzH K r xs) 900 _ = (r.length,_) :: frzH K r ys
  rw [hset_tl (by omega),frz_set9 (by omega)]
theorem frz_set {xs:List Sl} {n:Nat} {c:Ce} (z:n ≠ 900):∀ {fz:List Fz},fz.length <= n->hset (frzH K fz xs) n c = frzH K fz xs
 | [],_=>by
  show hset ((900,Ce.lst xs) :: []) n c = _
  rw [hset_tl (fun y=>z y.symm)]; rfl
 | (o,l,st) :: r,e=>by
  have e':r.length + 1 <= n:=e
  show hset ((r.length,_) :: frzH K r xs) n _ = (r.length,_) :: frzH K r xs
  rw [hset_tl (by omega),frz_set z (by omega)]
theorem frz_names {xs:List Sl} {n:Nat}:∀ {fz:List Fz},n ∈ (frzH K fz xs).map (·.1) ↔ n < fz.length ∨ n = 900
 | []=>by show n ∈ [900] ↔ _; simp
 | (o,l,st) :: r=>by
  show n ∈ r.length :: (frzH K r xs).map (·.1) ↔ n < r.length + 1 ∨ _
  rw [List.mem_cons,frz_names (fz:=r)]
  omega
theorem frz_ce {h:SH} {xs:List Sl} (hx:xs.all (hasN h) = true):∀ {fz:List Fz},((frzH K fz xs).all fun p=>ceN h p.2) = true
 | []=>by
  show (xs.all (hasN h) && true) = true
  rw [hx]; rfl
 | (o,l,st) :: r=>by
  show (ceN h (.fk o l (st.map (kvS K))) && (frzH K r xs).all fun p=>ceN h p.2) = true
  rw [ceN_fk,frz_ce hx]; rfl
end
theorem hasN_of {h:SH} {n:Nat} (e:n ∈ h.map (·.1)):hasN h (.lc n) = true:=List.contains_iff_mem.mpr e
theorem nms_has {h:SH} {n:Nat} (e:∀ k,k < n->k ∈ h.map (·.1)):(nms n).all (hasN h) = true:=by
 unfold nms
 rw [List.all_map]
 exact List.all_eq_true.mpr fun k hk=>hasN_of (e k (List.mem_range.mp hk))
theorem not_contains {h:SH} {n:Nat} (e:n ∉ h.map (·.1)):(h.map (·.1)).contains n = false:=by
 cases q:(h.map (·.1)).contains n with
 | false=>rfl
 | true=>exact absurd (List.contains_iff_mem.mp q) e
def alongH (K:PySem.W.Frag) (fz:List Fz) (st:Steps):SH:=(fz.length,.dk (st.map (kvS K))) :: frzH K fz (nms (fz.length + 1))
def sp_stepsAlong (K:PySem.W.Frag) (C:Addr):Sp:=spH 2 fun xs h φ=>∃ (asks says rooms:List Str) (ds:List Door) (story:List (List Str)),ModelOk asks says rooms ds/\story.length <= 200/\xs = [.im (mv C asks says rooms ds),imd K (.s (story.map gDT))]/\h = [] /\
 ∀ fz st,fz.length = story.length->Along rooms ds story (fz.map (·.2.2)) st->φ (.lc 900) (alongH K fz st)
def alongI (K:PySem.W.Frag) (M:AV) (rooms:List Str) (ds:List Door) (story:List (List Str)) (i:Nat) (s:List Sl) (h:SH):Prop:=∃ (fz:List Fz) (st:Steps),s = [.im M,imd K (.s (story.map gDT)),.lc fz.length,.lc 900,.no]/\h = alongH K fz st/\fz.length = i/\Along rooms ds (story.take i) (fz.map (·.2.2)) st
theorem fg_along {K:PySem.W.Frag} {s:List Sl} {fz:List Fz} {st:Steps} (hs:s.all (hasN (alongH K fz st)) = true):Fg s (alongH K fz st) (alongH K fz st):=by
 have hx:(nms (fz.length + 1)).all (hasN (alongH K fz st)) = true:=nms_has fun k hk=>by
  show k ∈ fz.length :: (frzH K fz _).map (·.1)
  rw [List.mem_cons,frz_names]; omega
 refine ⟨.refl _,hs,?_,fun n c e _=>e⟩
 show (ceN (alongH K fz st) (.dk (st.map (kvS K))) && (frzH K fz (nms (fz.length + 1))).all fun p=>ceN (alongH K fz st) p.2) = true
 rw [ceN_st,frz_ce hx]; rfl
theorem has_along {K:PySem.W.Frag} {fz:List Fz} {st:Steps} {M:AV} {a:AV} {n:Nat} (hn:n = fz.length):[Sl.im M,.im a,.lc n,.lc 900,.no].all (hasN (alongH K fz st)) = true:=by
 subst hn
 have h1:hasN (alongH K fz st) (.lc fz.length) = true:=hasN_of (by show fz.length ∈ fz.length :: _; exact List.mem_cons_self)
 have h2:hasN (alongH K fz st) (.lc 900) = true:=hasN_of (by show 900 ∈ fz.length :: (frzH K fz _).map (·.1); rw [List.mem_cons,frz_names]; omega)
 show (true && (true && (hasN _ (.lc fz.length) && (hasN _ (.lc 900) && (true && true))))) = true
 rw [h1,h2]; rfl
theorem rd_stepsAlong {K:PySem.W.Frag} {C:Addr} {vs:List V} {H:Hp} {Q:VK} {E:XK} (q:sp_stepsAlong K C vs H Q E):t_steps_along K (sp_addStill K C) (sp_stepsBy K C) C (sp_rooms C) { nx:=fun _ H'=>Q .non H',rt:=Q } (start N_steps_along vs) H:=by
 refine body q fun xs h φ ⟨asks,says,rooms,ds,story,m,hz,e1,e2,f⟩=>?_
 subst e1 e2
 have hd:∀ d ∈ ds,d.b ∈ rooms:=fun d hd=>(m.good d hd).b
 have r26:=m.rooms26
 have at0':atI (rooms.map sDT) 0 = some (sDT (firstR rooms)):=atI_nat (j:=0) (by rw [List.getElem?_map,m.first.1]; rfl)
 refine ss_seq <| ss_asg <| ev_disp1 (K:=K) (n:=0) ⟨⟨by decide,rfl⟩,ev_ixL (K:=K) <| ev_methL (K:=K) (L:=rooms.map sDT) (by simp) cn_rooms <| ev_var rfl ⟨rfl,lst_d <| ev_int (K:=K) ⟨_,_,sDT (firstR rooms),.s,rfl,at0',ev_non ⟨.inr (firstR rooms),isKey_s _,rfl,eg_name ?_⟩⟩⟩⟩
 show SS [.im (mv C asks says rooms ds),imd K (.s (story.map gDT)),.lc 0,.no,.no] [(0,.dk (([(firstR rooms,none)]:Steps).map (kvS K)))] _ _
 refine ss_seq <| ss_asg <| ev_lst (K:=K) <| ea_cons <| ev_var rfl <| ea_nil ⟨by show 1 <= sizeLine; decide,.inr (.inr ⟨900,⟨by decide,rfl⟩,eg_name ?_⟩)⟩
 show SS [.im (mv C asks says rooms ds),imd K (.s (story.map gDT)),.lc 0,.lc 900,.no] [(900,.lst [.lc 0]),(0,.dk (([(firstR rooms,none)]:Steps).map (kvS K)))] _ _
 refine ss_seq <| ss_dropC <| ea_cons <| ev_var rfl <| ea_cons <| ev_var rfl <| ea_nil ⟨0,_,rfl,steps_plain _,by simp [plain],cn_h ⟨asks,says,rooms,ds,[(firstR rooms,none)],rfl,rfl,by simp,by simp [m.first.2],by omega,hd,fun st' h' on cl hm=>⟨_,hm,steps_plain _,.inl ⟨_,rfl,?_⟩⟩⟩⟩
 refine ss_perm (h':=alongH K [] st') (List.Perm.swap _ _ _) ?_
 refine ss_seq <| ss_for <| ei_list (K:=K) <| ev_var rfl ⟨_,story.map (fun sg=>dv K (gDT sg)),rfl,isF_s,alongI K (mv C asks says rooms ds) rooms ds story,?_,?_,?_⟩
 ·exact ⟨_,_,.refl _,fg_along (has_along rfl),[],st',rfl,rfl,rfl,.nil ⟨on,cl⟩⟩
 ·rintro i s' h' hi ⟨fz,st,rfl,rfl,rfl,al⟩
  obtain ⟨sg,hsg,el⟩:=elI_at (enc:=fun sg=>dv K (gDT sg)) hi
  rw [List.length_map] at hi
  rw [el]
  refine eg_name ?_
  show SS [.im (mv C asks says rooms ds),imd K (.s (story.map gDT)),.lc fz.length,.lc 900,imd K (gDT sg)] _ _ _
  refine ss_seq <| ss_asgC <| ea_cons <| ev_var rfl <| ea_cons <| ev_var rfl <| ea_cons <| ev_var rfl <| ea_nil ⟨fz.length,_,lk_hd,steps_plain _,by simp [plain,imd],cn_h ⟨asks,says,rooms,ds,st,sg,rfl,rfl,by omega,hd,fun o l=>⟨_,List.mem_cons_of_mem _ List.mem_cons_self,steps_plainF _ _ _,.inr ⟨0,_,fz.length + 1,rfl,by decide,List.mem_cons_self,steps_plain _,⟨by omega,?_⟩,eg_name ?_⟩⟩⟩⟩
  ·rw [hset_names]
   refine not_contains ?_
   show fz.length + 1 ∉ fz.length :: (frzH K fz _).map (·.1)
   rw [List.mem_cons,frz_names]; omega
  have eh:hset (alongH K fz st) fz.length (.fk o l (st.map (kvS K))) = frzH K ((o,l,st) :: fz) (nms (fz.length + 1)):=by
   unfold alongH
   rw [hset_hd,frz_set (by omega) (Nat.le_refl _)]; rfl
  rw [eh]
  show SS [.im (mv C asks says rooms ds),imd K (.s (story.map gDT)),.lc (fz.length + 1),.lc 900,imd K (gDT sg)] ((((o,l,st) :: fz:List Fz).length,.dk ((stepsBy rooms ds sg (st.map (·.1))).map (kvS K))) :: frzH K ((o,l,st) :: fz) (nms (fz.length + 1))) _ _
  have lz:((o,l,st) :: fz:List Fz).length <= 900:=by show fz.length + 1 <= 900; omega
  have lk:List.lookup 900 ((((o,l,st) :: fz:List Fz).length,Ce.dk ((stepsBy rooms ds sg (st.map (·.1))).map (kvS K))) :: frzH K ((o,l,st) :: fz) (nms (fz.length + 1))) = some (.lst (nms (fz.length + 1))):=by
   rw [lk_tl (by show 900 ≠ fz.length + 1; omega),frz_look lz]
  refine ss_seq <| ss_app rfl ⟨_,lk⟩ <| ev_var rfl ⟨_,lk,by unfold nms; rw [List.length_map,List.length_range]; omega,?_⟩
  rw [hset_tl (by show fz.length + 1 ≠ 900; omega),frz_set9 lz,<- nms_succ]
  have kin:=stepsBy_kin (sg:=sg) hd (st.map (·.1))
  refine ss_dropC <| ea_cons <| ev_var rfl <| ea_cons <| ev_var rfl <| ea_nil ⟨fz.length + 1,_,lk_hd,steps_plain _,by simp [plain],cn_h ⟨asks,says,rooms,ds,stepsBy rooms ds sg (st.map (·.1)),rfl,rfl,kin.nd,kin.inr,by omega,hd,fun st2 h2 on cl hm=>⟨_,hm,steps_plain _,.inl ⟨_,rfl,?_⟩⟩⟩⟩
  have eh2:hset ((((o,l,st) :: fz:List Fz).length,Ce.dk ((stepsBy rooms ds sg (st.map (·.1))).map (kvS K))) :: frzH K ((o,l,st) :: fz) (nms (fz.length + 1 + 1))) (fz.length + 1) (.dk (st2.map (kvS K))) = alongH K ((o,l,st) :: fz) st2:=by
   unfold alongH
   rw [show ((o,l,st) :: fz:List Fz).length = fz.length + 1 from rfl,hset_hd,frz_set (n:=fz.length + 1) (fz:=(o,l,st) :: fz) (by omega) (Nat.le_refl (fz.length + 1))]
  rw [eh2]
  refine ⟨[.im (mv C asks says rooms ds),imd K (.s (story.map gDT)),.lc (fz.length + 1),.lc 900,.no],_,.cons (.cons (.cons (.cons (.no (.refl _))))),fg_along (has_along rfl),(o,l,st) :: fz,st2,rfl,rfl,rfl,?_⟩
  rw [take_snoc hsg]
  exact .snoc al ⟨on,cl⟩
 ·rintro s' h' ⟨fz,st,rfl,rfl,e,al⟩
  rw [List.length_map] at e al
  rw [List.take_length] at al
  exact ss_ret <| ev_var rfl (f fz st e al)
def sp_walk_of (K:PySem.W.Frag) (C:Addr):Sp:=spH 2 fun xs h φ=>∃ (asks says rooms:List Str) (ds:List Door) (story:List (List Str)),ModelOk asks says rooms ds/\story.length <= 200/\(∀ sg ∈ story,sg ≠ stillSg)/\xs = [.im (mv C asks says rooms ds),imd K (.s (story.map gDT))]/\h = [] /\
 (faceOf rooms ds story = []->∀ h',φ (.im nv) h')/\(faceOf rooms ds story ≠ []->∀ w h',goL ds (firstR rooms) w = true->heardOf w = story->w.length <= 10000->h'.lookup 901 = some (.lst ((w.map dDT).map (imd K)))->φ (.lc 901) h')
def CeS (K:PySem.W.Frag) (c:Ce) (st:Steps):Prop:=c = .dk (st.map (kvS K)) ∨ ∃ o l,c = .fk o l (st.map (kvS K))
theorem CeS.isDk {K:PySem.W.Frag} {c:Ce} {st:Steps} {h:SH} {n:Nat} (q:CeS K c st) (e:h.lookup n = some c):IsDk h n (st.map (kvS K)):=by
 rcases q with rfl | ⟨o,l,rfl⟩
 ·exact .dk e
 ·exact .fk e
theorem CeS.ceN {K:PySem.W.Frag} {c:Ce} {st:Steps} (h:SH) (q:CeS K c st):Mum.ceN h c = true:=by
 rcases q with rfl | ⟨o,l,rfl⟩
 ·exact ceN_st h st
 ·exact ceN_fk h o l st
def backH (K:PySem.W.Frag) (fz:List Fz) (c:Ce) (done:List Door):SH:=(901,.lst ((done.map dDT).map (imd K))) :: (fz.length,c) :: frzH K fz (nms fz.length)
def backS (K:PySem.W.Frag) (M a:AV) (r:Str) (n:Nat):List Sl:=[.im M,.im a,.lc 900,imd K (sDT r),.lc 901,.lc n,.no]
def backI (K:PySem.W.Frag) (M a:AV) (W:List Door) (k:Nat) (s:List Sl) (h:SH):Prop:=∃ (fz:List Fz) (st:Steps) (c:Ce) (r:Str) (done rest:List Door),s = backS K M a r fz.length/\h = backH K fz c done/\CeS K c st/\Back (fz.map (·.2.2)) st r rest/\done ++ rest = W/\k = rest.length/\fz.length <= 200
theorem fg_back {K:PySem.W.Frag} {M a:AV} {r:Str} {fz:List Fz} {c:Ce} {st:Steps} {done:List Door} {h:SH} (q:CeS K c st) (sub:(backH K fz c done).Sublist h) (lo:∀ n c,(n,c) ∈ h->n < 1000):Fg (backS K M a r fz.length) h (backH K fz c done):=by
 have nm:∀ k,k ∈ (backH K fz c done).map (·.1) ↔ k = 901 ∨ k = fz.length ∨ k < fz.length ∨ k = 900:=fun k=>by
  show k ∈ 901 :: fz.length :: (frzH K fz _).map (·.1) ↔ _
  rw [List.mem_cons,List.mem_cons,frz_names]
 have hx:(nms fz.length).all (hasN (backH K fz c done)) = true:=nms_has fun k hk=>(nm k).mpr (by omega)
 refine ⟨sub,?_,?_,fun n c e l=>absurd (lo n c e) (by omega)⟩
 ·have h1:hasN (backH K fz c done) (.lc 900) = true:=hasN_of ((nm _).mpr (by omega))
  have h2:hasN (backH K fz c done) (.lc 901) = true:=hasN_of ((nm _).mpr (by omega))
  have h3:hasN (backH K fz c done) (.lc fz.length) = true:=hasN_of ((nm _).mpr (by omega))
  show (true && (true && (hasN _ (.lc 900) && (true && (hasN _ (.lc 901) && (hasN _ (.lc fz.length) && (true && true))))))) = true
  rw [h1,h2,h3]; rfl
 ·show (Mum.ceN _ (.lst ((done.map dDT).map (imd K))) && (Mum.ceN _ c && (frzH K fz (nms fz.length)).all fun p=>Mum.ceN (backH K fz c done) p.2)) = true
  rw [ceN_d,q.ceN,frz_ce hx]; rfl
theorem frz_lo {K:PySem.W.Frag} {xs:List Sl} {fz:List Fz} (hz:fz.length <= 200):∀ n c,(n,c) ∈ frzH K fz xs->n < 1000:=fun n c e=>by
 have:n ∈ (frzH K fz xs).map (·.1):=List.mem_map.mpr ⟨_,e,rfl⟩
 rw [frz_names] at this; omega
theorem cons_lo {h:SH} {k:Nat} {ck:Ce} (hk:k < 1000) (q:∀ n c,(n,c) ∈ h->n < 1000):∀ n c,(n,c) ∈ (k,ck) :: h->n < 1000:=fun n c e=>by
 rcases List.mem_cons.mp e with e | e
 ·cases e; exact hk
 ·exact q n c e
theorem rd_walk_of {K:PySem.W.Frag} {C sa:Addr} (hst:∀ G,DR K G (gDT stillSg) (.ref sa)) {vs:List V} {H:Hp} {Q:VK} {E:XK} (q:sp_walk_of K C vs H Q E):t_walk_of K sa (sp_stepsAlong K C) { nx:=fun _ H'=>Q .non H',rt:=Q } (start N_walk_of vs) H:=by
 refine body q fun xs h φ ⟨asks,says,rooms,ds,story,m,hz,ns,e1,e2,f0,f1⟩=>?_
 subst e1 e2
 have r26:=m.rooms26
 refine ss_seq <| ss_asg <| ev_call0 <| ea_cons <| ev_var rfl <| ea_cons <| ev_var rfl <| ea_nil ⟨rfl,by simp [plain,imd],cn_h ⟨asks,says,rooms,ds,story,m,hz,rfl,rfl,fun fz st fl al=>eg_name ?_⟩⟩
 have fz2:fz.length <= 200:=by omega
 have fz9:fz.length <= 900:=by omega
 show SS [.im (mv C asks says rooms ds),imd K (.s (story.map gDT)),.lc 900,.no,.no,.no,.no] (alongH K fz st) _ _
 have lk9:(alongH K fz st).lookup 900 = some (.lst (nms (fz.length + 1))):=by
  unfold alongH
  rw [lk_tl (by omega),frz_look fz9]
 have lkn:(alongH K fz st).lookup fz.length = some (.dk (st.map (kvS K))):=lk_hd
 have atl:atI (nms (fz.length + 1)) (-1) = some (.lc fz.length):=by rw [nms_succ]; exact at_last
 refine ss_seq <| ss_if <| et_test <| ev_eqI (K:=K) <| ev_dlen (K:=K) <| ev_ixLV (K:=K) <| ev_var rfl <| ev_neg (K:=K) <| ev_int (K:=K) ⟨1,dv K (iDT (-1)),rfl,rv_int,_,-1,_,.c lk9,rfl,atl,fz.length,_,rfl,.dk lkn,ev_int (K:=K) ⟨_,_,rfl,rfl,_,rfl,ifB (fun e=>?_) fun e=>?_⟩⟩
 ·have e':=of_decide_eq_true e
  rw [List.length_map] at e'
  have e0:st = []:=List.length_eq_zero_iff.mp (by omega)
  subst e0
  refine ss_ret <| ev_non (f0 (List.eq_nil_iff_forall_not_mem.mpr fun r hr=>?_) _)
  exact absurd ((al.face m r).mpr hr) (by simp)
 have e':=of_decide_eq_false e
 rw [List.length_map] at e'
 refine ss_nx ?_
 cases st with
 | nil=>exact absurd rfl e'
 | cons p0 st0 =>
 obtain ⟨r0,v0⟩:=p0
 have mem0:r0 ∈ ((r0,v0) :: st0:Steps).map (·.1):=List.mem_cons_self
 have ne:faceOf rooms ds story ≠ []:=fun z=>by
  have:=(al.face m r0).mp mem0
  rw [z] at this; cases this
 obtain ⟨w,w1,w2,w3,w4⟩:=al.back m ns r0 mem0
 have w5:w.length <= 10000:=by
  have:=(al.kin m).len
  omega
 have f2:=fun h'=>f1 ne w h' w1.ok w2 w5
 clear f0 f1 e e' w1 w2 w3 ne ns
 have hk0:(((r0,v0) :: st0:Steps).map (·.1))[0]? = some r0:=rfl
 generalize ((r0,v0) :: st0:Steps) = st at *
 have at0':atI ((st.map (·.1)).map sDT) 0 = some (sDT r0):=atI_nat (j:=0) (by rw [List.getElem?_map,hk0]; rfl)
 refine ss_seq <| ss_asg <| ev_ixL (K:=K) <| ev_dlist (K:=K) <| ev_ixLV (K:=K) <| ev_var rfl <| ev_neg (K:=K) <| ev_int (K:=K) ⟨1,dv K (iDT (-1)),rfl,rv_int,_,-1,_,.c lk9,rfl,atl,fz.length,st.map (kvS K),((st.map (·.1)).map sDT).map (imd K),rfl,.dk lkn,by simp,fun m h=>?_,lst_d <| ev_int (K:=K) ⟨_,_,_,.s,rfl,at0',eg_name ?_⟩⟩
 ·have e:((st.map (kvS K)).map fun kv=>kV kv.1) = (st.map (·.1)).map V.str:=by rw [List.map_map,List.map_map]; rfl
  rw [e]
  exact oks_strs _
 refine ss_seq <| ss_asg <| ev_lst (K:=K) <| ea_nil ⟨Nat.zero_le _,.inr (.inr ⟨901,⟨by decide,not_contains ?_⟩,eg_name ?_⟩)⟩
 ·show 901 ∉ fz.length :: (frzH K fz _).map (·.1)
  rw [List.mem_cons,frz_names]; omega
 show SS [.im (mv C asks says rooms ds),imd K (.s (story.map gDT)),.lc 900,imd K (sDT r0),.lc 901,.no,.no] ((901,.lst []) :: alongH K fz st) _ _
 refine ss_seq <| ss_pop rfl (xs:=nms fz.length) (x:=.lc fz.length) (by rw [lk_tl (by omega),lk9,nms_succ]) <| eg_name ?_
 have eh:hset ((901,.lst []) :: alongH K fz st) 900 (.lst (nms fz.length)) = backH K fz (.dk (st.map (kvS K))) []:=by
  unfold alongH backH
  rw [hset_tl (by omega),hset_tl (by omega),frz_set9 fz9]; rfl
 rw [eh]
 show SS (backS K (mv C asks says rooms ds) (dv K (.s (story.map gDT))) r0 fz.length) _ _ _
 refine ss_seq <| ss_while (backI K (mv C asks says rooms ds) (dv K (.s (story.map gDT))) w.reverse) ⟨_,_,_,.refl _,fg_back (.inl rfl) (.refl _) (cons_lo (by omega) (cons_lo (by omega) (frz_lo fz2))),fz,st,_,r0,[],w.reverse,rfl,rfl,.inl rfl,w4,rfl,rfl,fz2⟩ ?_
 have wl:w.reverse.length <= 10000:=by rw [List.length_reverse]; exact w5
 clear lk9 lkn atl al fl w4 w5 mem0 hk0 at0' eh
 rintro k s' h' ⟨fz,st,c,r,done,rest,rfl,rfl,cs,bk,ew,rfl,fz2⟩
 have fz9:fz.length <= 900:=by omega
 have lkn:(backH K fz c done).lookup fz.length = some c:=by
  unfold backH
  rw [lk_tl (by omega),lk_hd]
 generalize ef:fz.map (·.2.2) = fm at bk
 cases bk with
 | stop h0 =>
  refine et_b <| ev_notN <| ev_dget (K:=K) <| ev_var rfl <| ev_var rfl ⟨fz.length,st.map (kvS K),.inr r,.im nv,rfl,cs.isDk lkn,isKey_s r,by rw [valS_steps,h0]; rfl,true,.n,_,rfl,?_⟩
  refine iteF ?_
  rw [List.append_nil] at ew
  refine ss_seq <| ss_rev rfl (xs:=(done.map dDT).map (imd K)) lk_hd ?_
  refine ss_ret <| ev_var rfl (f2 _ ?_)
  unfold backH
  rw [hset_hd,lk_hd,ew,<- List.map_reverse,<- List.map_reverse,List.reverse_reverse]
 | @still _ _ _ d ws h0 e0 b0 =>
  have hv:valS (st.map (kvS K)) (.inr r) = some (imd K (dDT d)):=by rw [valS_steps,h0]; rfl
  refine et_b <| ev_notN <| ev_dget (K:=K) <| ev_var rfl <| ev_var rfl ⟨fz.length,st.map (kvS K),.inr r,_,rfl,cs.isDk lkn,isKey_s r,hv,false,.d,_,rfl,?_⟩
  refine iteT ?_
  refine ss_seq <| ss_asg <| ev_dget (K:=K) <| ev_var rfl <| ev_var rfl ⟨fz.length,st.map (kvS K),.inr r,_,rfl,cs.isDk lkn,isKey_s r,hv,eg_name ?_⟩
  refine ss_seq <| ss_app rfl ⟨_,lk_hd⟩ <| ev_var rfl ⟨(done.map dDT).map (imd K),lk_hd,?_,?_⟩
  ·have:=congrArg List.length ew
   rw [List.length_append] at this
   rw [List.length_map,List.length_map]; omega
  have eh:hset (backH K fz c done) 901 (.lst ((done.map dDT).map (imd K) ++ [imd K (dDT d)])) = backH K fz c (done ++ [d]):=by
   unfold backH
   rw [hset_hd,hset_tl (by omega),frz_set (by omega) (by omega)]
   simp
  rw [eh]
  refine ss_seq <| ss_asg <| ev_ixTV (K:=K) <| ev_var rfl <| ev_int (K:=K) ⟨_,_,_,.t,rfl,rfl,eg_name ?_⟩
  refine ss_if <| et_test <| ev_neD (K:=K) <| ev_ixTV (K:=K) <| ev_var rfl <| ev_int (K:=K) ⟨_,_,imd K (gDT d.sg),.t,rfl,rfl,ev_con (K:=K) (d:=gDT stillSg) hst ⟨_,_,.d,.d,dpG _,dpG _,_,rfl,?_⟩⟩
  rw [decide_eq_true (by rw [e0])]
  refine iteF <| ss_nx ⟨ws.length,Nat.lt_succ_self _,backS K (mv C asks says rooms ds) (dv K (.s (story.map gDT))) d.a fz.length,_,.cons (.cons (.cons (.cons (.cons (.cons (.no (.refl _))))))),fg_back cs (.refl _) (cons_lo (by omega) (cons_lo (by omega) (frz_lo fz2))),fz,st,c,d.a,done ++ [d],ws,rfl,rfl,cs,by rw [ef]; exact b0,?_,rfl,fz2⟩
  rw [List.append_assoc]; exact ew
 | @pop fzt _ st' _ d ws h0 e0 b0 =>
  cases fz with
  | nil=>cases ef
  | cons p fz' =>
  obtain ⟨o,l,st2⟩:=p
  injection ef with ef1 ef2
  have ef1:st2 = st':=ef1
  subst ef1
  have z1:fz'.length + 1 <= 200:=fz2
  have hv:valS (st.map (kvS K)) (.inr r) = some (imd K (dDT d)):=by rw [valS_steps,h0]; rfl
  refine et_b <| ev_notN <| ev_dget (K:=K) <| ev_var rfl <| ev_var rfl ⟨fz'.length + 1,st.map (kvS K),.inr r,_,rfl,cs.isDk lkn,isKey_s r,hv,false,.d,_,rfl,?_⟩
  refine iteT ?_
  refine ss_seq <| ss_asg <| ev_dget (K:=K) <| ev_var rfl <| ev_var rfl ⟨fz'.length + 1,st.map (kvS K),.inr r,_,rfl,cs.isDk lkn,isKey_s r,hv,eg_name ?_⟩
  refine ss_seq <| ss_app rfl ⟨_,lk_hd⟩ <| ev_var rfl ⟨(done.map dDT).map (imd K),lk_hd,?_,?_⟩
  ·have:=congrArg List.length ew
   rw [List.length_append] at this
   rw [List.length_map,List.length_map]; omega
  have eh:hset (backH K ((o,l,st2) :: fz') c done) 901 (.lst ((done.map dDT).map (imd K) ++ [imd K (dDT d)])) = backH K ((o,l,st2) :: fz') c (done ++ [d]):=by
   unfold backH
   rw [hset_hd,hset_tl (by show fz'.length + 1 ≠ 901; omega),frz_set (by omega) (by show fz'.length + 1 <= 901; omega)]
   simp
  rw [eh]
  refine ss_seq <| ss_asg <| ev_ixTV (K:=K) <| ev_var rfl <| ev_int (K:=K) ⟨_,_,_,.t,rfl,rfl,eg_name ?_⟩
  refine ss_if <| et_test <| ev_neD (K:=K) <| ev_ixTV (K:=K) <| ev_var rfl <| ev_int (K:=K) ⟨_,_,imd K (gDT d.sg),.t,rfl,rfl,ev_con (K:=K) (d:=gDT stillSg) hst ⟨_,_,.d,.d,dpG _,dpG _,_,rfl,?_⟩⟩
  rw [decide_eq_false (fun z=>e0 (gDT_inj z))]
  refine iteT ?_
  have lk9:(backH K ((o,l,st2) :: fz') c (done ++ [d])).lookup 900 = some (.lst (nms fz'.length ++ [.lc fz'.length])):=by
   unfold backH
   rw [lk_tl (by omega),lk_tl (by show 900 ≠ fz'.length + 1; omega),frz_look fz9,<- nms_succ]; rfl
  refine ss_pop rfl (xs:=nms fz'.length) (x:=.lc fz'.length) lk9 <| eg_name ?_
  have eh2:hset (backH K ((o,l,st2) :: fz') c (done ++ [d])) 900 (.lst (nms fz'.length)) = (901,.lst (((done ++ [d]).map dDT).map (imd K))) :: (fz'.length + 1,c) :: (fz'.length,.fk o l (st2.map (kvS K))) :: frzH K fz' (nms fz'.length):=by
   unfold backH
   rw [hset_tl (by omega),hset_tl (by show fz'.length + 1 ≠ 900; omega),frz_set9 fz9]; rfl
  rw [eh2]
  have zf:fz'.length <= 200:=by omega
  refine ⟨ws.length,Nat.lt_succ_self _,backS K (mv C asks says rooms ds) (dv K (.s (story.map gDT))) d.a fz'.length,backH K fz' (.fk o l (st2.map (kvS K))) (done ++ [d]),.cons (.cons (.cons (.cons (.cons (.cons (.no (.refl _))))))),fg_back (st:=st2) (.inr ⟨o,l,rfl⟩) (.cons_cons _ (.cons _ (.refl _))) (cons_lo (by omega) (cons_lo (by omega) (cons_lo (by omega) (frz_lo zf)))),fz',st2,_,d.a,done ++ [d],ws,rfl,rfl,.inr ⟨o,l,rfl⟩,by rw [ef2]; exact b0,?_,rfl,zf⟩
  rw [List.append_assoc]; exact ew
def toldv (asks says rooms:List Str) (ds:List Door):AV:=⟨fun G v=>∃ t l1 l2 l3 l4 ts,v = .ref t/\Told G t l1 l2 l3 l4 ts asks says rooms ds,fun S ⟨t,l1,l2,l3,l4,ts,e,h⟩=>⟨t,l1,l2,l3,l4,ts,e,h.same S⟩⟩
def stv (story:List (List Str)):AV:=⟨fun G v=>∃ (l:Addr) (us:List Addr),v = .ref l/\G l = some (.lst (us.map V.ref))/\Sgns G us story,fun S h=>by obtain ⟨l,us,e,h,g⟩:=h; exact ⟨l,us,e,S _ _ h,Sgns.kt (Same.kt S) g⟩⟩
section
variable {K:PySem.W.Frag} {asks says rooms:List Str} {ds:List Door}
theorem told_dv (G:Hp) (v:V) (h:(toldv asks says rooms ds).p G v):(dv K (tvD asks says rooms ds)).p G v:=by
 obtain ⟨t,l1,l2,l3,l4,ts,rfl,T⟩:=h
 exact dr_told T
theorem drs_sgns {G:Hp}:∀ {us:List Addr} {L:List (List Str)},Sgns G us L->DRs K G (L.map gDT) (us.map V.ref)
 | _,_,.nil=>by unfold DRs; rfl
 | _,_,.cons h r=>by
  rw [List.map_cons,List.map_cons]
  unfold DRs
  exact ⟨_,_,rfl,dr_sign (SqT.of h),drs_sgns r⟩
theorem stv_dv {story:List (List Str)} (G:Hp) (v:V) (h:(stv story).p G v):(dv K (.s (story.map gDT))).p G v:=by
 obtain ⟨l,us,rfl,h1,h2⟩:=h
 show DR K G (.s (story.map gDT)) (.ref l)
 unfold DR
 exact ⟨l,_,rfl,h1,drs_sgns h2⟩
theorem cn_lquiet (m:ModelOk asks says rooms ds) {r:Str}:Cn sp_lquiet [.im (toldv asks says rooms ds),imd K (sDT r)] [] (fun x h'=>x = .im (bv (decide (r ∉ loudOf ds)))):=by
 intro us mm Q E _ W hx f
 obtain ⟨u,v,rfl,⟨t,l1,l2,l3,l4,ts,rfl,T⟩,hv⟩:=pair2 hx
 have:=ok_str hv
 subst this
 refine ⟨t,l1,l2,l3,l4,ts,asks,says,rooms,ds,r,rfl,T.same W.s,m,fun H' S=>?_⟩
 obtain ⟨F,W'⟩:=fr_same W S
 exact f _ _ [] { mm with H:=H' } rfl F W' rfl
variable {s:List Sl} {h:SH} {φ:Sl->SH->Prop} {ta tb:TE}
theorem ev_noface (m:ModelOk asks says rooms ds) {story:List (List Str)} (q:EV s h ta fun x h1=>x = .im (toldv asks says rooms ds)/\EV s h1 tb fun y h2=>y = .im (stv story)/\φ (.im (bv (decide (faceOf rooms ds story = [])))) h2):EV s h (tOp (rEqD K) (tCall sp_lface [] E0 (tCons ta (tCons tb tNil))) (tTup tNil)) φ:=by
 intro B T σ vs H Q a k
 refine q B T σ vs H _ a fun x u h1 H1 ⟨e1,q1⟩ a1=>q1 B _ σ _ H1 _ a1 fun y v h2 H2 ⟨e2,q2⟩ a2=>?_
 subst e1 e2
 obtain ⟨mm,rfl,R⟩:=a2
 obtain ⟨l,us,rfl,o1,o2⟩:=R.top
 obtain ⟨t,l1,l2,l3,l4,ts,rfl,Td⟩:=R.drop.top
 refine ⟨t,l,l1,l2,l3,l4,ts,us,story,asks,says,rooms,ds,rfl,Td.same R.wf.s,m,R.wf.s _ _ o1,Sgns.kt (Same.kt R.wf.s) o2,fun t' H' h' S=>?_⟩
 refine ⟨(by show 0 <= sizeLine; decide),fun e he=>⟨.t ((faceOf rooms ds story).map sDT),.t [],dIn_sign (SqT.of (kp h' he)),dIn_tnil (SqT.of upd_same),?_,by decide,?_⟩⟩
 ·show DT.depths _ + 1 <= 8
  rw [depths_s]; decide
 have ed:decide (DT.t ((faceOf rooms ds story).map sDT) = DT.t []) = decide (faceOf rooms ds story = []):=by
  by_cases z:faceOf rooms ds story = []
  ·rw [decide_eq_true z,z]; rfl
  ·rw [decide_eq_false z]
   exact decide_eq_false fun y=>z (by injection y with y; exact List.map_eq_nil_iff.mp y)
 rw [ed]
 exact k _ _ _ _ q2 ((R.drop.drop.mv (Mv.grow R.wf.s (S.trans (Same.new he)))).push rfl)
end
theorem heard_snoc {w:List Door} {i:Nat} {d:Door} (h:w[i]? = some d):heardOf (w.take (i + 1)) = heardOf (w.take i) ++ (if (!decide (d.sg = stillSg)) = true then [d.sg] else []):=by
 unfold heardOf
 rw [take_snoc h,List.filter_append,List.map_append]
 by_cases c:(!decide (d.sg = stillSg)) = true
 ·rw [if_pos c]; simp only [List.filter,c]; rfl
 ·rw [if_neg c]; simp only [List.filter,Bool.not_eq_true _ ▸ c]; rfl
theorem dec_dmem (d:Door) (ds:List Door):decide (dDT d ∈ ds.map dDT) = decide (d ∈ ds):=by
 rw [Bool.eq_iff_iff,decide_eq_true_iff,decide_eq_true_iff]; exact mem_dDT
theorem heard_len (w:List Door):(heardOf w).length <= w.length:=by unfold heardOf; rw [List.length_map]; exact List.length_filter_le _ _
theorem drop_at {α:Type} {xs:List α} {i:Nat} {a:α} (h:xs[i]? = some a):xs.drop i = a :: xs.drop (i + 1):=by
 obtain ⟨h1,h2⟩:=List.getElem?_eq_some_iff.mp h
 rw [List.drop_eq_getElem_cons h1,h2]
theorem fg_l1 {K:PySem.W.Frag} {s:List Sl} {n:Nat} {l:List DT} (hs:s.all (hasN [(n,.lst (l.map (imd K)))]) = true):Fg s [(n,.lst (l.map (imd K)))] [(n,.lst (l.map (imd K)))] :=
 ⟨.refl _,hs,by show (ceN _ _ && true) = true; rw [ceN_d]; rfl,fun n c e _=>e⟩
def sp_is_walkedT (K:PySem.W.Frag):Sp:=spH 3 fun xs h φ=>∃ (asks says rooms:List Str) (ds w:List Door),ModelOk asks says rooms ds/\w.length <= 10000/\goL ds (firstR rooms) w = true/\xs = [.im (toldv asks says rooms ds),imd K (.s ((heardOf w).map gDT)),imd K (.s (w.map dDT))]/\h = []/\∀ h',φ (.im (bv true)) h'
theorem rd_is_walkedT {K:PySem.W.Frag} {vs:List V} {H:Hp} {Q:VK} {E:XK} (q:sp_is_walkedT K vs H Q E):t_law_is_walked K sp_lquiet { nx:=fun _ H'=>Q .non H',rt:=Q } (start N_law_is_walked vs) H:=by
 refine body q fun xs h φ ⟨asks,says,rooms,ds,w,m,hz,gw,e1,e2,f⟩=>?_
 subst e1 e2
 obtain ⟨f1,f2⟩:=m.first
 have at0':atI (rooms.map sDT) 0 = some (sDT (firstR rooms)):=atI_nat (j:=0) (by rw [List.getElem?_map,f1]; rfl)
 refine ss_seq <| ss_if <| et_not <| et_b <| ev_isL (K:=K) <| ev_var rfl ⟨_,.s,_,rfl,iteF <| ss_nx ?_⟩
 refine ss_seq <| ss_asg <| ev_ixL (K:=K) <| ev_ix (K:=K) <| ev_as <| ev_var rfl ⟨_,_,rfl,told_dv (K:=K),ev_int (K:=K) ⟨_,_,_,_,.t,rfl,rfl,ev_int (K:=K) ⟨_,_,_,.s,rfl,at0',eg_name ?_⟩⟩⟩
 refine ss_seq <| ss_asg <| ev_lst (K:=K) <| ea_nil ⟨Nat.zero_le _,.inr (.inr ⟨0,⟨by decide,rfl⟩,eg_name ?_⟩)⟩
 show SS [.im (toldv asks says rooms ds),imd K (.s ((heardOf w).map gDT)),imd K (.s (w.map dDT)),imd K (sDT (firstR rooms)),.lc 0,.no] [(0,.lst (([]:List DT).map (imd K)))] _ _
 refine ss_seq <| ss_for <| ei_list (K:=K) <| ev_var rfl ⟨_,w.map (fun d=>dv K (dDT d)),rfl,isF_s,fun i s' h'=>∃ r,s' = [.im (toldv asks says rooms ds),imd K (.s ((heardOf w).map gDT)),imd K (.s (w.map dDT)),imd K (sDT r),.lc 0,.no]/\h' = [(0,.lst (((heardOf (w.take i)).map gDT).map (imd K)))]/\goL ds r (w.drop i) = true,⟨_,_,.refl _,fg_l1 rfl,_,rfl,rfl,gw⟩,?_,?_⟩
 ·rintro i s' h' hi ⟨r,rfl,rfl,hg⟩
  obtain ⟨d,hd,el⟩:=elI_at (enc:=fun d=>dv K (dDT d)) hi
  have hi':i < w.length:=by rw [List.length_map] at hi; exact hi
  rw [el]
  rw [drop_at hd] at hg
  have hg':(decide (d.a = r) && ((if d.sg = hushSg then decide (d.b = r) && decide (r ∉ loudOf ds) else decide (d ∈ ds)) && goL ds d.b (w.drop (i + 1)))) = true:=hg
  rw [Bool.and_eq_true,Bool.and_eq_true] at hg'
  obtain ⟨g1,g2,g3⟩:=hg'
  refine eg_name ?_
  show SS [.im (toldv asks says rooms ds),imd K (.s ((heardOf w).map gDT)),imd K (.s (w.map dDT)),imd K (sDT r),.lc 0,imd K (dDT d)] _ _ _
  refine ss_seq <| ss_if <| et_or <| et_not <| et_b <| ev_isT (K:=K) <| ev_var rfl ⟨_,.t,_,rfl,iteF <| et_or <| et_test <| ev_neI (K:=K) <| ev_len (K:=K) <| ev_var rfl ⟨_,_,.t,ev_int (K:=K) ⟨_,_,rfl,rfl,_,rfl,iteF <| et_test <| ev_neD (K:=K) <| ev_ix (K:=K) <| ev_var rfl <| ev_int (K:=K) ⟨_,_,_,_,.t,rfl,rfl,ev_var rfl ⟨_,_,.d,.d,dpS _,dpS _,_,rfl,?_⟩⟩⟩⟩⟩
  rw [dec_sDT,g1]
  refine iteF <| ss_nx ?_
  have rest:SS [.im (toldv asks says rooms ds),imd K (.s ((heardOf w).map gDT)),imd K (.s (w.map dDT)),imd K (sDT r),.lc 0,imd K (dDT d)] [(0,.lst (((heardOf (w.take i)).map gDT).map (imd K)))]
    (tSeq (tIfS (tTest (tOp (rNeD K) (tOp (rIx K) (tVar 5) (tC (.int 1))) (tTup (tCons (tC (.str "still")) tNil)))) (tDrop (tBM K "list" rAppend (tVar 4) (tCons (tOp (rIx K) (tVar 5) (tC (.int 1))) tNil))) (tNext)) (tAsg (tOp (rIx K) (tVar 5) (tC (.int 2))) (gName 3)))
    { nx:=fun s3 h3=>Wf2 s3 h3 fun s' h'=>∃ r,s' = [.im (toldv asks says rooms ds),imd K (.s ((heardOf w).map gDT)),imd K (.s (w.map dDT)),imd K (sDT r),.lc 0,.no]/\h' = [(0,.lst (((heardOf (w.take (i + 1))).map gDT).map (imd K)))]/\goL ds r (w.drop (i + 1)) = true,rt:=φ,bk:=fun s' h'=>SS s' h' (tRet (tOp (rEqD K) (tVar 4) (tVar 1))) ⟨fun _ h'=>φ (.im nv) h',φ,fun _ _=>False,fun _ _=>False⟩,ct:=fun s3 h3=>Wf2 s3 h3 fun s' h'=>∃ r,s' = [.im (toldv asks says rooms ds),imd K (.s ((heardOf w).map gDT)),imd K (.s (w.map dDT)),imd K (sDT r),.lc 0,.no]/\h' = [(0,.lst (((heardOf (w.take (i + 1))).map gDT).map (imd K)))]/\goL ds r (w.drop (i + 1)) = true }:=by
   refine ss_seq <| ss_if <| et_test <| ev_neD (K:=K) <| ev_ix (K:=K) <| ev_var rfl <| ev_int (K:=K) ⟨_,_,_,_,.t,rfl,rfl,ev_tup (K:=K) <| ea_cons <| ev_str (K:=K) <| ea_nil ⟨_,.cons .nil,by show 1 <= sizeLine; decide,_,_,.d,.d,dpG d.sg,dpG stillSg,_,rfl,?_⟩⟩
   have e1:decide (DT.t (d.sg.map sDT) = DT.t [sDT "still"]) = decide (d.sg = stillSg):=dec_gDT _ stillSg
   rw [e1]
   have hs:=heard_snoc hd
   refine ifB (fun e=>?_) (fun e=>?_)
   ·rw [if_pos e] at hs
    refine ss_app rfl ⟨_,rfl⟩ <| ev_ix (K:=K) <| ev_var rfl <| ev_int (K:=K) ⟨_,_,_,gDT d.sg,.t,rfl,rfl,_,rfl,?_,?_⟩
    ·rw [List.length_map,List.length_map]
     have:=heard_len (w.take i)
     rw [List.length_take] at this
     omega
    have eh:((heardOf (w.take i)).map gDT).map (imd K) ++ [imd K (gDT d.sg)] = ((heardOf (w.take (i + 1))).map gDT).map (imd K):=by rw [hs]; simp
    rw [eh]
    refine ss_asg <| ev_ix (K:=K) <| ev_var rfl <| ev_int (K:=K) ⟨_,_,_,_,.t,rfl,rfl,eg_name ⟨_,_,.cons (.cons (.cons (.cons (.cons (.no (.refl _)))))),fg_l1 rfl,d.b,rfl,rfl,g3⟩⟩
   ·rw [if_neg (by rw [e]; exact nofun),List.append_nil] at hs
    rw [<- hs]
    refine ss_nx <| ss_asg <| ev_ix (K:=K) <| ev_var rfl <| ev_int (K:=K) ⟨_,_,_,_,.t,rfl,rfl,eg_name ⟨_,_,.cons (.cons (.cons (.cons (.cons (.no (.refl _)))))),fg_l1 rfl,d.b,rfl,rfl,g3⟩⟩
  refine ss_seq <| ss_if <| et_test <| ev_eqD (K:=K) <| ev_ix (K:=K) <| ev_var rfl <| ev_int (K:=K) ⟨_,_,_,_,.t,rfl,rfl,ev_tup (K:=K) <| ea_cons <| ev_str (K:=K) <| ea_nil ⟨_,.cons .nil,by show 1 <= sizeLine; decide,_,_,.d,.d,dpG d.sg,dpG hushSg,_,rfl,?_⟩⟩
  have e1:decide (DT.t (d.sg.map sDT) = DT.t [sDT "hush"]) = decide (d.sg = hushSg):=dec_gDT _ hushSg
  rw [e1]
  refine ifB (fun q=>?_) (fun q=>?_)
  ·rw [if_pos (of_decide_eq_true q),Bool.and_eq_true] at g2
   refine ss_if <| et_or <| et_test <| ev_neD (K:=K) <| ev_ix (K:=K) <| ev_var rfl <| ev_int (K:=K) ⟨_,_,_,_,.t,rfl,rfl,ev_var rfl ⟨_,_,.d,.d,dpS _,dpS _,_,rfl,?_⟩⟩
   rw [dec_sDT,g2.1]
   refine iteF <| et_not <| et_b <| ev_call (K:=K) <| ea_cons <| ev_var rfl <| ea_cons <| ev_var rfl <| ea_nil ⟨by simp [plain,imd],Cn.imp (cn_lquiet (K:=K) m) fun x h' e=>.inl ⟨_,e,_,e,?_⟩⟩
   rw [g2.2]
   exact iteF <| ss_nx rest
  ·rw [if_neg (of_decide_eq_false q)] at g2
   refine ss_if <| et_test <| ev_inD (K:=K) <| ev_var rfl <| ev_ix (K:=K) <| ev_as <| ev_var rfl ⟨_,_,rfl,told_dv (K:=K),ev_int (K:=K) ⟨_,_,_,_,.t,rfl,rfl,_,_,_,.d,.s,dpD d,?_,_,rfl,?_⟩⟩
   ·have:=depths_ds2 ds
    omega
   rw [if_pos rfl,dec_dmem,g2]
   exact iteF <| ss_nx rest
 ·rintro s' h' ⟨r,rfl,rfl,hg⟩
  rw [List.length_map,List.take_length]
  refine ss_ret <| ev_eqD (K:=K) <| ev_var rfl <| ev_var rfl ⟨.s ((heardOf w).map gDT),_,IsDt.c rfl ?_,.d,dpGs _,dpGs _,?_⟩
  ·have:∀ l:List DT,Paired (IsDt K [(0,Ce.lst (((heardOf w).map gDT).map (imd K)))]) (l.map (imd K)) l:=by
    intro l
    induction l with
    | nil=>exact .nil
    | cons x l ih=>exact .cons .d ih
   exact this _
  rw [decide_eq_true rfl]
  exact f _
def law19S (C:Addr) (asks says rooms:List Str) (ds:List Door) (s1 s3:List (List Str)):List Sl:=[.no,.no,.im (toldv asks says rooms ds),.im (mv C asks says rooms ds),.im (lv [stv s1,stv s3]),.no,.no,.no]
theorem law19_tail {K:PySem.W.Frag} {C:Addr} {asks says rooms:List Str} {ds:List Door} {s1 s3:List (List Str)} {sp1 sp2 sp3 sp4 sp5:Sp} (m:ModelOk asks says rooms ds) (n1:∀ sg ∈ s1,sg ≠ stillSg) (n3:∀ sg ∈ s3,sg ≠ stillSg) (z1:s1.length <= 200) (z3:s3.length <= 200) :
  SS (law19S C asks says rooms ds s1 s3) [] (t_law19r K sp_lface (sp_is_walkedT K) (sp_walk_of K C) sp1 sp2 sp3 sp4 sp5) ⟨fun _ _=>False,fun x _=>x = .im (bv true),fun _ _=>False,fun _ _=>False⟩:=by
 have at0':atI (rooms.map sDT) 0 = some (sDT (firstR rooms)):=atI_nat (j:=0) (by rw [List.getElem?_map,m.first.1]; rfl)
 refine ss_seq <| ss_for <| ei_list (K:=K) <| ev_catV (K:=K) <| ev_var rfl <| ev_slV (K:=K) <| ev_var rfl <| ep_no <| ep_part (K:=K) <| ev_int (K:=K) ⟨1,rfl,_,.v,.inr (.inl ⟨[stv s1],(AllI.cons AllI.nil:AllI [Sl.im (stv s1)] _),_,_,.v,.v,by show 3 <= sizeLine; decide,.inr (.inl ⟨[stv s1,stv s3,stv s1],.cons (.cons (.cons .nil)),_,_,rfl,.v,fun i s' h'=>h' = []/\s' = law19S C asks says rooms ds s1 s3,wf0 (.refl _) ⟨rfl,rfl⟩,?_,?_⟩)⟩)⟩
 ·rintro i s' h' hi ⟨rfl,rfl⟩
  obtain ⟨story,el,ns,hz⟩:∃ story,elI [stv s1,stv s3,stv s1] i = stv story/\(∀ sg ∈ story,sg ≠ stillSg)/\story.length <= 200:=by
   have hi:i < 3:=hi
   match i,hi with
   | 0,_=>exact ⟨s1,rfl,n1,z1⟩
   | 1,_=>exact ⟨s3,rfl,n3,z3⟩
   | 2,_=>exact ⟨s1,rfl,n1,z1⟩
   | n + 3,h=>omega
  rw [el]
  refine eg_name ?_
  show SS [.no,.no,.im (toldv asks says rooms ds),.im (mv C asks says rooms ds),.im (lv [stv s1,stv s3]),.im (stv story),.no,.no] [] _ _
  refine ss_seq <| ss_asg <| ev_list (K:=K) <| ev_as <| ev_var rfl ⟨_,_,rfl,stv_dv (K:=K),_,_,.s,lst_d <| eg_name ?_⟩
  show SS [.no,.no,.im (toldv asks says rooms ds),.im (mv C asks says rooms ds),.im (lv [stv s1,stv s3]),.im (stv story),imd K (.s (story.map gDT)),.no] [] _ _
  refine ss_seq <| ss_asg <| ev_call (K:=K) <| ea_cons <| ev_var rfl <| ea_cons <| ev_var rfl <| ea_nil ⟨by simp [plain,imd],cn_h ⟨asks,says,rooms,ds,story,m,hz,ns,rfl,rfl,fun hf h'=>.inl ⟨_,rfl,eg_name ?_⟩,fun hf w h' gw hw hl lk=>.inr ⟨901,_,rfl,lk,plain_d _,.inr (.inr ⟨0,⟨by decide,rfl⟩,eg_name ?_⟩)⟩⟩⟩
  ·refine ss_seq <| ss_if <| et_test <| ev_neD (K:=K) <| ev_var rfl <| ev_as <| ev_var rfl ⟨_,_,rfl,stv_dv (K:=K),_,_,.d,.d,dpGs _,dpGs _,_,rfl,?_⟩
   rw [dec_self]
   refine iteF <| ss_nx <| ss_if <| et_test <| ev_noface (K:=K) m <| ev_var rfl ⟨rfl,ev_var rfl ⟨rfl,_,rfl,?_⟩⟩
   rw [decide_eq_true hf]
   exact iteT <| ss_if <| et_b <| ev_notN <| ev_var rfl ⟨true,.n,_,rfl,iteF <| ss_nx <| wf0 (.cons (.cons (.cons (.cons (.cons (.no (.no (.no (.refl _))))))))) ⟨rfl,rfl⟩⟩
  ·subst hw
   refine ss_seq <| ss_if <| et_test <| ev_neD (K:=K) <| ev_var rfl <| ev_as <| ev_var rfl ⟨_,_,rfl,stv_dv (K:=K),_,_,.d,.d,dpGs _,dpGs _,_,rfl,?_⟩
   rw [dec_self]
   refine iteF <| ss_nx <| ss_if <| et_test <| ev_noface (K:=K) m <| ev_var rfl ⟨rfl,ev_var rfl ⟨rfl,_,rfl,?_⟩⟩
   rw [decide_eq_false hf]
   refine iteF <| ss_if <| et_not <| et_b <| ev_callL (K:=K) <| ea_cons <| ev_var rfl <| ea_cons <| ev_as <| ev_var rfl ⟨_,_,rfl,stv_dv (K:=K),ea_cons <| ev_var rfl <| ea_nil ⟨0,w.map dDT,rfl,by simp [plain,imd],cn_h ⟨asks,says,rooms,ds,w,m,hl,gw,rfl,rfl,fun h'=>⟨true,rfl,_,rfl,iteF ?_⟩⟩⟩⟩
   refine ss_app rfl ⟨_,rfl⟩ <| ev_tup (K:=K) <| ea_cons <| ev_ixL (K:=K) <| ev_ix (K:=K) <| ev_as <| ev_var rfl ⟨_,_,rfl,told_dv (K:=K),ev_int (K:=K) ⟨_,_,_,_,.t,rfl,rfl,ev_int (K:=K) ⟨_,_,_,.s,rfl,at0',?_⟩⟩⟩
   refine ea_cons <| ev_tup (K:=K) <| ea_cons <| ev_str (K:=K) <| ea_nil ⟨_,.cons .nil,by show 1 <= sizeLine; decide,?_⟩
   refine ea_cons <| ev_ixL (K:=K) <| ev_ix (K:=K) <| ev_as <| ev_var rfl ⟨_,_,rfl,told_dv (K:=K),ev_int (K:=K) ⟨_,_,_,_,.t,rfl,rfl,ev_int (K:=K) ⟨_,_,_,.s,rfl,at0',?_⟩⟩⟩
   refine ea_nil ⟨_,.cons (.cons (.cons .nil)),by show 3 <= sizeLine; decide,_,rfl,by rw [List.length_map,List.length_map]; omega,?_⟩
   refine ⟨_,[],.cons (.cons (.cons (.cons (.cons (.no (.no (.no (.refl _)))))))),⟨List.nil_sublist _,rfl,rfl,fun n c e l=>?_⟩,rfl,rfl⟩
   rcases List.mem_cons.mp e with e | e
   ·cases e; exact absurd l (by omega)
   ·cases e
 ·rintro s' h' ⟨rfl,rfl⟩
  exact ss_ret <| ev_bl rfl
def sp_law19 (K:PySem.W.Frag):Sp:=fun vs H Q _=>∃ (a:Addr) (ns:List Int),vs = [.ref a]/\SqL K H a (ns.map V.int)/\ns.length <= 63/\∀ H',Q (.bl true) H'
theorem rd_law19 {K:PySem.W.Frag} {C:Addr} {vs:List V} {H:Hp} {Q:VK} {E:XK} (h:sp_law19 K vs H Q E):t_law19 K sp_lface (sp_is_walkedT K) (sp_walk_of K C) sp_oddN (sp_storyN K) (sp_machine C) sp_model (sp_open K) { nx:=fun _ H'=>Q .non H',rt:=Q } (start N_law19 vs) H:=by
 obtain ⟨a,ns,rfl,hs,hn,k⟩:=h
 refine ⟨_,rfl,a,ns,rfl,hs,hn,fun p c H1 _ hp1 S1=>?_⟩
 refine ⟨_,rfl,p,c,5,0,rfl,hp1,by decide,by decide,by decide,by decide,fun t l1 l2 l3 l4 ts asks says rooms ds H2 T2 m hrl few hp2 ex2=>?_⟩
 refine ⟨_,rfl,t,l1,l2,l3,l4,ts,asks,says,rooms,ds,rfl,T2,m,fun x H3 M3 S3=>?_⟩
 have T3:=T2.same S3
 have hp3:=hp2.ex S3
 refine ⟨_,rfl,_,rfl,p,c,t,l1,l2,l3,l4,ts,asks,says,rooms,ds,12,rfl,hp3,T3,m,by decide,fun st1 us1 s1 H4 h4 hS4 hN4 hz4 hp4 ex4=>?_⟩
 have T4:=T3.ex hp3 ex4
 refine ⟨_,rfl,_,rfl,_,rfl,_,rfl,p,c,t,l1,l2,l3,l4,ts,asks,says,rooms,ds,12,rfl,hp4,T4,m,by decide,fun st2 us2 s2 H5 h5 hS5 hN5 hz5 hp5 ex5=>?_⟩
 have T5:=T4.ex hp4 ex5
 refine ⟨p,c,t,st2,l1,l2,l3,l4,ts,us2,asks,says,rooms,ds,s2,rfl,hp5,T5,m,h5,hS5,hN5,by omega,fun st3 us3 s3 H6 h6 hS6 hN6 hz6 hp6 ex6=>?_⟩
 refine ⟨by show 2 <= sizeLine; decide,fun L hL=>?_⟩
 have ex46:=ex5.trans ex6
 have h46:H6 st1 = some (.lst (us1.map V.ref)):=ex46 _ _ h4 (hp4.ne_refs h4)
 obtain ⟨xs4,hx4⟩:=hp4.lst
 have hS46:=Sgns.kt (ex46.kt hx4) hS4
 have T6:=T5.ex hp5 ex6
 have M6:=M3.ex hp3 (ex4.trans ex46)
 have S7:Same H6 (upd H6 L (.lst [.ref st1,.ref st3])):=Same.new hL
 have hp7:=hp6.ex S7
 have T7:=T6.same S7
 have M7:=M6.same S7
 have st1':=S7 _ _ h46
 have st3':=S7 _ _ h6
 have hS1:=Sgns.kt (Same.kt S7) hS46
 have hS3:=Sgns.kt (Same.kt S7) hS6
 have hL7:upd H6 L (.lst [.ref st1,.ref st3]) L = some (.lst [.ref st1,.ref st3]):=upd_same
 have Lp:L ≠ p:=fun z=>(hp6.nep hL) (by rw [z])
 generalize upd H6 L (.lst [.ref st1,.ref st3]) = H7 at hp7 T7 M7 st1' st3' hS1 hS3 hL7
 obtain ⟨xs7,hx7⟩:=hp7.lst
 refine enter (s:=law19S C asks says rooms ds s1 s3) (t:=t_law19r K sp_lface (sp_is_walkedT K) (sp_walk_of K C) sp_oddN (sp_storyN K) (sp_machine C) sp_model (sp_open K)) hp7 rfl (fun G ex i y hy=>?_) (law19_tail m hN4 hN6 (by omega) (by omega)) k
 match i,hy with
 | 0,hy=>cases hy; exact .inl rfl
 | 1,hy=>cases hy; exact .inl rfl
 | 2,hy=>cases hy; exact .inr (.inr ⟨_,_,rfl,rfl,t,l1,l2,l3,l4,ts,rfl,T7.ex hp7 ex⟩)
 | 3,hy=>cases hy; exact .inr (.inr ⟨_,_,rfl,rfl,_,rfl,M7.ex hp7 ex⟩)
 | 4,hy=>cases hy; exact .inr (.inr ⟨_,_,rfl,rfl,L,_,rfl,ex _ _ hL7 Lp,.cons ⟨st1,us1,rfl,ex _ _ st1' (hp7.ne_refs st1'),Sgns.kt (ex.kt hx7) hS1⟩ (.cons ⟨st3,us3,rfl,ex _ _ st3' (hp7.ne_refs st3'),Sgns.kt (ex.kt hx7) hS3⟩ .nil)⟩)
 | 5,hy=>cases hy; exact .inl rfl
 | 6,hy=>cases hy; exact .inl rfl
 | 7,hy=>cases hy; exact .inl rfl
 | i + 8,hy=>cases hy
variable {P:Program} {w:World} {K:PySem.W.Frag} {mg:Str->Option Value} {base:Heap}
abbrev Dr (P:Program) (w:World) (K:PySem.W.Frag) (mg:Str->Option Value) (base:Heap) (k:Nat) (q:Str) (st:Stmt) (N:List Str) (t:TS):Prop:=∀ {f:Addr} {cdv:Value} {A:Around} {outer:List Env} {s:Shared} {H:Hp} {E:XK},Room k (A.deeper (envOfC q (defScope st) s.heap.objs.size f cdv))->PSs (cxOf CX0 P w K mg base N q (defScope st) f cdv A outer s H E).nox (defBody st) t
def top (i:Nat):Stmt:=PySem.Challenge.pw_mumtrial_k19_walks_told.main.body.getD i (.Pass ⟨0,0,0,0⟩)
abbrev s_law_spread:Stmt:=top 31
theorem S_law_spread:FnScope N_law_spread ps_law_spread (defScope s_law_spread):=⟨rfl,rfl,rfl,by decide +kernel,rfl,by decide +kernel,by decide +kernel⟩
theorem der_law_spread  :Dr P w K mg base 0 "_law_spread" s_law_spread N_law_spread (t_law_spread K ):=by
 intro f cdv A outer s H E hr
 have hu:=hu_of hr
 have S:=S_law_spread
 exact pss_cons (ps_if (pt_cmpR op_ge (pv 0) (pe_op op_pow (pe_int) (pe_int)) (nomark _)) (pss_one (ps_ret (pv 0))) (pss_nil))
  (pss_cons (ps_set (i:=2) S.nd rfl (Or.inl rfl) (pe_op op_mod (pe_op op_add (pe_op op_add (pe_op op_mul (pe_op op_mod (pv 0) (pe_int)) (pe_int)) (pe_op op_mul (pv 1) (pe_int))) (pe_int)) (pe_int)))
  (pss_cons (ps_set (i:=3) S.nd rfl (Or.inl rfl) (pe_op op_mod (pe_op op_add (pe_op op_add (pe_op op_mul (pv 2) (pv 2)) (pe_op op_mul (pv 1) (pe_int))) (pe_op op_mod (pv 0) (pe_int))) (pe_int)))
  (pss_cons (ps_set (i:=4) S.nd rfl (Or.inl rfl) (pe_op op_mod (pe_op op_add (pe_op op_add (pe_op op_mul (pv 3) (pv 3)) (pe_op op_mul (pv 2) (pe_int))) (pe_int)) (pe_int)))
  (pss_one (ps_ret (pe_op op_add (pe_op op_mul (pe_op op_add (pe_op op_mul (pv 2) (pe_int)) (pv 3)) (pe_int)) (pv 4)))))))
abbrev s_law_open:Stmt:=top 32
theorem S_law_open:FnScope N_law_open ps_law_open (defScope s_law_open):=⟨rfl,rfl,rfl,by decide +kernel,rfl,by decide +kernel,by decide +kernel⟩
theorem der_law_open  (z_enumerate:mg "enumerate" = none) (z_list:mg "list" = none):Dr P w K mg base 0 "_law_open" s_law_open N_law_open (t_law_open K ):=by
 intro f cdv A outer s H E hr
 have hu:=hu_of hr
 have S:=S_law_open
 exact pss_cons (ps_set (i:=1) S.nd rfl (Or.inl rfl) (pe_callTy (call_listA rfl) rfl z_list bootT_list (pa_cons (pe_slice sl_list (pv 0) (po_none) (po_some (pe_int))) pa_nil)))
  (pss_cons (ps_for PassesOwn.never rfl (pi_enum rfl z_enumerate (pa_cons (pe_slice sl_list (pv 0) (po_some (pe_int)) (po_some (pe_int))) pa_nil)) (pg_tup rfl (pgs_cons (pg_name (i:=2) S.nd rfl (Or.inl rfl)) (pgs_cons (pg_name (i:=3) S.nd rfl (Or.inl rfl)) (pgs_nil)))) (pss_one (ps_asg (pe_op op_add (pe_ix ix_list (pv 1) (pe_op op_mod (pv 2) (pe_int)) (fun _ _=>rfl)) (pv 3)) (pg_sub (pv 1) (pe_op op_mod (pv 2) (pe_int)) set_list))))
  (pss_one (ps_ret (pe_lst (pa_cons (pv 1) (pa_cons (pe_int) (pa_cons (pe_int) pa_nil)))))))
abbrev s_law_anew:Stmt:=top 33
theorem S_law_anew:FnScope N_law_anew ps_law_anew (defScope s_law_anew):=⟨rfl,rfl,rfl,by decide +kernel,rfl,by decide +kernel,by decide +kernel⟩
theorem der_law_anew  :Dr P w K mg base 0 "_law_anew" s_law_anew N_law_anew (t_law_anew K ):=by
 intro f cdv A outer s H E hr
 have hu:=hu_of hr
 have S:=S_law_anew
 exact pss_cons (ps_asg (pe_int) (pg_sub (pv 0) (pe_int) set_list))
  (pss_one (ps_ret (pv 0)))
abbrev s_law_take:Stmt:=top 34
theorem S_law_take:FnScope N_law_take ps_law_take (defScope s_law_take):=⟨rfl,rfl,rfl,by decide +kernel,rfl,by decide +kernel,by decide +kernel⟩
theorem der_law_take {sp_law_spread:Sp} (D_law_spread:Def P w K mg base "_law_spread" ["cell","at"] 1 sp_law_spread) (z_len:mg "len" = none):Dr P w K mg base 1 "_law_take" s_law_take N_law_take (t_law_take K sp_law_spread):=by
 intro f cdv A outer s H E hr
 have hu:=hu_of hr
 have S:=S_law_take
 exact pss_cons (ps_if (pt_cmpR op_lt (pe_ix ix_list (pv 0) (pe_int) (fun _ _=>rfl)) (pv 1) (nomark _)) (pss_cons (ps_set (i:=2) S.nd rfl (Or.inl rfl) (pe_ix ix_list (pv 0) (pe_int) (fun _ _=>rfl)))
  (pss_cons (ps_set (i:=3) S.nd rfl (Or.inl rfl) (pe_int))
  (pss_cons (ps_if (pt_cmpR op_lt (pv 2) (pe_callB call_lenA rfl z_len PySem.boot_len (pa_cons (pe_ix ix_list (pv 0) (pe_int) (fun _ _=>rfl)) pa_nil)) (nomark _)) (pss_one (ps_set (i:=3) S.nd rfl (Or.inl rfl) (pe_ix ix_list (pe_ix ix_list (pv 0) (pe_int) (fun _ _=>rfl)) (pv 2) (fun _ _=>rfl)))) (pss_one (ps_if (pt_cmpR op_gt (pe_callB call_lenA rfl z_len PySem.boot_len (pa_cons (pe_ix ix_list (pv 0) (pe_int) (fun _ _=>rfl)) pa_nil)) (pe_int) (nomark _)) (pss_one (ps_set (i:=3) S.nd rfl (Or.inl rfl) (pe_op op_mod (pe_ix ix_list (pe_ix ix_list (pv 0) (pe_int) (fun _ _=>rfl)) (pe_op op_mod (pe_op op_add (pe_op op_mul (pv 2) (pe_int)) (pe_int)) (pe_callB call_lenA rfl z_len PySem.boot_len (pa_cons (pe_ix ix_list (pv 0) (pe_int) (fun _ _=>rfl)) pa_nil))) (fun _ _=>rfl)) (pe_op op_add (pe_op op_pow (pe_int) (pe_int)) (pv 2))))) (pss_nil))))
  (pss_cons (ps_asg (pe_op op_add (pv 2) (pe_int)) (pg_sub (pv 0) (pe_int) set_list))
  (pss_one (ps_asg (pe_fn D_law_spread (hr.mono (by decide)) rfl (pa_cons (pv 3) (pa_cons (pv 2) pa_nil))) (pg_sub (pv 0) (pe_int) set_list))))))) (pss_nil))
  (pss_cons (ps_set (i:=4) S.nd rfl (Or.inl rfl) (pe_op op_mod (pe_ix ix_list (pv 0) (pe_int) (fun _ _=>rfl)) (pv 1)))
  (pss_cons (ps_asg (pe_op op_fdiv (pe_ix ix_list (pv 0) (pe_int) (fun _ _=>rfl)) (pv 1)) (pg_sub (pv 0) (pe_int) set_list))
  (pss_one (ps_ret (pv 4)))))
abbrev s_law_names:Stmt:=top 35
theorem S_law_names:FnScope N_law_names ps_law_names (defScope s_law_names):=⟨rfl,rfl,rfl,by decide +kernel,rfl,by decide +kernel,by decide +kernel⟩
theorem der_law_names {sp_law_take:Sp} (z_range:mg "range" = none) (z_len:mg "len" = none) (D_law_take:Def P w K mg base "_law_take" ["pen","many"] 2 sp_law_take):Dr P w K mg base 2 "_law_names" s_law_names N_law_names (t_law_names K sp_law_take):=by
 intro f cdv A outer s H E hr
 have hu:=hu_of hr
 have S:=S_law_names
 exact pss_cons (ps_set (i:=2) S.nd rfl (Or.inr rfl) (pe_str))
  (pss_cons (ps_set (i:=3) S.nd rfl (Or.inl rfl) (pe_bm PySem.F.plainAttrs_str PySem.F.slot_str_join PySem.F.type_str_join mt_join (pe_str) (pa_cons (pe_comp (k:=1) (N:=["k","letters","pen"]) (fi:=[2,0]) (by with_unfolding_all rfl) rfl (pi_range1 rfl z_range (pa_cons (pe_int) pa_nil)) (fun _ _ _ _ _ _=>pg_name (i:=0) (show (["k","letters","pen"]:List Str).Nodup by decide +kernel) rfl (Or.inl rfl)) (own_name (by decide)) (fun _ _ _ _ _ _=>pif_none) (fun _ _ _ _ _ _=>pe_ix ix_str (pv 1) (pe_fn D_law_take (hr.mono (by decide)) rfl (pa_cons (pv 2) (pa_cons (pe_int) pa_nil))) (fun _ _=>rfl))) pa_nil)))
  (pss_cons (ps_set (i:=4) S.nd rfl (Or.inl rfl) (pe_fn D_law_take (hr.mono (by decide)) rfl (pa_cons (pv 0) (pa_cons (pe_int) pa_nil))))
  (pss_cons (ps_set (i:=5) S.nd rfl (Or.inl rfl) (pe_fn D_law_take (hr.mono (by decide)) rfl (pa_cons (pv 0) (pa_cons (pe_int) pa_nil))))
  (pss_cons (ps_set (i:=6) S.nd rfl (Or.inl rfl) (pe_fn D_law_take (hr.mono (by decide)) rfl (pa_cons (pv 0) (pa_cons (pe_int) pa_nil))))
  (pss_cons (ps_set (i:=7) S.nd rfl (Or.inl rfl) (pe_lst (pa_nil)))
  (pss_cons (ps_for PassesOwn.never rfl (pi_range1 rfl z_range (pa_cons (pv 1) pa_nil)) (pg_name (i:=8) S.nd rfl (Or.inl rfl)) (pss_cons (ps_set (i:=9) S.nd rfl (Or.inl rfl) (pe_ix ix_str (pv 2) (pe_op op_mod (pe_op op_add (pv 5) (pe_op op_mul (pe_int) (pv 8))) (pe_int)) (fun _ _=>rfl)))
  (pss_cons (ps_set (i:=10) S.nd rfl (Or.inl rfl) (pe_slice sl_str (pv 3) (po_none) (po_some (pe_op op_mod (pe_op op_add (pv 6) (pe_op op_mul (pv 8) (pe_op op_mod (pv 4) (pe_int)))) (pe_int)))))
  (pss_cons (ps_set (i:=11) S.nd rfl (Or.inl rfl) (pe_ix ix_list (pe_lst (pa_cons (pe_int) (pa_cons (pe_callB call_lenA rfl z_len PySem.boot_len (pa_cons (pv 10) pa_nil)) (pa_cons (pe_op op_fdiv (pe_callB call_lenA rfl z_len PySem.boot_len (pa_cons (pv 10) pa_nil)) (pe_int)) pa_nil)))) (pv 4) (fun _ _=>rfl)))
  (pss_one (ps_expr (pe_bm PySem.F.plainAttrs_list PySem.F.slot_list_append PySem.F.type_list_append mt_append (pv 7) (pa_cons (pe_op op_add_str (pe_op op_add_str (pe_slice sl_str (pv 10) (po_none) (po_some (pv 11))) (pv 9)) (pe_slice sl_str (pv 10) (po_some (pv 11)) (po_none))) pa_nil))))))))
  (pss_one (ps_ret (pv 7)))))))))
abbrev s_law_put:Stmt:=top 36
theorem S_law_put:FnScope N_law_put ps_law_put (defScope s_law_put):=⟨rfl,rfl,rfl,by decide +kernel,rfl,by decide +kernel,by decide +kernel⟩
theorem der_law_put  :Dr P w K mg base 0 "_law_put" s_law_put N_law_put (t_law_put K ):=by
 intro f cdv A outer s H E hr
 have hu:=hu_of hr
 have S:=S_law_put
 exact pss_one (ps_if (pt_cmpR (op_notInD hu) (pv 1) (pv 0) (by with_unfolding_all rfl)) (pss_one (ps_expr (pe_bm PySem.F.plainAttrs_list PySem.F.slot_list_append PySem.F.type_list_append mt_append (pv 0) (pa_cons (pv 1) pa_nil)))) (pss_nil))
abbrev s_law_draw_doors:Stmt:=top 37
theorem S_law_draw_doors:FnScope N_law_draw_doors ps_law_draw_doors (defScope s_law_draw_doors):=⟨rfl,rfl,rfl,by decide +kernel,rfl,by decide +kernel,by decide +kernel⟩
theorem der_law_draw_doors {sp_law_take:Sp} {sp_law_put:Sp} (z_enumerate:mg "enumerate" = none) (D_law_take:Def P w K mg base "_law_take" ["pen","many"] 2 sp_law_take) (D_law_put:Def P w K mg base "_law_put" ["doors","door"] 1 sp_law_put) (z_len:mg "len" = none) (z_range:mg "range" = none):Dr P w K mg base 2 "_law_draw_doors" s_law_draw_doors N_law_draw_doors (t_law_draw_doors K sp_law_take sp_law_put):=by
 intro f cdv A outer s H E hr
 have hu:=hu_of hr
 have S:=S_law_draw_doors
 exact pss_cons (ps_set (i:=5) S.nd rfl (Or.inl rfl) (pe_lst (pa_nil)))
  (pss_cons (ps_set (i:=6) S.nd rfl (Or.inl rfl) (pe_fn D_law_take (hr.mono (by decide)) rfl (pa_cons (pv 0) (pa_cons (pe_int) pa_nil))))
  (pss_cons (ps_for PassesOwn.never rfl (pi_enum rfl z_enumerate (pa_cons (pv 3) pa_nil)) (pg_tup rfl (pgs_cons (pg_name (i:=7) S.nd rfl (Or.inl rfl)) (pgs_cons (pg_name (i:=8) S.nd rfl (Or.inl rfl)) (pgs_nil)))) (pss_cons (ps_for PassesOwn.never rfl (pi_range1 rfl z_range (pa_cons (pe_ix ix_list (pe_lst (pa_cons (pe_int) (pa_cons (pe_int) (pa_cons (pe_int) (pa_cons (pe_int) pa_nil))))) (pe_fn D_law_take (hr.mono (by decide)) rfl (pa_cons (pv 0) (pa_cons (pe_int) pa_nil))) (fun _ _=>rfl)) pa_nil)) (pg_name (i:=9) S.nd rfl (Or.inl rfl)) (pss_cons (ps_set (i:=10) S.nd rfl (Or.inl rfl) (pe_tup (pa_cons (pe_str) (pa_cons (pe_ix ix_list (pv 2) (pe_fn D_law_take (hr.mono (by decide)) rfl (pa_cons (pv 0) (pa_cons (pe_callB call_lenA rfl z_len PySem.boot_len (pa_cons (pv 2) pa_nil)) pa_nil))) (fun _ _=>rfl)) pa_nil))))
  (pss_one (ps_expr (pe_fn D_law_put (hr.mono (by decide)) rfl (pa_cons (pv 5) (pa_cons (pe_tup (pa_cons (pv 8) (pa_cons (pv 10) (pa_cons (pe_ix ix_list (pv 3) (pe_fn D_law_take (hr.mono (by decide)) rfl (pa_cons (pv 0) (pa_cons (pe_callB call_lenA rfl z_len PySem.boot_len (pa_cons (pv 3) pa_nil)) pa_nil))) (fun _ _=>rfl)) pa_nil)))) pa_nil)))))))
  (pss_cons (ps_for PassesOwn.never rfl (pi_list (pv 1)) (pg_name (i:=11) S.nd rfl (Or.inl rfl)) (pss_one (ps_for PassesOwn.never rfl (pi_range1 rfl z_range (pa_cons (pe_ix ix_list (pe_lst (pa_cons (pv 4) (pa_cons (pe_int) (pa_cons (pe_int) (pa_cons (pe_int) pa_nil))))) (pe_fn D_law_take (hr.mono (by decide)) rfl (pa_cons (pv 0) (pa_cons (pe_int) pa_nil))) (fun _ _=>rfl)) pa_nil)) (pg_name (i:=9) S.nd rfl (Or.inl rfl)) (pss_one (ps_expr (pe_fn D_law_put (hr.mono (by decide)) rfl (pa_cons (pv 5) (pa_cons (pe_tup (pa_cons (pv 8) (pa_cons (pe_tup (pa_cons (pe_str) (pa_cons (pv 11) pa_nil))) (pa_cons (pe_ix ix_list (pv 3) (pe_fn D_law_take (hr.mono (by decide)) rfl (pa_cons (pv 0) (pa_cons (pe_callB call_lenA rfl z_len PySem.boot_len (pa_cons (pv 3) pa_nil)) pa_nil))) (fun _ _=>rfl)) pa_nil)))) pa_nil))))))))
  (pss_cons (ps_set (i:=12) S.nd rfl (Or.inl rfl) (pe_ix ix_list (pe_lst (pa_cons (pe_slice sl_list (pv 3) (po_some (pe_op op_add (pv 7) (pe_int))) (po_none)) (pa_cons (pe_slice sl_list (pv 3) (po_none) (po_some (pv 7))) pa_nil))) (pv 6) (fun _ _=>rfl)))
  (pss_one (ps_if (PW.pt (pw_and (pt_cmpR (op_neD hu) (pv 12) (pe_lst (pa_nil)) (nomark _)) (pw_and1 (pt_cmpR op_eq (pe_fn D_law_take (hr.mono (by decide)) rfl (pa_cons (pv 0) (pa_cons (pe_int) pa_nil))) (pe_int) (nomark _))))) (pss_one (ps_expr (pe_fn D_law_put (hr.mono (by decide)) rfl (pa_cons (pv 5) (pa_cons (pe_tup (pa_cons (pv 8) (pa_cons (pe_tup (pa_cons (pe_str) pa_nil)) (pa_cons (pe_ix ix_seq (pv 12) (pe_fn D_law_take (hr.mono (by decide)) rfl (pa_cons (pv 0) (pa_cons (pe_callB call_lenA rfl z_len PySem.boot_len (pa_cons (pv 12) pa_nil)) pa_nil))) (fun _ _=>rfl)) pa_nil)))) pa_nil))))) (pss_nil)))))))
  (pss_one (ps_ret (pv 5)))))
abbrev s_law_model:Stmt:=top 38
theorem S_law_model:FnScope N_law_model ps_law_model (defScope s_law_model):=⟨rfl,rfl,rfl,by decide +kernel,rfl,by decide +kernel,by decide +kernel⟩
theorem der_law_model {sp_law_draw_doors:Sp} {sp_law_names:Sp} {sp_law_take:Sp} {sp_law_anew:Sp} (D_law_draw_doors:Def P w K mg base "_law_draw_doors" ["pen","asks","says","rooms","full"] 3 sp_law_draw_doors) (D_law_names:Def P w K mg base "_law_names" ["pen","many"] 3 sp_law_names) (D_law_take:Def P w K mg base "_law_take" ["pen","many"] 2 sp_law_take) (D_law_anew:Def P w K mg base "_law_anew" ["pen"] 1 sp_law_anew):Dr P w K mg base 3 "_law_model" s_law_model N_law_model (t_law_model K sp_law_draw_doors sp_law_names sp_law_take sp_law_anew):=by
 intro f cdv A outer s H E hr
 have hu:=hu_of hr
 have S:=S_law_model
 exact pss_cons (ps_expr (pe_fn D_law_anew (hr.mono (by decide)) rfl (pa_cons (pv 0) pa_nil)))
  (pss_cons (ps_set (i:=3) S.nd rfl (Or.inl rfl) (pe_fn D_law_names (hr.mono (by decide)) rfl (pa_cons (pv 0) (pa_cons (pe_int) pa_nil))))
  (pss_cons (ps_set (i:=4) S.nd rfl (Or.inl rfl) (pe_slice sl_list (pv 3) (po_none) (po_some (pe_op op_add (pe_int) (pe_ix ix_list (pe_lst (pa_cons (pe_int) (pa_cons (pe_int) (pa_cons (pe_int) (pa_cons (pe_int) (pa_cons (pe_int) (pa_cons (pe_int) pa_nil))))))) (pe_fn D_law_take (hr.mono (by decide)) rfl (pa_cons (pv 0) (pa_cons (pe_int) pa_nil))) (fun _ _=>rfl))))))
  (pss_cons (ps_set (i:=5) S.nd rfl (Or.inl rfl) (pe_slice sl_list (pv 3) (po_some (pe_int)) (po_some (pe_op op_add (pe_int) (pe_ix ix_list (pe_lst (pa_cons (pe_int) (pa_cons (pe_int) (pa_cons (pe_int) (pa_cons (pe_int) (pa_cons (pe_int) (pa_cons (pe_int) pa_nil))))))) (pe_fn D_law_take (hr.mono (by decide)) rfl (pa_cons (pv 0) (pa_cons (pe_int) pa_nil))) (fun _ _=>rfl))))))
  (pss_cons (ps_set (i:=6) S.nd rfl (Or.inl rfl) (pe_fn D_law_names (hr.mono (by decide)) rfl (pa_cons (pv 0) (pa_cons (pe_op op_add (pe_int) (pe_fn D_law_take (hr.mono (by decide)) rfl (pa_cons (pv 0) (pa_cons (pv 1) pa_nil)))) pa_nil))))
  (pss_cons (ps_set (i:=7) S.nd rfl (Or.inl rfl) (pe_fn D_law_draw_doors (hr.mono (by decide)) rfl (pa_cons (pv 0) (pa_cons (pv 4) (pa_cons (pv 5) (pa_cons (pv 6) (pa_cons (pv 2) pa_nil)))))))
  (pss_one (ps_ret (pe_tup (pa_cons (pv 4) (pa_cons (pv 5) (pa_cons (pv 6) (pa_cons (pv 7) pa_nil))))))))))))
abbrev s_is_name:Stmt:=top 11
theorem S_is_name:FnScope N_is_name ps_is_name (defScope s_is_name):=⟨rfl,rfl,rfl,by decide +kernel,rfl,by decide +kernel,by decide +kernel⟩
theorem der_is_name  (z_all:mg "all" = none) (g_LETTERS:Gc mg "LETTERS" (.str "abcdefghijklmnopqrstuvwxyz")) (z_len:mg "len" = none) (g_LONGEST_NAME:Gc mg "LONGEST_NAME" (.int 8)):Dr P w K mg base 0 "is_name" s_is_name N_is_name (t_is_name K ):=by
 intro f cdv A outer s H E hr
 have hu:=hu_of hr
 have S:=S_is_name
 exact pss_one (ps_ret (pe_and (pe_cmpR op_ne (pv 0) (pe_str) (nomark _)) (pe_and (pe_cmpR op_le (pe_callB call_lenA rfl z_len PySem.boot_len (pa_cons (pv 0) pa_nil)) (pe_gc rfl g_LONGEST_NAME) (nomark _)) (pe_one (pe_callB (call_all_bl rfl) rfl z_all boot_all (pa_cons (pe_comp (k:=1) (N:=["letter"]) (fi:=[]) (by with_unfolding_all rfl) rfl (pi_str (pv 0)) (fun _ _ _ _ _ _=>pg_name (i:=0) (show (["letter"]:List Str).Nodup by decide +kernel) rfl (Or.inl rfl)) (own_name (by decide)) (fun _ _ _ _ _ _=>pif_none) (fun _ _ _ _ _ _=>pe_cmpR op_in_sign (pv 0) (pe_gc rfl g_LETTERS) (by with_unfolding_all rfl))) pa_nil))))))
abbrev s_as_keys:Stmt:=top 12
theorem S_as_keys:FnScope N_as_keys ps_as_keys (defScope s_as_keys):=⟨rfl,rfl,rfl,by decide +kernel,rfl,by decide +kernel,by decide +kernel⟩
theorem der_as_keys  :Dr P w K mg base 0 "as_keys" s_as_keys N_as_keys (t_as_keys K ):=by
 intro f cdv A outer s H E hr
 have hu:=hu_of hr
 have S:=S_as_keys
 exact pss_cons (ps_set (i:=1) S.nd rfl (Or.inl rfl) (pe_dnewK))
  (pss_cons (ps_for PassesOwn.never rfl (pi_list (pv 0)) (pg_name (i:=2) S.nd rfl (Or.inl rfl)) (pss_one (ps_dput hu (pv 1) (pv 2) (pe_bl) rfl)))
  (pss_one (ps_ret (pv 1))))
abbrev s_first_wrong_name:Stmt:=top 13
theorem S_first_wrong_name:FnScope N_first_wrong_name ps_first_wrong_name (defScope s_first_wrong_name):=⟨rfl,rfl,rfl,by decide +kernel,rfl,by decide +kernel,by decide +kernel⟩
theorem der_first_wrong_name {sp_is_name:Sp} {sp_as_keys:Sp} (z_enumerate:mg "enumerate" = none) (D_is_name:Def P w K mg base "is_name" ["text"] 1 sp_is_name) (D_as_keys:Def P w K mg base "as_keys" ["things"] 1 sp_as_keys) (z_len:mg "len" = none):Dr P w K mg base 1 "first_wrong_name" s_first_wrong_name N_first_wrong_name (t_first_wrong_name K sp_is_name sp_as_keys):=by
 intro f cdv A outer s H E hr
 have hu:=hu_of hr
 have S:=S_first_wrong_name
 exact pss_cons (ps_if (pt_cmpR op_eq (pe_callB call_lenA rfl z_len PySem.boot_len (pa_cons (pv 0) pa_nil)) (pe_int) (nomark _)) (pss_one (ps_ret (pe_int))) (pss_nil))
  (pss_cons (ps_set (i:=3) S.nd rfl (Or.inl rfl) (pe_fn D_as_keys (hr.mono (by decide)) rfl (pa_cons (pv 2) pa_nil)))
  (pss_cons (ps_for PassesOwn.never rfl (pi_enum rfl z_enumerate (pa_cons (pv 0) pa_nil)) (pg_tup rfl (pgs_cons (pg_name (i:=4) S.nd rfl (Or.inl rfl)) (pgs_cons (pg_name (i:=5) S.nd rfl (Or.inl rfl)) (pgs_nil)))) (pss_cons (ps_if (PW.pt (pw_or (pt_cmpR op_eq (pv 4) (pv 1) (nomark _)) (pw_or (pt_cmp (pc_din hu (pv 5) (pv 3))) (pw_or1 (pt_not (pt_val (pe_fn D_is_name (hr.mono (by decide)) rfl (pa_cons (pv 5) pa_nil)))))))) (pss_one (ps_ret (pv 4))) (pss_nil))
  (pss_one (ps_dput hu (pv 3) (pv 5) (pe_bl) rfl))))
  (pss_one (ps_ret (pe_non)))))
abbrev s_door_signs:Stmt:=top 14
theorem S_door_signs:FnScope N_door_signs ps_door_signs (defScope s_door_signs):=⟨rfl,rfl,rfl,by decide +kernel,rfl,by decide +kernel,by decide +kernel⟩
theorem der_door_signs {a_STILL:Addr} (g_STILL:Gc mg "STILL" (.ref a_STILL)):Dr P w K mg base 0 "door_signs" s_door_signs N_door_signs (t_door_signs K a_STILL):=by
 intro f cdv A outer s H E hr
 have hu:=hu_of hr
 have S:=S_door_signs
 exact pss_one (ps_ret (pe_op op_cat (pe_op op_cat (pe_comp (k:=1) (N:=["ask"]) (fi:=[]) (by with_unfolding_all rfl) rfl (pi_list (pv 0)) (fun _ _ _ _ _ _=>pg_name (i:=0) (show (["ask"]:List Str).Nodup by decide +kernel) rfl (Or.inl rfl)) (own_name (by decide)) (fun _ _ _ _ _ _=>pif_none) (fun _ _ _ _ _ _=>pe_tup (pa_cons (pe_str) (pa_cons (pv 0) pa_nil)))) (pe_comp (k:=1) (N:=["say"]) (fi:=[]) (by with_unfolding_all rfl) rfl (pi_list (pv 1)) (fun _ _ _ _ _ _=>pg_name (i:=0) (show (["say"]:List Str).Nodup by decide +kernel) rfl (Or.inl rfl)) (own_name (by decide)) (fun _ _ _ _ _ _=>pif_none) (fun _ _ _ _ _ _=>pe_tup (pa_cons (pe_str) (pa_cons (pv 0) pa_nil))))) (pe_lst (pa_cons (pe_gc rfl g_STILL) pa_nil))))
abbrev s_first_wrong_door:Stmt:=top 15
theorem S_first_wrong_door:FnScope N_first_wrong_door ps_first_wrong_door (defScope s_first_wrong_door):=⟨rfl,rfl,rfl,by decide +kernel,rfl,by decide +kernel,by decide +kernel⟩
theorem der_first_wrong_door {sp_as_keys:Sp} (z_enumerate:mg "enumerate" = none) (g_MOST_DOORS:Gc mg "MOST_DOORS" (.int 2000)) (D_as_keys:Def P w K mg base "as_keys" ["things"] 1 sp_as_keys):Dr P w K mg base 1 "first_wrong_door" s_first_wrong_door N_first_wrong_door (t_first_wrong_door K sp_as_keys):=by
 intro f cdv A outer s H E hr
 have hu:=hu_of hr
 have S:=S_first_wrong_door
 exact pss_cons (ps_set (i:=3) S.nd rfl (Or.inl rfl) (pe_fn D_as_keys (hr.mono (by decide)) rfl (pa_cons (pv 1) pa_nil)))
  (pss_cons (ps_set (i:=4) S.nd rfl (Or.inl rfl) (pe_dnewT))
  (pss_cons (ps_for PassesOwn.never rfl (pi_enum rfl z_enumerate (pa_cons (pv 0) pa_nil)) (pg_tup rfl (pgs_cons (pg_name (i:=5) S.nd rfl (Or.inl rfl)) (pgs_cons (pg_name (i:=6) S.nd rfl (Or.inl rfl)) (pgs_nil)))) (pss_cons (ps_if (PW.pt (pw_or (pt_cmpR op_eq (pv 5) (pe_gc rfl g_MOST_DOORS) (nomark _)) (pw_or1 (pt_cmp (pc_din hu (pv 6) (pv 4)))))) (pss_one (ps_ret (pv 5))) (pss_nil))
  (pss_cons (ps_if (PW.pt (pw_or (pt_cmp (pc_dnotin hu (pe_ix ix_seq (pv 6) (pe_int) (fun _ _=>rfl)) (pv 3))) (pw_or (pt_cmpR (op_notInD hu) (pe_ix ix_seq (pv 6) (pe_int) (fun _ _=>rfl)) (pv 2) (by with_unfolding_all rfl)) (pw_or1 (pt_cmp (pc_dnotin hu (pe_ix ix_seq (pv 6) (pe_int) (fun _ _=>rfl)) (pv 3))))))) (pss_one (ps_ret (pv 5))) (pss_nil))
  (pss_one (ps_dput hu (pv 4) (pv 6) (pe_bl) rfl)))))
  (pss_one (ps_ret (pe_non)))))
abbrev s_goals_by_start_and_sign:Stmt:=top 16
theorem S_goals_by_start_and_sign:FnScope N_goals_by_start_and_sign ps_goals_by_start_and_sign (defScope s_goals_by_start_and_sign):=⟨rfl,rfl,rfl,by decide +kernel,rfl,by decide +kernel,by decide +kernel⟩
theorem der_goals_by_start_and_sign  :Dr P w K mg base 0 "goals_by_start_and_sign" s_goals_by_start_and_sign N_goals_by_start_and_sign (t_goals_by_start_and_sign K ):=by
 intro f cdv A outer s H E hr
 have hu:=hu_of hr
 have S:=S_goals_by_start_and_sign
 exact pss_cons (ps_set (i:=1) S.nd rfl (Or.inl rfl) (pe_dnewT))
  (pss_cons (ps_for PassesOwn.never rfl (pi_list (pv 0)) (pg_tup rfl (pgs_cons (pg_name (i:=2) S.nd rfl (Or.inl rfl)) (pgs_cons (pg_name (i:=3) S.nd rfl (Or.inl rfl)) (pgs_cons (pg_name (i:=4) S.nd rfl (Or.inl rfl)) (pgs_nil))))) (pss_one (ps_expr (pe_bm PySem.F.plainAttrs_list PySem.F.slot_list_append PySem.F.type_list_append mt_append (pe_bm PySem.F.plainAttrs_dict PySem.F.slot_dict_setdefault PySem.F.type_dict_setdefault (mt_setdef hu) (pv 1) (pa_cons (pe_tup (pa_cons (pv 2) (pa_cons (pv 3) pa_nil))) (pa_cons (pe_lst (pa_nil)) pa_nil))) (pa_cons (pv 4) pa_nil)))))
  (pss_one (ps_ret (pv 1))))
abbrev s_led_by_still:Stmt:=top 17
theorem S_led_by_still:FnScope N_led_by_still ps_led_by_still (defScope s_led_by_still):=⟨rfl,rfl,rfl,by decide +kernel,rfl,by decide +kernel,by decide +kernel⟩
theorem der_led_by_still {a_STILL:Addr} (z_len:mg "len" = none) (g_STILL:Gc mg "STILL" (.ref a_STILL)):Dr P w K mg base 0 "led_by_still" s_led_by_still N_led_by_still (t_led_by_still K a_STILL):=by
 intro f cdv A outer s H E hr
 have hu:=hu_of hr
 have S:=S_led_by_still
 exact pss_cons (ps_set (i:=2) S.nd rfl (Or.inl rfl) (pe_dnewK))
  (pss_cons (ps_set (i:=3) S.nd rfl (Or.inl rfl) (pe_lst (pa_cons (pv 1) pa_nil)))
  (pss_cons (ps_while PassesOwn.never (pt_cmpR op_gt (pe_callB call_lenA rfl z_len PySem.boot_len (pa_cons (pv 3) pa_nil)) (pe_int) (nomark _)) (pss_cons (ps_set (i:=4) S.nd rfl (Or.inl rfl) (pe_bm0 PySem.F.plainAttrs_list PySem.F.slot_list_pop PySem.F.type_list_pop mt_pop (pv 3)))
  (pss_one (ps_for PassesOwn.never rfl (pi_seq (pe_dget2 hu (pv 0) (pe_tup (pa_cons (pv 4) (pa_cons (pe_gc rfl g_STILL) pa_nil))) (pe_tup (pa_nil)) ⟨rfl,rfl,rfl,rfl⟩)) (pg_name (i:=5) S.nd rfl (Or.inl rfl)) (pss_one (ps_if (pt_cmp (pc_dnotin hu (pv 5) (pv 2))) (pss_cons (ps_dput hu (pv 2) (pv 5) (pe_bl) rfl)
  (pss_one (ps_expr (pe_bm PySem.F.plainAttrs_list PySem.F.slot_list_append PySem.F.type_list_append mt_append (pv 3) (pa_cons (pv 5) pa_nil))))) (pss_nil)))))))
  (pss_one (ps_ret (pv 2)))))
abbrev s_first_led_round:Stmt:=top 18
theorem S_first_led_round:FnScope N_first_led_round ps_first_led_round (defScope s_first_led_round):=⟨rfl,rfl,rfl,by decide +kernel,rfl,by decide +kernel,by decide +kernel⟩
theorem der_first_led_round  (z_enumerate:mg "enumerate" = none):Dr P w K mg base 0 "first_led_round" s_first_led_round N_first_led_round (t_first_led_round K ):=by
 intro f cdv A outer s H E hr
 have hu:=hu_of hr
 have S:=S_first_led_round
 exact pss_cons (ps_for PassesOwn.never rfl (pi_enum rfl z_enumerate (pa_cons (pv 0) pa_nil)) (pg_tup rfl (pgs_cons (pg_name (i:=2) S.nd rfl (Or.inl rfl)) (pgs_cons (pg_name (i:=3) S.nd rfl (Or.inl rfl)) (pgs_nil)))) (pss_one (ps_if (pt_cmp (pc_din hu (pv 3) (pe_dget hu (pv 1) (pv 3) (fun _ _=>rfl)))) (pss_one (ps_ret (pv 2))) (pss_nil))))
  (pss_one (ps_ret (pe_non)))
abbrev s_need_none:Stmt:=top 19
theorem S_need_none:FnScope N_need_none ps_need_none (defScope s_need_none):=⟨rfl,rfl,rfl,by decide +kernel,rfl,by decide +kernel,by decide +kernel⟩
theorem der_need_none  :Dr P w K mg base 0 "need_none" s_need_none N_need_none (t_need_none K ):=by
 intro f cdv A outer s H E hr
 have hu:=hu_of hr
 have S:=S_need_none
 exact pss_one (ps_if (pt_cmp (pc_notN (pv 1))) (pss_one (ps_never)) (pss_nil))
abbrev s_need_parts:Stmt:=top 20
theorem S_need_parts:FnScope N_need_parts ps_need_parts (defScope s_need_parts):=⟨rfl,rfl,rfl,by decide +kernel,rfl,by decide +kernel,by decide +kernel⟩
theorem der_need_parts {sp_need_none:Sp} {sp_first_wrong_door:Sp} {sp_door_signs:Sp} {sp_first_wrong_name:Sp} (D_need_none:Def P w K mg base "need_none" ["part","number"] 1 sp_need_none) (D_first_wrong_door:Def P w K mg base "first_wrong_door" ["doors","rooms","signs"] 2 sp_first_wrong_door) (D_door_signs:Def P w K mg base "door_signs" ["asks","says"] 1 sp_door_signs) (D_first_wrong_name:Def P w K mg base "first_wrong_name" ["names","most","taken"] 2 sp_first_wrong_name) (g_MOST_ROOMS:Gc mg "MOST_ROOMS" (.int 150)) (g_MOST_WORDS:Gc mg "MOST_WORDS" (.int 4)):Dr P w K mg base 2 "need_parts" s_need_parts N_need_parts (t_need_parts K sp_need_none sp_first_wrong_door sp_door_signs sp_first_wrong_name):=by
 intro f cdv A outer s H E hr
 have hu:=hu_of hr
 have S:=S_need_parts
 exact pss_cons (ps_expr (pe_fn D_need_none (hr.mono (by decide)) rfl (pa_cons (pe_str) (pa_cons (pe_fn D_first_wrong_name (hr.mono (by decide)) rfl (pa_cons (pv 0) (pa_cons (pe_gc rfl g_MOST_WORDS) (pa_cons (pe_lst (pa_nil)) pa_nil)))) pa_nil))))
  (pss_cons (ps_expr (pe_fn D_need_none (hr.mono (by decide)) rfl (pa_cons (pe_str) (pa_cons (pe_fn D_first_wrong_name (hr.mono (by decide)) rfl (pa_cons (pv 1) (pa_cons (pe_gc rfl g_MOST_WORDS) (pa_cons (pv 0) pa_nil)))) pa_nil))))
  (pss_cons (ps_expr (pe_fn D_need_none (hr.mono (by decide)) rfl (pa_cons (pe_str) (pa_cons (pe_fn D_first_wrong_name (hr.mono (by decide)) rfl (pa_cons (pv 2) (pa_cons (pe_gc rfl g_MOST_ROOMS) (pa_cons (pe_lst (pa_nil)) pa_nil)))) pa_nil))))
  (pss_one (ps_expr (pe_fn D_need_none (hr.mono (by decide)) rfl (pa_cons (pe_str) (pa_cons (pe_fn D_first_wrong_door (hr.mono (by decide)) rfl (pa_cons (pv 3) (pa_cons (pv 2) (pa_cons (pe_fn D_door_signs (hr.mono (by decide)) rfl (pa_cons (pv 0) (pa_cons (pv 1) pa_nil))) pa_nil)))) pa_nil)))))))
abbrev s_doors_by_start:Stmt:=top 21
theorem S_doors_by_start:FnScope N_doors_by_start ps_doors_by_start (defScope s_doors_by_start):=⟨rfl,rfl,rfl,by decide +kernel,rfl,by decide +kernel,by decide +kernel⟩
theorem der_doors_by_start  :Dr P w K mg base 0 "doors_by_start" s_doors_by_start N_doors_by_start (t_doors_by_start K ):=by
 intro f cdv A outer s H E hr
 have hu:=hu_of hr
 have S:=S_doors_by_start
 exact pss_cons (ps_set (i:=2) S.nd rfl (Or.inl rfl) (pe_dnewK))
  (pss_cons (ps_for PassesOwn.never rfl (pi_list (pv 0)) (pg_name (i:=3) S.nd rfl (Or.inl rfl)) (pss_one (ps_dput hu (pv 2) (pv 3) (pe_lst (pa_nil)) rfl)))
  (pss_cons (ps_for PassesOwn.never rfl (pi_list (pv 1)) (pg_name (i:=4) S.nd rfl (Or.inl rfl)) (pss_one (ps_expr (pe_bm PySem.F.plainAttrs_list PySem.F.slot_list_append PySem.F.type_list_append mt_append (pe_dget hu (pv 2) (pe_ix ix_seq (pv 4) (pe_int) (fun _ _=>rfl)) (fun _ _=>rfl)) (pa_cons (pv 4) pa_nil)))))
  (pss_one (ps_ret (pv 2)))))
abbrev s_has_asks_alone:Stmt:=top 22
theorem S_has_asks_alone:FnScope N_has_asks_alone ps_has_asks_alone (defScope s_has_asks_alone):=⟨rfl,rfl,rfl,by decide +kernel,rfl,by decide +kernel,by decide +kernel⟩
theorem der_has_asks_alone  (z_all:mg "all" = none):Dr P w K mg base 0 "has_asks_alone" s_has_asks_alone N_has_asks_alone (t_has_asks_alone K ):=by
 intro f cdv A outer s H E hr
 have hu:=hu_of hr
 have S:=S_has_asks_alone
 exact pss_one (ps_ret (pe_callB (call_all_bl rfl) rfl z_all boot_all (pa_cons (pe_comp (k:=1) (N:=["door"]) (fi:=[]) (by with_unfolding_all rfl) rfl (pi_list (pv 0)) (fun _ _ _ _ _ _=>pg_name (i:=0) (show (["door"]:List Str).Nodup by decide +kernel) rfl (Or.inl rfl)) (own_name (by decide)) (fun _ _ _ _ _ _=>pif_none) (fun _ _ _ _ _ _=>pe_cmpR op_eq (pe_ix ix_seq (pe_ix ix_seq (pv 0) (pe_int) (fun _ _=>rfl)) (pe_int) (fun _ _=>rfl)) (pe_str) (nomark _))) pa_nil)))
abbrev s_Machine___init__:Stmt:=inClass (top 23) 0
theorem S_Machine___init__:FnScope N_Machine___init__ ps_Machine___init__ (defScope s_Machine___init__):=⟨rfl,rfl,rfl,by decide +kernel,rfl,by decide +kernel,by decide +kernel⟩
theorem der_Machine___init__ {sp_need_none:Sp} {sp_first_led_round:Sp} {sp_led_by_still:Sp} {sp_goals_by_start_and_sign:Sp} {sp_as_keys:Sp} {sp_has_asks_alone:Sp} {sp_doors_by_start:Sp} {sp_need_parts:Sp} (D_need_none:Def P w K mg base "need_none" ["part","number"] 1 sp_need_none) (D_first_led_round:Def P w K mg base "first_led_round" ["rooms","led"] 1 sp_first_led_round) (z_dict:mg "dict" = none) (D_led_by_still:Def P w K mg base "led_by_still" ["goals","room"] 1 sp_led_by_still) (D_goals_by_start_and_sign:Def P w K mg base "goals_by_start_and_sign" ["doors"] 1 sp_goals_by_start_and_sign) (D_as_keys:Def P w K mg base "as_keys" ["things"] 1 sp_as_keys) (D_has_asks_alone:Def P w K mg base "has_asks_alone" ["doors"] 1 sp_has_asks_alone) (D_doors_by_start:Def P w K mg base "doors_by_start" ["rooms","doors"] 1 sp_doors_by_start) (z_list:mg "list" = none) (D_need_parts:Def P w K mg base "need_parts" ["asks","says","rooms","doors"] 3 sp_need_parts):Dr P w K mg base 3 "Machine.__init__" s_Machine___init__ N_Machine___init__ (t_Machine___init__ K sp_need_none sp_first_led_round sp_led_by_still sp_goals_by_start_and_sign sp_as_keys sp_has_asks_alone sp_doors_by_start sp_need_parts):=by
 intro f cdv A outer s H E hr
 have hu:=hu_of hr
 have S:=S_Machine___init__
 exact pss_cons (ps_expr (pe_fn D_need_parts (hr.mono (by decide)) rfl (pa_cons (pv 1) (pa_cons (pv 2) (pa_cons (pv 3) (pa_cons (pv 4) pa_nil))))))
  (pss_cons (ps_fld (pv 0) (pe_callTy (call_listA rfl) rfl z_list bootT_list (pa_cons (pv 1) pa_nil)) rfl)
  (pss_cons (ps_fld (pv 0) (pe_callTy (call_listA rfl) rfl z_list bootT_list (pa_cons (pv 2) pa_nil)) rfl)
  (pss_cons (ps_fld (pv 0) (pe_callTy (call_listA rfl) rfl z_list bootT_list (pa_cons (pv 3) pa_nil)) rfl)
  (pss_cons (ps_fld (pv 0) (pe_callTy (call_listA rfl) rfl z_list bootT_list (pa_cons (pv 4) pa_nil)) rfl)
  (pss_cons (ps_fld (pv 0) (pe_fn D_doors_by_start (hr.mono (by decide)) rfl (pa_cons (pv 3) (pa_cons (pv 4) pa_nil))) rfl)
  (pss_cons (ps_fld (pv 0) (pe_fn D_as_keys (hr.mono (by decide)) rfl (pa_cons (pe_comp (k:=1) (N:=["room","self"]) (fi:=[0]) (by with_unfolding_all rfl) rfl (pi_list (pv 3)) (fun _ _ _ _ _ _=>pg_name (i:=0) (show (["room","self"]:List Str).Nodup by decide +kernel) rfl (Or.inl rfl)) (own_name (by decide)) (fun _ _ _ _ _ _=>pif_one (pt_val (pe_fn D_has_asks_alone (hr.mono (by decide)) rfl (pa_cons (pe_dget hu (pe_fld (pv 1) rfl) (pv 0) (fun _ _=>rfl)) pa_nil)))) (fun _ _ _ _ _ _=>pv 0)) pa_nil)) rfl)
  (pss_cons (ps_fld (pv 0) (pe_fn D_goals_by_start_and_sign (hr.mono (by decide)) rfl (pa_cons (pv 4) pa_nil)) rfl)
  (pss_cons (ps_fld (pv 0) (pe_callTy (call_dict_of rfl) rfl z_dict bootT_dict (pa_cons (pe_comp (k:=1) (N:=["room","self"]) (fi:=[0]) (by with_unfolding_all rfl) rfl (pi_list (pv 3)) (fun _ _ _ _ _ _=>pg_name (i:=0) (show (["room","self"]:List Str).Nodup by decide +kernel) rfl (Or.inl rfl)) (own_name (by decide)) (fun _ _ _ _ _ _=>pif_none) (fun _ _ _ _ _ _=>pe_tup (pa_cons (pv 0) (pa_cons (pe_fn D_led_by_still (hr.mono (by decide)) rfl (pa_cons (pe_fld (pv 1) rfl) (pa_cons (pv 0) pa_nil))) pa_nil)))) pa_nil)) rfl)
  (pss_one (ps_expr (pe_fn D_need_none (hr.mono (by decide)) rfl (pa_cons (pe_str) (pa_cons (pe_fn D_first_led_round (hr.mono (by decide)) rfl (pa_cons (pv 3) (pa_cons (pe_fld (pv 0) rfl) pa_nil))) pa_nil)))))))))))))
abbrev s_law_machine:Stmt:=top 40
theorem S_law_machine:FnScope N_law_machine ps_law_machine (defScope s_law_machine):=⟨rfl,rfl,rfl,by decide +kernel,rfl,by decide +kernel,by decide +kernel⟩
theorem der_law_machine {C_Machine:Addr} {sp_Machine_init:Sp} (D_Machine:New P w K mg base "Machine" C_Machine ["self","asks","says","rooms","doors"] 4 sp_Machine_init) (z_list:mg "list" = none):Dr P w K mg base 5 "_law_machine" s_law_machine N_law_machine (t_law_machine K C_Machine sp_Machine_init):=by
 intro f cdv A outer s H E hr
 have hu:=hu_of hr
 have S:=S_law_machine
 exact pss_one (ps_ret (pe_new D_Machine (hr.mono (by decide)) rfl (pa_cons (pe_callTy (call_listA rfl) rfl z_list bootT_list (pa_cons (pe_ix ix_seq (pv 0) (pe_int) (fun _ _=>rfl)) pa_nil)) (pa_cons (pe_callTy (call_listA rfl) rfl z_list bootT_list (pa_cons (pe_ix ix_seq (pv 0) (pe_int) (fun _ _=>rfl)) pa_nil)) (pa_cons (pe_callTy (call_listA rfl) rfl z_list bootT_list (pa_cons (pe_ix ix_seq (pv 0) (pe_int) (fun _ _=>rfl)) pa_nil)) (pa_cons (pe_callTy (call_listA rfl) rfl z_list bootT_list (pa_cons (pe_ix ix_seq (pv 0) (pe_int) (fun _ _=>rfl)) pa_nil)) pa_nil))))))
abbrev s_law_still_on:Stmt:=top 39
theorem S_law_still_on:FnScope N_law_still_on ps_law_still_on (defScope s_law_still_on):=⟨rfl,rfl,rfl,by decide +kernel,rfl,by decide +kernel,by decide +kernel⟩
theorem der_law_still_on  (z_len:mg "len" = none) (z_list:mg "list" = none):Dr P w K mg base 0 "_law_still_on" s_law_still_on N_law_still_on (t_law_still_on K ):=by
 intro f cdv A outer s H E hr
 have hu:=hu_of hr
 have S:=S_law_still_on
 exact pss_cons (ps_set (i:=2) S.nd rfl (Or.inl rfl) (pe_callTy (call_listA rfl) rfl z_list bootT_list (pa_cons (pv 1) pa_nil)))
  (pss_cons (ps_set (i:=3) S.nd rfl (Or.inl rfl) (pe_int))
  (pss_cons (ps_while PassesOwn.never (pt_cmpR op_lt (pv 3) (pe_callB call_lenA rfl z_len PySem.boot_len (pa_cons (pv 2) pa_nil)) (nomark _)) (pss_cons (ps_for PassesOwn.never rfl (pi_list (pv 0)) (pg_tup rfl (pgs_cons (pg_name (i:=4) S.nd rfl (Or.inl rfl)) (pgs_cons (pg_name (i:=5) S.nd rfl (Or.inl rfl)) (pgs_cons (pg_name (i:=6) S.nd rfl (Or.inl rfl)) (pgs_nil))))) (pss_one (ps_if (PW.pt (pw_and (pt_cmpR (op_eqD hu) (pv 4) (pe_ix ix_seq (pv 2) (pv 3) (fun _ _=>rfl)) (nomark _)) (pw_and (pt_cmpR (op_eqD hu) (pv 5) (pe_tup (pa_cons (pe_str) pa_nil)) (nomark _)) (pw_and1 (pt_cmpR (op_notInD hu) (pv 6) (pv 2) (by with_unfolding_all rfl)))))) (pss_one (ps_expr (pe_bm PySem.F.plainAttrs_list PySem.F.slot_list_append PySem.F.type_list_append mt_append (pv 2) (pa_cons (pv 6) pa_nil)))) (pss_nil))))
  (pss_one (ps_set (i:=3) S.nd rfl (Or.inl rfl) (pe_op op_add (pv 3) (pe_int))))))
  (pss_one (ps_ret (pv 2)))))
abbrev s_law_on:Stmt:=top 42
theorem S_law_on:FnScope N_law_on ps_law_on (defScope s_law_on):=⟨rfl,rfl,rfl,by decide +kernel,rfl,by decide +kernel,by decide +kernel⟩
theorem der_law_on {sp_law_still_on:Sp} (z_tuple:mg "tuple" = none) (D_law_still_on:Def P w K mg base "_law_still_on" ["doors","rooms"] 1 sp_law_still_on):Dr P w K mg base 1 "_law_on" s_law_on N_law_on (t_law_on K sp_law_still_on):=by
 intro f cdv A outer s H E hr
 have hu:=hu_of hr
 have S:=S_law_on
 exact pss_cons (ps_set (i:=2) S.nd rfl (Or.inr rfl) (pe_fn D_law_still_on (hr.mono (by decide)) rfl (pa_cons (pe_ix ix_seq (pv 0) (pe_int) (fun _ _=>rfl)) (pa_cons (pv 1) pa_nil))))
  (pss_one (ps_ret (pe_callTy call_tuple_of rfl z_tuple bootT_tuple (pa_cons (pe_comp (k:=1) (N:=["room","there"]) (fi:=[2]) (by with_unfolding_all rfl) rfl (pi_list (pe_ix ix_seq (pv 0) (pe_int) (fun _ _=>rfl))) (fun _ _ _ _ _ _=>pg_name (i:=0) (show (["room","there"]:List Str).Nodup by decide +kernel) rfl (Or.inl rfl)) (own_name (by decide)) (fun _ _ _ _ _ _=>pif_one (pt_cmpR (op_inD hu) (pv 0) (pv 1) (by with_unfolding_all rfl))) (fun _ _ _ _ _ _=>pv 0)) pa_nil))))
abbrev s_law_is_quiet:Stmt:=top 43
theorem S_law_is_quiet:FnScope N_law_is_quiet ps_law_is_quiet (defScope s_law_is_quiet):=⟨rfl,rfl,rfl,by decide +kernel,rfl,by decide +kernel,by decide +kernel⟩
theorem der_law_is_quiet  :Dr P w K mg base 0 "_law_is_quiet" s_law_is_quiet N_law_is_quiet (t_law_is_quiet K ):=by
 intro f cdv A outer s H E hr
 have hu:=hu_of hr
 have S:=S_law_is_quiet
 exact pss_one (ps_ret (pe_cmpR (op_eqD hu) (pe_comp (k:=1) (N:=["door","room"]) (fi:=[1]) (by with_unfolding_all rfl) rfl (pi_list (pe_ix ix_seq (pv 0) (pe_int) (fun _ _=>rfl))) (fun _ _ _ _ _ _=>pg_name (i:=0) (show (["door","room"]:List Str).Nodup by decide +kernel) rfl (Or.inl rfl)) (own_name (by decide)) (fun _ _ _ _ _ _=>pif_one (PW.pt (pw_and (pt_cmpR (op_eqD hu) (pe_ix ix_seq (pv 0) (pe_int) (fun _ _=>rfl)) (pv 1) (nomark _)) (pw_and1 (pt_cmpR op_ne (pe_ix ix_seq (pe_ix ix_seq (pv 0) (pe_int) (fun _ _=>rfl)) (pe_int) (fun _ _=>rfl)) (pe_str) (nomark _)))))) (fun _ _ _ _ _ _=>pv 0)) (pe_lst (pa_nil)) (nomark _)))
abbrev s_law_behind:Stmt:=top 44
theorem S_law_behind:FnScope N_law_behind ps_law_behind (defScope s_law_behind):=⟨rfl,rfl,rfl,by decide +kernel,rfl,by decide +kernel,by decide +kernel⟩
theorem der_law_behind {sp_law_on:Sp} {sp_law_is_quiet:Sp} (D_law_on:Def P w K mg base "_law_on" ["told","some"] 2 sp_law_on) (z_tuple:mg "tuple" = none) (D_law_is_quiet:Def P w K mg base "_law_is_quiet" ["told","room"] 1 sp_law_is_quiet):Dr P w K mg base 2 "_law_behind" s_law_behind N_law_behind (t_law_behind K sp_law_on sp_law_is_quiet):=by
 intro f cdv A outer s H E hr
 have hu:=hu_of hr
 have S:=S_law_behind
 exact pss_cons (ps_if (pt_cmpR (op_eqD hu) (pv 2) (pe_tup (pa_cons (pe_str) pa_nil)) (nomark _)) (pss_one (ps_ret (pe_callTy call_tuple_of rfl z_tuple bootT_tuple (pa_cons (pe_comp (k:=1) (N:=["room","told"]) (fi:=[0]) (by with_unfolding_all rfl) rfl (pi_tup (pv 1)) (fun _ _ _ _ _ _=>pg_name (i:=0) (show (["room","told"]:List Str).Nodup by decide +kernel) rfl (Or.inl rfl)) (own_name (by decide)) (fun _ _ _ _ _ _=>pif_one (pt_val (pe_fn D_law_is_quiet (hr.mono (by decide)) rfl (pa_cons (pv 1) (pa_cons (pv 0) pa_nil))))) (fun _ _ _ _ _ _=>pv 0)) pa_nil)))) (pss_nil))
  (pss_one (ps_ret (pe_fn D_law_on (hr.mono (by decide)) rfl (pa_cons (pv 0) (pa_cons (pe_comp (k:=1) (N:=["door","face","sign"]) (fi:=[1,2]) (by with_unfolding_all rfl) rfl (pi_list (pe_ix ix_seq (pv 0) (pe_int) (fun _ _=>rfl))) (fun _ _ _ _ _ _=>pg_name (i:=0) (show (["door","face","sign"]:List Str).Nodup by decide +kernel) rfl (Or.inl rfl)) (own_name (by decide)) (fun _ _ _ _ _ _=>pif_one (PW.pt (pw_and (pt_cmpR (op_inD hu) (pe_ix ix_seq (pv 0) (pe_int) (fun _ _=>rfl)) (pv 1) (by with_unfolding_all rfl)) (pw_and1 (pt_cmpR (op_eqD hu) (pe_ix ix_seq (pv 0) (pe_int) (fun _ _=>rfl)) (pv 2) (nomark _)))))) (fun _ _ _ _ _ _=>pe_ix ix_seq (pv 0) (pe_int) (fun _ _=>rfl))) pa_nil)))))
abbrev s_law_signs:Stmt:=top 45
theorem S_law_signs:FnScope N_law_signs ps_law_signs (defScope s_law_signs):=⟨rfl,rfl,rfl,by decide +kernel,rfl,by decide +kernel,by decide +kernel⟩
theorem der_law_signs  :Dr P w K mg base 0 "_law_signs" s_law_signs N_law_signs (t_law_signs K ):=by
 intro f cdv A outer s H E hr
 have hu:=hu_of hr
 have S:=S_law_signs
 exact pss_one (ps_ret (pe_op op_cat (pe_op op_cat (pe_comp (k:=1) (N:=["word"]) (fi:=[]) (by with_unfolding_all rfl) rfl (pi_list (pe_ix ix_seq (pv 0) (pe_int) (fun _ _=>rfl))) (fun _ _ _ _ _ _=>pg_name (i:=0) (show (["word"]:List Str).Nodup by decide +kernel) rfl (Or.inl rfl)) (own_name (by decide)) (fun _ _ _ _ _ _=>pif_none) (fun _ _ _ _ _ _=>pe_tup (pa_cons (pe_str) (pa_cons (pv 0) pa_nil)))) (pe_comp (k:=1) (N:=["word"]) (fi:=[]) (by with_unfolding_all rfl) rfl (pi_list (pe_ix ix_seq (pv 0) (pe_int) (fun _ _=>rfl))) (fun _ _ _ _ _ _=>pg_name (i:=0) (show (["word"]:List Str).Nodup by decide +kernel) rfl (Or.inl rfl)) (own_name (by decide)) (fun _ _ _ _ _ _=>pif_none) (fun _ _ _ _ _ _=>pe_tup (pa_cons (pe_str) (pa_cons (pv 0) pa_nil))))) (pe_lst (pa_cons (pe_tup (pa_cons (pe_str) pa_nil)) pa_nil))))
abbrev s_law_story:Stmt:=top 46
theorem S_law_story:FnScope N_law_story ps_law_story (defScope s_law_story):=⟨rfl,rfl,rfl,by decide +kernel,rfl,by decide +kernel,by decide +kernel⟩
theorem der_law_story {sp_law_take:Sp} {sp_law_behind:Sp} {sp_law_signs:Sp} {sp_law_on:Sp} {sp_law_anew:Sp} (z_range:mg "range" = none) (D_law_take:Def P w K mg base "_law_take" ["pen","many"] 2 sp_law_take) (D_law_behind:Def P w K mg base "_law_behind" ["told","face","sign"] 3 sp_law_behind) (z_len:mg "len" = none) (D_law_signs:Def P w K mg base "_law_signs" ["told"] 1 sp_law_signs) (D_law_on:Def P w K mg base "_law_on" ["told","some"] 2 sp_law_on) (D_law_anew:Def P w K mg base "_law_anew" ["pen"] 1 sp_law_anew):Dr P w K mg base 3 "_law_story" s_law_story N_law_story (t_law_story K sp_law_take sp_law_behind sp_law_signs sp_law_on sp_law_anew):=by
 intro f cdv A outer s H E hr
 have hu:=hu_of hr
 have S:=S_law_story
 exact pss_cons (ps_expr (pe_fn D_law_anew (hr.mono (by decide)) rfl (pa_cons (pv 0) pa_nil)))
  (pss_cons (ps_set (i:=3) S.nd rfl (Or.inl rfl) (pe_lst (pa_nil)))
  (pss_cons (ps_set (i:=4) S.nd rfl (Or.inr rfl) (pe_fn D_law_on (hr.mono (by decide)) rfl (pa_cons (pv 1) (pa_cons (pe_slice sl_any (pe_ix ix_seq (pv 1) (pe_int) (fun _ _=>rfl)) (po_none) (po_some (pe_int))) pa_nil))))
  (pss_cons (ps_for PassesOwn.never rfl (pi_range1 rfl z_range (pa_cons (pe_fn D_law_take (hr.mono (by decide)) rfl (pa_cons (pv 0) (pa_cons (pe_op op_add (pv 2) (pe_int)) pa_nil))) pa_nil)) (pg_name (i:=5) S.nd rfl (Or.inl rfl)) (pss_cons (ps_set (i:=6) S.nd rfl (Or.inl rfl) (pe_fn D_law_signs (hr.mono (by decide)) rfl (pa_cons (pv 1) pa_nil)))
  (pss_cons (ps_setComp (j:=7) S.nd rfl (Or.inl rfl) (k:=1) (N:=["sign","told","face"]) (fi:=[1,4]) (by with_unfolding_all rfl) rfl (pi_list (pv 6)) (fun _ _ _ _ _ _=>pg_name (i:=0) (show (["sign","told","face"]:List Str).Nodup by decide +kernel) rfl (Or.inl rfl)) (own_name (by decide)) (fun _ _ _ _ _ _=>pif_one (pt_cmpR (op_neD hu) (pe_fn D_law_behind (hr.mono (by decide)) rfl (pa_cons (pv 1) (pa_cons (pv 2) (pa_cons (pv 0) pa_nil)))) (pe_tup (pa_nil)) (nomark _))) (fun _ _ _ _ _ _=>pv 0))
  (pss_cons (ps_if (PW.pt (pw_and (pt_cmpR (op_neD hu) (pv 7) (pe_lst (pa_nil)) (nomark _)) (pw_and1 (pt_cmpR op_gt (pe_fn D_law_take (hr.mono (by decide)) rfl (pa_cons (pv 0) (pa_cons (pe_int) pa_nil))) (pe_int) (nomark _))))) (pss_one (ps_set (i:=6) S.nd rfl (Or.inl rfl) (pv 7))) (pss_nil))
  (pss_cons (ps_expr (pe_bm PySem.F.plainAttrs_list PySem.F.slot_list_append PySem.F.type_list_append mt_append (pv 3) (pa_cons (pe_ix ix_list (pv 6) (pe_fn D_law_take (hr.mono (by decide)) rfl (pa_cons (pv 0) (pa_cons (pe_callB call_lenA rfl z_len PySem.boot_len (pa_cons (pv 6) pa_nil)) pa_nil))) (fun _ _=>rfl)) pa_nil)))
  (pss_one (ps_set (i:=4) S.nd rfl (Or.inr rfl) (pe_fn D_law_behind (hr.mono (by decide)) rfl (pa_cons (pv 1) (pa_cons (pv 4) (pa_cons (pe_ix ix_list (pv 3) (pe_un un_neg (pe_int)) (fun _ _=>rfl)) pa_nil)))))))))))
  (pss_one (ps_ret (pv 3))))))
abbrev s_law_odd:Stmt:=top 49
theorem S_law_odd:FnScope N_law_odd ps_law_odd (defScope s_law_odd):=⟨rfl,rfl,rfl,by decide +kernel,rfl,by decide +kernel,by decide +kernel⟩
theorem der_law_odd {sp_law_take:Sp} {sp_law_names:Sp} {sp_law_anew:Sp} (D_law_take:Def P w K mg base "_law_take" ["pen","many"] 2 sp_law_take) (z_len:mg "len" = none) (D_law_names:Def P w K mg base "_law_names" ["pen","many"] 3 sp_law_names) (D_law_anew:Def P w K mg base "_law_anew" ["pen"] 1 sp_law_anew):Dr P w K mg base 3 "_law_odd" s_law_odd N_law_odd (t_law_odd K sp_law_take sp_law_names sp_law_anew):=by
 intro f cdv A outer s H E hr
 have hu:=hu_of hr
 have S:=S_law_odd
 exact pss_cons (ps_expr (pe_fn D_law_anew (hr.mono (by decide)) rfl (pa_cons (pv 0) pa_nil)))
  (pss_cons (ps_set (i:=3) S.nd rfl (Or.inl rfl) (pe_op op_cat (pe_op op_cat (pe_ix ix_seq (pv 1) (pe_int) (fun _ _=>rfl)) (pe_ix ix_seq (pv 1) (pe_int) (fun _ _=>rfl))) (pe_fn D_law_names (hr.mono (by decide)) rfl (pa_cons (pv 0) (pa_cons (pe_int) pa_nil)))))
  (pss_cons (ps_set (i:=4) S.nd rfl (Or.inl rfl) (pe_tup (pa_cons (pe_ix ix_list (pe_lst (pa_cons (pe_str) (pa_cons (pe_str) pa_nil))) (pe_fn D_law_take (hr.mono (by decide)) rfl (pa_cons (pv 0) (pa_cons (pe_int) pa_nil))) (fun _ _=>rfl)) (pa_cons (pe_ix ix_list (pv 3) (pe_fn D_law_take (hr.mono (by decide)) rfl (pa_cons (pv 0) (pa_cons (pe_callB call_lenA rfl z_len PySem.boot_len (pa_cons (pv 3) pa_nil)) pa_nil))) (fun _ _=>rfl)) pa_nil))))
  (pss_cons (ps_set (i:=5) S.nd rfl (Or.inl rfl) (pe_fn D_law_take (hr.mono (by decide)) rfl (pa_cons (pv 0) (pa_cons (pe_op op_add (pe_callB call_lenA rfl z_len PySem.boot_len (pa_cons (pv 2) pa_nil)) (pe_int)) pa_nil))))
  (pss_cons (ps_if (pt_cmpR op_gt (pe_fn D_law_take (hr.mono (by decide)) rfl (pa_cons (pv 0) (pa_cons (pe_int) pa_nil))) (pe_int) (nomark _)) (pss_one (ps_ret (pv 2))) (pss_nil))
  (pss_one (ps_ret (pe_op op_cat (pe_op op_cat (pe_slice sl_list (pv 2) (po_none) (po_some (pv 5))) (pe_lst (pa_cons (pv 4) pa_nil))) (pe_slice sl_list (pv 2) (po_some (pe_op op_add (pv 5) (pe_fn D_law_take (hr.mono (by decide)) rfl (pa_cons (pv 0) (pa_cons (pe_int) pa_nil))))) (po_none)))))))))
abbrev s_law_face:Stmt:=top 47
theorem S_law_face:FnScope N_law_face ps_law_face (defScope s_law_face):=⟨rfl,rfl,rfl,by decide +kernel,rfl,by decide +kernel,by decide +kernel⟩
theorem der_law_face {sp_law_behind:Sp} {sp_law_on:Sp} (D_law_behind:Def P w K mg base "_law_behind" ["told","face","sign"] 3 sp_law_behind) (D_law_on:Def P w K mg base "_law_on" ["told","some"] 2 sp_law_on):Dr P w K mg base 3 "_law_face" s_law_face N_law_face (t_law_face K sp_law_behind sp_law_on):=by
 intro f cdv A outer s H E hr
 have hu:=hu_of hr
 have S:=S_law_face
 exact pss_cons (ps_set (i:=2) S.nd rfl (Or.inl rfl) (pe_fn D_law_on (hr.mono (by decide)) rfl (pa_cons (pv 0) (pa_cons (pe_slice sl_any (pe_ix ix_seq (pv 0) (pe_int) (fun _ _=>rfl)) (po_none) (po_some (pe_int))) pa_nil))))
  (pss_cons (ps_for PassesOwn.never rfl (pi_list (pv 1)) (pg_name (i:=3) S.nd rfl (Or.inl rfl)) (pss_one (ps_set (i:=2) S.nd rfl (Or.inl rfl) (pe_fn D_law_behind (hr.mono (by decide)) rfl (pa_cons (pv 0) (pa_cons (pv 2) (pa_cons (pv 3) pa_nil)))))))
  (pss_one (ps_ret (pv 2))))
abbrev s_law_is_walked:Stmt:=top 48
theorem S_law_is_walked:FnScope N_law_is_walked ps_law_is_walked (defScope s_law_is_walked):=⟨rfl,rfl,rfl,by decide +kernel,rfl,by decide +kernel,by decide +kernel⟩
theorem der_law_is_walked {sp_law_is_quiet:Sp} (D_law_is_quiet:Def P w K mg base "_law_is_quiet" ["told","room"] 1 sp_law_is_quiet) (z_len:mg "len" = none) (z_isinstance:mg "isinstance" = none) (z_tuple:mg "tuple" = none) (z_list:mg "list" = none):Dr P w K mg base 1 "_law_is_walked" s_law_is_walked N_law_is_walked (t_law_is_walked K sp_law_is_quiet):=by
 intro f cdv A outer s H E hr
 have hu:=hu_of hr
 have S:=S_law_is_walked
 exact pss_cons (ps_if (pt_not (pt_val (pe_callB call_isi rfl z_isinstance boot_isi (pa_cons (pv 2) (pa_cons (pe_ty_list rfl z_list) pa_nil))))) (pss_one (ps_ret (pe_bl))) (pss_nil))
  (pss_cons (ps_set (i:=3) S.nd rfl (Or.inl rfl) (pe_ix ix_list (pe_ix ix_seq (pv 0) (pe_int) (fun _ _=>rfl)) (pe_int) (fun _ _=>rfl)))
  (pss_cons (ps_set (i:=4) S.nd rfl (Or.inl rfl) (pe_lst (pa_nil)))
  (pss_cons (ps_for PassesOwn.never rfl (pi_list (pv 2)) (pg_name (i:=5) S.nd rfl (Or.inl rfl)) (pss_cons (ps_if (PW.pt (pw_or (pt_not (pt_val (pe_callB call_isi rfl z_isinstance boot_isi (pa_cons (pv 5) (pa_cons (pe_ty_tuple rfl z_tuple) pa_nil))))) (pw_or (pt_cmpR op_ne (pe_callB call_lenA rfl z_len PySem.boot_len (pa_cons (pv 5) pa_nil)) (pe_int) (nomark _)) (pw_or1 (pt_cmpR (op_neD hu) (pe_ix ix_seq (pv 5) (pe_int) (fun _ _=>rfl)) (pv 3) (nomark _)))))) (pss_one (ps_ret (pe_bl))) (pss_nil))
  (pss_cons (ps_if (pt_cmpR (op_eqD hu) (pe_ix ix_seq (pv 5) (pe_int) (fun _ _=>rfl)) (pe_tup (pa_cons (pe_str) pa_nil)) (nomark _)) (pss_one (ps_if (PW.pt (pw_or (pt_cmpR (op_neD hu) (pe_ix ix_seq (pv 5) (pe_int) (fun _ _=>rfl)) (pv 3) (nomark _)) (pw_or1 (pt_not (pt_val (pe_fn D_law_is_quiet (hr.mono (by decide)) rfl (pa_cons (pv 0) (pa_cons (pv 3) pa_nil)))))))) (pss_one (ps_ret (pe_bl))) (pss_nil))) (pss_one (ps_if (pt_cmpR (op_notInD hu) (pv 5) (pe_ix ix_seq (pv 0) (pe_int) (fun _ _=>rfl)) (by with_unfolding_all rfl)) (pss_one (ps_ret (pe_bl))) (pss_nil))))
  (pss_cons (ps_if (pt_cmpR (op_neD hu) (pe_ix ix_seq (pv 5) (pe_int) (fun _ _=>rfl)) (pe_tup (pa_cons (pe_str) pa_nil)) (nomark _)) (pss_one (ps_expr (pe_bm PySem.F.plainAttrs_list PySem.F.slot_list_append PySem.F.type_list_append mt_append (pv 4) (pa_cons (pe_ix ix_seq (pv 5) (pe_int) (fun _ _=>rfl)) pa_nil)))) (pss_nil))
  (pss_one (ps_set (i:=3) S.nd rfl (Or.inl rfl) (pe_ix ix_seq (pv 5) (pe_int) (fun _ _=>rfl))))))))
  (pss_one (ps_ret (pe_cmpR (op_eqD hu) (pv 4) (pv 1) (nomark _)))))))
abbrev s_Machine_rooms:Stmt:=inClass (top 23) 3
theorem S_Machine_rooms:FnScope N_Machine_rooms ps_Machine_rooms (defScope s_Machine_rooms):=⟨rfl,rfl,rfl,by decide +kernel,rfl,by decide +kernel,by decide +kernel⟩
theorem der_Machine_rooms  (z_list:mg "list" = none):Dr P w K mg base 0 "Machine.rooms" s_Machine_rooms N_Machine_rooms (t_Machine_rooms K ):=by
 intro f cdv A outer s H E hr
 have hu:=hu_of hr
 have S:=S_Machine_rooms
 exact pss_one (ps_ret (pe_callTy (call_listA rfl) rfl z_list bootT_list (pa_cons (pe_fld (pv 0) rfl) pa_nil)))
abbrev s_Machine_goals:Stmt:=inClass (top 23) 7
theorem S_Machine_goals:FnScope N_Machine_goals ps_Machine_goals (defScope s_Machine_goals):=⟨rfl,rfl,rfl,by decide +kernel,rfl,by decide +kernel,by decide +kernel⟩
theorem der_Machine_goals  (z_list:mg "list" = none):Dr P w K mg base 0 "Machine.goals" s_Machine_goals N_Machine_goals (t_Machine_goals K ):=by
 intro f cdv A outer s H E hr
 have hu:=hu_of hr
 have S:=S_Machine_goals
 exact pss_one (ps_ret (pe_callTy (call_listA rfl) rfl z_list bootT_list (pa_cons (pe_dget2 hu (pe_fld (pv 0) rfl) (pe_tup (pa_cons (pv 1) (pa_cons (pv 2) pa_nil))) (pe_tup (pa_nil)) ⟨rfl,rfl,rfl,rfl⟩) pa_nil)))
abbrev s_Machine_is_quiet:Stmt:=inClass (top 23) 5
theorem S_Machine_is_quiet:FnScope N_Machine_is_quiet ps_Machine_is_quiet (defScope s_Machine_is_quiet):=⟨rfl,rfl,rfl,by decide +kernel,rfl,by decide +kernel,by decide +kernel⟩
theorem der_Machine_is_quiet  :Dr P w K mg base 0 "Machine.is_quiet" s_Machine_is_quiet N_Machine_is_quiet (t_Machine_is_quiet K ):=by
 intro f cdv A outer s H E hr
 have hu:=hu_of hr
 have S:=S_Machine_is_quiet
 exact pss_one (ps_ret (pe_cmp (pc_din hu (pv 1) (pe_fld (pv 0) rfl))))
abbrev s_add_still_steps:Stmt:=top 26
theorem S_add_still_steps:FnScope N_add_still_steps ps_add_still_steps (defScope s_add_still_steps):=⟨rfl,rfl,rfl,by decide +kernel,rfl,by decide +kernel,by decide +kernel⟩
theorem der_add_still_steps {C_Machine:Addr} {sp_Machine_goals:Sp} {a_STILL:Addr} (z_len:mg "len" = none) (M_Machine_goals:Mth P w K mg base C_Machine "goals" ["self","room","sign"] 1 sp_Machine_goals) (g_STILL:Gc mg "STILL" (.ref a_STILL)) (z_list:mg "list" = none):Dr P w K mg base 1 "add_still_steps" s_add_still_steps N_add_still_steps (t_add_still_steps K C_Machine sp_Machine_goals a_STILL):=by
 intro f cdv A outer s H E hr
 have hu:=hu_of hr
 have S:=S_add_still_steps
 exact pss_cons (ps_set (i:=2) S.nd rfl (Or.inl rfl) (pe_callTy (call_listA rfl) rfl z_list bootT_list (pa_cons (pv 1) pa_nil)))
  (pss_one (ps_while PassesOwn.never (pt_cmpR op_gt (pe_callB call_lenA rfl z_len PySem.boot_len (pa_cons (pv 2) pa_nil)) (pe_int) (nomark _)) (pss_cons (ps_set (i:=3) S.nd rfl (Or.inl rfl) (pe_bm0 PySem.F.plainAttrs_list PySem.F.slot_list_pop PySem.F.type_list_pop mt_pop (pv 2)))
  (pss_one (ps_for PassesOwn.never rfl (pi_list (pe_mth M_Machine_goals (hr.mono (by decide)) (pv 0) (pa_cons (pv 3) (pa_cons (pe_gc rfl g_STILL) pa_nil)))) (pg_name (i:=4) S.nd rfl (Or.inl rfl)) (pss_one (ps_if (pt_cmp (pc_dnotin hu (pv 4) (pv 1))) (pss_cons (ps_dput hu (pv 1) (pv 4) (pe_tup (pa_cons (pv 3) (pa_cons (pe_gc rfl g_STILL) (pa_cons (pv 4) pa_nil)))) rfl)
  (pss_one (ps_expr (pe_bm PySem.F.plainAttrs_list PySem.F.slot_list_append PySem.F.type_list_append mt_append (pv 2) (pa_cons (pv 4) pa_nil))))) (pss_nil))))))))
abbrev s_steps_by:Stmt:=top 27
theorem S_steps_by:FnScope N_steps_by ps_steps_by (defScope s_steps_by):=⟨rfl,rfl,rfl,by decide +kernel,rfl,by decide +kernel,by decide +kernel⟩
theorem der_steps_by {a_HUSH:Addr} {C_Machine:Addr} {sp_Machine_is_quiet:Sp} {sp_Machine_goals:Sp} (g_HUSH:Gc mg "HUSH" (.ref a_HUSH)) (M_Machine_is_quiet:Mth P w K mg base C_Machine "is_quiet" ["self","room"] 1 sp_Machine_is_quiet) (M_Machine_goals:Mth P w K mg base C_Machine "goals" ["self","room","sign"] 1 sp_Machine_goals):Dr P w K mg base 1 "steps_by" s_steps_by N_steps_by (t_steps_by K a_HUSH C_Machine sp_Machine_is_quiet sp_Machine_goals):=by
 intro f cdv A outer s H E hr
 have hu:=hu_of hr
 have S:=S_steps_by
 exact pss_cons (ps_set (i:=3) S.nd rfl (Or.inl rfl) (pe_dnewK))
  (pss_cons (ps_for PassesOwn.never rfl (pi_keys (pv 1)) (pg_name (i:=4) S.nd rfl (Or.inl rfl)) (pss_one (ps_if (pt_cmpR (op_eqD hu) (pv 2) (pe_gc rfl g_HUSH) (nomark _)) (pss_one (ps_if (pt_val (pe_mth M_Machine_is_quiet (hr.mono (by decide)) (pv 0) (pa_cons (pv 4) pa_nil))) (pss_one (ps_dput hu (pv 3) (pv 4) (pe_tup (pa_cons (pv 4) (pa_cons (pe_gc rfl g_HUSH) (pa_cons (pv 4) pa_nil)))) rfl)) (pss_nil))) (pss_one (ps_for PassesOwn.never rfl (pi_list (pe_mth M_Machine_goals (hr.mono (by decide)) (pv 0) (pa_cons (pv 4) (pa_cons (pv 2) pa_nil)))) (pg_name (i:=5) S.nd rfl (Or.inl rfl)) (pss_one (ps_dput hu (pv 3) (pv 5) (pe_tup (pa_cons (pv 4) (pa_cons (pv 2) (pa_cons (pv 5) pa_nil)))) rfl)))))))
  (pss_one (ps_ret (pv 3))))
abbrev s_steps_along:Stmt:=top 28
theorem S_steps_along:FnScope N_steps_along ps_steps_along (defScope s_steps_along):=⟨rfl,rfl,rfl,by decide +kernel,rfl,by decide +kernel,by decide +kernel⟩
theorem der_steps_along {sp_add_still_steps:Sp} {sp_steps_by:Sp} {C_Machine:Addr} {sp_Machine_rooms:Sp} (D_add_still_steps:Def P w K mg base "add_still_steps" ["M","steps"] 2 sp_add_still_steps) (D_steps_by:Def P w K mg base "steps_by" ["M","rooms","sign"] 2 sp_steps_by) (M_Machine_rooms:Mth P w K mg base C_Machine "rooms" ["self"] 1 sp_Machine_rooms):Dr P w K mg base 2 "steps_along" s_steps_along N_steps_along (t_steps_along K sp_add_still_steps sp_steps_by C_Machine sp_Machine_rooms):=by
 intro f cdv A outer s H E hr
 have hu:=hu_of hr
 have S:=S_steps_along
 exact pss_cons (ps_set (i:=2) S.nd rfl (Or.inl rfl) (pe_disp (pps_cons (pe_ix ix_list (pe_mth0 M_Machine_rooms (hr.mono (by decide)) (pv 0)) (pe_int) (fun _ _=>rfl)) (pe_non) (pps_nil)) rfl rfl nofun (by decide)))
  (pss_cons (ps_set (i:=3) S.nd rfl (Or.inl rfl) (pe_lst (pa_cons (pv 2) pa_nil)))
  (pss_cons (ps_expr (pe_fn D_add_still_steps (hr.mono (by decide)) rfl (pa_cons (pv 0) (pa_cons (pv 2) pa_nil))))
  (pss_cons (ps_for PassesOwn.never rfl (pi_list (pv 1)) (pg_name (i:=4) S.nd rfl (Or.inl rfl)) (pss_cons (ps_set (i:=2) S.nd rfl (Or.inl rfl) (pe_fn D_steps_by (hr.mono (by decide)) rfl (pa_cons (pv 0) (pa_cons (pv 2) (pa_cons (pv 4) pa_nil)))))
  (pss_cons (ps_expr (pe_bm PySem.F.plainAttrs_list PySem.F.slot_list_append PySem.F.type_list_append mt_append (pv 3) (pa_cons (pv 2) pa_nil)))
  (pss_one (ps_expr (pe_fn D_add_still_steps (hr.mono (by decide)) rfl (pa_cons (pv 0) (pa_cons (pv 2) pa_nil))))))))
  (pss_one (ps_ret (pv 3))))))
abbrev s_walk_of:Stmt:=top 29
theorem S_walk_of:FnScope N_walk_of ps_walk_of (defScope s_walk_of):=⟨rfl,rfl,rfl,by decide +kernel,rfl,by decide +kernel,by decide +kernel⟩
theorem der_walk_of {a_STILL:Addr} {sp_steps_along:Sp} (g_STILL:Gc mg "STILL" (.ref a_STILL)) (z_list:mg "list" = none) (z_len:mg "len" = none) (D_steps_along:Def P w K mg base "steps_along" ["M","story"] 3 sp_steps_along):Dr P w K mg base 3 "walk_of" s_walk_of N_walk_of (t_walk_of K a_STILL sp_steps_along):=by
 intro f cdv A outer s H E hr
 have hu:=hu_of hr
 have S:=S_walk_of
 exact pss_cons (ps_set (i:=2) S.nd rfl (Or.inl rfl) (pe_fn D_steps_along (hr.mono (by decide)) rfl (pa_cons (pv 0) (pa_cons (pv 1) pa_nil))))
  (pss_cons (ps_if (pt_cmpR op_eq (pe_callB call_lenK rfl z_len PySem.boot_len (pa_cons (pe_ix ix_list (pv 2) (pe_un un_neg (pe_int)) (fun _ _=>rfl)) pa_nil)) (pe_int) (nomark _)) (pss_one (ps_ret (pe_non))) (pss_nil))
  (pss_cons (ps_set (i:=3) S.nd rfl (Or.inl rfl) (pe_ix ix_list (pe_callTy (call_listA rfl) rfl z_list bootT_list (pa_cons (pe_ix ix_list (pv 2) (pe_un un_neg (pe_int)) (fun _ _=>rfl)) pa_nil)) (pe_int) (fun _ _=>rfl)))
  (pss_cons (ps_set (i:=4) S.nd rfl (Or.inl rfl) (pe_lst (pa_nil)))
  (pss_cons (ps_set (i:=5) S.nd rfl (Or.inl rfl) (pe_bm0 PySem.F.plainAttrs_list PySem.F.slot_list_pop PySem.F.type_list_pop mt_pop (pv 2)))
  (pss_cons (ps_while PassesOwn.never (pt_cmp (pc_notN (pe_dget hu (pv 5) (pv 3) (fun _ _=>rfl)))) (pss_cons (ps_set (i:=6) S.nd rfl (Or.inl rfl) (pe_dget hu (pv 5) (pv 3) (fun _ _=>rfl)))
  (pss_cons (ps_expr (pe_bm PySem.F.plainAttrs_list PySem.F.slot_list_append PySem.F.type_list_append mt_append (pv 4) (pa_cons (pv 6) pa_nil)))
  (pss_cons (ps_set (i:=3) S.nd rfl (Or.inl rfl) (pe_ix ix_tup (pv 6) (pe_int) (fun _ _=>rfl)))
  (pss_one (ps_if (pt_cmpR (op_neD hu) (pe_ix ix_tup (pv 6) (pe_int) (fun _ _=>rfl)) (pe_gc rfl g_STILL) (nomark _)) (pss_one (ps_set (i:=5) S.nd rfl (Or.inl rfl) (pe_bm0 PySem.F.plainAttrs_list PySem.F.slot_list_pop PySem.F.type_list_pop mt_pop (pv 2)))) (pss_nil)))))))
  (pss_cons (ps_expr (pe_bm0 PySem.F.plainAttrs_list PySem.F.slot_list_reverse PySem.F.type_list_reverse mt_reverse (pv 4)))
  (pss_one (ps_ret (pv 4)))))))))
abbrev s_law19:Stmt:=top 50
theorem S_law19:FnScope N_law19 ps_law19 (defScope s_law19):=⟨rfl,rfl,rfl,by decide +kernel,rfl,by decide +kernel,by decide +kernel⟩
theorem der_law19 {sp_law_face:Sp} {sp_law_is_walked:Sp} {sp_walk_of:Sp} {sp_law_odd:Sp} {sp_law_story:Sp} {sp_law_machine:Sp} {sp_law_model:Sp} {sp_law_open:Sp} (D_law_face:Def P w K mg base "_law_face" ["told","story"] 4 sp_law_face) (D_law_is_walked:Def P w K mg base "_law_is_walked" ["told","story","walk"] 2 sp_law_is_walked) (D_walk_of:Def P w K mg base "walk_of" ["M","story"] 4 sp_walk_of) (z_list:mg "list" = none) (D_law_odd:Def P w K mg base "_law_odd" ["pen","told","story"] 4 sp_law_odd) (D_law_story:Def P w K mg base "_law_story" ["pen","told","most"] 4 sp_law_story) (D_law_machine:Def P w K mg base "_law_machine" ["told"] 6 sp_law_machine) (D_law_model:Def P w K mg base "_law_model" ["pen","most","full"] 4 sp_law_model) (D_law_open:Def P w K mg base "_law_open" ["script"] 1 sp_law_open):Dr P w K mg base 6 "law" s_law19 N_law19 (t_law19 K sp_law_face sp_law_is_walked sp_walk_of sp_law_odd sp_law_story sp_law_machine sp_law_model sp_law_open):=by
 intro f cdv A outer s H E hr
 have hu:=hu_of hr
 have S:=S_law19
 exact pss_cons (ps_set (i:=1) S.nd rfl (Or.inl rfl) (pe_fn D_law_open (hr.mono (by decide)) rfl (pa_cons (pv 0) pa_nil)))
  (pss_cons (ps_set (i:=2) S.nd rfl (Or.inl rfl) (pe_fn D_law_model (hr.mono (by decide)) rfl (pa_cons (pv 1) (pa_cons (pe_int) (pa_cons (pe_int) pa_nil)))))
  (pss_cons (ps_set (i:=3) S.nd rfl (Or.inl rfl) (pe_fn D_law_machine (hr.mono (by decide)) rfl (pa_cons (pv 2) pa_nil)))
  (pss_cons (ps_set (i:=4) S.nd rfl (Or.inl rfl) (pe_lst (pa_cons (pe_fn D_law_story (hr.mono (by decide)) rfl (pa_cons (pv 1) (pa_cons (pv 2) (pa_cons (pe_int) pa_nil)))) (pa_cons (pe_fn D_law_odd (hr.mono (by decide)) rfl (pa_cons (pv 1) (pa_cons (pv 2) (pa_cons (pe_fn D_law_story (hr.mono (by decide)) rfl (pa_cons (pv 1) (pa_cons (pv 2) (pa_cons (pe_int) pa_nil)))) pa_nil)))) pa_nil))))
  (pss_cons (ps_for PassesOwn.never rfl (pi_list (pe_op op_cat (pv 4) (pe_slice sl_list (pv 4) (po_none) (po_some (pe_int))))) (pg_name (i:=5) S.nd rfl (Or.inl rfl)) (pss_cons (ps_set (i:=6) S.nd rfl (Or.inl rfl) (pe_callTy (call_listA rfl) rfl z_list bootT_list (pa_cons (pv 5) pa_nil)))
  (pss_cons (ps_set (i:=7) S.nd rfl (Or.inl rfl) (pe_fn D_walk_of (hr.mono (by decide)) rfl (pa_cons (pv 3) (pa_cons (pv 6) pa_nil))))
  (pss_cons (ps_if (pt_cmpR (op_neD hu) (pv 6) (pv 5) (nomark _)) (pss_one (ps_ret (pe_bl))) (pss_nil))
  (pss_one (ps_if (pt_cmpR (op_eqD hu) (pe_fn D_law_face (hr.mono (by decide)) rfl (pa_cons (pv 2) (pa_cons (pv 5) pa_nil))) (pe_tup (pa_nil)) (nomark _)) (pss_one (ps_if (pt_cmp (pc_notN (pv 7))) (pss_one (ps_ret (pe_bl))) (pss_nil))) (pss_one (ps_if (pt_not (pt_val (pe_fn D_law_is_walked (hr.mono (by decide)) rfl (pa_cons (pv 2) (pa_cons (pv 5) (pa_cons (pv 7) pa_nil)))))) (pss_one (ps_ret (pe_bl))) (pss_one (ps_expr (pe_bm PySem.F.plainAttrs_list PySem.F.slot_list_append PySem.F.type_list_append mt_append (pv 7) (pa_cons (pe_tup (pa_cons (pe_ix ix_list (pe_ix ix_seq (pv 2) (pe_int) (fun _ _=>rfl)) (pe_int) (fun _ _=>rfl)) (pa_cons (pe_tup (pa_cons (pe_str) pa_nil)) (pa_cons (pe_ix ix_list (pe_ix ix_seq (pv 2) (pe_int) (fun _ _=>rfl)) (pe_int) (fun _ _=>rfl)) pa_nil)))) pa_nil))))))))))))
  (pss_one (ps_ret (pe_bl)))))))
def FnT (K:PySem.W.Frag) (x qual:Str) (st:Stmt) (f:Addr):Prop:=∃ (oc:Value) (od an:Option Addr) (sl:Array (Option Value)) (kV dc pm cd ct:Value),
 K.lookup f = some ⟨oc,od,.func (PySem.W.fnOf x qual (defArgs st) (defBody st) (defScope st) .none kV dc pm an cd ct),sl⟩/\PySem.W.codeIn K cd qual = true/\PySem.W.keepIn K (.ref f) = true
theorem fnT_mk {K:PySem.W.Frag} {x qual:Str} {st:Stmt} {f:Addr} {oc:Value} {od an:Option Addr} {sl:Array (Option Value)} {kV dc pm cd ct:Value} (l:K.lookup f = some ⟨oc,od,.func (PySem.W.fnOf x qual (defArgs st) (defBody st) (defScope st) .none kV dc pm an cd ct),sl⟩)
  (c:PySem.W.codeIn K cd qual = true) (k:PySem.W.keepIn K (.ref f) = true):FnT K x qual st f:=⟨oc,od,an,sl,kV,dc,pm,cd,ct,l,c,k⟩
def FnG (K:PySem.W.Frag) (x:Str) (st:Stmt):Prop:=∃ f,PySem.W.nsIn K mainGlobals x = some (some (.ref f))/\FnT K x x st f
theorem fnG_mk {K:PySem.W.Frag} {x:Str} {st:Stmt} {f:Addr} {oc:Value} {od an:Option Addr} {sl:Array (Option Value)} {kV dc pm cd ct:Value} (a:PySem.W.nsIn K mainGlobals x = some (some (.ref f))) (l:K.lookup f = some ⟨oc,od,.func (PySem.W.fnOf x x (defArgs st) (defBody st) (defScope st) .none kV dc pm an cd ct),sl⟩)
  (c:PySem.W.codeIn K cd x = true) (k:PySem.W.keepIn K (.ref f) = true):FnG K x st:=⟨f,a,fnT_mk l c k⟩
def FnM (K:PySem.W.Frag) (C:Addr) (m qual:Str) (st:Stmt):Prop:=∃ f,PySem.W.findIn K (.ref C) m = some (some (.ref f))/\PySem.W.isFn K (.ref f) = true/\FnT K m qual st f
theorem fnM_mk {K:PySem.W.Frag} {C:Addr} {m qual:Str} {st:Stmt} {f:Addr} {oc:Value} {od an:Option Addr} {sl:Array (Option Value)} {kV dc pm cd ct:Value} (a:PySem.W.findIn K (.ref C) m = some (some (.ref f))) (i:PySem.W.isFn K (.ref f) = true)
  (l:K.lookup f = some ⟨oc,od,.func (PySem.W.fnOf m qual (defArgs st) (defBody st) (defScope st) .none kV dc pm an cd ct),sl⟩) (c:PySem.W.codeIn K cd qual = true) (k:PySem.W.keepIn K (.ref f) = true):FnM K C m qual st:=⟨f,a,i,fnT_mk l c k⟩
theorem FnT.fun_ {K:PySem.W.Frag} {x qual:Str} {st:Stmt} {f:Addr} (T:FnT K x qual st f):∃ fd,Fun K x qual st f fd:=by
 obtain ⟨oc,od,an,sl,kV,dc,pm,cd,ct,l,c,k⟩:=T
 exact ⟨_,fun_mk (st:=st) l c k⟩
def spNo:Sp:=fun _ _ _ _=>False
theorem ok_no {P:Program} {w:World} {K:PySem.W.Frag} {mg:Str->Option Value} {base:Heap} {k:Nat} {f:Addr} {fd:FuncData} {ps:List Str}:FnOk P w K mg base CX0 k f fd ps spNo:=⟨fun _ _ _ _ h=>h.elim,fun _ _ _ _ _ _ _ _ _ _ _ _ _ h=>h.elim⟩
def TupT (K:PySem.W.Frag) (a:Addr) (ws:List Str):Prop:=∀ H,SqT K H a (ws.map V.str)
theorem tupT_mk {K:PySem.W.Frag} {a:Addr} {ws:List Str} {o:Obj} {its:Array Value} {n:Nat} (l:K.lookup a = some o) (c:o.cls = .type "tuple") (d:o.data = .seq its n) (z:its.size <= sizeLine) (v:Vals (ws.map V.str) its.toList):TupT K a ws :=
 fun _=>.inr ⟨o,its,n,l,c,d,z,v⟩
section
variable {P:Program} {w:World} {K:PySem.W.Frag} {mg:Str->Option Value} {base h:Heap} {C:Addr} {x qual:Str} {st:Stmt} {N ps:List Str} {k:Nat} {sp:Sp}
abbrev LenOk (ps:List Str) (sp:Sp):Prop:=∀ vs H Q E,sp vs H Q E->vs.length = ps.length
abbrev BodyOk (P:Program) (w:World) (K:PySem.W.Frag) (mg:Str->Option Value) (base:Heap) (qual:Str) (st:Stmt) (N:List Str) (k:Nat) (sp:Sp):Prop:=∀ (f:Addr) (cdv:Value) (A:Around) (outer:List Env) (s:Shared) (H:Hp) (vs:List V) (Q:VK) (E:XK),Room k (A.deeper (envOfC qual (defScope st) s.heap.objs.size f cdv))->sp vs H Q E ->
 ∃ t,PSs (cxOf CX0 P w K mg base N qual (defScope st) f cdv A outer s H E).nox (defBody st) t/\t { nx:=fun _ H'=>Q .non H',rt:=Q } (start N vs) H
abbrev BindOk (x qual:Str) (st:Stmt) (ps:List Str):Prop:=∀ (kV doc pm:Value) (an:Option Addr) (cdv ct:Value) (us:List Value),us.length = ps.length->bindArgs (PySem.W.fnOf x qual (defArgs st) (defBody st) (defScope st) .none kV doc pm an cdv ct) ⟨us,[]⟩ = pure (ps.zip us)
theorem dG (X:K.In h) (G:h.Ns mainGlobals mg) (T:FnG K x st) (S:FnScope N ps (defScope st)) (l:LenOk ps sp) (b:BodyOk P w K mg base x st N k sp) (bi:BindOk x x st ps):Def P w K mg base x ps (k + 1) sp:=by
 obtain ⟨f,a,t⟩:=T
 obtain ⟨fd,F⟩:=t.fun_
 exact ⟨f,fd,F.ok S l (b f),PySem.W.mg_of X G a,F.kp,F.binds bi⟩
theorem dM (cl:Cls K C) (T:FnM K C x qual st) (S:FnScope N ps (defScope st)) (l:LenOk ps sp) (b:BodyOk P w K mg base qual st N k sp) (bi:BindOk x qual st ps):Mth P w K mg base C x ps (k + 1) sp:=by
 obtain ⟨f,a,i,t⟩:=T
 obtain ⟨fd,F⟩:=t.fun_
 exact ⟨f,fd,F.ok S l (b f),cl,⟨a,i,F.kp⟩,F.binds bi⟩
theorem dN {y:Str} (cm:mg y = some (.ref C)) (mk:PySem.W.makesIn K C = true) (kc:PySem.W.keepIn K (.ref C) = true) (T:FnM K C "__init__" qual st) (S:FnScope N ps (defScope st)) (l:LenOk ps sp) (b:BodyOk P w K mg base qual st N k sp) (bi:BindOk "__init__" qual st ps):New P w K mg base y C ps (k + 1) sp:=by
 obtain ⟨f,a,i,t⟩:=T
 obtain ⟨fd,F⟩:=t.fun_
 exact ⟨f,fd,F.ok S l (b f),cm,⟨mk,a,i,kc⟩,F.binds bi⟩
end
structure Zs (mg:Str->Option Value):Prop where
 all:mg "all" = none
 dict:mg "dict" = none
 enumerate:mg "enumerate" = none
 isinstance:mg "isinstance" = none
 len:mg "len" = none
 list:mg "list" = none
 range:mg "range" = none
 tuple:mg "tuple" = none
structure Cs (K:PySem.W.Frag) (mg:Str->Option Value) (C a_STILL a_HUSH:Addr):Prop where
 LETTERS:Gc mg "LETTERS" (.str "abcdefghijklmnopqrstuvwxyz")
 LONGEST_NAME:Gc mg "LONGEST_NAME" (.int 8)
 MOST_WORDS:Gc mg "MOST_WORDS" (.int 4)
 MOST_ROOMS:Gc mg "MOST_ROOMS" (.int 150)
 MOST_DOORS:Gc mg "MOST_DOORS" (.int 2000)
 STILL:Gc mg "STILL" (.ref a_STILL)
 HUSH:Gc mg "HUSH" (.ref a_HUSH)
 still:TupT K a_STILL stillSg
 hush:TupT K a_HUSH hushSg
 mc:MC K C
 cm:mg "Machine" = some (.ref C)
 makes:PySem.W.makesIn K C = true
 kc:PySem.W.keepIn K (.ref C) = true
structure Ts (K:PySem.W.Frag) (C:Addr):Prop where
 f_law_spread:FnG K "_law_spread" s_law_spread
 f_law_open:FnG K "_law_open" s_law_open
 f_law_anew:FnG K "_law_anew" s_law_anew
 f_law_take:FnG K "_law_take" s_law_take
 f_law_names:FnG K "_law_names" s_law_names
 f_law_put:FnG K "_law_put" s_law_put
 f_law_draw_doors:FnG K "_law_draw_doors" s_law_draw_doors
 f_law_model:FnG K "_law_model" s_law_model
 f_is_name:FnG K "is_name" s_is_name
 f_as_keys:FnG K "as_keys" s_as_keys
 f_first_wrong_name:FnG K "first_wrong_name" s_first_wrong_name
 f_door_signs:FnG K "door_signs" s_door_signs
 f_first_wrong_door:FnG K "first_wrong_door" s_first_wrong_door
 f_goals_by_start_and_sign:FnG K "goals_by_start_and_sign" s_goals_by_start_and_sign
 f_led_by_still:FnG K "led_by_still" s_led_by_still
 f_first_led_round:FnG K "first_led_round" s_first_led_round
 f_need_none:FnG K "need_none" s_need_none
 f_need_parts:FnG K "need_parts" s_need_parts
 f_doors_by_start:FnG K "doors_by_start" s_doors_by_start
 f_has_asks_alone:FnG K "has_asks_alone" s_has_asks_alone
 f_Machine___init__:FnM K C "__init__" "Machine.__init__" s_Machine___init__
 f_law_machine:FnG K "_law_machine" s_law_machine
 f_law_still_on:FnG K "_law_still_on" s_law_still_on
 f_law_on:FnG K "_law_on" s_law_on
 f_law_is_quiet:FnG K "_law_is_quiet" s_law_is_quiet
 f_law_behind:FnG K "_law_behind" s_law_behind
 f_law_signs:FnG K "_law_signs" s_law_signs
 f_law_story:FnG K "_law_story" s_law_story
 f_law_odd:FnG K "_law_odd" s_law_odd
 f_law_face:FnG K "_law_face" s_law_face
 f_law_is_walked:FnG K "_law_is_walked" s_law_is_walked
 f_Machine_rooms:FnM K C "rooms" "Machine.rooms" s_Machine_rooms
 f_Machine_goals:FnM K C "goals" "Machine.goals" s_Machine_goals
 f_Machine_is_quiet:FnM K C "is_quiet" "Machine.is_quiet" s_Machine_is_quiet
 f_add_still_steps:FnG K "add_still_steps" s_add_still_steps
 f_steps_by:FnG K "steps_by" s_steps_by
 f_steps_along:FnG K "steps_along" s_steps_along
 f_walk_of:FnG K "walk_of" s_walk_of
 f_law19:FnG K "law" s_law19
section
variable {P:Program} {w:World} {K:PySem.W.Frag} {mg:Str->Option Value} {base h:Heap} {C a_STILL a_HUSH:Addr}
theorem law_ok (X:K.In h) (G:h.Ns mainGlobals mg) (z:Zs mg) (c:Cs K mg C a_STILL a_HUSH) (T:Ts K C):∃ f fd,mg "law" = some (.ref f)/\(∀ (s:Shared) (v:Value),BindsTo s fd ⟨[v],[]⟩ [("script",v)])/\∀ base:Heap,FnOk P w K mg base CX0 7 f fd ["script"] (sp_law19 K):=by
 have D_law_spread:∀ base,Def P w K mg base "_law_spread" ["cell","at"] 1 sp_spread:=fun base=>dG X G T.f_law_spread S_law_spread (fun vs H Q E h=>by obtain ⟨_,_,rfl,_⟩:=h; rfl) (fun _ _ _ _ _ _ _ _ _ hr h=>⟨_,der_law_spread  hr,rd_spread h⟩) fun _ _ _ _ _ _ us hl=>match us,hl with | [_,_],_=>rfl
 have D_law_open:∀ base,Def P w K mg base "_law_open" ["script"] 1 (sp_open K):=fun base=>dG X G T.f_law_open S_law_open (fun vs H Q E h=>by obtain ⟨_,_,rfl,_⟩:=h; rfl) (fun _ _ _ _ _ _ _ _ _ hr h=>⟨_,der_law_open z.enumerate z.list hr,rd_open h⟩) fun _ _ _ _ _ _ us hl=>match us,hl with | [_],_=>rfl
 have D_law_anew:∀ base,Def P w K mg base "_law_anew" ["pen"] 1 sp_anew:=fun base=>dG X G T.f_law_anew S_law_anew (fun vs H Q E h=>by obtain ⟨_,_,rfl,_⟩:=h; rfl) (fun _ _ _ _ _ _ _ _ _ hr h=>⟨_,der_law_anew  hr,rd_anew h⟩) fun _ _ _ _ _ _ us hl=>match us,hl with | [_],_=>rfl
 have D_law_take:∀ base,Def P w K mg base "_law_take" ["pen","many"] 2 sp_take:=fun base=>dG X G T.f_law_take S_law_take (fun vs H Q E h=>by unfold sp_take at h; obtain ⟨_,_,_,rfl,_⟩:=h; rfl) (fun _ _ _ _ _ _ _ _ _ hr h=>⟨_,der_law_take (D_law_spread base) z.len hr,rd_take h⟩) fun _ _ _ _ _ _ us hl=>match us,hl with | [_,_],_=>rfl
 have D_law_names:∀ base,Def P w K mg base "_law_names" ["pen","many"] 3 sp_names:=fun base=>dG X G T.f_law_names S_law_names (fun vs H Q E h=>by obtain ⟨_,_,_,rfl,_⟩:=h; rfl) (fun _ _ _ _ _ _ _ _ _ hr h=>⟨_,der_law_names z.range z.len (D_law_take base) hr,rd_names h⟩) fun _ _ _ _ _ _ us hl=>match us,hl with | [_,_],_=>rfl
 have D_law_put:∀ base,Def P w K mg base "_law_put" ["doors","door"] 1 sp_put:=fun base=>dG X G T.f_law_put S_law_put (fun vs H Q E h=>by unfold sp_put at h; obtain ⟨_,_,_,_,_,rfl,_⟩:=h; rfl) (fun _ _ _ _ _ _ _ _ _ hr h=>⟨_,der_law_put  hr,rd_put h⟩) fun _ _ _ _ _ _ us hl=>match us,hl with | [_,_],_=>rfl
 have D_law_draw_doors:∀ base,Def P w K mg base "_law_draw_doors" ["pen","asks","says","rooms","full"] 3 sp_draw_doors:=fun base=>dG X G T.f_law_draw_doors S_law_draw_doors (fun vs H Q E h=>by obtain ⟨_,_,_,_,_,_,_,_,_,rfl,_⟩:=h; rfl) (fun _ _ _ _ _ _ _ _ _ hr h=>⟨_,der_law_draw_doors z.enumerate (D_law_take base) (D_law_put base) z.len z.range hr,rd_draw_doors h⟩) fun _ _ _ _ _ _ us hl=>match us,hl with | [_,_,_,_,_],_=>rfl
 have D_law_model:∀ base,Def P w K mg base "_law_model" ["pen","most","full"] 4 sp_model:=fun base=>dG X G T.f_law_model S_law_model (fun vs H Q E h=>by obtain ⟨_,_,_,_,rfl,_⟩:=h; rfl) (fun _ _ _ _ _ _ _ _ _ hr h=>⟨_,der_law_model (D_law_draw_doors base) (D_law_names base) (D_law_take base) (D_law_anew base) hr,rd_model h⟩) fun _ _ _ _ _ _ us hl=>match us,hl with | [_,_,_],_=>rfl
 have D_is_name:∀ base,Def P w K mg base "is_name" ["text"] 1 sp_is_name:=fun base=>dG X G T.f_is_name S_is_name (fun vs H Q E h=>by unfold sp_is_name at h; obtain ⟨_,rfl,_⟩:=h; rfl) (fun _ _ _ _ _ _ _ _ _ hr h=>⟨_,der_is_name z.all c.LETTERS z.len c.LONGEST_NAME hr,rd_is_name h⟩) fun _ _ _ _ _ _ us hl=>match us,hl with | [_],_=>rfl
 have D_as_keys:∀ base,Def P w K mg base "as_keys" ["things"] 1 (sp_as_keys K):=fun base=>dG X G T.f_as_keys S_as_keys (fun vs H Q E h=>by unfold sp_as_keys at h; obtain ⟨_,_,rfl,_⟩:=h; rfl) (fun _ _ _ _ _ _ _ _ _ hr h=>⟨_,der_as_keys  hr,rd_as_keys h⟩) fun _ _ _ _ _ _ us hl=>match us,hl with | [_],_=>rfl
 have D_first_wrong_name:∀ base,Def P w K mg base "first_wrong_name" ["names","most","taken"] 2 (sp_first_wrong_name K):=fun base=>dG X G T.f_first_wrong_name S_first_wrong_name (fun vs H Q E h=>by obtain ⟨_,_,_,_,_,rfl,_⟩:=h; rfl) (fun _ _ _ _ _ _ _ _ _ hr h=>⟨_,der_first_wrong_name z.enumerate (D_is_name base) (D_as_keys base) z.len hr,rd_first_wrong_name h⟩) fun _ _ _ _ _ _ us hl=>match us,hl with | [_,_,_],_=>rfl
 have D_door_signs:∀ base,Def P w K mg base "door_signs" ["asks","says"] 1 (sp_door_signs K):=fun base=>dG X G T.f_door_signs S_door_signs (fun vs H Q E h=>by obtain ⟨_,_,_,_,rfl,_⟩:=h; rfl) (fun _ _ _ _ _ _ _ _ _ hr h=>⟨_,der_door_signs c.STILL hr,rd_door_signs c.still h⟩) fun _ _ _ _ _ _ us hl=>match us,hl with | [_,_],_=>rfl
 have D_first_wrong_door:∀ base,Def P w K mg base "first_wrong_door" ["doors","rooms","signs"] 2 (sp_first_wrong_door K):=fun base=>dG X G T.f_first_wrong_door S_first_wrong_door (fun vs H Q E h=>by obtain ⟨_,_,_,_,_,_,_,_,rfl,_⟩:=h; rfl) (fun _ _ _ _ _ _ _ _ _ hr h=>⟨_,der_first_wrong_door z.enumerate c.MOST_DOORS (D_as_keys base) hr,rd_first_wrong_door h⟩) fun _ _ _ _ _ _ us hl=>match us,hl with | [_,_,_],_=>rfl
 have D_goals_by_start_and_sign:∀ base,Def P w K mg base "goals_by_start_and_sign" ["doors"] 1 sp_goals:=fun base=>dG X G T.f_goals_by_start_and_sign S_goals_by_start_and_sign (fun vs H Q E h=>by obtain ⟨_,_,_,rfl,_⟩:=h; rfl) (fun _ _ _ _ _ _ _ _ _ hr h=>⟨_,der_goals_by_start_and_sign  hr,rd_goals_by_start_and_sign h⟩) fun _ _ _ _ _ _ us hl=>match us,hl with | [_],_=>rfl
 have D_led_by_still:∀ base,Def P w K mg base "led_by_still" ["goals","room"] 1 sp_led:=fun base=>dG X G T.f_led_by_still S_led_by_still (fun vs H Q E h=>by obtain ⟨_,_,_,_,_,rfl,_⟩:=h; rfl) (fun _ _ _ _ _ _ _ _ _ hr h=>⟨_,der_led_by_still z.len c.STILL hr,rd_led_by_still c.still h⟩) fun _ _ _ _ _ _ us hl=>match us,hl with | [_,_],_=>rfl
 have D_first_led_round:∀ base,Def P w K mg base "first_led_round" ["rooms","led"] 1 sp_first_led_round:=fun base=>dG X G T.f_first_led_round S_first_led_round (fun vs H Q E h=>by obtain ⟨_,_,_,_,rfl,_⟩:=h; rfl) (fun _ _ _ _ _ _ _ _ _ hr h=>⟨_,der_first_led_round z.enumerate hr,rd_first_led_round h⟩) fun _ _ _ _ _ _ us hl=>match us,hl with | [_,_],_=>rfl
 have D_need_none:∀ base,Def P w K mg base "need_none" ["part","number"] 1 sp_need_none:=fun base=>dG X G T.f_need_none S_need_none (fun vs H Q E h=>by obtain ⟨_,rfl,_⟩:=h; rfl) (fun _ _ _ _ _ _ _ _ _ hr h=>⟨_,der_need_none  hr,rd_need_none h⟩) fun _ _ _ _ _ _ us hl=>match us,hl with | [_,_],_=>rfl
 have D_need_parts:∀ base,Def P w K mg base "need_parts" ["asks","says","rooms","doors"] 3 sp_need_parts:=fun base=>dG X G T.f_need_parts S_need_parts (fun vs H Q E h=>by obtain ⟨_,_,_,_,_,_,_,_,_,rfl,_⟩:=h; rfl) (fun _ _ _ _ _ _ _ _ _ hr h=>⟨_,der_need_parts (D_need_none base) (D_first_wrong_door base) (D_door_signs base) (D_first_wrong_name base) c.MOST_ROOMS c.MOST_WORDS hr,rd_need_parts h⟩) fun _ _ _ _ _ _ us hl=>match us,hl with | [_,_,_,_],_=>rfl
 have D_doors_by_start:∀ base,Def P w K mg base "doors_by_start" ["rooms","doors"] 1 sp_doors_by_start:=fun base=>dG X G T.f_doors_by_start S_doors_by_start (fun vs H Q E h=>by obtain ⟨_,_,_,_,_,rfl,_⟩:=h; rfl) (fun _ _ _ _ _ _ _ _ _ hr h=>⟨_,der_doors_by_start  hr,rd_doors_by_start h⟩) fun _ _ _ _ _ _ us hl=>match us,hl with | [_,_],_=>rfl
 have D_has_asks_alone:∀ base,Def P w K mg base "has_asks_alone" ["doors"] 1 sp_has_asks_alone:=fun base=>dG X G T.f_has_asks_alone S_has_asks_alone (fun vs H Q E h=>by obtain ⟨_,_,_,rfl,_⟩:=h; rfl) (fun _ _ _ _ _ _ _ _ _ hr h=>⟨_,der_has_asks_alone z.all hr,rd_has_asks_alone h⟩) fun _ _ _ _ _ _ us hl=>match us,hl with | [_],_=>rfl
 have D_Machine:∀ base,New P w K mg base "Machine" C ["self","asks","says","rooms","doors"] 4 (sp_init C):=fun base=>dN c.cm c.makes c.kc T.f_Machine___init__ S_Machine___init__ (fun vs H Q E h=>by obtain ⟨_,_,_,_,_,_,_,_,_,_,_,rfl,_⟩:=h; rfl) (fun _ _ _ _ _ _ _ _ _ hr h=>⟨_,der_Machine___init__ (D_need_none base) (D_first_led_round base) z.dict (D_led_by_still base) (D_goals_by_start_and_sign base) (D_as_keys base) (D_has_asks_alone base) (D_doors_by_start base) z.list (D_need_parts base) hr,rd_init c.mc h⟩) fun _ _ _ _ _ _ us hl=>match us,hl with | [_,_,_,_,_],_=>rfl
 have D_law_machine:∀ base,Def P w K mg base "_law_machine" ["told"] 6 (sp_machine C):=fun base=>dG X G T.f_law_machine S_law_machine (fun vs H Q E h=>by obtain ⟨_,_,_,_,_,_,_,_,_,_,rfl,_⟩:=h; rfl) (fun _ _ _ _ _ _ _ _ _ hr h=>⟨_,der_law_machine (D_Machine base) z.list hr,rd_machine h⟩) fun _ _ _ _ _ _ us hl=>match us,hl with | [_],_=>rfl
 have D_law_still_on:∀ base,Def P w K mg base "_law_still_on" ["doors","rooms"] 1 (sp_still_on K):=fun base=>dG X G T.f_law_still_on S_law_still_on (fun vs H Q E h=>by obtain ⟨_,_,_,_,_,_,rfl,_⟩:=h; rfl) (fun _ _ _ _ _ _ _ _ _ hr h=>⟨_,der_law_still_on z.len z.list hr,rd_still_on h⟩) fun _ _ _ _ _ _ us hl=>match us,hl with | [_,_],_=>rfl
 have D_law_on:∀ base,Def P w K mg base "_law_on" ["told","some"] 2 sp_on:=fun base=>dG X G T.f_law_on S_law_on (fun vs H Q E h=>by obtain ⟨_,_,_,_,_,_,_,_,_,_,_,_,rfl,_⟩:=h; rfl) (fun _ _ _ _ _ _ _ _ _ hr h=>⟨_,der_law_on z.tuple (D_law_still_on base) hr,rd_on h⟩) fun _ _ _ _ _ _ us hl=>match us,hl with | [_,_],_=>rfl
 have D_law_is_quiet:∀ base,Def P w K mg base "_law_is_quiet" ["told","room"] 1 sp_lquiet:=fun base=>dG X G T.f_law_is_quiet S_law_is_quiet (fun vs H Q E h=>by obtain ⟨_,_,_,_,_,_,_,_,_,_,_,rfl,_⟩:=h; rfl) (fun _ _ _ _ _ _ _ _ _ hr h=>⟨_,der_law_is_quiet  hr,rd_lquiet h⟩) fun _ _ _ _ _ _ us hl=>match us,hl with | [_,_],_=>rfl
 have D_law_behind:∀ base,Def P w K mg base "_law_behind" ["told","face","sign"] 3 (sp_beh K):=fun base=>dG X G T.f_law_behind S_law_behind (fun vs H Q E h=>by obtain ⟨_,_,_,_,_,_,_,_,_,_,_,_,_,_,rfl,_⟩:=h; rfl) (fun _ _ _ _ _ _ _ _ _ hr h=>⟨_,der_law_behind (D_law_on base) z.tuple (D_law_is_quiet base) hr,rd_beh h⟩) fun _ _ _ _ _ _ us hl=>match us,hl with | [_,_,_],_=>rfl
 have D_law_signs:∀ base,Def P w K mg base "_law_signs" ["told"] 1 sp_signs:=fun base=>dG X G T.f_law_signs S_law_signs (fun vs H Q E h=>by obtain ⟨_,_,_,_,_,_,_,_,_,_,rfl,_⟩:=h; rfl) (fun _ _ _ _ _ _ _ _ _ hr h=>⟨_,der_law_signs  hr,rd_signs h⟩) fun _ _ _ _ _ _ us hl=>match us,hl with | [_],_=>rfl
 have D_law_story:∀ base,Def P w K mg base "_law_story" ["pen","told","most"] 4 (sp_storyN K):=fun base=>dG X G T.f_law_story S_law_story (fun vs H Q E h=>by obtain ⟨_,_,_,_,_,_,_,_,_,_,_,_,_,rfl,_⟩:=h; rfl) (fun _ _ _ _ _ _ _ _ _ hr h=>⟨_,der_law_story z.range (D_law_take base) (D_law_behind base) z.len (D_law_signs base) (D_law_on base) (D_law_anew base) hr,rd_storyN h⟩) fun _ _ _ _ _ _ us hl=>match us,hl with | [_,_,_],_=>rfl
 have D_law_odd:∀ base,Def P w K mg base "_law_odd" ["pen","told","story"] 4 sp_oddN:=fun base=>dG X G T.f_law_odd S_law_odd (fun vs H Q E h=>by obtain ⟨_,_,_,_,_,_,_,_,_,_,_,_,_,_,_,rfl,_⟩:=h; rfl) (fun _ _ _ _ _ _ _ _ _ hr h=>⟨_,der_law_odd (D_law_take base) z.len (D_law_names base) (D_law_anew base) hr,rd_oddN h⟩) fun _ _ _ _ _ _ us hl=>match us,hl with | [_,_,_],_=>rfl
 have D_law_face:∀ base,Def P w K mg base "_law_face" ["told","story"] 4 sp_lface:=fun base=>dG X G T.f_law_face S_law_face (fun vs H Q E h=>by obtain ⟨_,_,_,_,_,_,_,_,_,_,_,_,_,rfl,_⟩:=h; rfl) (fun _ _ _ _ _ _ _ _ _ hr h=>⟨_,der_law_face (D_law_behind base) (D_law_on base) hr,rd_lface h⟩) fun _ _ _ _ _ _ us hl=>match us,hl with | [_,_],_=>rfl
 have D_law_is_walked:∀ base,Def P w K mg base "_law_is_walked" ["told","story","walk"] 2 (sp_is_walkedT K):=fun base=>dG X G T.f_law_is_walked S_law_is_walked (fun vs H Q E h=>len_h h) (fun _ _ _ _ _ _ _ _ _ hr h=>⟨_,der_law_is_walked (D_law_is_quiet base) z.len z.isinstance z.tuple z.list hr,rd_is_walkedT h⟩) fun _ _ _ _ _ _ us hl=>match us,hl with | [_,_,_],_=>rfl
 have M_Machine_rooms:∀ base,Mth P w K mg base C "rooms" ["self"] 1 (sp_rooms C):=fun base=>dM c.mc.cls T.f_Machine_rooms S_Machine_rooms (fun vs H Q E h=>by obtain ⟨_,_,_,_,_,rfl,_⟩:=h; rfl) (fun _ _ _ _ _ _ _ _ _ hr h=>⟨_,der_Machine_rooms z.list hr,rd_rooms c.mc h⟩) fun _ _ _ _ _ _ us hl=>match us,hl with | [_],_=>rfl
 have M_Machine_goals:∀ base,Mth P w K mg base C "goals" ["self","room","sign"] 1 (sp_mgoalsK K C):=fun base=>dM c.mc.cls T.f_Machine_goals S_Machine_goals (fun vs H Q E h=>by obtain ⟨_,_,_,_,_,_,_,_,rfl,_⟩:=h; rfl) (fun _ _ _ _ _ _ _ _ _ hr h=>⟨_,der_Machine_goals z.list hr,rd_mgoalsK c.mc h⟩) fun _ _ _ _ _ _ us hl=>match us,hl with | [_,_,_],_=>rfl
 have M_Machine_is_quiet:∀ base,Mth P w K mg base C "is_quiet" ["self","room"] 1 (sp_is_quiet C):=fun base=>dM c.mc.cls T.f_Machine_is_quiet S_Machine_is_quiet (fun vs H Q E h=>by obtain ⟨_,_,_,_,_,_,rfl,_⟩:=h; rfl) (fun _ _ _ _ _ _ _ _ _ hr h=>⟨_,der_Machine_is_quiet  hr,rd_is_quiet c.mc h⟩) fun _ _ _ _ _ _ us hl=>match us,hl with | [_,_],_=>rfl
 have D_add_still_steps:∀ base,Def P w K mg base "add_still_steps" ["M","steps"] 2 (sp_addStill K C):=fun base=>dG X G T.f_add_still_steps S_add_still_steps (fun vs H Q E h=>len_h h) (fun _ _ _ _ _ _ _ _ _ hr h=>⟨_,der_add_still_steps z.len (M_Machine_goals base) c.STILL z.list hr,rd_addStill (fun G=>dr_sign (c.still G)) h⟩) fun _ _ _ _ _ _ us hl=>match us,hl with | [_,_],_=>rfl
 have D_steps_by:∀ base,Def P w K mg base "steps_by" ["M","rooms","sign"] 2 (sp_stepsBy K C):=fun base=>dG X G T.f_steps_by S_steps_by (fun vs H Q E h=>len_h h) (fun _ _ _ _ _ _ _ _ _ hr h=>⟨_,der_steps_by c.HUSH (M_Machine_is_quiet base) (M_Machine_goals base) hr,rd_stepsBy (fun G=>dr_sign (c.hush G)) h⟩) fun _ _ _ _ _ _ us hl=>match us,hl with | [_,_,_],_=>rfl
 have D_steps_along:∀ base,Def P w K mg base "steps_along" ["M","story"] 3 (sp_stepsAlong K C):=fun base=>dG X G T.f_steps_along S_steps_along (fun vs H Q E h=>len_h h) (fun _ _ _ _ _ _ _ _ _ hr h=>⟨_,der_steps_along (D_add_still_steps base) (D_steps_by base) (M_Machine_rooms base) hr,rd_stepsAlong h⟩) fun _ _ _ _ _ _ us hl=>match us,hl with | [_,_],_=>rfl
 have D_walk_of:∀ base,Def P w K mg base "walk_of" ["M","story"] 4 (sp_walk_of K C):=fun base=>dG X G T.f_walk_of S_walk_of (fun vs H Q E h=>len_h h) (fun _ _ _ _ _ _ _ _ _ hr h=>⟨_,der_walk_of c.STILL z.list z.len (D_steps_along base) hr,rd_walk_of (fun G=>dr_sign (c.still G)) h⟩) fun _ _ _ _ _ _ us hl=>match us,hl with | [_,_],_=>rfl
 obtain ⟨f,a,t⟩:=T.f_law19
 obtain ⟨oc,od,an,sl,kV,dc,pm,cd,ct,l,c1,k1⟩:=t
 have F:=fun_mk (st:=s_law19) l c1 k1
 exact ⟨f,_,PySem.W.mg_of X G a,fun s v=>.of_eq rfl,fun base=>F.ok (k:=6) S_law19 (fun vs H Q E h=>by obtain ⟨_,_,rfl,_⟩:=h; rfl) (fun _ _ _ _ _ _ _ _ hr h=>⟨_,der_law19 (D_law_face base) (D_law_is_walked base) (D_walk_of base) z.list (D_law_odd base) (D_law_story base) (D_law_machine base) (D_law_model base) (D_law_open base) hr,rd_law19 (C:=C) h⟩)⟩
theorem all_mk {l:PySem.W.OpenLaw} {fa:Addr} {u_LETTERS:Value} {u_LONGEST_NAME:Value} {u_MOST_WORDS:Value} {u_MOST_ROOMS:Value} {u_MOST_DOORS:Value} {o_STILL:Obj} {i_STILL:Array Value} {n_STILL:Nat} {o_HUSH:Obj} {i_HUSH:Array Value} {n_HUSH:Nat} (X:K.In h) (G:h.Ns mainGlobals mg) (hfa:mg "law" = some (.ref fa))
  (aC:PySem.W.nsIn K mainGlobals "Machine" = some (some (.ref C)))
  (pg:PySem.W.plainGet K C Str.empty = true)
  (hd:PySem.W.hasDictIn K C = true)
  (po:PySem.W.plainOver K C = true)
  (sa:PySem.W.findIn K (.ref C) "__setattr__" = some (some (.builtin "object.__setattr__")))
  (mk:PySem.W.makesIn K C = true)
  (kc:PySem.W.keepIn K (.ref C) = true)
  (na1:PySem.W.findIn K (.ref C) "own_asks" = some none)
  (na2:PySem.W.findIn K (.ref C) "own_says" = some none)
  (na3:PySem.W.findIn K (.ref C) "own_rooms" = some none)
  (na4:PySem.W.findIn K (.ref C) "own_doors" = some none)
  (na5:PySem.W.findIn K (.ref C) "leaving" = some none)
  (na6:PySem.W.findIn K (.ref C) "quiet" = some none)
  (na7:PySem.W.findIn K (.ref C) "sign_goals" = some none)
  (na8:PySem.W.findIn K (.ref C) "still_led" = some none)
  (z_all:PySem.W.nsIn K mainGlobals "all" = some none)
  (z_dict:PySem.W.nsIn K mainGlobals "dict" = some none)
  (z_enumerate:PySem.W.nsIn K mainGlobals "enumerate" = some none)
  (z_isinstance:PySem.W.nsIn K mainGlobals "isinstance" = some none)
  (z_len:PySem.W.nsIn K mainGlobals "len" = some none)
  (z_list:PySem.W.nsIn K mainGlobals "list" = some none)
  (z_range:PySem.W.nsIn K mainGlobals "range" = some none)
  (z_tuple:PySem.W.nsIn K mainGlobals "tuple" = some none)
  (g_LETTERS:PySem.W.nsIn K mainGlobals "LETTERS" = some (some u_LETTERS))
  (r_LETTERS:RelV (.str "abcdefghijklmnopqrstuvwxyz") u_LETTERS)
  (g_LONGEST_NAME:PySem.W.nsIn K mainGlobals "LONGEST_NAME" = some (some u_LONGEST_NAME))
  (r_LONGEST_NAME:RelV (.int 8) u_LONGEST_NAME)
  (g_MOST_WORDS:PySem.W.nsIn K mainGlobals "MOST_WORDS" = some (some u_MOST_WORDS))
  (r_MOST_WORDS:RelV (.int 4) u_MOST_WORDS)
  (g_MOST_ROOMS:PySem.W.nsIn K mainGlobals "MOST_ROOMS" = some (some u_MOST_ROOMS))
  (r_MOST_ROOMS:RelV (.int 150) u_MOST_ROOMS)
  (g_MOST_DOORS:PySem.W.nsIn K mainGlobals "MOST_DOORS" = some (some u_MOST_DOORS))
  (r_MOST_DOORS:RelV (.int 2000) u_MOST_DOORS)
  (g_STILL:PySem.W.nsIn K mainGlobals "STILL" = some (some (.ref a_STILL)))
  (l_STILL:K.lookup a_STILL = some o_STILL)
  (c_STILL:o_STILL.cls = .type "tuple")
  (d_STILL:o_STILL.data = .seq i_STILL n_STILL)
  (s_STILL:i_STILL.size <= sizeLine)
  (v_STILL:Vals (stillSg.map V.str) i_STILL.toList)
  (g_HUSH:PySem.W.nsIn K mainGlobals "HUSH" = some (some (.ref a_HUSH)))
  (l_HUSH:K.lookup a_HUSH = some o_HUSH)
  (c_HUSH:o_HUSH.cls = .type "tuple")
  (d_HUSH:o_HUSH.data = .seq i_HUSH n_HUSH)
  (s_HUSH:i_HUSH.size <= sizeLine)
  (v_HUSH:Vals (hushSg.map V.str) i_HUSH.toList)
  (T:Ts K C)
 :∃ fd:FuncData,(∀ (s:Shared) (v:Value),BindsTo s fd ⟨[v],[]⟩ [("script",v)])/\∀ base:Heap,K.In base->base.Ns mainGlobals mg->FnOk l.prog w K mg base CX0 7 fa fd ["script"] (sp_law19 K):=by
 have z:Zs mg:=⟨PySem.W.mg_none_of X G z_all,PySem.W.mg_none_of X G z_dict,PySem.W.mg_none_of X G z_enumerate,PySem.W.mg_none_of X G z_isinstance,PySem.W.mg_none_of X G z_len,PySem.W.mg_none_of X G z_list,PySem.W.mg_none_of X G z_range,PySem.W.mg_none_of X G z_tuple⟩
 have c:Cs K mg C a_STILL a_HUSH:=⟨⟨_,PySem.W.mg_of X G g_LETTERS,r_LETTERS⟩,⟨_,PySem.W.mg_of X G g_LONGEST_NAME,r_LONGEST_NAME⟩,⟨_,PySem.W.mg_of X G g_MOST_WORDS,r_MOST_WORDS⟩,⟨_,PySem.W.mg_of X G g_MOST_ROOMS,r_MOST_ROOMS⟩,⟨_,PySem.W.mg_of X G g_MOST_DOORS,r_MOST_DOORS⟩,⟨_,PySem.W.mg_of X G g_STILL,rfl⟩,⟨_,PySem.W.mg_of X G g_HUSH,rfl⟩,tupT_mk l_STILL c_STILL d_STILL s_STILL v_STILL,tupT_mk l_HUSH c_HUSH d_HUSH s_HUSH v_HUSH,⟨⟨pg,hd,po,sa⟩,na1,na2,na3,na4,na5,na6,na7,na8⟩,PySem.W.mg_of X G aC,mk,kc⟩
 obtain ⟨f,fd,e,b,k⟩:=law_ok (P:=l.prog) (w:=w) X G z c T
 have e0:=hfa.symm.trans e
 cases e0
 exact ⟨fd,b,fun base _ _=>k base⟩
end
end Mum
def PySem.W.Fast.tw15954138595621538000:Nat:=0
def PySem.W.Fast.tw18016189462929339257:Nat:=0
def PySem.W.Fast.tw14696298303201172197:Nat:=0
def PySem.W.Fast.tw13200325048058031156:Nat:=0
def PySem.W.Fast.tw7008044959051445566:Nat:=0
def PySem.W.Fast.tw17156693258060468374:Nat:=0
def PySem.W.Fast.tw18310815610885570994:Nat:=0
def PySem.W.Fast.tw9090311865731899412:Nat:=0
def PySem.W.Fast.tw8262445671208539380:Nat:=0
def PySem.W.Fast.tw11101943270995052624:Nat:=0
def PySem.W.Fast.tw12478194203432044565:Nat:=0
def PySem.W.Fast.tw1773240661085409575:Nat:=0
def PySem.W.Fast.tw6521120650106951623:Nat:=0
def PySem.W.Fast.tw3185538288012831133:Nat:=0
def PySem.W.Fast.tw802728377122217436:Nat:=0
def PySem.W.Fast.tw3900902364254829392:Nat:=0
def PySem.W.Fast.tw293214104723817013:Nat:=0
def PySem.W.Fast.tw13954986965016995101:Nat:=0
def PySem.W.Fast.tw6591048658879359300:Nat:=0
def PySem.W.Fast.tw7429764258614730450:Nat:=0
def PySem.W.Fast.tw15734274370944339966:Nat:=0
def PySem.W.Fast.tw2086177316928504929:Nat:=0
def PySem.W.Fast.tw14793366705456678607:Nat:=0
def PySem.W.Fast.tw10917863592944206761:Nat:=0
def PySem.W.Fast.tw499052218131264462:Nat:=0
def PySem.W.Fast.tw16610653200316159720:Nat:=0
def PySem.W.Fast.tw13547682981999001124:Nat:=0
def PySem.W.Fast.tw6626434357153707541:Nat:=0
def PySem.W.Fast.tw9263581124226833668:Nat:=0
def PySem.W.Fast.tw11062878920472590900:Nat:=0
open PySem PySem.W PyProof.Rows
set_option maxRecDepth 100000 in
set_option maxHeartbeats 0 in
theorem PySem.Challenge.cw_mumtrial_k19_walks_told_holds : PySem.Challenge.rw_mumtrial_k19_walks_told.Holds := by
 w_on; o_law; k_head; (case hw=>w_witness2)
 k_fill
 refine L2.walk_ofK (l:=PySem.Challenge.rw_mumtrial_k19_walks_told) (n:=63) (k:=7) (x:="script") (CX:=L2.CX0) (sp:=Mum.sp_law19) rfl (by decide) rfl ⟨rfl,by decide,by decide⟩ (fun w h Y=>PySem.W.kIn_of Y) ?F (fun _ _ a ns hl _ hS=>⟨a,ns,rfl,hS,hl,fun _=>rfl⟩) (fun _ _ _ _ z=>z)
 case F =>
  intro w mg fa h KX G hmg
  refine' Mum.all_mk KX G hmg ?aC ?pg ?hd ?po ?sa ?mk ?kc ?na1 ?na2 ?na3 ?na4 ?na5 ?na6 ?na7 ?na8 ?z_all ?z_dict ?z_enumerate ?z_isinstance ?z_len ?z_list ?z_range ?z_tuple ?g_LETTERS ?r_LETTERS ?g_LONGEST_NAME ?r_LONGEST_NAME ?g_MOST_WORDS ?r_MOST_WORDS ?g_MOST_ROOMS ?r_MOST_ROOMS ?g_MOST_DOORS ?r_MOST_DOORS ?g_STILL ?l_STILL ?c_STILL ?d_STILL ?s_STILL ?v_STILL ?g_HUSH ?l_HUSH ?c_HUSH ?d_HUSH ?s_HUSH ?v_HUSH ?T
  (case aC=>k_is)
  (case pg=>k_is)
  (case hd=>k_is)
  (case po=>k_is)
  (case sa=>k_is)
  (case mk=>k_is)
  (case kc=>k_is)
  (case na1=>k_is)
  (case na2=>k_is)
  (case na3=>k_is)
  (case na4=>k_is)
  (case na5=>k_is)
  (case na6=>k_is)
  (case na7=>k_is)
  (case na8=>k_is)
  (case z_all=>k_is)
  (case z_dict=>k_is)
  (case z_enumerate=>k_is)
  (case z_isinstance=>k_is)
  (case z_len=>k_is)
  (case z_list=>k_is)
  (case z_range=>k_is)
  (case z_tuple=>k_is)
  (case g_LETTERS=>k_is)
  (case r_LETTERS=>exact ⟨_,rfl⟩)
  (case g_LONGEST_NAME=>k_is)
  (case r_LONGEST_NAME=>exact ⟨_,rfl⟩)
  (case g_MOST_WORDS=>k_is)
  (case r_MOST_WORDS=>exact ⟨_,rfl⟩)
  (case g_MOST_ROOMS=>k_is)
  (case r_MOST_ROOMS=>exact ⟨_,rfl⟩)
  (case g_MOST_DOORS=>k_is)
  (case r_MOST_DOORS=>exact ⟨_,rfl⟩)
  (case g_STILL=>k_is)
  (case l_STILL=>k_is)
  (case c_STILL=>rfl)
  (case d_STILL=>rfl)
  (case s_STILL=>decide)
  (case v_STILL=>exact .cons ⟨_,rfl⟩ .nil)
  (case g_HUSH=>k_is)
  (case l_HUSH=>k_is)
  (case c_HUSH=>rfl)
  (case d_HUSH=>rfl)
  (case s_HUSH=>decide)
  (case v_HUSH=>exact .cons ⟨_,rfl⟩ .nil)
  (case T=>constructor <;> first | (refine' Mum.fnG_mk ?a ?l ?c ?k; (case a=>k_is); (case l=>k_is); (case c=>k_is); (case k=>k_is)) | (refine' Mum.fnM_mk ?a ?i ?l ?c ?k; (case a=>k_is); (case i=>k_is); (case l=>k_is); (case c=>k_is); (case k=>k_is)))
