import PyProof.Rows.All
import Wide.All
import OpenK.AllK
import Wide.FinOn
import Lean
import PyProof.EqAt
import PyProof.EqKinds
import PyProof.TupleCall
import PyProof.NeKinds
import KE.KIntText
import KE.KDictList
import PyProof.Rows.SortWalk
import KE.KSortTup
import PySem.Challenge.RW_byexample_k34_no_examples
set_option Elab.async false
set_option linter.all false
set_option maxRecDepth 100000
noncomputable section
namespace L2
open PySem PySem.Spec PyProof.Rows
noncomputable abbrev Key:=Sum Int Str
noncomputable def keyIs:Key → Value → Bool
 | .inl k,v => Value.isInt k v
 | .inr x,v => Value.isStrOf x v
noncomputable def keyH (w:World):Key → Int
 | .inl k => hashInt k
 | .inr x => hashStr w x
theorem keyIs_shape:∀ {k:Key} {v:Value},keyIs k v = true → (∃ i t,k = Sum.inl i ∧ v = Value.int i t) ∨ (∃ x t,k = Sum.inr x ∧ v = Value.str x t)
 | .inl i,v,h => by
  obtain ⟨t,e⟩:=Value.isInt_shape (k:=i) (v:=v) h
  exact .inl ⟨i,t,rfl,e⟩
 | .inr x,v,h => by
  obtain ⟨t,e⟩:=Value.isStrOf_shape (x:=x) (v:=v) h
  exact .inr ⟨x,t,rfl,e⟩
theorem keyIs_int (i:Int) (t:Tok):keyIs (.inl i) (.int i t) = true:=by simp [keyIs,Value.isInt]
theorem keyIs_str (x:Str) (t:Tok):keyIs (.inr x) (.str x t) = true:=by simp [keyIs,Value.isStrOf]
theorem key_ll (a b:Int):decide ((Sum.inl a:Key) = Sum.inl b) = (a == b):=by
 by_cases e:a = b
 ·subst e; simp
 ·have h:¬ (Sum.inl a:Key) = Sum.inl b:=fun q => e (Sum.inl.inj q)
  rw [decide_eq_false h]
  exact (beq_eq_false_iff_ne.mpr e).symm
theorem key_rr (a b:Str):decide ((Sum.inr a:Key) = Sum.inr b) = decide (a = b):=by
 by_cases e:a = b
 ·subst e; simp
 ·have h:¬ (Sum.inr a:Key) = Sum.inr b:=fun q => e (Sum.inr.inj q)
  rw [decide_eq_false h,decide_eq_false e]
theorem key_lr (a:Int) (b:Str):decide ((Sum.inl a:Key) = Sum.inr b) = false:=decide_eq_false (fun q => nomatch q)
theorem key_rl (a:Str) (b:Int):decide ((Sum.inr a:Key) = Sum.inl b) = false:=decide_eq_false (fun q => nomatch q)
noncomputable def mixKind (prog:Program) (w:World):PySem.KeyKind prog w Key where
 is:=keyIs
 hash:=keyH w
 inj:=fun v a b ha hb => by
  rcases keyIs_shape ha with ⟨i,t,rfl,rfl⟩ | ⟨x,t,rfl,rfl⟩
  ·rcases keyIs_shape hb with ⟨j,u,rfl,e⟩ | ⟨y,u,rfl,e⟩
   ·injection e with e1 _; rw [e1]
   ·exact nomatch e
  ·rcases keyIs_shape hb with ⟨j,u,rfl,e⟩ | ⟨y,u,rfl,e⟩
   ·exact nomatch e
   ·injection e with e1 _; rw [e1]
 byValue:=fun k v h => by
  rcases keyIs_shape h with ⟨i,t,rfl,rfl⟩ | ⟨x,t,rfl,rfl⟩ <;> rfl
 pyHash:=fun hv h => by
  rcases keyIs_shape hv with ⟨i,t,rfl,rfl⟩ | ⟨x,t,rfl,rfl⟩
  ·exact wpAny_pyHash_int h
  ·exact wpAny_pyHash_str h
 eqBool:=fun hu hv h => by
  rcases keyIs_shape hu with ⟨i,t,rfl,rfl⟩ | ⟨x,t,rfl,rfl⟩
  ·rcases keyIs_shape hv with ⟨j,u,rfl,rfl⟩ | ⟨y,u,rfl,rfl⟩
   ·rw [key_ll] at h; exact wpAny_eqBool_int h
   ·rw [key_lr] at h; exact SeqAt.EqAt.int_str i t y u _ _ _ _ h
  ·rcases keyIs_shape hv with ⟨j,u,rfl,rfl⟩ | ⟨y,u,rfl,rfl⟩
   ·rw [key_rl] at h; exact SeqAt.EqAt.str_int x t j u _ _ _ _ h
   ·rw [key_rr] at h; exact wpAny_eqBool_str h
 «strs»:=fun k x t v h => by
  rcases keyIs_shape h with ⟨i,u,rfl,e⟩ | ⟨y,u,rfl,e⟩
  ·exact nomatch e
  ·injection e with e1 _
   subst e1
   cases v <;> rfl
end L2
namespace L2
open PySem PySem.Spec PyProof.Rows
inductive V where
 | non | bl (b:Bool) | int (i:Int) | str (x:Str) | byt (b:Array UInt8) | flt (b:UInt64) | ref (a:Addr) | ty (n:String)
 deriving DecidableEq
noncomputable def RelV:V → Value → Prop
 | .non,u => u = Value.none
 | .bl b,u => u = Value.bool b
 | .int i,u => ∃ t,u = Value.int i t
 | .str x,u => ∃ t,u = Value.str x t
 | .byt b,u => ∃ t,u = Value.bytes b t
 | .flt b,u => ∃ t,u = Value.float b t
 | .ref a,u => u = Value.ref a
 | .ty n,u => u = Value.type n
noncomputable abbrev Vals:List V → List Value → Prop:=Paired RelV
theorem Vals.length {xs:List V} {us:List Value} (r:Vals xs us):xs.length = us.length:=Paired.length r
theorem Vals.get:∀ {xs:List V} {us:List Value} {i:Nat} {x:V},Vals xs us → xs[i]? = some x → ∃ u,us[i]? = some u ∧ RelV x u
 | _,_,_,_,.nil,e => by simp at e
 | _,_,0,_,.cons r _,e => by simp at e; subst e; exact ⟨_,rfl,r⟩
 | _,_,i + 1,x,.cons _ t,e => by
  obtain ⟨u,h1,h2⟩:=Vals.get (i:=i) (x:=x) t (by simpa using e)
  exact ⟨u,by simpa using h1,h2⟩
theorem Vals.set {x:V} {u:Value} (r:RelV x u):∀ {xs:List V} {us:List Value} (i:Nat),Vals xs us → Vals (xs.set i x) (us.set i u)
 | _,_,_,.nil => .nil
 | _,_,0,.cons _ t => .cons r t
 | _,_,i + 1,.cons q t => .cons q (Vals.set r i t)
theorem Vals.append:∀ {xs ys:List V} {us ws:List Value},Vals xs us → Vals ys ws → Vals (xs ++ ys) (us ++ ws)
 | _,_,_,_,.nil,s => s
 | _,_,_,_,.cons r t,s => .cons r (Vals.append t s)
theorem Vals.take:∀ {xs:List V} {us:List Value} (n:Nat),Vals xs us → Vals (xs.take n) (us.take n)
 | _,_,0,_ => .nil
 | _,_,_ + 1,.nil => .nil
 | _,_,n + 1,.cons r t => .cons r (Vals.take n t)
theorem Vals.drop:∀ {xs:List V} {us:List Value} (n:Nat),Vals xs us → Vals (xs.drop n) (us.drop n)
 | _,_,0,r => r
 | _,_,_ + 1,.nil => .nil
 | _,_,n + 1,.cons _ t => Vals.drop n t
noncomputable def RelO:Option V → Option Value → Prop
 | some v,some u => RelV v u
 | none,none => True
 | _,_ => False
noncomputable def KV {κ:Type}:List (κ × V) → List (κ × Value) → Prop:=Paired fun (p:κ × V) (q:κ × Value) => p.1 = q.1 ∧ RelV p.2 q.2
noncomputable def kV:Key → V
 | .inl i => .int i
 | .inr x => .str x
noncomputable def Hashes (M:Model) (A:Around) (h:Heap) (v:Value) (q:Int × Nat):Prop:=∀ (E:Value → Shared → Prop) (s:Shared) (Q:Int → Shared → Prop),s.heap = h → Q q.1 { s with toks:=s.toks + q.2 } → wpAny M A (pyHash v) Q E s
section
variable {prog:Program} {w:World} {A:Around} {E:Value → Shared → Prop} {s:Shared}
theorem tuple_hashes {a:Addr} {its:List Value} {qs:List (Int × Nat)} (hu:A.units < cLine) (t:s.heap.IsTuple a its.toArray) (each:Paired (Hashes (model prog w) A.in1 s.heap) its qs) :
  Hashes (model prog w) A s.heap (.ref a) (reduceHash (Builtin.Tuple.tupleHashOf (qs.map (·.1))),(qs.map (·.2)).sum + 1):=fun E s' Q e0 fin => by
 have ty:s'.TypeIs (.ref a) "tuple":=by obtain ⟨o,g,c,_⟩:=t; exact ⟨o,by rw [e0]; exact g,c⟩
 have own:∀ {R:Value → Shared → Prop} {F:Value → Shared → Prop},R (.int (Builtin.Tuple.tupleHashOf (qs.map (·.1))) (s'.toks + (qs.map (·.2)).sum)) { s' with toks:=s'.toks + (qs.map (·.2)).sum + 1 } → wpAny (model prog w) A.in1 (Builtin.«tuple.__hash__» ⟨[.ref a],[]⟩) (fun fi s2 => ∃ v,fi = PySem.Fin.done (Flow.ret v) ∧ R v s2) F s':=fun {R F} k => by
  obtain ⟨o,g,_,n,dat⟩:=t
  show wpAny _ _ (Builtin.Tuple.tupleItemsOf (.ref a) >>= _) _ F s'
  refine wpAny_bind (wpAny_tupleItemsOf (by rw [e0]; exact g) dat (wpAny_bind ?_))
  have walk:∀ {l:List Value} {m:List (Int × Nat)} (p:Paired (Hashes (model prog w) A.in1 s.heap) l m) (acc:Array Int) (u:Nat) {G:Array Int → Shared → Prop},
    G (acc ++ (m.map (·.1)).toArray) { s' with toks:=u + (m.map (·.2)).sum } → wpAny (model prog w) A.in1 (forIn l acc fun x hs => do let __do_lift ← pyHash x; pure (ForInStep.yield (hs.push __do_lift))) G F { s' with toks:=u }:=by
   intro l m p
   induction p with
   | nil => intro acc u G hG; exact wpAny_pure (by simpa using hG)
   | @cons x q l m hx _ ih =>
    intro acc u G hG
    rw [List.forIn_cons]
    refine wpAny_bind (wpAny_bind (hx F { s' with toks:=u } _ e0 (wpAny_pure ?_)))
    refine ih (acc.push q.1) (u + q.2) ?_
    simpa [Nat.add_assoc] using hG
  have go:=walk each #[] s'.toks (G:=fun b s2 => wpAny (model prog w) A.in1 (retInt (Builtin.Tuple.tupleHashOf b.toList)) (fun fi s2 => ∃ v,fi = PySem.Fin.done (Flow.ret v) ∧ R v s2) F s2) (by
   have e9:((#[]:Array Int) ++ (qs.map (·.1)).toArray).toList = qs.map (·.1):=by simp
   rw [e9]
   refine wpAny_ret_mkInt ?_
   exact k)
  simpa using go
 have turn:∀ {i:Int} {u:Nat},Q (reduceHash i) { s' with toks:=u } → wpAny (model prog w) A (pyHashByItsType.reduced i) Q E { s' with toks:=u }:=fun {i u} hQ => by
  unfold reduceHash at hQ
  show wpAny _ _ (if (decide (-(2:Int) ^ 63 ≤ i) && decide (i < 2 ^ 63)) = true then _ else _) Q E _
  split at hQ
  ·rename_i c; rw [if_pos c]; exact wpAny_pure hQ
  ·rename_i c; rw [if_neg c]; exact wpAny_bind (wpAny_rule (wpAny_pure hQ))
 have look:=PySem.F.slot_tuple_hash
 unfold pyHash pyHashByItsType
 refine wpAny_bind (wpAny_cRoomFor_or (.inr hu) (wpAny_bind (wpAny_specialOf ty look.lookup ?_)))
 refine iteN (wpAny_bind (wpAny_specialOf ty look.lookup (wpAny_bind (wpAny_callSpecialIfBoundUnlessNone?_slot ty look (wpAny_call_entry look ty PySem.F.entry_tuple_hash (own (turn (by simpa [Nat.add_assoc] using fin))) (PySem.F.args_tuple_hash_1 _))))))
where
 iteN {α:Type} {M:Model} {A:Around} {x y:Sem α} {Q:α → Shared → Prop} {E:Value → Shared → Prop} {s:Shared} {id:String} (h:wpAny M A y Q E s):wpAny M A (if (some (Value.builtin id) == some Value.none) = true then x else y) Q E s:=by
  rw [if_neg (by rw [beq_builtin_none]; simp)]; exact h
theorem all_alike {α:Type} [DecidableEq α] (x y:List α):((List.range (min x.length y.length)).all (fun j => decide (x[j]? = y[j]?)) && x.length == y.length) = decide (x = y):=by
 by_cases h:x = y
 ·subst h; simp
 ·rw [decide_eq_false h]
  by_cases hl:x.length = y.length
  ·rw [Bool.and_eq_false_iff]; left
   rw [Bool.eq_false_iff]; intro ha
   refine h (List.ext_getElem? fun j => ?_)
   by_cases hj:j < x.length
   ·exact of_decide_eq_true (List.all_eq_true.mp ha j (List.mem_range.mpr (by omega)))
   ·rw [List.getElem?_eq_none (by omega),List.getElem?_eq_none (by omega)]
  ·simp [hl]
theorem Paired.both {α β:Type} {R:α → β → Prop}:∀ {l:List α} {m:List β} {j:Nat} (h:j < m.length),Paired R l m → ∃ a,l[j]? = some a ∧ R a m[j]
 | _,_,0,_,.cons r _ => ⟨_,rfl,r⟩
 | _,_,j + 1,h,.cons _ t => by
  obtain ⟨a,e,r⟩:=Paired.both (j:=j) (by simpa using h) t
  exact ⟨a,by simpa using e,by simpa using r⟩
theorem Paired.one {α β:Type} {R:α → β → Prop} (inj:∀ a a' b,R a b → R a' b → a = a'):∀ {l l':List α} {m:List β},Paired R l m → Paired R l' m → l = l'
 | _,_,_,.nil,p => by cases p; rfl
 | _,_,_,.cons r t,p => by
  cases p with
  | cons r' t' => rw [inj _ _ _ r r',Paired.one inj t t']
theorem tuples_eq {α:Type} [DecidableEq α] {R:α → Value → Prop} {a b:Addr} {x y:List α} {us vs:List Value} (hu:A.units < cLine) (inj:∀ k k' u,R k u → R k' u → k = k') (each:∀ k k' u v,R k u → R k' v → SeqAt.EqAt A.in1 s u v (decide (k = k')))
  (ta:s.heap.IsTuple a us.toArray) (tb:s.heap.IsTuple b vs.toArray) (px:Paired R x us) (py:Paired R y vs):SeqAt.EqAt A s (.ref a) (.ref b) (decide (x = y)):=by
 by_cases ab:a = b
 ·subst ab
  obtain ⟨o,g,_,n,dd⟩:=ta
  obtain ⟨o',g',_,n',dd'⟩:=tb
  rw [g] at g'; cases g'
  rw [dd] at dd'; cases dd'
  rw [Paired.one inj px py,decide_eq_true rfl]
  exact .same _
 ·refine .of_refs ab ?_
  have rc:=SeqAt.RcAt.tuples (e:=fun j => decide (x[j]? = y[j]?)) ta tb hu fun j h1 h2 => by
   obtain ⟨k,ek,rk⟩:=Paired.both (j:=j) (by simpa using h1) px
   obtain ⟨k',ek',rk'⟩:=Paired.both (j:=j) (by simpa using h2) py
   rw [ek,ek',show decide (some k = some k') = decide (k = k') from decide_eq_decide.mpr (by simp)]
   exact each k k' _ _ (by simpa using rk) (by simpa using rk')
  rw [List.size_toArray,List.size_toArray,← Paired.length px,← Paired.length py,all_alike] at rc
  exact rc
theorem tuple_quiet {M:Model} {n:Nat} {a:Addr} {its:List Value} {Q:Bool → Shared → Prop} (t:s.heap.IsTuple a its.toArray) (each:∀ v ∈ its,∀ (G:Bool → Shared → Prop),G true s → wpAny M A (eqIsQuiet n v) G E s) (h:Q true s):wpAny M A (eqIsQuiet (n + 1) (.ref a)) Q E s:=by
 obtain ⟨o,g,c,m,dd⟩:=t
 have ty:s.TypeIs (.ref a) "tuple":=⟨o,g,c⟩
 have walk:∀ l:List Value,(∀ v ∈ l,v ∈ its) → wpAny M A (forIn l ((none:Option Bool),PUnit.unit) fun y _ => do let __do_lift ← eqIsQuiet n y; if (!__do_lift) = true then pure (ForInStep.done (some false,PUnit.unit)) else pure (ForInStep.yield (none,PUnit.unit)))
   (fun r s2 => r.1 = none ∧ s2 = s) E s:=by
  intro l
  induction l with
  | nil => intro _; exact wpAny_pure ⟨rfl,rfl⟩
  | cons v l ih =>
   intro hl
   rw [List.forIn_cons]
   refine wpAny_bind (wpAny_bind (each v (hl v (by simp)) _ (iteF (by decide) (wpAny_pure (ih fun z hz => hl z (by simp [hz]))))))
 unfold eqIsQuiet
 refine wpAny_bind (wpAny_specialOf ty PySem.F.slot_tuple_eq.lookup ?_)
 show wpAny M A (isInstance (.ref a) (.type "tuple") >>= _) Q E s
 refine wpAny_bind (wpAny_isInstance ty isSubtype_tuple_tuple (iteF (by decide) (wpAny_bind (wpAny_seqItems g dd (wpAny_bind ?_)))))
 have w0:=walk its fun _ z => z
 show wpAny M A (forIn its.toArray _ _) _ E s
 rw [List.forIn_toArray]
 refine wpAny_mono w0 (fun r s2 ⟨e1,e2⟩ => ?_) fun _ _ z => z
 rw [e2]
 simp only [e1]
 exact wpAny_pure h
where
 iteF {α:Type} {M:Model} {A:Around} {x y:Sem α} {Q:α → Shared → Prop} {E:Value → Shared → Prop} {s:Shared} {c:Prop} [Decidable c] (hc:¬ c) (h:wpAny M A y Q E s):wpAny M A (if c then x else y) Q E s:=by
  rw [if_neg hc]; exact h
end
noncomputable abbrev NK:=List (Key ⊕ List Key)
noncomputable def KLeaf (k:Key) (v:Value):Prop:=keyIs k v = true
noncomputable def KItem (h:Heap):Key ⊕ List Key → Value → Prop
 | .inl k,v => KLeaf k v
 | .inr ks,v => ∃ b its,v = .ref b ∧ h.IsTuple b its.toArray ∧ Paired KLeaf ks its
noncomputable def KeyIs (h:Heap) (k:NK) (a:Addr):Prop:=∃ its,h.IsTuple a its.toArray ∧ Paired (KItem h) k its
noncomputable def hashN (w:World):Key ⊕ List Key → Int × Nat
 | .inl k => (keyH w k,1)
 | .inr ks => (reduceHash (Builtin.Tuple.tupleHashOf ((ks.map fun k => (keyH w k,1)).map (·.1))),((ks.map fun k => (keyH w k,1)).map (·.2)).sum + 1)
section
variable {prog:Program} {w:World} {A:Around} {E:Value → Shared → Prop} {s:Shared} {h:Heap}
theorem KLeaf.inj {k k':Key} {u:Value} (x:KLeaf k u) (y:KLeaf k' u):k = k':=by
 rcases keyIs_shape x with ⟨_,_,rfl,rfl⟩ | ⟨_,_,rfl,rfl⟩ <;> rcases keyIs_shape y with ⟨_,_,rfl,e⟩ | ⟨_,_,rfl,e⟩ <;> cases e <;> rfl
theorem IsTuple.same {a:Addr} {us vs:List Value} (x:h.IsTuple a us.toArray) (y:h.IsTuple a vs.toArray):us = vs:=by
 obtain ⟨o,g,_,n,dd⟩:=x
 obtain ⟨o',g',_,n',dd'⟩:=y
 rw [g] at g'; cases g'
 rw [dd] at dd'; cases dd'
 rfl
theorem KLeaf.noRef {k:Key} {a:Addr} (x:KLeaf k (.ref a)):False:=by
 rcases keyIs_shape x with ⟨_,_,_,e⟩ | ⟨_,_,_,e⟩ <;> cases e
theorem KItem.inj {k k':Key ⊕ List Key} {u:Value} (x:KItem h k u) (y:KItem h k' u):k = k':=by
 cases k with
 | inl k =>
  cases k' with
  | inl k' => rw [KLeaf.inj x y]
  | inr ks => obtain ⟨b,_,rfl,_⟩:=y; exact x.noRef.elim
 | inr ks =>
  obtain ⟨b,its,rfl,t,p⟩:=x
  cases k' with
  | inl k' => exact (KLeaf.noRef y).elim
  | inr ks' =>
   obtain ⟨b',its',e,t',p'⟩:=y
   cases e
   rw [IsTuple.same t t'] at p
   rw [Paired.one (R:=KLeaf) (fun _ _ _ a b => a.inj b) p p']
theorem leaf_eq {k k':Key} {u v:Value} (x:KLeaf k u) (y:KLeaf k' v):SeqAt.EqAt A s u v (decide (k = k')):=fun prog w E Q hQ => (mixKind prog w).eqBool x y hQ
theorem item_eqAt {k k':Key ⊕ List Key} {u v:Value} (hu:A.units < cLine) (x:KItem s.heap k u) (y:KItem s.heap k' v):SeqAt.EqAt A s u v (decide (k = k')):=by
 cases k with
 | inl k =>
  cases k' with
  | inl k' =>
   rw [show decide ((Sum.inl k:Key ⊕ List Key) = Sum.inl k') = decide (k = k') from decide_eq_decide.mpr (by simp)]
   exact leaf_eq x y
  | inr ks =>
   obtain ⟨b,its,rfl,t,p⟩:=y
   rw [decide_eq_false (by simp)]
   rcases keyIs_shape x with ⟨i,t',rfl,rfl⟩ | ⟨z,t',rfl,rfl⟩
   ·exact .int_tuple i t' t hu
   ·exact .str_tuple z t' t hu
 | inr ks =>
  obtain ⟨a,its,rfl,t,p⟩:=x
  cases k' with
  | inl k' =>
   rw [decide_eq_false (by simp)]
   rcases keyIs_shape y with ⟨i,t',rfl,rfl⟩ | ⟨z,t',rfl,rfl⟩
   ·exact .tuple_int i t' t hu
   ·exact .tuple_str z t' t hu
  | inr ks' =>
   obtain ⟨b,its',rfl,t',p'⟩:=y
   rw [show decide ((Sum.inr ks:Key ⊕ List Key) = Sum.inr ks') = decide (ks = ks') from decide_eq_decide.mpr (by simp)]
   exact tuples_eq (R:=KLeaf) hu (fun _ _ _ a b => a.inj b) (fun _ _ _ _ a b => leaf_eq a b) t t' p p'
theorem leaf_hash {k:Key} {v:Value} (x:KLeaf k v):Hashes (model prog w) A h v (keyH w k,1):=fun E s Q _ hQ => (mixKind prog w).pyHash x hQ
theorem leaves_hash:∀ {ks:List Key} {vs:List Value},Paired KLeaf ks vs → Paired (Hashes (model prog w) A h) vs (ks.map fun k => (keyH w k,1))
 | _,_,.nil => .nil
 | _,_,.cons x t => .cons (leaf_hash x) (leaves_hash t)
theorem items_hash (hu:A.units < cLine):∀ {ks:NK} {vs:List Value},Paired (KItem s.heap) ks vs → Paired (Hashes (model prog w) A s.heap) vs (ks.map (hashN w))
 | _,_,.nil => .nil
 | .inl k :: _,_,.cons x t => .cons (leaf_hash x) (items_hash hu t)
 | .inr ks :: _,_,.cons x t => by
  obtain ⟨b,its,rfl,tb,p⟩:=x
  exact .cons (tuple_hashes hu tb (leaves_hash p)) (items_hash hu t)
theorem leaves_quiet {M:Model} {n:Nat} {ks:List Key} {vs:List Value} (p:Paired KLeaf ks vs):∀ v ∈ vs,∀ (G:Bool → Shared → Prop),G true s → wpAny M A (eqIsQuiet n v) G E s:=by
 induction p with
 | nil => intro v hv; cases hv
 | cons x _ ih =>
  intro v hv G hG
  rcases List.mem_cons.mp hv with e | hv
  ·subst e
   have:eqIsQuiet n v = pure true:=by rcases keyIs_shape x with ⟨_,_,_,rfl⟩ | ⟨_,_,_,rfl⟩ <;> (unfold eqIsQuiet; rfl)
   rw [this]; exact wpAny_pure hG
  ·exact ih v hv G hG
theorem items_quiet {M:Model} {n:Nat} {ks:NK} {vs:List Value} (p:Paired (KItem s.heap) ks vs):∀ v ∈ vs,∀ (G:Bool → Shared → Prop),G true s → wpAny M A (eqIsQuiet (n + 1) v) G E s:=by
 induction p with
 | nil => intro v hv; cases hv
 | @cons k u _ _ x _ ih =>
  intro v hv G hG
  rcases List.mem_cons.mp hv with e | hv
  ·subst e
   cases k with
   | inl k => exact leaves_quiet (ks:=[k]) (vs:=[v]) (.cons x .nil) v (by simp) G hG
   | inr ks =>
    obtain ⟨b,its,rfl,tb,p⟩:=x
    exact tuple_quiet tb (leaves_quiet p) hG
  ·exact ih v hv G hG
theorem IsTuple.other {h':Heap} {a d:Addr} {its:Array Value} {o:Obj} {es:Array DictEntry} {ep:Nat} (x:h.IsTuple a its) (ho:h.get? d = some o) (hd:o.data = .dict es ep) (hs:Heap.SameBut d h h'):h'.IsTuple a its:=by
 obtain ⟨o',g,c,n,dd⟩:=x
 have ne:a ≠ d:=fun e => by subst e; rw [g] at ho; cases ho; rw [dd] at hd; cases hd
 exact ⟨o',(hs.2 a ne).trans g,c,n,dd⟩
theorem Paired.to {α β:Type} {F G:α → β → Prop}:∀ {l₁:List α} {l₂:List β},Paired F l₁ l₂ → (∀ a b,F a b → G a b) → Paired G l₁ l₂
 | _,_,.nil,_ => .nil
 | _,_,.cons r t,f => .cons (f _ _ r) (Paired.to t f)
end
noncomputable def key2Kind (prog:Program) (w:World):HeapKind prog w NK where
 is:=KeyIs
 hash:=fun k => reduceHash (Builtin.Tuple.tupleHashOf ((k.map (hashN w)).map (·.1)))
 draws:=fun k => ((k.map (hashN w)).map (·.2)).sum + 1
 room:=fun A => A.units + 1 < cLine
 inj:=fun z0_ z1_ => by
  obtain ⟨_,t,p⟩:=z0_
  obtain ⟨_,t',p'⟩:=z1_
  rw [IsTuple.same t t'] at p
  exact Paired.one (R:=KItem _) (fun _ _ _ a b => a.inj b) p p'
 keeps:=fun ⟨its,t,p⟩ ho hd hs => ⟨its,IsTuple.other t ho hd hs,Paired.to p fun k v x => by
  cases k with
  | inl k => exact x
  | inr ks => obtain ⟨b,l,e,tb,q⟩:=x; exact ⟨b,l,e,IsTuple.other tb ho hd hs,q⟩⟩
 pyHash:=fun hu ⟨_,t,p⟩ hQ => tuple_hashes (Nat.lt_of_succ_lt hu) t (items_hash hu p) _ _ _ rfl hQ
 eqBool:=fun hu ⟨_,t,p⟩ ⟨_,t',p'⟩ hQ => tuples_eq (R:=KItem _) (Nat.lt_of_succ_lt hu) (fun _ _ _ a b => a.inj b) (fun _ _ _ _ a b => item_eqAt hu a b) t t' p p' _ _ _ _ hQ
 quiet:=fun ⟨_,t,p⟩ hQ => tuple_quiet t (items_quiet p) hQ
inductive HO where
 /-- a list -/
 | lst (xs:List V)
 /-- a tuple (never changes) -/
 | tup (xs:List V)
 /-- a dict whose keys are ints and texts; one whose keys are tuples of ints and texts (the empty one is both) -/
 | dK (kvs:List (Key × V)) | dT (kvs:List (List Key × V))
 /-- a dict whose keys are tuples: each key,its address,the value; how often its keys have changed -/
 | dN (kvs:List (NK × Addr × V)) (ep:Nat)
 /-- a set of ints: its members,its size -/
 | set (S:Int → Bool) (n:Nat)
 /-- an instance of the class at C,its dict at dx,its attributes -/
 | ins (C dx:Addr) (fs:List (Str × V))
 /-- the dict of the instance at x -/
 | own (x:Addr)
 /-- the dict of an exception -/
 | xd (fs:List (Str × V))
 /-- a bound method,f of x -/
 | met (f x:Addr)
 /-- a range object lo,lo + 1,.. below hi -/
 | rng (lo hi:Int)
 /-- a thing that is known to the object (the script; a dict while a loop walks it): read,never written while it is so -/
 | frz (o:Obj) (u:HO)
 /-- a code object's table -/
 | tbl (ps:Array Value)
 /-- any other thing,by what is true of its one object (a def of one's own: SetO a S n:=HO.ext fun h => ..) -/
 | ext (φ:Heap → Prop)
noncomputable abbrev Hp:=Addr → Option HO
noncomputable def upd (H:Hp) (a:Addr) (o:HO):Hp:=fun b => if b = a then some o else H b
theorem upd_same {H:Hp} {a:Addr} {o:HO}:upd H a o a = some o:=by unfold upd; rw [if_pos rfl]
theorem upd_ne {H:Hp} {a b:Addr} {o:HO} (h:b ≠ a):upd H a o b = H b:=by unfold upd; rw [if_neg h]
theorem ne_of_none {H:Hp} {a b:Addr} {o:HO} (h:H a = some o) (h':H b = none):a ≠ b:=by
 intro e; subst e; rw [h] at h'; cases h'
section
variable (P:Program) (w:World)
noncomputable def ObjOk (H:Hp) (h:Heap) (a:Addr):HO → Prop
 | .lst xs => xs.length ≤ sizeLine ∧ ∃ (its:List Value) (n:Nat),Vals xs its ∧ h.get? a = some { cls:=.type "list",data:=.seq its.toArray n }
 | .tup xs => xs.length ≤ sizeLine ∧ ∃ its:List Value,Vals xs its ∧ IsTup h a its.toArray
 | .dK kvs => kvs.length ≤ sizeLine ∧ (a == sysModules) = false ∧ ∃ vs,KV kvs vs ∧ h.DictOf (mixKind P w) a vs
 | .dT kvs => kvs.length ≤ sizeLine ∧ (a == sysModules) = false ∧ ∃ xs:List (List Key × Addr × Value),
   Paired (fun (p:List Key × V) (q:List Key × Addr × Value) => p.1 = q.1 ∧ H q.2.1 = some (.tup (p.1.map kV)) ∧ RelV p.2 q.2.2) kvs xs ∧
   ∃ o es ep,h.get? a = some o ∧ o.ExactDict ∧ o.data = .dict es ep ∧ es.toList = xs.map (entryOfKey (tupleKind (mixKind P w))) ∧ (xs.map (·.1)).Nodup
 | .dN kvs ep => kvs.length ≤ sizeLine ∧ (a == sysModules) = false ∧ ∃ xs:List (NK × Addr × Value),
   Paired (fun (p:NK × Addr × V) (q:NK × Addr × Value) => p.1 = q.1 ∧ p.2.1 = q.2.1 ∧ RelV p.2.2 q.2.2) kvs xs ∧
   ∃ o es,h.get? a = some o ∧ o.ExactDict ∧ o.data = .dict es ep ∧ es.toList = xs.map (entryOfKey (key2Kind P w)) ∧ (xs.map (·.1)).Nodup
 | .set S n => h.SetOf (intKind P w) a S n
 | .ins C dx fs => H dx = some (.own a) ∧ fs.length ≤ 1000 ∧ dx ≠ a ∧ h.get? a = some (PySem.W.instObj C dx) ∧
   ∃ mA,h.Ns1 dx mA ∧ (∀ f,RelO (fs.lookup f) (mA f)) ∧ PySem.Within mA (fs.map (·.1))
 | .own _ => ∃ o,h.get? a = some o
 | .xd fs => ∃ mA,h.Ns1 a mA ∧ ∀ f,RelO (fs.lookup f) (mA f)
 | .rng lo hi => ∃ t u v,h.get? a = some { cls:=.type "range",data:=.fields #[.int lo t,.int hi u,.int 1 v] }
 | .frz o u => h.get? a = some o ∧ ObjOk H h a u
 | .tbl ps => h.get? a = some { cls:=.none,data:=.fields ps }
 | .met f x => h.get? a = some (PySem.W.methodObj (.ref f) (.ref x))
 | .ext φ => φ h ∧ (∃ o,h.get? a = some o) ∧ ∀ h1 h2:Heap,φ h1 → (∀ o,h1.get? a = some o → h2.get? a = some o) → φ h2
noncomputable def HOk (H:Hp) (h:Heap):Prop:=∀ a o,H a = some o → ObjOk P w H h a o
end
section
variable {P:Program} {w:World} {H H':Hp} {h h':Heap} {a:Addr} {o:HO}
theorem ObjOk.lt (x:ObjOk P w H h a o):a < h.objs.size:=by
 cases o with
 | lst xs => obtain ⟨_,_,_,_,e⟩:=x; exact Heap.lt_size e
 | tup xs => obtain ⟨_,_,_,p⟩:=x; exact p.lt
 | dK kvs => obtain ⟨_,_,_,_,o,_,_,e,_⟩:=x; exact Heap.lt_size e
 | dT kvs => obtain ⟨_,_,_,_,o,_,_,e,_⟩:=x; exact Heap.lt_size e
 | dN kvs ep => obtain ⟨_,_,_,_,o,_,e,_⟩:=x; exact Heap.lt_size e
 | set S n => obtain ⟨o,_,_,_,e,_⟩:=x; exact Heap.lt_size e
 | ins C dx fs => obtain ⟨_,_,_,e,_⟩:=x; exact Heap.lt_size e
 | own y => obtain ⟨_,e⟩:=x; exact Heap.lt_size e
 | xd fs => obtain ⟨_,⟨_,_,_,e,_⟩,_⟩:=x; exact Heap.lt_size e
 | rng lo hi => obtain ⟨_,_,_,e⟩:=x; exact Heap.lt_size e
 | frz ob u => obtain ⟨e,_⟩:=x; exact Heap.lt_size e
 | tbl ps => exact Heap.lt_size (show h.get? a = some _ from x)
 | met f y => exact Heap.lt_size (show h.get? a = some _ from x)
 | ext φ => obtain ⟨_,⟨_,e⟩,_⟩:=x; exact Heap.lt_size e
theorem Paired.mapP {α β:Type} {F G:α → β → Prop}:∀ {l₁:List α} {l₂:List β},Paired F l₁ l₂ → (∀ a b,F a b → G a b) → Paired G l₁ l₂
 | _,_,.nil,_ => .nil
 | _,_,.cons r t,f => .cons (f _ _ r) (Paired.mapP t f)
theorem ObjOk.stay (x:ObjOk P w H h a o) (k:∀ b u,(b = a ∨ H b = some (.own a)) → h.get? b = some u → h'.get? b = some u)
  (ho:∀ b,H b = some (.own a) → H' b = some (.own a)) (ht:∀ b xs,H b = some (.tup xs) → H' b = some (.tup xs)):ObjOk P w H' h' a o:=by
 induction o with
 | lst xs => obtain ⟨z,its,n,r,e⟩:=x; exact ⟨z,its,n,r,k _ _ (.inl rfl) e⟩
 | tup xs => obtain ⟨z,its,r,ob,e,c⟩:=x; exact ⟨z,its,r,ob,k _ _ (.inl rfl) e,c⟩
 | dK kvs => obtain ⟨z,y,vs,r,ob,es,ep,e,c⟩:=x; exact ⟨z,y,vs,r,ob,es,ep,k _ _ (.inl rfl) e,c⟩
 | dT kvs =>
  obtain ⟨z,y,xs,r,ob,es,ep,e,c⟩:=x
  exact ⟨z,y,xs,Paired.mapP r fun p q z => ⟨z.1,ht _ _ z.2.1,z.2.2⟩,ob,es,ep,k _ _ (.inl rfl) e,c⟩
 | dN kvs ep => obtain ⟨z,y,xs,r,ob,es,e,c⟩:=x; exact ⟨z,y,xs,r,ob,es,k _ _ (.inl rfl) e,c⟩
 | set S n => obtain ⟨ob,es,ep,t,e,c⟩:=x; exact ⟨ob,es,ep,t,k _ _ (.inl rfl) e,c⟩
 | ins C dx fs =>
  obtain ⟨d,z,ne,e,mA,⟨od,es,ep,e2,c⟩,r⟩:=x
  exact ⟨ho _ d,z,ne,k _ _ (.inl rfl) e,mA,⟨od,es,ep,k _ _ (.inr d) e2,c⟩,r⟩
 | own y => obtain ⟨ob,e⟩:=x; exact ⟨ob,k _ _ (.inl rfl) e⟩
 | xd fs => obtain ⟨mA,⟨od,es,ep,e,c⟩,r⟩:=x; exact ⟨mA,⟨od,es,ep,k _ _ (.inl rfl) e,c⟩,r⟩
 | rng lo hi => obtain ⟨t,u,v,e⟩:=x; exact ⟨t,u,v,k _ _ (.inl rfl) e⟩
 | frz ob u ih => obtain ⟨e,q⟩:=x; exact ⟨k _ _ (.inl rfl) e,ih q⟩
 | tbl ps =>
  have e:h.get? a = some { cls:=.none,data:=.fields ps }:=x
  show h'.get? a = some { cls:=.none,data:=.fields ps }
  exact k a _ (.inl rfl) e
 | met f y =>
  have e:h.get? a = some (PySem.W.methodObj (.ref f) (.ref y)):=x
  show h'.get? a = some (PySem.W.methodObj (.ref f) (.ref y))
  exact k a _ (.inl rfl) e
 | ext φ => obtain ⟨p,⟨o,e⟩,st⟩:=x; exact ⟨st _ _ p fun o q => k _ _ (.inl rfl) q,⟨o,k _ _ (.inl rfl) e⟩,st⟩
theorem HOk.lt (x:HOk P w H h) (e:H a = some o):a < h.objs.size:=(x a o e).lt
theorem HOk.fresh (x:HOk P w H h) (e:h.objs.size ≤ a):H a = none:=by
 cases q:H a with
 | none => rfl
 | some u => exact absurd (Nat.lt_of_lt_of_le (x.lt q) e) (Nat.lt_irrefl _)
theorem HOk.kept (x:HOk P w H h) (k:∀ b u,h.get? b = some u → h'.get? b = some u):HOk P w H h':=fun a o e =>
 (x a o e).stay (fun b u _ q => k b u q) (fun _ q => q) fun _ _ q => q
theorem HOk.laid (x:HOk P w H h) (k:∀ b u,h.get? b = some u → h'.get? b = some u) (hp:h.objs.size ≤ a) (new:ObjOk P w (upd H a o) h' a o):HOk P w (upd H a o) h':=fun b u e => by
 have hn:=x.fresh hp
 by_cases hb:b = a
 ·subst hb; rw [upd_same] at e; cases e; exact new
 ·rw [upd_ne hb] at e
  exact (x b u e).stay (fun c v _ q => k c v q) (fun c q => by rw [upd_ne (ne_of_none q hn)]; exact q) fun c xs q => by rw [upd_ne (ne_of_none q hn)]; exact q
end
noncomputable def Rd (H:Hp) (a:Addr) (u:HO):Prop:=H a = some u ∨ ∃ o,H a = some (.frz o u)
theorem Rd.of {H:Hp} {a:Addr} {u:HO} (h:H a = some u):Rd H a u:=.inl h
theorem Rd.ok {P:Program} {w:World} {H:Hp} {h:Heap} {a:Addr} {u:HO} (r:Rd H a u) (x:HOk P w H h):ObjOk P w H h a u:=by
 rcases r with r | ⟨o,r⟩
 ·exact x a u r
 ·obtain ⟨_,q⟩:=x a _ r
  exact q
noncomputable def Mut:Option HO → Prop
 | some (.lst _) => True
 | some (.dK _) => True
 | some (.dT _) => True
 | some (.dN _ _) => True
 | some (.set _ _) => True
 | some (.ins _ _ _) => True
 | some (.ext _) => True
 | _ => False
section
variable {P:Program} {w:World} {H:Hp} {h h':Heap} {x e:Addr} {o':HO}
theorem HOk.write (ok:HOk P w H h) (mu:Mut (H x)) (he:e = x ∨ H e = some (.own x)) (k:∀ b u,b ≠ e → h.get? b = some u → h'.get? b = some u) (heo:∃ u,h'.get? e = some u)
  (new:ObjOk P w (upd H x o') h' x o'):HOk P w (upd H x o') h':=fun b u q => by
 have nown:∀ c y,H c = some (.own y) → c ≠ x:=fun c y r z => by subst z; rw [r] at mu; exact mu
 have ntup:∀ c xs,H c = some (.tup xs) → c ≠ x:=fun c xs r z => by subst z; rw [r] at mu; exact mu
 by_cases hb:b = x
 ·subst hb; rw [upd_same] at q; cases q; exact new
 ·rw [upd_ne hb] at q
  by_cases hbe:b = e
  ·have q':H b = some (.own x):=by
    rcases he with z | z
    ·exact absurd (hbe.trans z) hb
    ·rw [hbe]; exact z
   rw [q] at q'; cases q'
   obtain ⟨v,hv⟩:=heo
   exact ⟨v,by rw [hbe]; exact hv⟩
  ·refine (ok b u q).stay (fun c v hc r => k c v ?_ r) (fun c r => by rw [upd_ne (nown c b r)]; exact r) fun c xs r => by rw [upd_ne (ntup c xs r)]; exact r
   rcases hc with rfl | hc
   ·exact hbe
   ·rintro rfl
    rcases he with z | z
    ·exact nown c b hc z
    ·rw [hc] at z; cases z; exact hb rfl
end
structure Un (fs ex:List Addr) (H H':Hp) (h h':Heap):Prop where
 keep:∀ b o,h.get? b = some o → H b = none → b ∉ fs → b ∉ ex → h'.get? b = some o
 slot:∀ b o,h.get? b = some o → H b = none → b ∈ fs → b ∉ ex → ∃ sl,h'.get? b = some { o with slots:=sl }
 free:∀ b o,h.get? b = some o → H b = none → b ∉ ex → H' b = none
 there:∀ b o,h.get? b = some o → b ∉ ex → ∃ o',h'.get? b = some o'
 tups:∀ b xs,H b = some (.tup xs) → H' b = some (.tup xs)
 frzs:∀ b o u,H b = some (.frz o u) → H' b = some (.frz o u)
 tbls:∀ b ps,H b = some (.tbl ps) → ∃ more,H' b = some (.tbl (ps ++ more))
section
variable {fs fs' ex ex':List Addr} {H H1 H2:Hp} {h h1 h2 h':Heap} {a x e:Addr} {o:HO}
theorem Un.any (u:Un fs ex H H1 h h1) {b:Addr} {ob:Obj} (q:h.get? b = some ob) (n:H b = none) (hx:b ∉ ex):∃ sl,h1.get? b = some { ob with slots:=sl }:=by
 by_cases hb:b ∈ fs
 ·exact u.slot b ob q n hb hx
 ·exact ⟨ob.slots,u.keep b ob q n hb hx⟩
theorem Un.trans (a:Un fs ex H H1 h h1) (b:Un fs ex H1 H2 h1 h2):Un fs ex H H2 h h2 where
 keep:=fun c ob q n hc hx => b.keep c ob (a.keep c ob q n hc hx) (a.free c ob q n hx) hc hx
 slot:=fun c ob q n hc hx => by
  obtain ⟨sl,e1⟩:=a.slot c ob q n hc hx
  obtain ⟨sl',e2⟩:=b.slot c _ e1 (a.free c ob q n hx) hc hx
  exact ⟨sl',e2⟩
 free:=fun c ob q n hx => by
  obtain ⟨o',e1⟩:=a.there c ob q hx
  exact b.free c o' e1 (a.free c ob q n hx) hx
 there:=fun c ob q hx => by
  obtain ⟨o',e1⟩:=a.there c ob q hx
  exact b.there c o' e1 hx
 tups:=fun c xs q => b.tups c xs (a.tups c xs q)
 frzs:=fun c ob xs q => b.frzs c ob xs (a.frzs c ob xs q)
 tbls:=fun c ps q => by
  obtain ⟨m1,e1⟩:=a.tbls c ps q
  obtain ⟨m2,e2⟩:=b.tbls c _ e1
  exact ⟨m1 ++ m2,by rw [e2,Array.append_assoc]⟩
theorem Un.kept (k:∀ b u,h.get? b = some u → h'.get? b = some u):Un fs ex H H h h' :=
 ⟨fun b ob q _ _ _ => k b ob q,fun b ob q _ _ _ => ⟨ob.slots,k b ob q⟩,fun _ _ _ n _ => n,fun b ob q _ => ⟨ob,k b ob q⟩,fun _ _ q => q,fun _ _ _ q => q,fun _ ps q => ⟨#[],by rw [q]; simp⟩⟩
theorem Un.refl:Un fs ex H H h h:=Un.kept fun _ _ q => q
theorem Un.laid (k:∀ b u,h.get? b = some u → h'.get? b = some u) (hp:h.objs.size ≤ a) (hn:H a = none):Un fs ex H (upd H a o) h h' where
 keep:=fun b u q _ _ _ => k b u q
 slot:=fun b u q _ _ _ => ⟨u.slots,k b u q⟩
 free:=fun b u q n _ => by rw [upd_ne (Nat.ne_of_lt (Nat.lt_of_lt_of_le (Heap.lt_size q) hp))]; exact n
 there:=fun b u q _ => ⟨u,k b u q⟩
 tups:=fun b xs q => by rw [upd_ne (ne_of_none q hn)]; exact q
 frzs:=fun b u xs q => by rw [upd_ne (ne_of_none q hn)]; exact q
 tbls:=fun b ps q => ⟨#[],by rw [upd_ne (ne_of_none q hn),q]; simp⟩
theorem Un.write (mu:Mut (H x)) (he:e = x ∨ H e = some (.own x)) (k:∀ b u,b ≠ e → h.get? b = some u → h'.get? b = some u) (heo:∃ u,h'.get? e = some u):Un fs ex H (upd H x o) h h':=by
 have hx:∀ b,H b = none → b ≠ x:=fun b n z => by subst z; rw [n] at mu; exact mu
 have hb:∀ b,H b = none → b ≠ e:=fun b n z => by
  subst z
  rcases he with r | r
  ·exact hx b n r
  ·rw [n] at r; cases r
 have hm:∀ b u,H b = some u → ¬ Mut (some u) → b ≠ x:=fun b u q nm z => by subst z; rw [q] at mu; exact nm mu
 refine ⟨fun b u q n _ _ => k b u (hb b n) q,fun b u q n _ _ => ⟨u.slots,k b u (hb b n) q⟩,fun b u q n _ => by rw [upd_ne (hx b n)]; exact n,fun b u q _ => ?_,
  fun b xs q => by rw [upd_ne (hm b _ q fun z => z)]; exact q,fun b u xs q => by rw [upd_ne (hm b _ q fun z => z)]; exact q,fun b ps q => ⟨#[],by rw [upd_ne (hm b _ q fun z => z),q]; simp⟩⟩
 by_cases hbe:b = e
 ·subst hbe; exact heo
 ·exact ⟨u,k b u hbe q⟩
theorem Un.mono (u:Un fs ex H H1 h h1) (hs:∀ b ∈ fs,b ∈ fs') (hx:∀ b ∈ ex,b ∈ ex'):Un fs' ex' H H1 h h1 :=
 ⟨fun b ob q n hb he => u.keep b ob q n (fun z => hb (hs b z)) fun z => he (hx b z),fun _ _ q n _ he => u.any q n fun z => he (hx _ z),fun b ob q n he => u.free b ob q n fun z => he (hx b z),fun b ob q he => u.there b ob q fun z => he (hx b z),u.tups,u.frzs,u.tbls⟩
end
noncomputable def trk (h:Heap) (H:Hp):List Addr:=(List.range h.objs.size).filter fun a => (H a).isSome
noncomputable def hidT (h:Heap) (H:Hp):Heap:=PySem.W.hideAll h (trk h H)
theorem hidT_size (h:Heap) (H:Hp):(hidT h H).objs.size = h.objs.size:=PySem.W.hideAll_size _ _
theorem hidT_get {h:Heap} {H:Hp} {b:Addr} {o:Obj} (e:h.get? b = some o) (n:H b = none):(hidT h H).get? b = some o :=
 PySem.W.hideAll_get _ e fun hm => by
  have q:(H b).isSome = true:=(List.mem_filter.mp hm).2
  rw [n] at q; simp at q
theorem of_hidT {h:Heap} {H:Hp} {b:Addr} {o:Obj} (e:(hidT h H).get? b = some o):h.get? b = some o ∧ H b = none:=by
 have e':h.get? b = some o:=PySem.W.of_hideAll (trk h H) e
 refine ⟨e',?_⟩
 cases q:H b with
 | none => rfl
 | some x =>
  have hm:b ∈ trk h H:=List.mem_filter.mpr ⟨List.mem_range.mpr (Heap.lt_size e'),by simp [q]⟩
  have z:(hidT h H).get? b = none:=PySem.W.hideAll_none (trk h H) hm
  rw [z] at e; cases e
noncomputable def allNews (g h:Heap) (L:Addr):List (Addr × Obj):=(List.range h.objs.size).filterMap fun a => if a = L ∨ (g.get? a).isSome = true then none else (h.get? a).map fun o => (a,o)
noncomputable def rest (g h:Heap) (L d:Addr):List (Addr × Obj):=(allNews g h L).filter fun p => decide (p.1 ≠ d)
end L2
namespace L2
open PySem PySem.Spec PyProof.Rows
structure Mod (K:PySem.W.Frag) (mg:Str → Option Value) (base:Heap):Prop where
 kin:K.In base
 glob:base.Ns mainGlobals mg
 blt:∃ mb,base.Ns builtinsNs mb ∧ ∀ x:Str,x ≠ "__name__" → mb x = bootBuiltins x
 nolimit:base.NoLimit
structure Cx where
 prog:Program
 w:World
 K:PySem.W.Frag
 mg:Str → Option Value
 base:Heap
 A:Around
 N:List Str
 s₀:Shared
 H₀:Hp
 env:Env
 outer:List Env
 stack:List Env
 ex:List Addr
 fn:Str → Bool
 calm:Bool
 pn:List (Addr × Obj)
 xe:Value → Shared → Prop
noncomputable def frs (l:List Env):List Addr:=l.filterMap (·.frame)
noncomputable abbrev Cx.fs (X:Cx):List Addr:=frs X.outer
noncomputable def Vis (sc:Scope) (x:Str):Prop:=sc.names.lookup x = some .local ∨ sc.names.lookup x = some .cell ∨ sc.names.lookup x = some .free
noncomputable def Loc (sc:Scope) (x:Str):Prop:=sc.names.lookup x = some .local ∨ sc.names.lookup x = some .cell
noncomputable def Look (env:Env) (h:Heap) (m:Str → Option Value) (x:Str) (u:Value):Prop :=
 (env.kindOf x = some .local ∧ m x = some u) ∨ ((env.kindOf x = some .cell ∨ env.kindOf x = some .free) ∧ ∃ c,env.cells.lookup x = some c ∧ h.IsCell c (some u))
structure Cx.Ok (X:Cx):Prop where
 mod:Mod X.K X.mg X.base
 kind:X.env.scope.kind = .function
 glob:X.env.globals = mainGlobals
 blt:X.env.builtins = builtinsNs
 above:X.s₀.heap.objs.size ≤ X.env.locals
 inj:∀ x y c,X.env.cells.lookup x = some c → X.env.cells.lookup y = some c → x = y
 has:∀ x,(X.env.kindOf x = some .cell ∨ X.env.kindOf x = some .free) → ∃ c,X.env.cells.lookup x = some c
 cab:∀ x c,X.fn x = true → X.env.cells.lookup x = some c → X.s₀.heap.objs.size ≤ c
 hd:X.calm = true → X.A.handled = none
 frames:X.A.frames = some X.stack
 stk:X.stack = X.outer ∨ (X.stack = X.env :: X.outer ∧ X.env.frame = some X.env.locals)
 exf:∀ b ∈ X.ex,b ≠ X.env.locals ∧ ∀ x c,X.env.cells.lookup x = some c → c ≠ b
 bs:∀ b o,X.base.get? b = some o → X.s₀.heap.get? b = some o ∧ X.H₀ b = none
 bsz:X.base.objs.size ≤ X.s₀.heap.objs.size
 noex:∀ b o,X.base.get? b = some o → b ∉ X.ex
 exfs:∀ b ∈ X.ex,b ∉ X.fs
 funs:X.s₀.heap.FunFrames X.base X.outer
 frf:∀ b ∈ X.fs,X.H₀ b = none
structure Inv (X:Cx) (pins:List (Addr × Obj)) (σ:List (Option V)) (H:Hp) (s:Shared):Prop where
 ok:X.Ok
 os:s.os = X.s₀.os
 bare:AllBare s.gens
 base:Un X.fs X.ex X.H₀ H X.s₀.heap s.heap
 loc:∃ m,s.heap.Ns X.env.locals m ∧ ∀ (i:Nat) (x:Str) (v:V),X.N[i]? = some x → σ[i]? = some (some v) → Vis X.env.scope x → ∃ u,RelV v u ∧ Look X.env s.heap m x u
 cell:∀ x c,X.env.cells.lookup x = some c → ∃ v,s.heap.IsCell c v
 free:H X.env.locals = none
 freeC:∀ x c,X.env.cells.lookup x = some c → H c = none
 pin:∀ p ∈ X.pn ++ pins,s.heap.get? p.1 = some p.2 ∧ H p.1 = none ∧ p.1 ≠ X.env.locals ∧ p.1 ∉ X.fs ∧ ∀ v,p.2.data ≠ .cell v
 hok:HOk X.prog X.w H s.heap
 len:σ.length = X.N.length
section
variable {X:Cx} {pins:List (Addr × Obj)} {σ:List (Option V)} {H H':Hp} {s:Shared} {h':Heap}
theorem Cx.Ok.nofr (ok:X.Ok) {b:Addr} {o:Obj} (e:X.base.get? b = some o):b ∉ X.fs:=fun hb => by
 have:=(ok.funs.mem hb).1
 rw [e] at this; cases this
theorem Inv.bs (I:Inv X pins σ H s):∀ b o,X.base.get? b = some o → s.heap.get? b = some o ∧ H b = none:=fun b o e =>
 ⟨I.base.keep b o (I.ok.bs b o e).1 (I.ok.bs b o e).2 (I.ok.nofr e) (I.ok.noex b o e),I.base.free b o (I.ok.bs b o e).1 (I.ok.bs b o e).2 (I.ok.noex b o e)⟩
theorem Inv.bk (I:Inv X pins σ H s):∀ b o,X.base.get? b = some o → s.heap.get? b = some o:=fun b o e => (I.bs b o e).1
theorem Inv.mod (I:Inv X pins σ H s):Mod X.K X.mg X.base:=I.ok.mod
theorem Inv.kIn (I:Inv X pins σ H s):X.K.In s.heap:=I.ok.mod.kin.keeps I.bk
theorem Inv.nolimit (I:Inv X pins σ H s):s.heap.NoLimit:=I.ok.mod.nolimit.keeps I.bk
theorem Inv.lt (I:Inv X pins σ H s):X.env.locals < s.heap.objs.size:=let ⟨_,hn,_⟩:=I.loc; hn.lt
theorem Inv.sz (I:Inv X pins σ H s):X.s₀.heap.objs.size ≤ s.heap.objs.size:=Nat.le_trans I.ok.above (Nat.le_of_lt I.lt)
theorem Inv.nofs (I:Inv X pins σ H s) {a:Addr} (h:s.heap.objs.size ≤ a):a ∉ X.fs:=fun hb => by
 obtain ⟨_,o,ho,_⟩:=I.ok.funs.mem hb
 exact absurd (Nat.lt_of_lt_of_le (Heap.lt_size ho) (Nat.le_trans I.sz h)) (Nat.lt_irrefl _)
theorem Inv.cne (I:Inv X pins σ H s):∀ x c,X.env.cells.lookup x = some c → c ≠ X.env.locals:=fun x c e z => by
 obtain ⟨v,o,ho,hd⟩:=I.cell x c e
 obtain ⟨m,⟨o',es,ep,ho',hd',_⟩,_⟩:=I.loc
 rw [z,ho'] at ho; cases ho; rw [hd'] at hd; cases hd
theorem Inv.funs (I:Inv X pins σ H s):s.heap.FunFrames X.base X.outer:=by
 have all:∀ (l:List Env),(∀ b ∈ frs l,b ∈ X.fs) → X.s₀.heap.FunFrames X.base l → s.heap.FunFrames X.base l:=by
  intro l
  induction l with
  | nil => intro _ _; trivial
  | cons env r ih =>
   intro hs hl
   obtain ⟨hk,⟨L,o,hf,hn,ho,hd⟩,hr⟩:=hl
   have hL:L ∈ X.fs:=hs L (by unfold frs; rw [List.filterMap_cons,hf]; exact List.mem_cons_self)
   obtain ⟨sl,e⟩:=I.base.slot L o ho (I.ok.frf L hL) hL fun z => I.ok.exfs L z hL
   exact ⟨hk,⟨L,_,hf,hn,e,hd⟩,ih (fun b hb => hs b (by unfold frs; rw [List.filterMap_cons,hf]; exact List.mem_cons_of_mem _ hb)) hr⟩
 exact all X.outer (fun _ hb => hb) I.ok.funs
theorem Inv.stack (I:Inv X pins σ H s):s.heap.FunFrames X.base X.stack:=by
 rcases I.ok.stk with e | ⟨e,hf⟩
 ·rw [e]; exact I.funs
 ·rw [e]
  obtain ⟨m,hn,_⟩:=I.loc
  refine .cons (by rw [I.ok.kind]; decide) hf hn ?_ I.funs
  exact Heap.get?_none_of_le (Nat.le_trans I.ok.bsz I.ok.above)
theorem Inv.stkSub (I:Inv X pins σ H s):∀ b ∈ frs X.stack,b ∈ X.env.locals :: X.fs:=fun b hb => by
 rcases I.ok.stk with e | ⟨e,hf⟩
 ·rw [e] at hb; exact List.mem_cons_of_mem _ hb
 ·rw [e] at hb
  unfold frs at hb
  rw [List.filterMap_cons,hf] at hb
  exact hb
theorem Inv.stkFree (I:Inv X pins σ H s):∀ b ∈ frs X.stack,H b = none:=fun b hb => by
 rcases List.mem_cons.mp (I.stkSub b hb) with e | hb
 ·rw [e]; exact I.free
 ·obtain ⟨_,o,ho,_⟩:=I.ok.funs.mem hb
  exact I.base.free b o ho (I.ok.frf b hb) fun z => I.ok.exfs b z hb
theorem Inv.step {g':Array GenState} {t':Nat} {d':Drawn} {ch:List Addr} (I:Inv X pins σ H s)
  (hch:∀ b ∈ ch,(b ∈ X.ex ∨ X.s₀.heap.objs.size ≤ b) ∧ b ≠ X.env.locals ∧ (∀ x c,X.env.cells.lookup x = some c → c ≠ b) ∧ ∀ p ∈ X.pn ++ pins,p.1 ≠ b)
  (keep:∀ b o,b ≠ X.env.locals → b ∉ X.fs → b ∉ ch → s.heap.get? b = some o → H b = none → h'.get? b = some o)
  (slot:∀ b o,b ≠ X.env.locals → b ∈ X.fs → b ∉ ch → s.heap.get? b = some o → H b = none → ∃ sl,h'.get? b = some { o with slots:=sl }) (free:∀ b o,b ∉ ch → s.heap.get? b = some o → H b = none → H' b = none)
  (there:∀ b o,b ∉ ch → s.heap.get? b = some o → ∃ o',h'.get? b = some o')
  (tups:∀ b xs,H b = some (.tup xs) → H' b = some (.tup xs)) (frzs:∀ b o u,H b = some (.frz o u) → H' b = some (.frz o u)) (tbls:∀ b ps,H b = some (.tbl ps) → ∃ more,H' b = some (.tbl (ps ++ more)))
  (ns:∀ m,s.heap.Ns X.env.locals m → h'.Ns X.env.locals m) (hok:HOk X.prog X.w H' h') (hg:AllBare g') :
  Inv X pins σ H' { s with heap:=h',gens:=g',drawn:=d',toks:=t' }:=by
 have neL:∀ b o,X.s₀.heap.get? b = some o → b ≠ X.env.locals:=fun b o e => Nat.ne_of_lt (Nat.lt_of_lt_of_le (Heap.lt_size e) I.ok.above)
 have neC:∀ b o,X.s₀.heap.get? b = some o → b ∉ X.ex → b ∉ ch:=fun b o e hx hb => by
  rcases (hch b hb).1 with z | z
  ·exact hx z
  ·exact absurd (Nat.lt_of_lt_of_le (Heap.lt_size e) z) (Nat.lt_irrefl _)
 have cellK:∀ x c,X.env.cells.lookup x = some c → ∀ v,s.heap.IsCell c v → h'.IsCell c v:=fun x c e v z4_ => by
  obtain ⟨o,ho,hd⟩:=z4_
  have nch:c ∉ ch:=fun z => (hch c z).2.2.1 x c e rfl
  by_cases hc:c ∈ X.fs
  ·obtain ⟨sl,q⟩:=slot c o (I.cne x c e) hc nch ho (I.freeC x c e)
   exact ⟨_,q,hd⟩
  ·exact ⟨o,keep c o (I.cne x c e) hc nch ho (I.freeC x c e),hd⟩
 refine ⟨I.ok,I.os,hg,⟨fun b o e n hb hx => ?_,fun b o e n hb hx => ?_,fun b o e n hx => ?_,fun b o e hx => ?_,fun b xs e => tups b xs (I.base.tups b xs e),fun b o xs e => frzs b o xs (I.base.frzs b o xs e),fun b ps e => ?_⟩,?_,fun x c e => ?_,?_,fun x c e => ?_,fun p hp => ?_,hok,I.len⟩
 ·exact keep b o (neL b o e) hb (neC b o e hx) (I.base.keep b o e n hb hx) (I.base.free b o e n hx)
 ·obtain ⟨sl,e1⟩:=I.base.slot b o e n hb hx
  obtain ⟨sl',e2⟩:=slot b _ (neL b o e) hb (neC b o e hx) e1 (I.base.free b o e n hx)
  exact ⟨sl',e2⟩
 ·obtain ⟨o',e1⟩:=I.base.there b o e hx
  exact free b o' (neC b o e hx) e1 (I.base.free b o e n hx)
 ·obtain ⟨o',e1⟩:=I.base.there b o e hx
  exact there b o' (neC b o e hx) e1
 ·obtain ⟨m1,e1⟩:=I.base.tbls b ps e
  obtain ⟨m2,e2⟩:=tbls b _ e1
  exact ⟨m1 ++ m2,by rw [e2,Array.append_assoc]⟩
 ·obtain ⟨m,hn,hl⟩:=I.loc
  refine ⟨m,ns m hn,fun i x v e1 e2 e3 => ?_⟩
  obtain ⟨u,r,l⟩:=hl i x v e1 e2 e3
  refine ⟨u,r,?_⟩
  rcases l with l | ⟨k,c,e,z⟩
  ·exact .inl l
  ·exact .inr ⟨k,c,e,cellK x c e _ z⟩
 ·obtain ⟨v,z⟩:=I.cell x c e
  exact ⟨v,cellK x c e v z⟩
 ·obtain ⟨m,⟨o,_,_,ho,_⟩,_⟩:=I.loc
  exact free _ o (fun z => (hch _ z).2.1 rfl) ho I.free
 ·obtain ⟨v,o,ho,hd⟩:=I.cell x c e
  exact free c o (fun z => (hch c z).2.2.1 x c e rfl) ho (I.freeC x c e)
 ·obtain ⟨e,n,ne,nf,d⟩:=I.pin p hp
  have nch:p.1 ∉ ch:=fun z => (hch p.1 z).2.2.2 p hp rfl
  exact ⟨keep p.1 p.2 ne nf nch e n,free p.1 p.2 nch e n,ne,nf,d⟩
theorem Inv.un {t':Nat} (I:Inv X pins σ H s) (u:Un X.fs [] H H' s.heap h') (hok:HOk X.prog X.w H' h'):Inv X pins σ H' { s with heap:=h',toks:=t' }:=by
 obtain ⟨m,⟨o,es,ep,ho,r⟩,_⟩:=id I.loc
 obtain ⟨sl,hL⟩:=u.any ho I.free (by simp)
 exact I.step (g':=s.gens) (d':=s.drawn) (ch:=[]) (fun _ z => nomatch z) (fun b o _ hb _ e n => u.keep b o e n hb (by simp)) (fun b o _ hb _ e n => u.slot b o e n hb (by simp)) (fun b o _ e n => u.free b o e n (by simp)) (fun b o _ e => u.there b o e (by simp)) u.tups u.frzs u.tbls (fun m' hm => by
  obtain ⟨o',es',ep',ho',r'⟩:=hm
  rw [ho] at ho'; cases ho'
  exact ⟨_,es',ep',hL,r'⟩) hok I.bare
theorem Inv.call {g':Array GenState} {t':Nat} {d':Drawn} {ch:List Addr} (I:Inv X pins σ H s) (u:Un (frs X.stack) ch H H' s.heap h') (hok:HOk X.prog X.w H' h') (hg:AllBare g')
  (hch:∀ b ∈ ch,(b ∈ X.ex ∨ X.s₀.heap.objs.size ≤ b) ∧ b ≠ X.env.locals ∧ (∀ x c,X.env.cells.lookup x = some c → c ≠ b) ∧ ∀ p ∈ X.pn ++ pins,p.1 ≠ b) :
  Inv X pins σ H' { s with heap:=h',gens:=g',drawn:=d',toks:=t' }:=by
 obtain ⟨m,⟨o,es,ep,ho,r⟩,_⟩:=id I.loc
 obtain ⟨sl,hL⟩:=u.any ho I.free fun z => (hch _ z).2.1 rfl
 exact I.step (ch:=ch) hch (fun b o hL hb hc e n => u.keep b o e n (fun z => (List.mem_cons.mp (I.stkSub b z)).elim hL hb) hc) (fun b o _ _ hc e n => u.any e n hc) (fun b o hc e n => u.free b o e n hc) (fun b o hc e => u.there b o e hc) u.tups u.frzs u.tbls (fun m' hm => by
  obtain ⟨o',es',ep',ho',r'⟩:=hm
  rw [ho] at ho'; cases ho'
  exact ⟨_,es',ep',hL,r'⟩) hok hg
theorem Inv.turned {t':Nat} {it:Addr} (I:Inv X pins σ H s) (k:∀ b o,b ≠ it → s.heap.get? b = some o → h'.get? b = some o) (hn:H it = none) (hL:it ≠ X.env.locals)
  (h1:it ∈ X.ex ∨ X.s₀.heap.objs.size ≤ it) (h2:∀ x c,X.env.cells.lookup x = some c → c ≠ it) (h3:∀ p ∈ X.pn ++ pins,p.1 ≠ it):Inv X pins σ H { s with heap:=h',toks:=t' }:=by
 have nit:∀ b u,H b = some u → b ≠ it:=fun b u e z => by rw [z,hn] at e; cases e
 refine I.step (g':=s.gens) (d':=s.drawn) (ch:=[it]) (fun b hb => ?_) (fun b o _ _ hc e _ => k b o (fun z => hc (by simp [z])) e) (fun b o _ _ hc e _ => ⟨o.slots,k b o (fun z => hc (by simp [z])) e⟩) (fun _ _ _ _ n => n)
  (fun b o hc e => ⟨o,k b o (fun z => hc (by simp [z])) e⟩) (fun _ _ e => e) (fun _ _ _ e => e) (fun b ps e => ⟨#[],by rw [e]; simp⟩) (fun m hm => ?_) (fun b u e => ?_) I.bare
 ·have e:b = it:=by simpa using hb
  subst e
  exact ⟨h1,hL,h2,h3⟩
 ·obtain ⟨o,es,ep,ho,r⟩:=hm
  exact ⟨o,es,ep,k _ o (Ne.symm hL) ho,r⟩
 ·refine (I.hok b u e).stay (fun c v hc q => k c v ?_ q) (fun _ q => q) fun _ _ q => q
  rcases hc with z | z
  ·rw [z]; exact nit b u e
  ·exact nit c _ z
theorem Inv.tok (I:Inv X pins σ H s) (t:Nat):Inv X pins σ H { s with toks:=t }:=I.un (h':=s.heap) (t':=t) Un.refl I.hok
theorem Inv.kept {t':Nat} (I:Inv X pins σ H s) (k:∀ b u,s.heap.get? b = some u → h'.get? b = some u):Inv X pins σ H { s with heap:=h',toks:=t' }:=I.un (Un.kept k) (I.hok.kept k)
theorem Inv.laid {a:Addr} {o:HO} {t':Nat} (I:Inv X pins σ H s) (k:∀ b u,s.heap.get? b = some u → h'.get? b = some u) (hp:s.heap.objs.size ≤ a) (new:ObjOk X.prog X.w (upd H a o) h' a o) :
  Inv X pins σ (upd H a o) { s with heap:=h',toks:=t' }:=I.un (Un.laid k hp (I.hok.fresh hp)) (I.hok.laid k hp new)
theorem Inv.write {x e:Addr} {o:HO} {t':Nat} (I:Inv X pins σ H s) (mu:Mut (H x)) (he:e = x ∨ H e = some (.own x)) (k:∀ b u,b ≠ e → s.heap.get? b = some u → h'.get? b = some u) (heo:∃ u,h'.get? e = some u)
  (new:ObjOk X.prog X.w (upd H x o) h' x o):Inv X pins σ (upd H x o) { s with heap:=h',toks:=t' }:=I.un (Un.write mu he k heo) (I.hok.write mu he k heo new)
theorem Inv.pins_of {pins':List (Addr × Obj)} (I:Inv X pins σ H s) (h:∀ p ∈ pins',s.heap.get? p.1 = some p.2 ∧ H p.1 = none ∧ p.1 ≠ X.env.locals ∧ p.1 ∉ X.fs ∧ ∀ v,p.2.data ≠ .cell v):Inv X pins' σ H s :=
 ⟨I.ok,I.os,I.bare,I.base,I.loc,I.cell,I.free,I.freeC,fun p hp => (List.mem_append.mp hp).elim (fun z => I.pin p (List.mem_append_left _ z)) (h p),I.hok,I.len⟩
theorem nodup_ix {N:List Str} (hN:N.Nodup) {i j:Nat} {x:Str} (a:N[i]? = some x) (b:N[j]? = some x):i = j:=by
 obtain ⟨h1,e1⟩:=List.getElem?_eq_some_iff.mp a
 obtain ⟨h2,e2⟩:=List.getElem?_eq_some_iff.mp b
 exact (List.getElem_inj hN).mp (e1.trans e2.symm)
theorem store_ok2 {M:Model} {A:Around} {E:Value → Shared → Prop} {i:Nat} {x:Str} {v:V} {u:Value} {Q:Unit → Shared → Prop} (I:Inv X pins σ H s) (hN:X.N.Nodup) (hi:X.N[i]? = some x) (hx:Loc X.env.scope x) (r:RelV v u)
  (h:∀ s',Inv X pins (σ.set i (some v)) H s' → (∃ a,Heap.SameBut a s.heap s'.heap ∧ (a = X.env.locals ∨ X.env.cells.lookup x = some a)) → Q () s') (hf:X.fn x = true ∨ X.env.scope.names.lookup x = some .local:=by first | exact .inl rfl | exact .inr rfl | assumption):wpAny M A (storeName X.env x u) Q E s:=by
 obtain ⟨m,hn,hl⟩:=id I.loc
 have hcls:(X.env.scope.kind == .class || (X.env.scope.kind == .module && X.env.locals != X.env.globals)) = false:=by rw [I.ok.kind]; rfl
 have hiσ:i < σ.length:=by rw [I.len]; exact (List.getElem?_eq_some_iff.mp hi).1
 have cne:=I.cne
 have tracked:∀ {a:Addr} {h':Heap},(∃ o,s.heap.get? a = some o ∧ H a = none) → Heap.SameBut a s.heap h' → HOk X.prog X.w H h':=fun {a h'} ha hs b ob e => by
  obtain ⟨_,_,hfree⟩:=ha
  refine (I.hok b ob e).stay (fun c w' hc q => (hs.2 c ?_).trans q) (fun _ q => q) fun _ _ q => q
  rintro rfl
  rcases hc with rfl | hc
  ·rw [hfree] at e; cases e
  ·rw [hfree] at hc; cases hc
 rcases hx with hk | hk
 ·refine wpAny_storeName_local hk hn (fun h' hn' hs => ?_) hcls
  obtain ⟨oL,_,_,hoL,_⟩:=id hn
  refine h _ ⟨I.ok,I.os,I.bare,⟨fun b o e n hb hx => ?_,fun b o e n hb hx => ?_,I.base.free,fun b o e hx => ?_,I.base.tups,I.base.frzs,I.base.tbls⟩,⟨_,hn',fun j y v' e1 e2 e3 => ?_⟩,fun y c e => ?_,I.free,I.freeC,fun p hp => ?_,tracked ⟨oL,hoL,I.free⟩ hs,by simpa using I.len⟩ ⟨_,hs,.inl rfl⟩
  ·exact (hs.2 b (Nat.ne_of_lt (Nat.lt_of_lt_of_le (Heap.lt_size e) I.ok.above))).trans (I.base.keep b o e n hb hx)
  ·obtain ⟨sl,e1⟩:=I.base.slot b o e n hb hx
   exact ⟨sl,(hs.2 b (Nat.ne_of_lt (Nat.lt_of_lt_of_le (Heap.lt_size e) I.ok.above))).trans e1⟩
  ·obtain ⟨o',e1⟩:=I.base.there b o e hx
   exact ⟨o',(hs.2 b (Nat.ne_of_lt (Nat.lt_of_lt_of_le (Heap.lt_size e) I.ok.above))).trans e1⟩
  ·by_cases hj:j = i
   ·subst hj
    rw [hi] at e1; cases e1
    rw [List.getElem?_set_self hiσ] at e2
    cases e2
    exact ⟨u,r,.inl ⟨hk,by simp⟩⟩
   ·rw [List.getElem?_set_ne (Ne.symm hj)] at e2
    obtain ⟨u',r',q⟩:=hl j y v' e1 e2 e3
    refine ⟨u',r',?_⟩
    rcases q with ⟨k,e⟩ | ⟨k,c,e,z⟩
    ·refine .inl ⟨k,?_⟩
     have:y ≠ x:=fun e => hj (nodup_ix hN e1 (e ▸ hi))
     simp [this,e]
    ·exact .inr ⟨k,c,e,z.sameBut hs (cne y c e)⟩
  ·obtain ⟨w',z⟩:=I.cell y c e
   exact ⟨w',z.sameBut hs (cne y c e)⟩
  ·obtain ⟨e,n,ne,nf,d⟩:=I.pin p hp
   exact ⟨(hs.2 p.1 ne).trans e,n,ne,nf,d⟩
 ·have hfn:X.fn x = true:=by
   rcases hf with z | z
   ·exact z
   ·rw [z] at hk; cases hk
  obtain ⟨c,hc⟩:=I.ok.has x (.inl hk)
  obtain ⟨w',z⟩:=I.cell x c hc
  refine wpAny_storeName_cell I.ok.kind hk hc z (fun h' hc' hs => ?_)
  obtain ⟨oc,hoc,hocd⟩:=id z
  refine h { s with heap:=h' } ⟨I.ok,I.os,I.bare,⟨fun b o e n hb hx => ?_,fun b o e n hb hx => ?_,I.base.free,fun b o e hx => ?_,I.base.tups,I.base.frzs,I.base.tbls⟩,⟨m,hn.sameBut hs (Ne.symm (cne x c hc)),fun j y v' e1 e2 e3 => ?_⟩,fun y c' e => ?_,I.free,I.freeC,fun p hp => ?_,tracked ⟨oc,hoc,I.freeC x c hc⟩ hs,by simpa using I.len⟩ ⟨c,hs,.inr hc⟩
  ·exact (hs.2 b (Nat.ne_of_lt (Nat.lt_of_lt_of_le (Heap.lt_size e) (I.ok.cab x c hfn hc)))).trans (I.base.keep b o e n hb hx)
  ·obtain ⟨sl,e1⟩:=I.base.slot b o e n hb hx
   exact ⟨sl,(hs.2 b (Nat.ne_of_lt (Nat.lt_of_lt_of_le (Heap.lt_size e) (I.ok.cab x c hfn hc)))).trans e1⟩
  ·obtain ⟨o',e1⟩:=I.base.there b o e hx
   exact ⟨o',(hs.2 b (Nat.ne_of_lt (Nat.lt_of_lt_of_le (Heap.lt_size e) (I.ok.cab x c hfn hc)))).trans e1⟩
  ·by_cases hj:j = i
   ·subst hj
    rw [hi] at e1; cases e1
    rw [List.getElem?_set_self hiσ] at e2
    cases e2
    exact ⟨u,r,.inr ⟨.inl hk,c,hc,hc'⟩⟩
   ·rw [List.getElem?_set_ne (Ne.symm hj)] at e2
    obtain ⟨u',r',q⟩:=hl j y v' e1 e2 e3
    refine ⟨u',r',?_⟩
    rcases q with q | ⟨k,c',e,z'⟩
    ·exact .inl q
    ·refine .inr ⟨k,c',e,z'.sameBut hs ?_⟩
     rintro rfl
     exact hj (nodup_ix hN e1 (I.ok.inj _ _ _ e hc ▸ hi))
  ·by_cases hcc:c' = c
   ·subst hcc; exact ⟨_,hc'⟩
   ·obtain ⟨w2,z2⟩:=I.cell y c' e
    exact ⟨w2,z2.sameBut hs hcc⟩
  ·obtain ⟨e,n,ne,nf,d⟩:=I.pin p hp
   refine ⟨(hs.2 p.1 ?_).trans e,n,ne,nf,d⟩
   intro q
   rw [q,hoc] at e
   have q':oc = p.2:=Option.some.inj e
   exact d w' (by rw [← q']; exact hocd)
theorem store_ok {M:Model} {A:Around} {E:Value → Shared → Prop} {i:Nat} {x:Str} {v:V} {u:Value} {Q:Unit → Shared → Prop} (I:Inv X pins σ H s) (hN:X.N.Nodup) (hi:X.N[i]? = some x) (hx:Loc X.env.scope x) (r:RelV v u)
  (h:∀ s',Inv X pins (σ.set i (some v)) H s' → Q () s') (hf:X.fn x = true ∨ X.env.scope.names.lookup x = some .local:=by first | exact .inl rfl | exact .inr rfl | assumption):wpAny M A (storeName X.env x u) Q E s :=
 store_ok2 I hN hi hx r (fun s' I' _ => h s' I') hf
theorem Inv.call' {s':Shared} {ch:List Addr} (I:Inv X pins σ H s) (ho:s'.os = s.os) (u:Un (frs X.stack) ch H H' s.heap s'.heap) (hok:HOk X.prog X.w H' s'.heap) (hg:AllBare s'.gens)
  (hch:∀ b ∈ ch,(b ∈ X.ex ∨ X.s₀.heap.objs.size ≤ b) ∧ b ≠ X.env.locals ∧ (∀ x c,X.env.cells.lookup x = some c → c ≠ b) ∧ ∀ p ∈ X.pn ++ pins,p.1 ≠ b):Inv X pins σ H' s':=by
 obtain ⟨h',g',d',t',o'⟩:=s'
 have e:o' = s.os:=ho
 subst e
 exact I.call (g':=g') (t':=t') (d':=d') u hok hg hch
end
noncomputable abbrev XK:=Value → Option Addr → Hp → Prop
noncomputable abbrev St:=List (Option V)
noncomputable abbrev VK:=V → Hp → Prop
noncomputable abbrev TE:=St → Hp → VK → Prop
noncomputable abbrev TT:=St → Hp → (Bool → Hp → Prop) → Prop
noncomputable abbrev TA:=St → Hp → (List V → Hp → Prop) → Prop
structure Ends where
 nx:St → Hp → Prop
 rt:VK
 bk:St → Hp → Prop:=fun _ _ => False
 ct:St → Hp → Prop:=fun _ _ => False
noncomputable abbrev TS:=Ends → St → Hp → Prop
noncomputable def EP (X:Cx) (pins:List (Addr × Obj)) (σ:St) (Q:VK) (u:Value) (s':Shared):Prop:=∃ v H',Inv X pins σ H' s' ∧ RelV v u ∧ Q v H'
noncomputable def TP (X:Cx) (pins:List (Addr × Obj)) (σ:St) (Q:Bool → Hp → Prop) (b:Bool) (s':Shared):Prop:=∃ H',Inv X pins σ H' s' ∧ Q b H'
noncomputable def AP (X:Cx) (pins:List (Addr × Obj)) (σ:St) (Q:List V → Hp → Prop) (us:List Value) (s':Shared):Prop:=∃ vs H',Inv X pins σ H' s' ∧ Vals vs us ∧ Q vs H'
noncomputable def SP (X:Cx) (pins:List (Addr × Obj)) (D:Ends) (f:Flow) (s':Shared):Prop :=
 match f with
 | .next => ∃ σ' H',Inv X pins σ' H' s' ∧ D.nx σ' H'
 | .brk => ∃ σ' H',Inv X pins σ' H' s' ∧ D.bk σ' H'
 | .cont => ∃ σ' H',Inv X pins σ' H' s' ∧ D.ct σ' H'
 | .ret u => ∃ v σ' H',Inv X pins σ' H' s' ∧ RelV v u ∧ D.rt v H'
noncomputable def PE (X:Cx) (e:Expr) (t:TE):Prop :=
 ∀ (pins:List (Addr × Obj)) (s:Shared) (σ:St) (H:Hp) (Q:VK),Inv X pins σ H s → t σ H Q → wpAny (model X.prog X.w) X.A (eval e X.env) (EP X pins σ Q) X.xe s
noncomputable def PT (X:Cx) (e:Expr) (t:TT):Prop :=
 ∀ (pins:List (Addr × Obj)) (s:Shared) (σ:St) (H:Hp) (Q:Bool → Hp → Prop),Inv X pins σ H s → t σ H Q → wpAny (model X.prog X.w) X.A (isTrue e X.env (eval e X.env)) (TP X pins σ Q) X.xe s
noncomputable def PW (X:Cx) (e:Expr) (t:TT):Prop :=
 ∀ (whole:Sem Value) (pins:List (Addr × Obj)) (s:Shared) (σ:St) (H:Hp) (Q:Bool → Hp → Prop),Inv X pins σ H s → t σ H Q → wpAny (model X.prog X.w) X.A (isTrue e X.env whole) (TP X pins σ Q) X.xe s
theorem PW.pt {X:Cx} {e:Expr} {t:TT} (h:PW X e t):PT X e t:=h _
noncomputable def PA (X:Cx) (es:List Expr) (t:TA):Prop :=
 ∀ (pos:Pos) (pins:List (Addr × Obj)) (s:Shared) (σ:St) (H:Hp) (Q:List V → Hp → Prop),Inv X pins σ H s → t σ H Q → wpAny (model X.prog X.w) X.A (spliced (backTo pos (starEach es X.env))) (AP X pins σ Q) X.xe s
noncomputable def PS (X:Cx) (st:Stmt) (t:TS):Prop :=
 ∀ (pins:List (Addr × Obj)) (s:Shared) (σ:St) (H:Hp) (D:Ends),Inv X pins σ H s → t D σ H → wpAny (model X.prog X.w) X.A (exec st X.env) (SP X pins D) X.xe s
noncomputable def PSs (X:Cx) (st:List Stmt) (t:TS):Prop :=
 ∀ (pins:List (Addr × Obj)) (s:Shared) (σ:St) (H:Hp) (D:Ends),Inv X pins σ H s → t D σ H → wpAny (model X.prog X.w) X.A (execs st X.env) (SP X pins D) X.xe s
theorem thn {α:Type} {t:Sem α} {Q Q':α → Shared → Prop} {M:Model} {A:Around} {E:Value → Shared → Prop} {s:Shared} (h:wpAny M A t Q E s) (hQ:∀ a s,Q a s → Q' a s):wpAny M A t Q' E s:=wpAny_mono h hQ fun _ _ x => x
end L2
namespace L2
open PySem PySem.Spec PyProof.Rows
section
variable {X:Cx}
noncomputable def tVar (i:Nat):TE:=fun σ H Q => ∃ v,σ[i]? = some (some v) ∧ Q v H
noncomputable def tC (v:V):TE:=fun _ H Q => Q v H
theorem pe_var {i:Nat} {x:Str} {pos:Pos} (hN:X.N[i]? = some x) (hv:Vis X.env.scope x) (hd:(x == ("__debug__":Str)) = false:=by decide) (hcd:(x == ("__classdict__":Str)) = false:=by decide):PE X (.Name x pos) (tVar i):=by
 intro pins s σ H Q I h
 obtain ⟨v,e,h⟩:=h
 obtain ⟨m,hn,hl⟩:=I.loc
 obtain ⟨u,r,l⟩:=hl i x v hN e hv
 have fin:EP X pins σ Q u s:=⟨v,H,I,r,h⟩
 rcases l with ⟨hk,hm⟩ | ⟨hk,c,hc,hcell⟩
 ·exact wpAny_Name (wpAny_loadName_local I.ok.kind hk hn hm fin) hd
 ·rcases hk with hk | hk
  ·exact wpAny_Name (wpAny_loadName_cell I.ok.kind hk hc hcell fin) hd
  ·exact wpAny_Name (wpAny_loadName_free I.ok.kind hk hc hcell fin hcd) hd
theorem pe_int {i j pos}:PE X (.Constant (.int i) j pos) (tC (.int i)):=fun _ _ _ H _ I h => wpAny_Constant_int ⟨.int i,H,I.tok _,⟨_,rfl⟩,h⟩
theorem pe_bl {b j pos}:PE X (.Constant (.bool b) j pos) (tC (.bl b)):=fun _ _ _ H _ I h => Constant_bool ⟨.bl b,H,I,rfl,h⟩
theorem pe_non {j pos}:PE X (.Constant .none j pos) (tC .non):=fun _ _ _ H _ I h => Constant_none ⟨.non,H,I,rfl,h⟩
theorem pe_str {x j pos}:PE X (.Constant (.str x) j pos) (tC (.str x)):=fun _ _ _ H _ I h => Calls.Constant_str ⟨.str x,H,I.tok _,⟨_,rfl⟩,h⟩
noncomputable def Gl (X:Cx) (x:Str):Prop:=X.env.kindOf x = some .globalImplicit
theorem ld_glob {E:Value → Shared → Prop} {pins:List (Addr × Obj)} {s:Shared} {σ:St} {H:Hp} {x:Str} {u:Value} {pos:Pos} {Q:Value → Shared → Prop} (I:Inv X pins σ H s) (hg:Gl X x) (hm:X.mg x = some u) (h:Q u s)
  (hd:(x == ("__debug__":Str)) = false:=by decide):wpAny (model X.prog X.w) X.A (eval (.Name x pos) X.env) Q E s :=
 Calls.Name_function_global I.ok.kind hg (Calls.loadGlobal_global (by rw [I.ok.glob]; exact I.mod.glob.keeps I.bk) hm h) hd
theorem ld_blt {E:Value → Shared → Prop} {pins:List (Addr × Obj)} {s:Shared} {σ:St} {H:Hp} {x:Str} {u:Value} {pos:Pos} {Q:Value → Shared → Prop} (I:Inv X pins σ H s) (hg:Gl X x) (hm:X.mg x = none) (hv:bootBuiltins x = some u) (h:Q u s)
  (hn:x ≠ "__name__":=by decide) (hd:(x == ("__debug__":Str)) = false:=by decide):wpAny (model X.prog X.w) X.A (eval (.Name x pos) X.env) Q E s:=by
 obtain ⟨mb,h1,h2⟩:=I.mod.blt
 exact Calls.Name_function_global I.ok.kind hg (Calls.loadGlobal_builtin (by rw [I.ok.glob]; exact I.mod.glob.keeps I.bk) hm (by rw [I.ok.blt]; exact h1.keeps I.bk) ((h2 x hn).trans hv) h) hd
theorem pe_glob {x:Str} {v:V} {u:Value} {pos:Pos} (hg:Gl X x) (hm:X.mg x = some u) (r:RelV v u) (hd:(x == ("__debug__":Str)) = false:=by decide):PE X (.Name x pos) (tC v) :=
 fun _ _ _ H _ I h => ld_glob I hg hm ⟨v,H,I,r,h⟩ hd
theorem pe_bltn {x:Str} {v:V} {u:Value} {pos:Pos} (hg:Gl X x) (hm:X.mg x = none) (hv:bootBuiltins x = some u) (r:RelV v u) (hn:x ≠ "__name__":=by decide) (hd:(x == ("__debug__":Str)) = false:=by decide):PE X (.Name x pos) (tC v) :=
 fun _ _ _ H _ I h => ld_blt I hg hm hv ⟨v,H,I,r,h⟩ hn hd
variable {a b:Expr} {ta tb:TE} {pos:Pos}
noncomputable def tB (t:TE):TT:=fun σ H Q => t σ H fun x H1 => ∃ c,x = .bl c ∧ Q c H1
theorem pt_val {e:Expr} {t:TE} (h:PE X e t) (he:∀ whole,isTrue e X.env whole = (do let v ← whole; standAt e.pos; holding [v] (truthy v)):=by intro _; rfl):PT X e (tB t):=by
 intro pins s σ H Q I hw
 refine isTrue_plain (thn (h pins s σ H _ I hw) fun v s1 ⟨x,H1,I1,r1,q1⟩ => ?_) (he _)
 obtain ⟨d,rfl,q⟩:=q1
 cases r1
 exact wpAny_truthy_bool ⟨H1,I1,q⟩
variable {tA tB':TT} {rest:List Expr}
noncomputable def tAnd (t u:TT):TT:=fun σ H Q => t σ H fun c H1 => if c = true then u σ H1 Q else Q false H1
noncomputable def tOr (t u:TT):TT:=fun σ H Q => t σ H fun c H1 => if c = true then Q true H1 else u σ H1 Q
noncomputable def tNot (t:TT):TT:=fun σ H Q => t σ H fun c H1 => Q (!c) H1
theorem pw_and1 (ha:PT X a tA):PW X (.BoolOp .And [a] pos) tA:=by
 intro wh pins s σ H Q I h
 refine isTrue_and (thn (ha pins s σ H Q I h) fun c s1 e => ?_)
 cases c with
 | true => exact isTrue_and_nil e
 | false => exact e
theorem pw_or1 (ha:PT X a tA):PW X (.BoolOp .Or [a] pos) tA:=by
 intro wh pins s σ H Q I h
 refine isTrue_or (thn (ha pins s σ H Q I h) fun c s1 e => ?_)
 cases c with
 | false => exact isTrue_or_nil e
 | true => exact e
theorem pw_and (ha:PT X a tA) (hb:PW X (.BoolOp .And (b :: rest) pos) tB'):PW X (.BoolOp .And (a :: b :: rest) pos) (tAnd tA tB'):=by
 intro wh pins s σ H Q I h
 refine isTrue_and (thn (ha pins s σ H _ I h) fun c s1 ⟨H1,I1,q1⟩ => ?_)
 cases c with
 | true => exact hb wh pins s1 σ H1 Q I1 q1
 | false => exact ⟨H1,I1,q1⟩
theorem pw_or (ha:PT X a tA) (hb:PW X (.BoolOp .Or (b :: rest) pos) tB'):PW X (.BoolOp .Or (a :: b :: rest) pos) (tOr tA tB'):=by
 intro wh pins s σ H Q I h
 refine isTrue_or (thn (ha pins s σ H _ I h) fun c s1 ⟨H1,I1,q1⟩ => ?_)
 cases c with
 | true => exact ⟨H1,I1,q1⟩
 | false => exact hb wh pins s1 σ H1 Q I1 q1
theorem pt_not (ha:PT X a tA):PT X (.UnaryOp .Not a pos) (tNot tA):=by
 intro pins s σ H Q I h
 exact isTrue_not (ha pins s σ H (fun c H1 => Q (!c) H1) I h)
noncomputable def tAndV (ta tb:TE):TE:=fun σ H Q => ta σ H fun x H1 => ∃ c,x = .bl c ∧ if c = true then tb σ H1 Q else Q (.bl false) H1
noncomputable def tOrV (ta tb:TE):TE:=fun σ H Q => ta σ H fun x H1 => ∃ c,x = .bl c ∧ if c = true then Q (.bl true) H1 else tb σ H1 Q
noncomputable def tNotV (ta:TE):TE:=fun σ H Q => ta σ H fun x H1 => ∃ c,x = .bl c ∧ Q (.bl (!c)) H1
theorem pe_one {op} {t:TE} (h:PE X a t):PE X (.BoolOp op [a] pos) t:=fun pins s σ H Q I hw => BoolOp_one (h pins s σ H Q I hw)
theorem pe_and (ha:PE X a ta) (hb:PE X (.BoolOp .And (b :: rest) pos) tb):PE X (.BoolOp .And (a :: b :: rest) pos) (tAndV ta tb):=by
 intro pins s σ H Q I h
 refine BoolOp_and (thn (ha pins s σ H _ I h) fun v s1 ⟨x,H1,I1,r1,q1⟩ => ?_)
 obtain ⟨c,rfl,q1⟩:=q1
 cases r1
 refine wpAny_truthy_bool ?_
 cases c with
 | true => exact hb pins s1 σ H1 Q I1 q1
 | false => exact ⟨.bl false,H1,I1,rfl,q1⟩
theorem pe_or (ha:PE X a ta) (hb:PE X (.BoolOp .Or (b :: rest) pos) tb):PE X (.BoolOp .Or (a :: b :: rest) pos) (tOrV ta tb):=by
 intro pins s σ H Q I h
 refine BoolOp_or (thn (ha pins s σ H _ I h) fun v s1 ⟨x,H1,I1,r1,q1⟩ => ?_)
 obtain ⟨c,rfl,q1⟩:=q1
 cases r1
 refine wpAny_truthy_bool ?_
 cases c with
 | false => exact hb pins s1 σ H1 Q I1 q1
 | true => exact ⟨.bl true,H1,I1,rfl,q1⟩
theorem pe_not (ha:PE X a ta):PE X (.UnaryOp .Not a pos) (tNotV ta):=by
 intro pins s σ H Q I h
 refine UnaryOp_ (thn (ha pins s σ H _ I h) fun v s1 ⟨x,H1,I1,r1,q1⟩ => ?_)
 obtain ⟨c,rfl,q1⟩:=q1
 cases r1
 exact not_of (wpAny_truthy_bool ⟨.bl (!c),H1,I1,rfl,q1⟩)
noncomputable def tIf (t:TT) (ta tb:TE):TE:=fun σ H Q => t σ H fun c H1 => if c = true then ta σ H1 Q else tb σ H1 Q
theorem pe_ifExp {c:Expr} (hc:PT X c tA) (ha:PE X a ta) (hb:PE X b tb):PE X (.IfExp c a b pos) (tIf tA ta tb):=by
 intro pins s σ H Q I h
 refine wpAny_IfExp (thn (hc pins s σ H _ I h) fun d s1 ⟨H1,I1,q1⟩ => ?_)
 cases d with
 | true => exact ha pins s1 σ H1 Q I1 q1
 | false => exact hb pins s1 σ H1 Q I1 q1
end
end L2
namespace L2
open PySem PySem.Spec PyProof.Rows
noncomputable def SqL (K:PySem.W.Frag) (H:Hp) (a:Addr) (xs:List V):Prop :=
 Rd H a (.lst xs) ∨
  ∃ (o:Obj) (its:Array Value) (n:Nat),K.lookup a = some o ∧ o.cls = .type "list" ∧ o.dict = none ∧ o.data = .seq its n ∧ its.size ≤ sizeLine ∧ Vals xs its.toList
noncomputable def SqT (K:PySem.W.Frag) (H:Hp) (a:Addr) (xs:List V):Prop :=
 Rd H a (.tup xs) ∨
  ∃ (o:Obj) (its:Array Value) (n:Nat),K.lookup a = some o ∧ o.cls = .type "tuple" ∧ o.data = .seq its n ∧ its.size ≤ sizeLine ∧ Vals xs its.toList
noncomputable def absV:Value → Option V
 | .none => some .non
 | .bool b => some (.bl b)
 | .int i _ => some (.int i)
 | .str x _ => some (.str x)
 | .bytes b _ => some (.byt b)
 | .float b _ => some (.flt b)
 | .ref a => some (.ref a)
 | .type n => some (.ty n)
 | _ => none
theorem RelV.abs {x:V} {u:Value} (r:RelV x u):absV u = some x:=by
 cases x with
 | non => cases r; rfl
 | bl _ => cases r; rfl
 | int _ => obtain ⟨t,rfl⟩:=r; rfl
 | str _ => obtain ⟨t,rfl⟩:=r; rfl
 | byt _ => obtain ⟨t,rfl⟩:=r; rfl
 | flt _ => obtain ⟨t,rfl⟩:=r; rfl
 | ref _ => cases r; rfl
 | ty _ => cases r; rfl
theorem RelV.inj {x y:V} {u:Value} (r:RelV x u) (q:RelV y u):x = y:=Option.some.inj (r.abs.symm.trans q.abs)
theorem Vals.inj:∀ {xs ys:List V} {us:List Value},Vals xs us → Vals ys us → xs = ys
 | _,_,_,.nil,.nil => rfl
 | _,_,_,.cons r t,.cons r' t' => by rw [r.inj r',Vals.inj t t']
section
variable {X:Cx} {pins:List (Addr × Obj)} {σ:St} {H:Hp} {s:Shared} {a:Addr} {xs ys:List V}
theorem SqL.of {K:PySem.W.Frag} (h:H a = some (.lst xs)):SqL K H a xs:=.inl (.inl h)
theorem SqT.of {K:PySem.W.Frag} (h:H a = some (.tup xs)):SqT K H a xs:=.inl (.inl h)
theorem Inv.list (I:Inv X pins σ H s) (h:SqL X.K H a xs):∃ its:List Value,Vals xs its ∧ PlainL s.heap a its.toArray ∧ xs.length ≤ sizeLine:=by
 rcases h with h | ⟨o,its,n,hk,hc,hd,hs,hz,r⟩
 ·obtain ⟨z,its,n,r,e⟩:=h.ok I.hok
  exact ⟨its,r,⟨_,n,e,rfl,rfl,rfl⟩,z⟩
 ·refine ⟨its.toList,r,⟨o,n,I.kIn a o hk,hc,hd,by simpa using hs⟩,?_⟩
  have e:=r.length
  simp only [Array.length_toList] at e
  omega
theorem Inv.tuple (I:Inv X pins σ H s) (h:SqT X.K H a xs):∃ its:List Value,Vals xs its ∧ IsTup s.heap a its.toArray ∧ xs.length ≤ sizeLine:=by
 rcases h with h | ⟨o,its,n,hk,hc,hs,hz,r⟩
 ·obtain ⟨z,its,r,p⟩:=h.ok I.hok
  exact ⟨its,r,p,z⟩
 ·refine ⟨its.toList,r,⟨o,I.kIn a o hk,hc,n,by simpa using hs⟩,?_⟩
  have e:=r.length
  simp only [Array.length_toList] at e
  omega
theorem Inv.list_inj (I:Inv X pins σ H s) (h:SqL X.K H a xs) (h':SqL X.K H a ys):xs = ys:=by
 obtain ⟨its,r,⟨o,n,e,_,_,d⟩,_⟩:=I.list h
 obtain ⟨its',r',⟨o',n',e',_,_,d'⟩,_⟩:=I.list h'
 rw [e] at e'; cases e'
 rw [d] at d'
 injection d' with d1 _
 have:its = its':=by simpa using congrArg Array.toList d1
 subst this
 exact r.inj r'
theorem Inv.tuple_inj (I:Inv X pins σ H s) (h:SqT X.K H a xs) (h':SqT X.K H a ys):xs = ys:=by
 obtain ⟨its,r,⟨o,e,_,n,d⟩,_⟩:=I.tuple h
 obtain ⟨its',r',⟨o',e',_,n',d'⟩,_⟩:=I.tuple h'
 rw [e] at e'; cases e'
 rw [d] at d'
 injection d' with d1 _
 have:its = its':=by simpa using congrArg Array.toList d1
 subst this
 exact r.inj r'
end
noncomputable abbrev Cx.wish (X:Cx) (E:Value → Shared → Prop):Cx:={ X with xe:=E }
noncomputable abbrev Cx.nox (X:Cx):Cx:=X.wish fun _ _ => False
theorem Cx.Ok.wish {X:Cx} (ok:X.Ok) (E:Value → Shared → Prop):(X.wish E).Ok :=
 ⟨ok.mod,ok.kind,ok.glob,ok.blt,ok.above,ok.inj,ok.has,ok.cab,ok.hd,ok.frames,ok.stk,ok.exf,ok.bs,ok.bsz,ok.noex,ok.exfs,ok.funs,ok.frf⟩
theorem Cx.Ok.unwish {X:Cx} {E:Value → Shared → Prop} (ok:(X.wish E).Ok):X.Ok :=
 ⟨ok.mod,ok.kind,ok.glob,ok.blt,ok.above,ok.inj,ok.has,ok.cab,ok.hd,ok.frames,ok.stk,ok.exf,ok.bs,ok.bsz,ok.noex,ok.exfs,ok.funs,ok.frf⟩
section
variable {X:Cx} {pins:List (Addr × Obj)} {σ:St} {H:Hp} {s:Shared} {E:Value → Shared → Prop}
theorem Inv.wish (I:Inv X pins σ H s) (E:Value → Shared → Prop):Inv (X.wish E) pins σ H s:=⟨I.ok.wish E,I.os,I.bare,I.base,I.loc,I.cell,I.free,I.freeC,I.pin,I.hok,I.len⟩
theorem Inv.unwish (I:Inv (X.wish E) pins σ H s):Inv X pins σ H s:=⟨I.ok.unwish,I.os,I.bare,I.base,I.loc,I.cell,I.free,I.freeC,I.pin,I.hok,I.len⟩
theorem SP.unwish {D:Ends} {f:Flow} {s':Shared} (h:SP (X.wish E) pins D f s'):SP X pins D f s':=by
 cases f with
 | next => obtain ⟨σ',H',I,q⟩:=h; exact ⟨σ',H',I.unwish,q⟩
 | brk => obtain ⟨σ',H',I,q⟩:=h; exact ⟨σ',H',I.unwish,q⟩
 | cont => obtain ⟨σ',H',I,q⟩:=h; exact ⟨σ',H',I.unwish,q⟩
 | ret u => obtain ⟨v,σ',H',I,r,q⟩:=h; exact ⟨v,σ',H',I.unwish,r,q⟩
theorem PE.nox {e:Expr} {t:TE} (h:PE X.nox e t):PE X e t:=fun pins s σ H Q I hw =>
 wpAny_mono (h pins s σ H Q (I.wish _) hw) (fun _ _ ⟨v,H',I',r,q⟩ => ⟨v,H',I'.unwish,r,q⟩) fun _ _ z => False.elim z
theorem PT.nox {e:Expr} {t:TT} (h:PT X.nox e t):PT X e t:=fun pins s σ H Q I hw =>
 wpAny_mono (h pins s σ H Q (I.wish _) hw) (fun _ _ ⟨H',I',q⟩ => ⟨H',I'.unwish,q⟩) fun _ _ z => False.elim z
theorem PSs.nox {st:List Stmt} {t:TS} (h:PSs X.nox st t):PSs X st t:=fun pins s σ H D I hw =>
 wpAny_mono (h pins s σ H D (I.wish _) hw) (fun _ _ q => q.unwish) fun _ _ z => False.elim z
end
section
variable {X:Cx} {st:Stmt} {rest:List Stmt} {t u:TS} {e:Expr} {te:TE} {pos:Pos}
noncomputable def tNext:TS:=fun D σ H => D.nx σ H
noncomputable def tSeq (t u:TS):TS:=fun D σ H => t { D with nx:=u D } σ H
theorem pss_nil:PSs X [] tNext:=fun _ _ σ H _ I h => wpAny_execs_nil ⟨σ,H,I,h⟩
theorem pss_cons (h1:PS X st t) (h2:PSs X rest u):PSs X (st :: rest) (tSeq t u):=by
 intro pins s σ H D I h
 refine wpAny_execs_cons (thn (h1 pins s σ H { D with nx:=u D } I h) fun f s1 q => ?_)
 cases f with
 | next =>
  obtain ⟨σ',H',I',q⟩:=q
  exact h2 pins s1 σ' H' D I' q
 | ret v => exact q
 | brk => exact q
 | cont => exact q
theorem pss_one (h1:PS X st t):PSs X [st] t:=by
 intro pins s σ H D I h
 refine wpAny_execs_cons (thn (h1 pins s σ H D I h) fun f s1 q => ?_)
 cases f with
 | next => exact wpAny_execs_nil q
 | ret v => exact q
 | brk => exact q
 | cont => exact q
noncomputable def tBreak:TS:=fun D σ H => D.bk σ H
theorem ps_break:PS X (.Break pos) tBreak:=fun _ _ σ H _ I h => wpAny_Break ⟨σ,H,I,h⟩
theorem Inv.quiet {pins:List (Addr × Obj)} {σ:St} {H:Hp} {s:Shared} (I:Inv X pins σ H s):interactive X.env = false:=by simp [interactive,I.ok.kind]
noncomputable def tDrop (te:TE):TS:=fun D σ H => te σ H fun _ H1 => D.nx σ H1
theorem ps_expr (he:PE X e te) (hs:swapsWith e none pos.line X.env = pure false:=by rfl):PS X (.Expr e pos) (tDrop te):=by
 intro pins s σ H D I h
 exact wpAny_Expr_any (thn (he pins s σ H _ I h) fun v s1 ⟨x,H1,I1,r1,q1⟩ => ⟨σ,H1,I1,q1⟩) I.quiet hs
noncomputable def tRet (te:TE):TS:=fun D σ H => te σ H D.rt
theorem ps_ret (he:PE X e te):PS X (.Return (some e) pos) (tRet te):=by
 intro pins s σ H D I h
 exact wpAny_Return_some (thn (he pins s σ H _ I h) fun v s1 ⟨x,H1,I1,r1,q1⟩ => ⟨x,σ,H1,I1,r1,q1⟩)
noncomputable def tIfS (c:TT) (t u:TS):TS:=fun D σ H => c σ H fun b H1 => if b = true then t D σ H1 else u D σ H1
theorem ps_if {c:Expr} {a b:List Stmt} {tc:TT} (hc:PT X c tc) (ha:PSs X a t) (hb:PSs X b u):PS X (.If c a b pos) (tIfS tc t u):=by
 intro pins s σ H D I h
 refine wpAny_If (thn (hc pins s σ H _ I h) fun d s1 ⟨H1,I1,q1⟩ => ?_)
 cases d with
 | true => exact ha pins s1 σ H1 D I1 q1
 | false => exact hb pins s1 σ H1 D I1 q1
noncomputable def tNever:TS:=fun _ _ _ => False
theorem ps_never:PS X st tNever:=fun _ _ _ _ _ _ h => h.elim
end
noncomputable abbrev TG:=V → St → Hp → (St → Hp → Prop) → Prop
noncomputable abbrev TGs:=List V → St → Hp → (St → Hp → Prop) → Prop
noncomputable def PG (X:Cx) (target:Expr) (t:TG):Prop :=
 ∀ (pins:List (Addr × Obj)) (s:Shared) (σ:St) (H:Hp) (v:V) (u:Value) (Q:St → Hp → Prop),Inv X pins σ H s → RelV v u → t v σ H Q →
  wpAny (model X.prog X.w) X.A (assign target X.env u) (fun _ s' => ∃ σ' H',Inv X pins σ' H' s' ∧ Q σ' H') X.xe s
noncomputable def PGs (X:Cx) (ts:List Expr) (t:TGs):Prop :=
 ∀ (pins:List (Addr × Obj)) (s:Shared) (σ:St) (H:Hp) (vs:List V) (us:List Value) (Q:St → Hp → Prop),Inv X pins σ H s → Vals vs us → t vs σ H Q →
  wpAny (model X.prog X.w) X.A (assignInOrder ((assignEach ts X.env).map (·.2)) us) (fun _ s' => ∃ σ' H',Inv X pins σ' H' s' ∧ Q σ' H') X.xe s
noncomputable abbrev TSet:=V → V → V → Hp → (Hp → Prop) → Prop
noncomputable def PSet (X:Cx) (t:TSet):Prop :=
 ∀ (pins:List (Addr × Obj)) (s:Shared) (σ:St) (H:Hp) (o i v:V) (ov iv u:Value) (Q:Hp → Prop),Inv X pins σ H s → RelV o ov → RelV i iv → RelV v u → t o i v H Q →
  wpAny (model X.prog X.w) X.A (setItem ov iv u) (fun _ s' => ∃ H',Inv X pins σ H' s' ∧ Q H') X.xe s
noncomputable abbrev TIp:=V → V → Hp → VK → Prop
noncomputable def PIp (X:Cx) (op:Operator) (t:TIp):Prop :=
 ∀ (pins:List (Addr × Obj)) (s:Shared) (σ:St) (H:Hp) (x y:V) (v u:Value) (Q:VK),Inv X pins σ H s → RelV x v → RelV y u → t x y H Q →
  wpAny (model X.prog X.w) X.A (inplaceOp op v u) (EP X pins σ Q) X.xe s
section
variable {X:Cx} {pos:Pos}
noncomputable def gName (i:Nat):TG:=fun v σ H Q => Q (σ.set i (some v)) H
theorem pg_name {i:Nat} {x:Str} (hN:X.N.Nodup) (hi:X.N[i]? = some x) (hx:Loc X.env.scope x) (hf:X.fn x = true ∨ X.env.scope.names.lookup x = some .local:=by first | exact .inl rfl | exact .inr rfl | assumption):PG X (.Name x pos) (gName i):=by
 intro pins s σ H v u Q I r h
 exact wpAny_assign_Name (store_ok I hN hi hx r (fun s' I' => ⟨_,H,I',h⟩) hf)
noncomputable def gNil:TGs:=fun vs σ H Q => vs = [] ∧ Q σ H
noncomputable def gCons (t:TG) (u:TGs):TGs:=fun vs σ H Q => ∃ v r,vs = v :: r ∧ t v σ H fun σ' H' => u r σ' H' Q
theorem pgs_nil:PGs X [] gNil:=by
 intro pins s σ H vs us Q I r h
 obtain ⟨e,h⟩:=h
 subst e
 cases r
 exact assignInOrder_nil ⟨σ,H,I,h⟩
theorem pgs_cons {e:Expr} {es:List Expr} {t:TG} {u:TGs} (h1:PG X e t) (h2:PGs X es u)
  (hs:(assignEach (e :: es) X.env).map (·.2) = assign e X.env :: (assignEach es X.env).map (·.2):=by rfl):PGs X (e :: es) (gCons t u):=by
 intro pins s σ H vs us Q I r h
 obtain ⟨v,vr,e1,h⟩:=h
 subst e1
 cases r with
 | cons r rr =>
  rw [hs]
  refine assignInOrder_cons (thn (h1 pins s σ H _ _ _ I r h) fun _ s1 ⟨σ1,H1,I1,q1⟩ => ?_)
  exact h2 pins s1 σ1 H1 _ _ Q I1 rr q1
noncomputable def gTup (K:PySem.W.Frag) (n:Nat) (t:TGs):TG:=fun v σ H Q => ∃ a xs,v = .ref a ∧ SqT K H a xs ∧ xs.length = n ∧ t xs σ H Q
theorem pg_tup {es:List Expr} {k:Nat} {t:TGs} {n:Nat} (hc:X.calm = true) (h:PGs X es t)
  (hn:(assignEach es X.env).length = n:=by rfl) (hst:(assignEach es X.env).findIdx? (·.1) = none:=by rfl):PG X (.Tuple es k pos) (gTup X.K n t):=by
 intro pins s σ H v u Q I r hw
 obtain ⟨a,xs,e1,hq,hl,hw⟩:=hw
 subst e1
 cases r
 obtain ⟨its,rv,ht,hz⟩:=I.tuple hq
 refine assign_Tuple_tuple (I.ok.hd hc) ht (by simp [hn,← hl,rv.length]) hst fun h' hx => ?_
 have I1:Inv X pins σ H { s with heap:=h' }:=I.kept (t':=s.toks) fun b o e => hx b o (Nat.ne_of_lt (Heap.lt_size e)) e
 exact h pins _ σ H xs _ Q I1 (by simpa using rv) hw
noncomputable def gSub (to ti:TE) (t:TSet):TG:=fun v σ H Q => to σ H fun o H1 => ti σ H1 fun i H2 => t o i v H2 fun H3 => Q σ H3
theorem pg_sub {o i:Expr} {to ti:TE} {t:TSet} (ho:PE X o to) (hi:PE X i ti) (hs:PSet X t)
  (ha:∀ v,assign (.Subscript o i pos) X.env v = (do
   let ov ← holding [v] (eval o X.env)
   let iv ← holding [v,ov] (eval i X.env)
   standAt pos
   holding [v,ov,iv] (setItem ov iv v)
   release [v,ov,iv] []):=by intro _; rfl):PG X (.Subscript o i pos) (gSub to ti t):=by
 intro pins s σ H v u Q I r h
 rw [ha]
 refine wpAny_bind (wpAny_holding (thn (ho pins s σ H _ I h) fun ov s1 ⟨x,H1,I1,r1,q1⟩ => ?_))
 refine wpAny_bind (wpAny_holding (thn (hi pins s1 σ H1 _ I1 q1) fun iv s2 ⟨y,H2,I2,r2,q2⟩ => ?_))
 refine wpAny_bind (wpAny_standAt (wpAny_bind (wpAny_holding (thn (hs pins s2 σ H2 x y v ov iv u _ I2 r1 r2 r q2) fun _ s3 ⟨H3,I3,q3⟩ => ?_))))
 exact wpAny_release ⟨σ,H3,I3,q3⟩
noncomputable def tAsg (te:TE) (g:TG):TS:=fun D σ H => te σ H fun x H1 => g x σ H1 D.nx
theorem ps_asg {tg e:Expr} {te:TE} {g:TG} (he:PE X e te) (hg:PG X tg g) (hs:swapsWithSole [tg] e pos.line X.env = pure false:=by rfl) (hw:swappedStores [tg] e X.env = pure none:=by rfl)
  (h1:(assignEach [tg] X.env).map (·.2) = [assign tg X.env]:=by rfl):PS X (.Assign [tg] e pos) (tAsg te g):=by
 intro pins s σ H D I h
 refine wpAny_Assign_stores (thn (he pins s σ H _ I h) fun v s1 ⟨x,H1,I1,r1,q1⟩ => ?_) hs hw
 rw [h1]
 exact thn (hg pins s1 σ H1 x v _ I1 r1 q1) fun _ s2 q => q
theorem ps_set {i:Nat} {x:Str} {e:Expr} {te:TE} {pos':Pos} (hN:X.N.Nodup) (hi:X.N[i]? = some x) (hx:Loc X.env.scope x) (he:PE X e te) (hs:swapsWith e (some (.Name x pos')) pos.line X.env = pure false:=by rfl) (hf:X.fn x = true ∨ X.env.scope.names.lookup x = some .local:=by first | exact .inl rfl | exact .inr rfl | assumption) :
  PS X (.Assign [.Name x pos'] e pos) (tAsg te (gName i)):=by
 intro pins s σ H D I h
 refine wpAny_Assign_Name (thn (he pins s σ H _ I h) fun v s1 ⟨y,H1,I1,r1,q1⟩ => ?_) hs
 exact store_ok I1 hN hi hx r1 (fun s2 I2 => ⟨_,H1,I2,q1⟩) hf
noncomputable def tAug (i:Nat) (te:TE) (ti:TIp):TS:=fun D σ H => ∃ x,σ[i]? = some (some x) ∧ te σ H fun y H1 => ti x y H1 fun z H2 => D.nx (σ.set i (some z)) H2
theorem ps_aug {i:Nat} {x:Str} {e:Expr} {te:TE} {op:Operator} {ti:TIp} {pos':Pos} (hN:X.N.Nodup) (hi:X.N[i]? = some x) (hx:Loc X.env.scope x) (he:PE X e te) (ho:PIp X op ti) (hf:X.fn x = true ∨ X.env.scope.names.lookup x = some .local:=by first | exact .inl rfl | exact .inr rfl | assumption) :
  PS X (.AugAssign (.Name x pos') op e pos) (tAug i te ti):=by
 intro pins s σ H D I h
 obtain ⟨v,e1,h⟩:=h
 obtain ⟨m,hn,hl⟩:=I.loc
 have vis:Vis X.env.scope x:=by rcases hx with k | k; exact .inl k; exact .inr (.inl k)
 obtain ⟨u,r,l⟩:=hl i x v hi e1 vis
 refine wpAny_AugAssign_Name ?_
 have go:wpAny (model X.prog X.w) X.A (eval e X.env) (fun w s₂ => wpAny (model X.prog X.w) X.A (inplaceOp op u w) (fun r s₃ => wpAny (model X.prog X.w) X.A (storeName X.env x r) (fun _ => SP X pins D .next) X.xe s₃) X.xe s₂) X.xe s:=by
  refine thn (he pins s σ H _ I h) fun w s1 ⟨y,H1,I1,r1,q1⟩ => ?_
  refine thn (ho pins s1 σ H1 v y u w _ I1 r r1 q1) fun z s2 ⟨zv,H2,I2,r2,q2⟩ => ?_
  exact store_ok I2 hN hi hx r2 (fun s3 I3 => ⟨_,H2,I3,q2⟩) hf
 rcases l with ⟨hk,hm⟩ | ⟨hk,c,hc,hcell⟩
 ·exact wpAny_loadName_local I.ok.kind hk hn hm go
 ·rcases hk with hk | hk
  ·exact wpAny_loadName_cell I.ok.kind hk hc hcell go
  ·rcases hx with k | k
   ·have:X.env.scope.names.lookup x = some .free:=hk
    rw [k] at this; cases this
   ·have:X.env.scope.names.lookup x = some .free:=hk
    rw [k] at this; cases this
noncomputable def ipI (f:Int → Int → Int):TIp:=fun x y H Q => ∃ i j,x = .int i ∧ y = .int j ∧ Q (.int (f i j)) H
theorem ip_add:PIp X .Add (ipI fun i j => i + j):=by
 intro pins s σ H x y v u Q I r1 r2 h
 obtain ⟨i,j,e1,e2,q⟩:=h
 subst e1; subst e2
 obtain ⟨t,rfl⟩:=r1
 obtain ⟨t',rfl⟩:=r2
 exact iadd_int ⟨.int _,H,I.tok _,⟨_,rfl⟩,q⟩
theorem ip_sub:PIp X .Sub (ipI fun i j => i - j):=by
 intro pins s σ H x y v u Q I r1 r2 h
 obtain ⟨i,j,e1,e2,q⟩:=h
 subst e1; subst e2
 obtain ⟨t,rfl⟩:=r1
 obtain ⟨t',rfl⟩:=r2
 exact isub_int ⟨.int _,H,I.tok _,⟨_,rfl⟩,q⟩
end
section
variable {X:Cx} {pos:Pos}
noncomputable def tWhile (c:TT) (tb:TS):TS:=fun D σ H => ∃ W:Nat → St → Hp → Prop,(∃ m,W m σ H) ∧ ∀ m σ H,W m σ H →
 c σ H fun b H1 => if b = true then ∃ N:St → Hp → Prop,(∀ σ' H',N σ' H' → ∃ m',m' < m ∧ W m' σ' H') ∧ tb { D with nx:=N,ct:=N,bk:=D.nx } σ H1 else D.nx σ H1
theorem ps_while {c:Expr} {body:List Stmt} {tc:TT} {tb:TS} (hp:PassesOwn (model X.prog X.w) X.A X.env X.xe) (hc:PT X c tc) (hb:PSs X body tb):PS X (.While c body [] pos) (tWhile tc tb):=by
 intro pins s σ H D I h
 obtain ⟨W,⟨m0,w0⟩,turn⟩:=h
 refine wpAny_While (codeAny_whileLoop (fun n s' => ∃ σ' H',Inv X pins σ' H' s' ∧ W n σ' H') ?_ m0 ⟨σ,H,I,w0⟩)
 rintro n s1 ⟨σ1,H1,I1,w1⟩
 refine wpAny_passesOwn hp (thn (hc pins s1 σ1 H1 _ I1 (turn n σ1 H1 w1)) fun b s2 ⟨H2,I2,q2⟩ => ?_)
 cases b with
 | true =>
  obtain ⟨N,hN,q2⟩:=q2
  rw [if_pos rfl]
  refine wpAny_passesOwn hp (thn (hb pins s2 σ1 H2 _ I2 q2) fun f s3 q3 => ?_)
  cases f with
  | next =>
   obtain ⟨σ3,H3,I3,n3⟩:=q3
   obtain ⟨m',hm,w3⟩:=hN σ3 H3 n3
   exact ⟨m',hm,σ3,H3,I3,w3⟩
  | cont =>
   obtain ⟨σ3,H3,I3,n3⟩:=q3
   obtain ⟨m',hm,w3⟩:=hN σ3 H3 n3
   exact ⟨m',hm,σ3,H3,I3,w3⟩
  | brk => exact q3
  | ret v => exact q3
 | false =>
  rw [if_neg Bool.false_ne_true]
  exact wpAny_execs_nil ⟨σ1,H2,I2,q2⟩
end
structure It where
 go:Nat → Hp → Prop
 yld:Nat → Hp → V → Hp → Prop
 stop:Nat → Hp → Prop
noncomputable def FpOk (X:Cx) (pins:List (Addr × Obj)) (H:Hp) (b:Addr):Prop :=
 H b = none ∧ b ≠ X.env.locals ∧ b ∉ X.fs ∧ (b ∈ X.ex ∨ X.s₀.heap.objs.size ≤ b) ∧ (∀ x c,X.env.cells.lookup x = some c → c ≠ b) ∧ ∀ p ∈ X.pn ++ pins,p.1 ≠ b
theorem Inv.fpOk {X:Cx} {pins:List (Addr × Obj)} {σ:St} {H H':Hp} {s:Shared} {b:Addr} (I:Inv X pins σ H s) (hb:s.heap.objs.size ≤ b) (hn:H' b = none):FpOk X pins H' b:=by
 refine ⟨hn,Nat.ne_of_gt (Nat.lt_of_lt_of_le I.lt hb),I.nofs hb,.inr (Nat.le_trans I.sz hb),fun x c e z => ?_,fun p hp z => ?_⟩
 ·obtain ⟨v,q⟩:=I.cell x c e
  exact absurd (Nat.lt_of_lt_of_le q.lt (by rw [z]; exact hb)) (Nat.lt_irrefl _)
 ·exact absurd (Nat.lt_of_lt_of_le (Heap.lt_size (I.pin p hp).1) (by rw [z]; exact hb)) (Nat.lt_irrefl _)
structure Turn (P:Program) (w:World) (K:PySem.W.Frag) (tg:Expr) (J:It) (fp:List Addr) (it:Addr) (tn:Nat → Heap → Prop):Prop where
 mem:it ∈ fp
 obj:∀ i h,tn i h → ∀ b ∈ fp,∃ o,h.get? b = some o ∧ ∀ v,o.data ≠ .cell v
 keep:∀ i h h',tn i h → (∀ b ∈ fp,∀ o,h.get? b = some o → h'.get? b = some o) → tn i h'
 item:∀ (X:Cx),X.prog = P → X.w = w → X.K = K → X.calm = true → ∀ (i:Nat) (pins:List (Addr × Obj)) (s:Shared) (σ:St) (H:Hp) (E:Value → Shared → Prop),Inv X pins σ H s → (∀ b ∈ fp,FpOk X pins H b) → tn i s.heap → J.go i H →
  wpAny (model P w) X.A (pyNext (.ref it)) (fun r s1 => ∃ u,r = some u ∧
   wpAny (model P w) X.A (letOwnedTupleGo tg (.ref it) u) (fun _ s2 => ∃ x H',Inv X pins σ H' s2 ∧ RelV x u ∧ J.yld i H x H' ∧ tn (i + 1) s2.heap ∧ ∀ b ∈ fp,H' b = none) E s1) E s
 done:∀ (X:Cx),X.prog = P → X.w = w → X.K = K → X.calm = true → ∀ (i:Nat) (pins:List (Addr × Obj)) (s:Shared) (σ:St) (H:Hp) (E:Value → Shared → Prop),Inv X pins σ H s → (∀ b ∈ fp,FpOk X pins H b) → tn i s.heap → J.stop i H →
  wpAny (model P w) X.A (pyNext (.ref it)) (fun r s1 => r = none ∧ Inv X pins σ H s1) E s
 self:∀ (A:Around) (i:Nat) (s:Shared) (Q:Value → Shared → Prop) (E:Value → Shared → Prop),tn i s.heap → Q (.ref it) s → wpAny (model P w) A (pyIter (.ref it)) Q E s
noncomputable abbrev TI:=St → Hp → (It → Hp → Prop) → Prop
noncomputable def PIE (X:Cx) (pins:List (Addr × Obj)) (σ:St) (tg:Expr) (R:It → Hp → Prop) (itv:Value) (s2:Shared):Prop :=
 ∃ (it:Addr) (fp:List Addr) (tn:Nat → Heap → Prop) (J:It) (H':Hp),itv = .ref it ∧ Inv X pins σ H' s2 ∧ Turn X.prog X.w X.K tg J fp it tn ∧ tn 0 s2.heap ∧ (∀ b ∈ fp,FpOk X pins H' b) ∧ R J H'
noncomputable def PI (X:Cx) (tg iter:Expr) (wi:TI):Prop :=
 ∀ (pins:List (Addr × Obj)) (s:Shared) (σ:St) (H:Hp) (R:It → Hp → Prop),Inv X pins σ H s → wi σ H R →
  wpAny (model X.prog X.w) X.A (eval iter X.env) (fun v s1 => wpAny (model X.prog X.w) X.A (pyIter v) (PIE X pins σ tg R) X.xe s1) X.xe s
theorem go_of {M:Model} {A:Around} {E:Value → Shared → Prop} {s:Shared} {tg:Expr} {it:Addr} {u:Value} {o:Obj} {n:String} {vs:Array Value} {Q:Unit → Shared → Prop} (ho:s.heap.get? it = some o) (hc:o.cls = .type n) (hd:o.data = .fields vs)
  (hn:["enumerate","zip","dict_itemiterator","dict_reverseitemiterator","odict_iterator","itertools.zip_longest","itertools.pairwise"].contains n = false) (hQ:Q () s):wpAny M A (letOwnedTupleGo tg (.ref it) u) Q E s:=by
 unfold letOwnedTupleGo
 cases tg <;> first
  | exact wpAny_pure hQ
  | (cases u <;> first
    | exact wpAny_pure hQ
    | (refine wpAny_bind (wpAny_load ho ?_)
       rw [hc,hd]
       show wpAny M A (if (["enumerate","zip","dict_itemiterator","dict_reverseitemiterator","odict_iterator","itertools.zip_longest","itertools.pairwise"].contains n && vs[0]? == some (rawInt _)) = true then _ else _) Q E s
       rw [if_neg (by intro h; rw [hn,Bool.false_and] at h; cases h)]
       exact wpAny_pure hQ))
noncomputable def Itl (K:PySem.W.Frag) (a:Addr):It :=
 ⟨fun i H => ∃ xs x,SqL K H a xs ∧ xs[i]? = some x,fun i H x H' => H' = H ∧ ∀ xs,SqL K H a xs → xs[i]? = some x,fun i H => ∃ xs,SqL K H a xs ∧ xs.length ≤ i⟩
noncomputable def Itt (K:PySem.W.Frag) (a:Addr):It :=
 ⟨fun i H => ∃ xs x,SqT K H a xs ∧ xs[i]? = some x,fun i H x H' => H' = H ∧ ∀ xs,SqT K H a xs → xs[i]? = some x,fun i H => ∃ xs,SqT K H a xs ∧ xs.length ≤ i⟩
noncomputable def Itr (lo:Int) (n:Nat):It:=⟨fun i _ => i < n,fun i H x H' => H' = H ∧ x = .int (lo + i),fun i _ => n ≤ i⟩
theorem turn_list {P:Program} {w:World} {K:PySem.W.Frag} {tg:Expr} (a it:Addr):Turn P w K tg (Itl K a) [it] it (fun i h => h.IsListIter it a i) where
 mem:=by simp
 obj:=fun i h st b hb => by
  have e:b = it:=by simpa using hb
  subst e
  obtain ⟨o,e,c,d⟩:=st
  exact ⟨o,e,fun v z => by rw [d] at z; cases z⟩
 keep:=fun i h h' st k => st.at fun o e => k it (by simp) o e
 item:=by
  intro X hP hw hK hc i pins s σ H E I hf st hg
  subst hP hw hK
  obtain ⟨xs,x,hq,hx⟩:=hg
  obtain ⟨its,rv,p,hz⟩:=I.list hq
  obtain ⟨u,hu,ru⟩:=rv.get hx
  obtain ⟨f0,f1,f2,f3,f4,f5⟩:=hf it (by simp)
  refine wpAny_pyNext_list_item st p.isList (x:=u) (by simpa using hu) fun h' st' sb => ?_
  have I1:Inv X pins σ H { s with heap:=h' }:=I.turned (t':=s.toks) (fun b o hb e => (sb.2 b hb).trans e) f0 f1 f3 f4 f5
  obtain ⟨o,e,c,d⟩:=id st'
  exact ⟨u,rfl,go_of (s:={ s with heap:=h' }) e c d (by decide) ⟨x,H,I1,ru,⟨rfl,fun ys hy => by rw [I.list_inj hy hq]; exact hx⟩,st',fun b hb => (hf b hb).1⟩⟩
 done:=by
  intro X hP hw hK hc i pins s σ H E I hf st hg
  subst hP hw hK
  obtain ⟨xs,hq,hx⟩:=hg
  obtain ⟨its,rv,p,hz⟩:=I.list hq
  obtain ⟨f0,f1,f2,f3,f4,f5⟩:=hf it (by simp)
  have hl:=rv.length
  exact wpAny_pyNext_list_end (I.ok.hd hc) st p.isList (by simp; omega) fun h' eb => ⟨rfl,I.turned (t':=s.toks) (fun b o hb e => eb b o hb e) f0 f1 f3 f4 f5⟩
 self:=fun _ _ _ _ _ st h => wpAny_pyIter_listiter st h
theorem turn_tuple {P:Program} {w:World} {K:PySem.W.Frag} {tg:Expr} (a it:Addr):Turn P w K tg (Itt K a) [it] it (fun i h => h.IsTupleIter it a i) where
 mem:=by simp
 obj:=fun i h st b hb => by
  have e:b = it:=by simpa using hb
  subst e
  obtain ⟨o,e,c,d⟩:=st
  exact ⟨o,e,fun v z => by rw [d] at z; cases z⟩
 keep:=fun i h h' st k => st.at fun o e => k it (by simp) o e
 item:=by
  intro X hP hw hK hc i pins s σ H E I hf st hg
  subst hP hw hK
  obtain ⟨xs,x,hq,hx⟩:=hg
  obtain ⟨its,rv,p,hz⟩:=I.tuple hq
  obtain ⟨u,hu,ru⟩:=rv.get hx
  obtain ⟨f0,f1,f2,f3,f4,f5⟩:=hf it (by simp)
  refine wpAny_pyNext_tuple_item st (show s.heap.IsTuple a its.toArray from p) (x:=u) (by simpa using hu) fun h' st' sb => ?_
  have I1:Inv X pins σ H { s with heap:=h' }:=I.turned (t':=s.toks) (fun b o hb e => (sb.2 b hb).trans e) f0 f1 f3 f4 f5
  obtain ⟨o,e,c,d⟩:=id st'
  exact ⟨u,rfl,go_of (s:={ s with heap:=h' }) e c d (by decide) ⟨x,H,I1,ru,⟨rfl,fun ys hy => by rw [I.tuple_inj hy hq]; exact hx⟩,st',fun b hb => (hf b hb).1⟩⟩
 done:=by
  intro X hP hw hK hc i pins s σ H E I hf st hg
  subst hP hw hK
  obtain ⟨xs,hq,hx⟩:=hg
  obtain ⟨its,rv,p,hz⟩:=I.tuple hq
  obtain ⟨f0,f1,f2,f3,f4,f5⟩:=hf it (by simp)
  have hl:=rv.length
  exact wpAny_pyNext_tuple_end (I.ok.hd hc) st (show s.heap.IsTuple a its.toArray from p) (by simp; omega) fun h' eb => ⟨rfl,I.turned (t':=s.toks) (fun b o hb e => eb b o hb e) f0 f1 f3 f4 f5⟩
 self:=fun _ _ _ _ _ st h => wpAny_pyIter_tupleiter st h
theorem turn_range {P:Program} {w:World} {K:PySem.W.Frag} {tg:Expr} (it:Addr) (lo:Int) (n:Nat):Turn P w K tg (Itr lo n) [it] it (fun i h => IsRangeIter h it (lo + (i:Nat) * 1) ((n:Int) - (i:Nat)) 1) where
 mem:=by simp
 obj:=fun i h st b hb => by
  have e:b = it:=by simpa using hb
  subst e
  exact ⟨_,st,fun v z => by
   have z':Data.fields _ = Data.cell v:=z
   cases z'⟩
 keep:=fun i h h' st k => k it (by simp) _ st
 item:=by
  intro X hP hw hK hc i pins s σ H E I hf st hg
  subst hP hw hK
  obtain ⟨f0,f1,f2,f3,f4,f5⟩:=hf it (by simp)
  have W:=Walks.range (prog:=X.prog) (w:=X.w) (I.ok.hd hc) it lo 1 n
  refine W.item i s _ _ hg st fun v h' tk hv st' kk => ?_
  obtain ⟨t,rfl⟩:=hv
  have I1:Inv X pins σ H { s with heap:=h',toks:=tk }:=I.turned (fun b o hb e => kk b o (by simpa using hb) e) f0 f1 f3 f4 f5
  refine ⟨_,rfl,go_of (s:={ s with heap:=h',toks:=tk }) (n:="range_iterator") st' rfl rfl (by decide) ⟨.int (lo + i),H,I1,⟨t,?_⟩,⟨rfl,rfl⟩,st',fun b hb => (hf b hb).1⟩⟩
  rw [Int.mul_one]
 done:=by
  intro X hP hw hK hc i pins s σ H E I hf st hg
  subst hP hw hK
  obtain ⟨f0,f1,f2,f3,f4,f5⟩:=hf it (by simp)
  exact wpAny_pyNext_range_end (I.ok.hd hc) st (by have:n ≤ i:=hg; omega) fun h' eb => ⟨rfl,I.turned (t':=s.toks) (fun b o hb e => eb b o hb e) f0 f1 f3 f4 f5⟩
 self:=fun _ _ _ _ _ st h => wpAny_pyIter_rangeiter st h
end L2
namespace L2
open PySem PySem.Spec PyProof.Rows
section
variable {X:Cx} {tg:Expr}
noncomputable def iList (K:PySem.W.Frag) (tl:TE):TI:=fun σ H R => tl σ H fun x H1 => ∃ a,x = .ref a ∧ (∃ xs,SqL K H1 a xs) ∧ R (Itl K a) H1
noncomputable def iTup (K:PySem.W.Frag) (tl:TE):TI:=fun σ H R => tl σ H fun x H1 => ∃ a,x = .ref a ∧ (∃ xs,SqT K H1 a xs) ∧ R (Itt K a) H1
theorem pi_list {l:Expr} {tl:TE} (hl:PE X l tl):PI X tg l (iList X.K tl):=by
 intro pins s σ H R I h
 refine thn (hl pins s σ H _ I h) fun v s1 ⟨x,H1,I1,r1,q1⟩ => ?_
 obtain ⟨a,e,⟨xs,hq⟩,q⟩:=q1
 subst e
 cases r1
 obtain ⟨its,rv,p,hz⟩:=I1.list hq
 refine wpAny_pyIter_list p.isList ?_
 refine ⟨s1.heap.objs.size,[s1.heap.objs.size],_,_,H1,rfl,I1.kept (t':=s1.toks) fun b o e => Heap.get?_push_of_some _ e,turn_list a _,⟨_,Heap.get?_push_size _ rfl,rfl,rfl⟩,fun b hb => ?_,q⟩
 have e:b = s1.heap.objs.size:=by simpa using hb
 subst e
 exact I1.fpOk (Nat.le_refl _) (I1.hok.fresh (Nat.le_refl _))
theorem pi_tup {l:Expr} {tl:TE} (hl:PE X l tl):PI X tg l (iTup X.K tl):=by
 intro pins s σ H R I h
 refine thn (hl pins s σ H _ I h) fun v s1 ⟨x,H1,I1,r1,q1⟩ => ?_
 obtain ⟨a,e,⟨xs,hq⟩,q⟩:=q1
 subst e
 cases r1
 obtain ⟨its,rv,p,hz⟩:=I1.tuple hq
 refine wpAny_pyIter_tuple (show s1.heap.IsTuple a its.toArray from p) ?_
 refine ⟨s1.heap.objs.size,[s1.heap.objs.size],_,_,H1,rfl,I1.kept (t':=s1.toks) fun b o e => Heap.get?_push_of_some _ e,turn_tuple a _,⟨_,Heap.get?_push_size _ rfl,rfl,rfl⟩,fun b hb => ?_,q⟩
 have e:b = s1.heap.objs.size:=by simpa using hb
 subst e
 exact I1.fpOk (Nat.le_refl _) (I1.hok.fresh (Nat.le_refl _))
theorem range_it {pins:List (Addr × Obj)} {σ:St} {H:Hp} {s:Shared} {R:It → Hp → Prop} {E:Value → Shared → Prop} {lo hi:Int} {t u v:Tok} {tk:Nat} (I:Inv X pins σ H s) (h1:-(2 ^ 62) ≤ lo) (h2:lo < 2 ^ 62) (h3:-(2 ^ 62) ≤ hi) (h4:hi < 2 ^ 62)
  (q:R (Itr lo (hi - lo).toNat) H):wpAny (model X.prog X.w) X.A (pyIter (.ref s.heap.objs.size)) (PIE X pins σ tg R) E { s with heap:=s.heap.push { cls:=.type "range",data:=.fields #[.int lo t,.int hi u,.int 1 v] },toks:=tk }:=by
 refine wpAny_pyIter_range (IsRange.new ..) (small_one h1 h2 h3 h4) ?_
 have I1:Inv X pins σ H { s with heap:=s.heap.push { cls:=.type "range",data:=.fields #[.int lo t,.int hi u,.int 1 v] },toks:=tk }:=I.kept fun b o e => Heap.get?_push_of_some _ e
 refine ⟨(s.heap.push { cls:=.type "range",data:=.fields #[.int lo t,.int hi u,.int 1 v] }).objs.size,[(s.heap.push { cls:=.type "range",data:=.fields #[.int lo t,.int hi u,.int 1 v] }).objs.size],_,_,H,rfl,
  I1.kept (t':=tk) fun b o e => Heap.get?_push_of_some _ e,turn_range _ lo (hi - lo).toNat,?_,fun b hb => ?_,q⟩
 ·have e1:lo + ((0:Nat):Int) * 1 = lo:=by simp
  have e2:(((hi - lo).toNat:Nat):Int) - ((0:Nat):Int) = Builtin.Range.rangeSize lo hi 1:=by rw [rangeSize_one]; split <;> omega
  show IsRangeIter _ _ (lo + ((0:Nat):Int) * 1) ((((hi - lo).toNat:Nat):Int) - ((0:Nat):Int)) 1
  rw [e1,e2]
  exact Heap.get?_push_size _ rfl
 ·have e:b = (s.heap.push { cls:=.type "range",data:=.fields #[.int lo t,.int hi u,.int 1 v] }).objs.size:=by simpa using hb
  subst e
  exact I1.fpOk (Nat.le_refl _) (I1.hok.fresh (Nat.le_refl _))
noncomputable def iRng1 (ta:TA):TI:=fun σ H R => ta σ H fun vs H1 => ∃ j:Int,vs = [.int j] ∧ -(2 ^ 62) ≤ j ∧ j < 2 ^ 62 ∧ R (Itr 0 j.toNat) H1
noncomputable def iRng2 (ta:TA):TI:=fun σ H R => ta σ H fun vs H1 => ∃ i j:Int,vs = [.int i,.int j] ∧ (-(2 ^ 62) ≤ i ∧ i < 2 ^ 62 ∧ -(2 ^ 62) ≤ j ∧ j < 2 ^ 62) ∧ R (Itr i (j - i).toNat) H1
theorem pi_range1 {a:Expr} {ta:TA} {p pos:Pos} (hg:Gl X "range") (hm:X.mg "range" = none) (ha:PA X [a] ta) (hs:starEach [a] X.env = [(false,eval a X.env)]:=by rfl):PI X tg (.Call (.Name "range" p) [a] [] pos) (iRng1 ta):=by
 intro pins s σ H R I h
 refine Call_ (ld_blt I hg hm boot_range (PyProof.Rows.callWith_type1 (thn (ha pos pins s σ H _ I h) fun us s1 ⟨vs,H1,I1,r1,q1⟩ => ?_) hs rfl))
 obtain ⟨j,e,q1,q2,q⟩:=q1
 subst e
 cases r1 with
 | cons r rr =>
  cases rr
  obtain ⟨t,rfl⟩:=r
  exact call_range_1 (range_it I1 (by omega) (by omega) q1 q2 (by simpa using q))
theorem pi_range2 {a b:Expr} {ta:TA} {p pos:Pos} (hg:Gl X "range") (hm:X.mg "range" = none) (ha:PA X [a,b] ta) (hs:starEach [a,b] X.env = [(false,eval a X.env),(false,eval b X.env)]:=by rfl) (hs2:starEach [b] X.env = [(false,eval b X.env)]:=by rfl) :
  PI X tg (.Call (.Name "range" p) [a,b] [] pos) (iRng2 ta):=by
 intro pins s σ H R I h
 refine Call_ (ld_blt I hg hm boot_range (PyProof.Rows.callWith_type1 (thn (ha pos pins s σ H _ I h) fun us s1 ⟨vs,H1,I1,r1,q1⟩ => ?_) (by rw [hs,hs2]) (by rw [hs2]; rfl)))
 obtain ⟨i,j,e,⟨q1,q2,q3,q4⟩,q⟩:=q1
 subst e
 cases r1 with
 | cons r rr =>
  cases rr with
  | cons r' rr =>
   cases rr
   obtain ⟨t,rfl⟩:=r
   obtain ⟨t',rfl⟩:=r'
   exact call_range_2 (range_it I1 q1 q2 q3 q4 q)
noncomputable def tFor (wi:TI) (g:TG) (tb:TS):TS:=fun D σ H => wi σ H fun J H1 => ∃ W:Nat → Nat → St → Hp → Prop,(∃ m,W 0 m σ H1) ∧ ∀ i m σ H,W i m σ H →
 (J.stop i H ∧ D.nx σ H) ∨ (J.go i H ∧ ∃ N:St → Hp → Prop,(∀ σ' H',N σ' H' → ∃ m',m' < m ∧ W (i + 1) m' σ' H') ∧ ∀ x H',J.yld i H x H' → g x σ H' fun σ2 H2 => tb { D with nx:=N,ct:=N,bk:=D.nx } σ2 H2)
noncomputable def pinsAt (fp:List Addr) (h:Heap):List (Addr × Obj):=fp.filterMap fun b => (h.get? b).map fun o => (b,o)
theorem mem_pinsAt {fp:List Addr} {h:Heap} {b:Addr} {o:Obj} (hb:b ∈ fp) (e:h.get? b = some o):(b,o) ∈ pinsAt fp h:=List.mem_filterMap.mpr ⟨b,hb,by rw [e]; rfl⟩
theorem of_pinsAt {fp:List Addr} {h:Heap} {p:Addr × Obj} (hp:p ∈ pinsAt fp h):p.1 ∈ fp ∧ h.get? p.1 = some p.2:=by
 obtain ⟨b,hb,e⟩:=List.mem_filterMap.mp hp
 cases q:h.get? b with
 | none => rw [q] at e; cases e
 | some o =>
  rw [q] at e
  have e':(b,o) = p:=Option.some.inj e
  subst e'
  exact ⟨hb,q⟩
theorem Inv.pinned {pins:List (Addr × Obj)} {σ:St} {H:Hp} {s:Shared} {fp:List Addr} (I:Inv X pins σ H s) (hf:∀ b ∈ fp,FpOk X pins H b) (ho:∀ b ∈ fp,∃ o,s.heap.get? b = some o ∧ ∀ v,o.data ≠ .cell v):Inv X (pins ++ pinsAt fp s.heap) σ H s :=
 I.pins_of fun p hp => (List.mem_append.mp hp).elim (fun z => I.pin p (List.mem_append_right _ z)) fun z => by
  obtain ⟨hb,e⟩:=of_pinsAt z
  obtain ⟨f0,f1,f2,_⟩:=hf p.1 hb
  obtain ⟨o,e',d⟩:=ho p.1 hb
  rw [e] at e'; cases e'
  exact ⟨e,f0,f1,f2,d⟩
theorem Inv.unpinned {pins pl:List (Addr × Obj)} {σ:St} {H:Hp} {s:Shared} (I:Inv X (pins ++ pl) σ H s):Inv X pins σ H s:=I.pins_of fun p hp => I.pin p (List.mem_append_right _ (List.mem_append_left _ hp))
theorem ps_for {iter:Expr} {body:List Stmt} {wi:TI} {g:TG} {tb:TS} {pos:Pos} (hp:PassesOwn (model X.prog X.w) X.A X.env X.xe) (hc:X.calm = true) (hi:PI X tg iter wi) (hg:PG X tg g) (hb:PSs X body tb)
  (hs:∀ x,foldedSetIterable iter X.env x = pure x:=by intro _; rfl):PS X (.For tg iter body [] pos) (tFor wi g tb):=by
 intro pins s σ H D I h
 refine wpAny_For (thn (hi pins s σ H _ I h) fun v s1 h1 => thn h1 fun itv s2 h2 => ?_) hs
 obtain ⟨it,fp,tn,J,H2,e,I2,T,st2,f2,W,⟨m0,w0⟩,turn⟩:=h2
 subst e
 -- what stays true of the iterator's objects through the loop
 have stat:∀ {H':Hp},(∀ b ∈ fp,H' b = none) → ∀ b ∈ fp,FpOk X pins H' b:=fun hn b hb => ⟨hn b hb,(f2 b hb).2⟩
 refine codeAny_forLoop_any (fun n s' => ∃ i σ' H',Inv X pins σ' H' s' ∧ tn i s'.heap ∧ (∀ b ∈ fp,H' b = none) ∧ W i n σ' H') ?_ m0 ⟨0,σ,H2,I2,st2,fun b hb => (f2 b hb).1,w0⟩
 rintro n s3 ⟨i,σ3,H3,I3,st3,fr3,w3⟩
 rcases turn i n σ3 H3 w3 with ⟨stop,qn⟩ | ⟨go,N,hN,step⟩
 ·refine wpAny_passesOwn hp (thn (T.done X rfl rfl rfl hc i pins s3 σ3 H3 X.xe I3 (stat fr3) st3 stop) fun r s4 ⟨hr,I4⟩ => ?_)
  subst hr
  exact wpAny_execs_nil ⟨σ3,H3,I4,qn⟩
 ·refine wpAny_passesOwn hp (thn (T.item X rfl rfl rfl hc i pins s3 σ3 H3 X.xe I3 (stat fr3) st3 go) fun r s4 ⟨u,hr,h4⟩ => ?_)
  subst hr
  refine wpAny_passesOwn hp (thn h4 fun _ s5 ⟨x,H5,I5,r5,y5,st5,fr5⟩ => ?_)
  have I5':=I5.pinned (stat fr5) (T.obj _ _ st5)
  refine wpAny_passesOwn hp (thn (hg _ s5 σ3 H5 x u _ I5' r5 (step x H5 y5)) fun _ s6 ⟨σ6,H6,I6,q6⟩ => ?_)
  refine wpAny_passesOwn hp (thn (hb _ s6 σ6 H6 _ I6 q6) fun f s7 q7 => ?_)
  have again:∀ {σ7:St} {H7:Hp},Inv X (pins ++ pinsAt fp s5.heap) σ7 H7 s7 → N σ7 H7 → ∃ m,m < n ∧ ∃ i σ' H',Inv X pins σ' H' s7 ∧ tn i s7.heap ∧ (∀ b ∈ fp,H' b = none) ∧ W i m σ' H':=fun {σ7 H7} I7 n7 => by
   obtain ⟨m',hm,w7⟩:=hN σ7 H7 n7
   refine ⟨m',hm,i + 1,σ7,H7,I7.unpinned,T.keep _ _ _ st5 fun b hb o e => (I7.pin (b,o) (List.mem_append_right _ (List.mem_append_right _ (mem_pinsAt hb e)))).1,fun b hb => ?_,w7⟩
   obtain ⟨o,e,d⟩:=T.obj _ _ st5 b hb
   exact (I7.pin (b,o) (List.mem_append_right _ (List.mem_append_right _ (mem_pinsAt hb e)))).2.1
  cases f with
  | next => obtain ⟨σ7,H7,I7,n7⟩:=q7; exact again I7 n7
  | cont => obtain ⟨σ7,H7,I7,n7⟩:=q7; exact again I7 n7
  | brk => obtain ⟨σ7,H7,I7,q7⟩:=q7; exact ⟨σ7,H7,I7.unpinned,q7⟩
  | ret v => obtain ⟨x7,σ7,H7,I7,r7,q7⟩:=q7; exact ⟨x7,σ7,H7,I7.unpinned,r7,q7⟩
end
end L2
namespace L2
open PySem PySem.Spec PyProof.Rows
noncomputable abbrev R2:=V → V → Hp → VK → Prop
noncomputable def OpR (X:Cx) (f:Value → Value → Sem Value) (r:R2):Prop :=
 ∀ (pins:List (Addr × Obj)) (s:Shared) (σ:St) (H:Hp) (x y:V) (v u:Value) (Q:VK),Inv X pins σ H s → RelV x v → RelV y u → r x y H Q →
  wpAny (model X.prog X.w) X.A (f v u) (EP X pins σ Q) X.xe s
noncomputable def UnR (X:Cx) (f:Value → Sem Value) (r:V → Hp → VK → Prop):Prop :=
 ∀ (pins:List (Addr × Obj)) (s:Shared) (σ:St) (H:Hp) (x:V) (v:Value) (Q:VK),Inv X pins σ H s → RelV x v → r x H Q →
  wpAny (model X.prog X.w) X.A (f v) (EP X pins σ Q) X.xe s
noncomputable def CallR (X:Cx) (f:Value) (r:List V → Hp → VK → Prop):Prop :=
 ∀ (pins:List (Addr × Obj)) (s:Shared) (σ:St) (H:Hp) (xs:List V) (us:List Value) (Q:VK),Inv X pins σ H s → Vals xs us → r xs H Q →
  wpAny (model X.prog X.w) X.A (call f us) (EP X pins σ Q) X.xe s
noncomputable def tOp (r:R2) (ta tb:TE):TE:=fun σ H Q => ta σ H fun x H1 => tb σ H1 fun y H2 => r x y H2 Q
noncomputable def tUn (r:V → Hp → VK → Prop) (ta:TE):TE:=fun σ H Q => ta σ H fun x H1 => r x H1 Q
noncomputable def rI (C:Int → Int → Prop) (g:Int → Int → V):R2:=fun x y H Q => ∃ i j,x = .int i ∧ y = .int j ∧ C i j ∧ Q (g i j) H
noncomputable def rI0 (g:Int → Int → V):R2:=fun x y H Q => ∃ i j,x = .int i ∧ y = .int j ∧ Q (g i j) H
noncomputable def rU (g:Int → V):V → Hp → VK → Prop:=fun x H Q => ∃ i,x = .int i ∧ Q (g i) H
section
variable {X:Cx} {a b c:Expr} {ta tb tc:TE} {pos:Pos}
theorem binT (ha:PE X a ta) (hb:PE X b tb) {pins:List (Addr × Obj)} {s:Shared} {σ:St} {H:Hp} {R:V → V → Hp → Prop} (I:Inv X pins σ H s)
  (h:ta σ H fun x H1 => tb σ H1 fun y H2 => R x y H2) {Q:Value → Shared → Prop} {f:Value → Value → Sem Value}
  (hf:∀ v u s2 x y H2,Inv X pins σ H2 s2 → RelV x v → RelV y u → R x y H2 → wpAny (model X.prog X.w) X.A (f v u) Q X.xe s2) :
  wpAny (model X.prog X.w) X.A (eval a X.env) (fun v s₁ => wpAny (model X.prog X.w) X.A (eval b X.env) (fun u s₂ => wpAny (model X.prog X.w) X.A (f v u) Q X.xe s₂) X.xe s₁) X.xe s:=by
 refine thn (ha pins s σ H _ I h) fun v s1 ⟨x,H1,I1,r1,q1⟩ => ?_
 refine thn (hb pins s1 σ H1 _ I1 q1) fun u s2 ⟨y,H2,I2,r2,q2⟩ => ?_
 exact hf v u s2 x y H2 I2 r1 r2 q2
theorem pe_op {op:Operator} {r:R2} (ho:OpR X (binaryOp op) r) (ha:PE X a ta) (hb:PE X b tb):PE X (.BinOp a op b pos) (tOp r ta tb):=by
 intro pins s σ H Q I h
 exact wpAny_BinOp (binT ha hb I h fun v u s2 x y H2 I2 rx ry q => ho pins s2 σ H2 x y v u Q I2 rx ry q)
theorem pe_un {op:UnaryOp} {r:V → Hp → VK → Prop} (ho:UnR X (unaryOp op) r) (ha:PE X a ta):PE X (.UnaryOp op a pos) (tUn r ta):=by
 intro pins s σ H Q I h
 exact UnaryOp_ (thn (ha pins s σ H _ I h) fun v s1 ⟨x,H1,I1,r1,q1⟩ => ho pins s1 σ H1 x v Q I1 r1 q1)
theorem opI {f:Value → Value → Sem Value} {C:Int → Int → Prop} {g:Int → Int → Int}
  (rule:∀ (i j:Int) (t u:Tok) (s:Shared) (Q:Value → Shared → Prop) (E:Value → Shared → Prop),C i j → Q (.int (g i j) s.toks) { s with toks:=s.toks + 1 } → wpAny (model X.prog X.w) X.A (f (.int i t) (.int j u)) Q E s) :
  OpR X f (rI C fun i j => .int (g i j)):=by
 intro pins s σ H x y v u Q I rx ry h
 obtain ⟨i,j,rfl,rfl,hc,q⟩:=h
 obtain ⟨t,rfl⟩:=rx
 obtain ⟨t',rfl⟩:=ry
 exact rule i j t t' s _ _ hc ⟨.int (g i j),H,I.tok _,⟨_,rfl⟩,q⟩
theorem opI0 {f:Value → Value → Sem Value} {g:Int → Int → Int}
  (rule:∀ (i j:Int) (t u:Tok) (s:Shared) (Q:Value → Shared → Prop) (E:Value → Shared → Prop),Q (.int (g i j) s.toks) { s with toks:=s.toks + 1 } → wpAny (model X.prog X.w) X.A (f (.int i t) (.int j u)) Q E s) :
  OpR X f (rI0 fun i j => .int (g i j)):=by
 intro pins s σ H x y v u Q I rx ry h
 obtain ⟨i,j,rfl,rfl,q⟩:=h
 obtain ⟨t,rfl⟩:=rx
 obtain ⟨t',rfl⟩:=ry
 exact rule i j t t' s _ _ ⟨.int (g i j),H,I.tok _,⟨_,rfl⟩,q⟩
theorem opB0 {f:Value → Value → Sem Value} {g:Int → Int → Bool}
  (rule:∀ (i j:Int) (t u:Tok) (s:Shared) (Q:Value → Shared → Prop) (E:Value → Shared → Prop),Q (.bool (g i j)) s → wpAny (model X.prog X.w) X.A (f (.int i t) (.int j u)) Q E s) :
  OpR X f (rI0 fun i j => .bl (g i j)):=by
 intro pins s σ H x y v u Q I rx ry h
 obtain ⟨i,j,rfl,rfl,q⟩:=h
 obtain ⟨t,rfl⟩:=rx
 obtain ⟨t',rfl⟩:=ry
 exact rule i j t t' s _ _ ⟨.bl (g i j),H,I,rfl,q⟩
noncomputable def CPow (i j:Int):Prop:=0 ≤ j ∧ j ≤ 1000000 ∧ i.natAbs < 2 ^ 64
noncomputable def CMul (i j:Int):Prop:=(-(2 ^ 64) < i ∧ i < 2 ^ 64) ∨ (-(2 ^ 64) < j ∧ j < 2 ^ 64)
theorem CMul.ok {i j:Int} (h:CMul i j):IntMulOk i j:=by
 rcases h with ⟨h1,h2⟩ | ⟨h1,h2⟩
 ·exact .of_left (intBits_le_64 h1 h2)
 ·exact .of_right (intBits_le_64 h1 h2)
theorem op_add:OpR X (binaryOp .Add) (rI0 fun i j => .int (i + j)):=opI0 fun _ _ _ _ _ _ _ q => add_int q
theorem op_sub:OpR X (binaryOp .Sub) (rI0 fun i j => .int (i - j)):=opI0 fun _ _ _ _ _ _ _ q => sub_int q
theorem op_mod:OpR X (binaryOp .Mod) (rI (fun _ j => 0 < j) fun i j => .int (i % j)):=opI fun i j _ _ _ _ _ hc q => by
 have h1:(0:Int) < j:=hc
 exact mod_int' (by omega) (by rw [Int.fmod_eq_emod_of_nonneg i (by omega)]; exact q)
theorem op_pow:OpR X (binaryOp .Pow) (rI CPow fun i j => .int (i ^ j.toNat)):=opI fun _ _ _ _ _ _ _ hc q => pow_int_small hc.1 hc.2.1 hc.2.2 q
theorem unI {f:Value → Sem Value} {g:Int → Int}
  (rule:∀ (i:Int) (t:Tok) (s:Shared) (Q:Value → Shared → Prop) (E:Value → Shared → Prop),Q (.int (g i) s.toks) { s with toks:=s.toks + 1 } → wpAny (model X.prog X.w) X.A (f (.int i t)) Q E s) :
  UnR X f (rU fun i => .int (g i)):=by
 intro pins s σ H x v Q I rx h
 obtain ⟨i,rfl,q⟩:=h
 obtain ⟨t,rfl⟩:=rx
 exact rule i t s _ _ ⟨.int (g i),H,I.tok _,⟨_,rfl⟩,q⟩
theorem un_neg:UnR X (unaryOp .USub) (rU fun i => .int (-i)):=unI fun _ _ _ _ _ q => neg_int q
end
noncomputable def scal:V → V → Bool
 | .non,.non => true | .non,.int _ => true | .int _,.non => true | .non,.bl _ => true | .bl _,.non => true | .non,.str _ => true | .str _,.non => true
 | .int _,.int _ => true | .bl _,.bl _ => true | .str _,.str _ => true | .byt _,.byt _ => true
 | .int _,.str _ => true | .str _,.int _ => true | .bl _,.str _ => true | .str _,.bl _ => true
 | _,_ => false
noncomputable def rEq:R2:=fun x y H Q => scal x y = true ∧ Q (.bl (decide (x = y))) H
noncomputable def rNe:R2:=fun x y H Q => scal x y = true ∧ Q (.bl (!decide (x = y))) H
theorem dec_int {i j:Int}:decide (V.int i = V.int j) = (i == j):=by
 rw [Bool.eq_iff_iff]
 simp
theorem dec_bl {i j:Bool}:decide (V.bl i = V.bl j) = (i == j):=by
 rw [Bool.eq_iff_iff]
 simp
theorem dec_str {i j:Str}:decide (V.str i = V.str j) = (i == j):=by
 rw [Bool.eq_iff_iff]
 simp
theorem dec_byt {i j:Array UInt8}:decide (V.byt i = V.byt j) = (i.toList == j.toList):=by
 rw [Bool.eq_iff_iff]
 cases i
 cases j
 simp
section
variable {X:Cx} {a b c:Expr} {ta tb tc:TE} {pos:Pos}
theorem fin_bl {pins:List (Addr × Obj)} {σ:St} {H:Hp} {s:Shared} {Q:VK} {k k':Bool} (I:Inv X pins σ H s) (q:Q (.bl k) H) (e:k = k'):EP X pins σ Q (.bool k') s:=by
 subst e
 exact ⟨.bl k,H,I,rfl,q⟩
theorem op_eq:OpR X (compareOp .Eq) rEq:=by
 intro pins s σ H x y v u Q I rx ry h
 obtain ⟨hs,q⟩:=h
 cases x with
 | non =>
  cases rx
  cases y with
  | non => cases ry; exact PySem.EqNone.eq_none_none (fin_bl I q (by simp))
  | bl j => cases ry; exact PySem.EqNone.eq_none_bool (fin_bl I q (by simp))
  | int j => obtain ⟨t',rfl⟩:=ry; exact PySem.EqNone.eq_none_int (fin_bl I q (by simp))
  | str j => obtain ⟨t',rfl⟩:=ry; exact PySem.EqNone.eq_none_str (fin_bl I q (by simp))
  | _ => exact absurd (show false = true from hs) Bool.false_ne_true
 | bl i =>
  cases rx
  cases y with
  | non => cases ry; exact PySem.EqNone.eq_bool_none (fin_bl I q (by simp))
  | bl j => cases ry; exact eq_bool (fin_bl I q dec_bl)
  | str j => obtain ⟨t',rfl⟩:=ry; exact PySem.EqMixed.eq_bool_str (fin_bl I q (by simp))
  | _ => exact absurd (show false = true from hs) Bool.false_ne_true
 | int i =>
  obtain ⟨t,rfl⟩:=rx
  cases y with
  | non => cases ry; exact PySem.EqNone.eq_int_none (fin_bl I q (by simp))
  | int j => obtain ⟨t',rfl⟩:=ry; exact eq_int (fin_bl I q dec_int)
  | str j => obtain ⟨t',rfl⟩:=ry; exact PySem.EqMixed.eq_int_str (fin_bl I q (by simp))
  | _ => exact absurd (show false = true from hs) Bool.false_ne_true
 | str i =>
  obtain ⟨t,rfl⟩:=rx
  cases y with
  | non => cases ry; exact PySem.EqNone.eq_str_none (fin_bl I q (by simp))
  | bl j => cases ry; exact PySem.EqMixed.eq_str_bool (fin_bl I q (by simp))
  | int j => obtain ⟨t',rfl⟩:=ry; exact PySem.EqMixed.eq_str_int (fin_bl I q (by simp))
  | str j => obtain ⟨t',rfl⟩:=ry; exact eq_str (fin_bl I q dec_str)
  | _ => exact absurd (show false = true from hs) Bool.false_ne_true
 | byt i =>
  obtain ⟨t,rfl⟩:=rx
  cases y with
  | byt j => obtain ⟨t',rfl⟩:=ry; exact PySem.W.eq_bytes (fin_bl I q dec_byt)
  | _ => exact absurd (show false = true from hs) Bool.false_ne_true
 | _ => cases y <;> exact absurd (show false = true from hs) Bool.false_ne_true
theorem op_ne:OpR X (compareOp .NotEq) rNe:=by
 intro pins s σ H x y v u Q I rx ry h
 obtain ⟨hs,q⟩:=h
 cases x with
 | non =>
  cases rx
  cases y with
  | non => cases ry; exact PySem.EqNone.ne_none_none (fin_bl I q (by simp))
  | bl j => cases ry; exact PySem.EqNone.ne_none_bool (fin_bl I q (by simp))
  | int j => obtain ⟨t',rfl⟩:=ry; exact PySem.EqNone.ne_none_int (fin_bl I q (by simp))
  | str j => obtain ⟨t',rfl⟩:=ry; exact PySem.EqNone.ne_none_str (fin_bl I q (by simp))
  | _ => exact absurd (show false = true from hs) Bool.false_ne_true
 | bl i =>
  cases rx
  cases y with
  | non => cases ry; exact PySem.EqNone.ne_bool_none (fin_bl I q (by simp))
  | bl j => cases ry; exact ne_bool (fin_bl I q (congrArg not dec_bl))
  | str j => obtain ⟨t',rfl⟩:=ry; exact PySem.EqMixed.ne_bool_str (fin_bl I q (by simp))
  | _ => exact absurd (show false = true from hs) Bool.false_ne_true
 | int i =>
  obtain ⟨t,rfl⟩:=rx
  cases y with
  | non => cases ry; exact PySem.EqNone.ne_int_none (fin_bl I q (by simp))
  | int j => obtain ⟨t',rfl⟩:=ry; exact ne_int (fin_bl I q (congrArg not dec_int))
  | str j => obtain ⟨t',rfl⟩:=ry; exact PySem.EqMixed.ne_int_str (fin_bl I q (by simp))
  | _ => exact absurd (show false = true from hs) Bool.false_ne_true
 | str i =>
  obtain ⟨t,rfl⟩:=rx
  cases y with
  | non => cases ry; exact PySem.EqNone.ne_str_none (fin_bl I q (by simp))
  | bl j => cases ry; exact PySem.EqMixed.ne_str_bool (fin_bl I q (by simp))
  | int j => obtain ⟨t',rfl⟩:=ry; exact PySem.EqMixed.ne_str_int (fin_bl I q (by simp))
  | str j => obtain ⟨t',rfl⟩:=ry; exact ne_str (fin_bl I q (congrArg not dec_str))
  | _ => exact absurd (show false = true from hs) Bool.false_ne_true
 | byt i =>
  obtain ⟨t,rfl⟩:=rx
  cases y with
  | byt j => obtain ⟨t',rfl⟩:=ry; exact PySem.W.ne_bytes (fin_bl I q (congrArg not dec_byt))
  | _ => exact absurd (show false = true from hs) Bool.false_ne_true
 | _ => cases y <;> exact absurd (show false = true from hs) Bool.false_ne_true
theorem op_lt:OpR X (compareOp .Lt) (rI0 fun i j => .bl (decide (i < j))):=opB0 fun _ _ _ _ _ _ _ q => lt_int q
theorem op_le:OpR X (compareOp .LtE) (rI0 fun i j => .bl (decide (i ≤ j))):=opB0 fun _ _ _ _ _ _ _ q => le_int q
theorem op_gt:OpR X (compareOp .Gt) (rI0 fun i j => .bl (decide (j < i))):=opB0 fun _ _ _ _ _ _ _ q => gt_int q
theorem op_ge:OpR X (compareOp .GtE) (rI0 fun i j => .bl (decide (j ≤ i))):=opB0 fun _ _ _ _ _ _ _ q => ge_int q
theorem op_in_str:OpR X (compareOp .In) (fun x y H Q => ∃ i j,x = .str i ∧ y = .str j ∧ Q (.bl (!(Builtin.Str.occurrences j i 0 j.length 1).isEmpty)) H):=by
 intro pins s σ H x y v u Q I rx ry h
 obtain ⟨i,j,rfl,rfl,q⟩:=h
 obtain ⟨t,rfl⟩:=rx
 obtain ⟨t',rfl⟩:=ry
 exact in_str (fin_bl I q rfl)
theorem op_isN:OpR X (compareOp .Is) (fun x y H Q => y = .non ∧ Q (.bl (decide (x = .non))) H):=by
 intro pins s σ H x y v u Q I rx ry h
 obtain ⟨rfl,q⟩:=h
 cases ry
 refine is_none_gen (fin_bl I q ?_)
 cases x <;> first
  | (cases rx; rfl)
  | (obtain ⟨t,rfl⟩:=rx; rfl)
theorem op_notN:OpR X (compareOp .IsNot) (fun x y H Q => y = .non ∧ Q (.bl (!decide (x = .non))) H):=by
 intro pins s σ H x y v u Q I rx ry h
 obtain ⟨rfl,q⟩:=h
 cases ry
 refine isnot_none_gen (fin_bl I q ?_)
 cases x <;> first
  | (cases rx; rfl)
  | (obtain ⟨t,rfl⟩:=rx; rfl)
theorem op_notin_str:OpR X (compareOp .NotIn) (fun x y H Q => ∃ i j,x = .str i ∧ y = .str j ∧ Q (.bl (!(!(Builtin.Str.occurrences j i 0 j.length 1).isEmpty))) H):=by
 intro pins s σ H x y v u Q I rx ry h
 obtain ⟨i,j,rfl,rfl,q⟩:=h
 obtain ⟨t,rfl⟩:=rx
 obtain ⟨t',rfl⟩:=ry
 exact notIn_str (fin_bl I q rfl)
theorem OpR.or {f:Value → Value → Sem Value} {r r':R2} (h:OpR X f r) (h':OpR X f r'):OpR X f (fun x y H Q => r x y H Q ∨ r' x y H Q):=by
 intro pins s σ H x y v u Q I rx ry q
 rcases q with q | q
 ·exact h pins s σ H x y v u Q I rx ry q
 ·exact h' pins s σ H x y v u Q I rx ry q
theorem pe_cmpR {op:CmpOp} {r:R2} (ho:OpR X (compareOp op) r) (ha:PE X a ta) (hb:PE X b tb) (hm:behindInMarks op b = false):PE X (.Compare a [op] [b] pos) (tOp r ta tb):=by
 intro pins s σ H Q I h
 exact wpAny_Compare1 (binT ha hb I h fun v u s2 x y H2 I2 rx ry q => ho pins s2 σ H2 x y v u Q I2 rx ry q) hm
noncomputable def tTest (t:TE):TT:=fun σ H Q => t σ H fun x H' => ∃ k,x = .bl k ∧ Q k H'
theorem pt_cmpR {op:CmpOp} {r:R2} (ho:OpR X (compareOp op) r) (ha:PE X a ta) (hb:PE X b tb) (hm:behindInMarks op b = false):PT X (.Compare a [op] [b] pos) (tTest (tOp r ta tb)):=by
 intro pins s σ H Q I h
 refine wpAny_isTrue_Compare1 (thn (ha pins s σ H _ I h) fun v s1 ⟨x,H1,I1,r1,q1⟩ => thn (hb pins s1 σ H1 _ I1 q1) fun u s2 ⟨y,H2,I2,r2,q2⟩ =>
  thn (ho pins s2 σ H2 x y v u _ I2 r1 r2 q2) fun c s3 ⟨z,H3,I3,r3,k,e,q3⟩ => ?_) hm
 subst e
 cases r3
 exact wpAny_truthy_bool ⟨H3,I3,q3⟩
noncomputable def tChain (r r':R2) (ta tb tc:TE):TE:=fun σ H Q => ta σ H fun x H1 => tb σ H1 fun y H2 => r x y H2 fun z H3 => ∃ k,z = .bl k ∧
 (if k = true then tc σ H3 fun w' H4 => r' y w' H4 Q else Q (.bl false) H3)
theorem pt_chain {op op':CmpOp} {r r':R2} (ho:OpR X (compareOp op) r) (ho':OpR X (compareOp op') r') (ha:PE X a ta) (hb:PE X b tb) (hc:PE X c tc)
  (hm:lastMarks [op,op'] [b,c] = false:=by with_unfolding_all rfl):PT X (.Compare a [op,op'] [b,c] pos) (tTest (tChain r r' ta tb tc)):=by
 intro pins s σ H Q I h
 refine isTrue_chain (thn (ha pins s σ H _ I h) fun v s1 ⟨x,H1,I1,r1,q1⟩ => test_link (thn (hb pins s1 σ H1 _ I1 q1) fun u s2 ⟨y,H2,I2,r2,q2⟩ =>
  thn (ho pins s2 σ H2 x y v u _ I2 r1 r2 q2) fun d s3 ⟨z,H3,I3,r3,k,e,q3⟩ => ?_)) hm
 subst e
 cases r3
 refine wpAny_truthy_bool ?_
 cases k with
 | false =>
  obtain ⟨k',e',q'⟩:=q3
  cases e'
  exact ite_ff ⟨H3,I3,q'⟩
 | true =>
  refine ite_tt (test_last (thn (hc pins s3 σ H3 _ I3 q3) fun w' s4 ⟨z',H4,I4,r4,q4⟩ => thn (ho' pins s4 σ H4 y z' u w' _ I4 r2 r4 q4) fun d' s5 ⟨z2,H5,I5,r5,k2,e2,q5⟩ => ?_))
  subst e2
  cases r5
  exact wpAny_truthy_bool ⟨H5,I5,q5⟩
theorem line63:(sizeLine:Nat) < 2 ^ 63:=by rw [sizeLine_eq]; decide
theorem op_add_str:OpR X (binaryOp .Add) (fun x y H Q => ∃ i j,x = .str i ∧ y = .str j ∧ i.length + j.length ≤ sizeLine ∧ Q (.str (i ++ j)) H):=by
 intro pins s σ H x y v u Q I rx ry h
 obtain ⟨i,j,rfl,rfl,hz,q⟩:=h
 obtain ⟨t,rfl⟩:=rx
 obtain ⟨t',rfl⟩:=ry
 exact add_str (fun t' tk => ⟨.str (i ++ j),H,I.tok _,⟨_,rfl⟩,q⟩) hz
theorem vals1 {x:V} {us:List Value} (r:Vals [x] us):∃ u,us = [u] ∧ RelV x u:=by
 cases r with
 | cons r1 r2 => cases r2; exact ⟨_,rfl,r1⟩
theorem vals2 {x y:V} {us:List Value} (r:Vals [x,y] us):∃ u w',us = [u,w'] ∧ RelV x u ∧ RelV y w':=by
 cases r with
 | cons r1 r2 =>
  cases r2 with
  | cons r3 r4 => cases r4; exact ⟨_,_,rfl,r1,r3⟩
theorem call_abs:CallR X (.builtin "abs") (fun xs H Q => ∃ i,xs = [.int i] ∧ Q (.int (if i < 0 then -i else i)) H):=by
 intro pins s σ H xs us Q I r h
 obtain ⟨i,rfl,q⟩:=h
 obtain ⟨u,rfl,t,rfl⟩:=vals1 r
 exact call_abs_int fun u tk => ⟨.int (if i < 0 then -i else i),H,I.tok _,⟨_,rfl⟩,q⟩
theorem call_min2 (hc:X.calm = true):CallR X (.builtin "min") (fun xs H Q => ∃ i j,xs = [.int i,.int j] ∧ Q (.int (if j < i then j else i)) H):=by
 intro pins s σ H xs us Q I r h
 obtain ⟨i,j,rfl,q⟩:=h
 obtain ⟨u,w',rfl,⟨t,rfl⟩,⟨t',rfl⟩⟩:=vals2 r
 refine min_two_ints (I.ok.hd hc) fun h' tk k => ⟨_,H,I.kept k,?_,q⟩
 by_cases hj:j < i
 ·rw [if_pos hj,if_pos hj]; exact ⟨_,rfl⟩
 ·rw [if_neg hj,if_neg hj]; exact ⟨_,rfl⟩
end
end L2
namespace L2
open PySem PySem.Spec PyProof.Rows
structure ObjM (h:Heap) (x dx C:Addr) (mA:Str → Option Value):Prop where
 obj:h.get? x = some (PySem.W.instObj C dx)
 ns:h.Ns1 dx mA
 ne:dx ≠ x
theorem lookIn_ns {h:Heap} {dx:Addr} {mA:Str → Option Value} (n:h.Ns1 dx mA):∃ od,h.get? dx = some od ∧ ∀ name,PySem.W.lookIn name od = some (mA name):=by
 obtain ⟨o,es,ep,ho,hd,hk,_,hm⟩:=n
 refine ⟨o,ho,fun name => ?_⟩
 have e:=hm name
 unfold nsFind findBy at e
 rw [← Array.find?_toList] at e
 unfold PySem.W.lookIn
 rw [hd]
 dsimp only
 split
 ·rename_i y q
  rw [q] at e
  exact congrArg some e
 ·rename_i q
  rw [q] at e
  have a:es.toList.any (·.refKey) = false:=by
   rw [List.any_eq_false]
   intro y hy
   obtain ⟨z,t,hkey⟩:=hk y (Array.mem_toList_iff.mp hy)
   simp [DictEntry.refKey,hkey]
  have a':¬ es.toList.any (·.refKey) = true:=by rw [a]; exact Bool.false_ne_true
  rw [if_neg a']
  exact congrArg some e
theorem ObjM.look {h:Heap} {x dx C:Addr} {mA:Str → Option Value} (I:ObjM h x dx C mA):∃ od,PySem.W.InstAt h x (PySem.W.instObj C dx) C (some od) ∧ ∀ name,PySem.W.lookIn name od = some (mA name) :=
 let ⟨od,ho,hl⟩:=lookIn_ns I.ns
 ⟨od,⟨I.obj,rfl,rfl,ho⟩,hl⟩
section
variable {prog:Program} {w:World} {A:Around} {E:Value → Shared → Prop} {s:Shared} {K:PySem.W.Frag} {x dx C f:Addr} {mA:Str → Option Value} {name:Str} {v:Value}
theorem get_map {expr:Bool} {Q:Value → Shared → Prop} (X:K.In s.heap) (I:ObjM s.heap x dx C mA) (hg:PySem.W.plainGet K C name = true) (hh:PySem.W.hasDictIn K C = true)
  (ha:PySem.W.findIn K (.ref C) name = some none) (hv:mA name = some v) (hv':PySem.W.handedIn v = true) (h:Q v { s with toks:=s.toks + 1 }) :
  wpAny (model prog w) A (getAttr (.ref x) name expr) Q E s:=by
 obtain ⟨od,J,hl⟩:=I.look
 exact PySem.W.get_value X J (PySem.W.plainGet_of hg).1 (PySem.W.findObj_own hh ha rfl (by rw [hl,hv])) hv' h
theorem set_map {ns:List Str} {Q:Unit → Shared → Prop} (X:K.In s.heap) (I:ObjM s.heap x dx C mA)
  (hs:PySem.W.findIn K (.ref C) "__setattr__" = some (some (.builtin "object.__setattr__"))) (hp:PySem.W.plainOver K C = true) (ht:PySem.W.takerIn K C name = some none) (hh:PySem.W.hasDictIn K C = true)
  (hw:PySem.Within mA ns) (hsz:ns.length ≤ sizeLine)
  (h:∀ h',ObjM h' x dx C (fun y => if y = name then some v else mA y) → Heap.SameBut dx s.heap h' → Q () { s with heap:=h',toks:=s.toks + 2 }) :
  wpAny (model prog w) A (setAttr (.ref x) name v) Q E s:=by
 obtain ⟨od,J,hl⟩:=I.look
 refine PySem.W.set_plain X J hs (PySem.W.osa_open (s:={ s with toks:=s.toks + 1 }) (r:=none) X J hp ht fun b => ?_)
 obtain ⟨cd,hc,hd'⟩:=PySem.W.any_some hh
 have hx:s.heap.get? x = some ⟨.ref C,some dx,.plain,#[]⟩:=I.obj
 refine wpAny_bind (wpAny_pure (wpAny_bind (wpAny_bind (wpAny_loadPart hx (wpAny_bind (PySem.W.Looks.here (s:={ s with toks:=s.toks + 1 }) (PySem.W.looks_clsIn X hc) ?_))))))
 rw [hd']
 refine wpAny_pure (a:=some dx) (wpAny_bind (wpAny_pure (wpAny_bind ?_)))
 refine wpAny_nsSet1 (s:={ s with toks:=s.toks + 1 }) I.ns fun h' hn2 hs2 => ?_
 obtain ⟨oD,esD,epD,hoD,hdD,hcD⟩:=hn2.count (PySem.Within.cons name v hw)
 refine wpAny_bind (wpAny_lookBehind hoD (by rw [hdD]; exact pastItsLine_dict (Nat.le_trans hcD (by rw [List.length_cons]; omega))) ?_)
 exact wpAny_pure (h _ ⟨(hs2.2 _ (Ne.symm I.ne)).trans I.obj,hn2,I.ne⟩ hs2)
theorem make_map {R:Result → Shared → Prop} {vs:List Value} {kw:List (Str × Value)} (X:K.In s.heap) (hm:PySem.W.makesIn K C = true)
  (hi:PySem.W.findIn K (.ref C) "__init__" = some (some (.ref f))) (hf:PySem.W.typeIn K (.ref f) = some (.type "function"))
  (h:codeAny (model prog w) (A.under (.builtin "type.__call__" ⟨.ref C :: vs,kw⟩)) (.call (.ref f) ⟨.ref (s.heap.objs.size + 1) :: vs,kw⟩) (PySem.W.InitBack (s.heap.objs.size + 1) R)
   { s with heap:=(s.heap.push PySem.W.emptyDict).push (PySem.W.instObj C s.heap.objs.size) }) :
  codeAny (model prog w) A (.call (.ref C) ⟨vs,kw⟩) R s:=by
 obtain ⟨hh,g,d,t,os⟩:=s
 exact PySem.W.make_core (PySem.W.makes_of X hm) (PySem.W.looks_findIn X hi) (fun self => PySem.W.bind_fn X self hf) (.inl rfl) h
end
noncomputable def putF (f:Str) (v:V):List (Str × V) → List (Str × V)
 | [] => [(f,v)]
 | (g,x) :: r => if g = f then (g,v) :: r else (g,x) :: putF f v r
theorem lookup_putF (f g:Str) (v:V):∀ fs:List (Str × V),(putF f v fs).lookup g = if g = f then some v else fs.lookup g
 | [] => by
  show List.lookup g [(f,v)] = _
  by_cases h:g = f
  ·have hb:(g == f) = true:=beq_iff_eq.mpr h
   simp only [List.lookup,hb,if_pos h]
  ·have hb:(g == f) = false:=beq_eq_false_iff_ne.mpr h
   simp only [List.lookup,hb,if_neg h]
 | (k,x) :: r => by
  have ih:=lookup_putF f g v r
  rw [show putF f v ((k,x) :: r) = (if k = f then (k,v) :: r else (k,x) :: putF f v r) from rfl]
  by_cases hk:k = f
  ·rw [if_pos hk]
   by_cases h:g = k
   ·have hb:(g == k) = true:=beq_iff_eq.mpr h
    simp only [List.lookup,hb,if_pos (h.trans hk)]
   ·have hb:(g == k) = false:=beq_eq_false_iff_ne.mpr h
    simp only [List.lookup,hb,if_neg (fun e:g = f => h (e.trans hk.symm))]
  ·rw [if_neg hk]
   by_cases h:g = k
   ·have hb:(g == k) = true:=beq_iff_eq.mpr h
    simp only [List.lookup,hb,if_neg (fun e:g = f => hk (h.symm.trans e))]
   ·have hb:(g == k) = false:=beq_eq_false_iff_ne.mpr h
    simp only [List.lookup,hb]
    exact ih
theorem keys_putF (f:Str) (v:V):∀ fs:List (Str × V),f ∈ (putF f v fs).map (·.1) ∧ ∀ g,g ∈ fs.map (·.1) → g ∈ (putF f v fs).map (·.1)
 | [] => ⟨by simp [putF],fun g h => by simp at h⟩
 | (k,x) :: r => by
  obtain ⟨i1,i2⟩:=keys_putF f v r
  rw [show putF f v ((k,x) :: r) = (if k = f then (k,v) :: r else (k,x) :: putF f v r) from rfl]
  by_cases hk:k = f
  ·rw [if_pos hk]
   subst hk
   exact ⟨by simp,fun g h => by simpa using h⟩
  ·rw [if_neg hk]
   refine ⟨?_,fun g h => ?_⟩
   ·rw [List.map_cons]
    exact List.mem_cons_of_mem _ i1
   ·rw [List.map_cons] at h ⊢
    rcases List.mem_cons.mp h with e | e
    ·exact List.mem_cons.mpr (.inl e)
    ·exact List.mem_cons_of_mem _ (i2 g e)
theorem length_putF (f:Str) (v:V):∀ fs:List (Str × V),(putF f v fs).length ≤ fs.length + 1
 | [] => by simp [putF]
 | (k,x) :: r => by
  have ih:=length_putF f v r
  rw [show putF f v ((k,x) :: r) = (if k = f then (k,v) :: r else (k,x) :: putF f v r) from rfl]
  by_cases hk:k = f
  ·rw [if_pos hk,List.length_cons,List.length_cons]; omega
  ·rw [if_neg hk,List.length_cons,List.length_cons]; omega
theorem RelO.some_of {v:V} {o:Option Value} (r:RelO (some v) o):∃ u,o = some u ∧ RelV v u:=by
 cases o with
 | none => exact (show False from r).elim
 | some u => exact ⟨u,rfl,r⟩
theorem handed_of {v:V} {u:Value} (r:RelV v u):PySem.W.handedIn u = true:=by
 cases v with
 | non => cases (show u = Value.none from r); rfl
 | bl b => cases (show u = Value.bool b from r); rfl
 | int i => obtain ⟨t,e⟩:=(show ∃ t,u = Value.int i t from r); cases e; rfl
 | str x => obtain ⟨t,e⟩:=(show ∃ t,u = Value.str x t from r); cases e; rfl
 | byt b => obtain ⟨t,e⟩:=(show ∃ t,u = Value.bytes b t from r); cases e; rfl
 | flt b => obtain ⟨t,e⟩:=(show ∃ t,u = Value.float b t from r); cases e; rfl
 | ref a => cases (show u = Value.ref a from r); rfl
 | ty n => cases (show u = Value.type n from r); rfl
section
variable {P:Program} {w:World} {H H':Hp} {h h':Heap} {a C dx:Addr} {fs fs':List (Str × V)}
theorem ins_get (hok:HOk P w H h) (e:H a = some (.ins C dx fs)):∃ mA,ObjM h a dx C mA ∧ (∀ f,RelO (fs.lookup f) (mA f)) ∧ PySem.Within mA (fs.map (·.1)) ∧ fs.length ≤ 1000 ∧ H dx = some (.own a):=by
 obtain ⟨d,z,ne,ob,mA,n,r,q⟩:=(show ObjOk P w H h a (.ins C dx fs) from hok a _ e)
 exact ⟨mA,⟨ob,n,ne⟩,r,q,z,d⟩
end
structure Cls (K:PySem.W.Frag) (C:Addr):Prop where
 pg:PySem.W.plainGet K C Str.empty = true
 hd:PySem.W.hasDictIn K C = true
 po:PySem.W.plainOver K C = true
 sa:PySem.W.findIn K (.ref C) "__setattr__" = some (some (.builtin "object.__setattr__"))
theorem Cls.get {K:PySem.W.Frag} {C:Addr} (c:Cls K C) (f:Str):PySem.W.plainGet K C f = true:=c.pg
noncomputable def NoAttr (K:PySem.W.Frag) (C:Addr) (f:Str):Prop:=PySem.W.findIn K (.ref C) f = some none
theorem NoAttr.taker {K:PySem.W.Frag} {C:Addr} {f:Str} (n:NoAttr K C f):PySem.W.takerIn K C f = some none:=by
 unfold PySem.W.takerIn
 rw [show PySem.W.findIn K (.ref C) f = some none from n]
 rfl
structure Meth (K:PySem.W.Frag) (C:Addr) (m:Str) (f:Addr):Prop where
 at_:PySem.W.findIn K (.ref C) m = some (some (.ref f))
 fn:PySem.W.isFn K (.ref f) = true
 kp:PySem.W.keepIn K (.ref f) = true
section
variable {X:Cx} {pins:List (Addr × Obj)} {σ:St} {H:Hp} {s:Shared} {a C dx:Addr} {fs:List (Str × V)} {f:Str} {v:V} {A:Around} {E:Value → Shared → Prop}
theorem getattr_ok {b:Bool} {Q:Value → Shared → Prop} (I:Inv X pins σ H s) (e:H a = some (.ins C dx fs)) (c:Cls X.K C) (n:NoAttr X.K C f) (l:fs.lookup f = some v)
  (h:∀ u s',Inv X pins σ H s' → RelV v u → Q u s'):wpAny (model X.prog X.w) A (getAttr (.ref a) f b) Q E s:=by
 obtain ⟨mA,O,r,_,_,_⟩:=ins_get I.hok e
 obtain ⟨u,hu,ru⟩:=RelO.some_of (v:=v) (o:=mA f) (by rw [← l]; exact r f)
 exact get_map I.kIn O (c.get f) c.hd n hu (handed_of ru) (h u _ (I.tok _) ru)
theorem setattr_ok {y:V} {u:Value} {Q:Unit → Shared → Prop} (I:Inv X pins σ H s) (e:H a = some (.ins C dx fs)) (c:Cls X.K C) (n:NoAttr X.K C f) (hl:fs.length < 1000) (ry:RelV y u)
  (h:∀ s',Inv X pins σ (upd H a (.ins C dx (putF f y fs))) s' → Q () s'):wpAny (model X.prog X.w) A (setAttr (.ref a) f u) Q E s:=by
 obtain ⟨mA,O,r,wi,_,ho⟩:=ins_get I.hok e
 have hz:(fs.map (·.1)).length ≤ sizeLine:=by rw [List.length_map,sizeLine_eq]; omega
 refine set_map I.kIn O c.sa c.po n.taker c.hd wi hz fun h' O' sb => h _ ?_
 have hd:∃ o,h'.get? dx = some o:=let ⟨o,_,_,e',_⟩:=O'.ns; ⟨o,e'⟩
 refine I.write (x:=a) (e:=dx) (by rw [e]; exact True.intro) (.inr ho) (fun b q hb z => (sb.2 b hb).trans z) hd ?_
 refine ⟨by rw [upd_ne O.ne]; exact ho,?_,O.ne,O'.obj,_,O'.ns,fun g => ?_,fun g hg => ?_⟩
 ·have:=length_putF f y fs; omega
 ·show RelO ((putF f y fs).lookup g) (if g = f then some u else mA g)
  rw [lookup_putF]
  by_cases q:g = f
  ·rw [if_pos q,if_pos q]; exact ry
  ·rw [if_neg q,if_neg q]; exact r g
 ·by_cases q:g = f
  ·rw [q]; exact (keys_putF f y fs).1
  ·refine (keys_putF f y fs).2 g (wi g fun z => hg ?_)
   show (if g = f then some u else mA g) = none
   rw [if_neg q]; exact z
theorem Inv.made (I:Inv X pins σ H s):Inv X pins σ (upd (upd H s.heap.objs.size (.own (s.heap.objs.size + 1))) (s.heap.objs.size + 1) (.ins C s.heap.objs.size []))
  { s with heap:=(s.heap.push PySem.W.emptyDict).push (PySem.W.instObj C s.heap.objs.size) }:=by
 have e1:(s.heap.push PySem.W.emptyDict).get? s.heap.objs.size = some PySem.W.emptyDict:=Heap.get?_push_size s.heap rfl
 have e2:((s.heap.push PySem.W.emptyDict).push (PySem.W.instObj C s.heap.objs.size)).get? (s.heap.objs.size + 1) = some (PySem.W.instObj C s.heap.objs.size):=by
  have:=Heap.get?_push_size (s.heap.push PySem.W.emptyDict) (o:=PySem.W.instObj C s.heap.objs.size) rfl
  rwa [Heap.size_push] at this
 have e3:(s.heap.push PySem.W.emptyDict).Ns s.heap.objs.size (fun _ => none):=⟨PySem.W.emptyDict,#[],_,e1,rfl,(fun e he => absurd he (by simp)),fun _ => rfl⟩
 have I1:=I.laid (a:=s.heap.objs.size) (o:=.own (s.heap.objs.size + 1)) (h':=s.heap.push PySem.W.emptyDict) (t':=s.toks) (fun b u q => Heap.get?_push_of_some _ q) (Nat.le_refl _) ⟨_,e1⟩
 refine I1.laid (a:=s.heap.objs.size + 1) (o:=.ins C s.heap.objs.size []) (t':=s.toks) (fun b u q => Heap.get?_push_of_some _ q) (Nat.le_of_eq (Heap.size_push _ _)) ?_
 have ne:s.heap.objs.size ≠ s.heap.objs.size + 1:=Nat.ne_of_lt (Nat.lt_succ_self _)
 refine ⟨by rw [upd_ne ne,upd_same],Nat.zero_le _,ne,e2,fun _ => none,(Heap.Ns1.of_empty e3).at fun o q => Heap.get?_push_of_some _ q,fun _ => True.intro,fun y hy => absurd rfl hy⟩
theorem attr_of {prog:Program} {w:World} {env:Env} {e:Expr} {f:Str} {pos:Pos} {s:Shared} {Q:Value → Shared → Prop} (hb:attributeBase e f env (eval e env) = eval e env)
  (h:wpAny (model prog w) A (eval e env) (fun o s₁ => wpAny (model prog w) A (getAttr o f true) Q E s₁) E s):wpAny (model prog w) A (eval (.Attribute e f pos) env) Q E s :=
 Attribute_any_ h (by rw [arm_eval_Attribute,hb])
end
noncomputable def tFld (K:PySem.W.Frag) (ta:TE) (f:Str):TE:=fun σ H Q => ta σ H fun x H1 => ∃ a C dx fs v,x = .ref a ∧ H1 a = some (.ins C dx fs) ∧ Cls K C ∧ NoAttr K C f ∧ fs.lookup f = some v ∧ Q v H1
noncomputable def sFld (K:PySem.W.Frag) (ta tv:TE) (f:Str):TS:=fun D σ H => tv σ H fun y H1 => ta σ H1 fun x H2 => ∃ a C dx fs,x = .ref a ∧ H2 a = some (.ins C dx fs) ∧ Cls K C ∧ NoAttr K C f ∧ fs.length < 1000 ∧
 D.nx σ (upd H2 a (.ins C dx (putF f y fs)))
noncomputable def InOp (X:Cx) (op:Operator) (rd:V → V → Hp → VK → Prop):Prop :=
 ∀ (pins:List (Addr × Obj)) (s:Shared) (σ:St) (H:Hp) (x y:V) (u v:Value) (Q:VK),Inv X pins σ H s → RelV x u → RelV y v → rd x y H Q → wpAny (model X.prog X.w) X.A (inplaceOp op u v) (EP X pins σ Q) X.xe s
noncomputable def sFldAug (K:PySem.W.Frag) (ta tv:TE) (rd:V → V → Hp → VK → Prop) (f:Str):TS:=fun D σ H => ta σ H fun x H1 => ∃ a C dx fs v,x = .ref a ∧ H1 a = some (.ins C dx fs) ∧ Cls K C ∧ NoAttr K C f ∧ fs.lookup f = some v ∧
 tv σ H1 fun y H2 => rd v y H2 fun z H3 => ∃ dx' fs',H3 a = some (.ins C dx' fs') ∧ fs'.length < 1000 ∧ D.nx σ (upd H3 a (.ins C dx' (putF f z fs')))
section
variable {X:Cx} {o e value:Expr} {f:Str} {pos pos' tpos:Pos} {ta tv:TE}
theorem pe_fld (he:PE X e ta) (hb:attributeBase e f X.env (eval e X.env) = eval e X.env):PE X (.Attribute e f pos) (tFld X.K ta f):=by
 intro pins s σ H Q I h
 refine attr_of hb (thn (he pins s σ H _ I h) fun u s1 ⟨x,H1,I1,rx,a,C,dx,fs,v,ex,ea,c,n,l,q⟩ => ?_)
 subst ex
 obtain rfl:u = Value.ref a:=rx
 exact getattr_ok I1 ea c n l fun u' s2 I2 ru => ⟨v,H1,I2,ru,q⟩
theorem ps_fld (ha:PE X o ta) (hv:PE X value tv) (hs:swapsWith value (some (.Attribute o f pos')) pos.line X.env = pure false):PS X (.Assign [.Attribute o f pos'] value pos) (sFld X.K ta tv f):=by
 intro pins s σ H D I h
 refine plainObj_wpAny_Assign_Attribute (thn (hv pins s σ H _ I h) fun u s1 ⟨y,H1,I1,ry,q⟩ => thn (ha pins s1 σ H1 _ I1 q) fun ov s2 ⟨x,H2,I2,rx,a,C,dx,fs,ex,ea,c,n,l,q2⟩ => ?_) hs
 subst ex
 obtain rfl:ov = Value.ref a:=rx
 exact setattr_ok I2 ea c n l ry fun s3 I3 => ⟨σ,_,I3,q2⟩
theorem ps_fldaug {op:Operator} {rd:V → V → Hp → VK → Prop} (ha:PE X o ta) (hv:PE X value tv) (hop:InOp X op rd):PS X (.AugAssign (.Attribute o f tpos) op value pos) (sFldAug X.K ta tv rd f):=by
 intro pins s σ H D I h
 refine wpAny_AugAssign_AttributeAny (thn (ha pins s σ H _ I h) fun ov s1 ⟨x,H1,I1,rx,a,C,dx,fs,v,ex,ea,c,n,l,q⟩ => ?_)
 subst ex
 obtain rfl:ov = Value.ref a:=rx
 refine getattr_ok I1 ea c n l fun u s2 I2 ru => thn (hv pins s2 σ H1 _ I2 q) fun w3 s3 ⟨y,H2,I3,ry,q3⟩ => thn (hop pins s3 σ H2 v y u w3 _ I3 ru ry q3) fun w4 s4 ⟨z,H3,I4,rz,dx',fs',ea',l',q4⟩ => ?_
 exact setattr_ok I4 ea' c n l' rz fun s5 I5 => ⟨σ,_,I5,q4⟩
noncomputable def rAdd:V → V → Hp → VK → Prop:=fun x y H Q => ∃ i j,x = .int i ∧ y = .int j ∧ Q (.int (i + j)) H
theorem in_add:InOp X .Add rAdd:=by
 rintro pins s σ H x y u v Q I rx ry ⟨i,j,rfl,rfl,q⟩
 obtain ⟨t,rfl⟩:=(show ∃ t,u = Value.int i t from rx)
 obtain ⟨t',rfl⟩:=(show ∃ t',v = Value.int j t' from ry)
 exact PyProof.Rows.iadd_int ⟨.int (i + j),H,I.tok _,⟨_,rfl⟩,q⟩
end
section
variable {X:Cx} {pins:List (Addr × Obj)} {σ:St} {H:Hp} {s:Shared} {A:Around} {E:Value → Shared → Prop} {Q:Value → Shared → Prop} {c:Value} {b:Bool}
inductive TyOf (K:PySem.W.Frag) (H:Hp):V → Value → Prop where
 | non:TyOf K H .non (.type "NoneType")
 | bl (x:Bool):TyOf K H (.bl x) (.type "bool")
 | int (i:Int):TyOf K H (.int i) (.type "int")
 | str (x:Str):TyOf K H (.str x) (.type "str")
 | flt (x:UInt64):TyOf K H (.flt x) (.type "float")
 | lst {a:Addr} {xs:List V} (e:H a = some (.lst xs)):TyOf K H (.ref a) (.type "list")
 | frz {a:Addr} {o:Obj} {xs:List V} (e:H a = some (.frz o (.lst xs))):TyOf K H (.ref a) (.type "list")
 | tup {a:Addr} {xs:List V} (e:H a = some (.tup xs)):TyOf K H (.ref a) (.type "tuple")
 | dK {a:Addr} {kvs:List (Key × V)} (e:H a = some (.dK kvs)):TyOf K H (.ref a) (.type "dict")
 | dT {a:Addr} {kvs:List (List Key × V)} (e:H a = some (.dT kvs)):TyOf K H (.ref a) (.type "dict")
 | ins {a C dx:Addr} {fs:List (Str × V)} (e:H a = some (.ins C dx fs)) (cl:Cls K C) (ha:PySem.W.findIn K (.ref C) "__class__" = some (some (.builtin "object.__class__")))
   (hn:PySem.W.specialIn K (.builtin "object.__class__") "__get__" = some (some (.builtin "getset_descriptor.__get__"))) (htk:PySem.W.takesIn K (.builtin "object.__class__") = some true)
   (hm:PySem.W.mroIn K C (.type "object") = some true):TyOf K H (.ref a) (.ref C)
theorem isinst_ok {x:V} {u t:Value} (I:Inv X pins σ H s) (rx:RelV x u) (ty:TyOf X.K H x t) (e:PySem.W.kitOne X.K t c = some b) (h:∀ tk,Q (.bool b) { s with toks:=tk }) :
  wpAny (model X.prog X.w) A (call (.builtin "isinstance") [u,c]) Q E s:=by
 cases ty with
 | non => cases (show u = Value.none from rx); exact PySem.W.kia_one PySem.W.kitx_none I.kIn True.intro e (fun z => nomatch z) h
 | bl y => cases (show u = Value.bool y from rx); exact PySem.W.kia_one PySem.W.kitx_bool I.kIn True.intro e (fun z => nomatch z) h
 | int i => obtain ⟨t,q⟩:=(show ∃ t,u = Value.int i t from rx); cases q; exact PySem.W.kia_one PySem.W.kitx_int I.kIn True.intro e (fun z => nomatch z) h
 | str y => obtain ⟨t,q⟩:=(show ∃ t,u = Value.str y t from rx); cases q; exact PySem.W.kia_one PySem.W.kitx_str I.kIn True.intro e (fun z => nomatch z) h
 | flt y => obtain ⟨t,q⟩:=(show ∃ t,u = Value.float y t from rx); cases q; exact PySem.W.kia_one PySem.W.kitx_float I.kIn True.intro e (fun z => nomatch z) h
 | @lst a xs ea =>
  cases (show u = Value.ref a from rx)
  obtain ⟨_,_,n,_,h1⟩:=(show ObjOk X.prog X.w H s.heap a (.lst xs) from I.hok a _ ea)
  exact PySem.W.kia_one PySem.W.kitx_list I.kIn ⟨_,h1,rfl⟩ e (fun z => nomatch z) h
 | @frz a ob xs ea =>
  cases (show u = Value.ref a from rx)
  obtain ⟨_,_,_,n,_,h1⟩:=(show ObjOk X.prog X.w H s.heap a (.frz ob (.lst xs)) from I.hok a _ ea)
  exact PySem.W.kia_one PySem.W.kitx_list I.kIn ⟨_,h1,rfl⟩ e (fun z => nomatch z) h
 | @tup a xs ea =>
  cases (show u = Value.ref a from rx)
  obtain ⟨_,_,_,p⟩:=(show ObjOk X.prog X.w H s.heap a (.tup xs) from I.hok a _ ea)
  obtain ⟨o,h1,h2,_⟩:=p
  exact PySem.W.kia_one PySem.W.kitx_tuple I.kIn ⟨o,h1,h2⟩ e (fun z => nomatch z) h
 | @dK a kvs ea =>
  cases (show u = Value.ref a from rx)
  obtain ⟨_,_,vs,_,p⟩:=(show ObjOk X.prog X.w H s.heap a (.dK kvs) from I.hok a _ ea)
  obtain ⟨o,es,ep,h1,h2,_⟩:=p
  exact PySem.W.kia_one PySem.W.kitx_dict I.kIn ⟨o,h1,h2.1⟩ e (fun z => nomatch z) h
 | @dT a kvs ea =>
  cases (show u = Value.ref a from rx)
  obtain ⟨_,_,xs,_,o,es,ep,h1,h2,_⟩:=(show ObjOk X.prog X.w H s.heap a (.dT kvs) from I.hok a _ ea)
  exact PySem.W.kia_one PySem.W.kitx_dict I.kIn ⟨o,h1,h2.1⟩ e (fun z => nomatch z) h
 | @ins a C dx fs ea cl ha hn htk hm =>
  cases (show u = Value.ref a from rx)
  obtain ⟨mA,O,_⟩:=ins_get I.hok ea
  obtain ⟨od,J,_⟩:=O.look
  exact PySem.W.kia_one (PySem.W.kitx_own (cl.get _) cl.hd ha hn htk hm) I.kIn J e (fun z => nomatch z) h
end
end L2
namespace L2
open PySem PySem.Spec PyProof.Rows
structure Room (k:Nat) (A:Around):Prop where
 hd:A.handled = none
 dp:A.depth + 3 * k + 5 < recursionLimit
 un:A.units + 16 * k + 200 < cLine
theorem Room.mono {j k:Nat} {A:Around} (r:Room k A) (h:j ≤ k):Room j A:=⟨r.hd,by have:=r.dp; omega,by have:=r.un; omega⟩
theorem Room.deeper {k:Nat} {A:Around} (r:Room (k + 1) A) (env:Env):Room k (A.deeper env) :=
 ⟨r.hd,by have:=r.dp; show A.depth + 1 + 3 * k + 5 < _; omega,by have:=r.un; show A.units + 3 + 16 * k + 200 < _; omega⟩
theorem Room.in1 {k:Nat} {A:Around} (r:Room (k + 1) A):Room k A.in1 :=
 ⟨r.hd,by have:=r.dp; show A.depth + 3 * k + 5 < _; omega,by have:=r.un; show A.units + 1 + 16 * k + 200 < _; omega⟩
theorem make_depth {A:Around} {C:Addr} {us:List Value} {kw:List (Str × Value)}:(A.under (.builtin "type.__call__" ⟨.ref C :: us,kw⟩)).depth = A.depth + 1:=by
 first | rfl | simp [Around.under,Code.weight,Code.isCreation,Code.isGuard,Code.isCaller,Code.frames,Code.isFrame,guardIds]
theorem make_units {A:Around} {C:Addr} {us:List Value} {kw:List (Str × Value)}:(A.under (.builtin "type.__call__" ⟨.ref C :: us,kw⟩)).units = A.units + 1:=by
 first | rfl | simp [Around.under,Code.cUnits,Code.frames,Code.isFrame]
theorem Room.make {k:Nat} {A:Around} (r:Room (k + 1) A) (C:Addr) (us:List Value) (kw:List (Str × Value)):Room k (A.under (.builtin "type.__call__" ⟨.ref C :: us,kw⟩)) :=
 ⟨r.hd,by have:=r.dp; rw [make_depth]; omega,by have:=r.un; rw [make_units]; omega⟩
theorem Room.depth {k:Nat} {A:Around} (r:Room k A):A.depth < recursionLimit:=by have:=r.dp; omega
theorem Room.units {k:Nat} {A:Around} (r:Room k A):A.units + 64 < cLine:=by have:=r.un; omega
noncomputable def tNil:TA:=fun _ H Q => Q [] H
noncomputable def tCons (ta:TE) (tr:TA):TA:=fun σ H Q => ta σ H fun x H1 => tr σ H1 fun xs H2 => Q (x :: xs) H2
section
variable {X:Cx} {e:Expr} {es:List Expr} {te:TE} {t:TA} {pos:Pos}
theorem pa_nil:PA X [] tNil:=fun _ _ _ _ H Q I h => Calls.spliced_nil ⟨[],H,I,.nil,h⟩
theorem pa_cons (ha:PE X e te) (hr:PA X es t) (hs:starEach (e :: es) X.env = (false,eval e X.env) :: starEach es X.env:=by rfl):PA X (e :: es) (tCons te t):=by
 intro pos pins s σ H Q I h
 rw [hs]
 show wpAny _ _ (spliced ((false,eval e X.env) :: backTo pos (starEach es X.env))) _ _ s
 refine Calls.spliced_cons (thn (ha pins s σ H _ I h) fun u s1 ⟨x,H1,I1,r1,q1⟩ => ?_)
 exact thn (hr pos pins s1 σ H1 _ I1 q1) fun us s2 ⟨xs,H2,I2,r2,q2⟩ => ⟨x :: xs,H2,I2,.cons r1 r2,q2⟩
noncomputable def tTup (t:TA):TE:=fun σ H Q => t σ H fun xs H1 => xs.length ≤ sizeLine ∧ ∀ p,H1 p = none → Q (.ref p) (upd H1 p (.tup xs))
noncomputable def tLst (t:TA):TE:=fun σ H Q => t σ H fun xs H1 => xs.length ≤ sizeLine ∧ ∀ p,H1 p = none → Q (.ref p) (upd H1 p (.lst xs))
theorem pe_tup {x1} (h:PA X es t):PE X (.Tuple es x1 pos) (tTup t):=by
 intro pins s σ H Q I hq
 refine wpAny_Tuple_spliced (thn (h pos pins s σ H _ I hq) fun us s1 ⟨xs,H1,I1,r,z,q⟩ => ⟨by rw [← r.length]; exact z,?_⟩)
 have hf:H1 s1.heap.objs.size = none:=I1.hok.fresh (Nat.le_refl _)
 refine ⟨.ref s1.heap.objs.size,upd H1 s1.heap.objs.size (.tup xs),I1.laid (t':=s1.toks) (fun b u e => Heap.get?_push_of_some _ e) (Nat.le_refl _) ?_,rfl,q _ hf⟩
 exact ⟨z,us,r,⟨_,Heap.get?_push_size _ rfl,rfl,_,rfl⟩⟩
theorem pe_lst (h:PA X es t):PE X (.List es pos) (tLst t):=by
 intro pins s σ H Q I hq
 refine wpAny_List_spliced (thn (h pos pins s σ H _ I hq) fun us s1 ⟨xs,H1,I1,r,z,q⟩ => ⟨by rw [← r.length]; exact z,?_⟩)
 have hf:H1 s1.heap.objs.size = none:=I1.hok.fresh (Nat.le_refl _)
 refine ⟨.ref s1.heap.objs.size,upd H1 s1.heap.objs.size (.lst xs),I1.laid (t':=s1.toks) (fun b u e => Heap.get?_push_of_some _ e) (Nat.le_refl _) ?_,rfl,q _ hf⟩
 exact ⟨z,us,0,r,Heap.get?_push_size _ rfl⟩
end
noncomputable abbrev Sp:=List V → Hp → VK → XK → Prop
noncomputable abbrev CXT:=List Env → Hp → Shared → XK → Value → Shared → Prop
structure Env0 (P:Program) (w:World) (K:PySem.W.Frag) (mg:Str → Option Value) (base:Heap) (A:Around) (outer:List Env) (s:Shared) (H:Hp):Prop where
 frames:A.frames = some outer
 mod:Mod K mg base
 bs:∀ b o,base.get? b = some o → s.heap.get? b = some o ∧ H b = none
 bsz:base.objs.size ≤ s.heap.objs.size
 funs:s.heap.FunFrames base outer
 frf:∀ b ∈ frs outer,H b = none
 hok:HOk P w H s.heap
 bare:AllBare s.gens
noncomputable def CE (outer:List Env) (P:Program) (w:World) (H:Hp) (s:Shared) (Q:VK) (u:Value) (s':Shared):Prop :=
 ∃ v H',s'.os = s.os ∧ AllBare s'.gens ∧ Un (frs outer) [] H H' s.heap s'.heap ∧ HOk P w H' s'.heap ∧ RelV v u ∧ Q v H'
noncomputable def CR (CX:CXT) (outer:List Env) (P:Program) (w:World) (H:Hp) (s:Shared) (Q:VK) (E:XK) (r:Result) (s':Shared):Prop :=
 match r with
 | .ok (.ret u) => CE outer P w H s Q u s'
 | .ok _ => False
 | .error e => CX outer H s E e s'
structure FnOk (P:Program) (w:World) (K:PySem.W.Frag) (mg:Str → Option Value) (base:Heap) (CX:CXT) (k:Nat) (f:Addr) (fd:FuncData) (ps:List Str) (sp:Sp):Prop where
 len:∀ vs H Q E,sp vs H Q E → vs.length = ps.length
 run:∀ (A:Around) (outer:List Env) (s:Shared) (H:Hp) (args:Args) (us:List Value) (vs:List V) (Q:VK) (E:XK),Room k A → Env0 P w K mg base A outer s H → BindsTo s fd args (ps.zip us) → Vals vs us → sp vs H Q E →
  codeAny (model P w) A (.call (.ref f) args) (CR CX outer P w H s Q E) s
theorem FnOk.mono {P:Program} {w:World} {K:PySem.W.Frag} {mg:Str → Option Value} {base:Heap} {CX:CXT} {j k:Nat} {f:Addr} {fd:FuncData} {ps:List Str} {sp:Sp} (F:FnOk P w K mg base CX j f fd ps sp) (h:j ≤ k) :
  FnOk P w K mg base CX k f fd ps sp:=⟨F.len,fun A outer s H args us vs Q E hr => F.run A outer s H args us vs Q E (hr.mono h)⟩
theorem FnOk.imp {P:Program} {w:World} {K:PySem.W.Frag} {mg:Str → Option Value} {base:Heap} {CX:CXT} {k:Nat} {f:Addr} {fd:FuncData} {ps:List Str} {sp sp':Sp} (F:FnOk P w K mg base CX k f fd ps sp)
  (h:∀ vs H Q E,sp' vs H Q E → sp vs H Q E):FnOk P w K mg base CX k f fd ps sp' :=
 ⟨fun vs H Q E q => F.len vs H Q E (h _ _ _ _ q),fun A outer s H args us vs Q E hr he hb hv hs => F.run A outer s H args us vs Q E hr he hb hv (h _ _ _ _ hs)⟩
theorem Env0.make {P:Program} {w:World} {K:PySem.W.Frag} {mg:Str → Option Value} {base:Heap} {A:Around} {outer:List Env} {s:Shared} {H:Hp} (e:Env0 P w K mg base A outer s H) (C:Addr) (us:List Value) (kw:List (Str × Value)) :
  Env0 P w K mg base (A.under (.builtin "type.__call__" ⟨.ref C :: us,kw⟩)) outer s H:=⟨by first | exact e.frames | (simpa [Around.under,Code.envs,Code.isFrame,pushEnvs] using e.frames),e.mod,e.bs,e.bsz,e.funs,e.frf,e.hok,e.bare⟩
theorem Env0.in1 {P:Program} {w:World} {K:PySem.W.Frag} {mg:Str → Option Value} {base:Heap} {A:Around} {outer:List Env} {s:Shared} {H:Hp} (e:Env0 P w K mg base A outer s H) :
  Env0 P w K mg base A.in1 outer s H:=⟨e.frames,e.mod,e.bs,e.bsz,e.funs,e.frf,e.hok,e.bare⟩
section
variable {X:Cx} {pins:List (Addr × Obj)} {σ:St} {H:Hp} {s s':Shared}
theorem Inv.env0 (I:Inv X pins σ H s):Env0 X.prog X.w X.K X.mg X.base X.A X.stack s H :=
 ⟨I.ok.frames,I.ok.mod,I.bs,Nat.le_trans I.ok.bsz I.sz,I.stack,I.stkFree,I.hok,I.bare⟩
theorem Inv.after {Q:VK} {u:Value} (I:Inv X pins σ H s) (h:CE X.stack X.prog X.w H s Q u s'):EP X pins σ Q u s':=by
 obtain ⟨v,H',os,bare,un,hok,r,q⟩:=h
 obtain ⟨hh,g,d,t,os'⟩:=s'
 obtain rfl:os' = s.os:=os
 exact ⟨v,H',I.call (h':=hh) (g':=g) (d':=d) (t':=t) (ch:=[]) un hok bare (fun b z => absurd z (by simp)),r,q⟩
end
noncomputable def tCall (sp:Sp) (dvs:List V) (E:XK) (t:TA):TE:=fun σ H Q => t σ H fun vs H1 => sp (vs ++ dvs) H1 Q E
noncomputable def tMake (C:Addr) (sp:Sp) (dvs:List V) (E:XK) (t:TA):TE:=fun σ H Q => t σ H fun vs H1 => ∀ x dx,H1 x = none → H1 dx = none → dx ≠ x →
 sp (.ref x :: (vs ++ dvs)) (upd (upd H1 dx (.own x)) x (.ins C dx [])) (fun v H2 => v = .non ∧ Q (.ref x) H2) E
noncomputable def Binds (K:PySem.W.Frag) (fd:FuncData) (ps:List Str) (ds:List Value):Prop :=
 ∀ (s:Shared) (us:List Value),K.In s.heap → (us ++ ds).length = ps.length → BindsTo s fd ⟨us,[]⟩ (ps.zip (us ++ ds))
theorem Binds.all {K:PySem.W.Frag} {fd:FuncData} {ps:List Str} (h:∀ us:List Value,us.length = ps.length → bindArgs fd ⟨us,[]⟩ = pure (ps.zip us)):Binds K fd ps []:=fun s us _ hl => by
 rw [List.append_nil] at hl ⊢
 exact .of_eq (h us hl)
noncomputable def Passes (CX:CXT) (X:Cx) (E:XK):Prop:=∀ (pins:List (Addr × Obj)) (σ:St) (H:Hp) (s:Shared) (e:Value) (s':Shared),Inv X pins σ H s → CX X.stack H s E e s' → X.xe e s'
section
variable {X:Cx} {CX:CXT} {k:Nat} {f C:Addr} {fd:FuncData} {ps:List Str} {sp:Sp} {dvs:List V} {ds:List Value} {E:XK} {x m:Str} {p pos apos:Pos} {e o:Expr} {es:List Expr} {ta:TE} {t:TA}
theorem run_fn {pins:List (Addr × Obj)} {σ:St} {H:Hp} {s:Shared} {Q:VK} {us:List Value} {vs:List V} (F:FnOk X.prog X.w X.K X.mg X.base CX k f fd ps sp) (hr:Room k X.A) (hb:Binds X.K fd ps ds) (hd:Vals dvs ds) (hx:Passes CX X E)
  (I:Inv X pins σ H s) (r:Vals vs us) (h:sp (vs ++ dvs) H Q E):wpAny (model X.prog X.w) X.A (call (.ref f) us) (EP X pins σ Q) X.xe s:=by
 have r2:Vals (vs ++ dvs) (us ++ ds):=r.append hd
 have hl:(us ++ ds).length = ps.length:=by rw [← r2.length]; exact F.len _ _ _ _ h
 refine wpAny_call (codeAny_mono (F.run X.A X.stack s H ⟨us,[]⟩ (us ++ ds) (vs ++ dvs) Q E hr I.env0 (hb s us I.kIn hl) r2 h) fun r s' hq => ?_)
 cases r with
 | error e => exact hx pins σ H s e s' I hq
 | ok fl =>
  cases fl with
  | ret u => exact I.after hq
  | next => exact False.elim hq
  | brk => exact False.elim hq
  | cont => exact False.elim hq
theorem pe_call (F:FnOk X.prog X.w X.K X.mg X.base CX k f fd ps sp) (hr:Room k X.A) (hg:Gl X x) (hm:X.mg x = some (.ref f)) (hk:PySem.W.keepIn X.K (.ref f) = true) (hb:Binds X.K fd ps ds) (hd:Vals dvs ds) (hx:Passes CX X E)
  (ha:PA X (e :: es) t) (hdb:(x == ("__debug__":Str)) = false:=by decide) (he:starEach (e :: es) X.env = (false,eval e X.env) :: starEach es X.env:=by rfl) (hpl:(backTo pos (starEach es X.env)).any (·.1) = false:=by rfl) :
  PE X (.Call (.Name x p) (e :: es) [] pos) (tCall sp dvs E t):=by
 intro pins s σ H Q I h
 refine wpAny_Call_Name_kw (ld_glob I hg hm ?_ hdb)
 refine PySem.W.callWith_K (h₀:=X.base) I.ok.mod.kin hk (thn (ha pos pins s σ H _ I h) fun us s1 ⟨vs,H1,I1,r,q⟩ => ⟨I1.kIn,?_⟩) he hpl
 exact run_fn F hr hb hd hx I1 r q
theorem pe_call0 (F:FnOk X.prog X.w X.K X.mg X.base CX k f fd ps sp) (hr:Room k X.A) (hg:Gl X x) (hm:X.mg x = some (.ref f)) (hk:PySem.W.keepIn X.K (.ref f) = true) (hb:Binds X.K fd ps ds) (hd:Vals dvs ds) (hx:Passes CX X E)
  (hdb:(x == ("__debug__":Str)) = false:=by decide):PE X (.Call (.Name x p) [] [] pos) (tCall sp dvs E tNil):=by
 intro pins s σ H Q I h
 refine wpAny_Call_Name_kw (ld_glob I hg hm ?_ hdb)
 exact PySem.W.callWith_K0 I.kIn hk (run_fn (us:=[]) F hr hb hd hx I .nil h)
structure Mk (K:PySem.W.Frag) (C f:Addr):Prop where
 makes:PySem.W.makesIn K C = true
 init:PySem.W.findIn K (.ref C) "__init__" = some (some (.ref f))
 fn:PySem.W.isFn K (.ref f) = true
 kp:PySem.W.keepIn K (.ref C) = true
theorem run_make {pins:List (Addr × Obj)} {σ:St} {H:Hp} {s:Shared} {Q:VK} {us:List Value} {vs:List V} (M:Mk X.K C f) (F:FnOk X.prog X.w X.K X.mg X.base CX k f fd ps sp) (hr:Room (k + 1) X.A) (hb:Binds X.K fd ps ds) (hd:Vals dvs ds)
  (hx:Passes CX X E) (I:Inv X pins σ H s) (r:Vals vs us)
  (h:∀ x dx,H x = none → H dx = none → dx ≠ x → sp (.ref x :: (vs ++ dvs)) (upd (upd H dx (.own x)) x (.ins C dx [])) (fun v H2 => v = .non ∧ Q (.ref x) H2) E) :
  wpAny (model X.prog X.w) X.A (call (.ref C) us) (EP X pins σ Q) X.xe s:=by
 have hq:=h (s.heap.objs.size + 1) s.heap.objs.size (I.hok.fresh (Nat.le_succ _)) (I.hok.fresh (Nat.le_refl _)) (Nat.ne_of_lt (Nat.lt_succ_self _))
 have I2:=Inv.made (C:=C) I
 have r2:Vals (V.ref (s.heap.objs.size + 1) :: (vs ++ dvs)) (Value.ref (s.heap.objs.size + 1) :: (us ++ ds)):=.cons rfl (r.append hd)
 have hl:(Value.ref (s.heap.objs.size + 1) :: us ++ ds).length = ps.length:=by
  have e:=r2.length
  rw [F.len _ _ _ _ hq] at e
  exact e.symm
 refine wpAny_call (make_map (f:=f) I.kIn M.makes M.init (beq_iff_eq.mp M.fn) (codeAny_mono (F.run _ X.stack _ _ ⟨Value.ref (s.heap.objs.size + 1) :: us,[]⟩ (Value.ref (s.heap.objs.size + 1) :: (us ++ ds)) _ _ E (hr.make C us [])
  (I2.env0.make C us []) (hb _ (Value.ref (s.heap.objs.size + 1) :: us) I2.kIn hl) r2 hq) fun r s' hq' => ?_))
 cases r with
 | error e => exact hx pins σ _ _ e s' I2 hq'
 | ok fl =>
  cases fl with
  | ret u =>
   obtain ⟨v,H',I3,rv,ev,q3⟩:=I2.after hq'
   subst ev
   exact ⟨rv,⟨V.ref (s.heap.objs.size + 1),H',I3,rfl,q3⟩⟩
  | next => exact False.elim hq'
  | brk => exact False.elim hq'
  | cont => exact False.elim hq'
theorem pe_make (M:Mk X.K C f) (F:FnOk X.prog X.w X.K X.mg X.base CX k f fd ps sp) (hr:Room (k + 1) X.A) (hg:Gl X x) (hm:X.mg x = some (.ref C)) (hb:Binds X.K fd ps ds) (hd:Vals dvs ds) (hx:Passes CX X E)
  (ha:PA X (e :: es) t) (hdb:(x == ("__debug__":Str)) = false:=by decide) (he:starEach (e :: es) X.env = (false,eval e X.env) :: starEach es X.env:=by rfl) (hpl:(backTo pos (starEach es X.env)).any (·.1) = false:=by rfl) :
  PE X (.Call (.Name x p) (e :: es) [] pos) (tMake C sp dvs E t):=by
 intro pins s σ H Q I h
 refine wpAny_Call_Name_kw (ld_glob I hg hm ?_ hdb)
 refine PySem.W.callWith_K (h₀:=X.base) I.ok.mod.kin M.kp (thn (ha pos pins s σ H _ I h) fun us s1 ⟨vs,H1,I1,r,q⟩ => ⟨I1.kIn,?_⟩) he hpl
 exact run_make M F hr hb hd hx I1 r q
end
structure FnScope (N P:List Str) (sc:Scope):Prop where
 kind:sc.kind = .function
 co:sc.isCoroutine = false
 gen:sc.isGenerator = false
 nd:N.Nodup
 pre:N.take P.length = P
 par:∀ x ∈ P,sc.names.lookup x = some .local ∨ sc.names.lookup x = some .cell
 nofree:∀ y ∈ sc.names,y.2 ≠ .free
theorem bindL_out {kindOf:Str → Option NameKind} {x:Str}:∀ {binds:List (Str × Value)} {m:Str → Option Value},(∀ v,(x,v) ∉ binds) → bindL kindOf binds m x = m x
 | [],_,_ => rfl
 | (n,v) :: r,m,h => by
  unfold bindL
  rw [bindL_out fun w hw => h w (List.mem_cons_of_mem _ hw)]
  split
  ·have:x ≠ n:=by rintro rfl; exact h v List.mem_cons_self
   simp [this]
  ·rfl
theorem bindC_out {kindOf:Str → Option NameKind} {x:Str}:∀ {binds:List (Str × Value)} {m:Str → Option Value},(∀ v,(x,v) ∉ binds) → bindC kindOf binds m x = m x
 | [],_,_ => rfl
 | (n,v) :: r,m,h => by
  unfold bindC
  rw [bindC_out fun w hw => h w (List.mem_cons_of_mem _ hw)]
  split
  ·rfl
  ·have:x ≠ n:=by rintro rfl; exact h v List.mem_cons_self
   simp [this]
theorem bindL_get {kindOf:Str → Option NameKind} {x:Str} {v:Value}:∀ {P:List Str} {vs:List Value} {i:Nat} {m:Str → Option Value},P.Nodup → P[i]? = some x → vs[i]? = some v → kindOf x = some .local →
  bindL kindOf (P.zip vs) m x = some v
 | [],_,_,_,_,h,_,_ => by simp at h
 | _ :: _,[],_,_,_,_,h,_ => by simp at h
 | p :: P,w :: vs,0,m,nd,h1,h2,hk => by
  simp at h1 h2; subst h1; subst h2
  show bindL kindOf ((p,w) :: P.zip vs) m p = _
  unfold bindL
  rw [bindL_out fun v hv => (List.nodup_cons.mp nd).1 (List.of_mem_zip hv).1,if_pos hk]
  simp
 | p :: P,w :: vs,i + 1,m,nd,h1,h2,hk => by
  show bindL kindOf ((p,w) :: P.zip vs) m x = _
  unfold bindL
  exact bindL_get (i:=i) (List.nodup_cons.mp nd).2 (by simpa using h1) (by simpa using h2) hk
theorem bindC_get {kindOf:Str → Option NameKind} {x:Str} {v:Value}:∀ {P:List Str} {vs:List Value} {i:Nat} {m:Str → Option Value},P.Nodup → P[i]? = some x → vs[i]? = some v → kindOf x ≠ some .local →
  bindC kindOf (P.zip vs) m x = some v
 | [],_,_,_,_,h,_,_ => by simp at h
 | _ :: _,[],_,_,_,_,h,_ => by simp at h
 | p :: P,w :: vs,0,m,nd,h1,h2,hk => by
  simp at h1 h2; subst h1; subst h2
  show bindC kindOf ((p,w) :: P.zip vs) m p = _
  unfold bindC
  rw [bindC_out fun v hv => (List.nodup_cons.mp nd).1 (List.of_mem_zip hv).1,if_neg hk]
  simp
 | p :: P,w :: vs,i + 1,m,nd,h1,h2,hk => by
  show bindC kindOf ((p,w) :: P.zip vs) m x = _
  unfold bindC
  exact bindC_get (i:=i) (List.nodup_cons.mp nd).2 (by simpa using h1) (by simpa using h2) hk
noncomputable def start (N:List Str) (vs:List V):St:=vs.map some ++ List.replicate (N.length - vs.length) none
noncomputable def cxOf (CX:CXT) (P:Program) (w:World) (K:PySem.W.Frag) (mg:Str → Option Value) (base:Heap) (N:List Str) (qual:Str) (scope:Scope) (f:Addr) (cd:Value) (A:Around) (outer:List Env) (s:Shared) (H:Hp) (E:XK):Cx where
 prog:=P
 w:=w
 K:=K
 mg:=mg
 base:=base
 A:=A.deeper (envOfC qual scope s.heap.objs.size f cd)
 N:=N
 s₀:=s
 H₀:=H
 env:=envOfC qual scope s.heap.objs.size f cd
 outer:=outer
 stack:=envOfC qual scope s.heap.objs.size f cd :: outer
 ex:=[]
 calm:=true
 fn:=fun _ => true
 pn:=[]
 xe:=fun e s' => wpAny (model P w) (A.deeper (envOfC qual scope s.heap.objs.size f cd)) (leaving (envOfC qual scope s.heap.objs.size f cd) e) (fun _ s'' => CX outer H s E e s'') (fun e' s'' => CX outer H s E e' s'') s'
theorem cell_has {sc:Scope} {n:Nat} {x:Str} (h:sc.names.lookup x = some .cell):∃ c,(cellsFrom n sc.names []).lookup x = some c:=by
 have q:=PySem.W.cellsFrom_some sc.names n [] (.inl h)
 exact Option.isSome_iff_exists.mp q
theorem inv_start {CX:CXT} {P:Program} {w:World} {K:PySem.W.Frag} {mg:Str → Option Value} {base:Heap} {N ps:List Str} {qual:Str} {scope:Scope} {f:Addr} {cd:Value} {A:Around} {outer:List Env} {s s1:Shared} {H:Hp} {E:XK} {us:List Value} {vs:List V}
  (S:FnScope N ps scope) (hd:A.handled = none) (e0:Env0 P w K mg base A outer s H) (hl:vs.length = ps.length) (r:Vals vs us)
  (x:InCallC s s.heap.objs.size (bindL (envOfC qual scope s.heap.objs.size f cd).kindOf (ps.zip us) fun _ => none) (cellsFrom (s.heap.objs.size + 1) scope.names []) (bindC (envOfC qual scope s.heap.objs.size f cd).kindOf (ps.zip us) fun _ => none) s1) :
  Inv (cxOf CX P w K mg base N qual scope f cd A outer s H E) [] (start N vs) H s1:=by
 have hpl:ps.length ≤ N.length:=by have:=congrArg List.length S.pre; rw [List.length_take] at this; omega
 obtain ⟨h1,tk,rfl,hk⟩:=x.done
 have noA:∀ b:Addr,b ∉ (cxOf CX P w K mg base N qual scope f cd A outer s H E).ex:=fun b z => absurd (show b ∈ ([]:List Addr) from z) (by simp)
 refine ⟨⟨e0.mod,S.kind,rfl,rfl,Nat.le_refl _,fun y z c h1 h2 => ?_,fun y hy => ?_,fun y c _ h => ?_,fun _ => hd,Around.frames_deeper e0.frames,.inr ⟨rfl,rfl⟩,fun b z => absurd z (noA b),e0.bs,e0.bsz,fun b _ _ => noA b,fun b z => absurd z (noA b),e0.funs,e0.frf⟩,
  rfl,e0.bare,Un.kept hk,⟨_,x.toInCall.ns,fun i y v h1 h2 h3 => ?_⟩,fun y c h => ⟨_,x.cell y c h⟩,e0.hok.fresh (Nat.le_refl _),fun y c h => ?_,fun p hp => absurd (show p ∈ ([]:List (Addr × Obj)) from hp) (by simp),e0.hok.kept hk,?_⟩
 ·exact name_of_addr x.apart (PySem.mem_of_lookup h1) (PySem.mem_of_lookup h2)
 ·have hy:scope.names.lookup y = some .cell ∨ scope.names.lookup y = some .free:=hy
  rcases hy with hy | hy
  ·exact cell_has hy
  ·exact absurd rfl (S.nofree _ (PySem.mem_of_lookup hy))
 ·exact Nat.le_of_lt (x.above y c (PySem.mem_of_lookup h))
 ·have hi:i < vs.length:=by
   unfold start at h2
   by_cases hi:i < vs.length
   ·exact hi
   ·rw [List.getElem?_append_right (by simpa using hi)] at h2
    rw [List.getElem?_replicate] at h2
    split at h2 <;> cases h2
  have ha:vs[i]? = some v:=by
   unfold start at h2
   rw [List.getElem?_append_left (by simpa using hi),List.getElem?_map] at h2
   cases e:vs[i]? with
   | none => rw [e] at h2; cases h2
   | some a => rw [e] at h2; cases h2; rfl
  obtain ⟨u,hu,rv⟩:=r.get ha
  have hp:ps[i]? = some y:=by
   rw [← S.pre,List.getElem?_take_of_lt (by omega)]; exact h1
  have ndP:ps.Nodup:=by rw [← S.pre]; exact S.nd.sublist (List.take_sublist _ _)
  refine ⟨u,rv,?_⟩
  rcases S.par y (List.mem_of_getElem? hp) with k | k
  ·exact .inl ⟨k,bindL_get ndP hp hu k⟩
  ·obtain ⟨c,e⟩:=cell_has (n:=s.heap.objs.size + 1) k
   refine .inr ⟨.inl k,c,e,?_⟩
   have q:=x.cell y c e
   rw [bindC_get ndP hp hu (by show scope.names.lookup y ≠ _; rw [k]; decide)] at q
   exact q
 ·exact e0.hok.fresh (Nat.le_of_lt (x.above y c (PySem.mem_of_lookup h)))
 ·unfold start
  show _ = N.length
  rw [List.length_append,List.length_map,List.length_replicate]
  omega
theorem fn_of {CX:CXT} {P:Program} {w:World} {K:PySem.W.Frag} {mg:Str → Option Value} {base:Heap} {k:Nat} {f:Addr} {name qual:Str} {params:Arguments} {body:List Stmt} {scope:Scope} {dV kV doc pm cdv ct oc:Value} {an od:Option Addr}
  {osl:Array (Option Value)} {N ps:List Str} {sp:Sp} (lk:K.lookup f = some ⟨oc,od,.func (PySem.W.fnOf name qual params body scope dV kV doc pm an cdv ct),osl⟩) (hcd:PySem.W.codeIn K cdv qual = true) (S:FnScope N ps scope)
  (len:∀ vs H Q E,sp vs H Q E → vs.length = ps.length)
  (hbody:∀ (A:Around) (outer:List Env) (s:Shared) (H:Hp) (vs:List V) (Q:VK) (E:XK),Room k (A.deeper (envOfC qual scope s.heap.objs.size f cdv)) → sp vs H Q E →
   ∃ t,PSs (cxOf CX P w K mg base N qual scope f cdv A outer s H E) body t ∧ t { nx:=fun _ H' => Q .non H',rt:=Q } (start N vs) H) :
  FnOk P w K mg base CX (k + 1) f (PySem.W.fnOf name qual params body scope dV kV doc pm an cdv ct) ps sp:=by
 refine ⟨len,fun A outer s H args us vs Q E hr e0 hb r hsp => ?_⟩
 have hl:=len _ _ _ _ hsp
 have KX:K.In s.heap:=e0.mod.kin.keeps fun b o e => (e0.bs b o e).1
 have lim:s.heap.NoLimit:=e0.mod.nolimit.keeps fun b o e => (e0.bs b o e).1
 have hkind:∀ y ∈ ps.zip us,scope.names.lookup y.1 = some .local ∨ (scope.names.lookup y.1 = some .cell ∧ ((cellsFrom (s.heap.objs.size + 1) scope.names []).lookup y.1).isSome = true):=fun ⟨n,v⟩ hy => by
  rcases S.par n (List.of_mem_zip hy).1 with q | q
  ·exact .inl q
  ·exact .inr ⟨q,PySem.W.cellsFrom_some _ _ _ (.inl q)⟩
 refine codeAny_call_function hr.depth (KX _ _ lk) rfl S.co S.gen rfl (PySem.W.codeRec_of KX hcd) (hb _ _ _ _ ?_)
 refine wpAny_newFunctionEnv_cells S.kind hkind fun env he s1 x => ?_
 subst he
 refine ⟨lim.keeps x.toInCall.keep,codeAny_func ?_⟩
 obtain ⟨t,ht,hq⟩:=hbody A outer s H vs Q E (hr.deeper _) hsp
 have I:Inv (cxOf CX P w K mg base N qual scope f cdv A outer s H E) [] (start N vs) H s1:=inv_start S hr.hd e0 hl r x
 refine wpAny_mono (ht [] s1 (start N vs) H _ I hq) (fun fl s' hs => ?_) fun e s' hs => hs
 have fin:∀ {σ':St} {H':Hp} {v:V} {u:Value},Inv (cxOf CX P w K mg base N qual scope f cdv A outer s H E) [] σ' H' s' → RelV v u → Q v H' → CE outer P w H s Q u s' :=
  fun {σ' H' v u} J rv q => ⟨v,H',J.os,J.bare,J.base,J.hok,rv,q⟩
 cases fl with
 | ret u =>
  obtain ⟨v,σ',H',J,rv,q⟩:=hs
  exact fin J rv q
 | next =>
  obtain ⟨σ',H',J,q⟩:=hs
  exact fin (v:=V.non) (u:=Value.none) J rfl q
 | brk =>
  obtain ⟨_,_,_,q⟩:=hs
  exact False.elim q
 | cont =>
  obtain ⟨_,_,_,q⟩:=hs
  exact False.elim q
end L2
namespace L2
open PySem PySem.Spec PyProof.Rows
section
variable {X:Cx} {x:Str} {p pos:Pos} {e:Expr} {es:List Expr} {t:TA} {id T:String} {r:List V → Hp → VK → Prop}
noncomputable def tCB (r:List V → Hp → VK → Prop) (t:TA):TE:=fun σ H Q => t σ H fun vs H1 => r vs H1 Q
theorem pe_callB (hc:CallR X (.builtin id) r) (hg:Gl X x) (hm:X.mg x = none) (hv:bootBuiltins x = some (.builtin id)) (ha:PA X (e :: es) t) (hn:x ≠ "__name__":=by decide) (hdb:(x == ("__debug__":Str)) = false:=by decide)
  (he:starEach (e :: es) X.env = (false,eval e X.env) :: starEach es X.env:=by rfl) (hpl:(backTo pos (starEach es X.env)).any (·.1) = false:=by rfl):PE X (.Call (.Name x p) (e :: es) [] pos) (tCB r t):=by
 intro pins s σ H Q I h
 refine wpAny_Call_Name_kw (ld_blt I hg hm hv ?_ hn hdb)
 exact PyProof.Rows.callWith_builtin1 (thn (ha pos pins s σ H _ I h) fun us s1 ⟨vs,H1,I1,r1,q1⟩ => hc pins s1 σ H1 vs us Q I1 r1 q1) he hpl
theorem pe_callTy (hc:CallR X (.type T) r) (hg:Gl X x) (hm:X.mg x = none) (hv:bootBuiltins x = some (.type T)) (ha:PA X (e :: es) t) (hn:x ≠ "__name__":=by decide) (hdb:(x == ("__debug__":Str)) = false:=by decide)
  (he:starEach (e :: es) X.env = (false,eval e X.env) :: starEach es X.env:=by rfl) (hpl:(backTo pos (starEach es X.env)).any (·.1) = false:=by rfl):PE X (.Call (.Name x p) (e :: es) [] pos) (tCB r t):=by
 intro pins s σ H Q I h
 refine wpAny_Call_Name_kw (ld_blt I hg hm hv ?_ hn hdb)
 exact PyProof.Rows.callWith_type1 (thn (ha pos pins s σ H _ I h) fun us s1 ⟨vs,H1,I1,r1,q1⟩ => hc pins s1 σ H1 vs us Q I1 r1 q1) he hpl
end
end L2
namespace HT
open PySem PyProof.Rows
section
variable {prog:Program} {w:World} {A:Around} {E:Value → Shared → Prop} {s:Shared}
theorem cat_tup {t b:Addr} {vs ws:List Value} {Q:Value → Shared → Prop} (ht:IsTup s.heap t vs.toArray) (hb:IsTup s.heap b ws.toArray) (hv:vs ≠ [])
  (h1:ws = [] → Q (.ref t) s) (h2:ws ≠ [] → Q (.ref s.heap.objs.size) { s with heap:=s.heap.push { cls:=.type "tuple",data:=.seq (vs ++ ws).toArray } })
  (hsz:vs.length + ws.length ≤ sizeLine):wpAny (model prog w) A (binaryOp .Add (.ref t) (.ref b)) Q E s:=by
 obtain ⟨⟨cls,dd,data,sl⟩,ho,hc,n,hd⟩:=id ht
 obtain ⟨⟨cls2,dd2,data2,sl2⟩,ho2,hc2,n2,hd2⟩:=id hb
 simp only at hc hd hc2 hd2
 subst hc hd hc2 hd2
 have e:vs.toArray ++ ws.toArray = (vs ++ ws).toArray:=by simp
 by_cases hw:ws = []
 ·exact concat_meets ⟨_,ho,rfl⟩ ⟨_,ho2,rfl⟩ noFill_tuple_add seq_tuple_add PySem.F.slot_tuple_add PySem.F.entry_tuple_add (PySem.F.args_tuple_add_2 _ _)
   (tuple_addW1 t b vs.toArray ws.toArray n n2 dd dd2 sl sl2 (by simpa using hv) (by simp [hw])) ⟨ho,ho2,h1 hw⟩
 ·refine concat_meets ⟨_,ho,rfl⟩ ⟨_,ho2,rfl⟩ noFill_tuple_add seq_tuple_add PySem.F.slot_tuple_add PySem.F.entry_tuple_add (PySem.F.args_tuple_add_2 _ _)
   (tuple_addW2 t b vs.toArray ws.toArray n n2 dd dd2 sl sl2 (by simpa using hv) (by simpa using hw) (by rw [List.size_toArray,List.size_toArray]; exact hsz)) ⟨ho,ho2,?_⟩
  rw [e]
  exact h2 hw
noncomputable def sIx (n d:Nat):Option Int → Nat
 | none => d
 | some v => if v < 0 then (v + (n:Int)).toNat else min v.toNat n
theorem sIx_le (n d:Nat) (hd:d ≤ n) (o:Option Int):sIx n d o ≤ n:=by
 cases o with
 | none => exact hd
 | some v =>
  show (if v < 0 then (v + (n:Int)).toNat else min v.toNat n) ≤ n
  by_cases hv:v < 0
  ·rw [if_pos hv]; omega
  ·rw [if_neg hv]; exact Nat.min_le_right _ _
theorem clip_eq (v:Int) (n d:Nat):(if v < 0 then max (v + (n:Int)) 0 else min v (n:Int)) = ((sIx n d (some v):Nat):Int):=by
 show (if v < 0 then max (v + (n:Int)) 0 else min v (n:Int)) = (((if v < 0 then (v + (n:Int)).toNat else min v.toNat n):Nat):Int)
 by_cases hv:v < 0
 ·simp only [if_pos hv]; omega
 ·simp only [if_neg hv]; omega
theorem adjust_gen (lo hi:Option Int) (n:Nat):Builtin.Slice.sliceAdjust lo hi 1 (n:Int) = (((sIx n 0 lo:Nat):Int),((sIx n n hi:Nat):Int)):=by
 have h1:¬ ((1:Int) < 0):=by omega
 unfold Builtin.Slice.sliceAdjust
 simp only [h1,if_false]
 refine Prod.ext ?_ ?_
 ·cases lo with
  | none => rfl
  | some v => exact clip_eq v n 0
 ·cases hi with
  | none => rfl
  | some v => exact clip_eq v n n
theorem places_gen (i j:Nat):Builtin.Slice.slicePlaces (i:Int) (j:Int) 1 = j - i:=by
 unfold Builtin.Slice.slicePlaces
 have h1:(1:Int) > 0:=by omega
 simp only [h1,if_true,Int.ediv_one]
 split <;> omega
theorem slicePart_ {v:Value} {o:Option Int} {Q:Option Int → Shared → Prop} (p:IsPart v o) (h:Q o s):wpAny (model prog w) A (Builtin.Slice.slicePartIndex v) Q E s:=by
 cases p with
 | none => exact slicePart_none h
 | int i t => exact slicePart_int h
theorem sliceApplied_gen {sl:Addr} {vl vu:Value} {lo hi:Option Int} {n:Nat} {Q:Int × Int × Nat → Shared → Prop} (hs:s.heap.IsSliceOf sl vl vu .none) (pl:IsPart vl lo) (pu:IsPart vu hi)
  (h:Q (((sIx n 0 lo:Nat):Int),1,sIx n n hi - sIx n 0 lo) s):wpAny (model prog w) A (Builtin.Slice.sliceApplied (.ref sl) (pure (n:Int))) Q E s:=by
 obtain ⟨os,hos,hcs,hds⟩:=id hs
 unfold Builtin.Slice.sliceApplied Builtin.Slice.sliceFields
 refine wpAny_bind (wpAny_bind (wpAny_field hos hds (x:=vl) rfl (wpAny_bind (wpAny_field hos hds (x:=vu) rfl (wpAny_bind (wpAny_field hos hds (x:=.none) rfl (wpAny_pure ?_)))))))
 refine wpAny_bind (slicePart_none ?_)
 show wpAny _ _ (if ((1:Int) == 0) = true then _ else _) _ _ s
 rw [if_neg (by decide)]
 refine wpAny_bind (slicePart_ pl (wpAny_bind (slicePart_ pu (wpAny_bind (wpAny_pure ?_)))))
 show wpAny _ _ (match Builtin.Slice.sliceAdjust lo hi 1 (n:Int) with | (lo,hi) => pure (lo,(1:Int),Builtin.Slice.slicePlaces lo hi 1)) _ _ s
 rw [adjust_gen lo hi n]
 show wpAny _ _ (pure (((sIx n 0 lo:Nat):Int),(1:Int),Builtin.Slice.slicePlaces ((sIx n 0 lo:Nat):Int) ((sIx n n hi:Nat):Int) 1)) _ _ s
 rw [places_gen]
 exact wpAny_pure h
theorem pick_gen (xs:Array Value) (i k:Nat):((List.range k).filterMap fun (m:Nat) => xs[((i:Int) + (m:Int) * 1).toNat]?).toArray = ((xs.toList.drop i).take k).toArray:=by
 have e:(fun (m:Nat) => xs[((i:Int) + (m:Int) * 1).toNat]?) = fun m => xs[i + m]?:=by
  funext m
  have:((i:Int) + (m:Int) * 1).toNat = i + m:=by omega
  rw [this]
 rw [e]
 have:=pick_run xs i k
 rw [List.filterMap_map] at this
 have e2:((fun x => xs[x]?) ∘ fun x => i + x) = fun m => xs[i + m]?:=rfl
 rw [e2] at this
 rw [this]
theorem getItem_tuple_cut {t sl:Addr} {items:Array Value} {vl vu:Value} {lo hi:Option Int} {Q:Value → Shared → Prop} (ht:IsTup s.heap t items) (hs:s.heap.IsSliceOf sl vl vu .none) (pl:IsPart vl lo) (pu:IsPart vu hi)
  (hw:¬ (sIx items.size 0 lo = 0 ∧ sIx items.size items.size hi = items.size))
  (h:Q (.ref s.heap.objs.size) { s with heap:=s.heap.push { cls:=.type "tuple",data:=.seq ((items.toList.drop (sIx items.size 0 lo)).take (sIx items.size items.size hi - sIx items.size 0 lo)).toArray } })
  (hsz:items.size ≤ sizeLine):wpAny (model prog w) A (getItem (.ref t) (.ref sl)) Q E s:=by
 have htake:sizeOk (.seq ((items.toList.drop (sIx items.size 0 lo)).take (sIx items.size items.size hi - sIx items.size 0 lo)).toArray):=by
  show ((items.toList.drop (sIx items.size 0 lo)).take (sIx items.size items.size hi - sIx items.size 0 lo)).toArray.size ≤ sizeLine
  rw [List.size_toArray,List.length_take,List.length_drop,Array.length_toList]
  omega
 have hj:sIx items.size items.size hi ≤ items.size:=sIx_le _ _ (Nat.le_refl _) hi
 obtain ⟨os,hos,hcs,hds⟩:=id hs
 have hTs:s.TypeIs (.ref sl) "slice":=⟨os,hos,hcs⟩
 unfold getItem
 try with_reducible refine wpAny_holding ?_
 first | refine wpAny_bind (wpAny_pure ?_) | skip
 refine wpAny_bind (wpAny_sequenceKey ht.typeIs (by decide) ?_)
 refine wpAny_bind (wpAny_callSpecial?_slot (name:=Str.ofString "__getitem__") ht.typeIs PyProof.Rows.slot_tuple_getitem
  (wpAny_call_entry PyProof.Rows.slot_tuple_getitem ht.typeIs entry_tuple_getitem ?_ (args_tuple_getitem _ _)))
 show wpAny _ _ (Builtin.Tuple.tupleItemsOf (.ref t) >>= _) _ _ s
 refine wpAny_bind (tupleItemsOf_ ht ?_)
 refine wpAny_bind (wpAny_typeOf hTs ?_)
 rw [if_pos (by decide)]
 refine wpAny_bind (sliceApplied_gen hs pl pu ?_)
 have hno:¬ ((((sIx items.size 0 lo:Nat):Int) == 0 && (1:Int) == 1 && (sIx items.size items.size hi - sIx items.size 0 lo) == items.size) = true):=by
  intro q
  rw [Bool.and_eq_true,Bool.and_eq_true] at q
  have q1:((sIx items.size 0 lo:Nat):Int) = 0:=eq_of_beq q.1.1
  have q2:sIx items.size items.size hi - sIx items.size 0 lo = items.size:=eq_of_beq q.2
  exact hw ⟨by omega,by omega⟩
 show wpAny _ _ (if (((sIx items.size 0 lo:Nat):Int) == 0 && (1:Int) == 1 && (sIx items.size items.size hi - sIx items.size 0 lo) == items.size) = true then _ else _) _ _ s
 rw [if_neg hno,pick_gen]
 first
  | exact wpAny_bind (m:=Builtin.Tuple.tupleExact _) (wpAny_newObj_type (wpAny_pure ⟨_,rfl,wpAny_pure h⟩) htake)
  | exact wpAny_bind (m:=Builtin.Tuple.tupleExact _) (wpAny_newObj_type (wpAny_bind (wpAny_pure (wpAny_pure ⟨_,rfl,wpAny_pure h⟩))) htake)
  | exact wpAny_bind (wpAny_bind (m:=Builtin.Tuple.tupleExact _) (wpAny_newObj_type (wpAny_pure (wpAny_pure ⟨_,rfl,wpAny_pure h⟩)) htake))
  | exact wpAny_bind (wpAny_bind (m:=Builtin.Tuple.tupleExact _) (wpAny_newObj_type (wpAny_pure ⟨_,rfl,wpAny_pure h⟩) htake))
end
end HT
namespace L2
open PySem PySem.Spec PyProof.Rows
noncomputable abbrev TO:=St → Hp → (Option Int → Hp → Prop) → Prop
noncomputable def PO (X:Cx) (e:Option Expr) (t:TO):Prop :=
 ∀ (pins:List (Addr × Obj)) (s:Shared) (σ:St) (H:Hp) (Q:Option Int → Hp → Prop),Inv X pins σ H s → t σ H Q →
  wpAny (model X.prog X.w) X.A (evalPart e X.env) (fun u s' => ∃ o H',Inv X pins σ H' s' ∧ IsPart u o ∧ Q o H') X.xe s
noncomputable def tNoPart:TO:=fun _ H Q => Q none H
noncomputable def tPart (t:TE):TO:=fun σ H Q => t σ H fun x H1 => ∃ i,x = .int i ∧ Q (some i) H1
section
variable {X:Cx} {e:Expr} {te:TE} {lo hi:Option Expr} {tl th:TO} {pos p2:Pos}
theorem po_none:PO X none tNoPart:=by
 intro pins s σ H Q I h
 rw [evalPart_none]
 exact wpAny_pure ⟨none,H,I,.none,h⟩
theorem po_some (h:PE X e te):PO X (some e) (tPart te):=by
 intro pins s σ H Q I hw
 rw [evalPart_some]
 refine thn (h pins s σ H _ I hw) fun u s1 ⟨x,H1,I1,r1,q1⟩ => ?_
 obtain ⟨i,rfl,q⟩:=q1
 obtain ⟨t,rfl⟩:=r1
 exact ⟨some i,H1,I1,.int i t,q⟩
noncomputable def SlR (X:Cx) (r:V → Option Int → Option Int → Hp → VK → Prop):Prop :=
 ∀ (pins:List (Addr × Obj)) (s:Shared) (σ:St) (H:Hp) (x:V) (v vl vu:Value) (lo hi:Option Int) (sl:Addr) (Q:VK),Inv X pins σ H s → RelV x v → s.heap.IsSliceOf sl vl vu .none → IsPart vl lo → IsPart vu hi → r x lo hi H Q →
  ∃ T id,typeLookup (.type T) "__getitem__" = pure (some (.builtin id)) ∧ s.TypeIs v T ∧ wpAny (model X.prog X.w) X.A (getItem v (.ref sl)) (EP X pins σ Q) X.xe s
theorem SlR.or {r r':V → Option Int → Option Int → Hp → VK → Prop} (h:SlR X r) (h':SlR X r'):SlR X (fun x lo hi H Q => r x lo hi H Q ∨ r' x lo hi H Q):=by
 intro pins s σ H x v vl vu lo hi sl Q I rx hs pl pu q
 rcases q with q | q
 ·exact h pins s σ H x v vl vu lo hi sl Q I rx hs pl pu q
 ·exact h' pins s σ H x v vl vu lo hi sl Q I rx hs pl pu q
noncomputable def tSl (r:V → Option Int → Option Int → Hp → VK → Prop) (te:TE) (tl th:TO):TE:=fun σ H Q => te σ H fun x H1 => tl σ H1 fun l H2 => th σ H2 fun u H3 => r x l u H3 Q
theorem pe_slice {r:V → Option Int → Option Int → Hp → VK → Prop} (hr:SlR X r) (he:PE X e te) (hl:PO X lo tl) (hu:PO X hi th):PE X (.Subscript e (.Slice lo hi none p2) pos) (tSl r te tl th):=by
 intro pins s σ H Q I h
 refine Subscript_ (thn (he pins s σ H _ I h) fun v s1 ⟨x,H1,I1,r1,q1⟩ => ?_)
 refine wpAny_Slice (thn (hl pins s1 σ H1 _ I1 q1) fun vl s2 ⟨l,H2,I2,pl,q2⟩ => thn (hu pins s2 σ H2 _ I2 q2) fun vu s3 ⟨u,H3,I3,pu,q3⟩ => ?_)
 rw [evalPart_none]
 refine wpAny_pure ?_
 have I4:Inv X pins σ H3 { s3 with heap:=s3.heap.push { cls:=.type "slice",data:=.fields #[vl,vu,.none] } }:=I3.kept (t':=s3.toks) fun b ob q => Heap.get?_push_of_some _ q
 obtain ⟨T,id,hT,ht,hg⟩:=hr pins { s3 with heap:=s3.heap.push { cls:=.type "slice",data:=.fields #[vl,vu,.none] } } σ H3 x v vl vu l u s3.heap.objs.size Q I4 r1 (Heap.IsSliceOf.new ..) pl pu q3
 show wpAny (model X.prog X.w) X.A (subscriptTail e (.Slice lo hi none p2) v (.ref s3.heap.objs.size)) (EP X pins σ Q) X.xe { s3 with heap:=s3.heap.push { cls:=.type "slice",data:=.fields #[vl,vu,.none] } }
 exact tail_any (ops:=[.ref s3.heap.objs.size,v]) ht hT hg (by with_unfolding_all rfl)
noncomputable def cutV (xs:List V) (lo hi:Option Int):List V:=(xs.drop (HT.sIx xs.length 0 lo)).take (HT.sIx xs.length xs.length hi - HT.sIx xs.length 0 lo)
theorem cutV_length (xs:List V) (lo hi:Option Int):(cutV xs lo hi).length ≤ xs.length:=by
 unfold cutV
 rw [List.length_take,List.length_drop]
 omega
noncomputable def rSlT (K:PySem.W.Frag):V → Option Int → Option Int → Hp → VK → Prop:=fun x lo hi H Q => ∃ a xs,x = .ref a ∧ SqT K H a xs ∧
 ¬ (HT.sIx xs.length 0 lo = 0 ∧ HT.sIx xs.length xs.length hi = xs.length) ∧ ∀ p,H p = none → Q (.ref p) (upd H p (.tup (cutV xs lo hi)))
theorem sl_tup:SlR X (rSlT X.K):=by
 intro pins s σ H x v vl vu lo hi sl Q I rx hs pl pu h
 obtain ⟨a,xs,rfl,hx,hw,q⟩:=h
 cases rx
 obtain ⟨its,r,ht,hz⟩:=I.tuple hx
 have hlen:its.toArray.size = xs.length:=by rw [List.size_toArray]; exact r.length.symm
 refine ⟨"tuple",_,PyProof.Rows.slot_tuple_getitem.lookup,ht.typeIs,?_⟩
 refine HT.getItem_tuple_cut ht hs pl pu (by rw [hlen]; exact hw) ?_ (by rw [hlen]; exact hz)
 rw [hlen]
 refine ⟨.ref s.heap.objs.size,_,I.laid (t':=s.toks) (o:=.tup (cutV xs lo hi)) (fun b ob q => Heap.get?_push_of_some _ q) (Nat.le_refl _) ?_,rfl,q _ (I.hok.fresh (Nat.le_refl _))⟩
 exact ⟨Nat.le_trans (cutV_length xs lo hi) hz,_,(r.drop (HT.sIx xs.length 0 lo)).take (HT.sIx xs.length xs.length hi - HT.sIx xs.length 0 lo),IsTup.new _ _⟩
noncomputable def rCatT (K:PySem.W.Frag):R2:=fun x y H Q => ∃ a b xs ys,x = .ref a ∧ y = .ref b ∧ SqT K H a xs ∧ SqT K H b ys ∧ xs ≠ [] ∧ xs.length + ys.length ≤ sizeLine ∧
 (ys = [] → Q (.ref a) H) ∧ (ys ≠ [] → ∀ p,H p = none → Q (.ref p) (upd H p (.tup (xs ++ ys))))
theorem Vals.nil_iff {xs:List V} {us:List Value} (r:Vals xs us):us = [] ↔ xs = []:=by
 cases r with
 | nil => simp
 | cons _ _ => simp
theorem op_catT:OpR X (binaryOp .Add) (rCatT X.K):=by
 intro pins s σ H x y v u Q I rx ry h
 obtain ⟨a,b,xs,ys,rfl,rfl,ha,hb,hx,hz,q1,q2⟩:=h
 cases rx
 cases ry
 obtain ⟨its,r1,p1,_⟩:=I.tuple ha
 obtain ⟨its2,r2,p2,_⟩:=I.tuple hb
 refine HT.cat_tup p1 p2 (fun z => hx (r1.nil_iff.mp z)) (fun z => ⟨.ref a,H,I,rfl,q1 (r2.nil_iff.mp z)⟩) (fun z => ?_) (by rw [← r1.length,← r2.length]; exact hz)
 refine ⟨.ref s.heap.objs.size,_,I.laid (t':=s.toks) (o:=.tup (xs ++ ys)) (fun b ob q => Heap.get?_push_of_some _ q) (Nat.le_refl _) ?_,rfl,q2 (fun w => z (r2.nil_iff.mpr w)) _ (I.hok.fresh (Nat.le_refl _))⟩
 exact ⟨by rw [List.length_append]; exact hz,_,r1.append r2,IsTup.new _ _⟩
end
end L2
namespace L2
open PySem PySem.Spec PyProof.Rows
noncomputable def ixN (n:Nat) (i:Int):Option Nat:=if 0 ≤ i then (if i < n then some i.toNat else none) else if -(n:Int) ≤ i then some (i + n).toNat else none
noncomputable def atI {α:Type} (xs:List α) (i:Int):Option α:=(ixN xs.length i).bind fun j => xs[j]?
theorem ixN_seq {n:Nat} {i:Int} {j:Nat} (h:ixN n i = some j):seqIndex? i n = some j ∧ j < n ∧ -(n:Int) ≤ i ∧ i < n:=by
 unfold ixN at h
 by_cases h0:0 ≤ i
 ·rw [if_pos h0] at h
  by_cases h1:i < n
  ·rw [if_pos h1] at h
   have e:i.toNat = j:=Option.some.inj h
   exact ⟨by rw [seqIndex_of h0 h1,e],by omega,by omega,h1⟩
  ·rw [if_neg h1] at h; cases h
 ·rw [if_neg h0] at h
  by_cases h1:-(n:Int) ≤ i
  ·rw [if_pos h1] at h
   have e:(i + n).toNat = j:=Option.some.inj h
   exact ⟨by rw [seqIndex_neg (by omega) h1,e],by omega,h1,by omega⟩
  ·rw [if_neg h1] at h; cases h
theorem atI_get {α:Type} {xs:List α} {i:Int} {v:α} (h:atI xs i = some v):∃ j,seqIndex? i xs.length = some j ∧ xs[j]? = some v ∧ j < xs.length ∧ -(xs.length:Int) ≤ i ∧ i < xs.length:=by
 unfold atI at h
 cases e:ixN xs.length i with
 | none => rw [e] at h; cases h
 | some j =>
  rw [e] at h
  obtain ⟨h1,h2,h3,h4⟩:=ixN_seq e
  exact ⟨j,h1,h,h2,h3,h4⟩
theorem atI_nat {α:Type} {xs:List α} {j:Nat} {v:α} (h:xs[j]? = some v):atI xs (j:Int) = some v:=by
 have hj:j < xs.length:=(List.getElem?_eq_some_iff.mp h).1
 have e:ixN xs.length (j:Int) = some j:=by
  unfold ixN
  rw [if_pos (by omega),if_pos (by omega)]; simp
 unfold atI; rw [e]; exact h
noncomputable def PlainIx (b:Expr):Prop:=∀ o i,subscripted b false o i = operate [o,i] (getItem o i)
noncomputable def IxR (X:Cx) (r:R2):Prop :=
 ∀ (value slice:Expr) (pins:List (Addr × Obj)) (s:Shared) (σ:St) (H:Hp) (x y:V) (v u:Value) (Q:VK),Inv X pins σ H s → RelV x v → RelV y u → r x y H Q →
  subscripted slice false v u = operate [v,u] (getItem v u) → wpAny (model X.prog X.w) X.A (subscriptTail value slice v u) (EP X pins σ Q) X.xe s
noncomputable def MtR (X:Cx) (id:String) (r:V → List V → Hp → VK → Prop):Prop :=
 ∀ (pins:List (Addr × Obj)) (s:Shared) (σ:St) (H:Hp) (x:V) (xs:List V) (v:Value) (us:List Value) (Q:VK),Inv X pins σ H s → RelV x v → Vals xs us → r x xs H Q →
  wpAny (model X.prog X.w) X.A (call (.builtin id) (v :: us)) (EP X pins σ Q) X.xe s
section
variable {X:Cx} {a b:Expr} {ta tb:TE} {pos:Pos}
theorem IxR.or {r r':R2} (h:IxR X r) (h':IxR X r'):IxR X (fun x y H Q => r x y H Q ∨ r' x y H Q):=by
 intro value slice pins s σ H x y v u Q I rx ry q hs
 rcases q with q | q
 ·exact h value slice pins s σ H x y v u Q I rx ry q hs
 ·exact h' value slice pins s σ H x y v u Q I rx ry q hs
theorem MtR.or {id:String} {r r':V → List V → Hp → VK → Prop} (h:MtR X id r) (h':MtR X id r'):MtR X id (fun x xs H Q => r x xs H Q ∨ r' x xs H Q):=by
 intro pins s σ H x xs v us Q I rx rs q
 rcases q with q | q
 ·exact h pins s σ H x xs v us Q I rx rs q
 ·exact h' pins s σ H x xs v us Q I rx rs q
theorem pe_ix {r:R2} (hr:IxR X r) (ha:PE X a ta) (hb:PE X b tb) (hs:PlainIx b):PE X (.Subscript a b pos) (tOp r ta tb):=by
 intro pins s σ H Q I h
 exact Subscript_ (binT ha hb I h fun v u s2 x y H2 I2 rx ry q => hr a b pins s2 σ H2 x y v u Q I2 rx ry q (hs _ _))
noncomputable def rIxL (K:PySem.W.Frag):R2:=fun x y H Q => ∃ p xs i v,x = .ref p ∧ y = .int i ∧ SqL K H p xs ∧ atI xs i = some v ∧ Q v H
noncomputable def rIxT (K:PySem.W.Frag):R2:=fun x y H Q => ∃ p xs i v,x = .ref p ∧ y = .int i ∧ SqT K H p xs ∧ atI xs i = some v ∧ Q v H
noncomputable def rIxS:R2:=fun x y H Q => ∃ z i c,x = .str z ∧ y = .int i ∧ z.length ≤ sizeLine ∧ atI z.cps.toList i = some c ∧ Q (.str ⟨#[c]⟩) H
theorem ix_list:IxR X (rIxL X.K):=by
 intro value slice pins s σ H x y v u Q I rx ry h hs
 obtain ⟨p,xs,i,z,rfl,rfl,hq,he,q⟩:=h
 cases rx
 obtain ⟨t,rfl⟩:=ry
 obtain ⟨its,r,pl,hz⟩:=I.list hq
 obtain ⟨j,h1,h2,h3,h4,h5⟩:=atI_get he
 obtain ⟨w,ew,rw'⟩:=r.get h2
 have hl:=r.length
 have hn:=line63
 have fin:EP X pins σ Q w s:=⟨z,H,I,rw',q⟩
 by_cases h0:0 ≤ i
 ·have hj:i.toNat = j:=by
   rw [seqIndex_of h0 h5] at h1
   exact Option.some.inj h1
  exact item_listR pl.isList h0 (by omega) (by rw [hj]; simpa using ew) fin hs
 ·have hj:(i + (its.toArray.size:Int)).toNat = j:=by
   rw [seqIndex_neg (by omega) h4] at h1
   rw [List.size_toArray,← hl]
   exact Option.some.inj h1
  exact subscriptTail_builtinR (x:=w) pl.isList.typeIs slot_list_getitem.lookup
   (wpAny_getItem_list_neg (Q:=fun r s' => r = w ∧ EP X pins σ Q r s') pl.isList (by omega) (by rw [List.size_toArray] <;> omega) (by omega) (by rw [hj]; simpa using ew) ⟨rfl,fin⟩) hs
theorem ix_tup:IxR X (rIxT X.K):=by
 intro value slice pins s σ H x y v u Q I rx ry h hs
 obtain ⟨p,xs,i,z,rfl,rfl,hq,he,q⟩:=h
 cases rx
 obtain ⟨t,rfl⟩:=ry
 obtain ⟨its,r,pl,hz⟩:=I.tuple hq
 obtain ⟨j,h1,h2,h3,h4,h5⟩:=atI_get he
 obtain ⟨w,ew,rw'⟩:=r.get h2
 have hl:=r.length
 have hn:=line63
 have fin:EP X pins σ Q w s:=⟨z,H,I,rw',q⟩
 exact subscriptTail_builtinR (x:=w) pl.typeIs slot_tuple_getitem.lookup
  (getItem_tuple (j:=j) (Q:=fun r s' => r = w ∧ EP X pins σ Q r s') pl (by omega) (by omega) (by rw [List.size_toArray,← hl]; exact h1) (by simpa using ew) ⟨rfl,fin⟩) hs
theorem ix_str:IxR X rIxS:=by
 intro value slice pins s σ H x y v u Q I rx ry h hs
 obtain ⟨z,i,c,rfl,rfl,hz,he,q⟩:=h
 obtain ⟨t,rfl⟩:=rx
 obtain ⟨t',rfl⟩:=ry
 obtain ⟨j,h1,h2,h3,h4,h5⟩:=atI_get he
 have hl:z.cps.toList.length = z.length:=by simp [Str.length]
 rw [hl] at h1 h4 h5
 have hn:=line63
 exact tail_any (typeIs_str s z t) slot_str_getitem.lookup (getItem_str (c:=c) (by
  have e1:decide (i < -(2 ^ 63:Int)) = false:=decide_eq_false (by omega)
  have e2:decide (i ≥ 2 ^ 63) = false:=decide_eq_false (by omega)
  rw [e1,e2,Bool.or_false]) (by rw [h1]; simpa using h2) ⟨.str ⟨#[c]⟩,H,I.tok _,⟨_,rfl⟩,q⟩) hs
noncomputable def rIx (K:PySem.W.Frag):R2:=fun x y H Q => rIxL K x y H Q ∨ rIxT K x y H Q ∨ rIxS x y H Q
theorem ix_seq:IxR X (rIx X.K):=ix_list.or (ix_tup.or ix_str)
theorem Inv.lst {pins:List (Addr × Obj)} {σ:St} {H:Hp} {s:Shared} {p:Addr} {xs:List V} (I:Inv X pins σ H s) (h:H p = some (.lst xs)) :
  ∃ (its:List Value) (n:Nat),Vals xs its ∧ s.heap.get? p = some { cls:=.type "list",data:=.seq its.toArray n } ∧ xs.length ≤ sizeLine:=by
 obtain ⟨z,its,n,r,e⟩:=I.hok p _ h
 exact ⟨its,n,r,e,z⟩
theorem slice_bounds (lo hi:Option Int) (n:Nat):(sliceBounds lo hi none n).1 = ((HT.sIx n 0 lo:Nat):Int) ∧ (sliceBounds lo hi none n).2.1 = ((HT.sIx n n hi:Nat):Int) ∧ (sliceBounds lo hi none n).2.2 = 1:=by
 refine ⟨?_,?_,rfl⟩
 ·cases lo with
  | none => simp [sliceBounds,HT.sIx]
  | some i =>
   simp only [sliceBounds,HT.sIx,Option.getD_none,show (1:Int) > 0 by decide,if_true]
   by_cases h:i < 0
   ·simp only [h,if_true] <;> omega
   ·simp only [h,if_false] <;> omega
 ·cases hi with
  | none => simp [sliceBounds,HT.sIx]
  | some i =>
   simp only [sliceBounds,HT.sIx,Option.getD_none,show (1:Int) > 0 by decide,if_true]
   by_cases h:i < 0
   ·simp only [h,if_true] <;> omega
   ·simp only [h,if_false] <;> omega
theorem slicePick_cut (its:List Value) (lo hi:Option Int):slicePick its.toArray lo hi none = ((its.drop (HT.sIx its.length 0 lo)).take (HT.sIx its.length its.length hi - HT.sIx its.length 0 lo)).toArray:=by
 obtain ⟨h1,h2,h3⟩:=slice_bounds lo hi its.toArray.size
 unfold slicePick
 rw [h1,h2,h3]
 simp only [sliceRange_one,pick_run,List.size_toArray] <;> rfl
noncomputable def rSlL (K:PySem.W.Frag):V → Option Int → Option Int → Hp → VK → Prop:=fun x lo hi H Q => ∃ a xs,x = .ref a ∧ SqL K H a xs ∧ ∀ p,H p = none → Q (.ref p) (upd H p (.lst (cutV xs lo hi)))
theorem sl_list:SlR X (rSlL X.K):=by
 intro pins s σ H x v vl vu lo hi sl Q I rx hs pl pu h
 obtain ⟨a,xs,rfl,hx,q⟩:=h
 cases rx
 obtain ⟨its,r,ht,hz⟩:=I.list hx
 have hlen:=r.length
 refine ⟨"list",_,slot_list_getitem.lookup,ht.isList.typeIs,?_⟩
 refine wpAny_getItem_list_slice ht.isList hs pl pu .none (by simp) ?_ (by rw [List.size_toArray] <;> omega)
 rw [slicePick_cut,← hlen]
 refine ⟨.ref s.heap.objs.size,_,I.laid (t':=s.toks) (o:=.lst (cutV xs lo hi)) (fun b ob q => Heap.get?_push_of_some _ q) (Nat.le_refl _) ?_,rfl,q _ (I.hok.fresh (Nat.le_refl _))⟩
 exact ⟨Nat.le_trans (cutV_length xs lo hi) hz,_,0,(r.drop (HT.sIx xs.length 0 lo)).take (HT.sIx xs.length xs.length hi - HT.sIx xs.length 0 lo),Heap.get?_push_size _ rfl⟩
noncomputable def flatV:V → Bool
 | .non => true
 | .bl _ => true
 | .int _ => true
 | .str _ => true
 | _ => false
noncomputable def eqV:V → V → Bool
 | .non,.non => true
 | .bl a,.bl b => a == b
 | .bl a,.int b => (if a then 1 else 0) == b
 | .int a,.bl b => a == (if b then 1 else 0)
 | .int a,.int b => a == b
 | .str a,.str b => a == b
 | _,_ => false
theorem eqAt_V {A:Around} {s:Shared} {y x:V} {u v:Value} (ry:RelV y u) (rx:RelV x v) (fy:flatV y = true) (fx:flatV x = true):SeqAt.EqAt A s u v (eqV y x):=by
 cases y with
 | non =>
  cases ry
  cases x with
  | non => cases rx; exact SeqAt.EqAt.same _
  | bl b => cases rx; exact SeqAt.EqAt.none_bool b
  | int b => obtain ⟨t,rfl⟩:=rx; exact SeqAt.EqAt.none_int b t
  | str b => obtain ⟨t,rfl⟩:=rx; exact SeqAt.EqAt.none_str b t
  | _ => exact absurd (show false = true from fx) Bool.false_ne_true
 | bl a =>
  cases ry
  cases x with
  | non => cases rx; exact SeqAt.EqAt.bool_none a
  | bl b => cases rx; exact SeqAt.EqAt.bool_bool a b
  | int b => obtain ⟨t,rfl⟩:=rx; exact SeqAt.EqAt.bool_int a b t
  | str b => obtain ⟨t,rfl⟩:=rx; exact SeqAt.EqAt.bool_str a b t
  | _ => exact absurd (show false = true from fx) Bool.false_ne_true
 | int a =>
  obtain ⟨t',rfl⟩:=ry
  cases x with
  | non => cases rx; exact SeqAt.EqAt.int_none a t'
  | bl b => cases rx; exact SeqAt.EqAt.int_bool a t' b
  | int b => obtain ⟨t,rfl⟩:=rx; exact SeqAt.EqAt.int_int a t' b t
  | str b => obtain ⟨t,rfl⟩:=rx; exact SeqAt.EqAt.int_str a t' b t
  | _ => exact absurd (show false = true from fx) Bool.false_ne_true
 | str a =>
  obtain ⟨t',rfl⟩:=ry
  cases x with
  | non => cases rx; exact SeqAt.EqAt.str_none a t'
  | bl b => cases rx; exact SeqAt.EqAt.str_bool a t' b
  | int b => obtain ⟨t,rfl⟩:=rx; exact SeqAt.EqAt.str_int a t' b t
  | str b => obtain ⟨t,rfl⟩:=rx; exact SeqAt.EqAt.str_str a t' b t
  | _ => exact absurd (show false = true from fx) Bool.false_ne_true
 | _ => exact absurd (show false = true from fy) Bool.false_ne_true
noncomputable def eqU (x:V) (u:Value):Bool:=match u with
 | .none => eqV .non x
 | .bool b => eqV (.bl b) x
 | .int i _ => eqV (.int i) x
 | .str z _ => eqV (.str z) x
 | _ => false
theorem eqU_of {x y:V} {u:Value} (r:RelV y u) (f:flatV y = true):eqU x u = eqV y x:=by
 cases y with
 | non => cases r; rfl
 | bl b => cases r; rfl
 | int i => obtain ⟨t,rfl⟩:=r; rfl
 | str z => obtain ⟨t,rfl⟩:=r; rfl
 | _ => exact absurd (show false = true from f) Bool.false_ne_true
theorem any_eqU {x:V}:∀ {xs:List V} {us:List Value},Vals xs us → xs.all flatV = true → us.any (eqU x) = xs.any fun y => eqV y x
 | _,_,.nil,_ => rfl
 | y :: xs,u :: us,.cons r t,f => by
  rw [List.all_cons,Bool.and_eq_true] at f
  rw [List.any_cons,List.any_cons,eqU_of r f.1,any_eqU t f.2]
theorem mem_eqAt {A:Around} {s:Shared} {x:V} {v:Value} (rx:RelV x v) (fx:flatV x = true):∀ {xs:List V} {us:List Value},Vals xs us → xs.all flatV = true → ∀ u ∈ us,SeqAt.EqAt A s u v (eqU x u)
 | _,_,.nil,_ => fun u hu => by cases hu
 | y :: xs,u :: us,.cons r t,f => fun u' hu => by
  rw [List.all_cons,Bool.and_eq_true] at f
  rcases List.mem_cons.mp hu with rfl | hu
  ·rw [eqU_of r f.1]; exact eqAt_V r rx f.1 fx
  ·exact mem_eqAt rx fx t f.2 u' hu
noncomputable def inV (x:V) (xs:List V):Bool:=xs.any fun y => eqV y x
noncomputable def rIn (K:PySem.W.Frag) (neg:Bool):R2:=fun x y H Q => ∃ p xs,y = .ref p ∧ (SqL K H p xs ∨ SqT K H p xs) ∧ flatV x = true ∧ xs.all flatV = true ∧ Q (.bl (if neg then !inV x xs else inV x xs)) H
theorem op_in_seq:OpR X (compareOp .In) (rIn X.K false):=by
 intro pins s σ H x y v u Q I rx ry h
 obtain ⟨p,xs,rfl,hq,fx,fs,q⟩:=h
 cases ry
 rcases hq with hq | hq
 ·obtain ⟨its,r,pl,hz⟩:=I.list hq
  refine SeqAt.in_listAt (eqU x) pl.isList (fun w hw => mem_eqAt rx fx r fs w (by simpa using hw)) ⟨.bl _,H,I,rfl,?_⟩
  rw [show its.toArray.any (eqU x) = its.any (eqU x) by simp,any_eqU r fs]
  exact q
 ·obtain ⟨its,r,pl,hz⟩:=I.tuple hq
  refine SeqAt.in_tupleAt (eqU x) pl (fun w hw => mem_eqAt rx fx r fs w (by simpa using hw)) ⟨.bl _,H,I,rfl,?_⟩
  rw [show its.toArray.any (eqU x) = its.any (eqU x) by simp,any_eqU r fs]
  exact q
theorem op_notIn_seq:OpR X (compareOp .NotIn) (rIn X.K true):=by
 intro pins s σ H x y v u Q I rx ry h
 obtain ⟨p,xs,rfl,hq,fx,fs,q⟩:=h
 cases ry
 rcases hq with hq | hq
 ·obtain ⟨its,r,pl,hz⟩:=I.list hq
  refine SeqAt.notIn_listAt (eqU x) pl.isList (fun w hw => mem_eqAt rx fx r fs w (by simpa using hw)) ⟨.bl _,H,I,rfl,?_⟩
  rw [show its.toArray.any (eqU x) = its.any (eqU x) by simp,any_eqU r fs]
  exact q
 ·obtain ⟨its,r,pl,hz⟩:=I.tuple hq
  refine SeqAt.notIn_tupleAt (eqU x) pl (fun w hw => mem_eqAt rx fx r fs w (by simpa using hw)) ⟨.bl _,H,I,rfl,?_⟩
  rw [show its.toArray.any (eqU x) = its.any (eqU x) by simp,any_eqU r fs]
  exact q
theorem call_len_seq:CallR X (.builtin "len") (fun xs H Q => ∃ p ys,xs = [.ref p] ∧ (SqL X.K H p ys ∨ SqT X.K H p ys) ∧ Q (.int ys.length) H):=by
 intro pins s σ H xs us Q I r h
 obtain ⟨p,ys,rfl,hq,q⟩:=h
 obtain ⟨u,rfl,rx⟩:=vals1 r
 cases rx
 have hn:=line63
 rcases hq with hq | hq
 ·obtain ⟨its,r',pl,hz⟩:=I.list hq
  have hlen:=r'.length
  exact Calls.call_len_list pl.isList (by simp only [List.size_toArray] <;> omega) ⟨.int ys.length,H,I.tok _,⟨s.toks + 1,by rw [List.size_toArray,hlen]⟩,q⟩
 ·obtain ⟨its,r',pl,hz⟩:=I.tuple hq
  have hlen:=r'.length
  exact len_tuple pl (by simp only [List.size_toArray] <;> omega) ⟨.int ys.length,H,I.tok _,⟨s.toks + 1,by rw [List.size_toArray,hlen]⟩,q⟩
theorem call_len_str:CallR X (.builtin "len") (fun xs H Q => ∃ z,xs = [.str z] ∧ z.length ≤ sizeLine ∧ Q (.int z.length) H):=by
 intro pins s σ H xs us Q I r h
 obtain ⟨z,rfl,hz,q⟩:=h
 obtain ⟨u,rfl,t,rfl⟩:=vals1 r
 have hn:=line63
 exact len_str (by omega) ⟨.int z.length,H,I.tok _,⟨_,rfl⟩,q⟩
theorem CallR.or {f:Value} {r r':List V → Hp → VK → Prop} (h:CallR X f r) (h':CallR X f r'):CallR X f (fun xs H Q => r xs H Q ∨ r' xs H Q):=by
 intro pins s σ H xs us Q I rs q
 rcases q with q | q
 ·exact h pins s σ H xs us Q I rs q
 ·exact h' pins s σ H xs us Q I rs q
theorem call_tuple_of:CallR X (.type "tuple") (fun xs H Q => ∃ p ys,xs = [.ref p] ∧ ((SqL X.K H p ys ∧ ∀ l,H l = none → Q (.ref l) (upd H l (.tup ys))) ∨ (SqT X.K H p ys ∧ Q (.ref p) H))):=by
 intro pins s σ H xs us Q I r h
 obtain ⟨p,ys,rfl,h⟩:=h
 obtain ⟨u,rfl,rx⟩:=vals1 r
 cases rx
 rcases h with ⟨hq,q⟩ | ⟨hq,q⟩
 ·obtain ⟨its,r',pl,hz⟩:=I.list hq
  have hlen:=r'.length
  refine call_tuple_list pl.isList (fun h' kp => ?_) (by simp only [List.size_toArray] <;> omega)
  have I1:Inv X pins σ H { s with heap:=h' }:=I.kept (t':=s.toks) kp
  have I2:Inv X pins σ (upd H h'.objs.size (.tup ys)) { s with heap:=h'.push { cls:=.type "tuple",data:=.seq its.toArray } } :=
   I1.laid (t':=s.toks) (fun b o e => Heap.get?_push_of_some _ e) (Nat.le_refl _) (show ObjOk X.prog X.w _ _ _ (.tup ys) from ⟨hz,its,r',IsTup.new _ _⟩)
  exact ⟨.ref h'.objs.size,_,I2,rfl,q _ (I1.hok.fresh (Nat.le_refl _))⟩
 ·obtain ⟨its,r',pl,hz⟩:=I.tuple hq
  exact call_tuple_same pl ⟨.ref p,H,I,rfl,q⟩
noncomputable def tyV (K:PySem.W.Frag) (T:String) (x:V) (H:Hp):Prop:=match x with
 | .str _ => T = "str"
 | .int _ => T = "int"
 | .ref p => (T = "list" ∧ ∃ xs,SqL K H p xs) ∨ (T = "tuple" ∧ ∃ o,K.lookup p = some o ∧ o.cls = .type "tuple" ∧ o.dict = none) ∨
   (T = "dict" ∧ ((∃ kvs,H p = some (.dK kvs)) ∨ (∃ kvs,H p = some (.dT kvs)) ∨ ∃ kvs ep,H p = some (.dN kvs ep))) ∨ (T = "set" ∧ ∃ S n,H p = some (.set S n))
 | _ => False
theorem tyV_is {pins:List (Addr × Obj)} {σ:St} {H:Hp} {s:Shared} {T:String} {x:V} {v:Value} (I:Inv X pins σ H s) (r:RelV x v) (ty:tyV X.K T x H) :
  s.TypeIs v T ∧ ∀ a,v = .ref a → ∃ ob,s.heap.get? a = some ob ∧ ob.dict = none:=by
 cases x with
 | str z =>
  obtain ⟨t,rfl⟩:=r
  cases (show T = "str" from ty)
  exact ⟨typeIs_str s z t,fun _ e => nomatch e⟩
 | int i =>
  obtain ⟨t,rfl⟩:=r
  cases (show T = "int" from ty)
  exact ⟨typeIs_int s i t,fun _ e => nomatch e⟩
 | ref p =>
  cases r
  rcases ty with ⟨rfl,xs,hq⟩ | ⟨rfl,o,hk,hc,hd⟩ | ⟨rfl,hk⟩ | ⟨rfl,S,n,hk⟩
  ·obtain ⟨its,_,pl,_⟩:=I.list hq
   refine ⟨pl.isList.typeIs,fun a e => ?_⟩
   cases e
   obtain ⟨o,n,e,c,hd,_⟩:=pl
   exact ⟨o,e,hd⟩
  ·refine ⟨⟨o,I.kIn p o hk,hc⟩,fun a e => ?_⟩
   cases e
   exact ⟨o,I.kIn _ o hk,hd⟩
  ·have z:∃ o,s.heap.get? p = some o ∧ o.ExactDict:=by
    rcases hk with ⟨kvs,hk⟩ | ⟨kvs,hk⟩ | ⟨kvs,ep,hk⟩
    ·obtain ⟨_,_,_,_,o,_,_,e,ex,_⟩:=I.hok p _ hk
     exact ⟨o,e,ex⟩
    ·obtain ⟨_,_,_,_,o,_,_,e,ex,_⟩:=I.hok p _ hk
     exact ⟨o,e,ex⟩
    ·obtain ⟨_,_,_,_,o,_,e,ex,_⟩:=I.hok p _ hk
     exact ⟨o,e,ex⟩
   obtain ⟨o,e,ex⟩:=z
   refine ⟨⟨o,e,ex.1⟩,fun a e2 => ?_⟩
   cases e2
   exact ⟨o,e,ex.2.1⟩
  ·obtain ⟨o,_,_,_,e,ex,_⟩:=I.hok p _ hk
   refine ⟨⟨o,e,ex.1⟩,fun a e2 => ?_⟩
   cases e2
   exact ⟨o,e,ex.2.1⟩
 | _ => exact False.elim ty
noncomputable def tBM0 (K:PySem.W.Frag) (T:String) (r:V → List V → Hp → VK → Prop) (to:TE):TE:=fun σ H Q => to σ H fun x H1 => tyV K T x H1 ∧ r x [] H1 Q
noncomputable def tBM (K:PySem.W.Frag) (T:String) (r:V → List V → Hp → VK → Prop) (to:TE) (t:TA):TE:=fun σ H Q => to σ H fun x H1 => tyV K T x H1 ∧ t σ H1 fun xs H2 => r x xs H2 Q
variable {o e:Expr} {es:List Expr} {to:TE} {t:TA} {name:Str} {apos cpos:Pos} {T id:String} {r:V → List V → Hp → VK → Prop}
theorem pe_bm0 (pa:PlainAttrs T) (slot:Slot T name id) (hty:typeOf (.builtin id) = pure (.type "method_descriptor")) (hm:MtR X id r) (ho:PE X o to)
  (hbase:attributeBase o name X.env (eval o X.env) = eval o X.env:=by rfl) (hline:(apos.endLine == cpos.line) = true:=by rfl):PE X (.Call (.Attribute o name apos) [] [] cpos) (tBM0 X.K T r to):=by
 intro pins s σ H Q I h
 refine wpAny_Call_method0_late hbase hline (thn (ho pins s σ H _ I h) fun v s1 ⟨x,H1,I1,r1,ty,q1⟩ => ?_)
 obtain ⟨h1,h2⟩:=tyV_is I1 r1 ty
 exact ⟨T,id,pa,slot,hty,h1,h2,Calls.callWith_builtin rfl (PySem.evalArgs_none (hm pins s1 σ H1 x [] v [] Q I1 r1 .nil q1))⟩
theorem pe_bm (pa:PlainAttrs T) (slot:Slot T name id) (hty:typeOf (.builtin id) = pure (.type "method_descriptor")) (hm:MtR X id r) (ho:PE X o to) (ha:PA X (e :: es) t)
  (hbase:attributeBase o name X.env (eval o X.env) = eval o X.env:=by rfl)
  (hfew:((backTo cpos (starEach (e :: es) X.env)).all (fun x => !x.1) && (backToKw cpos (keywordEach [] X.env)).all (fun x => x.1.isSome)
   && decide ((e :: es).length + ([]:List Keyword).length + (if ([]:List Keyword).isEmpty then 0 else 1) < 30)) = true:=by rfl)
  (hline:(apos.endLine == cpos.line) = true:=by rfl) (hs:starEach (e :: es) X.env = (false,eval e X.env) :: starEach es X.env:=by rfl) (hplain:(backTo cpos (starEach es X.env)).any (·.1) = false:=by rfl) :
  PE X (.Call (.Attribute o name apos) (e :: es) [] cpos) (tBM X.K T r to t):=by
 intro pins s σ H Q I h
 refine wpAny_Call_method_late hbase hfew hline rfl (thn (ho pins s σ H _ I h) fun v s1 ⟨x,H1,I1,r1,ty,q1⟩ => ?_)
 obtain ⟨h1,h2⟩:=tyV_is I1 r1 ty
 refine ⟨T,id,pa,slot,hty,h1,h2,?_⟩
 have hA:=ha cpos pins s1 σ H1 _ I1 q1
 rw [hs] at hA ⊢
 refine Calls.callWith_builtin (by show (false || (backTo cpos (starEach es X.env)).any (·.1)) = false; rw [hplain] <;> rfl) (Calls.evalArgs_plain ?_)
 exact thn hA fun us s2 ⟨vs,H2,I2,r2,q2⟩ => hm pins s2 σ H2 x vs v us Q I2 r1 r2 q2
end
end L2
namespace L2
open PySem PySem.Spec PyProof.Rows
noncomputable def MtM (X:Cx) (id:String) (r:V → List V → Hp → VK → Prop):Prop :=
 ∀ (pins:List (Addr × Obj)) (s:Shared) (σ:St) (H:Hp) (x:V) (xs:List V) (v:Value) (us:List Value) (Q:VK),Inv X pins σ H s → RelV x v → Vals xs us → r x xs H Q →
  wpAny (model X.prog X.w) X.A (call (.builtin id) (v :: us)) (EP X pins σ Q) X.xe s
theorem Vals.one:∀ {x:V} {us:List Value},Vals [x] us → ∃ u,us = [u] ∧ RelV x u
 | _,_,.cons r .nil => ⟨_,rfl,r⟩
theorem Vals.zero:∀ {us:List Value},Vals [] us → us = []
 | _,.nil => rfl
section
variable {X:Cx} {pins:List (Addr × Obj)} {σ:St} {H:Hp} {s:Shared} {l b:Addr} {xs ys zs:List V}
theorem Inv.lset {its its':List Value} {n:Nat} {f:Array Value → Array Value} {t':Nat} (I:Inv X pins σ H s) (hH:H l = some (.lst xs))
  (e:s.heap.get? l = some { cls:=.type "list",data:=.seq its.toArray n }) (hf:f its.toArray = its'.toArray) (hv:Vals ys its') (hz:ys.length ≤ sizeLine) :
  Inv X pins σ (upd H l (.lst ys)) { s with heap:=s.heap.update l (Obj.mapSeq f),toks:=t' }:=by
 have q:=PySem.IsL.update e f
 rw [hf] at q
 refine I.write (x:=l) (e:=l) (by rw [hH]; exact trivial) (.inl rfl) (fun b' u hb hu => (Heap.get?_update_other s.heap (Obj.mapSeq f) (Ne.symm hb)).trans hu) ⟨_,q⟩ ?_
 exact ⟨hz,its',_,hv,q⟩
theorem Inv.lnew {its:List Value} {t':Nat} (I:Inv X pins σ H s) (hv:Vals ys its) (hz:ys.length ≤ sizeLine) :
  Inv X pins σ (upd H s.heap.objs.size (.lst ys)) { s with heap:=s.heap.push { cls:=.type "list",data:=.seq its.toArray },toks:=t' } :=
 I.laid (fun _ _ q => Heap.get?_push_of_some _ q) (Nat.le_refl _) ⟨hz,its,0,hv,Heap.get?_push_size _ rfl⟩
theorem Inv.fresh (I:Inv X pins σ H s):H s.heap.objs.size = none:=I.hok.fresh (Nat.le_refl _)
theorem Inv.lstM (I:Inv X pins σ H s) (hH:H l = some (.lst xs)):xs.length ≤ sizeLine ∧ ∃ (its:List Value) (n:Nat),Vals xs its ∧ xs.length = its.length ∧ s.heap.get? l = some { cls:=.type "list",data:=.seq its.toArray n }:=by
 obtain ⟨z,its,n,r,e⟩:=I.hok l _ hH
 exact ⟨z,its,n,r,r.length,e⟩
theorem notLongL {n:Nat} (h:n ≤ sizeLine):Builtin.List.listTooLong n = false:=by
 unfold Builtin.List.listTooLong
 exact decide_eq_false (by omega)
end
section
variable {X:Cx}
noncomputable def rAppend:V → List V → Hp → VK → Prop:=fun x vs H Q => ∃ l xs y,x = .ref l ∧ vs = [y] ∧ H l = some (.lst xs) ∧ xs.length < sizeLine ∧ Q .non (upd H l (.lst (xs ++ [y])))
theorem mt_append:MtM X "list.append" rAppend:=by
 intro pins s σ H x vs v us Q I rx rv h
 obtain ⟨l,xs,y,rfl,rfl,hH,hz,q⟩:=h
 cases rx
 obtain ⟨u,rfl,ru⟩:=rv.one
 obtain ⟨z,its,n,r,hl,e⟩:=I.lstM hH
 refine call_meets F.slot_list_append ⟨_,e,rfl⟩ F.entry_list_append (F.args_list_append_2 _ _) (PySem.list_append l its.toArray n u (by rw [List.size_toArray]; omega)) ⟨e,?_⟩
 refine ⟨.non,_,I.lset (its':=its ++ [u]) hH e (by simp) (r.append (.cons ru .nil)) ?_,rfl,q⟩
 rw [List.length_append,List.length_singleton]
 omega
noncomputable def rExtend:V → List V → Hp → VK → Prop:=fun x vs H Q => ∃ l b xs zs,x = .ref l ∧ vs = [.ref b] ∧ H l = some (.lst xs) ∧ H b = some (.lst zs) ∧ xs.length + zs.length ≤ sizeLine ∧ Q .non (upd H l (.lst (xs ++ zs)))
theorem mt_extend:MtM X "list.extend" rExtend:=by
 intro pins s σ H x vs v us Q I rx rv h
 obtain ⟨l,b,xs,zs,rfl,rfl,hH,hB,hz,q⟩:=h
 cases rx
 obtain ⟨u,rfl,ru⟩:=rv.one
 cases ru
 obtain ⟨z,its,n,r,hl,e⟩:=I.lstM hH
 obtain ⟨z2,its2,n2,r2,hl2,e2⟩:=I.lstM hB
 have hsz:its.toArray.size + its2.toArray.size ≤ sizeLine:=by rw [List.size_toArray,List.size_toArray]; omega
 have hlong:¬ (!its.toArray.isEmpty && Builtin.List.listTooLong (its.toArray.size + its2.toArray.size)) = true:=by
  rw [notLongL hsz,Bool.and_false]
  exact Bool.false_ne_true
 refine call_meets F.slot_list_extend ⟨_,e,rfl⟩ F.entry_list_extend (F.args_list_extend_2 _ _)
  (AutoSeq1.list_extend_list_list_0 l its.toArray n b its2.toArray n2 hlong (by rw [List.size_toArray]; omega) (by omega)) ⟨e,e2,?_⟩
 refine ⟨.non,_,I.lset (its':=its ++ its2) hH e (by simp) (r.append r2) ?_,rfl,q⟩
 rw [List.length_append]
 omega
noncomputable def rCat:R2:=fun x y H Q => ∃ l b xs zs,x = .ref l ∧ y = .ref b ∧ H l = some (.lst xs) ∧ H b = some (.lst zs) ∧ xs.length + zs.length ≤ sizeLine ∧ ∀ p,H p = none → Q (.ref p) (upd H p (.lst (xs ++ zs)))
theorem op_cat:OpR X (binaryOp .Add) rCat:=by
 intro pins s σ H x y v u Q I rx ry h
 obtain ⟨l,b,xs,zs,rfl,rfl,hH,hB,hz,q⟩:=h
 cases rx
 cases ry
 obtain ⟨z,its,n,r,hl,e⟩:=I.lstM hH
 obtain ⟨z2,its2,n2,r2,hl2,e2⟩:=I.lstM hB
 refine PySem.P.add_list e e2 ?_ (by rw [List.size_toArray,List.size_toArray]; omega)
 have ea:its.toArray ++ its2.toArray = (its ++ its2).toArray:=by simp
 rw [ea]
 exact ⟨.ref _,_,I.lnew (t':=s.toks) (r.append r2) (by rw [List.length_append]; omega),rfl,q _ I.fresh⟩
end
section
variable {prog:Program} {w:World} {A:Around} {E:Value → Shared → Prop} {s:Shared}
set_option maxRecDepth 100000 in
end
end L2
namespace Att
open PySem PySem.W PySem.Calls PyProof.Rows
theorem ints_of_wellAll {P:Params} {h:Heap}:∀ (ns:List Int) (vs:List Value),WellAll P h vs (ns.map WData.int) → IntsAre vs ns:=by
 intro ns
 induction ns with
 | nil =>
  intro vs w
  rw [List.map_nil] at w
  cases w
  exact .nil
 | cons n ns ih =>
  intro vs w
  rw [List.map_cons] at w
  cases w with
  | cons a b =>
   cases a
   exact .cons _ _ (ih _ b)
theorem script_of {l:OpenLaw} {n:Nat} (hn:l.most = some n) {P:Params} {h:Heap} {args:List WData} {vals:List Value}
  (hpre:l.row.toRowW.claim.pre args = true) (hwl:WellAll P h vals args) :
  ∃ a vs ns,vals = [Value.ref a] ∧ args = [WData.list (ns.map WData.int)] ∧ h.get? a = some { cls:=.type "list",data:=.seq vs.toArray } ∧ IntsAre vs ns ∧ ns.length ≤ n:=by
 have hsh:WShape.hasAll [] args [.list .int] = true:=(pre_splitW hpre).1
 have hc:l.pre.holds [] { args:=args } = true:=(pre_splitW hpre).2
 obtain ⟨d,r,rfl,h1,h2⟩:=hasAllW_cons hsh
 obtain rfl:=hasAllW_nil h2
 obtain ⟨xs,rfl,h3⟩:=hasW_list h1
 obtain ⟨ns,rfl⟩:=items_int h3
 have hlen:ns.length ≤ n:=by
  unfold OpenLaw.pre at hc
  have h4:(WTm.not (.lt (.lit (.int (n:Int))) (.len (.arg 0)))).holds [] { args:=[.list (ns.map .int)] } = true:=by
   have h4:=(holds_andW hc).1
   rw [hn] at h4
   exact h4
  have h5:=condW_of h4 (w_not (w_lt w_lit (w_len_list (w_arg rfl))))
  rw [List.length_map] at h5
  refine Nat.le_of_not_lt fun q => ?_
  have q':(n:Int) < ((ns.length:Nat):Int):=by omega
  first
   | (rw [decide_eq_true q'] at h5; exact absurd h5 (by decide))
   | (simp at h5; omega)
 cases hwl with
 | cons w1 w2 =>
  cases w2
  cases w1 with
  | list ho hall => exact ⟨_,_,ns,rfl,rfl,ho,ints_of_wellAll ns _ hall,hlen⟩
theorem post_true (l:OpenLaw) (args:List WData):l.row.toRowW.claim.post args (.bool true) args = true :=
 postW_of (r:=l.row.toRowW) (X:=(true == true))
  (show WShape.has [] (.bool true) .bool = true by first | rfl | decide | simp [WShape.has,WShape.arms,WShape.armsAll])
  (show (WTm.eq .res (.lit (.bool true))).value [] { args:=args,res:=some (.bool true),after:=args } = some (.bool (true == true)) from w_eq_bool (w_res rfl) w_lit) rfl
end Att
namespace L2
open PySem PySem.Spec PyProof.Rows
theorem vals_ints:∀ {vs:List Value} {ns:List Int},IntsAre vs ns → Vals (ns.map V.int) vs
 | _,_,.nil => .nil
 | _,_,.cons n t h => .cons ⟨t,rfl⟩ (vals_ints h)
noncomputable def Only (H:Hp):Prop:=∀ b,H b = none ∨ ∃ o xs,H b = some (.frz o (.lst xs))
theorem law_call {P:Program} {w:World} {K:PySem.W.Frag} {mg mb:Str → Option Value} {CX:CXT} {k:Nat} {fa a:Addr} {fd:FuncData} {x:Str} {sp:Sp} {s₁:Shared} {vs:List Value} {ns:List Int}
  (KX:K.In s₁.heap) (hns:s₁.heap.Ns mainGlobals mg) (hb:s₁.heap.Ns builtinsNs mb) (hbb:∀ x:Str,x ≠ "__name__" → mb x = bootBuiltins x) (hlim:s₁.heap.NoLimit) (hg:s₁.gens = #[])
  (ha:s₁.heap.get? a = some { cls:=.type "list",data:=.seq vs.toArray }) (hi:IntsAre vs ns) (hl:ns.length ≤ sizeLine) (hr:Room k callerA)
  (F:∀ base:Heap,K.In base → base.Ns mainGlobals mg → FnOk P w K mg base CX k fa fd [x] sp) (hbind:∀ (s:Shared) (u:Value),BindsTo s fd ⟨[u],[]⟩ [(x,u)])
  (hsp:∀ H:Hp,Only H → SqL K H a (ns.map V.int) → sp [.ref a] H (fun v _ => v = .bl true) fun _ _ _ => False)
  (hCX:∀ H e s',CX [] H s₁ (fun _ _ _ => False) e s' → False) :
  codeAny (model P w) callerA (.call (.ref fa) ⟨[.ref a],[]⟩) (fun r s' => r = .ok (.ret (.bool true)) ∧ OldK s₁.heap s'.heap ∧ s'.os = s₁.os ∧ AllBare s'.gens) s₁:=by
 have rv:=vals_ints hi
 have lenV:=hi.length
 -- from an abstract heap in which nothing but the script may be tracked
 have core:∀ H:Hp,Only H → SqL K H a (ns.map V.int) → HOk P w H s₁.heap → (∀ b,H b ≠ none → b = a) → (H a ≠ none → K.lookup a = none) →
   codeAny (model P w) callerA (.call (.ref fa) ⟨[.ref a],[]⟩) (fun r s' => r = .ok (.ret (.bool true)) ∧ OldK s₁.heap s'.heap ∧ s'.os = s₁.os ∧ AllBare s'.gens) s₁:=by
  intro H hO hS hok hA hK
  have base_of:∀ {b:Addr} {o:Obj},s₁.heap.get? b = some o → H b = none → (hidT s₁.heap H).get? b = some o:=fun e n => hidT_get e n
  have noA:∀ {b:Addr} {o:Obj} {es:Array DictEntry} {ep:Nat},s₁.heap.get? b = some o → o.data = .dict es ep → H b = none:=fun {b o es ep} e d => by
   cases q:H b with
   | none => rfl
   | some u =>
    have e':b = a:=hA b (by rw [q]; simp)
    subst e'
    rw [ha] at e; cases e
    have d':Data.seq vs.toArray _ = Data.dict es ep:=d
    cases d'
  have nsK:∀ {b:Addr} {m:Str → Option Value},s₁.heap.Ns b m → (hidT s₁.heap H).Ns b m:=fun {b m} ⟨o,es,ep,e,d,r⟩ => ⟨o,es,ep,base_of e (noA e d),d,r⟩
  have hKb:K.In (hidT s₁.heap H):=fun b o e => base_of (KX b o e) (by
   cases q:H b with
   | none => rfl
   | some u =>
    have e':b = a:=hA b (by rw [q]; simp)
    subst e'
    rw [hK (by rw [q]; simp)] at e; cases e)
  have hM:Mod K mg (hidT s₁.heap H):=⟨hKb,nsK hns,⟨mb,nsK hb,hbb⟩,let ⟨mc,h1,h2⟩:=hlim; ⟨mc,nsK h1,h2⟩⟩
  have e0:Env0 P w K mg (hidT s₁.heap H) callerA [] s₁ H:=⟨rfl,hM,fun b o e => of_hidT e,Nat.le_of_eq (hidT_size _ _),trivial,fun b hb => absurd (show b ∈ ([]:List Addr) from hb) (by simp),hok,.of_eq hg⟩
  refine codeAny_mono ((F _ hKb (nsK hns)).run callerA [] s₁ H ⟨[.ref a],[]⟩ [.ref a] [.ref a] _ _ hr e0 (hbind s₁ (.ref a)) (.cons rfl .nil) (hsp H hO hS)) fun r s' h => ?_
  cases r with
  | error e => exact (hCX H e s' h).elim
  | ok fl =>
   cases fl with
   | next => exact False.elim h
   | brk => exact False.elim h
   | cont => exact False.elim h
   | ret u =>
    obtain ⟨v,H',os,bare,un,hok',r',q⟩:=h
    have q':v = .bl true:=q
    subst q'
    obtain rfl:u = Value.bool true:=r'
    refine ⟨rfl,OldK.of_keep fun b o e => ?_,os,bare⟩
    cases q:H b with
    | none => exact un.keep b o e q (by intro z; exact absurd (show b ∈ ([]:List Addr) from z) (by simp)) (by simp)
    | some u =>
     rcases hO b with z | ⟨ob,xs,z⟩
     ·rw [q] at z; cases z
     ·have z2:=un.frzs b ob _ z
      obtain ⟨e1,_⟩:=hok b _ z
      obtain ⟨e2,_⟩:=hok' b _ z2
      rw [e] at e1; cases e1
      exact e2
 cases hk:K.lookup a with
 | some o =>
  -- the script is one of the module's own objects
  have e:=KX a o hk
  rw [ha] at e
  cases e
  refine core (fun _ => none) (fun _ => .inl rfl) (.inr ⟨_,vs.toArray,_,hk,rfl,rfl,rfl,by rw [List.size_toArray,lenV]; exact hl,by simpa using rv⟩) (fun b u z => by have z':(none:Option HO) = some u:=z; cases z') (fun b z => absurd rfl z) fun z => absurd rfl z
 | none =>
  refine core (fun b => if b = a then some (.frz { cls:=.type "list",data:=.seq vs.toArray } (.lst (ns.map V.int))) else none) (fun b => ?_) (.inl (.inr ⟨{ cls:=.type "list",data:=.seq vs.toArray },if_pos rfl⟩)) (fun b u z => ?_) (fun b z => ?_) fun _ => hk
  ·by_cases hb:b = a
   ·exact .inr ⟨_,_,if_pos hb⟩
   ·exact .inl (if_neg hb)
  ·by_cases hb:b = a
   ·have z':=(if_pos hb).symm.trans z
    cases z'
    subst hb
    exact ⟨ha,by rw [List.length_map]; exact hl,vs,_,rv,ha⟩
   ·have z':=(if_neg hb).symm.trans z
    cases z'
  ·by_cases hb:b = a
   ·exact hb
   ·exact absurd (if_neg hb) z
end L2
namespace L2
open PySem PySem.Spec PyProof.Rows
end L2
namespace L2
open PySem PySem.Spec PyProof.Rows
noncomputable def defArgs (s:Stmt):Arguments:=match s with
 | .FunctionDef _ a _ _ _ _ _ _ _ _ => a
 | _ => { posonlyargs:=[],args:=[],vararg:=none,kwonlyargs:=[],kw_defaults:=[],kwarg:=none,defaults:=[] }
noncomputable def defBody (s:Stmt):List Stmt:=match s with
 | .FunctionDef _ _ b _ _ _ _ _ _ _ => b
 | _ => []
noncomputable def defScope (s:Stmt):Scope:=match s with
 | .FunctionDef _ _ _ _ _ _ sc _ _ _ => sc
 | _ => { kind:=.function,names:=[],isGenerator:=false,isCoroutine:=false }
noncomputable abbrev CX0:CXT:=fun _ _ _ _ _ _ => False
noncomputable abbrev E0:XK:=fun _ _ _ => False
theorem pass0 {X:Cx}:Passes CX0 X E0:=fun _ _ _ _ _ _ _ h => h.elim
structure Fun (K:PySem.W.Frag) (x qual:Str) (st:Stmt) (f:Addr) (fd:FuncData):Prop where
 ex:∃ (oc:Value) (od:Option Addr) (kV doc pm:Value) (an:Option Addr) (cdv ct:Value) (osl:Array (Option Value)),
  fd = PySem.W.fnOf x qual (defArgs st) (defBody st) (defScope st) .none kV doc pm an cdv ct ∧ K.lookup f = some ⟨oc,od,.func fd,osl⟩ ∧ PySem.W.codeIn K cdv qual = true
 kp:PySem.W.keepIn K (.ref f) = true
section
variable {P:Program} {w:World} {K:PySem.W.Frag} {mg:Str → Option Value} {base:Heap}
theorem Fun.ok {x qual:Str} {st:Stmt} {f:Addr} {fd:FuncData} {N ps:List Str} {k:Nat} {sp:Sp} (F:Fun K x qual st f fd) (S:FnScope N ps (defScope st)) (len:∀ vs H Q E,sp vs H Q E → vs.length = ps.length)
  (hbody:∀ (cdv:Value) (A:Around) (outer:List Env) (s:Shared) (H:Hp) (vs:List V) (Q:VK) (E:XK),Room k (A.deeper (envOfC qual (defScope st) s.heap.objs.size f cdv)) → sp vs H Q E →
   ∃ t,PSs (cxOf CX0 P w K mg base N qual (defScope st) f cdv A outer s H E).nox (defBody st) t ∧ t { nx:=fun _ H' => Q .non H',rt:=Q } (start N vs) H):FnOk P w K mg base CX0 (k + 1) f fd ps sp:=by
 obtain ⟨oc,od,kV,doc,pm,an,cdv,ct,osl,rfl,lk,hcd⟩:=F.ex
 refine fn_of lk hcd S len fun A outer s H vs Q E hr hsp => ?_
 obtain ⟨t,h,q⟩:=hbody cdv A outer s H vs Q E hr hsp
 exact ⟨t,h.nox,q⟩
theorem Fun.binds {x qual:Str} {st:Stmt} {f:Addr} {fd:FuncData} {ps:List Str} (F:Fun K x qual st f fd)
  (h:∀ (kV doc pm:Value) (an:Option Addr) (cdv ct:Value) (us:List Value),us.length = ps.length → bindArgs (PySem.W.fnOf x qual (defArgs st) (defBody st) (defScope st) .none kV doc pm an cdv ct) ⟨us,[]⟩ = pure (ps.zip us)):Binds K fd ps []:=by
 obtain ⟨oc,od,kV,doc,pm,an,cdv,ct,osl,rfl,lk,hcd⟩:=F.ex
 exact .all (h kV doc pm an cdv ct)
theorem fun_mk {x qual:Str} {st:Stmt} {f:Addr} {oc:Value} {od an:Option Addr} {osl:Array (Option Value)} {kV doc pm cdv ct:Value} (l:K.lookup f = some ⟨oc,od,.func (PySem.W.fnOf x qual (defArgs st) (defBody st) (defScope st) .none kV doc pm an cdv ct),osl⟩)
  (c:PySem.W.codeIn K cdv qual = true) (k:PySem.W.keepIn K (.ref f) = true):Fun K x qual st f (PySem.W.fnOf x qual (defArgs st) (defBody st) (defScope st) .none kV doc pm an cdv ct):=⟨⟨oc,od,kV,doc,pm,an,cdv,ct,osl,rfl,l,c⟩,k⟩
end
section
variable {X:Cx}
theorem pv (i:Nat) {x:Str} {pos:Pos} (hN:X.N[i]? = some x:=by rfl) (hv:Vis X.env.scope x:=by first | exact Or.inl rfl | exact Or.inr (Or.inl rfl) | exact Or.inr (Or.inr rfl)) (hd:(x == ("__debug__":Str)) = false:=by decide)
  (hcd:(x == ("__classdict__":Str)) = false:=by decide):PE X (.Name x pos) (tVar i):=pe_var hN hv hd hcd
end
theorem iteF {A B:Prop} (h:B):if false = true then A else B:=by
 rw [if_neg Bool.false_ne_true]
 exact h
theorem iteT {A B:Prop} (h:A):if true = true then A else B:=by
 rw [if_pos rfl]
 exact h
noncomputable def Same (H H':Hp):Prop:=∀ b o,H b = some o → H' b = some o
theorem Same.refl (H:Hp):Same H H:=fun _ _ h => h
theorem Same.trans {H H1 H2:Hp} (a:Same H H1) (b:Same H1 H2):Same H H2:=fun c o h => b c o (a c o h)
theorem Same.free {H H':Hp} (e:Same H H') {l:Addr} (h:H' l = Option.none):H l = Option.none:=by
 cases q:H l with
 | none => rfl
 | some o =>
  rw [e l o q] at h
  cases h
theorem Same.seq {K:PySem.W.Frag} {H H':Hp} {a:Addr} {xs:List V} (e:Same H H') (h:SqL K H a xs):SqL K H' a xs:=by
 rcases h with (h | ⟨o,h⟩) | h
 ·exact .inl (.inl (e _ _ h))
 ·exact .inl (.inr ⟨o,e _ _ h⟩)
 ·exact .inr h
end L2
namespace L2
open PySem PySem.Spec PyProof.Rows
section
variable {κ:Type} [DecidableEq κ]
noncomputable def valV (kvs:List (κ × V)) (k:κ):Option V:=(kvs.find? fun kv => decide (kv.1 = k)).map (·.2)
noncomputable def putK (kvs:List (κ × V)) (k:κ) (v:V):List (κ × V) :=
 if (kvs.any fun kv => decide (kv.1 = k)) = true then kvs.map (fun kv => if kv.1 = k then (kv.1,v) else kv) else kvs ++ [(k,v)]
noncomputable def dropK (kvs:List (κ × V)) (k:κ):List (κ × V):=kvs.filter fun kv => decide (kv.1 ≠ k)
theorem valV_pos {p:κ × V} {r:List (κ × V)} {k:κ} (e:p.1 = k):valV (p :: r) k = some p.2:=by simp [valV,List.find?_cons,e]
theorem valV_neg {p:κ × V} {r:List (κ × V)} {k:κ} (e:¬ p.1 = k):valV (p :: r) k = valV r k:=by simp [valV,List.find?_cons,e]
theorem valV_any (k:κ):∀ kvs:List (κ × V),(kvs.any fun kv => decide (kv.1 = k)) = (valV kvs k).isSome
 | [] => rfl
 | p :: r => by
  rw [List.any_cons]
  by_cases e:p.1 = k
  ·simp only [valV_pos e,decide_eq_true e,Bool.true_or,Option.isSome_some]
  ·rw [valV_neg e,decide_eq_false e,Bool.false_or]; exact valV_any k r
theorem RelO.isSome_eq {o:Option V} {u:Option Value} (r:RelO o u):o.isSome = u.isSome:=by
 cases o with
 | none => cases u with
  | none => rfl
  | some _ => exact (show False from r).elim
 | some _ => cases u with
  | none => exact (show False from r).elim
  | some _ => rfl
theorem RelO.getD {o:Option V} {u:Option Value} {d:V} {d':Value} (r:RelO o u) (rd:RelV d d'):RelV (o.getD d) (u.getD d'):=by
 cases o with
 | none => cases u with
  | none => exact rd
  | some _ => exact (show False from r).elim
 | some _ => cases u with
  | none => exact (show False from r).elim
  | some _ => exact r
theorem KV.val {kvs:List (κ × V)} {vs:List (κ × Value)} (r:KV kvs vs) (k:κ):RelO (valV kvs k) (valueAt vs k):=by
 unfold KV at r
 induction r with
 | nil => exact True.intro
 | @cons p q ps qs h t ih =>
  obtain ⟨h1,h2⟩:=h
  by_cases e:p.1 = k
  ·have e':q.1 = k:=h1.symm.trans e
   have b:valueAt (q :: qs) k = some q.2:=by simp [valueAt,List.find?_cons,e']
   rw [valV_pos e,b]; exact h2
  ·have e':¬ q.1 = k:=fun z => e (h1.trans z)
   have b:valueAt (q :: qs) k = valueAt qs k:=by simp [valueAt,List.find?_cons,e']
   rw [valV_neg e,b]; exact ih
theorem KV.any {kvs:List (κ × V)} {vs:List (κ × Value)} (r:KV kvs vs) (k:κ):(kvs.any fun kv => decide (kv.1 = k)) = vs.any fun kv => decide (kv.1 = k):=by
 unfold KV at r
 induction r with
 | nil => rfl
 | cons h t ih => rw [List.any_cons,List.any_cons,ih,h.1]
theorem KV.repl {kvs:List (κ × V)} {vs:List (κ × Value)} (r:KV kvs vs) (k:κ) {y:V} {u:Value} (ry:RelV y u) :
  KV (kvs.map fun kv => if kv.1 = k then (kv.1,y) else kv) (vs.map fun kv => if kv.1 = k then (kv.1,u) else kv):=by
 unfold KV at r ⊢
 induction r with
 | nil => exact .nil
 | @cons p q ps qs h t ih =>
  rw [List.map_cons,List.map_cons]
  refine .cons ?_ ih
  obtain ⟨h1,h2⟩:=h
  by_cases e:p.1 = k
  ·rw [if_pos e,if_pos (h1.symm.trans e)]; exact ⟨h1,ry⟩
  ·rw [if_neg e,if_neg (fun z => e (h1.trans z))]; exact ⟨h1,h2⟩
theorem KV.put {kvs:List (κ × V)} {vs:List (κ × Value)} (r:KV kvs vs) (k:κ) {y:V} {u:Value} (ry:RelV y u):KV (putK kvs k y) (stored vs k u):=by
 unfold putK stored
 rw [r.any k]
 by_cases e:(vs.any fun kv => decide (kv.1 = k)) = true
 ·rw [if_pos e,if_pos e]; exact r.repl k ry
 ·rw [if_neg e,if_neg e]; exact Paired.snoc r ⟨rfl,ry⟩
theorem KV.drop {kvs:List (κ × V)} {vs:List (κ × Value)} (r:KV kvs vs) (k:κ):KV (dropK kvs k) (without vs k):=by
 unfold KV at r ⊢
 unfold dropK without
 induction r with
 | nil => exact .nil
 | @cons p q ps qs h t ih =>
  obtain ⟨h1,h2⟩:=h
  rw [List.filter_cons,List.filter_cons]
  by_cases e:p.1 = k
  ·have a:¬ decide (p.1 ≠ k) = true:=by simp [e]
   have b:¬ decide (q.1 ≠ k) = true:=by simp [h1.symm.trans e]
   rw [if_neg a,if_neg b]; exact ih
  ·have e':¬ q.1 = k:=fun z => e (h1.trans z)
   have a:decide (p.1 ≠ k) = true:=by simp [e]
   have b:decide (q.1 ≠ k) = true:=by simp [e']
   rw [if_pos a,if_pos b]; exact .cons ⟨h1,h2⟩ ih
theorem KV.keys {kvs:List (κ × V)} {vs:List (κ × Value)} (r:KV kvs vs):kvs.map (·.1) = vs.map (·.1):=by
 unfold KV at r
 induction r with
 | nil => rfl
 | cons h t ih => rw [List.map_cons,List.map_cons,ih,h.1]
theorem KV.length {kvs:List (κ × V)} {vs:List (κ × Value)} (r:KV kvs vs):kvs.length = vs.length:=Paired.length r
end
noncomputable abbrev KT (H:Hp):List (List Key × V) → List (List Key × Addr × Value) → Prop:=Paired fun p q => p.1 = q.1 ∧ H q.2.1 = some (.tup (p.1.map kV)) ∧ RelV p.2 q.2.2
theorem KT.val {H:Hp} {kvs:List (List Key × V)} {xs:List (List Key × Addr × Value)} (r:KT H kvs xs) (k:List Key):RelO (valV kvs k) ((atKey xs k).map (·.2)):=by
 induction r with
 | nil => exact True.intro
 | @cons p q ps qs h t ih =>
  obtain ⟨h1,_,h2⟩:=h
  by_cases e:p.1 = k
  ·have e':q.1 = k:=h1.symm.trans e
   have b:atKey (q :: qs) k = some q.2:=by simp [atKey,List.find?_cons,e']
   rw [valV_pos e,b]; exact h2
  ·have e':¬ q.1 = k:=fun z => e (h1.trans z)
   have b:atKey (q :: qs) k = atKey qs k:=by simp [atKey,List.find?_cons,e']
   rw [valV_neg e,b]; exact ih
theorem KT.repl {H:Hp} {kvs:List (List Key × V)} {xs:List (List Key × Addr × Value)} (r:KT H kvs xs) (k:List Key) {y:V} {u:Value} (ry:RelV y u) :
  KT H (kvs.map fun kv => if kv.1 = k then (kv.1,y) else kv) (xs.map (putAt k u)):=by
 induction r with
 | nil => exact .nil
 | @cons p q ps qs h t ih =>
  rw [List.map_cons,List.map_cons]
  refine .cons ?_ ih
  obtain ⟨h1,h2,h3⟩:=h
  unfold putAt
  by_cases e:p.1 = k
  ·rw [if_pos e,if_pos (h1.symm.trans e)]; exact ⟨h1,h2,ry⟩
  ·rw [if_neg e,if_neg (fun z => e (h1.trans z))]; exact ⟨h1,h2,h3⟩
theorem KT.put {H:Hp} {kvs:List (List Key × V)} {xs:List (List Key × Addr × Value)} (r:KT H kvs xs) (k:List Key) {b:Addr} {y:V} {u:Value} (hb:H b = some (.tup (k.map kV))) (ry:RelV y u) :
  KT H (putK kvs k y) (storedH xs k b u):=by
 have e:(kvs.any fun kv => decide (kv.1 = k)) = (atKey xs k).isSome:=by
  rw [valV_any,(r.val k).isSome_eq,Option.isSome_map]
 unfold putK storedH
 rw [e]
 by_cases q:(atKey xs k).isSome = true
 ·rw [if_pos q,if_pos q]; exact r.repl k ry
 ·rw [if_neg q,if_neg q]; exact Paired.snoc r ⟨rfl,hb,ry⟩
theorem KT.keeps {H H':Hp} {kvs:List (List Key × V)} {xs:List (List Key × Addr × Value)} (r:KT H kvs xs) (ht:∀ b ys,H b = some (.tup ys) → H' b = some (.tup ys)):KT H' kvs xs :=
 Paired.mapP r fun _ _ z => ⟨z.1,ht _ _ z.2.1,z.2.2⟩
noncomputable def DGet (H:Hp) (a:Addr) (y:V) (r:Option V):Prop :=
 (∃ kvs k,Rd H a (.dK kvs) ∧ y = kV k ∧ r = valV kvs k) ∨ ∃ kvs k b,Rd H a (.dT kvs) ∧ y = .ref b ∧ H b = some (.tup (k.map kV)) ∧ r = valV kvs k
noncomputable def DPut (H:Hp) (a:Addr) (y v:V) (H':Hp):Prop :=
 (∃ kvs k,H a = some (.dK kvs) ∧ y = kV k ∧ kvs.length < sizeLine ∧ H' = upd H a (.dK (putK kvs k v))) ∨
 ∃ kvs k b,H a = some (.dT kvs) ∧ y = .ref b ∧ H b = some (.tup (k.map kV)) ∧ kvs.length < sizeLine ∧ H' = upd H a (.dT (putK kvs k v))
theorem DGet.k {H:Hp} {a:Addr} {kvs:List (Key × V)} {k:Key} (e:H a = some (.dK kvs)):DGet H a (kV k) (valV kvs k):=.inl ⟨kvs,k,.inl e,rfl,rfl⟩
theorem DGet.t {H:Hp} {a b:Addr} {kvs:List (List Key × V)} {k:List Key} (e:H a = some (.dT kvs)) (eb:H b = some (.tup (k.map kV))):DGet H a (.ref b) (valV kvs k):=.inr ⟨kvs,k,b,.inl e,rfl,eb,rfl⟩
theorem DPut.k {H:Hp} {a:Addr} {kvs:List (Key × V)} {k:Key} {v:V} (e:H a = some (.dK kvs)) (hl:kvs.length < sizeLine):DPut H a (kV k) v (upd H a (.dK (putK kvs k v))):=.inl ⟨kvs,k,e,rfl,hl,rfl⟩
theorem DPut.t {H:Hp} {a b:Addr} {kvs:List (List Key × V)} {k:List Key} {v:V} (e:H a = some (.dT kvs)) (eb:H b = some (.tup (k.map kV))) (hl:kvs.length < sizeLine) :
  DPut H a (.ref b) v (upd H a (.dT (putK kvs k v))):=.inr ⟨kvs,k,b,e,rfl,eb,hl,rfl⟩
section
variable {X:Cx} {pins:List (Addr × Obj)} {σ:St} {H:Hp} {s:Shared} {a:Addr} {y v:V} {u r:Value} {o:Option V} {A:Around} {E:Value → Shared → Prop}
theorem Inv.big (I:Inv X pins σ H s):sysModules < s.heap.objs.size:=by
 have h:mainGlobals < s.heap.objs.size:=(I.mod.glob.keeps I.bk).lt
 exact Nat.lt_trans (by decide) h
theorem d_write {h':Heap} {t':Nat} {ob:HO} (I:Inv X pins σ H s) (mu:Mut (H a)) (hs:Heap.SameBut a s.heap h') (he:∃ q,h'.get? a = some q) (new:ObjOk X.prog X.w (upd H a ob) h' a ob) :
  Inv X pins σ (upd H a ob) { s with heap:=h',toks:=t' } :=
 I.write (x:=a) (e:=a) mu (.inl rfl) (fun b q hb z => (hs.2 b hb).trans z) he new
end
end L2
set_option maxHeartbeats 4000000
namespace L3
open PySem PySem.Spec PyProof.Rows L2
inductive D where
 | non | bl (b:Bool) | int (i:Int) | str (x:Str) | tup (xs:List D) | fz (xs:List D) | ref (k:Nat) | ty (n:String)
mutual
noncomputable def D.beq:D → D → Bool
 | .non,.non => true
 | .bl a,.bl b => a == b
 | .int a,.int b => a == b
 | .str a,.str b => decide (a = b)
 | .tup a,.tup b => D.beqL a b
 | .fz a,.fz b => D.beqL a b
 | .ref a,.ref b => a == b
 | .ty a,.ty b => a == b
 | _,_ => false
noncomputable def D.beqL:List D → List D → Bool
 | [],[] => true
 | a :: as,b :: bs => D.beq a b && D.beqL as bs
 | _,_ => false
end
mutual
theorem D.beq_refl:∀ a:D,D.beq a a = true
 | .non => rfl
 | .bl _ => by simp [D.beq]
 | .int _ => by simp [D.beq]
 | .str _ => by simp [D.beq]
 | .tup xs => by simp only [D.beq]; exact D.beqL_refl xs
 | .fz xs => by simp only [D.beq]; exact D.beqL_refl xs
 | .ref _ => by simp [D.beq]
 | .ty _ => by simp [D.beq]
theorem D.beqL_refl:∀ a:List D,D.beqL a a = true
 | [] => rfl
 | a :: as => by simp only [D.beqL]; rw [D.beq_refl a,D.beqL_refl as]; rfl
end
mutual
theorem D.eq_of_beq:∀ {a b:D},D.beq a b = true → a = b
 | .non,b,h => by cases b <;> first | rfl | (simp [D.beq] at h)
 | .bl _,b,h => by cases b <;> simp_all [D.beq]
 | .int _,b,h => by cases b <;> simp_all [D.beq]
 | .str _,b,h => by cases b <;> simp_all [D.beq]
 | .tup xs,b,h => by
  cases b with
  | tup ys => simp only [D.beq] at h; rw [D.eq_of_beqL h]
  | _ => simp [D.beq] at h
 | .fz xs,b,h => by
  cases b with
  | fz ys => simp only [D.beq] at h; rw [D.eq_of_beqL h]
  | _ => simp [D.beq] at h
 | .ref _,b,h => by cases b <;> simp_all [D.beq]
 | .ty _,b,h => by cases b <;> simp_all [D.beq]
theorem D.eq_of_beqL:∀ {a b:List D},D.beqL a b = true → a = b
 | [],[],_ => rfl
 | [],_ :: _,h => by simp [D.beqL] at h
 | _ :: _,[],h => by simp [D.beqL] at h
 | a :: as,b :: bs,h => by
  simp only [D.beqL,Bool.and_eq_true] at h
  rw [D.eq_of_beq h.1,D.eq_of_beqL h.2]
end
noncomputable instance:DecidableEq D:=fun a b => if h:D.beq a b = true then .isTrue (D.eq_of_beq h) else .isFalse fun e => h (by rw [e]; exact D.beq_refl b)
inductive Ob where
 | lst (xs:List D) | dk (kvs:List (Key × D)) | dt (kvs:List (NK × D)) (ep:Nat) | ins (c:Str) (fs:List (Str × D)) | exn (c:Str)
deriving DecidableEq
noncomputable abbrev Sto:=List Ob
noncomputable abbrev Fm:=List (Option D)
noncomputable def SqF (K:PySem.W.Frag) (H:Hp) (a:Addr) (xs:List V):Prop :=
 (∃ o,H a = some (.frz o (.lst xs))) ∨
  ∃ (o:Obj) (its:Array Value) (n:Nat),K.lookup a = some o ∧ o.cls = .type "list" ∧ o.dict = none ∧ o.data = .seq its n ∧ its.size ≤ sizeLine ∧ Vals xs its.toList
theorem SqF.sql {K:PySem.W.Frag} {H:Hp} {a:Addr} {xs:List V} (h:SqF K H a xs):SqL K H a xs:=by
 rcases h with h | h
 ·exact .inl (.inr h)
 ·exact .inr h
mutual
inductive Is (K:PySem.W.Frag) (H:Hp) (O:List Addr):V → D → Prop
 | non:Is K H O .non .non
 | bl (b:Bool):Is K H O (.bl b) (.bl b)
 | int (i:Int):Is K H O (.int i) (.int i)
 | str (x:Str):x.length ≤ 16777216 → Is K H O (.str x) (.str x)
 | tup {a:Addr} {vs:List V} {ds:List D}:SqT K H a vs → IsL K H O vs ds → Is K H O (.ref a) (.tup ds)
 | fz {a:Addr} {vs:List V} {ds:List D}:SqF K H a vs → IsL K H O vs ds → Is K H O (.ref a) (.fz ds)
 | ref {k:Nat} {a:Addr}:O[k]? = some a → Is K H O (.ref a) (.ref k)
 | ty (n:String):Is K H O (.ty n) (.ty n)
inductive IsL (K:PySem.W.Frag) (H:Hp) (O:List Addr):List V → List D → Prop
 | nil:IsL K H O [] []
 | cons {v:V} {d:D} {vs:List V} {ds:List D}:Is K H O v d → IsL K H O vs ds → IsL K H O (v :: vs) (d :: ds)
end
noncomputable def Fixed:HO → Prop
 | .tup _ => True
 | .frz _ _ => True
 | _ => False
noncomputable def Grow (H H':Hp):Prop:=∀ a o,H a = some o → Fixed o → H' a = some o
noncomputable def Step (H:Hp) (O:List Addr) (H':Hp) (O':List Addr):Prop:=Grow H H' ∧ O <+: O'
theorem Grow.refl (H:Hp):Grow H H:=fun _ _ h _ => h
theorem Grow.trans {H H1 H2:Hp} (a:Grow H H1) (b:Grow H1 H2):Grow H H2:=fun c o h f => b c o (a c o h f) f
theorem Step.refl (H:Hp) (O:List Addr):Step H O H O:=⟨.refl H,List.prefix_refl O⟩
theorem Step.trans {H H1 H2:Hp} {O O1 O2:List Addr} (a:Step H O H1 O1) (b:Step H1 O1 H2 O2):Step H O H2 O2:=⟨a.1.trans b.1,a.2.trans b.2⟩
theorem Grow.ext {H H':Hp} (h:∀ a o,H a = some o → H' a = some o):Grow H H':=fun a o e _ => h a o e
theorem Grow.new {H:Hp} {p:Addr} {o:HO} (h:H p = none):Grow H (upd H p o):=.ext fun a u e => by rw [upd_ne (ne_of_none e h)]; exact e
theorem Grow.write {H:Hp} {p:Addr} {o u:HO} (h:H p = some u) (n:¬ Fixed u):Grow H (upd H p o):=fun a x e f => by
 by_cases z:a = p
 ·subst z; rw [h] at e; cases e; exact absurd f n
 ·rw [upd_ne z]; exact e
section
variable {K:PySem.W.Frag} {H H':Hp} {O O':List Addr}
theorem SqT.grow {a:Addr} {xs:List V} (g:Grow H H') (h:SqT K H a xs):SqT K H' a xs:=by
 rcases h with (h | ⟨o,h⟩) | h
 ·exact .inl (.inl (g _ _ h True.intro))
 ·exact .inl (.inr ⟨o,g _ _ h True.intro⟩)
 ·exact .inr h
theorem SqF.grow {a:Addr} {xs:List V} (g:Grow H H') (h:SqF K H a xs):SqF K H' a xs:=by
 rcases h with ⟨o,h⟩ | h
 ·exact .inl ⟨o,g _ _ h True.intro⟩
 ·exact .inr h
theorem nd_ix {α:Type} {N:List α} (hN:N.Nodup) {i j:Nat} {x:α} (a:N[i]? = some x) (b:N[j]? = some x):i = j:=by
 obtain ⟨h1,g1⟩:=List.getElem?_eq_some_iff.mp a
 obtain ⟨h2,g2⟩:=List.getElem?_eq_some_iff.mp b
 have p:=List.pairwise_iff_getElem.mp hN
 rcases Nat.lt_trichotomy i j with h | h | h
 ·exact absurd (g1.trans g2.symm) (p i j h1 h2 h)
 ·exact h
 ·exact absurd (g2.trans g1.symm) (p j i h2 h1 h)
theorem pref_get {α:Type} {O O':List α} (h:O <+: O') {k:Nat} {a:α} (e:O[k]? = some a):O'[k]? = some a:=by
 obtain ⟨t,rfl⟩:=h
 rw [List.getElem?_append_left (List.getElem?_eq_some_iff.mp e).1]; exact e
mutual
theorem Is.mono (st:Step H O H' O'):∀ {v:V} {d:D},Is K H O v d → Is K H' O' v d
 | _,_,.non => .non
 | _,_,.bl b => .bl b
 | _,_,.int b => .int b
 | _,_,.str b h => .str b h
 | _,_,.tup h r => .tup (SqT.grow st.1 h) (IsL.mono st r)
 | _,_,.fz h r => .fz (SqF.grow st.1 h) (IsL.mono st r)
 | _,_,.ref h => .ref (pref_get st.2 h)
 | _,_,.ty n => .ty n
theorem IsL.mono (st:Step H O H' O'):∀ {v:List V} {d:List D},IsL K H O v d → IsL K H' O' v d
 | _,_,.nil => .nil
 | _,_,.cons a b => .cons (Is.mono st a) (IsL.mono st b)
end
theorem IsL.length:∀ {vs:List V} {ds:List D},IsL K H O vs ds → vs.length = ds.length
 | _,_,.nil => rfl
 | _,_,.cons _ b => by simp [IsL.length b]
theorem IsL.get:∀ {vs:List V} {ds:List D} {i:Nat} {d:D},IsL K H O vs ds → ds[i]? = some d → ∃ v,vs[i]? = some v ∧ Is K H O v d
 | _,_,_,_,.nil,e => by simp at e
 | _,_,0,_,.cons a _,e => by simp at e; subst e; exact ⟨_,rfl,a⟩
 | _,_,i + 1,d,.cons _ b,e => by
  obtain ⟨v,h1,h2⟩:=IsL.get (i:=i) (d:=d) b (by simpa using e)
  exact ⟨v,by simpa using h1,h2⟩
theorem IsL.append:∀ {vs ws:List V} {ds es:List D},IsL K H O vs ds → IsL K H O ws es → IsL K H O (vs ++ ws) (ds ++ es)
 | _,_,_,_,.nil,b => b
 | _,_,_,_,.cons a c,b => .cons a (IsL.append c b)
theorem IsL.take:∀ {vs:List V} {ds:List D} (n:Nat),IsL K H O vs ds → IsL K H O (vs.take n) (ds.take n)
 | _,_,0,_ => .nil
 | _,_,_ + 1,.nil => .nil
 | _,_,n + 1,.cons r t => .cons r (IsL.take n t)
theorem IsL.drop:∀ {vs:List V} {ds:List D} (n:Nat),IsL K H O vs ds → IsL K H O (vs.drop n) (ds.drop n)
 | _,_,0,r => r
 | _,_,_ + 1,.nil => .nil
 | _,_,n + 1,.cons _ t => IsL.drop n t
theorem IsL.set {v:V} {d:D} (r:Is K H O v d):∀ {vs:List V} {ds:List D} (i:Nat),IsL K H O vs ds → IsL K H O (vs.set i v) (ds.set i d)
 | _,_,_,.nil => .nil
 | _,_,0,.cons _ t => .cons r t
 | _,_,i + 1,.cons q t => .cons q (IsL.set r i t)
theorem IsL.one {v:V} {ds:List D} (h:IsL K H O [v] ds):∃ d,ds = [d] ∧ Is K H O v d:=by
 cases h with | cons a b => cases b; exact ⟨_,rfl,a⟩
noncomputable def keyD:Key → D
 | .inl i => .int i
 | .inr x => .str x
noncomputable def itemD:Key ⊕ List Key → D
 | .inl k => keyD k
 | .inr ks => .tup (ks.map keyD)
noncomputable def nkD (k:NK):D:=.tup (k.map itemD)
noncomputable def ClsAt (K:PySem.W.Frag) (c:Str) (C:Addr):Prop:=PySem.W.nsIn K mainGlobals c = some (some (.ref C))
noncomputable def ObIs (K:PySem.W.Frag) (H:Hp) (O:List Addr) (a:Addr):Ob → Prop
 | .exn c => ∃ C:Addr,ClsAt K c C ∧ H a = some (.ext fun h => ∃ o,h.get? a = some o ∧ o.cls = .ref C)
 | .ins c fs => ∃ (C dx:Addr) (us:List (Str × V)),ClsAt K c C ∧ H a = some (.ins C dx us) ∧ us.map (·.1) = fs.map (·.1) ∧ IsL K H O (us.map (·.2)) (fs.map (·.2))
 | .lst ds => ∃ vs,H a = some (.lst vs) ∧ IsL K H O vs ds
 | .dk kvs => ∃ us:List (Key × V),H a = some (.dK us) ∧ us.map (·.1) = kvs.map (·.1) ∧ IsL K H O (us.map (·.2)) (kvs.map (·.2))
 | .dt kvs ep => ∃ us:List (NK × Addr × V),H a = some (.dN us ep) ∧ us.map (·.1) = kvs.map (·.1) ∧ IsL K H O (us.map (·.2.2)) (kvs.map (·.2)) ∧ ∀ u ∈ us,Is K H O (.ref u.2.1) (nkD u.1)
structure RepS (K:PySem.W.Frag) (H:Hp) (O:List Addr) (L:Sto):Prop where
 len:O.length = L.length
 nd:O.Nodup
 ob:∀ (k:Nat) (a:Addr) (o:Ob),O[k]? = some a → L[k]? = some o → ObIs K H O a o
theorem ObIs.ho {a:Addr} {o:Ob} (h:ObIs K H O a o):∃ u,H a = some u ∧ ¬ Fixed u:=by
 cases o with
 | lst ds => obtain ⟨vs,e,_⟩:=h; exact ⟨_,e,id⟩
 | dk ds => obtain ⟨vs,e,_⟩:=h; exact ⟨_,e,id⟩
 | dt ds ep => obtain ⟨vs,e,_⟩:=h; exact ⟨_,e,id⟩
 | ins c fs => obtain ⟨C,dx,us,_,e,_⟩:=h; exact ⟨_,e,id⟩
 | exn c => obtain ⟨C,_,e⟩:=h; exact ⟨_,e,id⟩
theorem ObIs.move {a:Addr} {o:Ob} (h:ObIs K H O a o) (st:Step H O H' O') (e:H' a = H a):ObIs K H' O' a o:=by
 cases o with
 | lst ds => obtain ⟨vs,q,r⟩:=h; exact ⟨vs,by rw [e]; exact q,r.mono st⟩
 | dk ds => obtain ⟨vs,q,r1,r2⟩:=h; exact ⟨vs,by rw [e]; exact q,r1,r2.mono st⟩
 | dt ds ep => obtain ⟨vs,q,r1,r2,r3⟩:=h; exact ⟨vs,by rw [e]; exact q,r1,r2.mono st,fun u hu => (r3 u hu).mono st⟩
 | ins c fs => obtain ⟨C,dx,us,z,q,r1,r2⟩:=h; exact ⟨C,dx,us,z,by rw [e]; exact q,r1,r2.mono st⟩
 | exn c => obtain ⟨C,z,q⟩:=h; exact ⟨C,z,by rw [e]; exact q⟩
theorem RepS.has {L:Sto} (r:RepS K H O L) {k:Nat} {a:Addr} (e:O[k]? = some a):∃ o,L[k]? = some o ∧ ObIs K H O a o:=by
 have h:k < L.length:=by rw [← r.len]; exact (List.getElem?_eq_some_iff.mp e).1
 exact ⟨L[k],by simp [h],r.ob k a _ e (by simp [h])⟩
theorem RepS.at {L:Sto} (r:RepS K H O L) {k:Nat} {o:Ob} (e:L[k]? = some o):∃ a,O[k]? = some a ∧ ObIs K H O a o:=by
 have h:k < O.length:=by rw [r.len]; exact (List.getElem?_eq_some_iff.mp e).1
 exact ⟨O[k],by simp [h],r.ob k _ o (by simp [h]) e⟩
theorem RepS.ext {L:Sto} (r:RepS K H O L) (k:∀ a o,H a = some o → H' a = some o):RepS K H' O L :=
 ⟨r.len,r.nd,fun j a o e1 e2 => by
  have q:=r.ob j a o e1 e2
  obtain ⟨u,hu,_⟩:=q.ho
  exact q.move ⟨.ext k,List.prefix_refl _⟩ (by rw [hu]; exact k a u hu)⟩
theorem RepS.new {L:Sto} {p:Addr} {u:HO} {o:Ob} (r:RepS K H O L) (hp:H p = none) (n:ObIs K (upd H p u) (O ++ [p]) p o):RepS K (upd H p u) (O ++ [p]) (L ++ [o]):=by
 have hm:p ∉ O:=fun hm => by
  obtain ⟨k,hk,e⟩:=List.getElem_of_mem hm
  obtain ⟨o',_,q⟩:=r.has (k:=k) (a:=p) (by rw [← e]; simp [hk])
  obtain ⟨u',hu,_⟩:=q.ho
  rw [hp] at hu; cases hu
 refine ⟨by simp [r.len],by rw [List.nodup_append]; exact ⟨r.nd,by simp,fun a ha b hb => by simp at hb; subst hb; rintro rfl; exact hm ha⟩,fun k a o' e1 e2 => ?_⟩
 by_cases h:k < O.length
 ·rw [List.getElem?_append_left h] at e1
  rw [List.getElem?_append_left (by rw [← r.len]; exact h)] at e2
  have q:=r.ob k a o' e1 e2
  obtain ⟨u',hu,_⟩:=q.ho
  exact q.move ⟨.new hp,List.prefix_append _ _⟩ (by rw [upd_ne (ne_of_none hu hp)])
 ·have hk:k = O.length:=by
   have:=(List.getElem?_eq_some_iff.mp e1).1
   simp at this; omega
  subst hk
  rw [List.getElem?_append_right (Nat.le_refl _)] at e1
  rw [List.getElem?_append_right (by rw [r.len]; exact Nat.le_refl _)] at e2
  simp at e1
  rw [r.len] at e2
  simp at e2
  subst e1 e2
  exact n
theorem RepS.write {L:Sto} {k:Nat} {a:Addr} {u:HO} {o':Ob} (r:RepS K H O L) (e:O[k]? = some a) (n:ObIs K (upd H a u) O a o'):RepS K (upd H a u) O (L.set k o'):=by
 obtain ⟨o,e2,q⟩:=r.has e
 obtain ⟨u0,hu0,nf⟩:=q.ho
 refine ⟨by simp [r.len],r.nd,fun j b o2 f1 f2 => ?_⟩
 by_cases h:j = k
 ·subst h
  rw [e] at f1; cases f1
  rw [List.getElem?_set_self (List.getElem?_eq_some_iff.mp e2).1] at f2; cases f2
  exact n
 ·rw [List.getElem?_set_ne (Ne.symm h)] at f2
  have q2:=r.ob j b o2 f1 f2
  have hb:b ≠ a:=fun z => by
   subst z
   exact h (nd_ix r.nd f1 e)
  exact q2.move ⟨.write hu0 nf,List.prefix_refl _⟩ (by rw [upd_ne hb])
end
structure FmIs (K:PySem.W.Frag) (H:Hp) (O:List Addr) (σ:L2.St) (ρ:Fm):Prop where
 len:σ.length = ρ.length
 at':∀ (i:Nat) (d:D),ρ[i]? = some (some d) → ∃ v,σ[i]? = some (some v) ∧ Is K H O v d
structure Rep (K:PySem.W.Frag) (H:Hp) (O:List Addr) (σ:L2.St) (ρ:Fm) (L:Sto):Prop where
 s:RepS K H O L
 f:FmIs K H O σ ρ
theorem FmIs.mono {K:PySem.W.Frag} {H H':Hp} {O O':List Addr} {σ:L2.St} {ρ:Fm} (st:Step H O H' O') (h:FmIs K H O σ ρ):FmIs K H' O' σ ρ :=
 ⟨h.len,fun i d e => let ⟨v,a,b⟩:=h.at' i d e; ⟨v,a,b.mono st⟩⟩
theorem FmIs.set {K:PySem.W.Frag} {H:Hp} {O:List Addr} {σ:L2.St} {ρ:Fm} {v:V} {d:D} (h:FmIs K H O σ ρ) (r:Is K H O v d) (i:Nat):FmIs K H O (σ.set i (some v)) (ρ.set i (some d)):=by
 refine ⟨by simp [h.len],fun j e q => ?_⟩
 by_cases z:j = i
 ·subst z
  have hj:j < ρ.length:=by
   have:=(List.getElem?_eq_some_iff.mp q).1
   simpa using this
  rw [List.getElem?_set_self hj] at q
  cases q
  exact ⟨v,by rw [List.getElem?_set_self (by rw [h.len]; exact hj)],r⟩
 ·rw [List.getElem?_set_ne (Ne.symm z)] at q
  obtain ⟨v',a,b⟩:=h.at' j e q
  exact ⟨v',by rw [List.getElem?_set_ne (Ne.symm z)]; exact a,b⟩
noncomputable abbrev EF:=Fm → Sto → Option (D × Sto)
noncomputable abbrev TF:=Fm → Sto → Option (Bool × Sto)
noncomputable abbrev AF:=Fm → Sto → Option (List D × Sto)
noncomputable abbrev G1:=D → Sto → Option (D × Sto)
noncomputable abbrev G2:=D → D → Sto → Option (D × Sto)
noncomputable abbrev GL:=List D → Sto → Option (D × Sto)
noncomputable def lift (K:PySem.W.Frag) (f:EF):TE:=fun σ H Q => ∃ O ρ L d L',Rep K H O σ ρ L ∧ f ρ L = some (d,L') ∧
 ∀ v H' O',Step H O H' O' → RepS K H' O' L' → Is K H' O' v d → Q v H'
noncomputable def liftT (K:PySem.W.Frag) (f:TF):TT:=fun σ H Q => ∃ O ρ L b L',Rep K H O σ ρ L ∧ f ρ L = some (b,L') ∧
 ∀ H' O',Step H O H' O' → RepS K H' O' L' → Q b H'
noncomputable def liftA (K:PySem.W.Frag) (f:AF):TA:=fun σ H Q => ∃ O ρ L ds L',Rep K H O σ ρ L ∧ f ρ L = some (ds,L') ∧
 ∀ vs H' O',Step H O H' O' → RepS K H' O' L' → IsL K H' O' vs ds → Q vs H'
noncomputable def PEf (X:Cx) (e:Expr) (f:EF):Prop:=PE X e (lift X.K f)
noncomputable def PTf (X:Cx) (e:Expr) (f:TF):Prop:=PT X e (liftT X.K f)
noncomputable def PWf (X:Cx) (e:Expr) (f:TF):Prop:=PW X e (liftT X.K f)
noncomputable def PAf (X:Cx) (es:List Expr) (f:AF):Prop:=PA X es (liftA X.K f)
theorem PE.weaken {X:Cx} {e:Expr} {t t':TE} (h:PE X e t) (i:∀ σ H Q,t' σ H Q → t σ H Q):PE X e t':=fun pins s σ H Q I q => h pins s σ H Q I (i σ H Q q)
theorem PT.weaken {X:Cx} {e:Expr} {t t':TT} (h:PT X e t) (i:∀ σ H Q,t' σ H Q → t σ H Q):PT X e t':=fun pins s σ H Q I q => h pins s σ H Q I (i σ H Q q)
theorem PW.weaken {X:Cx} {e:Expr} {t t':TT} (h:PW X e t) (i:∀ σ H Q,t' σ H Q → t σ H Q):PW X e t':=fun w pins s σ H Q I q => h w pins s σ H Q I (i σ H Q q)
theorem PA.weaken {X:Cx} {e:List Expr} {t t':TA} (h:PA X e t) (i:∀ σ H Q,t' σ H Q → t σ H Q):PA X e t':=fun p pins s σ H Q I q => h p pins s σ H Q I (i σ H Q q)
theorem Rep.to {K:PySem.W.Frag} {H H':Hp} {O O':List Addr} {σ:L2.St} {ρ:Fm} {L L':Sto} (r:Rep K H O σ ρ L) (st:Step H O H' O') (rs:RepS K H' O' L'):Rep K H' O' σ ρ L':=⟨rs,r.f.mono st⟩
noncomputable def cst (d:D):EF:=fun _ L => some (d,L)
noncomputable def var (i:Nat):EF:=fun ρ L => match ρ[i]? with | some (some d) => some (d,L) | _ => none
noncomputable def bin2 (g:G2) (fa fb:EF):EF:=fun ρ L => (fa ρ L).bind fun x => (fb ρ x.2).bind fun y => g x.1 y.1 y.2
noncomputable def un1 (g:G1) (fa:EF):EF:=fun ρ L => (fa ρ L).bind fun x => g x.1 x.2
section
variable {X:Cx} {a b c:Expr} {fa fb fc:EF} {pos:Pos}
theorem ef_const {v:V} {d:D} (h:PE X a (tC v)) (i:∀ H O,Is X.K H O v d):PEf X a (cst d) :=
 PE.weaken h fun σ H Q z3_ => by
  obtain ⟨O,ρ,L,d',L',r,e,k⟩:=z3_
  cases e
  exact k _ _ _ (.refl _ _) r.s (i _ _)
theorem ef_int {i:Int} {j:Nat} {pos:Pos}:PEf X (.Constant (.int i) j pos) (cst (.int i)):=ef_const pe_int fun _ _ => .int _
theorem ef_bl {i:Bool} {j:Nat} {pos:Pos}:PEf X (.Constant (.bool i) j pos) (cst (.bl i)):=ef_const pe_bl fun _ _ => .bl _
theorem ef_non {j:Nat} {pos:Pos}:PEf X (.Constant .none j pos) (cst .non):=ef_const pe_non fun _ _ => .non
theorem ef_str {x:Str} {j:Nat} {pos:Pos} (h:x.length ≤ 16777216:=by decide):PEf X (.Constant (.str x) j pos) (cst (.str x)):=ef_const pe_str fun _ _ => .str _ h
theorem ef_var {i:Nat} (h:PE X a (tVar i)):PEf X a (var i) :=
 PE.weaken h fun σ H Q z3_ => by
  obtain ⟨O,ρ,L,d',L',r,e,k⟩:=z3_
  unfold var at e
  split at e
  ·rename_i d hd
   cases e
   obtain ⟨v,hv,is⟩:=r.f.at' i _ hd
   exact ⟨v,hv,k _ _ _ (.refl _ _) r.s is⟩
  ·cases e
noncomputable def rD (K:PySem.W.Frag) (g:G2):R2:=fun v u H Q => ∃ O L x y d L',RepS K H O L ∧ Is K H O v x ∧ Is K H O u y ∧ g x y L = some (d,L') ∧
 ∀ w H' O',Step H O H' O' → RepS K H' O' L' → Is K H' O' w d → Q w H'
noncomputable def rC (K:PySem.W.Frag) (g:GL):List V → Hp → VK → Prop:=fun vs H Q => ∃ O L xs d L',RepS K H O L ∧ IsL K H O vs xs ∧ g xs L = some (d,L') ∧
 ∀ w H' O',Step H O H' O' → RepS K H' O' L' → Is K H' O' w d → Q w H'
noncomputable def OpD (X:Cx) (f:Value → Value → Sem Value) (g:G2):Prop:=OpR X f (rD X.K g)
noncomputable def CallD (X:Cx) (f:Value) (g:GL):Prop:=CallR X f (rC X.K g)
noncomputable def IxD (X:Cx) (g:G2):Prop:=IxR X (rD X.K g)
theorem OpR.weaken {f:Value → Value → Sem Value} {r r':R2} (h:OpR X f r) (i:∀ x y H Q,r' x y H Q → r x y H Q):OpR X f r' :=
 fun pins s σ H x y v u Q I rx ry q => h pins s σ H x y v u Q I rx ry (i _ _ _ _ q)
theorem IxR.weaken {r r':R2} (h:IxR X r) (i:∀ x y H Q,r' x y H Q → r x y H Q):IxR X r' :=
 fun a b pins s σ H x y v u Q I rx ry q => h a b pins s σ H x y v u Q I rx ry (i _ _ _ _ q)
theorem CallR.weaken {f:Value} {r r':List V → Hp → VK → Prop} (h:CallR X f r) (i:∀ xs H Q,r' xs H Q → r xs H Q):CallR X f r' :=
 fun pins s σ H xs us Q I rx q => h pins s σ H xs us Q I rx (i _ _ _ q)
theorem two_lift {K:PySem.W.Frag} {g:G2} {σ:L2.St} {H:Hp} {Q:VK} (h:lift K (bin2 g fa fb) σ H Q):tOp (rD K g) (lift K fa) (lift K fb) σ H Q:=by
 obtain ⟨O,ρ,L,d,L',r,e,k⟩:=h
 unfold bin2 at e
 cases e1:fa ρ L with
 | none => rw [e1] at e; cases e
 | some p =>
  rw [e1] at e
  simp only [Option.bind_some] at e
  cases e2:fb ρ p.2 with
  | none => rw [e2] at e; cases e
  | some q =>
   rw [e2] at e
   simp only [Option.bind_some] at e
   refine ⟨O,ρ,L,p.1,p.2,r,e1,fun v H1 O1 st1 rs1 is1 => ?_⟩
   refine ⟨O1,ρ,p.2,q.1,q.2,r.to st1 rs1,e2,fun u H2 O2 st2 rs2 is2 => ?_⟩
   exact ⟨O2,q.2,p.1,q.1,d,L',rs2,is1.mono st2,is2,e,fun w H' O' st rs is => k w H' O' ((st1.trans st2).trans st) rs is⟩
theorem ef_op {op:Operator} {g:G2} (ho:OpD X (binaryOp op) g) (ha:PEf X a fa) (hb:PEf X b fb):PEf X (.BinOp a op b pos) (bin2 g fa fb) :=
 PE.weaken (pe_op ho ha hb) fun _ _ _ h => two_lift h
theorem ef_cmp {op:CmpOp} {g:G2} (ho:OpD X (compareOp op) g) (ha:PEf X a fa) (hb:PEf X b fb) (hm:behindInMarks op b = false):PEf X (.Compare a [op] [b] pos) (bin2 g fa fb) :=
 PE.weaken (pe_cmpR ho ha hb hm) fun _ _ _ h => two_lift h
theorem ef_ix {g:G2} (ho:IxD X g) (ha:PEf X a fa) (hb:PEf X b fb) (hs:PlainIx b):PEf X (.Subscript a b pos) (bin2 g fa fb) :=
 PE.weaken (pe_ix ho ha hb hs) fun _ _ _ h => two_lift h
noncomputable def asT (f:EF):TF:=fun ρ L => (f ρ L).bind fun x => match x.1 with | .bl b => some (b,x.2) | _ => none
theorem asT_lift {K:PySem.W.Frag} {f:EF} {σ:L2.St} {H:Hp} {Q:Bool → Hp → Prop} (h:liftT K (asT f) σ H Q):lift K f σ H fun x H' => ∃ k,x = .bl k ∧ Q k H':=by
 obtain ⟨O,ρ,L,b,L',r,e,k⟩:=h
 unfold asT at e
 cases e1:f ρ L with
 | none => rw [e1] at e; cases e
 | some p =>
  rw [e1] at e
  obtain ⟨d,L1⟩:=p
  cases d <;> simp only [Option.bind_some] at e <;> try (cases e; done)
  cases e
  refine ⟨O,ρ,L,_,_,r,e1,fun v H' O' st rs is => ?_⟩
  cases is
  exact ⟨_,rfl,k H' O' st rs⟩
theorem tf_cmp {op:CmpOp} {g:G2} (ho:OpD X (compareOp op) g) (ha:PEf X a fa) (hb:PEf X b fb) (hm:behindInMarks op b = false):PTf X (.Compare a [op] [b] pos) (asT (bin2 g fa fb)) :=
 PT.weaken (pt_cmpR ho ha hb hm) fun σ H Q h => by
  have q:=asT_lift h
  exact two_lift q
theorem tf_val (ha:PEf X a fa) (he:∀ whole,isTrue a X.env whole = (do let v ← whole; standAt a.pos; holding [v] (truthy v)):=by intro _; rfl):PTf X a (asT fa) :=
 PT.weaken (pt_val ha he) fun σ H Q h => asT_lift h
noncomputable def notT (f:TF):TF:=fun ρ L => (f ρ L).bind fun x => some (!x.1,x.2)
noncomputable def andT (f g:TF):TF:=fun ρ L => (f ρ L).bind fun x => if x.1 = true then g ρ x.2 else some (false,x.2)
noncomputable def orT (f g:TF):TF:=fun ρ L => (f ρ L).bind fun x => if x.1 = true then some (true,x.2) else g ρ x.2
theorem tf_not {f:TF} (ha:PTf X a f):PTf X (.UnaryOp .Not a pos) (notT f) :=
 PT.weaken (pt_not ha) fun σ H Q z3_ => by
  obtain ⟨O,ρ,L,b,L',r,e,k⟩:=z3_
  unfold notT at e
  cases e1:f ρ L with
  | none => rw [e1] at e; cases e
  | some p => rw [e1] at e; cases e; exact ⟨O,ρ,L,p.1,p.2,r,e1,fun H' O' st rs => k H' O' st rs⟩
theorem wf_one_and {f:TF} (ha:PTf X a f):PWf X (.BoolOp .And [a] pos) f:=pw_and1 ha
theorem wf_one_or {f:TF} (ha:PTf X a f):PWf X (.BoolOp .Or [a] pos) f:=pw_or1 ha
theorem wf_and {f g:TF} {rest:List Expr} (ha:PTf X a f) (hb:PWf X (.BoolOp .And (b :: rest) pos) g):PWf X (.BoolOp .And (a :: b :: rest) pos) (andT f g) :=
 PW.weaken (pw_and ha hb) fun σ H Q z3_ => by
  obtain ⟨O,ρ,L,c,L',r,e,k⟩:=z3_
  unfold andT at e
  cases e1:f ρ L with
  | none => rw [e1] at e; cases e
  | some p =>
   rw [e1] at e
   obtain ⟨b1,L1⟩:=p
   refine ⟨O,ρ,L,b1,L1,r,e1,fun H1 O1 st rs => ?_⟩
   cases b1 with
   | true =>
    refine iteT ⟨O1,ρ,L1,c,L',r.to st rs,by simpa using e,fun H' O' st' rs' => k H' O' (st.trans st') rs'⟩
   | false =>
    simp at e
    obtain ⟨rfl,rfl⟩:=e
    exact iteF (k H1 O1 st rs)
theorem wf_or {f g:TF} {rest:List Expr} (ha:PTf X a f) (hb:PWf X (.BoolOp .Or (b :: rest) pos) g):PWf X (.BoolOp .Or (a :: b :: rest) pos) (orT f g) :=
 PW.weaken (pw_or ha hb) fun σ H Q z3_ => by
  obtain ⟨O,ρ,L,c,L',r,e,k⟩:=z3_
  unfold orT at e
  cases e1:f ρ L with
  | none => rw [e1] at e; cases e
  | some p =>
   rw [e1] at e
   obtain ⟨b1,L1⟩:=p
   refine ⟨O,ρ,L,b1,L1,r,e1,fun H1 O1 st rs => ?_⟩
   cases b1 with
   | true =>
    simp at e
    obtain ⟨rfl,rfl⟩:=e
    exact iteT (k H1 O1 st rs)
   | false =>
    refine iteF ⟨O1,ρ,L1,c,L',r.to st rs,by simpa using e,fun H' O' st' rs' => k H' O' (st.trans st') rs'⟩
theorem tf_w {f:TF} (h:PWf X a f):PTf X a f:=PW.pt h
noncomputable def andV (f g:EF):EF:=fun ρ L => (f ρ L).bind fun x => match x.1 with | .bl true => g ρ x.2 | .bl false => some (.bl false,x.2) | _ => none
noncomputable def orV (f g:EF):EF:=fun ρ L => (f ρ L).bind fun x => match x.1 with | .bl true => some (.bl true,x.2) | .bl false => g ρ x.2 | _ => none
noncomputable def notV (f:EF):EF:=fun ρ L => (f ρ L).bind fun x => match x.1 with | .bl b => some (.bl (!b),x.2) | _ => none
theorem ef_one {op:BoolOp} {f:EF} (h:PEf X a f):PEf X (.BoolOp op [a] pos) f:=pe_one h
theorem ef_and {f g:EF} {rest:List Expr} (ha:PEf X a f) (hb:PEf X (.BoolOp .And (b :: rest) pos) g):PEf X (.BoolOp .And (a :: b :: rest) pos) (andV f g) :=
 PE.weaken (pe_and ha hb) fun σ H Q z3_ => by
  obtain ⟨O,ρ,L,c,L',r,e,k⟩:=z3_
  unfold andV at e
  cases e1:f ρ L with
  | none => rw [e1] at e; cases e
  | some p =>
   rw [e1] at e
   obtain ⟨d,L1⟩:=p
   refine ⟨O,ρ,L,d,L1,r,e1,fun v H1 O1 st rs is => ?_⟩
   cases d <;> simp only [Option.bind_some] at e <;> try (cases e; done)
   rename_i b1
   cases is
   refine ⟨b1,rfl,?_⟩
   cases b1 with
   | true => exact iteT ⟨O1,ρ,L1,c,L',r.to st rs,by simpa using e,fun v H' O' st' rs' is' => k v H' O' (st.trans st') rs' is'⟩
   | false =>
    simp at e
    obtain ⟨rfl,rfl⟩:=e
    exact iteF (k _ H1 O1 st rs (.bl _))
theorem ef_or {f g:EF} {rest:List Expr} (ha:PEf X a f) (hb:PEf X (.BoolOp .Or (b :: rest) pos) g):PEf X (.BoolOp .Or (a :: b :: rest) pos) (orV f g) :=
 PE.weaken (pe_or ha hb) fun σ H Q z3_ => by
  obtain ⟨O,ρ,L,c,L',r,e,k⟩:=z3_
  unfold orV at e
  cases e1:f ρ L with
  | none => rw [e1] at e; cases e
  | some p =>
   rw [e1] at e
   obtain ⟨d,L1⟩:=p
   refine ⟨O,ρ,L,d,L1,r,e1,fun v H1 O1 st rs is => ?_⟩
   cases d <;> simp only [Option.bind_some] at e <;> try (cases e; done)
   rename_i b1
   cases is
   refine ⟨b1,rfl,?_⟩
   cases b1 with
   | false => exact iteF ⟨O1,ρ,L1,c,L',r.to st rs,by simpa using e,fun v H' O' st' rs' is' => k v H' O' (st.trans st') rs' is'⟩
   | true =>
    simp at e
    obtain ⟨rfl,rfl⟩:=e
    exact iteT (k _ H1 O1 st rs (.bl _))
theorem ef_not {f:EF} (ha:PEf X a f):PEf X (.UnaryOp .Not a pos) (notV f) :=
 PE.weaken (pe_not ha) fun σ H Q z3_ => by
  obtain ⟨O,ρ,L,c,L',r,e,k⟩:=z3_
  unfold notV at e
  cases e1:f ρ L with
  | none => rw [e1] at e; cases e
  | some p =>
   rw [e1] at e
   obtain ⟨d,L1⟩:=p
   refine ⟨O,ρ,L,d,L1,r,e1,fun v H1 O1 st rs is => ?_⟩
   cases d <;> simp only [Option.bind_some] at e <;> try (cases e; done)
   cases e
   cases is
   exact ⟨_,rfl,k _ H1 O1 st rs (.bl _)⟩
noncomputable def ifV (t:TF) (f g:EF):EF:=fun ρ L => (t ρ L).bind fun x => if x.1 = true then f ρ x.2 else g ρ x.2
theorem ef_if {t:TF} {f g:EF} (hc:PTf X c t) (ha:PEf X a f) (hb:PEf X b g):PEf X (.IfExp c a b pos) (ifV t f g) :=
 PE.weaken (pe_ifExp hc ha hb) fun σ H Q z3_ => by
  obtain ⟨O,ρ,L,d,L',r,e,k⟩:=z3_
  unfold ifV at e
  cases e1:t ρ L with
  | none => rw [e1] at e; cases e
  | some p =>
   rw [e1] at e
   obtain ⟨b1,L1⟩:=p
   refine ⟨O,ρ,L,b1,L1,r,e1,fun H1 O1 st rs => ?_⟩
   cases b1 with
   | true => exact iteT ⟨O1,ρ,L1,d,L',r.to st rs,by simpa using e,fun v H' O' st' rs' is' => k v H' O' (st.trans st') rs' is'⟩
   | false => exact iteF ⟨O1,ρ,L1,d,L',r.to st rs,by simpa using e,fun v H' O' st' rs' is' => k v H' O' (st.trans st') rs' is'⟩
noncomputable def notStar:Expr → Bool
 | .Starred _ _ => false
 | _ => true
theorem starEach_cons {e:Expr} {es:List Expr} {env:Env} (h:notStar e = true):starEach (e :: es) env = (false,eval e env) :: starEach es env:=by
 cases e <;> first | rfl | (cases h)
theorem plain_of:∀ {es:List Expr} {env:Env} {pos:Pos},es.all notStar = true → (backTo pos (starEach es env)).any (·.1) = false
 | [],_,_,_ => rfl
 | e :: es,env,pos,h => by
  rw [List.all_cons,Bool.and_eq_true] at h
  rw [starEach_cons h.1]
  have:=plain_of (env:=env) (pos:=pos) h.2
  unfold backTo at this ⊢
  rw [List.map_cons,List.any_cons,this]
  rfl
theorem plain_all:∀ {es:List Expr} {env:Env} {pos:Pos},es.all notStar = true → (backTo pos (starEach es env)).all (fun x => !x.1) = true
 | [],_,_,_ => rfl
 | e :: es,env,pos,h => by
  rw [List.all_cons,Bool.and_eq_true] at h
  rw [starEach_cons h.1]
  have:=plain_all (env:=env) (pos:=pos) h.2
  unfold backTo at this ⊢
  rw [List.map_cons,List.all_cons,this]
  rfl
noncomputable def nilA:AF:=fun _ L => some ([],L)
noncomputable def consA (f:EF) (g:AF):AF:=fun ρ L => (f ρ L).bind fun x => (g ρ x.2).bind fun y => some (x.1 :: y.1,y.2)
theorem af_nil:PAf X [] nilA:=PA.weaken pa_nil fun σ H Q ⟨O,ρ,L,d,L',r,e,k⟩ => by cases e; exact k _ _ _ (.refl _ _) r.s .nil
theorem af_cons {e:Expr} {es:List Expr} {f:EF} {g:AF} (ha:PEf X e f) (hr:PAf X es g) (hs:notStar e = true:=by rfl):PAf X (e :: es) (consA f g) :=
 PA.weaken (pa_cons ha hr (starEach_cons hs)) fun σ H Q z3_ => by
  obtain ⟨O,ρ,L,d,L',r,e,k⟩:=z3_
  unfold consA at e
  cases e1:f ρ L with
  | none => rw [e1] at e; cases e
  | some p =>
   rw [e1] at e
   simp only [Option.bind_some] at e
   cases e2:g ρ p.2 with
   | none => rw [e2] at e; cases e
   | some q =>
    rw [e2] at e
    cases e
    refine ⟨O,ρ,L,p.1,p.2,r,e1,fun v H1 O1 st1 rs1 is1 => ?_⟩
    refine ⟨O1,ρ,p.2,q.1,q.2,r.to st1 rs1,e2,fun u H2 O2 st2 rs2 is2 => ?_⟩
    exact k _ _ _ (st1.trans st2) rs2 (.cons (is1.mono st2) is2)
noncomputable def tupV (f:AF):EF:=fun ρ L => (f ρ L).bind fun x => if x.1.length ≤ 16777216 then some (.tup x.1,x.2) else none
noncomputable def lstV (f:AF):EF:=fun ρ L => (f ρ L).bind fun x => if x.1.length ≤ 16777216 then some (.ref x.2.length,x.2 ++ [.lst x.1]) else none
theorem ef_tup {es:List Expr} {f:AF} {x1:Nat} (h:PAf X es f):PEf X (.Tuple es x1 pos) (tupV f) :=
 PE.weaken (pe_tup h) fun σ H Q z3_ => by
  obtain ⟨O,ρ,L,d,L',r,e,k⟩:=z3_
  unfold tupV at e
  cases e1:f ρ L with
  | none => rw [e1] at e; cases e
  | some p =>
   rw [e1] at e
   simp only [Option.bind_some] at e
   split at e
   ·rename_i hz
    cases e
    refine ⟨O,ρ,L,p.1,p.2,r,e1,fun vs H1 O1 st rs is => ⟨by rw [is.length,sizeLine_eq]; exact hz,fun q hq => ?_⟩⟩
    have st2:Step H1 O1 (upd H1 q (.tup vs)) O1:=⟨.new hq,List.prefix_refl _⟩
    exact k _ _ _ (st.trans st2) (rs.ext fun a u e => by rw [upd_ne (ne_of_none e hq)]; exact e) (.tup (SqT.of upd_same) (is.mono st2))
   ·cases e
theorem ef_lst {es:List Expr} {f:AF} (h:PAf X es f):PEf X (.List es pos) (lstV f) :=
 PE.weaken (pe_lst h) fun σ H Q z3_ => by
  obtain ⟨O,ρ,L,d,L',r,e,k⟩:=z3_
  unfold lstV at e
  cases e1:f ρ L with
  | none => rw [e1] at e; cases e
  | some p =>
   rw [e1] at e
   simp only [Option.bind_some] at e
   split at e
   ·rename_i hz
    cases e
    refine ⟨O,ρ,L,p.1,p.2,r,e1,fun vs H1 O1 st rs is => ⟨by rw [is.length,sizeLine_eq]; exact hz,fun q hq => ?_⟩⟩
    have st2:Step H1 O1 (upd H1 q (.lst vs)) (O1 ++ [q]):=⟨.new hq,List.prefix_append _ _⟩
    refine k _ _ _ (st.trans st2) (rs.new hq ⟨vs,upd_same,is.mono st2⟩) (.ref ?_)
    rw [← rs.len]; simp
   ·cases e
noncomputable def callB (g:GL) (f:AF):EF:=fun ρ L => (f ρ L).bind fun x => g x.1 x.2
theorem call_lift {K:PySem.W.Frag} {g:GL} {f:AF} {σ:L2.St} {H:Hp} {Q:VK} (h:lift K (callB g f) σ H Q):liftA K f σ H fun vs H1 => rC K g vs H1 Q:=by
 obtain ⟨O,ρ,L,d,L',r,e,k⟩:=h
 unfold callB at e
 cases e1:f ρ L with
 | none => rw [e1] at e; cases e
 | some p =>
  rw [e1] at e
  exact ⟨O,ρ,L,p.1,p.2,r,e1,fun vs H1 O1 st rs is => ⟨O1,p.2,p.1,d,L',rs,is,e,fun w H' O' st' rs' is' => k w H' O' (st.trans st') rs' is'⟩⟩
theorem ef_callB {x:Str} {p:Pos} {e:Expr} {es:List Expr} {id:String} {g:GL} {f:AF} (hc:CallD X (.builtin id) g) (hm:X.mg x = none) (hv:bootBuiltins x = some (.builtin id)) (ha:PAf X (e :: es) f) (hg:Gl X x:=by rfl) (hn:x ≠ "__name__":=by decide) (hdb:(x == ("__debug__":Str)) = false:=by decide)
  (he:notStar e = true:=by rfl) (hpl:es.all notStar = true:=by rfl):PEf X (.Call (.Name x p) (e :: es) [] pos) (callB g f) :=
 PE.weaken (pe_callB hc hg hm hv ha hn hdb (starEach_cons he) (plain_of hpl)) fun σ H Q h => call_lift h
theorem ef_callTy {x:Str} {p:Pos} {e:Expr} {es:List Expr} {T:String} {g:GL} {f:AF} (hc:CallD X (.type T) g) (hm:X.mg x = none) (hv:bootBuiltins x = some (.type T)) (ha:PAf X (e :: es) f) (hg:Gl X x:=by rfl) (hn:x ≠ "__name__":=by decide) (hdb:(x == ("__debug__":Str)) = false:=by decide)
  (he:notStar e = true:=by rfl) (hpl:es.all notStar = true:=by rfl):PEf X (.Call (.Name x p) (e :: es) [] pos) (callB g f) :=
 PE.weaken (pe_callTy hc hg hm hv ha hn hdb (starEach_cons he) (plain_of hpl)) fun σ H Q h => call_lift h
end
inductive Out where
 | next (ρ:Fm) (L:Sto) | ret (d:D) (L:Sto) | brk (ρ:Fm) (L:Sto) | cont (ρ:Fm) (L:Sto)
noncomputable abbrev SF:=Fm → Sto → Option Out
noncomputable def PostS (K:PySem.W.Frag) (H:Hp) (O:List Addr) (E:Ends):Out → Prop
 | .next ρ L => ∀ σ' H' O',Step H O H' O' → Rep K H' O' σ' ρ L → E.nx σ' H'
 | .ret d L => ∀ v H' O',Step H O H' O' → RepS K H' O' L → Is K H' O' v d → E.rt v H'
 | .brk ρ L => ∀ σ' H' O',Step H O H' O' → Rep K H' O' σ' ρ L → E.bk σ' H'
 | .cont ρ L => ∀ σ' H' O',Step H O H' O' → Rep K H' O' σ' ρ L → E.ct σ' H'
theorem PostS.mono {K:PySem.W.Frag} {H H1:Hp} {O O1:List Addr} {E:Ends} {out:Out} (st:Step H O H1 O1) (h:PostS K H O E out):PostS K H1 O1 E out:=by
 cases out with
 | next ρ L => exact fun σ' H' O' st' r => h σ' H' O' (st.trans st') r
 | ret d L => exact fun v H' O' st' r i => h v H' O' (st.trans st') r i
 | brk ρ L => exact fun σ' H' O' st' r => h σ' H' O' (st.trans st') r
 | cont ρ L => exact fun σ' H' O' st' r => h σ' H' O' (st.trans st') r
noncomputable def liftS (K:PySem.W.Frag) (f:SF):TS:=fun E σ H => ∃ O ρ L out,Rep K H O σ ρ L ∧ f ρ L = some out ∧ PostS K H O E out
noncomputable def PSf (X:Cx) (st:Stmt) (f:SF):Prop:=PS X st (liftS X.K f)
noncomputable def PSsf (X:Cx) (st:List Stmt) (f:SF):Prop:=PSs X st (liftS X.K f)
theorem PS.weaken {X:Cx} {e:Stmt} {t t':TS} (h:PS X e t) (i:∀ D σ H,t' D σ H → t D σ H):PS X e t':=fun pins s σ H D I q => h pins s σ H D I (i D σ H q)
theorem PSs.weaken {X:Cx} {e:List Stmt} {t t':TS} (h:PSs X e t) (i:∀ D σ H,t' D σ H → t D σ H):PSs X e t':=fun pins s σ H D I q => h pins s σ H D I (i D σ H q)
noncomputable def nextF:SF:=fun ρ L => some (.next ρ L)
noncomputable def seqF (f g:SF):SF:=fun ρ L => (f ρ L).bind fun out => match out with | .next ρ' L' => g ρ' L' | o => some o
noncomputable def retF (f:EF):SF:=fun ρ L => (f ρ L).bind fun x => some (.ret x.1 x.2)
noncomputable def exprF (f:EF):SF:=fun ρ L => (f ρ L).bind fun x => some (.next ρ x.2)
noncomputable def setF (i:Nat) (f:EF):SF:=fun ρ L => (f ρ L).bind fun x => some (.next (ρ.set i (some x.1)) x.2)
noncomputable def ifF (t:TF) (f g:SF):SF:=fun ρ L => (t ρ L).bind fun x => if x.1 = true then f ρ x.2 else g ρ x.2
noncomputable def brkF:SF:=fun ρ L => some (.brk ρ L)
section
variable {X:Cx} {st:Stmt} {rest:List Stmt} {f g:SF} {fe:EF} {e:Expr} {pos:Pos}
theorem ssf_nil:PSsf X [] nextF:=PSs.weaken pss_nil fun D σ H ⟨O,ρ,L,out,r,e,k⟩ => by cases e; exact k σ H O (.refl _ _) r
theorem ssf_cons (h1:PSf X st f) (h2:PSsf X rest g):PSsf X (st :: rest) (seqF f g) :=
 PSs.weaken (pss_cons h1 h2) fun D σ H z3_ => by
  obtain ⟨O,ρ,L,out,r,e,k⟩:=z3_
  unfold seqF at e
  cases e1:f ρ L with
  | none => rw [e1] at e; cases e
  | some o1 =>
   rw [e1] at e
   simp only [Option.bind_some] at e
   refine ⟨O,ρ,L,o1,r,e1,?_⟩
   cases o1 with
   | next ρ1 L1 => exact fun σ' H' O' st' r' => ⟨O',ρ1,L1,out,r',e,k.mono st'⟩
   | ret d L1 => cases e; exact k
   | brk ρ1 L1 => cases e; exact k
   | cont ρ1 L1 => cases e; exact k
theorem ssf_one (h1:PSf X st f):PSsf X [st] f:=PSs.weaken (pss_one h1) fun D σ H h => h
theorem sf_break:PSf X (.Break pos) brkF:=PS.weaken ps_break fun D σ H ⟨O,ρ,L,out,r,e,k⟩ => by cases e; exact k σ H O (.refl _ _) r
theorem sf_expr (he:PEf X e fe) (hs:swapsWith e none pos.line X.env = pure false:=by rfl):PSf X (.Expr e pos) (exprF fe) :=
 PS.weaken (ps_expr he hs) fun D σ H z3_ => by
  obtain ⟨O,ρ,L,out,r,e,k⟩:=z3_
  unfold exprF at e
  cases e1:fe ρ L with
  | none => rw [e1] at e; cases e
  | some p => rw [e1] at e; cases e; exact ⟨O,ρ,L,p.1,p.2,r,e1,fun v H' O' st rs is => k σ H' O' st (r.to st rs)⟩
theorem sf_ret (he:PEf X e fe):PSf X (.Return (some e) pos) (retF fe) :=
 PS.weaken (ps_ret he) fun D σ H z3_ => by
  obtain ⟨O,ρ,L,out,r,e,k⟩:=z3_
  unfold retF at e
  cases e1:fe ρ L with
  | none => rw [e1] at e; cases e
  | some p => rw [e1] at e; cases e; exact ⟨O,ρ,L,p.1,p.2,r,e1,fun v H' O' st rs is => k v H' O' st rs is⟩
theorem sf_set {i:Nat} {x:Str} {pos':Pos} (hN:X.N.Nodup) (he:PEf X e fe) (hi:X.N[i]? = some x:=by rfl) (hx:Loc X.env.scope x:=by first | exact Or.inl rfl | exact Or.inr rfl) (hs:swapsWith e (some (.Name x pos')) pos.line X.env = pure false:=by rfl)
  (hf:X.fn x = true ∨ X.env.scope.names.lookup x = some .local:=by first | exact .inl rfl | exact .inr rfl):PSf X (.Assign [.Name x pos'] e pos) (setF i fe) :=
 PS.weaken (ps_set hN hi hx he hs hf) fun D σ H z3_ => by
  obtain ⟨O,ρ,L,out,r,e,k⟩:=z3_
  unfold setF at e
  cases e1:fe ρ L with
  | none => rw [e1] at e; cases e
  | some p => rw [e1] at e; cases e; exact ⟨O,ρ,L,p.1,p.2,r,e1,fun v H' O' st rs is => k _ H' O' st ⟨rs,(r.f.mono st).set is i⟩⟩
theorem sf_if {c:Expr} {a b:List Stmt} {t:TF} (hc:PTf X c t) (ha:PSsf X a f) (hb:PSsf X b g):PSf X (.If c a b pos) (ifF t f g) :=
 PS.weaken (ps_if hc ha hb) fun D σ H z3_ => by
  obtain ⟨O,ρ,L,out,r,e,k⟩:=z3_
  unfold ifF at e
  cases e1:t ρ L with
  | none => rw [e1] at e; cases e
  | some p =>
   rw [e1] at e
   obtain ⟨b1,L1⟩:=p
   refine ⟨O,ρ,L,b1,L1,r,e1,fun H1 O1 st rs => ?_⟩
   cases b1 with
   | true => exact iteT ⟨O1,ρ,L1,out,r.to st rs,by simpa using e,k.mono st⟩
   | false => exact iteF ⟨O1,ρ,L1,out,r.to st rs,by simpa using e,k.mono st⟩
end
noncomputable abbrev GF:=D → Fm → Option Fm
noncomputable abbrev GsF:=List D → Fm → Option Fm
noncomputable def liftG (K:PySem.W.Frag) (g:GF):TG:=fun v σ H Q => ∃ O ρ L d ρ',Rep K H O σ ρ L ∧ Is K H O v d ∧ g d ρ = some ρ' ∧ ∀ σ',Rep K H O σ' ρ' L → Q σ' H
noncomputable def liftGs (K:PySem.W.Frag) (g:GsF):TGs:=fun v σ H Q => ∃ O ρ L d ρ',Rep K H O σ ρ L ∧ IsL K H O v d ∧ g d ρ = some ρ' ∧ ∀ σ',Rep K H O σ' ρ' L → Q σ' H
noncomputable def PGf (X:Cx) (tg:Expr) (g:GF):Prop:=PG X tg (liftG X.K g)
noncomputable def PGsf (X:Cx) (tg:List Expr) (g:GsF):Prop:=PGs X tg (liftGs X.K g)
theorem PG.weaken {X:Cx} {e:Expr} {t t':TG} (h:PG X e t) (i:∀ v σ H Q,t' v σ H Q → t v σ H Q):PG X e t':=fun pins s σ H v u Q I r q => h pins s σ H v u Q I r (i _ _ _ _ q)
theorem PGs.weaken {X:Cx} {e:List Expr} {t t':TGs} (h:PGs X e t) (i:∀ v σ H Q,t' v σ H Q → t v σ H Q):PGs X e t':=fun pins s σ H v u Q I r q => h pins s σ H v u Q I r (i _ _ _ _ q)
noncomputable def gNameF (i:Nat):GF:=fun d ρ => some (ρ.set i (some d))
noncomputable def gNilF:GsF:=fun ds ρ => match ds with | [] => some ρ | _ => none
noncomputable def gConsF (g:GF) (h:GsF):GsF:=fun ds ρ => match ds with | d :: r => (g d ρ).bind fun ρ' => h r ρ' | [] => none
noncomputable def gTupF (n:Nat) (h:GsF):GF:=fun d ρ => match d with | .tup ds => if ds.length = n then h ds ρ else none | _ => none
section
variable {X:Cx} {pos:Pos}
theorem gf_name {i:Nat} {x:Str} (hN:X.N.Nodup) (hi:X.N[i]? = some x:=by rfl) (hx:Loc X.env.scope x:=by first | exact Or.inl rfl | exact Or.inr rfl) (hf:X.fn x = true ∨ X.env.scope.names.lookup x = some .local:=by first | exact .inl rfl | exact .inr rfl):PGf X (.Name x pos) (gNameF i) :=
 PG.weaken (pg_name hN hi hx hf) fun v σ H Q z4_ => by
  obtain ⟨O,ρ,L,d,ρ',r,is,e,k⟩:=z4_
  cases e
  exact k _ ⟨r.s,r.f.set is i⟩
theorem gsf_nil:PGsf X [] gNilF:=PGs.weaken pgs_nil fun v σ H Q z4_ => by
 obtain ⟨O,ρ,L,d,ρ',r,is,e,k⟩:=z4_
 cases is with
 | nil => cases e; exact ⟨rfl,k _ r⟩
 | cons a b => cases e
end
section
variable {X:Cx} {pos:Pos}
theorem gsf_cons {e:Expr} {es:List Expr} {g:GF} {h:GsF} (h1:PGf X e g) (h2:PGsf X es h)
  (hs:(assignEach (e :: es) X.env).map (·.2) = assign e X.env :: (assignEach es X.env).map (·.2):=by rfl):PGsf X (e :: es) (gConsF g h) :=
 PGs.weaken (pgs_cons h1 h2 hs) fun v σ H Q z4_ => by
  obtain ⟨O,ρ,L,ds,ρ',r,is,e,k⟩:=z4_
  cases is with
  | nil => cases e
  | @cons v d vs ds a b =>
   simp only [gConsF] at e
   cases e1:g d ρ with
   | none => rw [e1] at e; cases e
   | some ρ1 =>
    rw [e1] at e
    exact ⟨v,vs,rfl,O,ρ,L,d,ρ1,r,a,e1,fun σ' r' => ⟨O,ρ1,L,ds,ρ',r',b,e,k⟩⟩
theorem gf_tup {es:List Expr} {k:Nat} {h:GsF} {n:Nat} (hc:X.calm = true) (h1:PGsf X es h)
  (hn:(assignEach es X.env).length = n:=by rfl) (hst:(assignEach es X.env).findIdx? (·.1) = none:=by rfl):PGf X (.Tuple es k pos) (gTupF n h) :=
 PG.weaken (pg_tup hc h1 hn hst) fun v σ H Q z4_ => by
  obtain ⟨O,ρ,L,d,ρ',r,is,e,k⟩:=z4_
  cases is with
  | @tup a vs ds hq il =>
   simp only [gTupF] at e
   split at e
   ·rename_i hl
    exact ⟨a,vs,rfl,hq,by rw [il.length]; exact hl,O,ρ,L,ds,ρ',r,il,e,k⟩
   ·cases e
  | _ => cases e
end
structure ItD where
 items:List D
 ok:Sto → Bool
noncomputable abbrev IF:=Fm → Sto → Option (ItD × Sto)
noncomputable def ItIs (K:PySem.W.Frag) (H0:Hp) (O0:List Addr) (Jt:It) (J:ItD):Prop:=∀ (i:Nat) (H:Hp) (O:List Addr) (L:Sto),Step H0 O0 H O → RepS K H O L → J.ok L = true →
 (∀ d,J.items[i]? = some d → Jt.go i H ∧ ∀ x H',Jt.yld i H x H' → Step H O H' O ∧ RepS K H' O L ∧ Is K H' O x d) ∧ (J.items.length ≤ i → Jt.stop i H)
theorem ItIs.mono {K:PySem.W.Frag} {H0 H1:Hp} {O0 O1:List Addr} {Jt:It} {J:ItD} (st:Step H0 O0 H1 O1) (h:ItIs K H0 O0 Jt J):ItIs K H1 O1 Jt J:=fun i H O L s r o => h i H O L (st.trans s) r o
noncomputable def liftI (K:PySem.W.Frag) (f:IF):TI:=fun σ H R => ∃ O ρ L J L',Rep K H O σ ρ L ∧ f ρ L = some (J,L') ∧ ∀ Jt H' O',Step H O H' O' → RepS K H' O' L' → ItIs K H' O' Jt J → R Jt H'
noncomputable def PIf (X:Cx) (tg iter:Expr) (f:IF):Prop:=PI X tg iter (liftI X.K f)
theorem PI.weaken {X:Cx} {tg e:Expr} {t t':TI} (h:PI X tg e t) (i:∀ σ H R,t' σ H R → t σ H R):PI X tg e t':=fun pins s σ H R I q => h pins s σ H R I (i _ _ _ q)
noncomputable def loopL (ok:Sto → Bool) (g:GF) (body:SF):List D → Fm → Sto → Option Out
 | [],ρ,L => if ok L = true then some (.next ρ L) else none
 | x :: xs,ρ,L => if ok L = true then (g x ρ).bind fun ρ1 => (body ρ1 L).bind fun out => match out with
   | .next ρ2 L2 => loopL ok g body xs ρ2 L2
   | .cont ρ2 L2 => loopL ok g body xs ρ2 L2
   | .brk ρ2 L2 => some (.next ρ2 L2)
   | .ret d L2 => some (.ret d L2)
  else none
noncomputable def forF (fi:IF) (g:GF) (body:SF):SF:=fun ρ L => (fi ρ L).bind fun x => loopL x.1.ok g body x.1.items ρ x.2
theorem sf_for {X:Cx} {tg iter:Expr} {body:List Stmt} {fi:IF} {g:GF} {fb:SF} {pos:Pos} (hp:PassesOwn (model X.prog X.w) X.A X.env X.xe) (hc:X.calm = true) (hi:PIf X tg iter fi) (hg:PGf X tg g) (hb:PSsf X body fb)
  (hs:∀ x,foldedSetIterable iter X.env x = pure x:=by intro _; rfl):PSf X (.For tg iter body [] pos) (forF fi g fb) :=
 PS.weaken (ps_for hp hc hi hg hb hs) fun D σ H z3_ => by
  obtain ⟨O,ρ,L,out,r,e,k⟩:=z3_
  unfold forF at e
  cases e1:fi ρ L with
  | none => rw [e1] at e; cases e
  | some p =>
   rw [e1] at e
   obtain ⟨⟨items,ok⟩,L1⟩:=p
   simp only [Option.bind_some] at e
   refine ⟨O,ρ,L,_,_,r,e1,fun Jt H1 O1 st1 rs1 it => ?_⟩
   refine ⟨fun i m σ H => m = items.length - i ∧ i ≤ items.length ∧ ∃ O ρ L,Step H1 O1 H O ∧ Rep X.K H O σ ρ L ∧ loopL ok g fb (items.drop i) ρ L = some out ∧ PostS X.K H O D out,
    ⟨items.length,rfl,Nat.zero_le _,O1,ρ,L1,.refl _ _,r.to st1 rs1,e,k.mono st1⟩,?_⟩
   rintro i m σ' H' ⟨rfl,hi',O',ρ',L',st',r',el,k'⟩
   by_cases hlt:i < items.length
   ·have ed:items.drop i = items[i] :: items.drop (i + 1):=List.drop_eq_getElem_cons hlt
    rw [ed] at el
    simp only [loopL] at el
    split at el
    ·rename_i hok
     obtain ⟨h1,_⟩:=it i H' O' L' st' r'.s hok
     obtain ⟨go,yl⟩:=h1 items[i] (by simp [hlt])
     refine .inr ⟨go,fun σ2 H2 => ∃ m',m' < items.length - i ∧ m' = items.length - (i + 1) ∧ i + 1 ≤ items.length ∧ ∃ O ρ L,Step H1 O1 H2 O ∧ Rep X.K H2 O σ2 ρ L ∧ loopL ok g fb (items.drop (i + 1)) ρ L = some out ∧ PostS X.K H2 O D out,
      fun σ2 H2 h => h,fun x H2 y => ?_⟩
     obtain ⟨st2,rs2,is2⟩:=yl x H2 y
     cases eg:g items[i] ρ' with
     | none => rw [eg] at el; cases el
     | some ρ1 =>
      rw [eg] at el
      simp only [Option.bind_some] at el
      refine ⟨O',ρ',L',_,ρ1,r'.to st2 rs2,is2,eg,fun σ3 r3 => ?_⟩
      cases eb:fb ρ1 L' with
      | none => rw [eb] at el; cases el
      | some o1 =>
       rw [eb] at el
       simp only [Option.bind_some] at el
       refine ⟨O',ρ1,L',o1,r3,eb,?_⟩
       cases o1 with
       | next ρ2 L2 => exact fun σ4 H4 O4 st4 r4 => ⟨items.length - (i + 1),by omega,rfl,hlt,O4,ρ2,L2,(st'.trans st2).trans st4,r4,el,(k'.mono st2).mono st4⟩
       | cont ρ2 L2 => exact fun σ4 H4 O4 st4 r4 => ⟨items.length - (i + 1),by omega,rfl,hlt,O4,ρ2,L2,(st'.trans st2).trans st4,r4,el,(k'.mono st2).mono st4⟩
       | brk ρ2 L2 => cases el; exact fun σ4 H4 O4 st4 r4 => k' σ4 H4 O4 (st2.trans st4) r4
       | ret d L2 => cases el; exact fun v H4 O4 st4 r4 i4 => k' v H4 O4 (st2.trans st4) r4 i4
    ·cases el
   ·have hi2:i = items.length:=by omega
    subst hi2
    rw [List.drop_length] at el
    simp only [loopL] at el
    split at el
    ·rename_i hok
     cases el
     obtain ⟨_,h2⟩:=it _ H' O' L' st' r'.s hok
     exact .inl ⟨h2 (Nat.le_refl _),k' σ' H' O' (.refl _ _) r'⟩
    ·cases el
noncomputable def iTupF (f:EF):IF:=fun ρ L => (f ρ L).bind fun x => match x.1 with | .tup xs => some (⟨xs,fun _ => true⟩,x.2) | _ => none
noncomputable def iLstF (f:EF):IF:=fun ρ L => (f ρ L).bind fun x => match x.1 with
 | .fz xs => some (⟨xs,fun _ => true⟩,x.2)
 | .ref k => match x.2[k]? with | some (.lst xs) => some (⟨xs,fun L' => decide (L'[k]? = some (.lst xs))⟩,x.2) | _ => none
 | _ => none
noncomputable def rngD (lo:Int) (n:Nat):List D:=(List.range n).map fun (i:Nat) => .int (lo + ((i:Nat):Int))
noncomputable def iRng1F (f:AF):IF:=fun ρ L => (f ρ L).bind fun x => match x.1 with
 | [.int j] => if j ≤ 4611686018427387903 ∧ -4611686018427387904 ≤ j then some (⟨rngD 0 j.toNat,fun _ => true⟩,x.2) else none
 | _ => none
noncomputable def iRng2F (f:AF):IF:=fun ρ L => (f ρ L).bind fun x => match x.1 with
 | [.int i,.int j] => if (i ≤ 4611686018427387903 ∧ -4611686018427387904 ≤ i) ∧ (j ≤ 4611686018427387903 ∧ -4611686018427387904 ≤ j) then some (⟨rngD i (j - i).toNat,fun _ => true⟩,x.2) else none
 | _ => none
section
variable {X:Cx} {tg l:Expr} {f:EF}
theorem rngD_get (lo:Int) (n i:Nat):(rngD lo n)[i]? = if i < n then some (.int (lo + (i:Int))) else none:=by
 unfold rngD
 rw [List.getElem?_map]
 by_cases h:i < n
 ·rw [if_pos h]; simp [List.getElem?_range h]
 ·rw [if_neg h]; simp; omega
theorem rngD_len (lo:Int) (n:Nat):(rngD lo n).length = n:=by simp [rngD]
theorem itis_rng {K:PySem.W.Frag} {H0:Hp} {O0:List Addr} {lo:Int} {n:Nat}:ItIs K H0 O0 (Itr lo n) ⟨rngD lo n,fun _ => true⟩:=by
 intro i H O L st rs _
 refine ⟨fun d hd => ?_,fun h => by rw [rngD_len] at h; exact h⟩
 simp only at hd
 rw [rngD_get] at hd
 split at hd
 ·rename_i hlt
  cases hd
  refine ⟨hlt,fun x H' y => ?_⟩
  obtain ⟨e,y⟩:=y
  subst e y
  exact ⟨.refl _ _,rs,.int _⟩
 ·cases hd
theorem pif_tup (hl:PEf X l f):PIf X tg l (iTupF f):=PI.weaken (pi_tup hl) fun σ H R z3_ => by
 obtain ⟨O,ρ,L,J,L',r,e,k⟩:=z3_
 unfold iTupF at e
 cases e1:f ρ L with
 | none => rw [e1] at e; cases e
 | some p =>
  rw [e1] at e
  obtain ⟨d,L1⟩:=p
  cases d <;> simp only [Option.bind_some] at e <;> try (cases e; done)
  cases e
  refine ⟨O,ρ,L,_,_,r,e1,fun v H1 O1 st rs is => ?_⟩
  cases is with
  | @tup a vs ds hq il =>
   refine ⟨a,rfl,⟨vs,hq⟩,k _ _ _ st rs fun i H2 O2 L2 st2 rs2 _ => ?_⟩
   have hq2:=SqT.grow st2.1 hq
   have il2:=il.mono st2
   refine ⟨fun d hd => ?_,fun h => ⟨vs,hq2,by rw [il.length]; exact h⟩⟩
   obtain ⟨v,hv,iv⟩:=il2.get hd
   refine ⟨⟨vs,v,hq2,hv⟩,fun x H' y => ?_⟩
   obtain ⟨e,y⟩:=y
   subst e
   have:=y vs hq2
   rw [hv] at this; cases this
   exact ⟨.refl _ _,rs2,iv⟩
theorem pif_lst (hl:PEf X l f):PIf X tg l (iLstF f):=PI.weaken (pi_list hl) fun σ H R z3_ => by
 obtain ⟨O,ρ,L,J,L',r,e,k⟩:=z3_
 unfold iLstF at e
 cases e1:f ρ L with
 | none => rw [e1] at e; cases e
 | some p =>
  rw [e1] at e
  obtain ⟨d,L1⟩:=p
  cases d <;> simp only [Option.bind_some] at e <;> try (cases e; done)
  ·cases e
   refine ⟨O,ρ,L,_,_,r,e1,fun v H1 O1 st rs is => ?_⟩
   cases is with
   | @fz a vs ds hq il =>
    refine ⟨a,rfl,⟨vs,hq.sql⟩,k _ _ _ st rs fun i H2 O2 L2 st2 rs2 _ => ?_⟩
    have hq2:=(SqF.grow st2.1 hq).sql
    have il2:=il.mono st2
    refine ⟨fun d hd => ?_,fun h => ⟨vs,hq2,by rw [il.length]; exact h⟩⟩
    obtain ⟨v,hv,iv⟩:=il2.get hd
    refine ⟨⟨vs,v,hq2,hv⟩,fun x H' y => ?_⟩
    obtain ⟨e,y⟩:=y
    subst e
    have:=y vs hq2
    rw [hv] at this; cases this
    exact ⟨.refl _ _,rs2,iv⟩
  ·rename_i kk
   cases e2:L1[kk]? with
   | none => rw [e2] at e; cases e
   | some o =>
    rw [e2] at e
    cases o with
    | dk _ => cases e
    | ins _ _ => cases e
    | dt _ _ => cases e
    | exn _ => cases e
    | lst xs =>
     cases e
     refine ⟨O,ρ,L,_,_,r,e1,fun v H1 O1 st rs is => ?_⟩
     cases is with
     | @ref _ a hk =>
      obtain ⟨vs,hv,il⟩:=rs.ob _ _ _ hk e2
      refine ⟨a,rfl,⟨vs,SqL.of hv⟩,k _ _ _ st rs fun i H2 O2 L2 st2 rs2 hok => ?_⟩
      have hk2:=pref_get st2.2 hk
      obtain ⟨ws,hw,iw⟩:=rs2.ob _ _ _ hk2 (of_decide_eq_true hok)
      refine ⟨fun d hd => ?_,fun h => ⟨ws,SqL.of hw,by rw [iw.length]; exact h⟩⟩
      obtain ⟨v,hv',iv⟩:=iw.get hd
      refine ⟨⟨ws,v,SqL.of hw,hv'⟩,fun x H' y => ?_⟩
      obtain ⟨e,y⟩:=y
      subst e
      have:=y ws (SqL.of hw)
      rw [hv'] at this; cases this
      exact ⟨.refl _ _,rs2,iv⟩
theorem pif_range1 {a:Expr} {fa:AF} {p pos:Pos} (hm:X.mg "range" = none) (ha:PAf X [a] fa) (hg:Gl X "range":=by rfl) (hs:starEach [a] X.env = [(false,eval a X.env)]:=by rfl):PIf X tg (.Call (.Name "range" p) [a] [] pos) (iRng1F fa) :=
 PI.weaken (pi_range1 hg hm ha hs) fun σ H R z3_ => by
  obtain ⟨O,ρ,L,J,L',r,e,k⟩:=z3_
  unfold iRng1F at e
  cases e1:fa ρ L with
  | none => rw [e1] at e; cases e
  | some q =>
   rw [e1] at e
   obtain ⟨ds,L1⟩:=q
   simp only [Option.bind_some] at e
   refine ⟨O,ρ,L,ds,L1,r,e1,fun vs H1 O1 st rs is => ?_⟩
   split at e
   ·rename_i j
    split at e
    ·rename_i hj
     cases e
     cases is with
     | cons i1 i2 =>
      cases i1
      cases i2
      exact ⟨j,rfl,by omega,by omega,k _ _ _ st rs itis_rng⟩
    ·cases e
   ·cases e
theorem pif_range2 {a b:Expr} {fa:AF} {p pos:Pos} (hm:X.mg "range" = none) (ha:PAf X [a,b] fa) (hg:Gl X "range":=by rfl) (hs:starEach [a,b] X.env = [(false,eval a X.env),(false,eval b X.env)]:=by rfl) (hs2:starEach [b] X.env = [(false,eval b X.env)]:=by rfl):PIf X tg (.Call (.Name "range" p) [a,b] [] pos) (iRng2F fa) :=
 PI.weaken (pi_range2 hg hm ha hs hs2) fun σ H R z3_ => by
  obtain ⟨O,ρ,L,J,L',r,e,k⟩:=z3_
  unfold iRng2F at e
  cases e1:fa ρ L with
  | none => rw [e1] at e; cases e
  | some q =>
   rw [e1] at e
   obtain ⟨ds,L1⟩:=q
   simp only [Option.bind_some] at e
   refine ⟨O,ρ,L,ds,L1,r,e1,fun vs H1 O1 st rs is => ?_⟩
   split at e
   ·rename_i i j
    split at e
    ·rename_i hj
     cases e
     cases is with
     | cons i1 i2 =>
      cases i1
      cases i2 with
      | cons i3 i4 =>
       cases i3
       cases i4
       exact ⟨i,j,rfl,⟨by omega,by omega,by omega,by omega⟩,k _ _ _ st rs itis_rng⟩
    ·cases e
   ·cases e
end
theorem fold_free {names:List (Str × NameKind)} {env:Env}:∀ (cs:List (Str × Addr)),(∀ y ∈ names,y.2 = .free → ∃ c,env.cells.lookup y.1 = some c) →
  ∃ cl:List (Str × Addr),(forIn names cs (fun (x:Str × NameKind) (r:List (Str × Addr)) => match x with
   | (name,kind) => if (kind == NameKind.free) = true then do let a ← cellOf env name; pure (ForInStep.yield ((name,a) :: r)) else pure (ForInStep.yield r)):Sem (List (Str × Addr))) = pure cl ∧
   (∀ x,(x,NameKind.free) ∈ names → cl.lookup x = env.cells.lookup x) ∧ (∀ x c,cl.lookup x = some c → env.cells.lookup x = some c ∨ cs.lookup x = some c) ∧ (∀ x,(cs.lookup x = env.cells.lookup x) → cl.lookup x = env.cells.lookup x):=by
 induction names with
 | nil => intro cs _; exact ⟨cs,rfl,fun x h => by simp at h,fun x c h => .inr h,fun x h => h⟩
 | cons y r ih =>
  intro cs h
  obtain ⟨n,kd⟩:=y
  rw [List.forIn_cons]
  by_cases hk:kd = .free
  ·subst hk
   obtain ⟨c,hc⟩:=h (n,.free) List.mem_cons_self rfl
   obtain ⟨cl,e1,e2,e3,e4⟩:=ih ((n,c) :: cs) fun y hy => h y (List.mem_cons_of_mem _ hy)
   have here:∀ x,((n,c) :: cs).lookup x = if x == n then some c else cs.lookup x:=fun x => by
    cases hx:x == n <;> simp [List.lookup,hx]
   refine ⟨cl,?_,fun x hx => ?_,fun x c' hx => ?_,fun x hx => e4 x ?_⟩
   ·simp only [cellOf,hc]
    rw [← e1]
    rfl
   ·rcases List.mem_cons.mp hx with z | z
    ·injection z with z1 _
     subst z1
     refine e4 x ?_
     rw [here]
     simp [hc]
    ·exact e2 x z
   ·rcases e3 x c' hx with z | z
    ·exact .inl z
    ·rw [here] at z
     cases hxn:x == n with
     | true =>
      rw [hxn] at z
      simp at z
      subst z
      have:x = n:=by simpa using hxn
      subst this
      exact .inl hc
     | false => rw [hxn] at z; exact .inr z
   ·rw [here]
    cases hxn:x == n with
    | true =>
     have:x = n:=by simpa using hxn
     subst this
     simp [hc]
    | false => simpa using hx
  ·have hb:(kd == NameKind.free) = false:=by simpa using hk
   obtain ⟨cl,e1,e2,e3,e4⟩:=ih cs fun y hy => h y (List.mem_cons_of_mem _ hy)
   refine ⟨cl,?_,fun x hx => ?_,e3,e4⟩
   ·simp only [hb]
    rw [← e1]
    rfl
   ·rcases List.mem_cons.mp hx with z | z
    ·injection z with _ z2
     exact absurd z2.symm hk
    ·exact e2 x z
theorem closure_ok {scope:Scope} {env:Env} (h:∀ y ∈ scope.names,y.2 = .free → ∃ c,env.cells.lookup y.1 = some c) :
  ∃ cl,closureFor scope env = pure cl ∧ (∀ x,(x,NameKind.free) ∈ scope.names → cl.lookup x = env.cells.lookup x) ∧ (∀ x c,cl.lookup x = some c → env.cells.lookup x = some c):=by
 obtain ⟨cl,e1,e2,e3,_⟩:=fold_free (names:=scope.names) (env:=env) [] h
 refine ⟨cl,?_,e2,fun x c hx => ?_⟩
 ·unfold closureFor
  simp only [bind_pure]
  first
   | exact e1
   | (rw [e1]; rfl)
 ·rcases e3 x c hx with z | z
  ·exact z
  ·simp at z
section
variable {prog:Program} {w:World} {A:Around} {R:Result → Shared → Prop} {s:Shared}
theorem comp_loop {elt target iter:Expr} {ifs:List Expr} {scope:Scope} {pos:Pos} {it acc:Value} {env:Env} (I:Nat → Shared → Prop)
  (turn:∀ n s,I n s → wpAny (model prog w) A (pyNext it) (fun r s₁ => match r with
   | none => R (.ok .next) s₁
   | some v => wpAny (model prog w) A (letOwnedTupleGo target it v) (fun _ s₁' => wpAny (model prog w) A (assign target env v) (fun _ s₂ =>
     wpAny (model prog w) A (forIn ifs true fun c r => if r = true then do let ok ← isTrue c env (eval c env); pure (ForInStep.yield ok) else pure (ForInStep.yield r)) (fun ok s₃ =>
      if ok = true then wpAny (model prog w) A (eval elt env) (fun x s₄ =>
       wpAny (model prog w) A (call (.builtin "list.append") [acc,x]) (fun _ s₅ => ∃ m,m < n ∧ I m s₅) (fun _ _ => False) s₄) (fun _ _ => False) s₃
      else ∃ m,m < n ∧ I m s₃) (fun _ _ => False) s₂) (fun _ _ => False) s₁') (fun _ _ => False) s₁) (fun _ _ => False) s)
  (n:Nat) (h:I n s) :
  codeAny (model prog w) A (.compLoop (.ListComp elt [⟨target,iter,ifs,0⟩] scope pos) 0 it acc env) R s:=by
 refine codeAny_loop rfl I (fun n s hI => ?_) n h
 show wpAny _ A ((compTurn (.ListComp elt [⟨target,iter,ifs,0⟩] scope pos) 0 it acc env).onRaise (fun x => do noteFrame x env; theTreesLotGoes x)) _ _ s
 refine wpAny_noted ?_
 rw [compTurn_list]
 refine wpAny_bind (wpAny_standAt (wpAny_bind (wpAny_mono (turn n s hI) (fun r s₁ h₁ => ?_) fun _ _ h' => h'.elim)))
 cases r with
 | none => exact wpAny_pure h₁
 | some v =>
  refine wpAny_bind (wpAny_mono h₁ (fun _ s₁' h₁' => ?_) fun _ _ h' => h'.elim)
  refine wpAny_bind (wpAny_mono h₁' (fun _ s₂ h₂ => wpAny_bind (wpAny_mono h₂ (fun ok s₃ h₃ => ?_) fun _ _ h' => h'.elim)) fun _ _ h' => h'.elim)
  cases ok with
  | false => exact wpAny_pure ⟨rfl,h₃⟩
  | true =>
   exact wpAny_bind (wpAny_bind (wpAny_mono h₃ (fun x s₄ h₄ => wpAny_bind (wpAny_mono h₄ (fun _ s₅ h₅ => wpAny_pure (wpAny_pure ⟨rfl,h₅⟩)) fun _ _ h' => h'.elim)) fun _ _ h' => h'.elim))
end
noncomputable def compCx (X:Cx) (N':List Str) (scope:Scope) (cl:List (Str × Addr)) (C:Addr) (s:Shared) (H:Hp) (fp:List Addr) (pins:List (Addr × Obj)):Cx where
 prog:=X.prog
 w:=X.w
 K:=X.K
 mg:=X.mg
 base:=X.base
 A:=X.A
 N:=N'
 s₀:=s
 H₀:=H
 env:=compEnvC scope cl C X.env
 outer:=X.stack
 stack:=X.stack
 ex:=fp
 fn:=fun _ => false
 calm:=X.calm
 pn:=X.pn ++ pins
 xe:=fun _ _ => False
noncomputable def PQf (X:Cx) (ifs:List Expr) (c:TF):Prop :=
 ∀ (pins:List (Addr × Obj)) (s:Shared) (σ:L2.St) (H:Hp) (Q:Bool → Hp → Prop),Inv X pins σ H s → liftT X.K c σ H Q →
  wpAny (model X.prog X.w) X.A (forIn ifs true fun c r => if r = true then do let ok ← isTrue c X.env (eval c X.env); pure (ForInStep.yield ok) else pure (ForInStep.yield r)) (TP X pins σ Q) X.xe s
noncomputable def trueT:TF:=fun _ L => some (true,L)
theorem qf_nil {X:Cx}:PQf X [] trueT:=fun pins s σ H Q I z6_ => by
 obtain ⟨O,ρ,L,b,L',r,e,k⟩:=z6_
 cases e
 exact wpAny_tests_nil ⟨H,I,k H O (.refl _ _) r.s⟩
theorem qf_one {X:Cx} {c:Expr} {f:TF} (h:PTf X c f):PQf X [c] f:=fun pins s σ H Q I q => wpAny_tests_one (h pins s σ H Q I q)
noncomputable def compL (ok:Sto → Bool) (g:GF) (c:TF) (elt:EF) (k:Nat):List D → Fm → Sto → Option Sto
 | [],ρ,L => if ok L = true then some L else none
 | x :: xs,ρ,L => if ok L = true then (g x ρ).bind fun ρ1 => (c ρ1 L).bind fun p => if p.1 = true then (elt ρ1 p.2).bind fun q => match q.2[k]? with
    | some (.lst ys) => if ys.length < 16777216 then compL ok g c elt k xs ρ1 (q.2.set k (.lst (ys ++ [q.1]))) else none
    | _ => none
   else compL ok g c elt k xs ρ1 p.2
  else none
noncomputable def frC (n:Nat) (idx:List Nat) (ρ:Fm):Fm:=List.replicate n none ++ idx.map fun j => (ρ[j]?).join
noncomputable def compF (fi:IF) (n:Nat) (idx:List Nat) (g:GF) (c:TF) (elt:EF):EF:=fun ρ L => (fi ρ L).bind fun x =>
 (compL x.1.ok g c elt x.2.length x.1.items (frC n idx ρ) (x.2 ++ [.lst []])).bind fun L2 => some (.ref x.2.length,L2)
theorem relabel_mem {env:Env}:∀ {names:List (Str × NameKind)} {x:Str} {k:NameKind},
  (names.map fun (n,k) => if (k == NameKind.free && env.scope.kind == .function && env.kindOf n == some .cell) then (n,NameKind.cell) else (n,k)).lookup x = some k →
  ∃ k',(x,k') ∈ names ∧ (k = k' ∨ (k = .cell ∧ k' = .free))
 | [],_,_,h => by simp at h
 | (n,k0) :: r,x,k,h => by
  rw [List.map_cons] at h
  dsimp only at h
  have ih:=@relabel_mem env r x k
  by_cases hc:(k0 == NameKind.free && env.scope.kind == .function && env.kindOf n == some .cell) = true
  ·rw [if_pos hc] at h
   cases hx:x == n with
   | true =>
    simp only [List.lookup_cons,hx] at h
    cases h
    have e:x = n:=by simpa using hx
    subst e
    have hk:k0 = .free:=by
     simp only [Bool.and_eq_true] at hc
     simpa using hc.1.1
    subst hk
    exact ⟨.free,List.mem_cons_self,.inr ⟨rfl,rfl⟩⟩
   | false =>
    simp only [List.lookup_cons,hx] at h
    obtain ⟨k',a,b⟩:=ih h
    exact ⟨k',List.mem_cons_of_mem _ a,b⟩
  ·rw [if_neg hc] at h
   cases hx:x == n with
   | true =>
    simp only [List.lookup_cons,hx] at h
    cases h
    have e:x = n:=by simpa using hx
    subst e
    exact ⟨_,List.mem_cons_self,.inl rfl⟩
   | false =>
    simp only [List.lookup_cons,hx] at h
    obtain ⟨k',a,b⟩:=ih h
    exact ⟨k',List.mem_cons_of_mem _ a,b⟩
section
variable {X:Cx} {elt tg iter:Expr} {ifs:List Expr} {scope:Scope} {pos pos':Pos} {N':List Str} {n:Nat} {idx:List Nat} {fi:IF} {g:GF} {c:TF} {fe:EF}
structure CompOk (X:Cx) (scope:Scope) (N':List Str) (n:Nat) (idx:List Nat):Prop where
 kind:scope.kind = .function
 cell:∀ y ∈ scope.names,y.2 ≠ .cell
 names:∀ y ∈ scope.names,y.2 = .local → scope.names.lookup y.1 = some .local
 free:∀ y ∈ scope.names,y.2 = .free → X.env.kindOf y.1 = some .cell ∨ X.env.kindOf y.1 = some .free
 len:N'.length = n + idx.length
 idx:∀ (j:Nat) (i:Nat),idx[j]? = some i → ∃ x,N'[n + j]? = some x ∧ X.N[i]? = some x ∧ (x,NameKind.free) ∈ scope.names ∧ ∀ k,(x,k) ∈ scope.names → k = .free
theorem comp_core (hc:X.calm = true) (hi:PIf X tg iter fi) (S:CompOk X scope N' n idx)
  (hbody:∀ cl C s3 H3 fp pins,PGf (compCx X N' scope cl C s3 H3 fp pins) tg g ∧ PQf (compCx X N' scope cl C s3 H3 fp pins) ifs c ∧ PEf (compCx X N' scope cl C s3 H3 fp pins) elt fe)
  (hs:∀ x,foldedSetIterable iter X.env x = pure x)
  {pins:List (Addr × Obj)} {s:Shared} {σ:L2.St} {H:Hp} {use:Option (Value → Sem Unit)} {Q':Value → Shared → Prop} (I:Inv X pins σ H s) {O:List Addr} {ρ:Fm} {L L1 L9:Sto} {items:List D} {ok:Sto → Bool}
  (r:Rep X.K H O σ ρ L) (e1:fi ρ L = some (⟨items,ok⟩,L1)) (e2:compL ok g c fe L1.length items (frC n idx ρ) (L1 ++ [.lst []]) = some L9)
  (fin:∀ (C D:Addr) (s':Shared) (H':Hp) (O':List Addr) (m:Str → Option Value),Inv X pins σ H' s' → s'.heap.Ns C m → H' C = none → C ≠ X.env.locals → X.s₀.heap.objs.size ≤ C → (∀ x c,X.env.cells.lookup x = some c → c ≠ C) → (∀ p ∈ X.pn ++ pins,p.1 ≠ C) →
   Step H O H' O' → RepS X.K H' O' L9 → O'[L1.length]? = some D → compPost (model X.prog X.w) X.A X.xe use Q' (.ref D) C (.ok .next) s') :
  wpAny (model X.prog X.w) X.A (comprehension (.ListComp elt [⟨tg,iter,ifs,0⟩] scope pos) scope X.env pos' (newList []) false (eval iter X.env) use) Q' X.xe s:=by
 obtain ⟨cl,hclos,clget,clsub⟩:=closure_ok (scope:=scope) (env:=X.env) fun y hy hk => I.ok.has _ (S.free y hy hk)
 refine wpAny_comprehension_free rfl hs hclos S.kind S.names ?_
 refine thn (hi pins s σ H (fun Jt H1 => ∃ O1,Step H O H1 O1 ∧ RepS X.K H1 O1 L1 ∧ ItIs X.K H1 O1 Jt ⟨items,ok⟩) I ⟨O,ρ,L,_,_,r,e1,fun Jt H1 O1 st rs it => ⟨O1,st,rs,it⟩⟩) fun v s1 h1 => thn h1 fun itv s2 h2 => ?_
 obtain ⟨it,fp,tn,J,H2,rfl,I2,T,st0,f2,O1,stp,rs1,itis⟩:=h2
 refine wpAny_newObj_type (wpAny_newFunctionEnv S.cell (by intro y hy; simp at hy) (fun h₁ hns₁ hsb₁ => ?_) S.kind)
 dsimp only at hns₁ hsb₁ ⊢
 -- the list
 have I3:Inv X pins σ (upd H2 s2.heap.objs.size (.lst [])) { s2 with heap:=s2.heap.push { cls:=.type "list",dict:=none,data:=.seq ([]:List Value).toArray },toks:=s2.toks } :=
  I2.laid (t':=s2.toks) (fun b o e => Heap.get?_push_of_some _ e) (Nat.le_refl _) ⟨by simp,[],0,.nil,Heap.get?_push_size _ rfl⟩
 have hf2:H2 s2.heap.objs.size = none:=I2.hok.fresh (Nat.le_refl _)
 have rs3:RepS X.K (upd H2 s2.heap.objs.size (.lst [])) (O1 ++ [s2.heap.objs.size]) (L1 ++ [.lst []]):=rs1.new hf2 ⟨[],upd_same,.nil⟩
 have st3:Step H2 O1 (upd H2 s2.heap.objs.size (.lst [])) (O1 ++ [s2.heap.objs.size]):=⟨.new hf2,List.prefix_append _ _⟩
 have fpne:∀ b ∈ fp,b ≠ s2.heap.objs.size:=fun b hb z => by
  obtain ⟨o,e,_⟩:=T.obj 0 _ st0 b hb
  exact absurd (Heap.lt_size e) (by rw [z]; exact Nat.lt_irrefl _)
 have f3:∀ b ∈ fp,FpOk X pins (upd H2 s2.heap.objs.size (.lst [])) b:=fun b hb => ⟨by rw [upd_ne (fpne b hb)]; exact (f2 b hb).1,(f2 b hb).2⟩
 generalize hH2:s2.heap.push { cls:=.type "list",dict:=none,data:=.seq ([]:List Value).toArray } = hp3 at hns₁ hsb₁ I3 ⊢
 have hD0:O1.length = L1.length:=rs1.len
 generalize hDD:s2.heap.objs.size = D at *
 generalize hH3:upd H2 D (.lst []) = H3 at *
 have hDs:(O1 ++ [D])[L1.length]? = some D:=by rw [← hD0]; simp
 have tn3:tn 0 hp3:=T.keep _ _ _ st0 fun b hb o e => by rw [← hH2]; exact Heap.get?_push_of_some _ e
 -- the block's frame
 generalize hC:hp3.objs.size = C at *
 have kept:∀ b o,hp3.get? b = some o → h₁.get? b = some o:=fun b o e => hsb₁.extBut b o (by rw [← hC]; exact Nat.ne_of_lt (Heap.lt_size e)) (Heap.get?_push_of_some _ e)
 have tn4:tn 0 h₁:=T.keep _ _ _ tn3 fun b hb o e => kept b o e
 let s3:Shared:={ s2 with heap:=hp3,toks:=s2.toks }
 have Cfresh:∀ (b:Addr) (o:Obj),hp3.get? b = some o → b ≠ C:=fun b o e => by rw [← hC]; exact Nat.ne_of_lt (Heap.lt_size e)
 have CL:C ≠ X.env.locals:=fun z => by
  have:=I3.lt
  rw [← z,← hC] at this
  exact Nat.lt_irrefl _ this
 have Ccell:∀ x c,X.env.cells.lookup x = some c → c ≠ C:=fun x c e => by
  obtain ⟨v,o,ho,_⟩:=I3.cell x c e
  exact Cfresh c o ho
 have Cpin:∀ p ∈ X.pn ++ pins,p.1 ≠ C:=fun p hp => Cfresh _ _ (I3.pin p hp).1
 have C0:X.s₀.heap.objs.size ≤ C:=by rw [← hC]; exact I3.sz
 have frsub:∀ b ∈ frs X.stack,b = X.env.locals ∨ b ∈ X.fs:=fun b hb => List.mem_cons.mp (I3.stkSub b hb)
 have kindC:∀ x k,(relabel scope X.env).names.lookup x = some k → (k = .cell ∨ k = .free) → (x,NameKind.free) ∈ scope.names:=fun x k e hk => by
  obtain ⟨k',a,b⟩:=relabel_mem e
  rcases b with rfl | ⟨_,rfl⟩
  ·rcases hk with rfl | rfl
   ·exact absurd rfl (S.cell _ a)
   ·exact a
  ·exact a
 have okX:(compCx X N' scope cl C s3 H3 fp pins).Ok:=by
  refine ⟨I3.ok.mod,S.kind,I3.ok.glob,I3.ok.blt,Nat.le_of_eq hC,fun x y d h1 h2 => I3.ok.inj x y d (clsub x d h1) (clsub y d h2),fun x hx => ?_,fun x d h1 => (nomatch h1),I3.ok.hd,I3.ok.frames,.inl rfl,
   fun b hb => ⟨fun z => ?_,fun x d e => (f3 b hb).2.2.2.2.1 x d (clsub x d e)⟩,I3.bs,Nat.le_trans I3.ok.bsz I3.sz,fun b o e hb => ?_,fun b hb hz => ?_,I3.stack,I3.stkFree⟩
  ·have hx':(relabel scope X.env).names.lookup x = some .cell ∨ (relabel scope X.env).names.lookup x = some .free:=hx
   have hm:(x,NameKind.free) ∈ scope.names:=by
    rcases hx' with h | h
    ·exact kindC x _ h (.inl rfl)
    ·exact kindC x _ h (.inr rfl)
   obtain ⟨d,hd⟩:=I3.ok.has x (S.free _ hm rfl)
   exact ⟨d,(clget x hm).trans hd⟩
  ·obtain ⟨o,e,_⟩:=T.obj 0 _ tn3 b hb
   exact Cfresh b o e z
  ·rcases (f3 b hb).2.2.2.1 with z | z
   ·exact I3.ok.noex b o e z
   ·have h1:=Nat.lt_of_lt_of_le (Heap.lt_size e) I3.ok.bsz
    exact absurd (Nat.lt_of_lt_of_le h1 z) (Nat.lt_irrefl _)
  ·rcases frsub b hz with z | z
   ·exact (f3 b hb).2.1 z
   ·exact (f3 b hb).2.2.1 z
 -- its state
 have I4:Inv (compCx X N' scope cl C s3 H3 fp pins) [] (List.replicate n none ++ idx.map fun j => (σ[j]?).join) H3 { s3 with heap:=h₁,toks:=s2.toks + ([]:List (Str × Value)).length }:=by
  refine ⟨okX,rfl,I3.bare,Un.kept kept,⟨_,hns₁,fun i x v h1 h2 h3 => ?_⟩,fun x d e => ?_,?_,fun x d e => I3.freeC x d (clsub x d e),fun p hp => ?_,I3.hok.kept kept,?_⟩
  ·by_cases hin:i < n
   ·rw [List.getElem?_append_left (by simpa using hin)] at h2
    rw [List.getElem?_replicate,if_pos hin] at h2
    cases h2
   ·rw [List.getElem?_append_right (by simpa using hin)] at h2
    simp only [List.length_replicate] at h2
    rw [List.getElem?_map] at h2
    cases e:idx[i - n]? with
    | none => rw [e] at h2; cases h2
    | some j =>
     rw [e] at h2
     have h2':(σ[j]?).join = some v:=Option.some.inj h2
     have hσ:σ[j]? = some (some v):=by
      cases q:σ[j]? with
      | none => rw [q] at h2'; cases h2'
      | some o => rw [q] at h2'; cases o with
       | none => cases h2'
       | some w => cases h2'; rfl
     obtain ⟨y,a1,a2,a3,a4⟩:=S.idx _ _ e
     have hxy:y = x:=by
      have:N'[n + (i - n)]? = some x:=by rw [show n + (i - n) = i from by omega]; exact h1
      rw [a1] at this; exact Option.some.inj this
     subst hxy
     have hk:=S.free _ a3 rfl
     obtain ⟨m,hm,hl⟩:=I3.loc
     have hvis:Vis X.env.scope y:=by
      rcases hk with z | z
      ·exact .inr (.inl z)
      ·exact .inr (.inr z)
     obtain ⟨u,ru,lk⟩:=hl j y v a2 hσ hvis
     refine ⟨u,ru,.inr ⟨?_,?_⟩⟩
     ·rcases h3 with z | z | z
      ·obtain ⟨k',b1,b2⟩:=relabel_mem (show (relabel scope X.env).names.lookup y = some .local from z)
       rcases b2 with b2 | ⟨b2,_⟩
       ·have:=a4 _ b1
        rw [← b2] at this; cases this
       ·cases b2
      ·exact .inl z
      ·exact .inr z
     ·rcases lk with ⟨z,_⟩ | ⟨_,d,hd,⟨o,ho,hdt⟩⟩
      ·rcases hk with q | q <;> rw [q] at z <;> cases z
      ·exact ⟨d,(clget y a3).trans hd,o,kept d o ho,hdt⟩
  ·obtain ⟨v,o,ho,hdt⟩:=I3.cell x d (clsub x d e)
   exact ⟨v,o,kept d o ho,hdt⟩
  ·exact I3.hok.fresh (Nat.le_of_eq hC)
  ·have hp':p ∈ X.pn ++ pins:=by simpa [compCx] using hp
   obtain ⟨q1,q2,q3,q4,q5⟩:=I3.pin p hp'
   refine ⟨kept _ _ q1,q2,Cpin p hp',fun z => ?_,q5⟩
   rcases frsub _ z with y | y
   ·exact q3 y
   ·exact q4 y
  ·show _ = N'.length
   rw [S.len]; simp
 have fp4:∀ {H':Hp} {pl:List (Addr × Obj)},pl = [] → (∀ b ∈ fp,H' b = none) → ∀ b ∈ fp,FpOk (compCx X N' scope cl C s3 H3 fp pins) pl H' b:=fun {H' pl} hpl hn b hb => by
  subst hpl
  refine ⟨hn b hb,fun z => (okX.exf b hb).1 z,okX.exfs b hb,.inl hb,fun x d e => (okX.exf b hb).2 x d e,fun p hp => ?_⟩
  have hp':p ∈ X.pn ++ pins:=by simpa [compCx] using hp
  exact (f3 b hb).2.2.2.2.2 p hp'
 obtain ⟨bg,bq,be⟩:=hbody cl C s3 H3 fp pins
 have fr4:FmIs X.K H3 (O1 ++ [D]) (List.replicate n none ++ idx.map fun j => (σ[j]?).join) (frC n idx ρ):=by
  have fσ:=(r.f.mono stp).mono st3
  refine ⟨by simp [frC],fun i d hd => ?_⟩
  unfold frC at hd
  by_cases hin:i < n
  ·rw [List.getElem?_append_left (by simpa using hin),List.getElem?_replicate,if_pos hin] at hd
   cases hd
  ·rw [List.getElem?_append_right (by simpa using hin)] at hd ⊢
   simp only [List.length_replicate] at hd ⊢
   rw [List.getElem?_map] at hd ⊢
   cases e:idx[i - n]? with
   | none => rw [e] at hd; cases hd
   | some j =>
    rw [e] at hd
    have hd':(ρ[j]?).join = some d:=Option.some.inj hd
    have hρ:ρ[j]? = some (some d):=by
     cases q:ρ[j]? with
     | none => rw [q] at hd'; cases hd'
     | some o => rw [q] at hd'; cases o with
      | none => cases hd'
      | some w => cases hd'; rfl
    obtain ⟨v,hv,iv⟩:=fσ.at' j d hρ
    exact ⟨v,by simp [hv],iv⟩
 have loop:∀ s₃:Shared,s₃ = { s3 with heap:=h₁,toks:=s2.toks + ([]:List (Str × Value)).length } →
   codeAny (model X.prog X.w) X.A (.compLoop (.ListComp elt [⟨tg,iter,ifs,0⟩] scope pos) 0 (.ref it) (.ref D) (compEnvC scope cl C X.env))
    (compPost (model X.prog X.w) X.A X.xe use Q' (.ref D) C) s₃:=by
  rintro s₃ rfl
  refine comp_loop (fun m s' => ∃ i σ' H' O' ρ' L',m = items.length - i ∧ i ≤ items.length ∧ Inv (compCx X N' scope cl C s3 H3 fp pins) [] σ' H' s' ∧ tn i s'.heap ∧ (∀ b ∈ fp,H' b = none) ∧
   Step H3 (O1 ++ [D]) H' O' ∧ Rep X.K H' O' σ' ρ' L' ∧ compL ok g c fe L1.length (items.drop i) ρ' L' = some L9) ?_ items.length
   ⟨0,_,H3,O1 ++ [D],frC n idx ρ,L1 ++ [.lst []],rfl,Nat.zero_le _,I4,tn4,fun b hb => (f3 b hb).1,.refl _ _,⟨rs3,fr4⟩,by rw [List.drop_zero]; exact e2⟩
  rintro m s' ⟨i,σ',H',O',ρ',L',rfl,hi',I',tn',fr',st',r',el⟩
  by_cases hlt:i < items.length
  ·have ed:items.drop i = items[i] :: items.drop (i + 1):=List.drop_eq_getElem_cons hlt
   rw [ed] at el
   simp only [compL] at el
   split at el
   ·rename_i hok
    obtain ⟨q1,_⟩:=itis i H' O' L' (st3.trans st') r'.s hok
    obtain ⟨go,yl⟩:=q1 items[i] (by simp [hlt])
    refine thn (T.item (compCx X N' scope cl C s3 H3 fp pins) rfl rfl rfl hc i [] s' σ' H' (fun _ _ => False) I' (fp4 rfl fr') tn' go) fun rr s4 ⟨u,hr,h4⟩ => ?_
    subst hr
    refine thn h4 fun _ s5 ⟨x,H5,I5,r5,y5,st5,fr5⟩ => ?_
    obtain ⟨stp5,rs5,is5⟩:=yl x H5 y5
    have I5':=I5.pinned (fp4 rfl fr5) (T.obj _ _ st5)
    have back:∀ {s7:Shared} {σ7:L2.St} {H7:Hp},Inv (compCx X N' scope cl C s3 H3 fp pins) ([] ++ pinsAt fp s5.heap) σ7 H7 s7 → tn (i + 1) s7.heap ∧ (∀ b ∈ fp,H7 b = none):=fun {s7 σ7 H7} I7 => by
     refine ⟨T.keep _ _ _ st5 fun b hb o e => (I7.pin (b,o) (List.mem_append_right _ (List.mem_append_right _ (mem_pinsAt hb e)))).1,fun b hb => ?_⟩
     obtain ⟨o,e,d⟩:=T.obj _ _ st5 b hb
     exact (I7.pin (b,o) (List.mem_append_right _ (List.mem_append_right _ (mem_pinsAt hb e)))).2.1
    cases eg:g items[i] ρ' with
    | none => rw [eg] at el; cases el
    | some ρ1 =>
     rw [eg] at el
     simp only [Option.bind_some] at el
     refine thn (bg _ s5 σ' H5 x u (fun σ2 Ha => Ha = H5 ∧ Rep X.K H5 O' σ2 ρ1 L') I5' r5 ⟨O',ρ',L',_,ρ1,r'.to stp5 rs5,is5,eg,fun σ2 r2 => ⟨rfl,r2⟩⟩) fun _ s6 ⟨σ6,H6,I6,q6a,q6⟩ => ?_
     subst q6a
     cases ec:c ρ1 L' with
     | none => rw [ec] at el; cases el
     | some pc =>
      rw [ec] at el
      obtain ⟨b1,L5⟩:=pc
      simp only [Option.bind_some] at el
      refine thn (bq _ s6 σ6 H6 (fun b Hb => b = b1 ∧ ∃ Ob,Step H6 O' Hb Ob ∧ RepS X.K Hb Ob L5) I6 ⟨O',ρ1,L',b1,L5,q6,ec,fun Hb Ob st rs => ⟨rfl,Ob,st,rs⟩⟩) fun okb s7 ⟨H7,I7,hb7,O7,st7,rs7⟩ => ?_
      subst hb7
      cases okb with
      | false =>
       rw [if_neg (by simp)] at el
       rw [if_neg (by simp)]
       obtain ⟨b1,b2⟩:=back I7
       exact ⟨items.length - (i + 1),by omega,i + 1,σ6,H7,O7,ρ1,L5,rfl,hlt,I7.unpinned,b1,b2,(st'.trans stp5).trans st7,q6.to st7 rs7,el⟩
      | true =>
       rw [if_pos rfl] at el
       rw [if_pos rfl]
       cases ee:fe ρ1 L5 with
       | none => rw [ee] at el; cases el
       | some pe =>
        rw [ee] at el
        obtain ⟨de,L6⟩:=pe
        simp only [Option.bind_some] at el
        refine thn (be _ s7 σ6 H7 (fun v Hb => ∃ Ob,Step H7 O7 Hb Ob ∧ RepS X.K Hb Ob L6 ∧ Is X.K Hb Ob v de) I7 ⟨O7,ρ1,L5,de,L6,q6.to st7 rs7,ee,fun v Hb Ob st rs is => ⟨Ob,st,rs,is⟩⟩) fun ue s8 ⟨ve,H8,I8,r8,O8,st8,rs8,is8⟩ => ?_
        cases ek:L6[L1.length]? with
        | none => rw [ek] at el; cases el
        | some oo =>
         rw [ek] at el
         cases oo with
         | dk _ => cases el
         | ins _ _ => cases el
         | dt _ _ => cases el
         | exn _ => cases el
         | lst ys =>
          simp only at el
          split at el
          ·rename_i hys
           have stA:Step H3 (O1 ++ [D]) H8 O8:=((st'.trans stp5).trans st7).trans st8
           have hD8:O8[L1.length]? = some D:=pref_get stA.2 hDs
           obtain ⟨vs,hv,il⟩:=rs8.ob _ _ _ hD8 ek
           refine thn (mt_append (X:=compCx X N' scope cl C s3 H3 fp pins) _ s8 σ6 H8 (.ref D) [ve] (.ref D) [ue] (fun v Hb => Hb = upd H8 D (.lst (vs ++ [ve]))) I8 rfl (.cons r8 .nil) ⟨D,vs,ve,rfl,rfl,hv,by rw [il.length,sizeLine_eq]; exact hys,rfl⟩)
            fun _ s9 ⟨_,H9,I9,_,q9⟩ => ?_
           subst q9
           have stw:Step H8 O8 (upd H8 D (.lst (vs ++ [ve]))) O8:=⟨.write hv id,List.prefix_refl _⟩
           obtain ⟨b1,b2⟩:=back I9
           refine ⟨items.length - (i + 1),by omega,i + 1,σ6,_,O8,ρ1,_,rfl,hlt,I9.unpinned,b1,b2,stA.trans stw,⟨rs8.write (o':=.lst (ys ++ [de])) hD8 ⟨_,upd_same,(il.mono stw).append (.cons (is8.mono stw) .nil)⟩,((q6.f.mono st7).mono st8).mono stw⟩,el⟩
          ·cases el
   ·cases el
  ·have hi2:i = items.length:=by omega
   subst hi2
   rw [List.drop_length] at el
   simp only [compL] at el
   split at el
   ·rename_i hok
    cases el
    obtain ⟨_,q2⟩:=itis _ H' O' _ (st3.trans st') r'.s hok
    refine thn (T.done (compCx X N' scope cl C s3 H3 fp pins) rfl rfl rfl hc _ [] s' σ' H' (fun _ _ => False) I' (fp4 rfl fr') tn' (q2 (Nat.le_refl _))) fun rr s4 ⟨hr,I4'⟩ => ?_
    subst hr
    obtain ⟨m,hm,_⟩:=I4'.loc
    have hos:s4.os = s3.os:=I4'.os
    have J:Inv X pins σ H' s4:=I3.call' (s':=s4) (ch:=fp) hos I4'.base I4'.hok I4'.bare fun b hb => ⟨(f3 b hb).2.2.2.1,(f3 b hb).2.1,(f3 b hb).2.2.2.2.1,(f3 b hb).2.2.2.2.2⟩
    exact fin C D s4 H' O' m J hm I4'.free CL C0 Ccell Cpin ((stp.trans st3).trans st') r'.s (pref_get st'.2 hDs)
   ·cases el
 exact codeAny_compStart_list (loop _ rfl) (T.self X.A 0 _ _ _ tn4 (loop _ rfl))
theorem ef_comp (hc:X.calm = true) (hi:PIf X tg iter fi) (S:CompOk X scope N' n idx)
  (hbody:∀ cl C s3 H3 fp pins,PGf (compCx X N' scope cl C s3 H3 fp pins) tg g ∧ PQf (compCx X N' scope cl C s3 H3 fp pins) ifs c ∧ PEf (compCx X N' scope cl C s3 H3 fp pins) elt fe)
  (hs:∀ x,foldedSetIterable iter X.env x = pure x:=by intro _; rfl):PEf X (.ListComp elt [⟨tg,iter,ifs,0⟩] scope pos) (compF fi n idx g c fe):=by
 intro pins s σ H Q I ⟨O,ρ,L,d,L',r,e,k⟩
 unfold compF at e
 cases e1:fi ρ L with
 | none => rw [e1] at e; cases e
 | some p =>
  rw [e1] at e
  obtain ⟨⟨items,ok⟩,L1⟩:=p
  simp only [Option.bind_some] at e
  cases e2:compL ok g c fe L1.length items (frC n idx ρ) (L1 ++ [.lst []]) with
  | none => rw [e2] at e; cases e
  | some L9 =>
   rw [e2] at e
   cases e
   rw [eval_ListComp]
   refine comp_core hc hi S hbody hs I r e1 e2 fun C D s' H' O' m J hn hfree hL h0 hcell hpin st rs hD => ?_
   refine ⟨m,hn,fun h' sb => ?_⟩
   exact ⟨.ref D,H',J.turned (t':=s'.toks) (fun b o hb e => (sb.2 b hb).trans e) hfree hL (.inr h0) hcell hpin,rfl,k _ _ _ st rs (.ref hD)⟩
theorem sf_setComp {i:Nat} {x:Str} {px:Pos} (hN:X.N.Nodup) (hc:X.calm = true) (hi:PIf X tg iter fi) (S:CompOk X scope N' n idx)
  (hbody:∀ cl C s3 H3 fp pins,PGf (compCx X N' scope cl C s3 H3 fp pins) tg g ∧ PQf (compCx X N' scope cl C s3 H3 fp pins) ifs c ∧ PEf (compCx X N' scope cl C s3 H3 fp pins) elt fe)
  (hi2:X.N[i]? = some x:=by rfl) (hx:Loc X.env.scope x:=by first | exact Or.inl rfl | exact Or.inr rfl)
  (hsw:swapsWith (.ListComp elt [⟨tg,iter,ifs,0⟩] scope pos) (some (.Name x px)) pos'.line X.env = pure true:=by rfl)
  (hf:X.fn x = true ∨ X.env.scope.names.lookup x = some .local:=by first | exact .inl rfl | exact .inr rfl)
  (hs:∀ x,foldedSetIterable iter X.env x = pure x:=by intro _; rfl):PSf X (.Assign [.Name x px] (.ListComp elt [⟨tg,iter,ifs,0⟩] scope pos) pos') (setF i (compF fi n idx g c fe)):=by
 intro pins s σ H E I ⟨O,ρ,L,out,r,e,k⟩
 unfold setF compF at e
 cases e1:fi ρ L with
 | none => rw [e1] at e; cases e
 | some p =>
  rw [e1] at e
  obtain ⟨⟨items,ok⟩,L1⟩:=p
  simp only [Option.bind_some] at e
  cases e2:compL ok g c fe L1.length items (frC n idx ρ) (L1 ++ [.lst []]) with
  | none => rw [e2] at e; cases e
  | some L9 =>
   rw [e2] at e
   cases e
   rw [exec_Assign_Name_used _ _ _ _ hsw]
   refine wpAny_bind (wpAny_standAt (wpAny_bind ?_))
   show wpAny _ X.A (do let _ ← comprehension (.ListComp elt [⟨tg,iter,ifs,0⟩] scope pos) scope X.env _ (newList []) false (eval iter X.env) (some (assign (.Name x px) X.env))) _ _ s
   refine wpAny_bind (wpAny_mono (comp_core (use:=some (assign (.Name x px) X.env)) (Q':=fun _ s' => SP X pins E .next s') hc hi S hbody hs I r e1 e2
    fun C D s' H' O' m J hn hfree hL h0 hcell hpin st rs hD => ?_) (fun _ s' hq => wpAny_pure (wpAny_pure hq)) fun _ _ e => e)
   show wpAny _ X.A (assign (.Name x px) X.env (.ref D)) _ _ _
   refine wpAny_assign_Name (store_ok2 (v:=.ref D) J hN hi2 hx rfl (fun s2 J2 ⟨a,sb,ha⟩ => ?_) hf)
   have aC:C ≠ a:=by
    rcases ha with z | z
    ·rw [z]; exact hL
    ·exact (hcell x a z).symm
   refine ⟨m,hn.sameBut sb aC,fun h' sb' => ?_⟩
   exact ⟨_,H',J2.turned (t':=s2.toks) (fun b o hb e => (sb'.2 b hb).trans e) hfree hL (.inr h0) hcell hpin,k _ _ _ st ⟨rs,(r.f.mono st).set (.ref hD) i⟩⟩
end
section
variable {X:Cx} {pins:List (Addr × Obj)} {σ:L2.St} {H:Hp} {s:Shared} {h':Heap}
theorem turnNew {t':Nat} {fp:List Addr} {T:Addr} {o:HO} (I:Inv X pins σ H s) (hf:∀ b ∈ fp,FpOk X pins H b) (k:∀ b o,b ∉ fp → s.heap.get? b = some o → h'.get? b = some o) (hT:s.heap.objs.size ≤ T) (nT:T ∉ fp)
  (there:∀ b ∈ fp,∃ o,h'.get? b = some o) (new:ObjOk X.prog X.w (upd H T o) h' T o):Inv X pins σ (upd H T o) { s with heap:=h',toks:=t' }:=by
 have fT:H T = none:=I.hok.fresh hT
 have nit:∀ b u,H b = some u → b ∉ fp:=fun b u e z => by rw [(hf b z).1] at e; cases e
 have old:∀ b o,s.heap.get? b = some o → b ≠ T:=fun b o e => Nat.ne_of_lt (Nat.lt_of_lt_of_le (Heap.lt_size e) hT)
 refine I.step (g':=s.gens) (d':=s.drawn) (ch:=fp) (fun b hb => ⟨(hf b hb).2.2.2.1,(hf b hb).2.1,(hf b hb).2.2.2.2.1,(hf b hb).2.2.2.2.2⟩) (fun b o _ _ hc e _ => k b o hc e) (fun b o _ _ hc e _ => ⟨o.slots,k b o hc e⟩)
  (fun b o _ e n => by rw [upd_ne (old b o e)]; exact n) (fun b o hc e => ⟨o,k b o hc e⟩) (fun b xs e => by rw [upd_ne (ne_of_none e fT)]; exact e) (fun b o u e => by rw [upd_ne (ne_of_none e fT)]; exact e)
  (fun b ps e => ⟨#[],by rw [upd_ne (ne_of_none e fT),e]; simp⟩) (fun m hm => ?_) (fun b u e => ?_) I.bare
 ·obtain ⟨o,es,ep,ho,r⟩:=hm
  exact ⟨o,es,ep,k _ o (fun z => (hf _ z).2.1 rfl) ho,r⟩
 ·by_cases hb:b = T
  ·subst hb; rw [upd_same] at e; cases e; exact new
  ·rw [upd_ne hb] at e
   refine (I.hok b u e).stay (fun c v hc q => k c v ?_ q) (fun c q => by rw [upd_ne (ne_of_none q fT)]; exact q) fun c xs q => by rw [upd_ne (ne_of_none q fT)]; exact q
   rcases hc with z | z
   ·rw [z]; exact nit b u e
   ·exact nit c _ z
end
noncomputable def Its (x:Str):It:=⟨fun i _ => i < x.cps.size,fun i H v H' => H' = H ∧ ∃ c,x.cps[i]? = some c ∧ v = .str ⟨#[c]⟩,fun i _ => x.cps.size ≤ i⟩
theorem turn_str {P:Program} {w:World} {K:PySem.W.Frag} {tg:Expr} (x:Str) (t:Tok) (it:Addr) (ty:String) (hty:["enumerate","zip","dict_itemiterator","dict_reverseitemiterator","odict_iterator","itertools.zip_longest","itertools.pairwise"].contains ty = false)
  (W:∀ A':Around,A'.handled = none → Walks P w A' it [it] [it] x.cps.size (SignAt x) (fun i h => h.IsStrIter it ty x t i))
  (hself:∀ (A:Around) (i:Nat) (s:Shared) (Q:Value → Shared → Prop) (E:Value → Shared → Prop),s.heap.IsStrIter it ty x t i → Q (.ref it) s → wpAny (model P w) A (pyIter (.ref it)) Q E s) :
  Turn P w K tg (Its x) [it] it (fun i h => h.IsStrIter it ty x t i ∧ i ≤ x.cps.size) where
 mem:=by simp
 obj:=fun i h st b hb => by
  have e:b = it:=by simpa using hb
  subst e
  obtain ⟨⟨o,e,c,d⟩,_⟩:=st
  exact ⟨o,e,fun v z => by rw [d] at z; cases z⟩
 keep:=fun i h h' st k => ⟨let ⟨o,ho,r⟩:=st.1; ⟨o,k it (by simp) o ho,r⟩,st.2⟩
 item:=by
  intro X hP hw hK hc i pins s σ H E I hf st hg
  subst hP hw hK
  obtain ⟨f0,f1,f2,f3,f4,f5⟩:=hf it (by simp)
  refine (W X.A (I.ok.hd hc)).item i s _ _ hg st.1 fun v h' tk hv st' kk => ?_
  obtain ⟨c,u,hc',rfl⟩:=hv
  have I1:Inv X pins σ H { s with heap:=h',toks:=tk }:=I.turned (fun b o hb e => kk b o (by simpa using hb) e) f0 f1 f3 f4 f5
  obtain ⟨o,e,cc,d⟩:=id st'
  exact ⟨_,rfl,go_of (s:={ s with heap:=h',toks:=tk }) e cc d hty ⟨.str ⟨#[c]⟩,H,I1,⟨u,rfl⟩,⟨rfl,c,hc',rfl⟩,⟨st',hg⟩,fun b hb => (hf b hb).1⟩⟩
 done:=by
  intro X hP hw hK hc i pins s σ H E I hf st hg
  subst hP hw hK
  obtain ⟨f0,f1,f2,f3,f4,f5⟩:=hf it (by simp)
  have hi:i = x.cps.size:=Nat.le_antisymm st.2 hg
  have st1:=st.1
  rw [hi] at st1
  exact (W X.A (I.ok.hd hc)).done s _ _ st1 fun h' tk kk => ⟨rfl,I.turned (fun b o hb e => kk b o (by simpa using hb) e) f0 f1 f3 f4 f5⟩
 self:=fun A i s Q E st h => hself A i s Q E st.1 h
section
variable {X:Cx} {tg l:Expr} {f:EF}
noncomputable def iStr (tl:TE):TI:=fun σ H R => tl σ H fun v H1 => ∃ x,v = .str x ∧ R (Its x) H1
theorem pi_str {tl:TE} (hl:PE X l tl):PI X tg l (iStr tl):=by
 intro pins s σ H R I h
 refine thn (hl pins s σ H _ I h) fun v s1 ⟨y,H1,I1,r1,x,e,q⟩ => ?_
 subst e
 obtain ⟨t,rfl⟩:=r1
 have hb:∀ (o:Obj) (b:Addr),b ∈ [s1.heap.objs.size] → FpOk X pins H1 b:=fun o b hb => by
  have e:b = s1.heap.objs.size:=by simpa using hb
  subst e
  exact I1.fpOk (Nat.le_refl _) (I1.hok.fresh (Nat.le_refl _))
 cases ha:x.cps.all (· < 128)
 ·refine wpAny_pyIter_wide ha ⟨s1.heap.objs.size,[s1.heap.objs.size],_,_,H1,rfl,I1.kept (t':=s1.toks) fun b o e => Heap.get?_push_of_some _ e,turn_str x t _ "str_iterator" (by decide) (fun A' hA => Walks.strWide hA _ x t) (fun _ _ _ _ _ st h => wpAny_pyIter_striter_wide st h),
   ⟨⟨_,Heap.get?_push_size _ rfl,rfl,rfl⟩,Nat.zero_le _⟩,hb default,q⟩
 ·refine wpAny_pyIter_ascii ha ⟨s1.heap.objs.size,[s1.heap.objs.size],_,_,H1,rfl,I1.kept (t':=s1.toks) fun b o e => Heap.get?_push_of_some _ e,turn_str x t _ "str_ascii_iterator" (by decide) (fun A' hA => Walks.strAscii hA _ x t) (fun _ _ _ _ _ st h => wpAny_pyIter_striter_ascii st h),
   ⟨⟨_,Heap.get?_push_size _ rfl,rfl,rfl⟩,Nat.zero_le _⟩,hb default,q⟩
noncomputable def sgs (x:Str):List D:=x.cps.toList.map fun c => .str ⟨#[c]⟩
noncomputable def iStrF (f:EF):IF:=fun ρ L => (f ρ L).bind fun x => match x.1 with | .str y => some (⟨sgs y,fun _ => true⟩,x.2) | _ => none
theorem pif_str (hl:PEf X l f):PIf X tg l (iStrF f):=PI.weaken (pi_str hl) fun σ H R z3_ => by
 obtain ⟨O,ρ,L,J,L',r,e,k⟩:=z3_
 unfold iStrF at e
 cases e1:f ρ L with
 | none => rw [e1] at e; cases e
 | some p =>
  rw [e1] at e
  obtain ⟨d,L1⟩:=p
  cases d <;> simp only [Option.bind_some] at e <;> try (cases e; done)
  rename_i y
  cases e
  refine ⟨O,ρ,L,_,_,r,e1,fun v H1 O1 st rs is => ?_⟩
  cases is
  refine ⟨y,rfl,k _ _ _ st rs fun i H2 O2 L2 st2 rs2 _ => ⟨fun d hd => ?_,fun h => by show y.cps.size ≤ i; simpa [sgs] using h⟩⟩
  simp only [sgs,List.getElem?_map] at hd
  cases ec:y.cps[i]? with
  | none => simp [ec] at hd
  | some c =>
   simp [ec] at hd
   subst hd
   refine ⟨(Array.getElem?_eq_some_iff.mp ec).1,fun x H' y' => ?_⟩
   obtain ⟨e,c',h1,rfl⟩:=y'
   subst e
   rw [ec] at h1; cases h1
   exact ⟨.refl _ _,rs2,.str _ (by simp [Str.length])⟩
end
noncomputable def Ite (x:Str):It:=⟨fun i _ => i < x.cps.size,fun i H v H' => ∃ T c,H T = none ∧ x.cps[i]? = some c ∧ v = .ref T ∧ H' = upd H T (.tup [.int (i:Int),.str ⟨#[c]⟩]),fun i _ => x.cps.size ≤ i⟩
theorem draws_str {P:Program} {w:World} {A:Around} (hh:A.handled = none) (it:Addr) (x:Str) (t:Tok) :
  Draws P w A it [it] x.cps.size (fun i v => ∃ c u,x.cps[i]? = some c ∧ v = .str ⟨#[c]⟩ u) (fun i h => h.IsStrIter it (strIterType x) x t i):=by
 unfold strIterType
 cases ha:x.cps.all (· < 128)
 ·exact Draws.strWide hh it x t
 ·exact Draws.strAscii hh it x t
theorem turn_enum {P:Program} {w:World} {K:PySem.W.Frag} {elts:List Expr} {x1:Nat} {tp:Pos} (x:Str) (t:Tok) (e it:Addr) (hei:e ≠ it) :
  Turn P w K (.Tuple elts x1 tp) (Ite x) [e,it] e (fun i h => (∃ old,IsEnum h e it (i:Int) old) ∧ h.IsStrIter it (strIterType x) x t i ∧ i ≤ x.cps.size) where
 mem:=by simp
 obj:=fun i h st b hb => by
  obtain ⟨⟨old,he⟩,⟨o,e1,c,d⟩,_⟩:=st
  rcases List.mem_cons.mp hb with rfl | hb
  ·exact ⟨_,he,fun v z => by cases z⟩
  ·have e':b = it:=by simpa using hb
   subst e'
   exact ⟨o,e1,fun v z => by rw [d] at z; cases z⟩
 keep:=fun i h h' st k => by
  obtain ⟨⟨old,he⟩,⟨o,e1,r⟩,hi⟩:=st
  exact ⟨⟨old,k e (by simp) _ he⟩,⟨o,k it (by simp) o e1,r⟩,hi⟩
 item:=by
  intro X hP hw hK hc i pins s σ H E I hf st hg
  subst hP hw hK
  obtain ⟨⟨old,he⟩,hs,hi⟩:=st
  have hh:X.A.in1.handled = none:=I.ok.hd hc
  refine wpAny_pyNext_enum_itemD (draws_str hh it x t) he hs hg hei (by simpa using hei) fun v h' tk hv heo hs' ht hz kk => ⟨_,rfl,?_⟩
  obtain ⟨c,u,hc',rfl⟩:=hv
  refine wpAny_letOwnedTupleGo_enum heo fun h2 he2 sb2 => ?_
  have hel:e < s.heap.objs.size:=Heap.lt_size he
  have hil:it < s.heap.objs.size:=by obtain ⟨o,e1,_⟩:=hs; exact Heap.lt_size e1
  have hs2:h2.IsStrIter it (strIterType x) x t (i + 1):=by
   obtain ⟨o,e1,r⟩:=hs'
   exact ⟨o,(sb2.2 it (Ne.symm hei)).trans e1,r⟩
  have ht2:h2.get? s.heap.objs.size = some { cls:=.type "tuple",data:=.seq #[.int i tk,.str ⟨#[c]⟩ u] }:=(sb2.2 _ (Nat.ne_of_gt hel)).trans ht
  have new:ObjOk X.prog X.w (upd H s.heap.objs.size (.tup [.int (i:Int),.str ⟨#[c]⟩])) h2 s.heap.objs.size (.tup [.int (i:Int),.str ⟨#[c]⟩]) :=
   ⟨by rw [sizeLine_eq]; show 2 ≤ 16777216; decide,[.int i tk,.str ⟨#[c]⟩ u],.cons ⟨_,rfl⟩ (.cons ⟨_,rfl⟩ .nil),⟨_,ht2,rfl,_,rfl⟩⟩
  have I1:=turnNew (t':=tk + 1) (h':=h2) I hf (fun b o hb q => by
    have hbe:b ≠ e:=fun z => hb (by simp [z])
    have hbi:b ≠ it:=fun z => hb (by simp [z])
    exact (sb2.2 b hbe).trans (kk b o hbe hbi q)) (Nat.le_refl _) (fun z => by
    rcases List.mem_cons.mp z with z | z
    ·exact absurd z (Nat.ne_of_gt hel)
    ·exact absurd (List.mem_singleton.mp z) (Nat.ne_of_gt hil)) (fun b hb => by
    rcases List.mem_cons.mp hb with rfl | hb
    ·exact ⟨_,he2⟩
    ·have e':b = it:=by simpa using hb
     subst e'
     obtain ⟨o,e1,_⟩:=hs2
     exact ⟨o,e1⟩) new
  refine ⟨.ref s.heap.objs.size,_,I1,rfl,⟨s.heap.objs.size,c,I.hok.fresh (Nat.le_refl _),hc',rfl,rfl⟩,⟨⟨.str ⟨#[c]⟩ u,?_⟩,hs2,hg⟩,fun b hb => ?_⟩
  ·have:((i + 1:Nat):Int) = (i:Int) + 1:=by omega
   rw [this]
   exact he2
  ·rw [upd_ne]
   ·exact (hf b hb).1
   ·rcases List.mem_cons.mp hb with z | z
    ·rw [z]; exact Nat.ne_of_lt hel
    ·rw [List.mem_singleton.mp z]; exact Nat.ne_of_lt hil
 done:=by
  intro X hP hw hK hc i pins s σ H E I hf st hg
  subst hP hw hK
  obtain ⟨⟨old,he⟩,hs,hi⟩:=st
  have hh:X.A.in1.handled = none:=I.ok.hd hc
  obtain ⟨f0,f1,f2,f3,f4,f5⟩:=hf it (by simp)
  have hi:i = x.cps.size:=Nat.le_antisymm hi hg
  rw [hi] at hs
  exact wpAny_pyNext_enum_endD (draws_str hh it x t) he hs fun h' eb => ⟨rfl,I.turned (t':=s.toks) (fun b o hb q => eb b o hb q) f0 f1 f3 f4 f5⟩
 self:=fun A i s Q E st h => by
  obtain ⟨⟨old,he⟩,_⟩:=st
  exact wpAny_pyIter_enum he h
noncomputable def enumD (xs:List D):List D:=xs.zipIdx.map fun p => .tup [.int (p.2:Int),p.1]
noncomputable def iEnumF (f:AF):IF:=fun ρ L => (f ρ L).bind fun x => match x.1 with | [.str y] => some (⟨enumD (sgs y),fun _ => true⟩,x.2) | _ => none
theorem enumD_get (y:Str) (i:Nat):(enumD (sgs y))[i]? = (y.cps[i]?).map fun c => .tup [.int (i:Int),.str ⟨#[c]⟩]:=by
 unfold enumD sgs
 rw [List.getElem?_map,List.getElem?_zipIdx,List.getElem?_map,Array.getElem?_toList]
 cases y.cps[i]? <;> simp
theorem enumD_len (y:Str):(enumD (sgs y)).length = y.cps.size:=by simp [enumD,sgs]
section
variable {X:Cx} {elts:List Expr} {x1:Nat} {tp p pos:Pos} {a:Expr} {fa:AF}
theorem pif_enumS (hm:X.mg "enumerate" = none) (ha:PAf X [a] fa) (hg:Gl X "enumerate":=by rfl) (hs:starEach [a] X.env = [(false,eval a X.env)]:=by rfl):PIf X (.Tuple elts x1 tp) (.Call (.Name "enumerate" p) [a] [] pos) (iEnumF fa):=by
 intro pins s σ H R I ⟨O,ρ,L,J,L',r,e,k⟩
 unfold iEnumF at e
 cases e1:fa ρ L with
 | none => rw [e1] at e; cases e
 | some q =>
  rw [e1] at e
  obtain ⟨ds,L1⟩:=q
  simp only [Option.bind_some] at e
  split at e
  ·rename_i y
   simp only [Option.some.injEq,Prod.mk.injEq] at e
   obtain ⟨hJ,hL⟩:=e
   subst hJ
   subst hL
   refine Call_ (ld_blt I hg hm (u:=.type "enumerate") (by decide +kernel) (PyProof.Rows.callWith_type1 (thn (ha pos pins s σ H (fun vs H1 => vs = [.str y] ∧ ∃ O1,Step H O H1 O1 ∧ RepS X.K H1 O1 L1) I ⟨O,ρ,L,_,_,r,e1,fun vs H1 O1 st rs is => ?_⟩) fun us s1 ⟨vs,H1,I1,r1,ev,O1,st,rs⟩ => ?_) hs rfl))
   ·cases is with
    | cons i1 i2 => cases i1; cases i2; exact ⟨rfl,O1,st,rs⟩
   ·subst ev
    obtain ⟨u,rfl,t,rfl⟩:=vals1 r1
    refine call_enumerate_str fun h' he hs' hz kk => ?_
    refine wpAny_pyIter_enum he ?_
    have I2:Inv X pins σ H1 { s1 with heap:=h' }:=I1.kept (t':=s1.toks) kk
    refine ⟨s1.heap.objs.size + 1,[s1.heap.objs.size + 1,s1.heap.objs.size],_,_,H1,rfl,I2,turn_enum y t _ _ (Nat.succ_ne_self _),⟨⟨_,he⟩,hs',Nat.zero_le _⟩,fun b hb => ?_,k (Ite y) H1 O1 st rs fun i H2 O2 L2 st2 rs2 _ => ?_⟩
    ·rcases List.mem_cons.mp hb with rfl | hb
     ·exact I1.fpOk (Nat.le_succ _) (I1.hok.fresh (Nat.le_succ _))
     ·have e':b = s1.heap.objs.size:=by simpa using hb
      subst e'
      exact I1.fpOk (Nat.le_refl _) (I1.hok.fresh (Nat.le_refl _))
    ·refine ⟨fun d hd => ?_,fun h => by rw [enumD_len] at h; exact h⟩
     simp only at hd
     rw [enumD_get] at hd
     cases ec:y.cps[i]? with
     | none => simp [ec] at hd
     | some c =>
      simp [ec] at hd
      subst hd
      refine ⟨(Array.getElem?_eq_some_iff.mp ec).1,fun x H' yy => ?_⟩
      obtain ⟨T,c',hT,h1,rfl,rfl⟩:=yy
      rw [ec] at h1; cases h1
      have st3:Step H2 O2 (upd H2 T (.tup [.int (i:Int),.str ⟨#[c]⟩])) O2:=⟨.new hT,List.prefix_refl _⟩
      exact ⟨st3,rs2.ext fun a u e => by rw [upd_ne (ne_of_none e hT)]; exact e,.tup (SqT.of upd_same) (.cons (.int _) (.cons (.str _ (by simp [Str.length])) .nil))⟩
  ·cases e
end
mutual
noncomputable def D.noRef:D → Bool
 | .tup xs => D.noRefL xs
 | .fz xs => D.noRefL xs
 | .ref _ => false
 | _ => true
noncomputable def D.noRefL:List D → Bool
 | [] => true
 | x :: xs => D.noRef x && D.noRefL xs
end
section
variable {K:PySem.W.Frag} {H H' H0:Hp} {O O':List Addr}
mutual
theorem Is.nr:∀ {v:V} {d:D},Is K H O v d → d.noRef = true → Is K H O' v d
 | _,_,.non,_ => .non
 | _,_,.bl b,_ => .bl b
 | _,_,.int b,_ => .int b
 | _,_,.str b h,_ => .str b h
 | _,_,.tup h r,e => .tup h (IsL.nr r (by simpa [D.noRef] using e))
 | _,_,.fz h r,e => .fz h (IsL.nr r (by simpa [D.noRef] using e))
 | _,_,.ref h,e => by simp [D.noRef] at e
 | _,_,.ty n,_ => .ty n
theorem IsL.nr:∀ {v:List V} {d:List D},IsL K H O v d → D.noRefL d = true → IsL K H O' v d
 | _,_,.nil,_ => .nil
 | _,_,.cons a b,e => by
  simp only [D.noRefL,Bool.and_eq_true] at e
  exact .cons (Is.nr a e.1) (IsL.nr b e.2)
end
mutual
theorem Is.back (p:O <+: O'):∀ {v0:V} {d:D},Is K H0 O v0 d → ∀ {v:V},Is K H' O' v d → Is K H' O v d
 | _,_,.non,_,h => by cases h; exact .non
 | _,_,.bl b,_,h => by cases h; exact .bl b
 | _,_,.int b,_,h => by cases h; exact .int b
 | _,_,.str b _,_,h => by cases h with | str _ q => exact .str b q
 | _,_,.ty n,_,h => by cases h; exact .ty n
 | _,_,.tup _ r,_,h => by cases h with | tup q r' => exact .tup q (IsL.back p r r')
 | _,_,.fz _ r,_,h => by cases h with | fz q r' => exact .fz q (IsL.back p r r')
 | _,_,.ref q,_,h => by
  cases h with
  | ref q' =>
   have:=pref_get p q
   rw [q'] at this
   cases this
   exact .ref q
theorem IsL.back (p:O <+: O'):∀ {v0:List V} {d:List D},IsL K H0 O v0 d → ∀ {v:List V},IsL K H' O' v d → IsL K H' O v d
 | _,_,.nil,_,h => by cases h; exact .nil
 | _,_,.cons a b,_,h => by cases h with | cons a' b' => exact .cons (Is.back p a a') (IsL.back p b b')
end
theorem noRefL_map {α:Type} {f:α → D} (h:∀ a,(f a).noRef = true):∀ xs:List α,D.noRefL (xs.map f) = true
 | [] => rfl
 | x :: r => by rw [List.map_cons,D.noRefL,h x,noRefL_map h r]; rfl
theorem keyD_noRef (k:Key):(keyD k).noRef = true:=by cases k <;> rfl
theorem itemD_noRef (k:Key ⊕ List Key):(itemD k).noRef = true:=by
 cases k with
 | inl k => exact keyD_noRef k
 | inr ks => exact noRefL_map keyD_noRef ks
theorem nkD_noRef (k:NK):(nkD k).noRef = true:=noRefL_map itemD_noRef k
theorem RepS.back {L M:Sto} (r0:RepS K H O L) (st:Step H O H' O') (r1:RepS K H' O' (L ++ M)):RepS K H' O L:=by
 refine ⟨r0.len,r0.nd,fun k a o e1 e2 => ?_⟩
 have q0:=r0.ob k a o e1 e2
 have q1:=r1.ob k a o (pref_get st.2 e1) (by rw [List.getElem?_append_left (List.getElem?_eq_some_iff.mp e2).1]; exact e2)
 cases o with
 | lst ds =>
  obtain ⟨vs0,_,i0⟩:=q0
  obtain ⟨vs,hv,i1⟩:=q1
  exact ⟨vs,hv,IsL.back st.2 i0 i1⟩
 | dk kvs =>
  obtain ⟨us0,_,_,i0⟩:=q0
  obtain ⟨us,hv,hk,i1⟩:=q1
  exact ⟨us,hv,hk,IsL.back st.2 i0 i1⟩
 | dt kvs ep =>
  obtain ⟨us0,_,_,i0,_⟩:=q0
  obtain ⟨us,hv,hk,i1,i2⟩:=q1
  exact ⟨us,hv,hk,IsL.back st.2 i0 i1,fun u hu => (i2 u hu).nr (nkD_noRef _)⟩
 | ins c fs =>
  obtain ⟨_,_,us0,_,_,_,i0⟩:=q0
  obtain ⟨C,dx,us,z,hv,hk,i1⟩:=q1
  exact ⟨C,dx,us,z,hv,hk,IsL.back st.2 i0 i1⟩
 | exn c => exact q1
end
noncomputable def startD (N:List Str) (ds:List D):Fm:=ds.map some ++ List.replicate (N.length - ds.length) none
noncomputable def spF (K:PySem.W.Frag) (G:GL):Sp:=fun vs H Q _ => rC K G vs H Q
noncomputable def Runs (B:SF) (N:List Str) (xs:List D) (L:Sto) (d:D) (L':Sto):Prop :=
 ∃ L'',(B (startD N xs) L = some (.ret d L'') ∨ (d = .non ∧ ∃ ρ',B (startD N xs) L = some (.next ρ' L''))) ∧ (L'' = L' ∨ (L' = L ∧ L <+: L'' ∧ d.noRef = true))
structure FnD (P:Program) (w:World) (K:PySem.W.Frag) (mg:Str → Option Value) (base:Heap) (k:Nat) (x:Str) (G:GL):Prop where
 ex:∃ f fd ps,FnOk P w K mg base CX0 k f fd ps (spF K G) ∧ mg x = some (.ref f) ∧ PySem.W.keepIn K (.ref f) = true ∧ Binds K fd ps []
section
variable {P:Program} {w:World} {K:PySem.W.Frag} {mg:Str → Option Value} {base:Heap}
theorem fmis_start {H:Hp} {O:List Addr} {N:List Str} {vs:List V} {ds:List D} (h:IsL K H O vs ds):FmIs K H O (L2.start N vs) (startD N ds):=by
 refine ⟨by simp [L2.start,startD,h.length],fun i d e => ?_⟩
 unfold startD at e
 unfold L2.start
 by_cases hi:i < ds.length
 ·rw [List.getElem?_append_left (by simpa using hi),List.getElem?_map] at e
  rw [List.getElem?_append_left (by simpa [h.length] using hi),List.getElem?_map]
  cases q:ds[i]? with
  | none => rw [q] at e; cases e
  | some d' =>
   rw [q] at e; cases e
   obtain ⟨v,hv,iv⟩:=h.get q
   exact ⟨v,by simp [hv],iv⟩
 ·rw [List.getElem?_append_right (by simpa using hi),List.getElem?_replicate] at e
  split at e <;> cases e
theorem fn_f {x qual:Str} {st:Stmt} {f:Addr} {fd:FuncData} {N ps:List Str} {k:Nat} (F:Fun K x qual st f fd) (S:FnScope N ps (defScope st)) (G:GL) (B:SF) (hlen:∀ xs L r,G xs L = some r → xs.length = ps.length)
  (hb:∀ (cdv:Value) (A:Around) (outer:List Env) (s:Shared) (H:Hp) (E:XK),Room k (A.deeper (envOfC qual (defScope st) s.heap.objs.size f cdv)) →
   PSsf (cxOf CX0 P w K mg base N qual (defScope st) f cdv A outer s H E).nox (defBody st) B)
  (hG:∀ xs L d L',G xs L = some (d,L') → Runs B N xs L d L'):FnOk P w K mg base CX0 (k + 1) f fd ps (spF K G):=by
 refine F.ok S (fun vs H Q E h => ?_) (fun cdv A outer s H vs Q E hr h => ?_)
 ·obtain ⟨O,L,xs,d,L',_,is,e,_⟩:=h
  rw [is.length]
  exact hlen _ _ _ e
 ·obtain ⟨O,L,xs,d,L',rs,is,e,kk⟩:=h
  refine ⟨_,hb cdv A outer s H E hr,?_⟩
  obtain ⟨L'',hB,hd⟩:=hG _ _ _ _ e
  have close:∀ v H' O',Step H O H' O' → RepS K H' O' L'' → Is K H' O' v d → Q v H':=fun v H' O' st' rs' is' => by
   rcases hd with rfl | ⟨rfl,⟨M,rfl⟩,nr⟩
   ·exact kk v H' O' st' rs' is'
   ·exact kk v H' O ⟨st'.1,List.prefix_refl _⟩ (rs.back st' rs') (is'.nr nr)
  rcases hB with hB | ⟨rfl,ρ',hB⟩
  ·exact ⟨O,startD N xs,L,_,⟨rs,fmis_start is⟩,hB,close⟩
  ·exact ⟨O,startD N xs,L,_,⟨rs,fmis_start is⟩,hB,fun σ' H' O' st' r' => close _ H' O' st' r'.s .non⟩
theorem FnD.mono {j k:Nat} {x:Str} {G:GL} (F:FnD P w K mg base j x G) (h:j ≤ k):FnD P w K mg base k x G:=by
 obtain ⟨f,fd,ps,a,b⟩:=F.ex
 exact ⟨f,fd,ps,a.mono h,b⟩
theorem FnD.imp {k:Nat} {x:Str} {G G':GL} (F:FnD P w K mg base k x G) (h:∀ xs L r,G' xs L = some r → G xs L = some r):FnD P w K mg base k x G':=by
 obtain ⟨f,fd,ps,a,b⟩:=F.ex
 exact ⟨f,fd,ps,a.imp fun vs H Q E ⟨O,L,xs,d,L',rs,is,e,kk⟩ => ⟨O,L,xs,d,L',rs,is,h _ _ _ e,kk⟩,b⟩
end
section
variable {X:Cx} {k:Nat} {x:Str} {G:GL} {p pos:Pos} {e:Expr} {es:List Expr} {f:AF}
theorem ef_call (F:FnD X.prog X.w X.K X.mg X.base k x G) (hr:Room k X.A) (ha:PAf X (e :: es) f) (hg:Gl X x:=by rfl) (hdb:(x == ("__debug__":Str)) = false:=by decide)
  (he:notStar e = true:=by rfl) (hpl:es.all notStar = true:=by rfl):PEf X (.Call (.Name x p) (e :: es) [] pos) (callB G f):=by
 obtain ⟨fa,fd,ps,a,b,c,d⟩:=F.ex
 exact PE.weaken (pe_call a hr hg b c d .nil pass0 ha hdb (starEach_cons he) (plain_of hpl)) fun σ H Q h => by
  have q:=call_lift h
  obtain ⟨O,ρ,L,ds,L',r,e,k⟩:=q
  exact ⟨O,ρ,L,ds,L',r,e,fun vs H1 O1 st rs is => by show rC X.K G (vs ++ []) H1 Q; rw [List.append_nil]; exact k vs H1 O1 st rs is⟩
theorem ef_call0 (F:FnD X.prog X.w X.K X.mg X.base k x G) (hr:Room k X.A) (hg:Gl X x:=by rfl) (hdb:(x == ("__debug__":Str)) = false:=by decide):PEf X (.Call (.Name x p) [] [] pos) (callB G nilA):=by
 obtain ⟨fa,fd,ps,a,b,c,d⟩:=F.ex
 exact PE.weaken (pe_call0 a hr hg b c d .nil pass0 hdb) fun σ H Q h => by
  obtain ⟨O,ρ,L,ds,L',r,e,k⟩:=h
  exact ⟨O,L,[],ds,L',r.s,.nil,e,k⟩
end
noncomputable instance decMul (a b:Int):Decidable (IntMulOk a b):=by unfold IntMulOk; infer_instance
section
variable {X:Cx}
theorem opMulB:OpR X (binaryOp .Mult) (rI IntMulOk fun i j => .int (i * j)):=opI fun _ _ _ _ _ _ _ hc q => mul_int q hc
theorem op_catE:OpR X (binaryOp .Add) (fun x y H Q => ∃ a b ys,x = .ref a ∧ y = .ref b ∧ SqT X.K H a [] ∧ SqT X.K H b ys ∧ Q (.ref b) H):=by
 intro pins s σ H x y v u Q I rx ry h
 obtain ⟨a,b,ys,rfl,rfl,ha,hb,q⟩:=h
 cases rx
 cases ry
 obtain ⟨its,r1,p1,_⟩:=I.tuple ha
 obtain ⟨its2,r2,p2,_⟩:=I.tuple hb
 have hi:its = []:=r1.nil_iff.mpr rfl
 subst hi
 obtain ⟨⟨cls,dd,data,sl⟩,ho,hc,n,hd⟩:=p1
 obtain ⟨⟨cls2,dd2,data2,sl2⟩,ho2,hc2,n2,hd2⟩:=p2
 simp only at hc hd hc2 hd2
 subst hc hd hc2 hd2
 exact concat_meets ⟨_,ho,rfl⟩ ⟨_,ho2,rfl⟩ noFill_tuple_add seq_tuple_add PySem.F.slot_tuple_add PySem.F.entry_tuple_add (PySem.F.args_tuple_add_2 _ _)
  (tuple_addW0 a b _ _ n n2 dd dd2 sl sl2 rfl) ⟨ho,ho2,.ref b,H,I,rfl,q⟩
noncomputable def gAdd:G2
 | .int i,.int j,L => some (.int (i + j),L)
 | .str x,.str y,L => if x.length + y.length ≤ 16777216 then some (.str (x ++ y),L) else none
 | .ref a,.ref b,L => match L[a]?,L[b]? with
  | some (.lst xs),some (.lst ys) => if xs.length + ys.length ≤ 16777216 then some (.ref L.length,L ++ [.lst (xs ++ ys)]) else none
  | _,_ => none
 | .tup xs,.tup ys,L => if xs = [] then some (.tup ys,L) else if xs.length + ys.length ≤ 16777216 then some (.tup (xs ++ ys),L) else none
 | _,_,_ => none
theorem od_add:OpD X (binaryOp .Add) gAdd:=OpR.weaken (OpR.or op_add (OpR.or op_add_str (OpR.or op_cat (OpR.or op_catT op_catE)))) fun v u H Q z4_ => by
 obtain ⟨O,L,x,y,d,L',rs,ix,iy,e,k⟩:=z4_
 unfold gAdd at e
 split at e
 ·cases ix; cases iy; cases e
  exact .inl ⟨_,_,rfl,rfl,k _ _ _ (.refl _ _) rs (.int _)⟩
 ·cases ix with | str _ h1 => cases iy with | str _ h2 =>
   split at e
   ·rename_i hz
    cases e
    exact .inr (.inl ⟨_,_,rfl,rfl,by rw [sizeLine_eq]; exact hz,k _ _ _ (.refl _ _) rs (.str _ (by rw [strLen_append]; exact hz))⟩)
   ·cases e
 ·rename_i a b
  cases ix with | ref ha => cases iy with | ref hb =>
   split at e
   ·rename_i xs ys e1 e2
    split at e
    ·rename_i hz
     cases e
     obtain ⟨vs,hv,iv⟩:=rs.ob _ _ _ ha e1
     obtain ⟨ws,hw,iw⟩:=rs.ob _ _ _ hb e2
     refine .inr (.inr (.inl ⟨_,_,vs,ws,rfl,rfl,hv,hw,by rw [iv.length,iw.length,sizeLine_eq]; exact hz,fun p hp => ?_⟩))
     have st:Step H O (upd H p (.lst (vs ++ ws))) (O ++ [p]):=⟨.new hp,List.prefix_append _ _⟩
     exact k _ _ _ st (rs.new hp ⟨_,upd_same,(iv.append iw).mono st⟩) (.ref (by rw [← rs.len]; simp))
    ·cases e
   ·cases e
 ·rename_i xs ys
  split at e
  ·rename_i hx
   subst hx
   cases e
   cases ix with | @tup a vs _ h1 i1 => cases iy with | @tup b ws _ h2 i2 =>
    cases i1
    exact .inr (.inr (.inr (.inr ⟨_,_,ws,rfl,rfl,h1,h2,k _ _ _ (.refl _ _) rs (.tup h2 i2)⟩)))
  ·rename_i hx
   split at e
   ·rename_i hz
    cases e
    cases ix with | @tup a vs _ h1 i1 => cases iy with | @tup b ws _ h2 i2 =>
     refine .inr (.inr (.inr (.inl ⟨_,_,vs,ws,rfl,rfl,h1,h2,?_,by rw [i1.length,i2.length,sizeLine_eq]; exact hz,fun q => ?_,fun q p hp => ?_⟩)))
     ·rintro rfl
      cases i1; exact hx rfl
     ·subst q
      cases i2
      rw [List.append_nil] at k
      exact k _ _ _ (.refl _ _) rs (.tup h1 i1)
     ·have st:Step H O (upd H p (.tup (vs ++ ws))) O:=⟨.new hp,List.prefix_refl _⟩
      exact k _ _ _ st (rs.ext fun a u e => by rw [upd_ne (ne_of_none e hp)]; exact e) (.tup (SqT.of upd_same) ((i1.append i2).mono st))
   ·cases e
 ·cases e
noncomputable def gI (C:Int → Int → Bool) (f:Int → Int → D):G2:=fun x y L => match x,y with | .int i,.int j => if C i j = true then some (f i j,L) else none | _,_ => none
theorem od_int {f:Value → Value → Sem Value} {C:Int → Int → Prop} {Cb:Int → Int → Bool} {g:Int → Int → V} {gd:Int → Int → D} (h:OpR X f (rI C g)) (hc:∀ i j,Cb i j = true → C i j) (hg:∀ K H O i j,Is K H O (g i j) (gd i j)):OpD X f (gI Cb gd) :=
 OpR.weaken h fun v u H Q z4_ => by
  obtain ⟨O,L,x,y,d,L',rs,ix,iy,e,k⟩:=z4_
  unfold gI at e
  split at e
  ·split at e
   ·rename_i hcc
    cases ix; cases iy; cases e
    exact ⟨_,_,rfl,rfl,hc _ _ hcc,k _ _ _ (.refl _ _) rs (hg _ _ _ _ _)⟩
   ·cases e
  ·cases e
theorem rI_of {f:Value → Value → Sem Value} {g:Int → Int → V} (h:OpR X f (rI0 g)):OpR X f (rI (fun _ _ => True) g):=OpR.weaken h fun x y H Q ⟨i,j,a,b,_,q⟩ => ⟨i,j,a,b,q⟩
noncomputable def tt2 (_ _:Int):Bool:=true
noncomputable def cDiv (_ j:Int):Bool:=decide (0 < j) && decide (j < 10000000000000000000000000000000000000000000000000000000000000000000000000000000000000000000000000000)
noncomputable def cMod (_ j:Int):Bool:=decide (0 < j)
noncomputable def cPow (i j:Int):Bool:=decide (0 ≤ j) && decide (j ≤ 1000000) && decide (i.natAbs < 2 ^ 64)
noncomputable def cMul (i j:Int):Bool:=decide (IntMulOk i j)
noncomputable def gSub:G2:=gI tt2 fun i j => .int (i - j)
noncomputable def gFdiv:G2:=gI cDiv fun i j => .int (i / j)
noncomputable def gMod:G2:=gI cMod fun i j => .int (i % j)
noncomputable def gPow:G2:=gI cPow fun i j => .int (i ^ j.toNat)
theorem od_sub:OpD X (binaryOp .Sub) gSub:=od_int (rI_of op_sub) (fun _ _ _ => True.intro) fun _ _ _ _ _ => .int _
theorem log2_big {j:Int} (h0:0 < j) (h1:j < 10000000000000000000000000000000000000000000000000000000000000000000000000000000000000000000000000000):j.natAbs.log2 < 340:=by
 have hn:j.natAbs ≠ 0:=by omega
 refine (Nat.log2_lt hn).mpr ?_
 have e:10000000000000000000000000000000000000000000000000000000000000000000000000000000000000000000000000000 < (2:Nat) ^ 340:=by decide +kernel
 omega
theorem op_fdivB:OpR X (binaryOp .FloorDiv) (rI (fun _ j => 0 < j ∧ j < 10000000000000000000000000000000000000000000000000000000000000000000000000000000000000000000000000000) fun i j => .int (i / j)):=opI fun i j _ _ _ _ _ hc q => by
 rw [← Int.fdiv_eq_ediv_of_nonneg i (Int.le_of_lt hc.1)] at q
 exact floordiv_int (by omega) q (.inl (PyProof.noPylong_of_log2 (by have:=log2_big hc.1 hc.2; omega)))
theorem od_fdiv:OpD X (binaryOp .FloorDiv) gFdiv:=od_int op_fdivB (fun i j h => by simp only [cDiv,Bool.and_eq_true,decide_eq_true_eq] at h; exact h) fun _ _ _ _ _ => .int _
theorem od_mod:OpD X (binaryOp .Mod) gMod:=od_int op_mod (fun i j h => by simp [cMod] at h; exact h) fun _ _ _ _ _ => .int _
theorem od_pow:OpD X (binaryOp .Pow) gPow:=od_int op_pow (fun i j h => by simp [cPow] at h; exact ⟨h.1.1,h.1.2,h.2⟩) fun _ _ _ _ _ => .int _
noncomputable def mulSOk (x:Str) (n:Int):Bool:=decide (-1000000 ≤ n) && decide (n ≤ 1000000) && decide (x.length * n.toNat ≤ 16777216)
noncomputable def gMul:G2:=fun x y L => match x,y with
 | .int i,.int j => if cMul i j = true then some (.int (i * j),L) else none
 | .str x,.int n => if mulSOk x n = true then some (.str (Txt.mul x n),L) else none
 | _,_ => none
theorem len_foldl_app:∀ (l:List (Array Nat)) (a:Array Nat),(l.foldl (· ++ ·) a).size = a.size + (l.map (·.size)).sum
 | [],a => by simp
 | b :: r,a => by rw [List.foldl_cons,len_foldl_app r]; simp [Array.size_append]; omega
theorem mul_len (x:Str) (n:Int):(Txt.mul x n).length ≤ x.length * n.toNat:=by
 unfold Txt.mul
 split
 ·exact Nat.zero_le _
 ·split
  ·rename_i h1 h2
   simp only [Bool.or_eq_true,beq_iff_eq] at h2
   rcases h2 with h2 | h2
   ·subst h2; simp
   ·rw [h2]; simp
  ·show ((List.replicate n.toNat x.cps).foldl (· ++ ·) #[]).size ≤ _
   rw [len_foldl_app]
   simp [Str.length,Nat.mul_comm]
theorem op_mul_str:OpR X (binaryOp .Mult) (fun x y H Q => ∃ z n,x = .str z ∧ y = .int n ∧ mulSOk z n = true ∧ Q (.str (Txt.mul z n)) H):=by
 intro pins s σ H x y v u Q I rx ry h
 obtain ⟨z,n,rfl,rfl,hc,q⟩:=h
 obtain ⟨t,rfl⟩:=rx
 obtain ⟨t',rfl⟩:=ry
 simp only [mulSOk,Bool.and_eq_true,decide_eq_true_eq] at hc
 obtain ⟨⟨h1,h2⟩,h3⟩:=hc
 refine SB.mul ⟨?_,fun hn _ hz => ?_,fun _ _ => ?_⟩ fun t' k => ⟨.str _,H,I.tok _,⟨_,rfl⟩,q⟩
 ·have e1:decide (n < -(2 ^ 63:Int)) = false:=decide_eq_false (by omega)
  have e2:decide (n ≥ 2 ^ 63) = false:=decide_eq_false (by omega)
  rw [e1,e2]; rfl
 ·have e1:(z.length:Int) * n ≤ 16777216:=by
   have h4:((z.length * n.toNat:Nat):Int) ≤ ((16777216:Nat):Int):=Int.ofNat_le.mpr h3
   rw [Int.natCast_mul,Int.toNat_of_nonneg (by omega)] at h4
   omega
  have e2:(z.length:Int) ≤ ((2:Int) ^ 63 - 1) / n:=Int.le_ediv_of_mul_le (by omega) (by omega)
  omega
 ·have h5:¬ (z.length * n.toNat > sizeLine):=by rw [sizeLine_eq]; omega
  exact decide_eq_false h5
theorem od_mul:OpD X (binaryOp .Mult) gMul:=OpR.weaken (OpR.or opMulB op_mul_str) fun v u H Q z4_ => by
 obtain ⟨O,L,x,y,d,L',rs,ix,iy,e,k⟩:=z4_
 unfold gMul at e
 split at e
 ·split at e
  ·rename_i hc
   cases ix; cases iy; cases e
   exact .inl ⟨_,_,rfl,rfl,of_decide_eq_true hc,k _ _ _ (.refl _ _) rs (.int _)⟩
  ·cases e
 ·split at e
  ·rename_i hc
   cases ix; cases iy; cases e
   refine .inr ⟨_,_,rfl,rfl,hc,k _ _ _ (.refl _ _) rs (.str _ ?_)⟩
   simp only [mulSOk,Bool.and_eq_true,decide_eq_true_eq] at hc
   exact Nat.le_trans (mul_len _ _) hc.2
  ·cases e
 ·cases e
noncomputable def gLt:G2:=gI tt2 fun i j => .bl (decide (i < j))
noncomputable def gLe:G2:=gI tt2 fun i j => .bl (decide (i ≤ j))
noncomputable def gGt:G2:=gI tt2 fun i j => .bl (decide (j < i))
noncomputable def gGe:G2:=gI tt2 fun i j => .bl (decide (j ≤ i))
theorem od_lt:OpD X (compareOp .Lt) gLt:=od_int (rI_of op_lt) (fun _ _ _ => True.intro) fun _ _ _ _ _ => .bl _
theorem od_le:OpD X (compareOp .LtE) gLe:=od_int (rI_of op_le) (fun _ _ _ => True.intro) fun _ _ _ _ _ => .bl _
theorem od_gt:OpD X (compareOp .Gt) gGt:=od_int (rI_of op_gt) (fun _ _ _ => True.intro) fun _ _ _ _ _ => .bl _
theorem od_ge:OpD X (compareOp .GtE) gGe:=od_int (rI_of op_ge) (fun _ _ _ => True.intro) fun _ _ _ _ _ => .bl _
noncomputable def toV:D → V
 | .non => .non | .bl b => .bl b | .int i => .int i | .str x => .str x | _ => .non
noncomputable def flatD:D → Bool
 | .non => true | .bl _ => true | .int _ => true | .str _ => true | _ => false
theorem flat_toV {K:PySem.W.Frag} {H:Hp} {O:List Addr} {v:V} {d:D} (h:Is K H O v d) (f:flatD d = true):v = toV d:=by
 cases h <;> first | rfl | (simp [flatD] at f)
theorem flatsL {K:PySem.W.Frag} {H:Hp} {O:List Addr}:∀ {vs:List V} {ds:List D},IsL K H O vs ds → ds.all flatD = true → vs = ds.map toV
 | _,_,.nil,_ => rfl
 | _,_,.cons a b,f => by
  rw [List.all_cons,Bool.and_eq_true] at f
  rw [List.map_cons,flat_toV a f.1,flatsL b f.2]
theorem flatV_toV {d:D} (f:flatD d = true):flatV (toV d) = true:=by cases d <;> simp_all [flatD,toV,flatV]
theorem toV_inj {a b:D} (fa:flatD a = true) (fb:flatD b = true):(toV a = toV b) ↔ a = b:=by
 cases a <;> simp [flatD] at fa <;> cases b <;> simp [flatD] at fb <;> simp [toV]
noncomputable def scalD (a b:D):Bool:=flatD a && flatD b && scal (toV a) (toV b)
noncomputable def gEq:G2:=fun x y L => if scalD x y = true then some (.bl (decide (x = y)),L) else none
noncomputable def gNe:G2:=fun x y L => if scalD x y = true then some (.bl (!decide (x = y)),L) else none
theorem od_eq:OpD X (compareOp .Eq) gEq:=OpR.weaken op_eq fun v u H Q z4_ => by
 obtain ⟨O,L,x,y,d,L',rs,ix,iy,e,k⟩:=z4_
 unfold gEq at e
 split at e
 ·rename_i h
  cases e
  simp only [scalD,Bool.and_eq_true] at h
  obtain ⟨⟨h1,h2⟩,h3⟩:=h
  rw [flat_toV ix h1,flat_toV iy h2]
  refine ⟨h3,?_⟩
  have:decide (toV x = toV y) = decide (x = y):=by simp [toV_inj h1 h2]
  rw [this]
  exact k _ _ _ (.refl _ _) rs (.bl _)
 ·cases e
theorem od_ne:OpD X (compareOp .NotEq) gNe:=OpR.weaken op_ne fun v u H Q z4_ => by
 obtain ⟨O,L,x,y,d,L',rs,ix,iy,e,k⟩:=z4_
 unfold gNe at e
 split at e
 ·rename_i h
  cases e
  simp only [scalD,Bool.and_eq_true] at h
  obtain ⟨⟨h1,h2⟩,h3⟩:=h
  rw [flat_toV ix h1,flat_toV iy h2]
  refine ⟨h3,?_⟩
  have:decide (toV x = toV y) = decide (x = y):=by simp [toV_inj h1 h2]
  rw [this]
  exact k _ _ _ (.refl _ _) rs (.bl _)
 ·cases e
noncomputable def isNon:D → Bool | .non => true | _ => false
theorem isNon_V {K:PySem.W.Frag} {H:Hp} {O:List Addr} {v:V} {d:D} (h:Is K H O v d):decide (v = .non) = isNon d:=by cases h <;> simp [isNon]
noncomputable def isBl (b:Bool):D → Bool | .bl c => c == b | _ => false
theorem op_isB:OpR X (compareOp .Is) (fun x y H Q => ∃ b,y = .bl b ∧ (∀ n,x ≠ .ty n) ∧ Q (.bl (decide (x = .bl b))) H):=by
 intro pins s σ H x y v u Q I rx ry h
 obtain ⟨b,rfl,hn,q⟩:=h
 cases ry
 cases x with
 | non => cases rx; exact wpAny_pure (fin_bl I q rfl)
 | bl c => cases rx; exact wpAny_pure (fin_bl I q (by cases c <;> cases b <;> rfl))
 | int c => obtain ⟨t,rfl⟩:=rx; exact wpAny_pure (fin_bl I q rfl)
 | str c => obtain ⟨t,rfl⟩:=rx; exact wpAny_pure (fin_bl I q rfl)
 | byt c => obtain ⟨t,rfl⟩:=rx; exact wpAny_pure (fin_bl I q rfl)
 | flt c => obtain ⟨t,rfl⟩:=rx; exact wpAny_pure (fin_bl I q rfl)
 | ref c => cases rx; exact wpAny_pure (fin_bl I q rfl)
 | ty c => exact absurd rfl (hn c)
theorem op_notB:OpR X (compareOp .IsNot) (fun x y H Q => ∃ b,y = .bl b ∧ (∀ n,x ≠ .ty n) ∧ Q (.bl (!decide (x = .bl b))) H):=by
 intro pins s σ H x y v u Q I rx ry h
 obtain ⟨b,rfl,hn,q⟩:=h
 cases ry
 cases x with
 | non => cases rx; exact wpAny_pure (fin_bl I q rfl)
 | bl c => cases rx; exact wpAny_pure (fin_bl I q (by cases c <;> cases b <;> rfl))
 | int c => obtain ⟨t,rfl⟩:=rx; exact wpAny_pure (fin_bl I q rfl)
 | str c => obtain ⟨t,rfl⟩:=rx; exact wpAny_pure (fin_bl I q rfl)
 | byt c => obtain ⟨t,rfl⟩:=rx; exact wpAny_pure (fin_bl I q rfl)
 | flt c => obtain ⟨t,rfl⟩:=rx; exact wpAny_pure (fin_bl I q rfl)
 | ref c => cases rx; exact wpAny_pure (fin_bl I q rfl)
 | ty c => exact absurd rfl (hn c)
theorem isBl_V {K:PySem.W.Frag} {H:Hp} {O:List Addr} {v:V} {d:D} {b:Bool} (h:Is K H O v d):decide (v = .bl b) = isBl b d:=by
 cases h <;> simp [isBl]
 rename_i c
 cases c <;> cases b <;> rfl
noncomputable def noTy:D → Bool | .ty _ => false | _ => true
theorem noTy_V {K:PySem.W.Frag} {H:Hp} {O:List Addr} {v:V} {d:D} (h:Is K H O v d) (n:noTy d = true):∀ m,v ≠ .ty m:=by
 intro m z
 cases h <;> first | (cases z; done) | (simp [noTy] at n)
noncomputable def gIs:G2:=fun x y L => match y with | .non => some (.bl (isNon x),L) | .bl b => if noTy x = true then some (.bl (isBl b x),L) else none | _ => none
noncomputable def gIsNot:G2:=fun x y L => match y with | .non => some (.bl (!isNon x),L) | .bl b => if noTy x = true then some (.bl (!isBl b x),L) else none | _ => none
theorem od_is:OpD X (compareOp .Is) gIs:=OpR.weaken (OpR.or op_isN op_isB) fun v u H Q z4_ => by
 obtain ⟨O,L,x,y,d,L',rs,ix,iy,e,k⟩:=z4_
 unfold gIs at e
 split at e
 ·cases e; cases iy
  refine .inl ⟨rfl,?_⟩
  rw [isNon_V ix]
  exact k _ _ _ (.refl _ _) rs (.bl _)
 ·split at e
  ·rename_i hn
   cases e; cases iy
   refine .inr ⟨_,rfl,noTy_V ix hn,?_⟩
   rw [isBl_V ix]
   exact k _ _ _ (.refl _ _) rs (.bl _)
  ·cases e
 ·cases e
theorem od_isnot:OpD X (compareOp .IsNot) gIsNot:=OpR.weaken (OpR.or op_notN op_notB) fun v u H Q z4_ => by
 obtain ⟨O,L,x,y,d,L',rs,ix,iy,e,k⟩:=z4_
 unfold gIsNot at e
 split at e
 ·cases e; cases iy
  refine .inl ⟨rfl,?_⟩
  rw [isNon_V ix]
  exact k _ _ _ (.refl _ _) rs (.bl _)
 ·split at e
  ·rename_i hn
   cases e; cases iy
   refine .inr ⟨_,rfl,noTy_V ix hn,?_⟩
   rw [isBl_V ix]
   exact k _ _ _ (.refl _ _) rs (.bl _)
  ·cases e
 ·cases e
noncomputable def inStr (i j:Str):Bool:=!(Builtin.Str.occurrences j i 0 j.length 1).isEmpty
noncomputable def eqP (a b:D):Bool:=eqV (toV a) (toV b)
noncomputable def inD (x:D) (xs:List D):Bool:=xs.any fun y => eqP y x
noncomputable def seqOf (d:D) (L:Sto):Option (List D):=match d with
 | .tup xs => some xs | .fz xs => some xs
 | .ref k => match L[k]? with | some (.lst xs) => some xs | _ => none
 | _ => none
theorem seqOf_is {K:PySem.W.Frag} {H:Hp} {O:List Addr} {L:Sto} {v:V} {d:D} {xs:List D} (rs:RepS K H O L) (h:Is K H O v d) (e:seqOf d L = some xs):∃ a vs,v = .ref a ∧ (SqL K H a vs ∨ SqT K H a vs) ∧ IsL K H O vs xs:=by
 cases h with
 | tup hq il => cases e; exact ⟨_,_,rfl,.inr hq,il⟩
 | fz hq il => cases e; exact ⟨_,_,rfl,.inl hq.sql,il⟩
 | ref hk =>
  simp only [seqOf] at e
  split at e
  ·rename_i ys e2
   cases e
   obtain ⟨vs,hv,iv⟩:=rs.ob _ _ _ hk e2
   exact ⟨_,vs,rfl,.inl (SqL.of hv),iv⟩
  ·cases e
 | _ => cases e
noncomputable def gInN (neg:Bool):G2:=fun x y L => match x,y with
 | .str i,.str j => some (.bl (if neg then !inStr i j else inStr i j),L)
 | _,_ => match seqOf y L with | some ys => if flatD x && ys.all flatD then some (.bl (if neg then !inD x ys else inD x ys),L) else none | none => none
theorem inD_V {x:D} {xs:List D}:inV (toV x) (xs.map toV) = inD x xs:=by
 unfold inV inD eqP
 rw [List.any_map]; rfl
theorem allV {xs:List D} (h:xs.all flatD = true):(xs.map toV).all flatV = true:=by
 rw [List.all_map]
 rw [List.all_eq_true] at h ⊢
 exact fun d hd => flatV_toV (h d hd)
theorem gIn_seq {K:PySem.W.Frag} {H:Hp} {O:List Addr} {L L':Sto} {v u:V} {x y d:D} {neg:Bool} {Q:VK} (rs:RepS K H O L) (ix:Is K H O v x) (iy:Is K H O u y)
  (e:(match seqOf y L with | some ys => if flatD x && ys.all flatD then some (D.bl (if neg then !inD x ys else inD x ys),L) else none | none => none) = some (d,L'))
  (k:∀ w H' O',Step H O H' O' → RepS K H' O' L' → Is K H' O' w d → Q w H'):rIn K neg v u H Q:=by
 split at e
 ·rename_i ys hy
  split at e
  ·rename_i hf
   cases e
   rw [Bool.and_eq_true] at hf
   obtain ⟨a,vs,rfl,hs,il⟩:=seqOf_is rs iy hy
   have e1:=flat_toV ix hf.1
   have e2:=flatsL il hf.2
   subst e1 e2
   refine ⟨a,_,rfl,hs,flatV_toV hf.1,allV hf.2,?_⟩
   rw [inD_V]
   exact k _ _ _ (.refl _ _) rs (.bl _)
  ·cases e
 ·cases e
theorem od_in:OpD X (compareOp .In) (gInN false):=OpR.weaken (OpR.or op_in_str op_in_seq) fun v u H Q z4_ => by
 obtain ⟨O,L,x,y,d,L',rs,ix,iy,e,k⟩:=z4_
 unfold gInN at e
 split at e
 ·cases e; cases ix; cases iy
  exact .inl ⟨_,_,rfl,rfl,k _ _ _ (.refl _ _) rs (.bl _)⟩
 ·exact .inr (gIn_seq rs ix iy e k)
theorem od_notin:OpD X (compareOp .NotIn) (gInN true):=OpR.weaken (OpR.or op_notin_str op_notIn_seq) fun v u H Q z4_ => by
 obtain ⟨O,L,x,y,d,L',rs,ix,iy,e,k⟩:=z4_
 unfold gInN at e
 split at e
 ·cases e; cases ix; cases iy
  exact .inl ⟨_,_,rfl,rfl,k _ _ _ (.refl _ _) rs (.bl _)⟩
 ·exact .inr (gIn_seq rs ix iy e k)
noncomputable def gIx:G2:=fun x y L => match y with
 | .int i => match x with
  | .str z => (match atI z.cps.toList i with | some c => some (.str ⟨#[c]⟩,L) | none => none)
  | _ => (match seqOf x L with | some xs => (match atI xs i with | some d => some (d,L) | none => none) | none => none)
 | _ => none
theorem atI_is {K:PySem.W.Frag} {H:Hp} {O:List Addr} {vs:List V} {xs:List D} {i:Int} {d:D} (il:IsL K H O vs xs) (e:atI xs i = some d):∃ v,atI vs i = some v ∧ Is K H O v d:=by
 unfold atI at e ⊢
 rw [il.length]
 cases q:ixN xs.length i with
 | none => rw [q] at e; cases e
 | some j => rw [q] at e; exact il.get e
theorem xd_ix:IxD X gIx:=IxR.weaken ix_seq fun v u H Q z4_ => by
 obtain ⟨O,L,x,y,d,L',rs,ix,iy,e,k⟩:=z4_
 unfold gIx at e
 split at e
 ·cases iy
  split at e
  ·split at e
   ·rename_i c hc
    cases e
    cases ix with | str _ hz =>
     exact .inr (.inr ⟨_,_,c,rfl,rfl,by rw [sizeLine_eq]; exact hz,hc,k _ _ _ (.refl _ _) rs (.str _ (by simp [Str.length]))⟩)
   ·cases e
  ·split at e
   ·rename_i xs hx
    split at e
    ·rename_i dd hd
     cases e
     obtain ⟨a,vs,rfl,hs,il⟩:=seqOf_is rs ix hx
     obtain ⟨w,hw,iw⟩:=atI_is il hd
     rcases hs with hs | hs
     ·exact .inl ⟨a,vs,_,w,rfl,rfl,hs,hw,k _ _ _ (.refl _ _) rs iw⟩
     ·exact .inr (.inl ⟨a,vs,_,w,rfl,rfl,hs,hw,k _ _ _ (.refl _ _) rs iw⟩)
    ·cases e
   ·cases e
 ·cases e
end
end L3
set_option maxHeartbeats 4000000
namespace HT
open PySem PySem.Spec PyProof.Rows
section
variable {prog:Program} {w:World} {A:Around} {E:Value → Shared → Prop} {s:Shared}
theorem getItem_tuple_whole {t sl:Addr} {items:Array Value} {vl vu:Value} {lo hi:Option Int} {Q:Value → Shared → Prop} (ht:IsTup s.heap t items) (hs:s.heap.IsSliceOf sl vl vu .none) (pl:IsPart vl lo) (pu:IsPart vu hi)
  (hw:sIx items.size 0 lo = 0 ∧ sIx items.size items.size hi = items.size) (h:Q (.ref t) s) (hsz:items.size ≤ sizeLine):wpAny (model prog w) A (getItem (.ref t) (.ref sl)) Q E s:=by
 obtain ⟨os,hos,hcs,hds⟩:=id hs
 have hTs:s.TypeIs (.ref sl) "slice":=⟨os,hos,hcs⟩
 unfold getItem
 try with_reducible refine wpAny_holding ?_
 first | refine wpAny_bind (wpAny_pure ?_) | skip
 refine wpAny_bind (wpAny_sequenceKey ht.typeIs (by decide) ?_)
 refine wpAny_bind (wpAny_callSpecial?_slot (name:=Str.ofString "__getitem__") ht.typeIs PyProof.Rows.slot_tuple_getitem
  (wpAny_call_entry PyProof.Rows.slot_tuple_getitem ht.typeIs entry_tuple_getitem ?_ (args_tuple_getitem _ _)))
 show wpAny _ _ (Builtin.Tuple.tupleItemsOf (.ref t) >>= _) _ _ s
 refine wpAny_bind (tupleItemsOf_ ht ?_)
 refine wpAny_bind (wpAny_typeOf hTs ?_)
 rw [if_pos (by decide)]
 refine wpAny_bind (sliceApplied_gen hs pl pu ?_)
 have hyes:(((sIx items.size 0 lo:Nat):Int) == 0 && (1:Int) == 1 && (sIx items.size items.size hi - sIx items.size 0 lo) == items.size) = true:=by
  rw [hw.1,hw.2]; simp
 show wpAny _ _ (if (((sIx items.size 0 lo:Nat):Int) == 0 && (1:Int) == 1 && (sIx items.size items.size hi - sIx items.size 0 lo) == items.size) = true then _ else _) _ _ s
 rw [if_pos hyes]
 unfold Builtin.Tuple.tupleIsExact
 refine wpAny_bind (wpAny_bind (wpAny_typeOf ht.typeIs (wpAny_pure ?_)))
 rw [if_pos (by decide)]
 refine wpAny_bind (wpAny_rule ?_)
 exact wpAny_pure ⟨_,rfl,wpAny_pure h⟩
end
end HT
namespace L2
open PySem PySem.Spec PyProof.Rows
section
variable {X:Cx}
theorem sl_tupW:SlR X (fun x lo hi H Q => ∃ a xs,x = .ref a ∧ SqT X.K H a xs ∧ (HT.sIx xs.length 0 lo = 0 ∧ HT.sIx xs.length xs.length hi = xs.length) ∧ Q (.ref a) H):=by
 intro pins s σ H x v vl vu lo hi sl Q I rx hs pl pu h
 obtain ⟨a,xs,rfl,hx,hw,q⟩:=h
 cases rx
 obtain ⟨its,r,ht,hz⟩:=I.tuple hx
 have hlen:its.toArray.size = xs.length:=by rw [List.size_toArray]; exact r.length.symm
 refine ⟨"tuple",_,PyProof.Rows.slot_tuple_getitem.lookup,ht.typeIs,?_⟩
 exact HT.getItem_tuple_whole ht hs pl pu (by rw [hlen]; exact hw) ⟨.ref a,H,I,rfl,q⟩ (by rw [hlen]; exact hz)
end
end L2
set_option maxHeartbeats 4000000
namespace L3
open PySem PySem.Spec PyProof.Rows L2
noncomputable abbrev OF:=Fm → Sto → Option (Option Int × Sto)
noncomputable def liftO (K:PySem.W.Frag) (f:OF):TO:=fun σ H Q => ∃ O ρ L d L',Rep K H O σ ρ L ∧ f ρ L = some (d,L') ∧ ∀ H' O',Step H O H' O' → RepS K H' O' L' → Q d H'
noncomputable def POf (X:Cx) (e:Option Expr) (f:OF):Prop:=PO X e (liftO X.K f)
noncomputable def noO:OF:=fun _ L => some (none,L)
noncomputable def asO (f:EF):OF:=fun ρ L => (f ρ L).bind fun x => match x.1 with | .int i => some (some i,x.2) | _ => none
section
variable {X:Cx} {e:Expr} {f:EF} {lo hi:Option Expr} {fl fh:OF} {pos p2:Pos}
theorem of_none:POf X none noO:=fun pins s σ H Q I z6_ => by
 obtain ⟨O,ρ,L,d,L',r,e,k⟩:=z6_
 cases e
 exact po_none pins s σ H Q I (k H O (.refl _ _) r.s)
theorem of_some (h:PEf X e f):POf X (some e) (asO f):=fun pins s σ H Q I z6_ => by
 obtain ⟨O,ρ,L,d,L',r,ee,k⟩:=z6_
 refine po_some h pins s σ H Q I ?_
 unfold asO at ee
 cases e1:f ρ L with
 | none => rw [e1] at ee; cases ee
 | some p =>
  rw [e1] at ee
  obtain ⟨x,L1⟩:=p
  cases x <;> simp only [Option.bind_some] at ee <;> try (cases ee; done)
  cases ee
  refine ⟨O,ρ,L,_,_,r,e1,fun v H' O' st rs is => ?_⟩
  cases is
  exact ⟨_,rfl,k H' O' st rs⟩
theorem sl_str:SlR X (fun x lo hi H Q => ∃ z,x = .str z ∧ z.length ≤ sizeLine ∧ Q (.str (Txt.slice z lo hi)) H):=by
 intro pins s σ H x v vl vu lo hi sl Q I rx hs pl pu h
 obtain ⟨z,rfl,hz,q⟩:=h
 obtain ⟨t,rfl⟩:=rx
 refine ⟨"str",_,F.slot_str_getitem.lookup,typeIs_str _ _ _,?_⟩
 have fin:∀ t' k,EP X pins σ Q (.str (Txt.slice z lo hi) t') { s with toks:=k }:=fun t' k => ⟨.str _,H,I.tok _,⟨_,rfl⟩,q⟩
 have hl:(Txt.slice z lo hi).length ≤ sizeLine:=Nat.le_trans (Txt.slice_le z _ _) hz
 cases pl with
 | none => cases pu with
  | none => exact wpAny_getItem_str_slice (l:=none) (u:=none) (st:=none) hs rfl (post_val_or_str ⟨hl,fin⟩)
  | int j tj => exact wpAny_getItem_str_slice (l:=none) (u:=some (j,tj)) (st:=none) hs rfl (post_val_or_str ⟨hl,fin⟩)
 | int i ti => cases pu with
  | none => exact wpAny_getItem_str_slice (l:=some (i,ti)) (u:=none) (st:=none) hs rfl (post_val_or_str ⟨hl,fin⟩)
  | int j tj => exact wpAny_getItem_str_slice (l:=some (i,ti)) (u:=some (j,tj)) (st:=none) hs rfl (post_val_or_str ⟨hl,fin⟩)
noncomputable def cutD (xs:List D) (lo hi:Option Int):List D:=(xs.drop (HT.sIx xs.length 0 lo)).take (HT.sIx xs.length xs.length hi - HT.sIx xs.length 0 lo)
noncomputable def gSl (x:D) (lo hi:Option Int) (L:Sto):Option (D × Sto):=match x with
 | .str z => some (.str (Txt.slice z lo hi),L)
 | .fz xs => some (.ref L.length,L ++ [.lst (cutD xs lo hi)])
 | .ref k => (match L[k]? with | some (.lst xs) => some (.ref L.length,L ++ [.lst (cutD xs lo hi)]) | _ => none)
 | .tup xs => some (.tup (cutD xs lo hi),L)
 | _ => none
noncomputable def slF (f:EF) (fl fh:OF):EF:=fun ρ L => (f ρ L).bind fun x => (fl ρ x.2).bind fun l => (fh ρ l.2).bind fun h => gSl x.1 l.1 h.1 h.2
theorem cut_is {K:PySem.W.Frag} {H:Hp} {O:List Addr} {vs:List V} {xs:List D} (il:IsL K H O vs xs) (lo hi:Option Int):IsL K H O (cutV vs lo hi) (cutD xs lo hi):=by
 unfold cutV cutD
 rw [il.length]
 exact (il.drop _).take _
theorem ef_slice (he:PEf X e f) (hl:POf X lo fl) (hh:POf X hi fh):PEf X (.Subscript e (.Slice lo hi none p2) pos) (slF f fl fh) :=
 PE.weaken (pe_slice (SlR.or sl_str (SlR.or sl_list (SlR.or sl_tup sl_tupW))) he hl hh) fun σ H Q z3_ => by
  obtain ⟨O,ρ,L,d,L',r,ee,k⟩:=z3_
  unfold slF at ee
  cases e1:f ρ L with
  | none => rw [e1] at ee; cases ee
  | some p =>
   rw [e1] at ee
   simp only [Option.bind_some] at ee
   cases e2:fl ρ p.2 with
   | none => rw [e2] at ee; cases ee
   | some q =>
    rw [e2] at ee
    simp only [Option.bind_some] at ee
    cases e3:fh ρ q.2 with
    | none => rw [e3] at ee; cases ee
    | some w =>
     rw [e3] at ee
     simp only [Option.bind_some] at ee
     refine ⟨O,ρ,L,p.1,p.2,r,e1,fun v H1 O1 st1 rs1 is1 => ⟨O1,ρ,p.2,q.1,q.2,r.to st1 rs1,e2,fun H2 O2 st2 rs2 => ⟨O2,ρ,q.2,w.1,w.2,r.to (st1.trans st2) rs2,e3,fun H3 O3 st3 rs3 => ?_⟩⟩⟩
     have is3:=(is1.mono st2).mono st3
     have stA:=(st1.trans st2).trans st3
     unfold gSl at ee
     split at ee
     ·rename_i z hz
      rw [hz] at is3
      cases ee
      cases is3 with | str _ hl =>
       exact .inl ⟨_,rfl,by rw [sizeLine_eq]; exact hl,k _ _ _ stA rs3 (.str _ (Nat.le_trans (Txt.slice_le _ _ _) hl))⟩
     ·rename_i xs hx
      rw [hx] at is3
      cases ee
      cases is3 with | @fz a vs ds hq il =>
       refine .inr (.inl ⟨_,_,rfl,hq.sql,fun pa hp => ?_⟩)
       have st4:Step H3 O3 (upd H3 pa (.lst (cutV vs q.1 w.1))) (O3 ++ [pa]):=⟨.new hp,List.prefix_append _ _⟩
       exact k _ _ _ (stA.trans st4) (rs3.new hp ⟨_,upd_same,(cut_is il _ _).mono st4⟩) (.ref (by rw [← rs3.len]; simp))
     ·rename_i kk hx
      rw [hx] at is3
      split at ee
      ·rename_i xs e4
       cases ee
       cases is3 with | ref hk =>
        obtain ⟨vs,hv,il⟩:=rs3.ob _ _ _ hk e4
        refine .inr (.inl ⟨_,_,rfl,SqL.of hv,fun pa hp => ?_⟩)
        have st4:Step H3 O3 (upd H3 pa (.lst (cutV vs q.1 w.1))) (O3 ++ [pa]):=⟨.new hp,List.prefix_append _ _⟩
        exact k _ _ _ (stA.trans st4) (rs3.new hp ⟨_,upd_same,(cut_is il _ _).mono st4⟩) (.ref (by rw [← rs3.len]; simp))
      ·cases ee
     ·rename_i xs hx
      rw [hx] at is3
      cases ee
      cases is3 with | @tup a vs ds hq il =>
       by_cases hw:HT.sIx vs.length 0 q.1 = 0 ∧ HT.sIx vs.length vs.length w.1 = vs.length
       ·refine .inr (.inr (.inr ⟨_,vs,rfl,hq,hw,?_⟩))
        have e5:cutD xs q.1 w.1 = xs:=by
         unfold cutD
         rw [← il.length,hw.1,hw.2,List.drop_zero,Nat.sub_zero,il.length,List.take_length]
        rw [e5] at k
        exact k _ _ _ stA rs3 (.tup hq il)
       ·refine .inr (.inr (.inl ⟨_,vs,rfl,hq,hw,fun pa hp => ?_⟩))
        have st4:Step H3 O3 (upd H3 pa (.tup (cutV vs q.1 w.1))) O3:=⟨.new hp,List.prefix_refl _⟩
        exact k _ _ _ (stA.trans st4) (rs3.ext fun a u e => by rw [upd_ne (ne_of_none e hp)]; exact e) (.tup (SqT.of upd_same) ((cut_is il _ _).mono st4))
     ·cases ee
end
section
variable {X:Cx}
noncomputable def gLen:GL:=fun xs L => match xs with
 | [.str z] => some (.int (z.length:Int),L)
 | [x] => (match seqOf x L with | some ys => some (.int (ys.length:Int),L) | none => none)
 | _ => none
theorem cd_len:CallD X (.builtin "len") gLen:=CallR.weaken (CallR.or call_len_str call_len_seq) fun vs H Q z3_ => by
 obtain ⟨O,L,xs,d,L',rs,is,e,k⟩:=z3_
 unfold gLen at e
 split at e
 ·cases e
  cases is with | cons i1 i2 => cases i2; cases i1 with | str _ hz =>
   exact .inl ⟨_,rfl,by rw [sizeLine_eq]; exact hz,k _ _ _ (.refl _ _) rs (.int _)⟩
 ·split at e
  ·rename_i ys hy
   cases e
   cases is with | cons i1 i2 =>
    cases i2
    obtain ⟨a,vs,rfl,hs,il⟩:=seqOf_is rs i1 hy
    exact .inr ⟨a,vs,rfl,hs,by rw [il.length]; exact k _ _ _ (.refl _ _) rs (.int _)⟩
  ·cases e
 ·cases e
noncomputable def gAbs:GL:=fun xs L => match xs with | [.int i] => some (.int (if i < 0 then -i else i),L) | _ => none
theorem cd_abs:CallD X (.builtin "abs") gAbs:=CallR.weaken call_abs fun vs H Q z3_ => by
 obtain ⟨O,L,xs,d,L',rs,is,e,k⟩:=z3_
 unfold gAbs at e
 split at e
 ·cases e
  cases is with | cons i1 i2 => cases i2; cases i1; exact ⟨_,rfl,k _ _ _ (.refl _ _) rs (.int _)⟩
 ·cases e
noncomputable def gMin:GL:=fun xs L => match xs with | [.int i,.int j] => some (.int (if j < i then j else i),L) | _ => none
theorem cd_min (hc:X.calm = true):CallD X (.builtin "min") gMin:=CallR.weaken (call_min2 hc) fun vs H Q z3_ => by
 obtain ⟨O,L,xs,d,L',rs,is,e,k⟩:=z3_
 unfold gMin at e
 split at e
 ·cases e
  cases is with | cons i1 i2 => cases i2 with | cons i3 i4 => cases i4; cases i1; cases i3; exact ⟨_,_,rfl,k _ _ _ (.refl _ _) rs (.int _)⟩
 ·cases e
noncomputable def gTuple:GL:=fun xs L => match xs with
 | [.tup ys] => some (.tup ys,L)
 | [x] => (match seqOf x L with | some ys => some (.tup ys,L) | none => none)
 | _ => none
theorem cd_tuple:CallD X (.type "tuple") gTuple:=CallR.weaken call_tuple_of fun vs H Q z3_ => by
 obtain ⟨O,L,xs,d,L',rs,is,e,k⟩:=z3_
 unfold gTuple at e
 split at e
 ·cases e
  cases is with | cons i1 i2 => cases i2; cases i1 with | tup hq il => exact ⟨_,_,rfl,.inr ⟨hq,k _ _ _ (.refl _ _) rs (.tup hq il)⟩⟩
 ·split at e
  ·rename_i ys hy
   cases e
   cases is with | cons i1 i2 =>
    cases i2
    obtain ⟨a,vs,rfl,hs,il⟩:=seqOf_is rs i1 hy
    rcases hs with hs | hs
    ·refine ⟨a,vs,rfl,.inl ⟨hs,fun l hl => ?_⟩⟩
     have st:Step H O (upd H l (.tup vs)) O:=⟨.new hl,List.prefix_refl _⟩
     exact k _ _ _ st (rs.ext fun b u e => by rw [upd_ne (ne_of_none e hl)]; exact e) (.tup (SqT.of upd_same) (il.mono st))
    ·exact ⟨a,vs,rfl,.inr ⟨hs,k _ _ _ (.refl _ _) rs (.tup hs il)⟩⟩
  ·cases e
 ·cases e
theorem call_all_bls (hc:X.calm = true):CallR X (.builtin "all") (fun xs H Q => ∃ (p:Addr) (bs:List Bool),xs = [.ref p] ∧ SqL X.K H p (bs.map V.bl) ∧ Q (.bl (bs.all id)) H):=by
 intro pins s σ H xs us Q I r h
 obtain ⟨p,bs,rfl,hq,q⟩:=h
 obtain ⟨u,rfl,rx⟩:=vals1 r
 cases rx
 obtain ⟨its,rv,pl,hz⟩:=I.list hq
 have hI:∀ b o,s.heap.get? b = some o → b ≠ s.heap.objs.size:=fun b o e => Nat.ne_of_lt (Heap.lt_size e)
 obtain ⟨ol,hol,hcl,nl,hdl⟩:=pl.isList
 have hbs:bs.length = its.length:=by have:=rv.length; simpa using this
 refine call_all_walk (wpAny_pyIter_list pl.isList ⟨s.heap.objs.size,_,_,_,_,_,fun i => (bs[i]?).getD true,rfl,
  Walks.list (A:=X.A.in1) (show X.A.in1.handled = none from I.ok.hd hc) s.heap.objs.size p (hI p ol hol) its.toArray,⟨⟨_,Heap.get?_push_size _ rfl,rfl,rfl⟩,⟨ol,Heap.get?_push_of_some _ hol,hcl,nl,hdl⟩⟩,?_,?_⟩)
 ·intro i v s' Q' E' hv hQ
  have hv':its[i]? = some v:=by simpa using hv
  have hi:i < its.length:=(List.getElem?_eq_some_iff.mp hv').1
  have hb:bs[i]? = some bs[i]:=by simp [hbs,hi]
  obtain ⟨w',hw,rw'⟩:=rv.get (i:=i) (x:=.bl bs[i]) (by simp [hbs,hi])
  rw [hv'] at hw; cases hw
  cases rw'
  dsimp only at hQ
  rw [hb] at hQ
  exact wpAny_truthy_bool hQ
 ·intro h' tk kk
  have I1:Inv X pins σ H { s with heap:=h',toks:=tk }:=I.kept fun b o e => kk b o (by simpa using hI b o e) (Heap.get?_push_of_some _ e)
  refine ⟨.bl (bs.all id),H,I1,?_,q⟩
  show Value.bool _ = Value.bool _
  congr 1
  rw [List.size_toArray,← hbs]
  rw [Bool.eq_iff_iff,List.all_eq_true,List.all_eq_true]
  constructor
  ·intro h b hb
   obtain ⟨i,hi,rfl⟩:=List.getElem_of_mem hb
   have:=h i (List.mem_range.mpr hi)
   simpa [hi] using this
  ·intro h i hi
   have hi':=List.mem_range.mp hi
   simpa [hi'] using h _ (List.getElem_mem hi')
noncomputable def blsD:List D → Option (List Bool)
 | [] => some []
 | .bl b :: r => (blsD r).map (b :: ·)
 | _ => none
theorem blsD_is {K:PySem.W.Frag} {H:Hp} {O:List Addr}:∀ {vs:List V} {ds:List D} {bs:List Bool},IsL K H O vs ds → blsD ds = some bs → vs = bs.map V.bl
 | _,_,_,.nil,e => by cases e; rfl
 | _,d :: ds,bs,.cons a b,e => by
  cases a <;> simp only [blsD] at e <;> try (cases e; done)
  cases q:blsD ds with
  | none => rw [q] at e; cases e
  | some r =>
   rw [q] at e
   cases e
   rw [blsD_is b q]; rfl
noncomputable def gAll:GL:=fun xs L => match xs with
 | [.ref k] => (match L[k]? with | some (.lst ds) => (match blsD ds with | some bs => some (.bl (bs.all id),L) | none => none) | _ => none)
 | _ => none
theorem cd_all (hc:X.calm = true):CallD X (.builtin "all") gAll:=CallR.weaken (call_all_bls hc) fun vs H Q z3_ => by
 obtain ⟨O,L,xs,d,L',rs,is,e,k⟩:=z3_
 unfold gAll at e
 split at e
 ·split at e
  ·rename_i ds hd
   split at e
   ·rename_i bs hb
    cases e
    cases is with | cons i1 i2 =>
     cases i2
     cases i1 with | ref hk =>
      obtain ⟨vs,hv,il⟩:=rs.ob _ _ _ hk hd
      rw [blsD_is il hb] at hv
      exact ⟨_,bs,rfl,SqL.of hv,k _ _ _ (.refl _ _) rs (.bl _)⟩
   ·cases e
  ·cases e
 ·cases e
end
noncomputable abbrev GM:=D → List D → Sto → Option (D × Sto)
noncomputable def rM (K:PySem.W.Frag) (g:GM):V → List V → Hp → VK → Prop:=fun v vs H Q => ∃ O L x xs d L',RepS K H O L ∧ Is K H O v x ∧ IsL K H O vs xs ∧ g x xs L = some (d,L') ∧
 ∀ w H' O',Step H O H' O' → RepS K H' O' L' → Is K H' O' w d → Q w H'
noncomputable def MtD (X:Cx) (id:String) (g:GM):Prop:=MtR X id (rM X.K g)
theorem MtR.weaken {X:Cx} {id:String} {r r':V → List V → Hp → VK → Prop} (h:MtR X id r) (i:∀ x xs H Q,r' x xs H Q → r x xs H Q):MtR X id r' :=
 fun pins s σ H x xs v us Q I rx rs q => h pins s σ H x xs v us Q I rx rs (i _ _ _ _ q)
noncomputable def tyD (T:String) (x:D) (L:Sto):Bool:=match x with
 | .str _ => T == "str"
 | .fz _ => T == "list"
 | .ref k => match L[k]? with | some (.lst _) => T == "list" | some (.dk _) => T == "dict" | some (.dt _ _) => T == "dict" | _ => false
 | _ => false
theorem tyD_is {K:PySem.W.Frag} {H:Hp} {O:List Addr} {L:Sto} {T:String} {v:V} {x:D} (rs:RepS K H O L) (i:Is K H O v x) (h:tyD T x L = true):tyV K T v H:=by
 unfold tyD at h
 split at h
 ·cases i
  exact beq_iff_eq.mp h
 ·cases i with | fz hq il => exact .inl ⟨beq_iff_eq.mp h,_,hq.sql⟩
 ·cases i with | ref hk =>
   split at h
   ·rename_i e
    obtain ⟨vs,hv,_⟩:=rs.ob _ _ _ hk e
    exact .inl ⟨beq_iff_eq.mp h,_,SqL.of hv⟩
   ·rename_i e
    obtain ⟨vs,hv,_⟩:=rs.ob _ _ _ hk e
    exact .inr (.inr (.inl ⟨beq_iff_eq.mp h,.inl ⟨_,hv⟩⟩))
   ·rename_i e
    obtain ⟨vs,hv,_⟩:=rs.ob _ _ _ hk e
    exact .inr (.inr (.inl ⟨beq_iff_eq.mp h,.inr (.inr ⟨_,_,hv⟩)⟩))
   ·cases h
 ·cases h
noncomputable def mthF (T:String) (g:GM) (fo:EF) (fa:AF):EF:=fun ρ L => (fo ρ L).bind fun x => if tyD T x.1 x.2 = true then (fa ρ x.2).bind fun y => g x.1 y.1 y.2 else none
section
variable {X:Cx} {o e:Expr} {es:List Expr} {fo:EF} {fa:AF} {name:Str} {apos cpos:Pos} {T id:String} {g:GM}
theorem ef_bm0 (pa:PlainAttrs T) (slot:Slot T name id) (hty:typeOf (.builtin id) = pure (.type "method_descriptor")) (hm:MtD X id g) (ho:PEf X o fo)
  (hbase:attributeBase o name X.env (eval o X.env) = eval o X.env:=by rfl) (hline:(apos.endLine == cpos.line) = true:=by rfl):PEf X (.Call (.Attribute o name apos) [] [] cpos) (mthF T g fo nilA) :=
 PE.weaken (pe_bm0 pa slot hty hm ho hbase hline) fun σ H Q z3_ => by
  obtain ⟨O,ρ,L,d,L',r,e,k⟩:=z3_
  unfold mthF at e
  cases e1:fo ρ L with
  | none => rw [e1] at e; cases e
  | some p =>
   rw [e1] at e
   simp only [Option.bind_some] at e
   split at e
   ·rename_i ht
    refine ⟨O,ρ,L,p.1,p.2,r,e1,fun v H1 O1 st rs is => ⟨tyD_is rs is ht,O1,p.2,p.1,[],d,L',rs,is,.nil,e,fun w H' O' st' rs' is' => k w H' O' (st.trans st') rs' is'⟩⟩
   ·cases e
theorem ef_bm (pa:PlainAttrs T) (slot:Slot T name id) (hty:typeOf (.builtin id) = pure (.type "method_descriptor")) (hm:MtD X id g) (ho:PEf X o fo) (ha:PAf X (e :: es) fa)
  (hbase:attributeBase o name X.env (eval o X.env) = eval o X.env:=by rfl)
  (hfew:decide ((e :: es).length + ([]:List Keyword).length + (if ([]:List Keyword).isEmpty then 0 else 1) < 30) = true:=by rfl)
  (hline:(apos.endLine == cpos.line) = true:=by rfl) (hs:notStar e = true:=by rfl) (hplain:es.all notStar = true:=by rfl) :
  PEf X (.Call (.Attribute o name apos) (e :: es) [] cpos) (mthF T g fo fa) :=
 PE.weaken (pe_bm pa slot hty hm ho ha hbase (by rw [plain_all (by rw [List.all_cons,hs,hplain]; rfl),hfew]; rfl) hline (starEach_cons hs) (plain_of hplain)) fun σ H Q z3_ => by
  obtain ⟨O,ρ,L,d,L',r,e,k⟩:=z3_
  unfold mthF at e
  cases e1:fo ρ L with
  | none => rw [e1] at e; cases e
  | some p =>
   rw [e1] at e
   simp only [Option.bind_some] at e
   split at e
   ·rename_i ht
    cases e2:fa ρ p.2 with
    | none => rw [e2] at e; cases e
    | some q =>
     rw [e2] at e
     simp only [Option.bind_some] at e
     refine ⟨O,ρ,L,p.1,p.2,r,e1,fun v H1 O1 st rs is => ⟨tyD_is rs is ht,O1,ρ,p.2,q.1,q.2,r.to st rs,e2,fun vs H2 O2 st2 rs2 is2 => ?_⟩⟩
     exact ⟨O2,q.2,p.1,q.1,d,L',rs2,is.mono st2,is2,e,fun w H' O' st' rs' is' => k w H' O' ((st.trans st2).trans st') rs' is'⟩
   ·cases e
noncomputable def gS0s (f:Str → Str):GM:=fun x xs L => match x,xs with | .str z,[] => if (f z).length ≤ 16777216 then some (.str (f z),L) else none | _,_ => none
theorem md_s {id:String} {f:Str → Str} (h:∀ (z:Str) (t:Tok) (s:Shared) (Q E:Value → Shared → Prop),Builtin.Str.tooLong (f z).length = false → Q (.str (f z) s.toks) { s with toks:=s.toks + 1 } → wpAny (model X.prog X.w) X.A (call (.builtin id) [.str z t]) Q E s):MtD X id (gS0s f) :=
 fun pins s σ H x xs v us Q I rx rs z12_ => by
  obtain ⟨O,L,dx,dxs,d,L',rp,ix,ixs,e,k⟩:=z12_
  unfold gS0s at e
  split at e
  ·split at e
   ·rename_i hz
    cases e; cases ix; cases ixs; cases rs
    obtain ⟨t,rfl⟩:=rx
    exact h _ _ _ _ _ (decide_eq_false (by rw [sizeLine_eq]; omega)) ⟨.str _,H,I.tok _,⟨_,rfl⟩,k _ _ _ (.refl _ _) rp (.str _ hz)⟩
   ·cases e
  ·cases e
theorem md_upper:MtD X "str.upper" (gS0s Txt.upper):=md_s fun _ _ _ _ _ hz h => SC.upper hz h
theorem md_lower:MtD X "str.lower" (gS0s Txt.lower):=md_s fun _ _ _ _ _ hz h => SC.lower hz h
noncomputable def gAppend:GM:=fun x xs L => match x,xs with
 | .ref k,[y] => (match L[k]? with | some (.lst ds) => if ds.length < 16777216 then some (.non,L.set k (.lst (ds ++ [y]))) else none | _ => none)
 | _,_ => none
theorem md_append:MtD X "list.append" gAppend:=MtR.weaken (show MtR X "list.append" rAppend from mt_append) fun v vs H Q z4_ => by
 obtain ⟨O,L,dx,dxs,d,L',rp,ix,ixs,e,k⟩:=z4_
 unfold gAppend at e
 split at e
 ·split at e
  ·rename_i ds hd
   split at e
   ·rename_i hz
    cases e
    cases ix with | @ref kk a hk =>
     cases ixs with | @cons v1 y1 _ _ i1 i2 =>
      cases i2
      obtain ⟨ws,hw,il⟩:=rp.ob _ _ _ hk hd
      refine ⟨_,ws,_,rfl,rfl,hw,by rw [il.length,sizeLine_eq]; exact hz,?_⟩
      have st:Step H O (upd H a (.lst (ws ++ [v1]))) O:=⟨.write hw id,List.prefix_refl _⟩
      exact k _ _ _ st (rp.write (o':=.lst (ds ++ [_])) hk ⟨_,upd_same,(il.mono st).append (.cons (i1.mono st) .nil)⟩) .non
   ·cases e
  ·cases e
 ·cases e
end
noncomputable def tyName (x:D) (L:Sto):Option String:=match x with
 | .non => some "NoneType" | .bl _ => some "bool" | .int _ => some "int" | .str _ => some "str" | .tup _ => some "tuple" | .fz _ => some "list"
 | .ref k => (match L[k]? with | some (.lst _) => some "list" | some (.dk _) => some "dict" | _ => none)
 | .ty _ => none
noncomputable def instOf (t T:String):Bool:=t == T || (t == "bool" && T == "int")
noncomputable def gInst:GL:=fun xs L => match xs with
 | [x,.ty T] => if ["int","str","bool","list","tuple","dict"].contains T then (tyName x L).map fun t => (.bl (instOf t T),L) else none
 | _ => none
section
variable {X:Cx}
theorem kit_tab (K:PySem.W.Frag) {t T:String} (ht:t ∈ ["NoneType","bool","int","str","tuple","list","dict"]) (hT:T ∈ ["int","str","bool","list","tuple","dict"]):PySem.W.kitOne K (.type t) (.type T) = some (instOf t T):=by
 simp only [List.mem_cons,List.not_mem_nil,or_false] at ht hT
 rcases ht with rfl | rfl | rfl | rfl | rfl | rfl | rfl <;> rcases hT with rfl | rfl | rfl | rfl | rfl | rfl <;> first | rfl | decide
theorem cd_inst:CallD X (.builtin "isinstance") gInst:=fun pins s σ H xs us Q I r z9_ => by
 obtain ⟨O,L,ds,d,L',rp,is,e,k⟩:=z9_
 unfold gInst at e
 split at e
 ·rename_i x T
  split at e
  ·rename_i hT
   have hT':T ∈ ["int","str","bool","list","tuple","dict"]:=by simpa using hT
   cases is with | cons i1 i2 => cases i2 with | cons i3 i4 =>
    cases i4
    cases i3
    obtain ⟨u,u2,rfl,r1,r2⟩:=vals2 r
    cases r2
    cases ht:tyName x L with
    | none => rw [ht] at e; cases e
    | some t =>
     rw [ht] at e
     cases e
     have fin:∀ tk,EP X pins σ Q (.bool (instOf t T)) { s with toks:=tk }:=fun tk => ⟨.bl _,H,I.tok _,rfl,k _ _ _ (.refl _ _) rp (.bl _)⟩
     cases i1 with
     | non => cases ht; exact isinst_ok I r1 .non (kit_tab _ (by simp) hT') fin
     | bl b => cases ht; exact isinst_ok I r1 (.bl b) (kit_tab _ (by simp) hT') fin
     | int b => cases ht; exact isinst_ok I r1 (.int b) (kit_tab _ (by simp) hT') fin
     | str b _ => cases ht; exact isinst_ok I r1 (.str b) (kit_tab _ (by simp) hT') fin
     | tup hq il =>
      cases ht
      cases r1
      obtain ⟨its,rv,pl,_⟩:=I.tuple hq
      obtain ⟨o,h1,h2,_⟩:=pl
      exact PySem.W.kia_one PySem.W.kitx_tuple I.kIn ⟨o,h1,h2⟩ (kit_tab _ (by simp) hT') (fun z => nomatch z) fin
     | fz hq il =>
      cases ht
      cases r1
      obtain ⟨its,rv,pl,_⟩:=I.list hq.sql
      obtain ⟨o,h1,h2,_⟩:=pl.isList
      exact PySem.W.kia_one PySem.W.kitx_list I.kIn ⟨o,h1,h2⟩ (kit_tab _ (by simp) hT') (fun z => nomatch z) fin
     | ref hk =>
      simp only [tyName] at ht
      split at ht
      ·rename_i e2
       cases ht
       obtain ⟨vs,hv,_⟩:=rp.ob _ _ _ hk e2
       exact isinst_ok I r1 (.lst hv) (kit_tab _ (by simp) hT') fin
      ·rename_i e2
       cases ht
       obtain ⟨vs,hv,_⟩:=rp.ob _ _ _ hk e2
       exact isinst_ok I r1 (.dK hv) (kit_tab _ (by simp) hT') fin
      ·cases ht
     | ty n => cases ht
  ·cases e
 ·cases e
theorem ef_ty {x:Str} {T:String} {pos:Pos} (hm:X.mg x = none) (hv:bootBuiltins x = some (.type T)) (hg:Gl X x:=by rfl) (hn:x ≠ "__name__":=by decide) (hd:(x == ("__debug__":Str)) = false:=by decide):PEf X (.Name x pos) (cst (.ty T)) :=
 ef_const (pe_bltn hg hm hv (v:=.ty T) rfl hn hd) fun _ _ => .ty T
theorem ef_glob {x:Str} {v:V} {u:Value} {d:D} {pos:Pos} (hm:X.mg x = some u) (r:RelV v u) (i:∀ H O,Is X.K H O v d) (hg:Gl X x:=by rfl) (hd:(x == ("__debug__":Str)) = false:=by decide):PEf X (.Name x pos) (cst d):=ef_const (pe_glob hg hm r hd) i
end
noncomputable def compChk (names fnames:List (Str × NameKind)) (N N':List Str) (n:Nat) (idx:List Nat):Bool :=
 names.all (fun p => !(p.2 == .cell)) && names.all (fun p => !(p.2 == .local) || names.lookup p.1 == some .local) && names.all (fun p => !(p.2 == .free) || fnames.lookup p.1 == some .cell || fnames.lookup p.1 == some .free) &&
 N'.length == n + idx.length && (List.range idx.length).all fun j => match idx[j]? with
  | some i => (match N'[n + j]?,N[i]? with | some x,some y => x == y && names.contains (x,.free) && names.all (fun p => !(p.1 == x) || p.2 == .free) | _,_ => false)
  | none => false
theorem compOk_of {X:Cx} {scope:Scope} {N N':List Str} {n:Nat} {idx:List Nat} {fnames:List (Str × NameKind)} (h1:scope.kind = .function) (hk:∀ x,X.env.kindOf x = fnames.lookup x) (hN:X.N = N) (hc:compChk scope.names fnames N N' n idx = true):CompOk X scope N' n idx:=by
 subst hN
 unfold compChk at hc
 simp only [Bool.and_eq_true] at hc
 obtain ⟨⟨⟨⟨c1,c2⟩,c3⟩,c4⟩,c5⟩:=hc
 rw [List.all_eq_true] at c1 c2 c3 c5
 refine ⟨h1,fun y hy e => ?_,fun y hy e => ?_,fun y hy e => ?_,beq_iff_eq.mp c4,fun j i e => ?_⟩
 ·have:=c1 y hy
  rw [e] at this
  exact absurd this (by decide)
 ·have:=c2 y hy
  rw [e] at this
  simpa using this
 ·have:=c3 y hy
  rw [e] at this
  rw [hk]
  simpa using this
 ·have hj:=(List.getElem?_eq_some_iff.mp e).1
  have:=c5 j (List.mem_range.mpr hj)
  rw [e] at this
  simp only at this
  cases q1:N'[n + j]? with
  | none => simp [q1] at this
  | some x =>
   cases q2:X.N[i]? with
   | none => simp [q1,q2] at this
   | some y =>
    simp only [q1,q2,Bool.and_eq_true] at this
    obtain ⟨⟨a1,a2⟩,a3⟩:=this
    have a1':x = y:=beq_iff_eq.mp a1
    subst a1'
    refine ⟨x,rfl,rfl,by simpa using a2,fun k hk' => ?_⟩
    rw [List.all_eq_true] at a3
    have:=a3 _ hk'
    simpa using this
open PySem.W in
theorem attach_bits {l:OpenLaw} {n:Nat} {q:Program} {loose:List Str} {XP:(Str → Option Value) → Heap → Prop} {YP:World → Heap → Prop} {d:DefRec}
  (hn:l.most = some n) (hdf:d.params.defaults = [])
  (call:∀ (w:World) (s₀ s₁:Shared) (mg mb:Str → Option Value) (fa:Addr) (a:Addr) (vs:List Value) (ns:List Int),
   Ground q loose [] XP w s₀ mg mb s₁.heap → YP w s₁.heap → mg d.name = some (.ref fa) →
   s₁.heap.get? a = some { cls:=.type "list",data:=.seq vs.toArray } → IntsAre vs ns → ns.length ≤ n → (∀ z ∈ ns,Builtin.Int.intBits z ≤ 1048576) → s₁.gens = #[] →
   codeAny (model l.prog w) callerA (.call (.ref fa) ⟨[.ref a],[]⟩) (fun r s' => r = .ok (.ret (.bool true)) ∧ OldK s₁.heap s'.heap ∧ s'.os = s₁.os ∧ AllBare s'.gens) s₁) :
  WalkO q loose XP YP l.row.toRowW d [] (fun f vs => PySem.call f vs):=by
 intro w s₀ s₁ mg mb G Y fa o pm cd doc dV kV ho hd hcd hD hmg hg args vals as hpre hlay hrd hwl hlo
 obtain rfl:dV = .none:=Dflts.none hD hdf
 obtain rfl:kV = .none:=Dflts.noKw hD
 obtain ⟨a,vs,ns,rfl,rfl,hobj,hints,hlen⟩:=Att.script_of hn hpre hwl
 have hb:∀ z ∈ ns,Builtin.Int.intBits z ≤ 1048576:=fun z hz => by
  have h1:=layableW_arg hlay _ List.mem_cons_self
  have h2:=layableW_item h1 (.int z) (List.mem_map.mpr ⟨z,hz,rfl⟩)
  have h3:=(layableW_iff.mp h2).2.2
  simpa only [WData.weight,Builtin.Int.intBits] using h3
 refine enter_call (codeAny_mono (call w s₀ s₁ mg mb fa a vs ns G Y hmg hobj hints hlen hb hg) fun r s' hq => ?_)
 obtain ⟨rfl,h2,h3,h4⟩:=hq
 exact ⟨.inl ⟨.bool true,.bool true,[],rfl,fun _ => rfl,.bool true,Att.post_true l _,fun _ => ⟨List.Pairwise.nil,fun _ hm => (nomatch hm)⟩⟩,h2,h3,h4⟩
theorem isl_ints {K:PySem.W.Frag} {H:Hp} {O:List Addr}:∀ ns:List Int,IsL K H O (ns.map V.int) (ns.map D.int)
 | [] => .nil
 | n :: ns => .cons (.int n) (isl_ints ns)
theorem walk_f {l:PySem.W.OpenLaw} {n k:Nat} {q:Program} {loose:List Str} {XP:(Str → Option Value) → Heap → Prop} {YP:World → Heap → Prop} {d:DefRec} {K:Params → PySem.W.Frag} {x:Str} {G:GL}
  (hn:l.most = some n) (hn2:n ≤ sizeLine) (hdf:d.params.defaults = []) (hr:Room k callerA)
  (hY:∀ (w:World) (h:Heap),YP w h → (K w.params).In h)
  (F:∀ (w:World) (mg:Str → Option Value) (fa:Addr) (h:Heap),(K w.params).In h → h.Ns mainGlobals mg → mg d.name = some (.ref fa) →
   ∃ fd:FuncData,(∀ (s:Shared) (u:Value),BindsTo s fd ⟨[u],[]⟩ [(x,u)]) ∧
    ∀ base:Heap,(K w.params).In base → base.Ns mainGlobals mg → FnOk l.prog w (K w.params) mg base CX0 k fa fd [x] (spF (K w.params) G))
  (hG:∀ ns:List Int,ns.length ≤ n → (∀ z ∈ ns,Builtin.Int.intBits z ≤ 1048576) → ∃ L',G [.fz (ns.map .int)] [] = some (.bl true,L')) :
  PySem.W.WalkO q loose XP YP l.row.toRowW d [] (fun f vs => PySem.call f vs):=by
 refine attach_bits hn hdf fun w s₀ s₁ mg mb fa a vs ns GG Y hmg hobj hints hlen hb hg => ?_
 have KX:=hY w _ Y
 obtain ⟨fd,hbd,hF⟩:=F w mg fa _ KX GG.T.g hmg
 refine law_call KX GG.T.g GG.T.b GG.T.builtins GG.T.nolimit hg hobj hints (Nat.le_trans hlen hn2) hr hF hbd (fun H hO hS => ?_) fun H e s' h => h
 obtain ⟨L',e⟩:=hG ns hlen hb
 have hS':SqF (K w.params) H a (ns.map V.int):=by
  rcases hS with (h | h) | h
  ·rcases hO a with z | ⟨o,xs,z⟩
   ·rw [h] at z; cases z
   ·rw [h] at z; cases z
  ·exact .inl h
  ·exact .inr h
 exact ⟨[],[],[.fz (ns.map .int)],.bl true,L',⟨rfl,List.nodup_nil,fun k a o e => by simp at e⟩,.cons (.fz hS' (isl_ints ns)) .nil,e,fun w' H' O' st rs is => by cases is; rfl⟩
section
variable {X:Cx} {a l tg:Expr} {f:EF} {pos:Pos}
noncomputable def gNeg:G1:=fun x L => match x with | .int i => some (.int (-i),L) | _ => none
theorem ef_neg (ha:PEf X a f):PEf X (.UnaryOp .USub a pos) (un1 gNeg f):=PE.weaken (pe_un un_neg ha) fun σ H Q z3_ => by
 obtain ⟨O,ρ,L,d,L',r,e,k⟩:=z3_
 unfold un1 at e
 cases e1:f ρ L with
 | none => rw [e1] at e; cases e
 | some p =>
  rw [e1] at e
  obtain ⟨x,L1⟩:=p
  cases x <;> simp only [Option.bind_some,gNeg] at e <;> try (cases e; done)
  cases e
  refine ⟨O,ρ,L,_,_,r,e1,fun v H1 O1 st rs is => ?_⟩
  cases is
  exact ⟨_,rfl,k _ _ _ st rs (.int _)⟩
structure GCon (K:PySem.W.Frag) (mg:Str → Option Value) (x:Str) (d:D):Prop where
 ex:∃ v u,mg x = some u ∧ RelV v u ∧ ∀ H O,Is K H O v d
theorem ef_gcon {x:Str} {d:D} (h:GCon X.K X.mg x d) (hg:Gl X x:=by rfl) (hd:(x == ("__debug__":Str)) = false:=by decide):PEf X (.Name x pos) (cst d):=by
 obtain ⟨v,u,a,b,c⟩:=h.ex
 exact ef_glob a b c hg hd
noncomputable def itOf (d:D) (L:Sto):Option ItD:=match d with
 | .tup xs => some ⟨xs,fun _ => true⟩
 | .fz xs => some ⟨xs,fun _ => true⟩
 | .ref k => (match L[k]? with | some (.lst xs) => some ⟨xs,fun L' => decide (L'[k]? = some (.lst xs))⟩ | _ => none)
 | .str y => some ⟨sgs y,fun _ => true⟩
 | _ => none
noncomputable def iAnyF (f:EF):IF:=fun ρ L => (f ρ L).bind fun x => (itOf x.1 x.2).bind fun J => some (J,x.2)
theorem pif_any (hl:PEf X l f):PIf X tg l (iAnyF f):=fun pins s σ H R I z6_ => by
 obtain ⟨O,ρ,L,J,L',r,e,k⟩:=z6_
 unfold iAnyF at e
 cases e1:f ρ L with
 | none => rw [e1] at e; cases e
 | some p =>
  rw [e1] at e
  obtain ⟨d,L1⟩:=p
  simp only [Option.bind_some] at e
  cases d <;> simp only [itOf,Option.bind_some,Option.bind_none] at e <;> try (cases e; done)
  ·exact pif_str hl pins s σ H R I ⟨O,ρ,L,J,L',r,by simp only [iStrF,e1,Option.bind_some]; exact e,k⟩
  ·exact pif_tup hl pins s σ H R I ⟨O,ρ,L,J,L',r,by simp only [iTupF,e1,Option.bind_some]; exact e,k⟩
  ·exact pif_lst hl pins s σ H R I ⟨O,ρ,L,J,L',r,by simp only [iLstF,e1,Option.bind_some]; exact e,k⟩
  ·rename_i kk
   refine pif_lst hl pins s σ H R I ⟨O,ρ,L,J,L',r,?_,k⟩
   simp only [iLstF,e1,Option.bind_some]
   cases e2:L1[kk]? with
   | none => rw [e2] at e; cases e
   | some o => rw [e2] at e; cases o <;> simp at e ⊢ <;> exact e
end
theorem bt_int:bootBuiltins "int" = some (.type "int"):=by decide +kernel
theorem bt_str:bootBuiltins "str" = some (.type "str"):=by decide +kernel
theorem bt_bool:bootBuiltins "bool" = some (.type "bool"):=by decide +kernel
theorem bt_list:bootBuiltins "list" = some (.type "list"):=by decide +kernel
theorem bt_tuple:bootBuiltins "tuple" = some (.type "tuple"):=by decide +kernel
theorem bt_len:bootBuiltins "len" = some (.builtin "len"):=by decide +kernel
theorem bt_abs:bootBuiltins "abs" = some (.builtin "abs"):=by decide +kernel
theorem bt_min:bootBuiltins "min" = some (.builtin "min"):=by decide +kernel
theorem bt_all:bootBuiltins "all" = some (.builtin "all"):=by decide +kernel
theorem bt_isinstance:bootBuiltins "isinstance" = some (.builtin "isinstance"):=by decide +kernel
noncomputable def BlOk (mg:Str → Option Value) (ns:List Str):Prop:=∀ x ∈ ns,mg x = none
theorem BlOk.get {mg:Str → Option Value} {ns:List Str} (h:BlOk mg ns) (x:Str) (hx:x ∈ ns:=by decide):mg x = none:=h x hx
noncomputable def atTop (p:Program) (i:Nat):Stmt:=p.main.body.getD i (.Pass ⟨0,0,0,0⟩)
noncomputable def runG (B:SF) (N:List Str) (n:Nat):GL:=fun xs L => if xs.length = n then
  (match B (startD N xs) L with
   | some (.ret d L2) => some (if d.noRef = true ∧ L2.take L.length = L then (d,L) else (d,L2))
   | some (.next _ L2) => some (if L2.take L.length = L then (.non,L) else (.non,L2))
   | _ => none)
 else none
theorem pre_of_take {L L2:Sto} (h:L2.take L.length = L):L <+: L2:=⟨L2.drop L.length,by have:=List.take_append_drop L.length L2; rw [h] at this; exact this⟩
theorem runG_runs {B:SF} {N:List Str} {n:Nat} {xs:List D} {L:Sto} {d:D} {L':Sto} (h:runG B N n xs L = some (d,L')):Runs B N xs L d L':=by
 unfold runG at h
 split at h
 ·split at h
  ·rename_i d2 L2 e
   split at h
   ·rename_i c
    cases h
    exact ⟨L2,.inl e,.inr ⟨rfl,pre_of_take c.2,c.1⟩⟩
   ·cases h
    exact ⟨_,.inl e,.inl rfl⟩
  ·rename_i ρ L2 e
   split at h
   ·rename_i c
    cases h
    exact ⟨L2,.inr ⟨rfl,ρ,e⟩,.inr ⟨rfl,pre_of_take c,rfl⟩⟩
   ·cases h
    exact ⟨_,.inr ⟨rfl,ρ,e⟩,.inl rfl⟩
  ·cases h
 ·cases h
theorem runG_len {B:SF} {N:List Str} {n:Nat} {xs:List D} {L:Sto} {r:D × Sto} (h:runG B N n xs L = some r):xs.length = n:=by
 unfold runG at h
 split at h
 ·assumption
 ·cases h
section
variable {P:Program} {w:World} {K:PySem.W.Frag} {mg:Str → Option Value} {base:Heap}
theorem fnd_of {x qual:Str} {st:Stmt} {f:Addr} {fd:FuncData} {N ps:List Str} {k:Nat} {B:SF} (Fn:Fun K x qual st f fd) (S:FnScope N ps (defScope st))
  (hb:∀ (cdv:Value) (A:Around) (outer:List Env) (s:Shared) (H:Hp) (E:XK),Room k (A.deeper (envOfC qual (defScope st) s.heap.objs.size f cdv)) →
   PSsf (cxOf CX0 P w K mg base N qual (defScope st) f cdv A outer s H E).nox (defBody st) B)
  (bi:Binds K fd ps []) (m:mg x = some (.ref f)) (kp:PySem.W.keepIn K (.ref f) = true):FnD P w K mg base (k + 1) x (runG B N ps.length) :=
 ⟨f,fd,ps,fn_f Fn S _ B (fun _ _ _ h => runG_len h) hb (fun _ _ _ _ h => runG_runs h),m,kp,bi⟩
structure TupK (K:PySem.W.Frag) (u:Value) (d:D):Prop where
 ex:∃ v,RelV v u ∧ ∀ H O,Is K H O v d
theorem tupk_int {i:Int} {t:Tok}:TupK K (.int i t) (.int i):=⟨.int i,⟨t,rfl⟩,fun _ _ => .int i⟩
theorem tupk_str {x:Str} {t:Tok} (h:x.length ≤ 16777216):TupK K (.str x t) (.str x):=⟨.str x,⟨t,rfl⟩,fun _ _ => .str x h⟩
theorem tupk_non:TupK K .none .non:=⟨.non,rfl,fun _ _ => .non⟩
inductive TupsK (K:PySem.W.Frag):List Value → List D → Prop
 | nil:TupsK K [] []
 | cons {u:Value} {d:D} {us:List Value} {ds:List D}:TupK K u d → TupsK K us ds → TupsK K (u :: us) (d :: ds)
theorem TupsK.get:∀ {us:List Value} {ds:List D},TupsK K us ds → ∃ vs,Vals vs us ∧ ∀ H O,IsL K H O vs ds
 | _,_,.nil => ⟨[],.nil,fun _ _ => .nil⟩
 | _,_,.cons a b => by
  obtain ⟨v,r,i⟩:=a.ex
  obtain ⟨vs,rs,is⟩:=b.get
  exact ⟨v :: vs,.cons r rs,fun H O => .cons (i H O) (is H O)⟩
theorem tupk_tup {a:Addr} {od:Option Addr} {its:List Value} {n:Nat} {sl:Array (Option Value)} {ds:List D} (l:K.lookup a = some ⟨.type "tuple",od,.seq its.toArray n,sl⟩) (hz:its.length ≤ sizeLine) (t:TupsK K its ds):TupK K (.ref a) (.tup ds):=by
 obtain ⟨vs,rv,is⟩:=t.get
 exact ⟨.ref a,rfl,fun H O => .tup (.inr ⟨_,its.toArray,n,l,rfl,rfl,by simpa using hz,by simpa using rv⟩) (is H O)⟩
theorem gcon_of {x:Str} {u:Value} {d:D} (m:mg x = some u) (t:TupK K u d):GCon K mg x d:=by
 obtain ⟨v,r,i⟩:=t.ex
 exact ⟨v,u,m,r,i⟩
end
theorem len1 {α:Type} {us:List α} (h:us.length = 1):∃ a,us = [a]:=List.length_eq_one_iff.mp h
theorem lenS {α:Type} {us:List α} {n:Nat} (h:us.length = n + 1):∃ a vs,us = a :: vs ∧ vs.length = n:=by
 cases us with
 | nil => cases h
 | cons a vs => exact ⟨a,vs,rfl,Nat.succ.inj h⟩
theorem len0 {α:Type} {us:List α} (h:us.length = 0):us = []:=List.length_eq_zero_iff.mp h
theorem len2 {α:Type} {us:List α} (h:us.length = 2):∃ a b,us = [a,b]:=by
 obtain ⟨a,vs,rfl,h'⟩:=lenS h
 obtain ⟨b,rfl⟩:=len1 h'
 exact ⟨a,b,rfl⟩
theorem len3 {α:Type} {us:List α} (h:us.length = 3):∃ a b c,us = [a,b,c]:=by
 obtain ⟨a,vs,rfl,h'⟩:=lenS h
 obtain ⟨b,c,rfl⟩:=len2 h'
 exact ⟨a,b,c,rfl⟩
theorem len4 {α:Type} {us:List α} (h:us.length = 4):∃ a b c d,us = [a,b,c,d]:=by
 obtain ⟨a,vs,rfl,h'⟩:=lenS h
 obtain ⟨b,c,d,rfl⟩:=len3 h'
 exact ⟨a,b,c,d,rfl⟩
noncomputable def shp (x:D) (L:Sto):Option (Bool × List D):=match x with
 | .tup xs => some (true,xs)
 | .fz xs => some (false,xs)
 | .ref k => (match L[k]? with | some (.lst xs) => some (false,xs) | _ => none)
 | _ => none
noncomputable def allO:List (Option Bool) → Option Bool
 | [] => some true
 | none :: _ => none
 | some b :: r => (allO r).map (b && ·)
noncomputable def eqN:Nat → Sto → D → D → Option Bool
 | 0,_,_,_ => none
 | n + 1,L,x,y =>
  if flatD x = true then (if flatD y = true then some (eqP x y) else (shp y L).map fun _ => false)
  else (shp x L).bind fun p => if flatD y = true then some false else (shp y L).bind fun q =>
   if p.1 = q.1 then (allO ((p.2.zip q.2).map fun z => eqN n L z.1 z.2)).map (· && p.2.length == q.2.length) else some false
theorem eqN_succ (n:Nat) (L:Sto) (x y:D):eqN (n + 1) L x y = if flatD x = true then (if flatD y = true then some (eqP x y) else (shp y L).map fun _ => false)
  else (shp x L).bind fun p => if flatD y = true then some false else (shp y L).bind fun q =>
   if p.1 = q.1 then (allO ((p.2.zip q.2).map fun z => eqN n L z.1 z.2)).map (· && p.2.length == q.2.length) else some false:=rfl
theorem allO_get:∀ {os:List (Option Bool)} {b:Bool},allO os = some b → ∃ bs:List Bool,os = bs.map some ∧ b = bs.all id
 | [],b,h => by cases h; exact ⟨[],rfl,rfl⟩
 | none :: _,b,h => by cases h
 | some c :: r,b,h => by
  simp only [allO] at h
  cases e:allO r with
  | none => rw [e] at h; cases h
  | some d =>
   rw [e] at h
   cases h
   obtain ⟨bs,e1,e2⟩:=allO_get e
   exact ⟨c :: bs,by rw [e1]; rfl,by rw [e2]; rfl⟩
section
variable {X:Cx} {pins:List (Addr × Obj)} {σ:L2.St} {H:Hp} {s:Shared} {O:List Addr} {L:Sto}
theorem shp_is (I:Inv X pins σ H s) (rs:RepS X.K H O L) {v:V} {x:D} {t:Bool} {xs:List D} (i:Is X.K H O v x) (e:shp x L = some (t,xs)) :
  ∃ (a:Addr) (vs:List V) (its:List Value),v = .ref a ∧ IsL X.K H O vs xs ∧ Vals vs its ∧ (if t = true then s.heap.IsTuple a its.toArray else s.heap.IsList a its.toArray):=by
 cases i with
 | tup h il =>
  cases e
  obtain ⟨its,r,hp,_⟩:=I.tuple h
  exact ⟨_,_,its,rfl,il,r,hp⟩
 | fz h il =>
  cases e
  obtain ⟨its,r,hp,_⟩:=I.list h.sql
  exact ⟨_,_,its,rfl,il,r,hp.isList⟩
 | ref hk =>
  simp only [shp] at e
  split at e
  ·rename_i ys e2
   cases e
   obtain ⟨vs,hv,iv⟩:=rs.ob _ _ _ hk e2
   obtain ⟨its,r,hp,_⟩:=I.list (SqL.of hv)
   exact ⟨_,vs,its,rfl,iv,r,hp.isList⟩
  ·cases e
 | _ => cases e
theorem seq_inj {a:Addr} {us ws:List Value} {t:Bool} (h1:if t = true then s.heap.IsTuple a us.toArray else s.heap.IsList a us.toArray) (h2:if t = true then s.heap.IsTuple a ws.toArray else s.heap.IsList a ws.toArray):us = ws:=by
 have q:us.toArray = ws.toArray:=by
  cases t
  ·obtain ⟨o,ho,hc,n,hd⟩:=h1
   obtain ⟨o2,ho2,hc2,n2,hd2⟩:=h2
   rw [ho] at ho2; cases ho2
   rw [hd] at hd2; cases hd2; rfl
  ·obtain ⟨o,ho,hc,n,hd⟩:=h1
   obtain ⟨o2,ho2,hc2,n2,hd2⟩:=h2
   rw [ho] at ho2; cases ho2
   rw [hd] at hd2; cases hd2; rfl
 simpa using congrArg Array.toList q
theorem flat_ne_ref {v:V} {x:D} {a:Addr} (i:Is X.K H O v x) (f:flatD x = true):v ≠ .ref a:=by
 cases i <;> first | (intro z; cases z; done) | (simp [flatD] at f)
theorem eqP_self {x:D} (f:flatD x = true):eqP x x = true:=by
 cases x <;> simp [flatD] at f <;> simp [eqP,toV,eqV]
theorem eqN_same (I:Inv X pins σ H s) (rs:RepS X.K H O L):∀ (n:Nat) {v:V} {x y:D} {b:Bool},Is X.K H O v x → Is X.K H O v y → eqN n L x y = some b → b = true
 | 0,_,_,_,_,_,_,e => by cases e
 | n + 1,v,x,y,b,ix,iy,e => by
  simp only [eqN] at e
  by_cases fx:flatD x = true
  ·rw [if_pos fx] at e
   by_cases fy:flatD y = true
   ·rw [if_pos fy] at e
    cases e
    have:x = y:=(toV_inj fx fy).mp ((flat_toV ix fx).symm.trans (flat_toV iy fy))
    subst this
    exact eqP_self fx
   ·rw [if_neg fy] at e
    cases hy:shp y L with
    | none => rw [hy] at e; cases e
    | some q =>
     obtain ⟨a,_,_,hv,_⟩:=shp_is I rs iy hy
     exact absurd hv (flat_ne_ref ix fx)
  ·rw [if_neg fx] at e
   cases hx:shp x L with
   | none => rw [hx] at e; cases e
   | some p =>
    rw [hx] at e
    simp only [Option.bind_some] at e
    obtain ⟨a,vs,its,hv,il,r,hp⟩:=shp_is I rs ix hx
    by_cases fy:flatD y = true
    ·exact absurd hv (flat_ne_ref iy fy)
    ·rw [if_neg fy] at e
     cases hy:shp y L with
     | none => rw [hy] at e; cases e
     | some q =>
      rw [hy] at e
      simp only [Option.bind_some] at e
      obtain ⟨a',vs',its',hv',il',r',hp'⟩:=shp_is I rs iy hy
      rw [hv] at hv'
      cases hv'
      obtain ⟨t,xs⟩:=p
      obtain ⟨t',ys⟩:=q
      simp only at e hp hp' il il'
      by_cases ht:t = t'
      ·subst ht
       rw [if_pos rfl] at e
       have hits:=seq_inj hp hp'
       subst hits
       have hvs:=r.inj r'
       subst hvs
       cases q:allO ((xs.zip ys).map fun z => eqN n L z.1 z.2) with
       | none => rw [q] at e; cases e
       | some c =>
        rw [q] at e
        cases e
        obtain ⟨bs,e1,rfl⟩:=allO_get q
        rw [Bool.and_eq_true]
        refine ⟨?_,beq_iff_eq.mpr (il.length.symm.trans il'.length)⟩
        rw [List.all_eq_true]
        intro c hc
        obtain ⟨j,hj,rfl⟩:=List.getElem_of_mem hc
        have e2:((xs.zip ys).map fun z => eqN n L z.1 z.2)[j]? = some (some bs[j]):=by rw [e1]; simp [hj]
        rw [List.getElem?_map] at e2
        cases e3:(xs.zip ys)[j]? with
        | none => rw [e3] at e2; cases e2
        | some z =>
         rw [e3] at e2
         simp only [Option.map_some,Option.some.injEq] at e2
         rw [List.getElem?_zip_eq_some] at e3
         obtain ⟨v1,h1,i1⟩:=il.get e3.1
         obtain ⟨v2,h2,i2⟩:=il'.get e3.2
         rw [h1] at h2; cases h2
         exact eqN_same I rs n i1 i2 e2
      ·exfalso
       cases t <;> cases t' <;> first | exact ht rfl | skip
       ·exact SeqAt.ne_of_list_tuple hp hp' rfl
       ·exact SeqAt.ne_of_list_tuple hp' hp rfl
theorem flat_seq_eqAt {A:Around} {v u:V} {a:Addr} {w w':Value} {its:List Value} {t:Bool} (hu:A.units < cLine) (f:flatV v = true) (rv:RelV v w) (hp:if t = true then s.heap.IsTuple a its.toArray else s.heap.IsList a its.toArray) :
  SeqAt.EqAt A s w (.ref a) false ∧ SeqAt.EqAt A s (.ref a) w false:=by
 cases v with
 | non => cases rv; cases t; exact ⟨.none_list hp hu,.list_none hp hu⟩; exact ⟨.none_tuple hp hu,.tuple_none hp hu⟩
 | bl b => cases rv; cases t; exact ⟨.bool_list b hp hu,.list_bool b hp hu⟩; exact ⟨.bool_tuple b hp hu,.tuple_bool b hp hu⟩
 | int b => obtain ⟨k,rfl⟩:=rv; cases t; exact ⟨.int_list b k hp hu,.list_int b k hp hu⟩; exact ⟨.int_tuple b k hp hu,.tuple_int b k hp hu⟩
 | str b => obtain ⟨k,rfl⟩:=rv; cases t; exact ⟨.str_list b k hp hu,.list_str b k hp hu⟩; exact ⟨.str_tuple b k hp hu,.tuple_str b k hp hu⟩
 | _ => cases f
theorem all_range (bs:List Bool):(List.range bs.length).all (fun j => bs.getD j false) = bs.all id:=by
 rw [Bool.eq_iff_iff,List.all_eq_true,List.all_eq_true]
 constructor
 ·intro h c hc
  obtain ⟨j,hj,rfl⟩:=List.getElem_of_mem hc
  have:=h j (List.mem_range.mpr hj)
  simpa [hj] using this
 ·intro h j hj
  have hj':=List.mem_range.mp hj
  have:=h bs[j] (List.getElem_mem hj')
  simpa [hj'] using this
theorem pairs_eqAt {A:Around} {xs ys:List D} {vs ws:List V} {us zs:List Value} {n:Nat} {bs:List Bool} (ix:IsL X.K H O vs xs) (iy:IsL X.K H O ws ys) (rx:Vals vs us) (ry:Vals ws zs)
  (e1:(xs.zip ys).map (fun z => eqN n L z.1 z.2) = bs.map some)
  (rec:∀ {v w:V} {x y:D} {u z:Value} {b:Bool},Is X.K H O v x → Is X.K H O w y → RelV v u → RelV w z → eqN n L x y = some b → SeqAt.EqAt A s u z b) :
  ∀ j (h1:j < us.toArray.size) (h2:j < zs.toArray.size),SeqAt.EqAt A s us.toArray[j] zs.toArray[j] (bs.getD j false):=by
 intro j h1 h2
 have h1':j < us.length:=by simpa using h1
 have h2':j < zs.length:=by simpa using h2
 have hx:j < xs.length:=by rw [← ix.length,rx.length]; exact h1'
 have hy:j < ys.length:=by rw [← iy.length,ry.length]; exact h2'
 obtain ⟨v,hv,iv⟩:=ix.get (i:=j) (d:=xs[j]) (by simp [hx])
 obtain ⟨w,hw,iw⟩:=iy.get (i:=j) (d:=ys[j]) (by simp [hy])
 obtain ⟨u,hu,ru⟩:=rx.get hv
 obtain ⟨z,hz,rz⟩:=ry.get hw
 have eu:us.toArray[j] = u:=by
  have:=List.getElem?_eq_some_iff.mp hu
  obtain ⟨_,q⟩:=this; simpa using q
 have ez:zs.toArray[j] = z:=by
  have:=List.getElem?_eq_some_iff.mp hz
  obtain ⟨_,q⟩:=this; simpa using q
 rw [eu,ez]
 have hb:j < bs.length:=by
  have:=congrArg List.length e1
  simp at this
  omega
 have e2:((xs.zip ys).map fun z => eqN n L z.1 z.2)[j]? = some (some bs[j]):=by rw [e1]; simp [hb]
 have e3:(xs.zip ys)[j]? = some (xs[j],ys[j]):=by rw [List.getElem?_zip_eq_some]; exact ⟨by simp [hx],by simp [hy]⟩
 rw [List.getElem?_map,e3] at e2
 simp only [Option.map_some,Option.some.injEq] at e2
 have e4:bs.getD j false = bs[j]:=by simp [hb]
 rw [e4]
 exact rec iv iw ru rz e2
theorem seq_rcAt {A:Around} {a c:Addr} {xs ys:List D} {vs ws:List V} {us zs:List Value} {n:Nat} {t b:Bool} (hu:A.units < cLine) (ix:IsL X.K H O vs xs) (iy:IsL X.K H O ws ys) (rx:Vals vs us) (ry:Vals ws zs)
  (hp:if t = true then s.heap.IsTuple a us.toArray else s.heap.IsList a us.toArray) (hq:if t = true then s.heap.IsTuple c zs.toArray else s.heap.IsList c zs.toArray)
  (e:(allO ((xs.zip ys).map fun z => eqN n L z.1 z.2)).map (· && xs.length == ys.length) = some b)
  (rec:∀ {v w:V} {x y:D} {u z:Value} {b:Bool},Is X.K H O v x → Is X.K H O w y → RelV v u → RelV w z → eqN n L x y = some b → SeqAt.EqAt A.in1 s u z b) :
  SeqAt.RcAt A s (.ref a) (.ref c) b ∧ SeqAt.RcNeAt A s (.ref a) (.ref c) (!b):=by
 cases q:allO ((xs.zip ys).map fun z => eqN n L z.1 z.2) with
 | none => rw [q] at e; cases e
 | some k =>
  rw [q] at e
  cases e
  obtain ⟨bs,e1,rfl⟩:=allO_get q
  have he:=pairs_eqAt ix iy rx ry e1 rec
  have lx:us.toArray.size = xs.length:=by simp [← rx.length,ix.length]
  have ly:zs.toArray.size = ys.length:=by simp [← ry.length,iy.length]
  have lb:bs.length = min xs.length ys.length:=by
   have:=congrArg List.length e1
   simpa using this.symm
  cases t
  ·by_cases hl:xs.length = ys.length
   ·have h1:=SeqAt.RcAt.lists hp hq (by omega) hu he
    have h2:=SeqAt.RcNeAt.lists hp hq (by omega) hu he
    rw [show us.toArray.size = bs.length by omega,all_range] at h1 h2
    have:(xs.length == ys.length) = true:=beq_iff_eq.mpr hl
    rw [this]
    simp only [Bool.and_true]
    exact ⟨h1,h2⟩
   ·have:(xs.length == ys.length) = false:=by simpa using hl
    rw [this]
    simp only [Bool.and_false]
    have hne:(us.toArray.size != zs.toArray.size) = true:=by rw [lx,ly]; simpa using hl
    exact ⟨SeqAt.RcAt.lists_lengths hp hq hne hu,SeqAt.RcNeAt.lists_lengths hp hq hne hu⟩
  ·have h1:=SeqAt.RcAt.tuples hp hq hu he
   have h2:=SeqAt.RcNeAt.tuples hp hq hu he
   rw [lx,ly,← lb,all_range] at h1 h2
   exact ⟨h1,h2⟩
theorem eqN_eqAt (I:Inv X pins σ H s) (rs:RepS X.K H O L):∀ (n:Nat) {A:Around} {v w:V} {x y:D} {u z:Value} {b:Bool},A.units + n < cLine → Is X.K H O v x → Is X.K H O w y → RelV v u → RelV w z → eqN n L x y = some b → SeqAt.EqAt A s u z b
 | 0,_,_,_,_,_,_,_,_,_,_,_,_,_,e => by cases e
 | n + 1,A,v,w,x,y,u,z,b,hu,ix,iy,ru,rz,e => by
  have e0:=e
  simp only [eqN] at e
  by_cases fx:flatD x = true
  ·rw [if_pos fx] at e
   by_cases fy:flatD y = true
   ·rw [if_pos fy] at e
    cases e
    have h1:=flat_toV ix fx
    have h2:=flat_toV iy fy
    subst h1 h2
    exact eqAt_V ru rz (flatV_toV fx) (flatV_toV fy)
   ·rw [if_neg fy] at e
    cases hy:shp y L with
    | none => rw [hy] at e; cases e
    | some q =>
     rw [hy] at e
     cases e
     obtain ⟨a,_,its,rfl,_,_,hp⟩:=shp_is I rs iy hy
     cases rz
     have h1:=flat_toV ix fx
     subst h1
     exact (flat_seq_eqAt (u:=.non) (w':=.none) (by omega) (flatV_toV fx) ru hp).1
  ·rw [if_neg fx] at e
   cases hx:shp x L with
   | none => rw [hx] at e; cases e
   | some p =>
    rw [hx] at e
    simp only [Option.bind_some] at e
    obtain ⟨a,vs,its,rfl,il,r,hp⟩:=shp_is I rs ix hx
    cases ru
    by_cases fy:flatD y = true
    ·rw [if_pos fy] at e
     cases e
     have h1:=flat_toV iy fy
     subst h1
     exact (flat_seq_eqAt (u:=.non) (w':=.none) (by omega) (flatV_toV fy) rz hp).2
    ·rw [if_neg fy] at e
     cases hy:shp y L with
     | none => rw [hy] at e; cases e
     | some q =>
      rw [hy] at e
      simp only [Option.bind_some] at e
      obtain ⟨c,ws,zs,rfl,il',r',hp'⟩:=shp_is I rs iy hy
      cases rz
      obtain ⟨t,xs⟩:=p
      obtain ⟨t',ys⟩:=q
      simp only at e hp hp' il il'
      by_cases ht:t = t'
      ·subst ht
       rw [if_pos rfl] at e
       by_cases hac:a = c
       ·subst hac
        have:=eqN_same I rs (n + 1) ix iy e0
        subst this
        exact .same _
       ·refine .of_refs hac (seq_rcAt (by omega) il il' r r' hp hp' e fun a1 a2 a3 a4 a5 => eqN_eqAt I rs n ?_ a1 a2 a3 a4 a5).1
        rw [Around.in1_units]; omega
      ·rw [if_neg ht] at e
       cases e
       cases t <;> cases t' <;> first | exact absurd rfl ht | skip
       ·exact .list_tuple hp hp' (by omega)
       ·exact .tuple_list hp hp' (by omega)
end
noncomputable def seqD (x:D) (L:Sto):Bool:=(shp x L).isSome
noncomputable def gEqD:G2:=fun x y L => if scalD x y = true then some (.bl (decide (x = y)),L) else if (seqD x L && seqD y L) = true then (eqN 30 L x y).map fun b => (.bl b,L) else none
noncomputable def gNeD:G2:=fun x y L => if scalD x y = true then some (.bl (!decide (x = y)),L) else if (seqD x L && seqD y L) = true then (match shp x L,shp y L with
  | some (t,_),some (t',_) => if t = t' then (eqN 30 L x y).map fun b => (.bl (!b),L) else none
  | _,_ => none) else none
section
variable {X:Cx}
theorem shp_flat {x:D} {L:Sto} {p:Bool × List D} (h:shp x L = some p):flatD x = false:=by cases x <;> first | rfl | (simp [shp] at h)
theorem eq_deep (hu:X.A.units + 64 < cLine):OpR X (compareOp .Eq) (fun v u H Q => ∃ O L x y b,RepS X.K H O L ∧ Is X.K H O v x ∧ Is X.K H O u y ∧ seqD x L = true ∧ seqD y L = true ∧ eqN 30 L x y = some b ∧ Q (.bl b) H):=by
 intro pins s σ H v u w z Q I rv ru h
 obtain ⟨O,L,x,y,b,rs,ix,iy,sx,sy,e,q⟩:=h
 unfold seqD at sx sy
 obtain ⟨⟨t,xs⟩,hx⟩:=Option.isSome_iff_exists.mp sx
 obtain ⟨⟨t',ys⟩,hy⟩:=Option.isSome_iff_exists.mp sy
 have fx:=shp_flat hx
 have fy:=shp_flat hy
 rw [show (30:Nat) = 29 + 1 from rfl,eqN_succ,if_neg (by rw [fx]; exact Bool.false_ne_true),hx,Option.bind_some,if_neg (by rw [fy]; exact Bool.false_ne_true),hy,Option.bind_some] at e
 obtain ⟨a,vs,its,rfl,il,r,hp⟩:=shp_is I rs ix hx
 obtain ⟨c,ws,zs,rfl,il',r',hp'⟩:=shp_is I rs iy hy
 cases rv
 cases ru
 simp only at e
 by_cases ht:t = t'
 ·subst ht
  rw [if_pos rfl] at e
  exact (seq_rcAt (by omega) il il' r r' hp hp' e fun a1 a2 a3 a4 a5 => eqN_eqAt I rs 29 (by rw [Around.in1_units]; omega) a1 a2 a3 a4 a5).1 _ _ _ _ ⟨.bl b,H,I,rfl,q⟩
 ·rw [if_neg ht] at e
  cases e
  cases t <;> cases t' <;> first | exact absurd rfl ht | skip
  ·exact SeqAt.RcAt.list_tuple hp hp' (by omega) _ _ _ _ ⟨.bl _,H,I,rfl,q⟩
  ·exact SeqAt.RcAt.tuple_list hp hp' (by omega) _ _ _ _ ⟨.bl _,H,I,rfl,q⟩
theorem ne_deep (hu:X.A.units + 64 < cLine):OpR X (compareOp .NotEq) (fun v u H Q => ∃ O L x y b t xs ys,RepS X.K H O L ∧ Is X.K H O v x ∧ Is X.K H O u y ∧ shp x L = some (t,xs) ∧ shp y L = some (t,ys) ∧ eqN 30 L x y = some b ∧ Q (.bl (!b)) H):=by
 intro pins s σ H v u w z Q I rv ru h
 obtain ⟨O,L,x,y,b,t,xs,ys,rs,ix,iy,hx,hy,e,q⟩:=h
 have fx:=shp_flat hx
 have fy:=shp_flat hy
 rw [show (30:Nat) = 29 + 1 from rfl,eqN_succ,if_neg (by rw [fx]; exact Bool.false_ne_true),hx,Option.bind_some,if_neg (by rw [fy]; exact Bool.false_ne_true),hy,Option.bind_some] at e
 obtain ⟨a,vs,its,rfl,il,r,hp⟩:=shp_is I rs ix hx
 obtain ⟨c,ws,zs,rfl,il',r',hp'⟩:=shp_is I rs iy hy
 cases rv
 cases ru
 rw [if_pos rfl] at e
 exact (seq_rcAt (by omega) il il' r r' hp hp' e fun a1 a2 a3 a4 a5 => eqN_eqAt I rs 29 (by rw [Around.in1_units]; omega) a1 a2 a3 a4 a5).2 _ _ _ _ ⟨.bl _,H,I,rfl,q⟩
theorem od_eqD (hu:X.A.units + 64 < cLine):OpD X (compareOp .Eq) gEqD:=OpR.weaken (OpR.or op_eq (eq_deep hu)) fun v u H Q z4_ => by
 obtain ⟨O,L,x,y,d,L',rs,ix,iy,e,k⟩:=z4_
 unfold gEqD at e
 split at e
 ·rename_i hs
  cases e
  have hs':=hs
  simp only [scalD,Bool.and_eq_true] at hs
  have h1:=flat_toV ix hs.1.1
  have h2:=flat_toV iy hs.1.2
  subst h1 h2
  refine .inl ⟨hs.2,?_⟩
  have:=k (.bl (decide (x = y))) _ _ (.refl _ _) rs (.bl _)
  have e:decide (toV x = toV y) = decide (x = y):=by
   by_cases h:x = y
   ·rw [decide_eq_true h,decide_eq_true ((toV_inj hs.1.1 hs.1.2).mpr h)]
   ·rw [decide_eq_false h,decide_eq_false (fun z => h ((toV_inj hs.1.1 hs.1.2).mp z))]
  rw [e]; exact this
 ·split at e
  ·rename_i hq
   rw [Bool.and_eq_true] at hq
   cases q:eqN 30 L x y with
   | none => rw [q] at e; cases e
   | some b =>
    rw [q] at e
    cases e
    exact .inr ⟨O,L,x,y,b,rs,ix,iy,hq.1,hq.2,q,k _ _ _ (.refl _ _) rs (.bl _)⟩
  ·cases e
theorem od_neD (hu:X.A.units + 64 < cLine):OpD X (compareOp .NotEq) gNeD:=OpR.weaken (OpR.or op_ne (ne_deep hu)) fun v u H Q z4_ => by
 obtain ⟨O,L,x,y,d,L',rs,ix,iy,e,k⟩:=z4_
 unfold gNeD at e
 split at e
 ·rename_i hs
  cases e
  simp only [scalD,Bool.and_eq_true] at hs
  have h1:=flat_toV ix hs.1.1
  have h2:=flat_toV iy hs.1.2
  subst h1 h2
  refine .inl ⟨hs.2,?_⟩
  have:=k (.bl (!decide (x = y))) _ _ (.refl _ _) rs (.bl _)
  have e:decide (toV x = toV y) = decide (x = y):=by
   by_cases h:x = y
   ·rw [decide_eq_true h,decide_eq_true ((toV_inj hs.1.1 hs.1.2).mpr h)]
   ·rw [decide_eq_false h,decide_eq_false (fun z => h ((toV_inj hs.1.1 hs.1.2).mp z))]
  rw [e]; exact this
 ·split at e
  ·split at e
   ·rename_i t xs t' ys hx hy
    split at e
    ·rename_i ht
     subst ht
     cases q:eqN 30 L x y with
     | none => rw [q] at e; cases e
     | some b =>
      rw [q] at e
      cases e
      exact .inr ⟨O,L,x,y,b,t,xs,ys,rs,ix,iy,hx,hy,q,k _ _ _ (.refl _ _) rs (.bl _)⟩
    ·cases e
   ·cases e
  ·cases e
end
noncomputable def neverF:SF:=fun _ _ => none
theorem sf_never {X:Cx} {st:Stmt}:PSf X st neverF:=PS.weaken ps_never fun D σ H ⟨O,ρ,L,out,r,e,k⟩ => by cases e
theorem fnd_none {P:Program} {w:World} {K:PySem.W.Frag} {mg:Str → Option Value} {base:Heap} {k:Nat} {x:Str} {f:Addr} {fd:FuncData} {ps:List Str} (bi:Binds K fd ps []) (m:mg x = some (.ref f)) (kp:PySem.W.keepIn K (.ref f) = true):FnD P w K mg base k x (fun _ _ => none) :=
 ⟨f,fd,ps,⟨(fun vs H Q E h => by obtain ⟨_,_,_,_,_,_,_,e,_⟩:=h; cases e),(fun A outer s H args us vs Q E _ _ _ _ h => by obtain ⟨_,_,_,_,_,_,_,e,_⟩:=h; cases e)⟩,m,kp,bi⟩
noncomputable def gPut (o i v:D) (L:Sto):Option Sto:=match o,i with
 | .ref k,.int j => (match L[k]? with | some (.lst xs) => (match ixN xs.length j with | some n => some (L.set k (.lst (xs.set n v))) | none => none) | _ => none)
 | _,_ => none
noncomputable def putF (fo fi fv:EF):SF:=fun ρ L => (fv ρ L).bind fun v => (fo ρ v.2).bind fun o => (fi ρ o.2).bind fun i => (gPut o.1 i.1 v.1 i.2).bind fun L' => some (.next ρ L')
section
variable {X:Cx} {a b c o i e:Expr} {fa fb fc fo fi fv:EF} {pos:Pos}
noncomputable def chainV (g g':G2) (fa fb fc:EF):EF:=fun ρ L => (fa ρ L).bind fun x => (fb ρ x.2).bind fun y => (g x.1 y.1 y.2).bind fun z => match z.1 with
 | .bl true => (fc ρ z.2).bind fun w => g' y.1 w.1 w.2
 | .bl false => some (.bl false,z.2)
 | _ => none
theorem chain_lift {K:PySem.W.Frag} {g g':G2} {σ:L2.St} {H:Hp} {Q:VK} (h:lift K (chainV g g' fa fb fc) σ H Q):tChain (rD K g) (rD K g') (lift K fa) (lift K fb) (lift K fc) σ H Q:=by
 obtain ⟨O,ρ,L,d,L',r,e,k⟩:=h
 unfold chainV at e
 cases e1:fa ρ L with
 | none => rw [e1] at e; cases e
 | some p =>
  rw [e1] at e
  simp only [Option.bind_some] at e
  cases e2:fb ρ p.2 with
  | none => rw [e2] at e; cases e
  | some q =>
   rw [e2] at e
   simp only [Option.bind_some] at e
   cases e3:g p.1 q.1 q.2 with
   | none => rw [e3] at e; cases e
   | some z =>
    rw [e3] at e
    simp only [Option.bind_some] at e
    refine ⟨O,ρ,L,p.1,p.2,r,e1,fun v H1 O1 st1 rs1 is1 => ⟨O1,ρ,p.2,q.1,q.2,r.to st1 rs1,e2,fun u H2 O2 st2 rs2 is2 => ?_⟩⟩
    refine ⟨O2,q.2,p.1,q.1,z.1,z.2,rs2,is1.mono st2,is2,e3,fun w H3 O3 st3 rs3 is3 => ?_⟩
    have stA:=(st1.trans st2).trans st3
    obtain ⟨zd,zL⟩:=z
    cases zd <;> try (cases e; done)
    rename_i bb
    cases is3
    refine ⟨bb,rfl,?_⟩
    cases bb with
    | false => cases e; exact iteF (k _ _ _ stA rs3 (.bl _))
    | true =>
     simp only at e
     cases e4:fc ρ zL with
     | none => rw [e4] at e; cases e
     | some w =>
      rw [e4] at e
      simp only [Option.bind_some] at e
      refine iteT ⟨O3,ρ,zL,w.1,w.2,r.to stA rs3,e4,fun u4 H4 O4 st4 rs4 is4 => ?_⟩
      exact ⟨O4,w.2,q.1,w.1,d,L',rs4,(is2.mono st3).mono st4,is4,e,fun y H5 O5 st5 rs5 is5 => k _ _ _ ((stA.trans st4).trans st5) rs5 is5⟩
theorem tf_chain {op op':CmpOp} {g g':G2} (ho:OpD X (compareOp op) g) (ho':OpD X (compareOp op') g') (ha:PEf X a fa) (hb:PEf X b fb) (hc:PEf X c fc)
  (hm:lastMarks [op,op'] [b,c] = false:=by with_unfolding_all rfl):PTf X (.Compare a [op,op'] [b,c] pos) (asT (chainV g g' fa fb fc)) :=
 PT.weaken (pt_chain ho ho' ha hb hc hm) fun σ H Q h => by
  have q:=asT_lift h
  exact chain_lift q
end
end L3
set_option maxHeartbeats 4000000
namespace HT
open PySem PySem.Spec PyProof.Rows
end HT
namespace L2
open PySem PySem.Spec PyProof.Rows
section
variable {X:Cx} {pos:Pos}
theorem PG.or {tg:Expr} {t t':TG} (h:PG X tg t) (h':PG X tg t'):PG X tg (fun v σ H Q => t v σ H Q ∨ t' v σ H Q):=by
 intro pins s σ H v u Q I r q
 rcases q with q | q
 ·exact h pins s σ H v u Q I r q
 ·exact h' pins s σ H v u Q I r q
end
end L2
namespace L3
open PySem PySem.Spec PyProof.Rows L2
noncomputable def putD (f:Str) (v:D):List (Str × D) → List (Str × D)
 | [] => [(f,v)]
 | (g,x) :: r => if g = f then (g,v) :: r else (g,x) :: putD f v r
section
variable {K:PySem.W.Frag} {H:Hp} {O:List Addr}
theorem lookup_is {f:Str} {d:D}:∀ {us:List (Str × V)} {fs:List (Str × D)},us.map (·.1) = fs.map (·.1) → IsL K H O (us.map (·.2)) (fs.map (·.2)) → fs.lookup f = some d → ∃ v,us.lookup f = some v ∧ Is K H O v d
 | [],[],_,_,h => by cases h
 | [],_ :: _,h,_,_ => by cases h
 | _ :: _,[],h,_,_ => by cases h
 | (g,u) :: us,(g',x) :: fs,hk,hi,hl => by
  simp only [List.map_cons,List.cons.injEq] at hk
  obtain ⟨rfl,hk⟩:=hk
  cases hi with
  | cons a b =>
   by_cases e:f = g
   ·subst e
    simp only [List.lookup,beq_self_eq_true,Option.some.injEq] at hl
    subst hl
    exact ⟨u,by simp [List.lookup],a⟩
   ·have hb:(f == g) = false:=beq_eq_false_iff_ne.mpr e
    simp only [List.lookup,hb] at hl
    obtain ⟨v,h1,h2⟩:=lookup_is hk b hl
    exact ⟨v,by simp only [List.lookup,hb]; exact h1,h2⟩
theorem put_is {f:Str} {v:V} {d:D} (iv:Is K H O v d):∀ {us:List (Str × V)} {fs:List (Str × D)},us.map (·.1) = fs.map (·.1) → IsL K H O (us.map (·.2)) (fs.map (·.2)) →
  (L2.putF f v us).map (·.1) = (putD f d fs).map (·.1) ∧ IsL K H O ((L2.putF f v us).map (·.2)) ((putD f d fs).map (·.2))
 | [],[],_,_ => ⟨rfl,.cons iv .nil⟩
 | [],_ :: _,h,_ => by cases h
 | _ :: _,[],h,_ => by cases h
 | (g,u) :: us,(g',x) :: fs,hk,hi => by
  simp only [List.map_cons,List.cons.injEq] at hk
  obtain ⟨rfl,hk⟩:=hk
  cases hi with
  | cons a b =>
   obtain ⟨h1,h2⟩:=put_is iv hk b
   unfold L2.putF putD
   by_cases e:g = f
   ·rw [if_pos e,if_pos e]
    exact ⟨by simp [hk],.cons iv b⟩
   ·rw [if_neg e,if_neg e]
    exact ⟨by simp [h1],.cons a h2⟩
end
structure FldOk (K:PySem.W.Frag) (c f:Str):Prop where
 ok:∀ C,ClsAt K c C → Cls K C ∧ NoAttr K C f
noncomputable def gFld (cs:List Str) (f:Str):G1:=fun x L => match x with
 | .ref k => (match L[k]? with | some (.ins c fs) => if c ∈ cs then (fs.lookup f).bind fun d => some (d,L) else none | _ => none)
 | _ => none
section
variable {X:Cx} {o e:Expr} {fo fe:EF} {f:Str} {cs:List Str} {pos pos':Pos}
theorem ef_fld (he:PEf X o fo) (hc:∀ c ∈ cs,FldOk X.K c f) (hb:attributeBase o f X.env (eval o X.env) = eval o X.env:=by rfl):PEf X (.Attribute o f pos) (un1 (gFld cs f) fo) :=
 PE.weaken (pe_fld he hb) fun σ H Q z3_ => by
  obtain ⟨O,ρ,L,d,L',r,e,k⟩:=z3_
  unfold un1 at e
  cases e1:fo ρ L with
  | none => rw [e1] at e; cases e
  | some p =>
   rw [e1] at e
   obtain ⟨x,L1⟩:=p
   simp only [Option.bind_some,gFld] at e
   refine ⟨O,ρ,L,x,L1,r,e1,fun v H1 O1 st rs is => ?_⟩
   cases is <;> try (cases e; done)
   rename_i kk a hk
   simp only at e
   cases e2:L1[kk]? with
   | none => rw [e2] at e; cases e
   | some ob =>
    rw [e2] at e
    cases ob with
    | lst _ => cases e
    | dk _ => cases e
    | dt _ _ => cases e
    | exn _ => cases e
    | ins c fs =>
     simp only at e
     split at e
     ·rename_i hcm
      obtain ⟨C,dx,us,hC,hH,hk1,hi⟩:=rs.ob _ _ _ hk e2
      cases e3:fs.lookup f with
      | none => rw [e3] at e; cases e
      | some d0 =>
       rw [e3] at e
       cases e
       obtain ⟨v',hv',iv⟩:=lookup_is hk1 hi e3
       obtain ⟨h1,h2⟩:=(hc c hcm).ok C hC
       exact ⟨a,C,dx,us,v',rfl,hH,h1,h2,hv',k _ _ _ st rs iv⟩
     ·cases e
noncomputable def putO (cs:List Str) (f:Str) (x v:D) (L:Sto):Option Sto:=match x with
 | .ref k => (match L[k]? with | some (.ins c fs) => if c ∈ cs ∧ fs.length < 1000 then some (L.set k (.ins c (putD f v fs))) else none | _ => none)
 | _ => none
noncomputable def putOF (cs:List Str) (f:Str) (fo fv:EF):SF:=fun ρ L => (fv ρ L).bind fun v => (fo ρ v.2).bind fun x => (putO cs f x.1 v.1 x.2).bind fun L' => some (.next ρ L')
theorem sf_putO (ho:PEf X o fo) (he:PEf X e fe) (hc:∀ c ∈ cs,FldOk X.K c f) (hs:swapsWith e (some (.Attribute o f pos')) pos.line X.env = pure false:=by rfl):PSf X (.Assign [.Attribute o f pos'] e pos) (putOF cs f fo fe) :=
 PS.weaken (ps_fld ho he hs) fun D σ H z3_ => by
  obtain ⟨O,ρ,L,out,r,e,k⟩:=z3_
  unfold putOF at e
  cases e1:fe ρ L with
  | none => rw [e1] at e; cases e
  | some p =>
   rw [e1] at e
   simp only [Option.bind_some] at e
   cases e2:fo ρ p.2 with
   | none => rw [e2] at e; cases e
   | some q =>
    rw [e2] at e
    simp only [Option.bind_some] at e
    obtain ⟨x,L2⟩:=q
    refine ⟨O,ρ,L,p.1,p.2,r,e1,fun y H1 O1 st1 rs1 is1 => ?_⟩
    refine ⟨O1,ρ,p.2,x,L2,r.to st1 rs1,e2,fun v H2 O2 st2 rs2 is2 => ?_⟩
    cases is2 <;> try (cases e; done)
    rename_i kk a hk
    simp only [putO] at e
    cases e3:L2[kk]? with
    | none => rw [e3] at e; cases e
    | some ob =>
     rw [e3] at e
     cases ob with
     | lst _ => cases e
     | dk _ => cases e
     | dt _ _ => cases e
     | exn _ => cases e
     | ins c fs =>
      simp only at e
      split at e
      ·rename_i hcm
       simp only [Option.bind_some] at e
       cases e
       obtain ⟨C,dx,us,hC,hH,hk1,hi⟩:=rs2.ob _ _ _ hk e3
       obtain ⟨h1,h2⟩:=(hc c hcm.1).ok C hC
       have hlen:us.length < 1000:=by
        have:=congrArg List.length hk1
        simp at this
        rw [this]; exact hcm.2
       refine ⟨a,C,dx,us,rfl,hH,h1,h2,hlen,?_⟩
       have st3:Step H2 O2 (upd H2 a (.ins C dx (_root_.L2.putF f y us))) O2:=⟨.write hH id,List.prefix_refl _⟩
       obtain ⟨g1,g2⟩:=put_is ((is1.mono st2).mono st3) hk1 (hi.mono st3)
       exact k σ _ O2 ((st1.trans st2).trans st3) (r.to ((st1.trans st2).trans st3) (rs2.write hk ⟨C,dx,_,hC,upd_same,g1,g2⟩))
      ·cases e
noncomputable def augO (cs:List Str) (f:Str) (g:Int → Int → Int) (fo fv:EF):SF:=fun ρ L => (fo ρ L).bind fun x => match x.1 with
 | .ref k => (match x.2[k]? with
  | some (.ins c fs) => if c ∈ cs then (match fs.lookup f with
   | some (.int i) => (fv ρ x.2).bind fun y => (match y.1 with
    | .int j => (match y.2[k]? with
     | some (.ins c' fs') => if c' = c ∧ fs'.length < 1000 then some (.next ρ (y.2.set k (.ins c (putD f (.int (g i j)) fs')))) else none
     | _ => none)
    | _ => none)
   | _ => none) else none
  | _ => none)
 | _ => none
theorem sf_augO {op:Operator} {g:Int → Int → Int} (ho:PEf X o fo) (he:PEf X e fe) (hc:∀ c ∈ cs,FldOk X.K c f) (hop:InOp X op fun x y H Q => ∃ i j,x = .int i ∧ y = .int j ∧ Q (.int (g i j)) H):PSf X (.AugAssign (.Attribute o f pos') op e pos) (augO cs f g fo fe) :=
 PS.weaken (ps_fldaug ho he hop) fun D σ H z3_ => by
  obtain ⟨O,ρ,L,out,r,e,k⟩:=z3_
  unfold augO at e
  cases e1:fo ρ L with
  | none => rw [e1] at e; cases e
  | some p =>
   rw [e1] at e
   obtain ⟨x,L1⟩:=p
   simp only [Option.bind_some] at e
   refine ⟨O,ρ,L,x,L1,r,e1,fun v H1 O1 st rs is => ?_⟩
   cases is <;> try (cases e; done)
   rename_i kk a hk
   simp only at e
   cases e2:L1[kk]? with
   | none => rw [e2] at e; cases e
   | some ob =>
    rw [e2] at e
    cases ob with
    | lst _ => cases e
    | dk _ => cases e
    | dt _ _ => cases e
    | exn _ => cases e
    | ins c fs =>
     simp only at e
     split at e
     ·rename_i hcm
      obtain ⟨C,dx,us,hC,hH,hk1,hi⟩:=rs.ob _ _ _ hk e2
      cases e3:fs.lookup f with
      | none => rw [e3] at e; cases e
      | some d0 =>
       rw [e3] at e
       cases d0 <;> try (cases e; done)
       rename_i i
       simp only at e
       obtain ⟨v',hv',iv⟩:=lookup_is hk1 hi e3
       obtain ⟨h1,h2⟩:=(hc c hcm).ok C hC
       refine ⟨a,C,dx,us,v',rfl,hH,h1,h2,hv',?_⟩
       cases e4:fe ρ L1 with
       | none => rw [e4] at e; cases e
       | some q =>
        rw [e4] at e
        obtain ⟨y,L2⟩:=q
        simp only [Option.bind_some] at e
        refine ⟨O1,ρ,L1,y,L2,r.to st rs,e4,fun w H2 O2 st2 rs2 is2 => ?_⟩
        cases y <;> try (cases e; done)
        rename_i j
        cases iv
        cases is2
        refine ⟨i,j,rfl,rfl,?_⟩
        simp only at e
        cases e5:L2[kk]? with
        | none => rw [e5] at e; cases e
        | some ob =>
         rw [e5] at e
         cases ob with
         | lst _ => cases e
         | dk _ => cases e
         | dt _ _ => cases e
         | exn _ => cases e
         | ins c' fs' =>
          simp only at e
          split at e
          ·rename_i hcm'
           cases e
           obtain ⟨rfl,hl⟩:=hcm'
           have hk':=pref_get st2.2 hk
           obtain ⟨C',dx',us',hC',hH',hk1',hi'⟩:=rs2.ob _ _ _ hk' e5
           have hCC:C' = C:=by
            unfold ClsAt at hC hC'
            rw [hC] at hC'
            cases hC'; rfl
           subst hCC
           have hlen:us'.length < 1000:=by
            have:=congrArg List.length hk1'
            simp at this
            rw [this]; exact hl
           refine ⟨dx',us',hH',hlen,?_⟩
           have st3:Step H2 O2 (upd H2 a (.ins C' dx' (_root_.L2.putF f (.int (g i j)) us'))) O2:=⟨.write hH' id,List.prefix_refl _⟩
           obtain ⟨g1,g2⟩:=put_is (Is.int (g i j)) hk1' (hi'.mono st3)
           exact k σ _ O2 ((st.trans st2).trans st3) (r.to ((st.trans st2).trans st3) (rs2.write hk' ⟨C',dx',_,hC',upd_same,g1,g2⟩))
          ·cases e
     ·cases e
theorem inop_add:InOp X .Add fun x y H Q => ∃ i j,x = .int i ∧ y = .int j ∧ Q (.int (i + j)) H:=in_add
noncomputable def augN (i:Nat) (g:Int → Int → Int) (fe:EF):SF:=fun ρ L => match ρ[i]? with
 | some (some (.int a)) => (fe ρ L).bind fun y => (match y.1 with | .int b => some (.next (ρ.set i (some (.int (g a b)))) y.2) | _ => none)
 | _ => none
theorem sf_augN {i:Nat} {x:Str} {op:Operator} {g:Int → Int → Int} (hN:X.N.Nodup) (he:PEf X e fe) (ho:PIp X op (ipI g)) (hi:X.N[i]? = some x:=by rfl) (hx:Loc X.env.scope x:=by first | exact Or.inl rfl | exact Or.inr rfl)
  (hf:X.fn x = true ∨ X.env.scope.names.lookup x = some .local:=by first | exact .inl rfl | exact .inr rfl):PSf X (.AugAssign (.Name x pos') op e pos) (augN i g fe) :=
 PS.weaken (ps_aug hN hi hx he ho hf) fun D σ H z3_ => by
  obtain ⟨O,ρ,L,out,r,e,k⟩:=z3_
  unfold augN at e
  split at e
  ·rename_i a ha
   obtain ⟨v,hv,iv⟩:=r.f.at' i _ ha
   cases iv
   refine ⟨_,hv,?_⟩
   cases e1:fe ρ L with
   | none => rw [e1] at e; cases e
   | some p =>
    rw [e1] at e
    obtain ⟨y,L1⟩:=p
    simp only [Option.bind_some] at e
    refine ⟨O,ρ,L,y,L1,r,e1,fun v H1 O1 st rs is => ?_⟩
    cases y <;> try (cases e; done)
    cases e
    cases is
    exact ⟨_,_,rfl,rfl,k _ _ _ st ⟨rs,(r.f.mono st).set (.int _) i⟩⟩
  ·cases e
end
structure FnM (P:Program) (w:World) (K:PySem.W.Frag) (mg:Str → Option Value) (base:Heap) (k:Nat) (c m:Str) (G:GL):Prop where
 ex:∃ C f fd ps,FnOk P w K mg base CX0 k f fd ps (spF K G) ∧ ClsAt K c C ∧ Cls K C ∧ Meth K C m f ∧ Binds K fd ps []
structure FnK (P:Program) (w:World) (K:PySem.W.Frag) (mg:Str → Option Value) (base:Heap) (k:Nat) (c:Str) (G:GL):Prop where
 ex:∃ C f fd ps j,FnOk P w K mg base CX0 j f fd ps (spF K G) ∧ j + 1 ≤ k ∧ mg c = some (.ref C) ∧ ClsAt K c C ∧ Mk K C f ∧ Binds K fd ps []
theorem FnM.mono {P:Program} {w:World} {K:PySem.W.Frag} {mg:Str → Option Value} {base:Heap} {j k:Nat} {c m:Str} {G:GL} (F:FnM P w K mg base j c m G) (h:j ≤ k):FnM P w K mg base k c m G:=by
 obtain ⟨C,f,fd,ps,a,b⟩:=F.ex
 exact ⟨C,f,fd,ps,a.mono h,b⟩
theorem FnK.mono {P:Program} {w:World} {K:PySem.W.Frag} {mg:Str → Option Value} {base:Heap} {j k:Nat} {c:Str} {G:GL} (F:FnK P w K mg base j c G) (h:j ≤ k):FnK P w K mg base k c G:=by
 obtain ⟨C,f,fd,ps,i,a,b,c⟩:=F.ex
 exact ⟨C,f,fd,ps,i,a,by omega,c⟩
noncomputable def mkO (c:Str) (G:GL) (a:AF):EF:=fun ρ L => (a ρ L).bind fun y => (G (.ref y.2.length :: y.1) (y.2 ++ [.ins c []])).bind fun z => match z.1 with
 | .non => some (.ref y.2.length,z.2)
 | _ => none
section
variable {X:Cx} {k:Nat} {c m x:Str} {G:GL} {p pos apos:Pos} {o e:Expr} {es:List Expr} {fo:EF} {f:AF}
theorem make_lift {C:Addr} (hC:ClsAt X.K c C) {t:TA} (ht:∀ σ H Q,liftA X.K f σ H Q → t σ H Q) {σ:L2.St} {H:Hp} {Q:VK} (h:lift X.K (mkO c G f) σ H Q):tMake C (spF X.K G) [] E0 t σ H Q:=by
 obtain ⟨O,ρ,L,d,L',r,e,k⟩:=h
 unfold mkO at e
 cases e1:f ρ L with
 | none => rw [e1] at e; cases e
 | some p =>
  rw [e1] at e
  obtain ⟨ys,L1⟩:=p
  simp only [Option.bind_some] at e
  cases e2:G (.ref L1.length :: ys) (L1 ++ [.ins c []]) with
  | none => rw [e2] at e; cases e
  | some z =>
   rw [e2] at e
   obtain ⟨zd,L2⟩:=z
   cases zd <;> simp only [Option.bind_some] at e <;> try (cases e; done)
   cases e
   refine ht _ _ _ ⟨O,ρ,L,ys,L1,r,e1,fun vs H1 O1 st rs is x dx hx hdx hne => ?_⟩
   show rC X.K G (V.ref x :: (vs ++ [])) _ _
   rw [List.append_nil]
   have s1:Step H1 O1 (upd H1 dx (.own x)) O1:=⟨.new hdx,List.prefix_refl _⟩
   have rs1:RepS X.K (upd H1 dx (.own x)) O1 L1:=rs.ext fun a u e => by rw [upd_ne (ne_of_none e hdx)]; exact e
   have hx1:upd H1 dx (.own x) x = none:=by rw [upd_ne (Ne.symm hne)]; exact hx
   have s2:Step (upd H1 dx (.own x)) O1 (upd (upd H1 dx (.own x)) x (.ins C dx [])) (O1 ++ [x]):=⟨.new hx1,List.prefix_append _ _⟩
   have rs2:RepS X.K (upd (upd H1 dx (.own x)) x (.ins C dx [])) (O1 ++ [x]) (L1 ++ [.ins c []]):=rs1.new hx1 ⟨C,dx,[],hC,upd_same,rfl,.nil⟩
   have hk:(O1 ++ [x])[L1.length]? = some x:=by rw [← rs.len]; simp
   refine ⟨O1 ++ [x],L1 ++ [.ins c []],_,.non,_,rs2,.cons (.ref hk) (is.mono (s1.trans s2)),e2,fun w H' O' st' rs' is' => ?_⟩
   cases is'
   exact ⟨rfl,k _ H' O' ((st.trans (s1.trans s2)).trans st') rs' (.ref (pref_get st'.2 hk))⟩
theorem ef_make (F:FnK X.prog X.w X.K X.mg X.base k c G) (hr:Room k X.A) (ha:PAf X (e :: es) f) (hg:Gl X c:=by rfl) (hdb:(c == ("__debug__":Str)) = false:=by decide)
  (he:notStar e = true:=by rfl) (hpl:es.all notStar = true:=by rfl):PEf X (.Call (.Name c p) (e :: es) [] pos) (mkO c G f):=by
 obtain ⟨C,fa,fd,ps,j,a,hj,hm,hC,hM,bi⟩:=F.ex
 exact PE.weaken (pe_make (E:=E0) hM a (hr.mono hj) hg hm bi .nil pass0 ha hdb (starEach_cons he) (plain_of hpl)) fun σ H Q h => make_lift hC (fun _ _ _ h => h) h
end
theorem fld_nil {K:PySem.W.Frag} {f:Str}:∀ c ∈ ([]:List Str),FldOk K c f:=fun _ h => by cases h
theorem fld_cons {K:PySem.W.Frag} {f c:Str} {cs:List Str} (a:FldOk K c f) (b:∀ c ∈ cs,FldOk K c f):∀ x ∈ c :: cs,FldOk K x f:=fun x h => by
 rcases List.mem_cons.mp h with rfl | h
 ·exact a
 ·exact b x h
theorem fldok_of {K:PySem.W.Frag} {c f:Str} {C:Addr} (hC:ClsAt K c C) (cl:Cls K C) (n:PySem.W.findIn K (.ref C) f = some none):FldOk K c f:=⟨fun C' h => by
 have:C' = C:=by
  unfold ClsAt at hC h
  rw [hC] at h
  cases h; rfl
 subst this
 exact ⟨cl,n⟩⟩
section
variable {P:Program} {w:World} {K:PySem.W.Frag} {mg:Str → Option Value} {base:Heap}
theorem fnk_of {x qual c:Str} {C:Addr} {st:Stmt} {f:Addr} {fd:FuncData} {N ps:List Str} {k:Nat} {B:SF} (Fn:Fun K x qual st f fd) (S:FnScope N ps (defScope st))
  (hb:∀ (cdv:Value) (A:Around) (outer:List Env) (s:Shared) (H:Hp) (E:XK),Room k (A.deeper (envOfC qual (defScope st) s.heap.objs.size f cdv)) →
   PSsf (cxOf CX0 P w K mg base N qual (defScope st) f cdv A outer s H E).nox (defBody st) B)
  (bi:Binds K fd ps []) (mc:mg c = some (.ref C)) (hC:ClsAt K c C) (M:Mk K C f):FnK P w K mg base (k + 2) c (runG B N ps.length) :=
 ⟨C,f,fd,ps,k + 1,fn_f Fn S _ B (fun _ _ _ h => runG_len h) hb (fun _ _ _ _ h => runG_runs h),Nat.le_refl _,mc,hC,M,bi⟩
end
noncomputable def inCls (p:Program) (i j:Nat):Stmt:=match atTop p i with
 | .ClassDef _ _ _ body _ _ _ _ _ _ _ => body.getD j (.Pass ⟨0,0,0,0⟩)
 | s => s
noncomputable def whileN (t:TF) (b:SF):Nat → SF
 | 0 => fun _ _ => none
 | n + 1 => fun ρ L => (t ρ L).bind fun x => if x.1 = true then (b ρ x.2).bind fun out => (match out with
   | .next ρ2 L2 => whileN t b n ρ2 L2
   | .cont ρ2 L2 => whileN t b n ρ2 L2
   | .brk ρ2 L2 => some (.next ρ2 L2)
   | .ret d L2 => some (.ret d L2)) else some (.next ρ x.2)
noncomputable def whileF (t:TF) (b:SF):SF:=whileN t b 1000000
theorem sf_while {X:Cx} {c:Expr} {body:List Stmt} {t:TF} {b:SF} {pos:Pos} (hp:PassesOwn (model X.prog X.w) X.A X.env X.xe) (hc:PTf X c t) (hb:PSsf X body b):PSf X (.While c body [] pos) (whileF t b) :=
 PS.weaken (ps_while hp hc hb) fun D σ H z3_ => by
  obtain ⟨O,ρ,L,out,r,e,k⟩:=z3_
  refine ⟨fun n σ H => ∃ O ρ L,Rep X.K H O σ ρ L ∧ whileN t b n ρ L = some out ∧ PostS X.K H O D out,⟨1000000,O,ρ,L,r,e,k⟩,?_⟩
  rintro n σ1 H1 ⟨O1,ρ1,L1,r1,e1,k1⟩
  cases n with
  | zero => cases e1
  | succ n =>
   simp only [whileN] at e1
   cases e2:t ρ1 L1 with
   | none => rw [e2] at e1; cases e1
   | some p =>
    rw [e2] at e1
    obtain ⟨bb,L2⟩:=p
    simp only [Option.bind_some] at e1
    refine ⟨O1,ρ1,L1,bb,L2,r1,e2,fun H2 O2 st2 rs2 => ?_⟩
    cases bb with
    | false =>
     simp only [Bool.false_eq_true,if_false] at e1 ⊢
     cases e1
     exact k1 _ _ _ st2 (r1.to st2 rs2)
    | true =>
     simp only [if_true] at e1 ⊢
     refine ⟨fun σ' H' => ∃ O ρ L,Rep X.K H' O σ' ρ L ∧ whileN t b n ρ L = some out ∧ PostS X.K H' O D out,fun σ' H' h => ⟨n,Nat.lt_succ_self _,h⟩,?_⟩
     cases e3:b ρ1 L2 with
     | none => rw [e3] at e1; cases e1
     | some o1 =>
      rw [e3] at e1
      simp only [Option.bind_some] at e1
      refine ⟨O2,ρ1,L2,o1,r1.to st2 rs2,e3,?_⟩
      cases o1 with
      | next ρ2 L3 => exact fun σ' H' O' st' r' => ⟨O',ρ2,L3,r',e1,(k1.mono st2).mono st'⟩
      | cont ρ2 L3 => exact fun σ' H' O' st' r' => ⟨O',ρ2,L3,r',e1,(k1.mono st2).mono st'⟩
      | brk ρ2 L3 => cases e1; exact fun σ' H' O' st' r' => k1 _ _ _ (st2.trans st') r'
      | ret d L3 => cases e1; exact fun v H' O' st' r' i' => k1 _ _ _ (st2.trans st') r' i'
theorem ints_items:∀ {ns:List Int} {its:List Value},Vals (ns.map V.int) its → ∃ xs:List (Int × Tok),its = xs.map (fun p => Value.int p.1 p.2) ∧ xs.map (·.1) = ns
 | [],_,h => by cases h; exact ⟨[],rfl,rfl⟩
 | n :: ns,_,h => by
  cases h with
  | cons a b =>
   obtain ⟨t,rfl⟩:=(show ∃ t,_ = Value.int n t from a)
   obtain ⟨xs,rfl,e⟩:=ints_items b
   exact ⟨(n,t) :: xs,rfl,by simp [e]⟩
noncomputable def intsD:List D → Option (List Int)
 | [] => some []
 | .int b :: r => (intsD r).map (b :: ·)
 | _ => none
theorem intsD_is {K:PySem.W.Frag} {H:Hp} {O:List Addr}:∀ {vs:List V} {ds:List D} {bs:List Int},IsL K H O vs ds → intsD ds = some bs → vs = bs.map V.int
 | _,_,_,.nil,e => by cases e; rfl
 | _,d :: ds,bs,.cons a b,e => by
  cases a <;> simp only [intsD] at e <;> try (cases e; done)
  cases q:intsD ds with
  | none => rw [q] at e; cases e
  | some r =>
   rw [q] at e
   cases e
   rw [intsD_is b q]; rfl
section
variable {X:Cx}
theorem call_sum_ints (hc:X.calm = true):CallR X (.builtin "sum") (fun xs H Q => ∃ (p:Addr) (ns:List Int),xs = [.ref p] ∧ SqL X.K H p (ns.map V.int) ∧ Q (.int ns.sum) H):=by
 intro pins s σ H xs us Q I r h
 obtain ⟨p,ns,rfl,hq,q⟩:=h
 obtain ⟨u,rfl,rx⟩:=vals1 r
 cases rx
 obtain ⟨its,rv,pl,hz⟩:=I.list hq
 obtain ⟨ps,rfl,rfl⟩:=ints_items rv
 have hl:s.heap.IsList p (intItems ps.toArray):=by
  have:=pl.isList
  have e:(ps.map (fun p => Value.int p.1 p.2)).toArray = intItems ps.toArray:=by simp [intItems]
  rw [← e]; exact this
 refine PySem.sum_intListG (I.ok.hd hc) hl fun h' tk t' hk => ⟨.int (ps.map (·.1)).sum,H,I.kept hk,⟨t',?_⟩,q⟩
 rw [preSum_eq,List.take_of_length_le (by simp)]
noncomputable def lstD (xs:List D) (L:Sto):Option (List D):=match xs with
 | [.ref k] => (match L[k]? with | some (.lst ds) => some ds | _ => none)
 | _ => none
noncomputable def gSum:GL:=fun xs L => (lstD xs L).bind fun ds => (intsD ds).bind fun ns => some (.int ns.sum,L)
theorem lstD_is {K:PySem.W.Frag} {H:Hp} {O:List Addr} {L:Sto} {vs:List V} {xs ds:List D} (rs:RepS K H O L) (is:IsL K H O vs xs) (e:lstD xs L = some ds):∃ (p:Addr) (us:List V),vs = [.ref p] ∧ SqL K H p us ∧ IsL K H O us ds:=by
 unfold lstD at e
 split at e
 ·split at e
  ·rename_i ds' hd
   cases e
   cases is with | cons i1 i2 =>
    cases i2
    cases i1 with | ref hk =>
     obtain ⟨us,hv,il⟩:=rs.ob _ _ _ hk hd
     exact ⟨_,us,rfl,SqL.of hv,il⟩
  ·cases e
 ·cases e
theorem bind_some_inv {α β:Type} {o:Option α} {f:α → Option β} {b:β} (h:o.bind f = some b):∃ a,o = some a ∧ f a = some b:=Option.bind_eq_some_iff.mp h
theorem cd_sum (hc:X.calm = true):CallD X (.builtin "sum") gSum:=CallR.weaken (call_sum_ints hc) fun vs H Q z3_ => by
 obtain ⟨O,L,xs,d,L',rs,is,e,k⟩:=z3_
 obtain ⟨ds,e1,e⟩:=bind_some_inv e
 obtain ⟨ns,e2,e⟩:=bind_some_inv e
 cases e
 obtain ⟨p,us,rfl,hq,il⟩:=lstD_is rs is e1
 rw [intsD_is il e2] at hq
 exact ⟨p,ns,rfl,hq,k _ _ _ (.refl _ _) rs (.int _)⟩
end
theorem bt_sum:bootBuiltins "sum" = some (.builtin "sum"):=by decide +kernel
section
variable {L:Sto} {Q:D → Sto → Prop} {k:Nat} {ds:List D}
theorem lstD_ref (e:L[k]? = some (.lst ds)):lstD [.ref k] L = some ds:=by simp [lstD,e]
end
end L3
set_option maxHeartbeats 4000000
namespace L3
open PySem PySem.Spec PyProof.Rows L2 Builtin Builtin.Str
inductive EntsK (K:PySem.W.Frag):List DictEntry → List (Str × D) → Prop
 | nil:EntsK K [] []
 | cons {h:Int} {x:Str} {t:Tok} {u:Value} {d:D} {es:List DictEntry} {ds:List (Str × D)}:TupK K u d → EntsK K es ds → EntsK K (⟨h,.str x t,u⟩ :: es) ((x,d) :: ds)
theorem EntsK.at {K:PySem.W.Frag} (z:Str):∀ {es:List DictEntry} {ds:List (Str × D)},EntsK K es ds → TupK K ((findBy Value.isStrOf es.toArray z).getD .none) ((ds.lookup z).getD .non)
 | _,_,.nil => tupk_non
 | _,_,.cons (x:=x) (t:=t) (u:=u) (d:=d) (es:=es) (ds:=ds) a b => by
  have ih:=EntsK.at z b
  unfold findBy at ih ⊢
  rw [List.find?_toArray] at ih ⊢
  rw [List.find?_cons]
  by_cases h:z = x
  ·subst h
   have e1:Value.isStrOf z (.str z t) = true:=by simp [Value.isStrOf]
   simp only [e1,List.lookup,beq_self_eq_true]
   exact a
  ·have e1:Value.isStrOf z (.str x t) = false:=by
    have:¬ x = z:=fun q => h q.symm
    simp [Value.isStrOf,this]
   have e2:(z == x) = false:=beq_eq_false_iff_ne.mpr h
   simp only [e1,List.lookup,e2]
   exact ih
theorem obj_has {P:Program} {w:World} {H:Hp} {h:Heap} {a:Addr} {o:HO} (x:ObjOk P w H h a o):∃ u,h.get? a = some u:=by
 cases o with
 | lst xs => obtain ⟨_,_,_,_,e⟩:=x; exact ⟨_,e⟩
 | tup xs => obtain ⟨_,_,_,o,e,_⟩:=x; exact ⟨_,e⟩
 | dK kvs => obtain ⟨_,_,_,_,o,_,_,e,_⟩:=x; exact ⟨_,e⟩
 | dT kvs => obtain ⟨_,_,_,_,o,_,_,e,_⟩:=x; exact ⟨_,e⟩
 | dN kvs ep => obtain ⟨_,_,_,_,o,_,e,_⟩:=x; exact ⟨_,e⟩
 | set S n => obtain ⟨o,_,_,_,e,_⟩:=x; exact ⟨_,e⟩
 | ins C dx fs => obtain ⟨_,_,_,e,_⟩:=x; exact ⟨_,e⟩
 | own y => exact x
 | xd fs => obtain ⟨_,⟨_,_,_,e,_⟩,_⟩:=x; exact ⟨_,e⟩
 | rng lo hi => obtain ⟨_,_,_,e⟩:=x; exact ⟨_,e⟩
 | frz ob u => obtain ⟨e,_⟩:=x; exact ⟨_,e⟩
 | tbl ps => exact ⟨_,(show h.get? a = some _ from x)⟩
 | met f y => exact ⟨_,(show h.get? a = some _ from x)⟩
 | ext φ => obtain ⟨_,e,_⟩:=x; exact e
noncomputable def Cov (B:Heap) (l:List Env) (h0:Heap) (H:Hp):Prop:=(∀ b o,h0.get? b = some o → b ∉ frs l → ∃ u,B.get? b = some u) ∧ ∀ b u,H b = some u → ∃ o,B.get? b = some o
noncomputable def CXX (P:Program) (w:World):CXT:=fun outer H s E e s' => ∃ (ea:Addr) (cv a0:Value) (H':Hp) (B:Heap),e = .ref ea ∧ s'.os = s.os ∧ AllBare s'.gens ∧ Un (frs outer) [] H H' s.heap s'.heap ∧ HOk P w H' s'.heap ∧
 Heap.FlyingW B outer ea cv a0 s'.heap ∧ Cov B outer s.heap H' ∧ E cv none H'
noncomputable def XS (X:Cx) (cv:Value) (e:Value) (H:Hp) (s':Shared):Prop:=∃ (pins:List (Addr × Obj)) (σ:L2.St) (ea:Addr),e = .ref ea ∧
 ((∃ s2 vs,Inv X pins σ H s2 ∧ Heap.MadeExcOf s2.heap s'.heap ea cv vs ∧ s'.os = s2.os ∧ s'.gens = s2.gens) ∨
  ∃ (B:Heap) (a0:Value) (s2:Shared) (H2:Hp),Inv X pins σ H2 s2 ∧ s'.os = s2.os ∧ AllBare s'.gens ∧ Un (frs X.stack) [] H2 H s2.heap s'.heap ∧ HOk X.prog X.w H s'.heap ∧ Heap.FlyingW B X.stack ea cv a0 s'.heap ∧ Cov B X.stack s2.heap H)
section
variable {X:Cx} {pins:List (Addr × Obj)} {σ:L2.St} {H H2:Hp} {s2:Shared} {h h' B:Heap}
theorem un_after (I:Inv X pins σ H2 s2) (U:Un (frs X.stack) [] H2 H s2.heap h) (hok:HOk X.prog X.w H h) (hB:B.StaysIn h) (hC:Cov B X.stack s2.heap H) (kB:B.StaysIn h') (up:h.UpToSlots h') :
  Un (frs X.stack) [] H2 H s2.heap h' ∧ HOk X.prog X.w H h':=by
 have kept:∀ b u o,B.get? b = some u → h.get? b = some o → h'.get? b = some o:=fun b u o e q => by
  have:=hB b u e
  rw [q] at this; cases this
  exact kB b _ e
 refine ⟨⟨fun b o q n hb hx => ?_,fun b o q n hb hx => ?_,U.free,fun b o q hx => ?_,U.tups,U.frzs,U.tbls⟩,fun a o e => ?_⟩
 ·obtain ⟨u,e⟩:=hC.1 b o q hb
  exact kept b u o e (U.keep b o q n hb hx)
 ·obtain ⟨sl,e⟩:=U.slot b o q n hb hx
  obtain ⟨_,o',ho',hd⟩:=I.stack.mem hb
  rw [q] at ho'; cases ho'
  obtain ⟨sl',e'⟩:=up b _ e hd
  exact ⟨sl',e'⟩
 ·obtain ⟨o',e⟩:=U.there b o q hx
  by_cases hb:b ∈ frs X.stack
  ·obtain ⟨sl,e2⟩:=U.slot b o q (I.stkFree b hb) hb hx
   obtain ⟨_,o2,ho2,hd⟩:=I.stack.mem hb
   rw [q] at ho2; cases ho2
   obtain ⟨sl',e'⟩:=up b _ e2 hd
   exact ⟨_,e'⟩
  ·obtain ⟨u,eu⟩:=hC.1 b o q hb
   exact ⟨_,kept b u o' eu e⟩
 ·refine (hok a o e).stay (fun b u hb q => ?_) (fun _ z => z) fun _ _ z => z
  have:∃ x,H b = some x:=by
   rcases hb with rfl | hb
   ·exact ⟨_,e⟩
   ·exact ⟨_,hb⟩
  obtain ⟨x,hx⟩:=this
  obtain ⟨u',eu⟩:=hC.2 b x hx
  exact kept b u' u eu q
theorem cov_made (I:Inv X pins σ H s2):Cov (PySem.W.hideAll s2.heap (frs X.stack)) X.stack s2.heap H :=
 ⟨fun b o q hb => ⟨o,PySem.W.hideAll_get _ q hb⟩,fun b u e => by
  obtain ⟨o,q⟩:=obj_has (I.hok b u e)
  exact ⟨o,PySem.W.hideAll_get _ q fun hb => by rw [I.stkFree b hb] at e; cases e⟩⟩
theorem frames_made (I:Inv X pins σ H s2):s2.heap.FunFrames (PySem.W.hideAll s2.heap (frs X.stack)) X.stack :=
 PySem.W.funFrames_hide I.stack fun env he a ha => List.mem_filterMap.mpr ⟨env,he,ha⟩
end
section
variable {P:Program} {w:World} {K:PySem.W.Frag} {mg:Str → Option Value} {base:Heap} {N:List Str} {qual:Str} {scope:Scope} {f:Addr} {cdv:Value} {A:Around} {outer:List Env} {s0:Shared} {H0:Hp} {E:XK}
theorem leave_un {pins:List (Addr × Obj)} {σ:L2.St} {H H2:Hp} {s2:Shared} {h':Heap} (I:Inv (cxOf (CXX P w) P w K mg base N qual scope f cdv A outer s0 H0 E) pins σ H2 s2)
  (U:Un (frs (cxOf (CXX P w) P w K mg base N qual scope f cdv A outer s0 H0 E).stack) [] H2 H s2.heap h'):Un (frs outer) [] H0 H s0.heap h':=by
 have hfr:frs (cxOf (CXX P w) P w K mg base N qual scope f cdv A outer s0 H0 E).stack = s0.heap.objs.size :: frs outer:=rfl
 rw [hfr] at U
 have hb:Un (frs outer) [] H0 H2 s0.heap s2.heap:=I.base
 have nn:∀ b o,s0.heap.get? b = some o → b ∉ frs outer → b ∉ s0.heap.objs.size :: frs outer:=fun b o q h z => by
  rcases List.mem_cons.mp z with rfl | z
  ·exact absurd (Heap.lt_size q) (Nat.lt_irrefl _)
  ·exact h z
 refine ⟨fun b o q n hf hx => U.keep b o (hb.keep b o q n hf hx) (hb.free b o q n hx) (nn b o q hf) hx,fun b o q n hf hx => ?_,fun b o q n hx => ?_,fun b o q hx => ?_,fun b xs q => U.tups b xs (hb.tups b xs q),fun b o u q => U.frzs b o u (hb.frzs b o u q),fun b ps q => ?_⟩
 ·obtain ⟨sl,e⟩:=hb.slot b o q n hf hx
  obtain ⟨sl',e'⟩:=U.slot b _ e (hb.free b o q n hx) (List.mem_cons_of_mem _ hf) hx
  exact ⟨sl',e'⟩
 ·obtain ⟨o',e⟩:=hb.there b o q hx
  exact U.free b o' e (hb.free b o q n hx) hx
 ·obtain ⟨o',e⟩:=hb.there b o q hx
  exact U.there b o' e hx
 ·obtain ⟨m1,e1⟩:=hb.tbls b ps q
  obtain ⟨m2,e2⟩:=U.tbls b _ e1
  exact ⟨m1 ++ m2,by rw [e2,Array.append_assoc]⟩
theorem cov_leave {pins:List (Addr × Obj)} {σ:L2.St} {H H2:Hp} {s2:Shared} {B:Heap} (I:Inv (cxOf (CXX P w) P w K mg base N qual scope f cdv A outer s0 H0 E) pins σ H2 s2)
  (C:Cov B (cxOf (CXX P w) P w K mg base N qual scope f cdv A outer s0 H0 E).stack s2.heap H):Cov B outer s0.heap H:=by
 refine ⟨fun b o q hf => ?_,C.2⟩
 obtain ⟨o',e⟩:=I.base.there b o q (by simp [cxOf])
 refine C.1 b o' e fun z => ?_
 have z':b ∈ s0.heap.objs.size :: frs outer:=z
 rcases List.mem_cons.mp z' with rfl | z'
 ·exact absurd (Heap.lt_size q) (Nat.lt_irrefl _)
 ·exact hf z'
theorem xs_leave {cv e:Value} {H:Hp} {s':Shared} (hE:E cv none H) (x:XS (cxOf (CXX P w) P w K mg base N qual scope f cdv A outer s0 H0 E) cv e H s'):(cxOf (CXX P w) P w K mg base N qual scope f cdv A outer s0 H0 E).xe e s':=by
 obtain ⟨pins,σ,ea,rfl,x⟩:=x
 show wpAny (model P w) (A.deeper (envOfC qual scope s0.heap.objs.size f cdv)) (leaving (envOfC qual scope s0.heap.objs.size f cdv) (.ref ea)) (fun _ s'' => CXX P w outer H0 s0 E (.ref ea) s'') (fun e' s'' => CXX P w outer H0 s0 E e' s'') s'
 rcases x with ⟨s2,vs,I,hx,ho,hg⟩ | ⟨B,a0,s2,H2,I,ho,hg,U,hok,fly,C⟩
 ·refine wpAny_leaves_madeW (base:=PySem.W.hideAll s2.heap (frs (envOfC qual scope s0.heap.objs.size f cdv :: outer))) (h:=s2.heap) I.ok.frames rfl (fun b o q => PySem.W.of_hideAll _ q) (frames_made I) hx fun h' t fly _ _ up => ?_
  have C:=cov_made I
  have U0:Un (frs (cxOf (CXX P w) P w K mg base N qual scope f cdv A outer s0 H0 E).stack) [] H H s2.heap s2.heap:=Un.refl
  obtain ⟨U,hok⟩:=un_after I U0 I.hok (fun b o q => PySem.W.of_hideAll _ q) C fly.1 ((Heap.UpToSlots.of_keeps hx.keeps).trans up)
  exact ⟨ea,cv,.ref t,H,_,rfl,ho.trans I.os,by show AllBare s'.gens; rw [hg]; exact I.bare,leave_un I U,hok,fly,cov_leave I C,hE⟩
 ·refine wpAny_leaves_onW (base:=B) I.ok.frames rfl fly fun h' fly' up => ?_
  obtain ⟨U',hok'⟩:=un_after I U hok fly.1 C fly'.1 up
  exact ⟨ea,cv,a0,H,B,rfl,ho.trans I.os,hg,leave_un I U',hok',fly',cov_leave I C,hE⟩
end
noncomputable abbrev SX:=Fm → Sto → Option (Str × Sto)
noncomputable abbrev GXL:=List D → Sto → Option (Str × Sto)
noncomputable def liftX (X:Cx) (fx:SX):L2.St → Hp → Prop:=fun σ H => ∃ O ρ L c L' C,Rep X.K H O σ ρ L ∧ fx ρ L = some (c,L') ∧ ClsAt X.K c C ∧
 ∀ H' O' e s',Step H O H' O' → RepS X.K H' O' L' → XS X (.ref C) e H' s' → X.xe e s'
noncomputable def PSx (X:Cx) (st:Stmt) (f:SF) (fx:SX):Prop:=PS X st fun E σ H => liftS X.K f E σ H ∨ liftX X fx σ H
noncomputable def PSsx (X:Cx) (st:List Stmt) (f:SF) (fx:SX):Prop:=PSs X st fun E σ H => liftS X.K f E σ H ∨ liftX X fx σ H
noncomputable def noX:SX:=fun _ _ => none
noncomputable def seqX (f:SF) (fx gx:SX):SX:=fun ρ L => match fx ρ L with
 | some r => some r
 | none => (match f ρ L with | some (.next ρ' L') => gx ρ' L' | _ => none)
noncomputable def ifX (t:TF) (fx gx:SX):SX:=fun ρ L => (t ρ L).bind fun x => if x.1 = true then fx ρ x.2 else gx ρ x.2
noncomputable def raiseX (c:Str):SX:=fun _ L => some (c,L)
section
variable {X:Cx} {st:Stmt} {rest:List Stmt} {f g:SF} {fx gx:SX} {e:Expr} {fe:EF} {pos:Pos}
theorem ps_nox {t:TS} (h:PS X.nox st t):PS X st t:=fun pins s σ H D I hw => wpAny_mono (h pins s σ H D (I.wish _) hw) (fun _ _ q => q.unwish) fun _ _ z => False.elim z
theorem sx_of (h:PSf X.nox st f):PSx X st f noX:=PS.weaken (ps_nox h) fun D σ H q => by
 rcases q with q | ⟨O,ρ,L,c,L',C,r,e,_⟩
 ·exact q
 ·cases e
theorem ssx_nil:PSsx X [] nextF noX:=PSs.weaken pss_nil fun D σ H q => by
 rcases q with ⟨O,ρ,L,out,r,e,k⟩ | ⟨O,ρ,L,c,L',C,r,e,_⟩
 ·cases e; exact k σ H O (.refl _ _) r
 ·cases e
theorem ssx_one (h1:PSx X st f fx):PSsx X [st] f fx:=PSs.weaken (pss_one h1) fun D σ H h => h
theorem ssx_cons (h1:PSx X st f fx) (h2:PSsx X rest g gx):PSsx X (st :: rest) (seqF f g) (seqX f fx gx) :=
 PSs.weaken (pss_cons h1 h2) fun D σ H q => by
  rcases q with ⟨O,ρ,L,out,r,e,k⟩ | ⟨O,ρ,L,c,L',C,r,e,hC,k⟩
  ·unfold seqF at e
   cases e1:f ρ L with
   | none => rw [e1] at e; cases e
   | some o1 =>
    rw [e1] at e
    simp only [Option.bind_some] at e
    refine .inl ⟨O,ρ,L,o1,r,e1,?_⟩
    cases o1 with
    | next ρ1 L1 => exact fun σ' H' O' st' r' => .inl ⟨O',ρ1,L1,out,r',e,k.mono st'⟩
    | ret d L1 => cases e; exact k
    | brk ρ1 L1 => cases e; exact k
    | cont ρ1 L1 => cases e; exact k
  ·unfold seqX at e
   cases e1:fx ρ L with
   | some p =>
    rw [e1] at e
    cases e
    exact .inr ⟨O,ρ,L,c,L',C,r,e1,hC,k⟩
   | none =>
    rw [e1] at e
    cases e2:f ρ L with
    | none => rw [e2] at e; cases e
    | some o1 =>
     rw [e2] at e
     cases o1 with
     | next ρ1 L1 =>
      refine .inl ⟨O,ρ,L,_,r,e2,fun σ' H' O' st' r' => .inr ⟨O',ρ1,L1,c,L',C,r',e,hC,fun H2 O2 ev s2 st2 rs2 x => k H2 O2 ev s2 (st'.trans st2) rs2 x⟩⟩
     | ret d L1 => cases e
     | brk ρ1 L1 => cases e
     | cont ρ1 L1 => cases e
theorem sx_if {c:Expr} {a b:List Stmt} {t:TF} (hc:PTf X c t) (ha:PSsx X a f fx) (hb:PSsx X b g gx):PSx X (.If c a b pos) (ifF t f g) (ifX t fx gx) :=
 PS.weaken (ps_if hc ha hb) fun D σ H q => by
  rcases q with ⟨O,ρ,L,out,r,e,k⟩ | ⟨O,ρ,L,cn,L',C,r,e,hC,k⟩
  ·unfold ifF at e
   cases e1:t ρ L with
   | none => rw [e1] at e; cases e
   | some p =>
    rw [e1] at e
    obtain ⟨b1,L1⟩:=p
    refine ⟨O,ρ,L,b1,L1,r,e1,fun H1 O1 st rs => ?_⟩
    cases b1 with
    | true => exact iteT (.inl ⟨O1,ρ,L1,out,r.to st rs,by simpa using e,k.mono st⟩)
    | false => exact iteF (.inl ⟨O1,ρ,L1,out,r.to st rs,by simpa using e,k.mono st⟩)
  ·unfold ifX at e
   cases e1:t ρ L with
   | none => rw [e1] at e; cases e
   | some p =>
    rw [e1] at e
    obtain ⟨b1,L1⟩:=p
    refine ⟨O,ρ,L,b1,L1,r,e1,fun H1 O1 st rs => ?_⟩
    cases b1 with
    | true => exact iteT (.inr ⟨O1,ρ,L1,cn,L',C,r.to st rs,by simpa using e,hC,fun H2 O2 ev s2 st2 rs2 x => k H2 O2 ev s2 (st.trans st2) rs2 x⟩)
    | false => exact iteF (.inr ⟨O1,ρ,L1,cn,L',C,r.to st rs,by simpa using e,hC,fun H2 O2 ev s2 st2 rs2 x => k H2 O2 ev s2 (st.trans st2) rs2 x⟩)
end
noncomputable def spX (K:PySem.W.Frag) (G:GL) (GX:GXL):Sp:=fun vs H Q E => rC K G vs H Q ∨ ∃ O L xs c L' C,RepS K H O L ∧ IsL K H O vs xs ∧ GX xs L = some (c,L') ∧ ClsAt K c C ∧ ∀ H' O',Step H O H' O' → RepS K H' O' L' → E (.ref C) none H'
structure FnX (P:Program) (w:World) (K:PySem.W.Frag) (mg:Str → Option Value) (base:Heap) (k:Nat) (x:Str) (G:GL) (GX:GXL):Prop where
 ex:∃ f fd ps,FnOk P w K mg base (CXX P w) k f fd ps (spX K G GX) ∧ mg x = some (.ref f) ∧ PySem.W.keepIn K (.ref f) = true ∧ Binds K fd ps []
theorem FnX.mono {P:Program} {w:World} {K:PySem.W.Frag} {mg:Str → Option Value} {base:Heap} {j k:Nat} {x:Str} {G:GL} {GX:GXL} (F:FnX P w K mg base j x G GX) (h:j ≤ k):FnX P w K mg base k x G GX:=by
 obtain ⟨f,fd,ps,a,b⟩:=F.ex
 exact ⟨f,fd,ps,a.mono h,b⟩
noncomputable def runX (B:SX) (N:List Str) (n:Nat):GXL:=fun xs L => if xs.length = n then B (startD N xs) L else none
theorem fnx_of {P:Program} {w:World} {K:PySem.W.Frag} {mg:Str → Option Value} {base:Heap} {x qual:Str} {st:Stmt} {f:Addr} {fd:FuncData} {N ps:List Str} {k:Nat} {B:SF} {BX:SX} (Fn:Fun K x qual st f fd) (S:FnScope N ps (defScope st))
  (hb:∀ (cdv:Value) (A:Around) (outer:List Env) (s:Shared) (H:Hp) (E:XK),Room k (A.deeper (envOfC qual (defScope st) s.heap.objs.size f cdv)) →
   PSsx (cxOf (CXX P w) P w K mg base N qual (defScope st) f cdv A outer s H E) (defBody st) B BX)
  (bi:Binds K fd ps []) (m:mg x = some (.ref f)) (kp:PySem.W.keepIn K (.ref f) = true):FnX P w K mg base (k + 1) x (runG B N ps.length) (runX BX N ps.length):=by
 refine ⟨f,fd,ps,?_,m,kp,bi⟩
 obtain ⟨oc,od,kV,doc,pm,an,cdv,ct,osl,rfl,lk,hcd⟩:=Fn.ex
 refine fn_of lk hcd S (fun vs H Q E h => ?_) fun A outer s H vs Q E hr hsp => ⟨_,hb cdv A outer s H E hr,?_⟩
 ·rcases h with ⟨O,L,xs,d,L',_,is,e,_⟩ | ⟨O,L,xs,c,L',C,_,is,e,_⟩
  ·rw [is.length]; exact runG_len e
  ·rw [is.length]
   unfold runX at e
   split at e
   ·assumption
   ·cases e
 ·rcases hsp with ⟨O,L,xs,d,L',rs,is,e,kk⟩ | ⟨O,L,xs,c,L',C,rs,is,e,hC,kk⟩
  ·obtain ⟨L'',hB,hd⟩:=runG_runs e
   have close:∀ v H' O',Step H O H' O' → RepS K H' O' L'' → Is K H' O' v d → Q v H':=fun v H' O' st' rs' is' => by
    rcases hd with rfl | ⟨rfl,⟨M,rfl⟩,nr⟩
    ·exact kk v H' O' st' rs' is'
    ·exact kk v H' O ⟨st'.1,List.prefix_refl _⟩ (rs.back st' rs') (is'.nr nr)
   rcases hB with hB | ⟨rfl,ρ',hB⟩
   ·exact .inl ⟨O,startD N xs,L,_,⟨rs,fmis_start is⟩,hB,close⟩
   ·exact .inl ⟨O,startD N xs,L,_,⟨rs,fmis_start is⟩,hB,fun σ' H' O' st' r' => close _ H' O' st' r'.s .non⟩
  ·unfold runX at e
   split at e
   ·exact .inr ⟨O,startD N xs,L,c,L',C,⟨rs,fmis_start is⟩,e,hC,fun H' O' ev s' st' rs' x => xs_leave (kk H' O' st' rs') x⟩
   ·cases e
abbrev bmV:List Value:=[.type "ValueError",.type "Exception",.type "BaseException",.type "object"]
structure ExcK (K:PySem.W.Frag) (c:Str) (C:Addr):Prop where
 ns:PySem.W.nsIn K mainGlobals c = some (some (.ref C))
 ok:PySem.W.excIn K C bmV "ValueError.__new__" = true
noncomputable def ExcObj (h:Heap) (C:Addr):Prop:=∃ (bm:List Value) (N:Addr) (nm qn:Str) (bs:List Value) (hd:Bool) (sn:List Str) (sub:List Value) (ab:Bool) (col:Option Bool) (dd:Option Addr) (k0 k1 k2 k3 k5:Option Value) (mN:Str → Option Value),
 h.get? C = some (excClassObj nm qn C N bs bm hd sn sub ab col dd k0 k1 k2 k3 k5 "ValueError.__new__") ∧ h.Ns N mN ∧ mN "__init__" = none ∧ OwnTail h bmV bm
theorem exc_at {K:PySem.W.Frag} {h:Heap} {c:Str} {C:Addr} (KI:K.In h) (z:ExcK K c C):ExcObj h C:=by
 have q:=z.ok
 unfold PySem.W.excIn at q
 split at q
 ·rename_i od cdat slots look
  split at q
  ·rename_i Cx mr s0 s1 s2 s3 nw s5 hmro hslots
   simp only [Bool.and_eq_true,beq_iff_eq,Bool.not_eq_true'] at q
   obtain ⟨⟨⟨⟨⟨e1,e2⟩,e3⟩,tl⟩,nsk⟩,nini⟩:=q
   subst e1 e2
   cases cdat with
   | mk nm bs mro ns qn hd sn sub ab col del =>
    dsimp only at hmro e3 nsk nini
    subst hmro e3
    cases slots with
    | mk sl =>
     dsimp only at hslots
     subst hslots
     exact ⟨mr,ns,nm,qn,bs,hd,sn,sub,ab,col,od,s0,s1,s2,s3,s5,h.nsMap ns,KI _ _ look,.of_isNs (PySem.W.isNs_of_in KI nsk),PySem.W.nsMap_none_of_in KI nsk nini,PySem.W.tail_of_in KI tl⟩
  ·cases q
 ·cases q
section
variable {X:Cx} {c:Str} {C:Addr} {y:Str} {j:Nat} {p np cpos pos:Pos}
theorem sx_raise (z:ExcK X.K c C) (hcalm:X.calm = true) (hg:Gl X c:=by rfl) (hdb:(c == ("__debug__":Str)) = false:=by decide) :
  PSx X (.Raise (some (.Call (.Name c np) [.Constant (.str y) j p] [] cpos)) none pos) neverF (raiseX c):=by
 intro pins s σ H D I h
 rcases h with ⟨O,ρ,L,out,r,e,k⟩ | ⟨O,ρ,L,c',L',C',r,e,hC,k⟩
 ·cases e
 ·cases e
  have hCC:C' = C:=by
   have:=z.ns
   unfold ClsAt at hC
   rw [hC] at this
   cases this; rfl
  subst hCC
  have hm:X.mg c = some (.ref C'):=PySem.W.mg_of I.mod.kin I.mod.glob z.ns
  obtain ⟨bm,N,nm,qn,bs,hd,sn,sub,ab,col,dd,k0,k1,k2,k3,k5,mN,hobj,hns,hni,T⟩:=exc_at (I.tok (s.toks + 1)).kIn z
  refine wpAny_Raise_call_subU (k5:=k5) (k3:=k3) (k2:=k2) (k1:=k1) (k0:=k0) (dd:=dd) (col:=col) (ab:=ab) (sub:=sub) (sn:=sn) (hdct:=hd) (bs:=bs) (N:=N) (q:=qn) (nm:=nm) (C:=C') PySem.F.excBase_ValueError rfl PySem.F.excBase_ValueError (mN:=mN) (T.hasType rfl) (I.ok.hd hcalm) rfl hni (ld_glob I hg hm ⟨rfl,?_⟩ hdb)
  refine Calls.evalArgs_plain ?_
  show wpAny _ _ (spliced [(false,eval (.Constant (.str y) j p) X.env)]) _ _ s
  refine Calls.spliced_cons (Calls.Constant_str (k:=j) (pos:=p) (Calls.spliced_nil ?_))
  refine ⟨rfl,by simp [sizeLine_eq],hobj,hns,T,fun h' ev hx => ?_⟩
  exact k H O (.ref ev) _ (.refl _ _) r.s ⟨pins,σ,ev,rfl,.inl ⟨_,_,I.tok _,hx,rfl,rfl⟩⟩
end
noncomputable def ExcIs (x C:Addr) (h:Heap):Prop:=∃ o,h.get? x = some o ∧ o.cls = .ref C
theorem ExcIs.ty {x C:Addr} {h:Heap} (p:ExcIs x C h) (M:Model):PySem.W.Looks M h (typeOf (.ref x)) (.ref C):=by
 obtain ⟨o,h1,h2⟩:=p
 rw [← h2]
 exact (PySem.W.Looks.ld h1).andThen .now
noncomputable def only (c0:Str):Str → Bool:=fun c => c == c0
open Sem (wp) in
noncomputable def DictE {prog:Program} {w:World} {κ:Type} [DecidableEq κ] (knd:HeapKind prog w κ) (h:Heap) (d:Addr) (xs:List (κ × Addr × Value)) (ep:Nat):Prop :=
 ∃ o es,h.get? d = some o ∧ o.ExactDict ∧ o.data = .dict es ep ∧ es.toList = xs.map (entryOfKey knd) ∧ (∀ x ∈ xs,knd.is h x.1 x.2.1) ∧ (xs.map (·.1)).Nodup
noncomputable def epS {κ:Type} [DecidableEq κ] (xs:List (κ × Addr × Value)) (k:κ) (ep:Nat):Nat:=if (atKey xs k).isSome = true then ep else ep + 1
section
variable {prog:Program} {w:World} {κ:Type} [DecidableEq κ] {knd:HeapKind prog w κ} {A:Around} {E:Value → Shared → Prop} {s:Shared} {d a:Addr} {k:κ} {xs:List (κ × Addr × Value)} {ep:Nat}
theorem DictE.of {h:Heap} (x:DictE knd h d xs ep):h.DictOfH knd d xs:=let ⟨o,es,h1,h2,h3,r⟩:=x; ⟨o,es,ep,h1,h2,h3,r⟩
theorem atKey_fresh (hn:atKey xs k = none):k ∉ xs.map (·.1):=fun hm => by
 obtain ⟨x,hx,rfl⟩:=List.mem_map.mp hm
 have h0:(xs.find? fun y => decide (y.1 = x.1)) = none:=by simpa [atKey] using hn
 simpa using List.find?_eq_none.mp h0 x hx
theorem DictE.grown {h:Heap} (x:DictE knd h d xs ep) (hn:atKey xs k = none) (hk:knd.is h k a) (v:Value) :
  DictE knd (h.update d (Obj.mapDictKeys (·.push ⟨knd.hash k,.ref a,v⟩))) d (xs ++ [(k,a,v)]) (ep + 1) ∧ Heap.SameBut d h (h.update d (Obj.mapDictKeys (·.push ⟨knd.hash k,.ref a,v⟩))):=by
 have sb:Heap.SameBut d h (h.update d (Obj.mapDictKeys (·.push ⟨knd.hash k,.ref a,v⟩))):=.update ..
 obtain ⟨o,es,g,ex,dat,el,all,nd⟩:=x
 have stay:∀ y ∈ xs ++ [(k,a,v)],knd.is h y.1 y.2.1:=fun y hy => (List.mem_append.mp hy).elim (all y) fun z => by rw [List.mem_singleton.mp z]; exact hk
 refine ⟨⟨_,_,Heap.get?_update_self _ g (Obj.isFreed_of_dict (Obj.data_mapDictKeys dat _)),ex.mapDictKeys _,Obj.data_mapDictKeys dat _,by simp [el,entryOfKey],fun y hy => knd.keeps (stay y hy) g dat sb,?_⟩,sb⟩
 rw [List.map_append]
 exact List.nodup_append.mpr ⟨nd,by simp,fun y hy z hz e => atKey_fresh hn (by rw [show z = k by simpa using hz] at e; rwa [← e])⟩
theorem DictE.turned {h:Heap} (x:DictE knd h d xs ep) {j:Nat} {q:Addr × Value} (hj:xs[j]? = some (k,q)) (v:Value) :
  DictE knd (h.update d (Obj.mapDict (·.modify j fun e => { e with val:=v }))) d (xs.map (putAt k v)) ep ∧ Heap.SameBut d h (h.update d (Obj.mapDict (·.modify j fun e => { e with val:=v }))):=by
 have sb:Heap.SameBut d h (h.update d (Obj.mapDict (·.modify j fun e => { e with val:=v }))):=.update ..
 obtain ⟨o,es,g,ex,dat,el,all,nd⟩:=x
 have rows:(es.modify j fun e => { e with val:=v }).toList = (xs.map (putAt k v)).map (entryOfKey knd):=by
  rw [← modify_map_putAt (entryOfKey knd) (fun e:DictEntry => { e with val:=v }) k v (fun _ _ => rfl) nd hj,← el]
  simp
 refine ⟨⟨_,_,Heap.get?_update_self _ g (Obj.isFreed_of_dict (Obj.data_mapDict dat _)),ex.mapDict _,Obj.data_mapDict dat _,rows,fun y hy => ?_,by rw [keys_map_putAt]; exact nd⟩,sb⟩
 rw [List.mem_map] at hy
 obtain ⟨z,hz,rfl⟩:=hy
 have e1:(putAt k v z).1 = z.1 ∧ (putAt k v z).2.1 = z.2.1:=by unfold putAt; split <;> exact ⟨rfl,rfl⟩
 rw [e1.1,e1.2]
 exact knd.keeps (all z hz) g dat sb
theorem DictE.find {G:Option Nat → Shared → Prop} (hu:knd.room A) (hk:knd.is s.heap k a) (x:DictE knd s.heap d xs ep) (no:atKey xs k = none → G none s) (yes:∀ j q,xs[j]? = some (k,q) → atKey xs k = some q → G (some j) s) :
  wpAny (model prog w) A (dictFind d (.ref a) (knd.hash k)) G E s:=by
 obtain ⟨o,es,g,ex,dat,el,all,nd⟩:=x
 exact wpAny_dictFind_heap hu hk g dat el all nd (fun f => no (atKey_none_of_get f)) fun j q hj => yes j q hj (atKey_of_get nd hj)
theorem DictE.room (x:DictE knd s.heap d xs ep):∃ o es,s.heap.get? d = some o ∧ o.data = .dict es ep ∧ es.size = xs.length:=by
 obtain ⟨o,es,g,ex,dat,el,_⟩:=x
 exact ⟨o,es,g,dat,size_of_entries el⟩
theorem dictSetE {v:Value} {Q:Unit → Shared → Prop} (hu:knd.room A) (hk:knd.is s.heap k a) (x:DictE knd s.heap d xs ep) (hz:xs.length ≤ sizeLine)
  (q:∀ h',DictE knd h' d (storedH xs k a v) (epS xs k ep) → Heap.SameBut d s.heap h' → Q () { s with heap:=h',toks:=s.toks + knd.draws k }):wpAny (model prog w) A (dictSet d (.ref a) v) Q E s:=by
 obtain ⟨o,es,g,dat,sz⟩:=x.room
 unfold dictSet dictSetHashed
 (try with_reducible refine wpAny_holding ?_)
 refine wpAny_bind (knd.pyHash hu hk ?_)
 (try with_reducible refine wpAny_holding ?_)
 refine wpAny_bind (DictE.find (s:={ s with toks:=s.toks + knd.draws k }) hu hk x (fun n => ?_) fun j p hj e => ?_)
 ·obtain ⟨y,sb⟩:=x.grown n hk v
  have e1:epS xs k ep = ep + 1:=by simp [epS,n]
  rw [e1,storedH_new n] at q
  exact wpAny_bind (wpAny_rule (wpAny_updateDictKeys (s:={ s with toks:=s.toks + knd.draws k }) (hz:=by omega) g dat (q _ y sb)))
 ·obtain ⟨y,sb⟩:=x.turned hj v
  have e1:epS xs k ep = ep:=by simp [epS,e]
  rw [e1,storedH_old e] at q
  exact wpAny_bind (wpAny_rule (wpAny_bind (wpAny_updateDict (s:={ s with toks:=s.toks + knd.draws k }) g dat (wpAny_point (q _ y sb)))))
theorem setItemE {v:Value} {Q:Unit → Shared → Prop} (hu:knd.room A.in1) (hk:knd.is s.heap k a) (x:DictE knd s.heap d xs ep) (hz:xs.length ≤ sizeLine)
  (q:∀ h',DictE knd h' d (storedH xs k a v) (epS xs k ep) → Heap.SameBut d s.heap h' → Q () { s with heap:=h',toks:=s.toks + knd.draws k }):wpAny (model prog w) A (setItem (.ref d) (.ref a) v) Q E s:=by
 have ty:=x.of.typeIs
 have inner:∀ {R:Value → Shared → Prop} {F:Value → Shared → Prop},(∀ h',DictE knd h' d (storedH xs k a v) (epS xs k ep) → Heap.SameBut d s.heap h' → R .none { s with heap:=h',toks:=s.toks + knd.draws k }) →
   wpAny (model prog w) A.in1 (Builtin.«dict.__setitem__» ⟨[.ref d,.ref a,v],[]⟩) (fun fi s2 => ∃ v,fi = PySem.Fin.done (Flow.ret v) ∧ R v s2) F s:=fun {R F} r => by
  show wpAny _ _ (Builtin.Dict.notOrdered "__setitem__" ⟨[.ref d,.ref a,v],[]⟩ >>= fun _ => dictSet d (.ref a) v >>= _) _ F s
  exact wpAny_bind (wpAny_notOrdered_dict ty (wpAny_bind (dictSetE hu hk x hz fun h' y sb => wpAny_pure ⟨.none,rfl,r h' y sb⟩)))
 unfold setItem
 (try with_reducible refine wpAny_holding ?_)
 exact wpAny_bind (wpAny_sequenceKey ty (by decide) (wpAny_bind (wpAny_callSpecial?_slot (name:=Str.ofString "__setitem__") ty slot_dict_setitem (wpAny_call_entry slot_dict_setitem ty entry_dict_setitem (inner fun h' y sb => wpAny_pure (q h' y sb)) (args_dict_setitem _ _ _)))))
end
section
variable {X:Cx} {pins:List (Addr × Obj)} {σ:L2.St} {H:Hp} {s:Shared} {O:List Addr} {L:Sto}
theorem key_leaf {k:Key} {v:V} {u:Value} (i:Is X.K H O v (keyD k)) (r:RelV v u):KLeaf k u:=by
 cases k with
 | inl n => cases i; obtain ⟨t,rfl⟩:=r; exact keyIs_int _ _
 | inr x => cases i; obtain ⟨t,rfl⟩:=r; exact keyIs_str _ _
theorem keys_leaf:∀ {ks:List Key} {vs:List V} {us:List Value},IsL X.K H O vs (ks.map keyD) → Vals vs us → Paired KLeaf ks us
 | [],_,_,i,r => by cases i; cases r; exact .nil
 | k :: ks,_,_,i,r => by
  cases i with | cons i1 i2 => cases r with | cons r1 r2 => exact .cons (key_leaf i1 r1) (keys_leaf i2 r2)
theorem items_all (I:Inv X pins σ H s):∀ {ks:NK} {vs:List V} {us:List Value},IsL X.K H O vs (ks.map itemD) → Vals vs us → Paired (KItem s.heap) ks us
 | [],_,_,i,r => by cases i; cases r; exact .nil
 | .inl k :: ks,_,_,i,r => by
  cases i with | cons i1 i2 => cases r with | cons r1 r2 => exact .cons (key_leaf i1 r1) (items_all I i2 r2)
 | .inr k :: ks,v :: _,_,i,r => by
  cases i with | cons i1 i2 => cases r with | cons r1 r2 =>
   have i1':Is X.K H O v (.tup (k.map keyD)):=i1
   cases i1' with | tup h il =>
    obtain ⟨its,rv,t,_⟩:=I.tuple h
    exact .cons ⟨_,its,r1,t,keys_leaf il rv⟩ (items_all I i2 r2)
theorem key_is (I:Inv X pins σ H s) {k:NK} {b:Addr} (i:Is X.K H O (.ref b) (nkD k)):(key2Kind X.prog X.w).is s.heap k b:=by
 have i':Is X.K H O (.ref b) (.tup (k.map itemD)):=i
 cases i' with | tup h il =>
  obtain ⟨its,rv,t,_⟩:=I.tuple h
  exact ⟨its,t,items_all I il rv⟩
end
noncomputable def dKey:D → Option Key
 | .int i => some (.inl i)
 | .str x => some (.inr x)
 | _ => none
noncomputable def dKeys:List D → Option (List Key)
 | [] => some []
 | d :: r => (dKey d).bind fun k => (dKeys r).map (k :: ·)
noncomputable def dItem:D → Option (Key ⊕ List Key)
 | .int i => some (.inl (.inl i))
 | .str x => some (.inl (.inr x))
 | .tup ds => (dKeys ds).map .inr
 | _ => none
noncomputable def dItems:List D → Option NK
 | [] => some []
 | d :: r => (dItem d).bind fun k => (dItems r).map (k :: ·)
noncomputable def dNK:D → Option NK
 | .tup ds => dItems ds
 | _ => none
theorem dKey_is {d:D} {k:Key} (e:dKey d = some k):d = keyD k:=by
 unfold dKey at e
 split at e <;> cases e <;> rfl
theorem dKeys_is:∀ {ds:List D} {ks:List Key},dKeys ds = some ks → ds = ks.map keyD
 | [],ks,e => by cases e; rfl
 | d :: r,ks,e => by
  unfold dKeys at e
  obtain ⟨k,e1,e2⟩:=Option.bind_eq_some_iff.mp e
  obtain ⟨l,e3,rfl⟩:=Option.map_eq_some_iff.mp e2
  rw [dKey_is e1,dKeys_is e3]; rfl
theorem dItem_is {d:D} {k:Key ⊕ List Key} (e:dItem d = some k):d = itemD k:=by
 unfold dItem at e
 split at e
 ·cases e; rfl
 ·cases e; rfl
 ·obtain ⟨l,e3,rfl⟩:=Option.map_eq_some_iff.mp e
  rw [dKeys_is e3]; rfl
 ·cases e
theorem dItems_is:∀ {ds:List D} {ks:NK},dItems ds = some ks → ds = ks.map itemD
 | [],ks,e => by cases e; rfl
 | d :: r,ks,e => by
  unfold dItems at e
  obtain ⟨k,e1,e2⟩:=Option.bind_eq_some_iff.mp e
  obtain ⟨l,e3,rfl⟩:=Option.map_eq_some_iff.mp e2
  rw [dItem_is e1,dItems_is e3]; rfl
theorem dNK_is {d:D} {k:NK} (e:dNK d = some k):d = nkD k:=by
 unfold dNK at e
 split at e
 ·rw [dItems_is e]; rfl
 ·cases e
theorem is_key {K:PySem.W.Frag} {H:Hp} {O:List Addr} {v:V} {d:D} {k:NK} (i:Is K H O v d) (e:dNK d = some k):∃ b,v = .ref b ∧ Is K H O (.ref b) (nkD k):=by
 rw [dNK_is e] at i
 have i':Is K H O v (.tup (k.map itemD)):=i
 cases i' with | tup h il => exact ⟨_,rfl,.tup h il⟩
noncomputable def lookN (kvs:List (NK × D)) (k:NK):Option D:=(kvs.find? fun kv => decide (kv.1 = k)).map (·.2)
noncomputable def putN (kvs:List (NK × D)) (k:NK) (d:D):List (NK × D) :=
 if (kvs.any fun kv => decide (kv.1 = k)) = true then kvs.map (fun kv => if kv.1 = k then (kv.1,d) else kv) else kvs ++ [(k,d)]
section
variable {X:Cx} {pins:List (Addr × Obj)} {σ:L2.St} {H:Hp} {s:Shared} {O:List Addr} {L:Sto} {a:Addr}
inductive Row3 (K:PySem.W.Frag) (H:Hp) (O:List Addr):List (NK × D) → List (NK × Addr × V) → List (NK × Addr × Value) → Prop
 | nil:Row3 K H O [] [] []
 | cons {k:NK} {d:D} {b:Addr} {v:V} {u:Value} {kvs us xs}:Is K H O v d → RelV v u → Row3 K H O kvs us xs → Row3 K H O ((k,d) :: kvs) ((k,b,v) :: us) ((k,b,u) :: xs)
theorem row3_of {K:PySem.W.Frag}:∀ {kvs:List (NK × D)} {us:List (NK × Addr × V)} {xs:List (NK × Addr × Value)},us.map (·.1) = kvs.map (·.1) → IsL K H O (us.map (·.2.2)) (kvs.map (·.2)) →
  Paired (fun (p:NK × Addr × V) (q:NK × Addr × Value) => p.1 = q.1 ∧ p.2.1 = q.2.1 ∧ RelV p.2.2 q.2.2) us xs → Row3 K H O kvs us xs
 | [],[],_,_,_,r => by cases r; exact .nil
 | (k,d) :: kvs,(k',b,v) :: us,_,e,i,r => by
  simp only [List.map_cons,List.cons.injEq] at e
  obtain ⟨e1,e2⟩:=e
  cases r with
  | @cons _ q _ qs r1 r2 =>
   obtain ⟨q1,q2,q3⟩:=q
   obtain ⟨h1,h2,h3⟩:=r1
   simp only at e1 h1 h2 h3
   subst e1 h1 h2
   cases i with
   | cons i1 i2 => exact .cons i1 h3 (row3_of e2 i2 r2)
 | [],_ :: _,_,e,_,_ => by simp at e
 | _ :: _,[],_,e,_,_ => by simp at e
theorem Row3.look {K:PySem.W.Frag} {kvs:List (NK × D)} {us:List (NK × Addr × V)} {xs:List (NK × Addr × Value)} (r:Row3 K H O kvs us xs) (k:NK) :
  (lookN kvs k = none ∧ atKey xs k = none) ∨ ∃ d b v u,lookN kvs k = some d ∧ atKey xs k = some (b,u) ∧ Is K H O v d ∧ RelV v u ∧ (k,b,v) ∈ us:=by
 induction r with
 | nil => exact .inl ⟨rfl,rfl⟩
 | @cons k' d b v u kvs us xs i rv t ih =>
  by_cases e:k' = k
  ·subst e
   exact .inr ⟨d,b,v,u,by simp [lookN],by simp [atKey],i,rv,List.mem_cons_self⟩
  ·have e1:lookN ((k',d) :: kvs) k = lookN kvs k:=by simp [lookN,List.find?_cons,e]
   have e2:atKey ((k',b,u) :: xs) k = atKey xs k:=by simp [atKey,List.find?_cons,e]
   rw [e1,e2]
   rcases ih with h | ⟨d,b,v,u,h1,h2,h3,h4,h5⟩
   ·exact .inl h
   ·exact .inr ⟨d,b,v,u,h1,h2,h3,h4,List.mem_cons_of_mem _ h5⟩
theorem dt_at (I:Inv X pins σ H s) {kvs:List (NK × D)} {ep:Nat} (h:ObIs X.K H O a (.dt kvs ep)):∃ us xs,H a = some (.dN us ep) ∧ (a == sysModules) = false ∧ us.length ≤ sizeLine ∧ Row3 X.K H O kvs us xs ∧ (∀ u ∈ us,Is X.K H O (.ref u.2.1) (nkD u.1)) ∧ DictE (key2Kind X.prog X.w) s.heap a xs ep:=by
 obtain ⟨us,e,e1,il,ik⟩:=h
 obtain ⟨z,y,xs,r,o,es,h1,h2,h3,h4,h5⟩:=(show ObjOk X.prog X.w H s.heap a (.dN us ep) from I.hok a _ e)
 refine ⟨us,xs,e,y,z,row3_of e1 il r,ik,o,es,h1,h2,h3,h4,fun x hx => ?_,h5⟩
 have all:∀ {l:List (NK × Addr × V)} {m:List (NK × Addr × Value)},Paired (fun (p:NK × Addr × V) (q:NK × Addr × Value) => p.1 = q.1 ∧ p.2.1 = q.2.1 ∧ RelV p.2.2 q.2.2) l m → (∀ u ∈ l,Is X.K H O (.ref u.2.1) (nkD u.1)) → ∀ x ∈ m,(key2Kind X.prog X.w).is s.heap x.1 x.2.1:=by
  intro l m q
  induction q with
  | nil => intro _ x hx; exact nomatch hx
  | @cons p q ps qs hq t ih =>
   intro hl x hx
   rcases List.mem_cons.mp hx with e | hx
   ·subst e
    rw [← hq.1,← hq.2.1]
    exact key_is I (hl p List.mem_cons_self)
   ·exact ih (fun u hu => hl u (List.mem_cons_of_mem _ hu)) x hx
 exact all r ik x hx
end
end L3
namespace L3
open PySem PySem.Spec PyProof.Rows L2
section
variable {X:Cx}
theorem tail_of {prog:Program} {w:World} {A:Around} {E:Value → Shared → Prop} {s:Shared} {value slice:Expr} {T id:String} {o i:Value} {Q:Value → Shared → Prop}
  (hl:typeLookup (.type T) "__getitem__" = pure (some (.builtin id))) (hs:subscripted slice false o i = operate [o,i] (getItem o i)) (ty:s.TypeIs o T) (got:wpAny (model prog w) A (getItem o i) Q E s) :
  wpAny (model prog w) A (subscriptTail value slice o i) Q E s:=by
 have all:∀ {k:Sem Value},k = (subscripted slice false o i >>= fun r => letTemporaryGo value o r >>= fun _ => pure r) → wpAny (model prog w) A k Q E s:=fun {k} ek => by
  rw [ek,hs]
  exact wpAny_bind (wpAny_operating (wpAny_mono got (fun r _ z => wpAny_bind (wpAny_letTemporaryGo (wpAny_pure z))) fun _ _ z => z))
 unfold subscriptTail
 rw [getitemInPython_of_ne ty.not_modules]
 refine wpAny_bind (wpAny_bind (wpAny_specialOf ty hl ?_))
 first | exact wpAny_pure (all rfl) | exact wpAny_bind (wpAny_pure (all rfl)) | exact all rfl
noncomputable def gDt:G2:=fun x y L => match x with
 | .ref i => (match L[i]? with | some (.dt kvs _) => (dNK y).bind fun k => (lookN kvs k).map fun d => (d,L) | _ => none)
 | _ => none
theorem gDt_at {x y d:D} {L L':Sto} (e:gDt x y L = some (d,L')):∃ i kvs ep k,x = .ref i ∧ L[i]? = some (.dt kvs ep) ∧ dNK y = some k ∧ lookN kvs k = some d ∧ L' = L:=by
 unfold gDt at e
 split at e
 ·rename_i i
  split at e
  ·rename_i kvs ep e1
   obtain ⟨k,e2,e3⟩:=Option.bind_eq_some_iff.mp e
   obtain ⟨d',e4,e5⟩:=Option.map_eq_some_iff.mp e3
   cases e5
   exact ⟨i,kvs,ep,k,rfl,e1,e2,e4,rfl⟩
  ·cases e
 ·cases e
theorem xd_dt (hu:X.A.units + 64 < cLine):IxD X gDt:=by
 intro value slice pins s σ H x y v u Q I rx ry ⟨O,L,dx,dy,d,L',rs,ix,iy,e,k⟩ hs
 obtain ⟨i,kvs,ep,k0,rfl,e1,e2,e3,rfl⟩:=gDt_at e
 cases ix with | ref hi =>
  obtain ⟨us,xs,ha,hsm,hz,r3,hk,dd⟩:=dt_at I (rs.ob i _ _ hi e1)
  obtain ⟨b,rfl,ik⟩:=is_key iy e2
  cases rx
  cases ry
  rcases r3.look k0 with ⟨n,_⟩ | ⟨d',b',v',u',l,at_,iv,rv,_⟩
  ·rw [e3] at n; cases n
  ·rw [e3] at l; cases l
   refine tail_of PySem.F.slot_dict_getitem.lookup hs dd.of.typeIs (wpAny_getItem_heap (show X.A.in1.units + 1 < cLine from by show X.A.units + 1 + 1 < cLine; omega) (key_is I ik) dd.of at_ ?_)
   exact ⟨v',H,I.tok _,rv,k _ _ _ (.refl _ _) rs iv⟩
noncomputable def gInDt (neg:Bool):G2:=fun x y L => match y with
 | .ref i => (match L[i]? with | some (.dt kvs _) => (dNK x).map fun k => (.bl (neg != (lookN kvs k).isSome),L) | _ => none)
 | _ => none
theorem gInDt_at {neg:Bool} {x y d:D} {L L':Sto} (e:gInDt neg x y L = some (d,L')):∃ i kvs ep k,y = .ref i ∧ L[i]? = some (.dt kvs ep) ∧ dNK x = some k ∧ d = .bl (neg != (lookN kvs k).isSome) ∧ L' = L:=by
 unfold gInDt at e
 split at e
 ·rename_i i
  split at e
  ·rename_i kvs ep e1
   obtain ⟨k,e2,e3⟩:=Option.map_eq_some_iff.mp e
   cases e3
   exact ⟨i,kvs,ep,k,rfl,e1,e2,rfl,rfl⟩
  ·cases e
 ·cases e
theorem Row3.some_eq {K:PySem.W.Frag} {H:Hp} {O:List Addr} {kvs:List (NK × D)} {us:List (NK × Addr × V)} {xs:List (NK × Addr × Value)} (r:Row3 K H O kvs us xs) (k:NK):(atKey xs k).isSome = (lookN kvs k).isSome:=by
 rcases r.look k with ⟨a,b⟩ | ⟨d,b,v,u,h1,h2,_⟩
 ·rw [a,b]; rfl
 ·rw [h1,h2]; rfl
theorem od_inDt (hu:X.A.units + 64 < cLine):OpD X (compareOp .In) (gInDt false):=by
 intro pins s σ H x y v u Q I rx ry ⟨O,L,dx,dy,d,L',rs,ix,iy,e,k⟩
 obtain ⟨i,kvs,ep,k0,rfl,e1,e2,rfl,rfl⟩:=gInDt_at e
 cases iy with | ref hi =>
  obtain ⟨us,xs,ha,hsm,hz,r3,hk,dd⟩:=dt_at I (rs.ob i _ _ hi e1)
  obtain ⟨b,rfl,ik⟩:=is_key ix e2
  cases rx
  cases ry
  refine wpAny_in_heap (show X.A.in1.units + 1 < cLine from by show X.A.units + 1 + 1 < cLine; omega) (key_is I ik) hsm dd.of ?_
  rw [r3.some_eq]
  exact ⟨.bl (lookN kvs k0).isSome,H,I.tok _,rfl,k _ _ _ (.refl _ _) rs (by rw [Bool.false_bne]; exact .bl _)⟩
theorem od_notinDt (hu:X.A.units + 64 < cLine):OpD X (compareOp .NotIn) (gInDt true):=by
 intro pins s σ H x y v u Q I rx ry ⟨O,L,dx,dy,d,L',rs,ix,iy,e,k⟩
 obtain ⟨i,kvs,ep,k0,rfl,e1,e2,rfl,rfl⟩:=gInDt_at e
 cases iy with | ref hi =>
  obtain ⟨us,xs,ha,hsm,hz,r3,hk,dd⟩:=dt_at I (rs.ob i _ _ hi e1)
  obtain ⟨b,rfl,ik⟩:=is_key ix e2
  cases rx
  cases ry
  refine wpAny_notIn_heap (show X.A.in1.units + 1 < cLine from by show X.A.units + 1 + 1 < cLine; omega) (key_is I ik) hsm dd.of ?_
  rw [r3.some_eq]
  exact ⟨.bl (!(lookN kvs k0).isSome),H,I.tok _,rfl,k _ _ _ (.refl _ _) rs (by rw [Bool.true_bne]; exact .bl _)⟩
end
end L3
namespace L3
open PySem PySem.Spec PyProof.Rows L2
noncomputable def dNewN:EF:=fun _ L => some (.ref L.length,L ++ [.dt [] 0])
section
variable {X:Cx} {pos:Pos}
theorem dn_empty {P:Program} {w:World} {H:Hp} (h:Heap) (hb:sysModules < h.objs.size):ObjOk P w H (h.push { cls:=.type "dict",data:=.dict #[] }) h.objs.size (.dN [] 0) :=
 ⟨Nat.zero_le _,beq_eq_false_iff_ne.mpr (Ne.symm (Nat.ne_of_lt hb)),[],.nil,_,#[],Heap.get?_push_size _ rfl,⟨rfl,rfl,rfl⟩,rfl,rfl,List.nodup_nil⟩
theorem ef_dnewN:PEf X (.Dict [] [] pos) dNewN:=fun pins s σ H Q I z6_ => by
 obtain ⟨O,ρ,L,d,L',r,e,k⟩:=z6_
 cases e
 have hp:=I.hok.fresh (Nat.le_refl s.heap.objs.size)
 have st:Step H O (upd H s.heap.objs.size (.dN [] 0)) (O ++ [s.heap.objs.size]):=⟨.new hp,List.prefix_append _ _⟩
 exact wpAny_Dict_empty ⟨.ref s.heap.objs.size,_,I.laid (a:=s.heap.objs.size) (o:=.dN [] 0) (t':=s.toks) (fun _ _ q => Heap.get?_push_of_some _ q) (Nat.le_refl _) (dn_empty s.heap I.big),rfl,
  k _ _ _ st (r.s.new hp ⟨[],upd_same,rfl,.nil,fun u hu => (nomatch hu)⟩) (.ref (by rw [← r.s.len]; simp))⟩
end
noncomputable def putU (us:List (NK × Addr × V)) (k:NK) (b:Addr) (v:V):List (NK × Addr × V) :=
 if (us.any fun u => decide (u.1 = k)) = true then us.map (fun u => if u.1 = k then (u.1,u.2.1,v) else u) else us ++ [(k,b,v)]
section
variable {K:PySem.W.Frag} {H:Hp} {O:List Addr}
theorem Row3.anyU {kvs:List (NK × D)} {us:List (NK × Addr × V)} {xs:List (NK × Addr × Value)} (r:Row3 K H O kvs us xs) (k:NK) :
  (us.any fun u => decide (u.1 = k)) = (atKey xs k).isSome ∧ (kvs.any fun u => decide (u.1 = k)) = (atKey xs k).isSome:=by
 induction r with
 | nil => exact ⟨rfl,rfl⟩
 | @cons k' d b v u kvs us xs i rv t ih =>
  by_cases e:k' = k
  ·subst e
   simp [atKey]
  ·have e2:atKey ((k',b,u) :: xs) k = atKey xs k:=by simp [atKey,List.find?_cons,e]
   rw [e2,List.any_cons,List.any_cons,ih.1,ih.2]
   simp [e]
theorem Row3.repl {kvs:List (NK × D)} {us:List (NK × Addr × V)} {xs:List (NK × Addr × Value)} (r:Row3 K H O kvs us xs) (k:NK) {d:D} {v:V} {u:Value} (i:Is K H O v d) (rv:RelV v u) :
  Row3 K H O (kvs.map fun kv => if kv.1 = k then (kv.1,d) else kv) (us.map fun q => if q.1 = k then (q.1,q.2.1,v) else q) (xs.map (putAt k u)):=by
 induction r with
 | nil => exact .nil
 | @cons k' d' b v' u' kvs us xs i' rv' t ih =>
  rw [List.map_cons,List.map_cons,List.map_cons]
  unfold putAt
  by_cases e:k' = k
  ·rw [if_pos e,if_pos e,if_pos e]; exact .cons i rv ih
  ·rw [if_neg e,if_neg e,if_neg e]; exact .cons i' rv' ih
theorem Row3.snoc {kvs:List (NK × D)} {us:List (NK × Addr × V)} {xs:List (NK × Addr × Value)} (r:Row3 K H O kvs us xs) {k:NK} {b:Addr} {d:D} {v:V} {u:Value} (i:Is K H O v d) (rv:RelV v u) :
  Row3 K H O (kvs ++ [(k,d)]) (us ++ [(k,b,v)]) (xs ++ [(k,b,u)]):=by
 induction r with
 | nil => exact .cons i rv .nil
 | cons i' rv' t ih => exact .cons i' rv' ih
theorem Row3.put {kvs:List (NK × D)} {us:List (NK × Addr × V)} {xs:List (NK × Addr × Value)} (r:Row3 K H O kvs us xs) (k:NK) {b:Addr} {d:D} {v:V} {u:Value} (i:Is K H O v d) (rv:RelV v u) :
  Row3 K H O (putN kvs k d) (putU us k b v) (storedH xs k b u):=by
 obtain ⟨e1,e2⟩:=r.anyU k
 unfold putN putU storedH
 rw [e1,e2]
 by_cases q:(atKey xs k).isSome = true
 ·rw [if_pos q,if_pos q,if_pos q]; exact r.repl k i rv
 ·rw [if_neg q,if_neg q,if_neg q]; exact r.snoc i rv
theorem Row3.parts {kvs:List (NK × D)} {us:List (NK × Addr × V)} {xs:List (NK × Addr × Value)} (r:Row3 K H O kvs us xs):us.map (·.1) = kvs.map (·.1) ∧ IsL K H O (us.map (·.2.2)) (kvs.map (·.2)) ∧
  Paired (fun (p:NK × Addr × V) (q:NK × Addr × Value) => p.1 = q.1 ∧ p.2.1 = q.2.1 ∧ RelV p.2.2 q.2.2) us xs:=by
 induction r with
 | nil => exact ⟨rfl,.nil,.nil⟩
 | cons i rv t ih => exact ⟨by rw [List.map_cons,List.map_cons,ih.1],.cons i ih.2.1,.cons ⟨rfl,rfl,rv⟩ ih.2.2⟩
theorem Row3.len {kvs:List (NK × D)} {us:List (NK × Addr × V)} {xs:List (NK × Addr × Value)} (r:Row3 K H O kvs us xs):us.length = kvs.length ∧ xs.length = kvs.length:=by
 induction r with
 | nil => exact ⟨rfl,rfl⟩
 | cons i rv t ih => simp [ih.1,ih.2]
theorem putN_le {kvs:List (NK × D)} {k:NK} {d:D}:(putN kvs k d).length ≤ kvs.length + 1:=by
 unfold putN
 split <;> simp
theorem putU_mem {us:List (NK × Addr × V)} {k:NK} {b:Addr} {v:V} {P:NK → Addr → Prop} (h:∀ u ∈ us,P u.1 u.2.1) (hb:P k b):∀ u ∈ putU us k b v,P u.1 u.2.1:=by
 intro u hu
 unfold putU at hu
 split at hu
 ·rw [List.mem_map] at hu
  obtain ⟨q,hq,rfl⟩:=hu
  split
  ·exact h q hq
  ·exact h q hq
 ·rcases List.mem_append.mp hu with hu | hu
  ·exact h u hu
  ·rw [show u = (k,b,v) by simpa using hu]; exact hb
end
noncomputable def epN (kvs:List (NK × D)) (k:NK) (ep:Nat):Nat:=if (kvs.any fun kv => decide (kv.1 = k)) = true then ep else ep + 1
noncomputable def gDPut (o i v:D) (L:Sto):Option Sto:=match o with
 | .ref n => (match L[n]? with | some (.dt kvs ep) => if kvs.length < 16777216 then (dNK i).map fun k => L.set n (.dt (putN kvs k v) (epN kvs k ep)) else none | _ => none)
 | _ => none
theorem gDPut_at {o i v:D} {L L':Sto} (e:gDPut o i v L = some L'):∃ n kvs ep k,o = .ref n ∧ L[n]? = some (.dt kvs ep) ∧ kvs.length < 16777216 ∧ dNK i = some k ∧ L' = L.set n (.dt (putN kvs k v) (epN kvs k ep)):=by
 unfold gDPut at e
 split at e
 ·rename_i n
  split at e
  ·rename_i kvs ep e1
   split at e
   ·rename_i hz
    obtain ⟨k,e2,rfl⟩:=Option.map_eq_some_iff.mp e
    exact ⟨n,kvs,ep,k,rfl,e1,hz,e2,rfl⟩
   ·cases e
  ·cases e
 ·cases e
noncomputable def rPut (K:PySem.W.Frag):TSet:=fun o i v H Q => ∃ O L x y d L',RepS K H O L ∧ Is K H O o x ∧ Is K H O i y ∧ Is K H O v d ∧ gDPut x y d L = some L' ∧ ∀ H',Step H O H' O → RepS K H' O L' → Q H'
section
variable {X:Cx} {o i e:Expr} {fo fi fv:EF} {pos:Pos}
theorem dt_store {pins:List (Addr × Obj)} {σ:L2.St} {H:Hp} {s:Shared} {O:List Addr} {L:Sto} {n ep:Nat} {a b:Addr} {kvs:List (NK × D)} {k:NK} {v:V} {u:Value} {d:D} {us:List (NK × Addr × V)} {xs:List (NK × Addr × Value)} {h':Heap} {t':Nat}
  (I:Inv X pins σ H s) (rs:RepS X.K H O L) (hn:O[n]? = some a) (hz:kvs.length < 16777216) (ha:H a = some (.dN us ep)) (hsm:(a == sysModules) = false) (r3:Row3 X.K H O kvs us xs) (hk:∀ u ∈ us,Is X.K H O (.ref u.2.1) (nkD u.1))
  (ik:Is X.K H O (.ref b) (nkD k)) (iv:Is X.K H O v d) (rv:RelV v u) (dd:DictE (key2Kind X.prog X.w) h' a (storedH xs k b u) (epS xs k ep)) (hs:Heap.SameBut a s.heap h') :
  Inv X pins σ (upd H a (.dN (putU us k b v) (epN kvs k ep))) { s with heap:=h',toks:=t' } ∧ Step H O (upd H a (.dN (putU us k b v) (epN kvs k ep))) O ∧ RepS X.K (upd H a (.dN (putU us k b v) (epN kvs k ep))) O (L.set n (.dt (putN kvs k d) (epN kvs k ep))):=by
 have rp:=r3.put k (b:=b) iv rv
 obtain ⟨p1,p2,p3⟩:=rp.parts
 have ee:epS xs k ep = epN kvs k ep:=by unfold epS epN; rw [(r3.anyU k).2]
 rw [ee] at dd
 have hl:(putU us k b v).length ≤ sizeLine:=by
  rw [rp.len.1,sizeLine_eq]
  have:=putN_le (kvs:=kvs) (k:=k) (d:=d)
  omega
 have st:Step H O (upd H a (.dN (putU us k b v) (epN kvs k ep))) O:=⟨.write ha id,List.prefix_refl _⟩
 obtain ⟨q,es,hq,h2,h3,h4,_,h5⟩:=dd
 refine ⟨d_write I (by rw [ha]; exact True.intro) hs ⟨q,hq⟩ ⟨hl,hsm,_,p3,q,es,hq,h2,h3,h4,h5⟩,st,?_⟩
 exact rs.write (o':=.dt (putN kvs k d) (epN kvs k ep)) hn ⟨_,upd_same,p1,p2.mono st,fun x hx => (putU_mem (P:=fun k b => Is X.K H O (.ref b) (nkD k)) hk ik x hx).mono st⟩
theorem set_dt (hu:X.A.units + 64 < cLine):PSet X (rPut X.K):=by
 intro pins s σ H o i v ov iv u Q I ro ri rv ⟨O,L,x,y,d,L',rs,io,ii,idv,e,k⟩
 obtain ⟨n,kvs,ep,k0,rfl,e1,hz,e2,rfl⟩:=gDPut_at e
 cases io with | ref hn =>
  obtain ⟨us,xs,ha,hsm,hz',r3,hk,dd⟩:=dt_at I (rs.ob n _ _ hn e1)
  obtain ⟨b,rfl,ik⟩:=is_key ii e2
  cases ro
  cases ri
  refine setItemE (show X.A.in1.units + 1 < cLine from by show X.A.units + 1 + 1 < cLine; omega) (key_is I ik) dd (by rw [r3.len.2,sizeLine_eq]; omega) fun h' dd' hs => ?_
  obtain ⟨I',st,rs'⟩:=dt_store (t':=s.toks + (key2Kind X.prog X.w).draws k0) I rs hn hz ha hsm r3 hk ik idv rv dd' hs
  exact ⟨_,I',k _ st rs'⟩
noncomputable def dputF (fo fi fv:EF):SF:=fun ρ L => (fv ρ L).bind fun v => (fo ρ v.2).bind fun o => (fi ρ o.2).bind fun i => (gDPut o.1 i.1 v.1 i.2).bind fun L' => some (.next ρ L')
theorem sf_dput {p2:Pos} (hu:X.A.units + 64 < cLine) (ho:PEf X o fo) (hi:PEf X i fi) (he:PEf X e fv) (hs:swapsWithSole [.Subscript o i p2] e pos.line X.env = pure false:=by rfl) (hw:swappedStores [.Subscript o i p2] e X.env = pure none:=by rfl)
  (h1:(assignEach [.Subscript o i p2] X.env).map (·.2) = [assign (.Subscript o i p2) X.env]:=by rfl)
  (ha:∀ v,assign (.Subscript o i p2) X.env v = (do
   let ov ← holding [v] (eval o X.env)
   let iv ← holding [v,ov] (eval i X.env)
   standAt p2
   holding [v,ov,iv] (setItem ov iv v)
   release [v,ov,iv] []):=by intro _; rfl):PSf X (.Assign [.Subscript o i p2] e pos) (dputF fo fi fv) :=
 PS.weaken (ps_asg he (pg_sub ho hi (set_dt hu) ha) hs hw h1) fun D σ H z3_ => by
  obtain ⟨O,ρ,L,out,r,ee,k⟩:=z3_
  unfold dputF at ee
  cases e1:fv ρ L with
  | none => rw [e1] at ee; cases ee
  | some p =>
   rw [e1] at ee
   simp only [Option.bind_some] at ee
   cases e2:fo ρ p.2 with
   | none => rw [e2] at ee; cases ee
   | some q =>
    rw [e2] at ee
    simp only [Option.bind_some] at ee
    cases e3:fi ρ q.2 with
    | none => rw [e3] at ee; cases ee
    | some w =>
     rw [e3] at ee
     simp only [Option.bind_some] at ee
     cases e4:gDPut q.1 w.1 p.1 w.2 with
     | none => rw [e4] at ee; cases ee
     | some L' =>
      rw [e4] at ee
      cases ee
      refine ⟨O,ρ,L,p.1,p.2,r,e1,fun v H1 O1 st1 rs1 is1 => ⟨O1,ρ,p.2,q.1,q.2,r.to st1 rs1,e2,fun ov H2 O2 st2 rs2 is2 => ⟨O2,ρ,q.2,w.1,w.2,r.to (st1.trans st2) rs2,e3,fun iv H3 O3 st3 rs3 is3 => ?_⟩⟩⟩
      refine ⟨O3,w.2,q.1,w.1,p.1,L',rs3,is2.mono st3,is3,(is1.mono st2).mono st3,e4,fun H4 st4 rs4 => ?_⟩
      have stA:=((st1.trans st2).trans st3).trans st4
      exact k _ _ _ stA ⟨rs4,r.f.mono stA⟩
end
open Sem (wp)
section
variable {prog:Program} {w:World} {κ:Type} [DecidableEq κ] {knd:HeapKind prog w κ} {A:Around} {E:Value → Shared → Prop} {s:Shared} {d a:Addr} {k:κ} {xs:List (κ × Addr × Value)} {ep:Nat}
theorem DictE.entry {h:Heap} (x:DictE knd h d xs ep) {j:Nat} {q:Addr × Value} (hj:xs[j]? = some (k,q)):∃ o es,h.get? d = some o ∧ o.data = .dict es ep ∧ es[j]? = some (entryOfKey knd (k,q)):=by
 obtain ⟨o,es,g,ex,dat,el,_⟩:=x
 exact ⟨o,es,g,dat,by rw [entry_at el,hj]; rfl⟩
theorem setDefE {dv:Value} {Q:Value → Shared → Prop} (hu:knd.room A) (hk:knd.is s.heap k a) (x:DictE knd s.heap d xs ep) (hz:xs.length ≤ sizeLine)
  (there:∀ p,atKey xs k = some p → Q p.2 { s with toks:=s.toks + knd.draws k })
  (new:atKey xs k = none → ∀ h',DictE knd h' d (storedH xs k a dv) (epS xs k ep) → Heap.SameBut d s.heap h' → Q dv { s with heap:=h',toks:=s.toks + knd.draws k }) :
  wpAny (model prog w) A (dictSetDefault d (.ref a) dv) Q E s:=by
 obtain ⟨o,es,g,dat,sz⟩:=x.room
 unfold dictSetDefault
 (try with_reducible refine wpAny_holding ?_)
 refine wpAny_bind (knd.pyHash hu hk ?_)
 refine wpAny_bind (DictE.find (s:={ s with toks:=s.toks + knd.draws k }) hu hk x (fun n => ?_) fun j p hj e => ?_)
 ·obtain ⟨y,sb⟩:=x.grown n hk dv
  have e1:epS xs k ep = ep + 1:=by simp [epS,n]
  rw [e1,storedH_new n] at new
  exact wpAny_bind (wpAny_rule (wpAny_bind (wpAny_updateDictKeys (s:={ s with toks:=s.toks + knd.draws k }) (hz:=by omega) g dat (wpAny_pure (new n _ y sb)))))
 ·obtain ⟨o',es',g',dat',ee⟩:=x.entry hj
  refine wpAny_bind (wpAny_dictEntries (s:={ s with toks:=s.toks + knd.draws k }) g' dat' ?_)
  rw [ee]
  exact wpAny_bind (wpAny_rule (wpAny_pure (there p e)))
theorem meets_setdef (hd:(d == sysModules) = false) (dflt:Value) :
  MeetsIn prog w (Builtin.«dict.setdefault» ⟨[.ref d,.ref a,dflt],[]⟩) (fun A R s => knd.room A.in1 ∧ ∃ k xs ep,knd.is s.heap k a ∧ DictE knd s.heap d xs ep ∧ xs.length ≤ sizeLine ∧
   (∀ p,atKey xs k = some p → R (.ok (.ret p.2)) { s with toks:=s.toks + knd.draws k }) ∧
   (atKey xs k = none → ∀ h',DictE knd h' d (storedH xs k a dflt) (epS xs k ep) → Heap.SameBut d s.heap h' → R (.ok (.ret dflt)) { s with heap:=h',toks:=s.toks + knd.draws k })) :=
 .of_wp fun A R s z3_ => by
  obtain ⟨hu,k,xs,ep,hkey,hm,hz,h1,h2⟩:=z3_
  unfold Builtin.«dict.setdefault»
  refine wpAny_bind ?_
  unfold Builtin.Dict.keyAndDefault
  refine wpAny_bind (wpAny_notOrdered_dict hm.of.typeIs ?_)
  show wpAny _ _ (pure (d,Value.ref a,some dflt)) _ _ s
  refine wpAny_pure ?_
  show wpAny _ _ (if (d == sysModules) = true then _ else (dictSetDefault d (.ref a) dflt >>= _)) _ _ s
  rw [if_neg (by rw [hd]; exact Bool.false_ne_true)]
  exact wpAny_bind (setDefE hu hkey hm hz (fun p hp => wpAny_pure ⟨p.2,rfl,h1 p hp⟩) fun hn h' hm' hs' => wpAny_pure ⟨dflt,rfl,h2 hn h' hm' hs'⟩)
end
section
variable {X:Cx}
noncomputable def gDGet1:GM:=fun x xs L => match x,xs with
 | .ref i,[y] => (match L[i]? with | some (.dt kvs _) => (dNK y).map fun k => ((lookN kvs k).getD .non,L) | _ => none)
 | _,_ => none
theorem md_dget (hu:X.A.units + 64 < cLine):MtD X "dict.get" gDGet1:=fun pins s σ H x xs v us Q I rx rv z12_ => by
 obtain ⟨O,L,dx,dxs,d,L',rp,ix,ixs,e,k⟩:=z12_
 unfold gDGet1 at e
 split at e
 ·rename_i i y
  split at e
  ·rename_i kvs ep e1
   obtain ⟨k0,e2,e3⟩:=Option.map_eq_some_iff.mp e
   cases e3
   cases ix with | ref hi =>
    cases ixs with | cons i1 i2 =>
     cases i2
     obtain ⟨us',ys,ha,hsm,hz,r3,hk,dd⟩:=dt_at I (rp.ob i _ _ hi e1)
     obtain ⟨b,rfl,ik⟩:=is_key i1 e2
     cases rx
     obtain ⟨u,rfl,ru⟩:=vals1 rv
     cases (show u = Value.ref b from ru)
     refine call_meetsIn PySem.F.slot_dict_get dd.of.typeIs PySem.F.entry_dict_get (PySem.F.args_dict_get_2 _ _) (meetsH_dict_get (key2Kind X.prog X.w) _ b hsm) ⟨show X.A.in1.units + 1 < cLine from by show X.A.units + 1 + 1 < cLine; omega,k0,ys,key_is I ik,dd.of,?_⟩
     rcases r3.look k0 with ⟨n1,n2⟩ | ⟨d',b',v',u',l,at_,iv,rv',_⟩
     ·rw [n1] at k; rw [n2]
      exact ⟨.non,H,I.tok _,rfl,k _ _ _ (.refl _ _) rp .non⟩
     ·rw [l] at k; rw [at_]
      exact ⟨v',H,I.tok _,rv',k _ _ _ (.refl _ _) rp iv⟩
  ·cases e
 ·cases e
noncomputable def gSetDef:GM:=fun x xs L => match x,xs with
 | .ref i,[y,v] => (match L[i]? with
  | some (.dt kvs ep) => (dNK y).bind fun k => (match lookN kvs k with | some d => some (d,L) | none => if kvs.length < 16777216 then some (v,L.set i (.dt (putN kvs k v) (epN kvs k ep))) else none)
  | _ => none)
 | _,_ => none
theorem md_setdef (hu:X.A.units + 64 < cLine):MtD X "dict.setdefault" gSetDef:=fun pins s σ H x xs v us Q I rx rv z12_ => by
 obtain ⟨O,L,dx,dxs,d,L',rp,ix,ixs,e,k⟩:=z12_
 unfold gSetDef at e
 split at e
 ·rename_i i y dv
  split at e
  ·rename_i kvs ep e1
   obtain ⟨k0,e2,e3⟩:=Option.bind_eq_some_iff.mp e
   cases ix with | ref hi =>
    cases ixs with | @cons v1 _ _ _ i1 i2 => cases i2 with | @cons v2 _ _ _ j1 j2 =>
     cases j2
     obtain ⟨us',ys,ha,hsm,hz,r3,hk,dd⟩:=dt_at I (rp.ob i _ _ hi e1)
     obtain ⟨b,rfl,ik⟩:=is_key i1 e2
     cases rx
     cases rv with | @cons _ u1 _ _ ru1 rv2 => cases rv2 with | @cons _ u2 _ _ ru2 rv3 =>
      cases rv3
      cases (show u1 = Value.ref b from ru1)
      refine call_meetsIn PySem.F.slot_dict_setdefault dd.of.typeIs PySem.F.entry_dict_setdefault (PySem.F.args_dict_setdefault_3 _ _ _) (meets_setdef (knd:=key2Kind X.prog X.w) hsm u2) ⟨show X.A.in1.units + 1 < cLine from by show X.A.units + 1 + 1 < cLine; omega,k0,ys,ep,key_is I ik,dd,by rw [r3.len.2,← r3.len.1]; exact hz,fun p hp => ?_,fun hn h' dd' hs => ?_⟩
      ·rcases r3.look k0 with ⟨n1,n2⟩ | ⟨d',b',v',u',l,at_,iv,rv',_⟩
       ·rw [n2] at hp; cases hp
       ·rw [at_] at hp; cases hp
        rw [l] at e3
        cases e3
        exact ⟨v',H,I.tok _,rv',k _ _ _ (.refl _ _) rp iv⟩
      ·rcases r3.look k0 with ⟨n1,n2⟩ | ⟨d',b',v',u',l,at_,iv,rv',_⟩
       ·rw [n1] at e3
        simp only at e3
        split at e3
        ·rename_i hz2
         cases e3
         obtain ⟨I',st,rs'⟩:=dt_store (t':=s.toks + (key2Kind X.prog X.w).draws k0) I rp hi hz2 ha hsm r3 hk ik j1 ru2 dd' hs
         exact ⟨v2,_,I',ru2,k _ _ _ st rs' (j1.mono st)⟩
        ·cases e3
       ·rw [at_] at hn; cases hn
  ·cases e
 ·cases e
noncomputable def gExtend:GM:=fun x xs L => match x,xs with
 | .ref i,[.ref j] => (match L[i]?,L[j]? with | some (.lst as),some (.lst bs) => if as.length + bs.length ≤ 16777216 then some (.non,L.set i (.lst (as ++ bs))) else none | _,_ => none)
 | _,_ => none
theorem md_extend:MtD X "list.extend" gExtend:=MtR.weaken (show MtR X "list.extend" rExtend from mt_extend) fun v vs H Q z4_ => by
 obtain ⟨O,L,dx,dxs,d,L',rp,ix,ixs,e,k⟩:=z4_
 unfold gExtend at e
 split at e
 ·rename_i i j
  split at e
  ·rename_i as bs e1 e2
   split at e
   ·rename_i hz
    cases e
    cases ix with | @ref _ a hi =>
     cases ixs with | @cons v1 y1 _ _ i1 i2 =>
      cases i2
      cases i1 with | @ref _ b hj =>
       obtain ⟨ws,hw,il⟩:=rp.ob _ _ _ hi e1
       obtain ⟨zs,hzs,il2⟩:=rp.ob _ _ _ hj e2
       refine ⟨_,_,ws,zs,rfl,rfl,hw,hzs,by rw [il.length,il2.length,sizeLine_eq]; exact hz,?_⟩
       have st:Step H O (upd H a (.lst (ws ++ zs))) O:=⟨.write hw id,List.prefix_refl _⟩
       exact k _ _ _ st (rp.write (o':=.lst (as ++ bs)) hi ⟨_,upd_same,(il.mono st).append (il2.mono st)⟩) .non
   ·cases e
  ·cases e
 ·cases e
end
noncomputable def Ents (h:Heap) (d:Addr) (es:Array DictEntry) (ep:Nat):Prop:=∃ o,h.get? d = some o ∧ o.data = .dict es ep
section
variable {prog:Program} {w:World} {A:Around} {E:Value → Shared → Prop} {s:Shared} {t d v:Addr} {i ep:Nat} {es:Array DictEntry} {Q:Option Value → Shared → Prop}
theorem no_more {α:Type} {h0:Heap} {E':Value → Shared → Prop} (hh:A.handled = none) (k:Heap.ExtBut t h0 s.heap) (fin:∀ h',Heap.ExtBut t h0 h' → ∀ e,(∃ o,h'.get? e = some o ∧ o.cls = .type "StopIteration") → E' (.ref e) { s with heap:=h' }) {R:α → Shared → Prop} :
  wpAny (model prog w) A (newExc (.type "StopIteration") [] >>= fun x => (raiseNew x:Sem α)) R E' s:=by
 refine wpAny_bind ?_
 simp only [newExc,newTuple]
 refine wpAny_bind (wpAny_newObj_type (wpAny_bind (m:=firstArgMember _ _) (wpAny_of_eq (a:=Value.none) (by simp only [firstArgMember]; rfl) (wpAny_newObj_type ?_ (by size_fits)))) (by size_fits))
 simp only [raiseNew]
 refine wpAny_bind (wpAny_handled ?_)
 rw [hh]
 exact wpAny_bind (wpAny_pure (wpAny_throw (fin _ ((k.push _).push _) _ ⟨_,Heap.get?_push_size _ rfl,rfl⟩)))
theorem keys_next (hh:A.handled = none) (it:s.heap.IsKeyIter t d i es.size ep) (en:Ents s.heap d es ep)
  (more:∀ e,es[i]? = some e → ∀ h',h'.IsKeyIter t d (i + 1) es.size ep → Heap.SameBut t s.heap h' → Q (some e.key) { s with heap:=h' })
  (fin:es[i]? = none → ∀ h',Heap.ExtBut t s.heap h' → Q none { s with heap:=h' }):wpAny (model prog w) A (pyNext (.ref t)) Q E s:=by
 obtain ⟨ot,gt,ct,dt⟩:=id it
 obtain ⟨od,gd,dd⟩:=en
 have ty:=it.typeIs
 have inner:∀ {F:Value → Shared → Prop} {R:Value → Shared → Prop},(∀ e,es[i]? = some e → ∀ h',h'.IsKeyIter t d (i + 1) es.size ep → Heap.SameBut t s.heap h' → R e.key { s with heap:=h' }) →
   (es[i]? = none → ∀ h',Heap.ExtBut t s.heap h' → ∀ x,(∃ o,h'.get? x = some o ∧ o.cls = .type "StopIteration") → F (.ref x) { s with heap:=h' }) →
   wpAny (model prog w) A.in1 (Builtin.«dict_keyiterator.__next__» ⟨[.ref t],[]⟩) (fun fi s2 => ∃ v,fi = PySem.Fin.done (Flow.ret v) ∧ R v s2) F s:=fun {F R} one none_ => by
  refine wpAny_bind (wpAny_pure (wpAny_bind (wpAny_bind (wpAny_bind (wpAny_typeNameOfWhole_keyiter ty (wpAny_pure (wpAny_bind (wpAny_fieldsOf gt dt ?_))))))))
  rw [show Builtin.Dict_items.ownsTuple "dict_keyiterator" = false from by decide]
  show wpAny _ _ (if (Value.ref d == Value.none) = true then _ else _) _ _ s
  rw [if_neg (fun z => by cases (show (false:Bool) = true from z))]
  refine wpAny_bind (wpAny_pure (wpAny_bind (wpAny_dictEntries gd dd ?_)))
  rw [if_neg (by simp)]
  refine wpAny_bind (wpAny_pure (wpAny_bind (wpAny_dictEpoch gd dd ?_)))
  rw [if_neg (by simp)]
  refine wpAny_pure ?_
  have i0:¬ ((i:Int) < 0):=by omega
  simp only [i0,if_false,Int.toNat_natCast]
  cases ee:es[i]? with
  | none =>
   refine wpAny_bind (wpAny_bind (wpAny_typeNameOfWhole_keyiter ty (wpAny_pure ?_)))
   refine wpAny_bind (m:=setField (.ref t) 0 .none) (wpAny_setField gt dt (by simp) ?_)
   exact no_more (A:=A.in1) (t:=t) (h0:=s.heap) (s:={ s with heap:=s.heap.update t (Obj.mapFields (·.setIfInBounds 0 .none)) }) hh (Heap.SameBut.update ..).extBut fun h' k x hx => none_ ee h' k x hx
  | some e =>
   refine wpAny_bind (wpAny_bind (wpAny_typeNameOfWhole_keyiter ty (wpAny_pure (wpAny_bind (wpAny_isOneOf_keyiter ty ?_)))))
   have it':(s.heap.update t (Obj.mapFields (·.setIfInBounds 1 (rawInt ((i:Int) + 1))))).IsKeyIter t d (i + 1) es.size ep :=
    ⟨_,Heap.get?_update_self _ gt (Obj.isFreed_of_fields (Obj.data_mapFields dt _)),(Obj.cls_mapFields ..).trans ct,by rw [Obj.data_mapFields dt]; simp [rawInt]⟩
   refine wpAny_bind (m:=setField (.ref t) 1 (rawInt ((i:Int) + 1))) (wpAny_setField gt dt (by simp) (wpAny_bind (wpAny_holding (wpAny_bind (wpAny_isOneOf_keyiter it'.typeIs ?_)))))
   exact wpAny_pure (wpAny_pure ⟨_,rfl,one e ee _ it' (Heap.SameBut.update ..)⟩)
 unfold pyNext
 refine wpAny_bind (wpAny_attempt (wpAny_callSpecial?_slot (name:=Str.ofString "__next__") ty F.slot_dict_keyiterator_next (wpAny_call_entry F.slot_dict_keyiterator_next ty F.entry_dict_keyiterator_next (inner (fun e ee h' i' sb => wpAny_pure (more e ee h' i' sb)) fun en h' k x hx => ?_) (F.args_dict_keyiterator_next_1 _))))
 obtain ⟨o,g,c⟩:=hx
 exact wpAny_bind (wpAny_isInstance (T:="StopIteration") (b:=true) ⟨o,g,c⟩ isSubtype_stop (wpAny_pure (fin en h' k)))
noncomputable def PairIt (h:Heap) (t d:Addr) (i n ep:Nat):Prop:=∃ a b,IsItemIter h t d i n ep a b
noncomputable def PairOut (h:Heap) (t d:Addr) (i n ep:Nat) (T:Addr):Prop:=∃ a b,IsItemIterOut h t d i n ep a b T
theorem pairs_next (hh:A.handled = none) (it:PairIt s.heap t d i es.size ep) (en:Ents s.heap d es ep)
  (more:∀ e,es[i]? = some e → ∀ h',PairOut h' t d (i + 1) es.size ep s.heap.objs.size → h'.get? s.heap.objs.size = some { cls:=.type "tuple",data:=.seq #[e.key,e.val] } → h'.objs.size = s.heap.objs.size + 1 → (∀ b o,b ≠ t → s.heap.get? b = some o → h'.get? b = some o) → Q (some (.ref s.heap.objs.size)) { s with heap:=h' })
  (fin:es[i]? = none → ∀ h',Heap.ExtBut t s.heap h' → Q none { s with heap:=h' }):wpAny (model prog w) A (pyNext (.ref t)) Q E s:=by
 obtain ⟨ka,va,gt⟩:=it
 obtain ⟨od,gd,dd⟩:=en
 have ty:s.TypeIs (.ref t) "dict_itemiterator":=⟨_,gt,rfl⟩
 have tl:t < s.heap.objs.size:=Heap.lt_size gt
 have inner:∀ {F:Value → Shared → Prop} {R:Value → Shared → Prop},
   (∀ e,es[i]? = some e → ∀ h',PairOut h' t d (i + 1) es.size ep s.heap.objs.size → h'.get? s.heap.objs.size = some { cls:=.type "tuple",data:=.seq #[e.key,e.val] } → h'.objs.size = s.heap.objs.size + 1 → (∀ b o,b ≠ t → s.heap.get? b = some o → h'.get? b = some o) → R (.ref s.heap.objs.size) { s with heap:=h' }) →
   (es[i]? = none → ∀ h',Heap.ExtBut t s.heap h' → ∀ x,(∃ o,h'.get? x = some o ∧ o.cls = .type "StopIteration") → F (.ref x) { s with heap:=h' }) →
   wpAny (model prog w) A.in1 (Builtin.«dict_itemiterator.__next__» ⟨[.ref t],[]⟩) (fun fi s2 => ∃ v,fi = PySem.Fin.done (Flow.ret v) ∧ R v s2) F s:=fun {F R} one none_ => by
  refine wpAny_bind (wpAny_pure (wpAny_bind (wpAny_bind (wpAny_bind (wpAny_typeNameOfWhole_itemiter ty (wpAny_pure (wpAny_bind (wpAny_fieldsOf gt rfl ?_))))))))
  rw [show Builtin.Dict_items.ownsTuple "dict_itemiterator" = true from by decide]
  show wpAny _ _ (if (Value.ref d == Value.none) = true then _ else _) _ _ s
  rw [if_neg (fun z => by cases (show (false:Bool) = true from z))]
  refine wpAny_bind (wpAny_pure (wpAny_bind (wpAny_dictEntries gd dd ?_)))
  rw [if_neg (by simp)]
  refine wpAny_bind (wpAny_pure (wpAny_bind (wpAny_dictEpoch gd dd ?_)))
  rw [if_neg (by simp)]
  refine wpAny_pure ?_
  have i0:¬ ((i:Int) < 0):=by omega
  simp only [i0,if_false,Int.toNat_natCast]
  cases ee:es[i]? with
  | none =>
   refine wpAny_bind (wpAny_bind (wpAny_typeNameOfWhole_itemiter ty (wpAny_pure ?_)))
   refine wpAny_bind (m:=setField (.ref t) 2 .none) (wpAny_setField gt rfl (by simp) ?_)
   exact no_more (A:=A.in1) (t:=t) (h0:=s.heap) (s:={ s with heap:=s.heap.update t (Obj.mapFields (·.setIfInBounds 2 .none)) }) hh (Heap.SameBut.update ..).extBut fun h' k x hx => none_ ee h' k x hx
  | some e =>
   refine wpAny_bind (wpAny_bind (wpAny_typeNameOfWhole_itemiter ty (wpAny_pure (wpAny_bind (wpAny_isOneOf_itemiter ty ?_)))))
   refine wpAny_bind (m:=setField (.ref t) 3 (rawInt ((i:Int) + 1))) (wpAny_setField_rec gt (by simp) fun h1 g1 b1 => ?_)
   have g1':IsItemIter h1 t d (i + 1) es.size ep ka va:=by
    show h1.get? t = _
    rw [show ((i + 1:Nat):Int) = (i:Int) + 1 by omega]
    exact g1
   have ty1:Shared.TypeIs { s with heap:=h1 } (.ref t) "dict_itemiterator":=⟨_,g1',rfl⟩
   refine wpAny_bind (wpAny_holding (wpAny_bind (wpAny_isOneOf_itemiter ty1 (wpAny_bind (wpAny_isOneOf_itemiter ty1 ?_)))))
   show wpAny _ _ (Builtin.Dict_items.pairFromOwner (.ref t) 6 e.key e.val) _ _ { s with heap:=h1 }
   unfold Builtin.Dict_items.pairFromOwner
   refine wpAny_bind (wpAny_newTuple ?_)
   -- the tuple is laid
   have z1:h1.objs.size = s.heap.objs.size:=b1.1
   have lay:∀ h2,h2 = h1.push { cls:=.type "tuple",data:=.seq #[e.key,e.val] } → IsItemIter h2 t d (i + 1) es.size ep ka va ∧ h2.get? s.heap.objs.size = some { cls:=.type "tuple",data:=.seq #[e.key,e.val] } ∧ h2.objs.size = s.heap.objs.size + 1 ∧ ∀ b o,b ≠ t → s.heap.get? b = some o → h2.get? b = some o:=fun h2 e2 => by
    subst e2
    exact ⟨Heap.get?_push_of_some _ g1',by rw [← z1]; exact Heap.get?_push_size _ rfl,by rw [Heap.size_push,z1],fun b o hb q => Heap.get?_push_of_some _ (b1.extBut b o hb q)⟩
   show wpAny _ _ (Builtin.Dict_items.ownedTupleIsFree (.ref t) >>= _) _ _ { s with heap:=h1.push { cls:=.type "tuple",data:=.seq #[e.key,e.val] } }
   obtain ⟨g2,u2,z2,k2⟩:=lay _ rfl
   rw [z1]
   generalize h1.push { cls:=.type "tuple",data:=.seq #[e.key,e.val] } = h2 at g2 u2 z2 k2 ⊢
   unfold Builtin.Dict_items.ownedTupleIsFree
   refine wpAny_bind (wpAny_bind (wpAny_field (x:=.none) g2 rfl rfl (wpAny_pure ?_)))
   rw [if_pos rfl]
   refine wpAny_bind (wpAny_field (x:=ka) g2 rfl rfl (wpAny_bind (wpAny_field (x:=va) g2 rfl rfl ?_)))
   refine wpAny_bind (wpAny_setField_rec g2 (by simp) fun h3 g3 b3 => wpAny_bind (wpAny_setField_rec g3 (by simp) fun h4 g4 b4 => wpAny_bind (wpAny_setField_rec g4 (by simp) fun h5 g5 b5 => wpAny_bind (wpAny_setField_rec g5 (by simp) fun h6 g6 b6 => ?_))))
   have far:∀ b o,b ≠ t → h2.get? b = some o → h6.get? b = some o:=fun b o hb q => b6.extBut b o hb (b5.extBut b o hb (b4.extBut b o hb (b3.extBut b o hb q)))
   have z6:h6.objs.size = h2.objs.size:=b6.1.trans (b5.1.trans (b4.1.trans b3.1))
   refine wpAny_bind (wpAny_letGo (wpAny_pure (wpAny_pure ⟨_,rfl,one e ee h6 ⟨e.key,e.val,g6⟩ (far _ _ (Nat.ne_of_gt tl) u2) (z6.trans z2) fun b o hb q => far b o hb (k2 b o hb q)⟩)))
 unfold pyNext
 refine wpAny_bind (wpAny_attempt (wpAny_callSpecial?_slot (name:=Str.ofString "__next__") ty F.slot_dict_itemiterator_next (wpAny_call_entry F.slot_dict_itemiterator_next ty F.entry_dict_itemiterator_next (inner (fun e ee h' i' u z k => wpAny_pure (more e ee h' i' u z k)) fun en h' k x hx => ?_) (F.args_dict_itemiterator_next_1 _))))
 obtain ⟨o,g,c⟩:=hx
 exact wpAny_bind (wpAny_isInstance (T:="StopIteration") (b:=true) ⟨o,g,c⟩ isSubtype_stop (wpAny_pure (fin en h' k)))
theorem keys_iter {R:Value → Shared → Prop} (hd:(d == sysModules) = false) (ty:s.TypeIs (.ref d) "dict") (en:Ents s.heap d es ep)
  (k:R (.ref s.heap.objs.size) { s with heap:=s.heap.push { cls:=.type "dict_keyiterator",data:=.fields #[.ref d,.int 0 0,.int es.size 0,.int ep 0] } }):wpAny (model prog w) A (pyIter (.ref d)) R E s:=by
 obtain ⟨od,gd,dd⟩:=en
 refine wpAny_pyIter_slot ty F.slot_dict_iter (wpAny_call_entry F.slot_dict_iter ty F.entry_dict_iter ?_ (F.args_dict_iter_1 _))
 refine wpAny_bind (wpAny_bind (m:=Builtin.Dict.notOrdered "__iter__" ⟨[.ref d],[]⟩) (wpAny_notOrdered_dict ty (wpAny_pure ?_)))
 refine wpAny_bind (m:=Builtin.Dict.showsAll d) ?_
 unfold Builtin.Dict.showsAll
 rw [hd,if_neg Bool.false_ne_true]
 refine wpAny_pure (wpAny_bind (wpAny_dictEntries gd dd (wpAny_bind (wpAny_dictEpoch gd dd (wpAny_bind (wpAny_newObj_type (wpAny_pure ⟨_,rfl,"dict_keyiterator",_,⟨_,Heap.get?_push_size _ rfl,rfl⟩,F.slot_dict_keyiterator_next.lookup,?_⟩)))))))
 exact k
theorem meets_pairs (hd:(d == sysModules) = false):MeetsIn prog w (Builtin.«dict.items» ⟨[.ref d],[]⟩) (fun _ R s => s.TypeIs (.ref d) "dict" ∧ R (.ok (.ret (.ref s.heap.objs.size))) { s with heap:=s.heap.push { cls:=.type "dict_items",data:=.fields #[.ref d] } }) :=
 .of_wp fun A R s z3_ => by
  obtain ⟨ty,k⟩:=z3_
  refine wpAny_bind (wpAny_bind (m:=Builtin.Dict.notOrdered "items" ⟨[.ref d],[]⟩) (wpAny_notOrdered_dict ty (wpAny_pure ?_)))
  refine wpAny_bind (m:=Builtin.Dict.showsAll d) ?_
  unfold Builtin.Dict.showsAll
  rw [hd,if_neg Bool.false_ne_true]
  exact wpAny_pure (wpAny_bind (wpAny_newObj_type (wpAny_pure ⟨_,rfl,k⟩)))
theorem pairs_iter {R:Value → Shared → Prop} (hv:s.heap.IsItemsView v d) (en:Ents s.heap d es ep)
  (k:R (.ref s.heap.objs.size) { s with heap:=s.heap.push { cls:=.type "dict_itemiterator",data:=.fields #[.none,.bool false,.ref d,.int 0 0,.int es.size 0,.int ep 0,.none,.none] } }):wpAny (model prog w) A (pyIter (.ref v)) R E s:=by
 obtain ⟨ov,gv,cv,dv⟩:=id hv
 obtain ⟨od,gd,dd⟩:=en
 refine wpAny_pyIter_slot hv.typeIs F.slot_dict_items_iter (wpAny_call_entry F.slot_dict_items_iter hv.typeIs F.entry_dict_items_iter ?_ (F.args_dict_items_iter_1 _))
 refine wpAny_bind (wpAny_pure (wpAny_bind (wpAny_bind (wpAny_field (x:=.ref d) gv dv rfl (wpAny_pure (wpAny_bind (wpAny_bind (wpAny_dictEntries gd dd (wpAny_bind (wpAny_dictEpoch gd dd ?_))))))))))
 show wpAny _ _ (newFields "dict_itemiterator" [.none,.bool false,.ref d,rawInt 0,rawInt es.size,rawInt ep,.none,.none]) _ _ s
 refine wpAny_newObj_type (wpAny_pure ⟨_,rfl,"dict_itemiterator",_,⟨_,Heap.get?_push_size _ rfl,rfl⟩,F.slot_dict_itemiterator_next.lookup,?_⟩) (by rw [sizeOk,sizeLine_eq]; show 8 ≤ 16777216 + 2; decide)
 exact k
end
section
variable {X:Cx} {pins:List (Addr × Obj)} {σ:L2.St} {H:Hp} {s:Shared}
theorem Paired.at {α β:Type} {R:α → β → Prop}:∀ {l:List α} {m:List β} {j:Nat} {a:α},Paired R l m → l[j]? = some a → ∃ b,m[j]? = some b ∧ R a b
 | _,_,_,_,.nil,h => by simp at h
 | _,_,0,_,.cons r _,h => by simp at h; subst h; exact ⟨_,rfl,r⟩
 | _,_,j + 1,_,.cons _ t,h => by
  obtain ⟨b,e,q⟩:=Paired.at (j:=j) t (by simpa using h)
  exact ⟨b,by simpa using e,q⟩
theorem dn_ents (I:Inv X pins σ H s) {a:Addr} {us:List (NK × Addr × V)} {ep:Nat} (h:H a = some (.dN us ep)) :
  (a == sysModules) = false ∧ (s.TypeIs (.ref a) "dict" ∧ ∃ o,s.heap.get? a = some o ∧ o.dict = none) ∧ ∃ es,Ents s.heap a es ep ∧ es.size = us.length ∧ ∀ (i:Nat) (u:NK × Addr × V),us[i]? = some u → ∃ e:DictEntry,es[i]? = some e ∧ e.key = .ref u.2.1 ∧ RelV u.2.2 e.val:=by
 obtain ⟨z,y,xs,r,o,es,g,ex,dat,el,nd⟩:=(show ObjOk X.prog X.w H s.heap a (.dN us ep) from I.hok a _ h)
 have hl:xs.length = us.length:=(Paired.length r).symm
 refine ⟨y,⟨⟨o,g,ex.1⟩,o,g,ex.2.1⟩,es,⟨o,g,dat⟩,?_,fun i u hu => ?_⟩
 ·rw [← Array.length_toList,el,List.length_map,hl]
 ·obtain ⟨q,hq,h1,h2,h3⟩:=Paired.at r hu
  refine ⟨entryOfKey (key2Kind X.prog X.w) q,?_,by show Value.ref q.2.1 = _; rw [h2],h3⟩
  rw [← Array.getElem?_toList,el,List.getElem?_map,hq]; rfl
end
noncomputable def Itk (a:Addr) (n ep:Nat):It :=
 ⟨fun i H => ∃ us,H a = some (.dN us ep) ∧ us.length = n ∧ i < n,fun i H v H' => H' = H ∧ ∀ us,H a = some (.dN us ep) → ∃ u,us[i]? = some u ∧ v = .ref u.2.1,fun i H => ∃ us,H a = some (.dN us ep) ∧ us.length = n ∧ n ≤ i⟩
theorem turn_keys {P:Program} {w:World} {K:PySem.W.Frag} {tg:Expr} (a it:Addr) (n ep:Nat):Turn P w K tg (Itk a n ep) [it] it (fun i h => h.IsKeyIter it a i n ep) where
 mem:=by simp
 obj:=fun i h st b hb => by
  obtain rfl:b = it:=by simpa using hb
  obtain ⟨o,e,c,d⟩:=st
  exact ⟨o,e,fun v z => by rw [d] at z; cases z⟩
 keep:=fun i h h' st k => st.at fun o e => k it (by simp) o e
 item:=by
  intro X hP hw hK hc i pins s σ H E I hf st ⟨us,ha,hl,hi⟩
  subst hP hw hK
  obtain ⟨_,_,es,en,sz,at_⟩:=dn_ents I ha
  obtain ⟨f0,f1,f2,f3,f4,f5⟩:=hf it (by simp)
  have hz:es.size = n:=sz.trans hl
  subst hz
  obtain ⟨u,hu⟩:∃ u,us[i]? = some u:=⟨us[i]'(by omega),by simp [show i < us.length by omega]⟩
  obtain ⟨e,he,hk,_⟩:=at_ i u hu
  refine keys_next (I.ok.hd hc) st en (fun e' he' h' st' sb => ?_) fun hn => by rw [he] at hn; cases hn
  rw [he] at he'; cases he'
  have I1:Inv X pins σ H { s with heap:=h' }:=I.turned (t':=s.toks) (fun b o hb q => (sb.2 b hb).trans q) f0 f1 f3 f4 f5
  rw [hk]
  exact ⟨_,rfl,letGo_keyiter (s':={ s with heap:=h' }) st' ⟨.ref u.2.1,H,I1,rfl,⟨rfl,fun us' h' => by rw [ha] at h'; cases h'; exact ⟨u,hu,rfl⟩⟩,st',fun b hb => (hf b hb).1⟩⟩
 done:=by
  intro X hP hw hK hc i pins s σ H E I hf st ⟨us,ha,hl,hi⟩
  subst hP hw hK
  obtain ⟨_,_,es,en,sz,at_⟩:=dn_ents I ha
  obtain ⟨f0,f1,f2,f3,f4,f5⟩:=hf it (by simp)
  have hz:es.size = n:=sz.trans hl
  subst hz
  refine keys_next (I.ok.hd hc) st en (fun e' he' h' st' sb => ?_) fun _ h' k => ⟨rfl,I.turned (t':=s.toks) (fun b o hb q => k b o hb q) f0 f1 f3 f4 f5⟩
  rw [Array.getElem?_eq_none hi] at he'; cases he'
 self:=fun _ _ _ _ _ st h => wpAny_pyIter_keyiter st h
theorem entry_pairs_iter:entryFor table "dict_itemiterator.__iter__" = some Builtin.«dict_keyiterator.__iter__»:=entryFor_alias (id':="dict_keyiterator.__iter__") (by kernel_rfl) rfl (by decide +kernel) (by kernel_rfl)
noncomputable def Itp (a:Addr) (n ep:Nat):It :=
 ⟨fun i H => ∃ us,H a = some (.dN us ep) ∧ us.length = n ∧ i < n,fun i H v H' => ∃ T,H T = none ∧ v = .ref T ∧ ∀ us,H a = some (.dN us ep) → ∃ u,us[i]? = some u ∧ H' = upd H T (.tup [.ref u.2.1,u.2.2]),fun i H => ∃ us,H a = some (.dN us ep) ∧ us.length = n ∧ n ≤ i⟩
theorem turn_pairs {P:Program} {w:World} {K:PySem.W.Frag} {elts:List Expr} {x1:Nat} {tp:Pos} (a it:Addr) (n ep:Nat):Turn P w K (.Tuple elts x1 tp) (Itp a n ep) [it] it (fun i h => PairIt h it a i n ep) where
 mem:=by simp
 obj:=fun i h st b hb => by
  obtain rfl:b = it:=by simpa using hb
  obtain ⟨_,_,e⟩:=st
  exact ⟨_,e,fun v z => by cases z⟩
 keep:=fun i h h' ⟨x,y,st⟩ k => ⟨x,y,k it (by simp) _ st⟩
 item:=by
  intro X hP hw hK hc i pins s σ H E I hf st ⟨us,ha,hl,hi⟩
  subst hP hw hK
  obtain ⟨_,_,es,en,sz,at_⟩:=dn_ents I ha
  have hz:es.size = n:=sz.trans hl
  subst hz
  have til:it < s.heap.objs.size:=by obtain ⟨_,_,e⟩:=st; exact Heap.lt_size e
  obtain ⟨u,hu⟩:∃ u,us[i]? = some u:=⟨us[i]'(by omega),by simp [show i < us.length by omega]⟩
  obtain ⟨e,he,hk,rv⟩:=at_ i u hu
  refine pairs_next (I.ok.hd hc) st en (fun e' he' h' st' ht hsz kk => ?_) fun hn => by rw [he] at hn; cases hn
  rw [he] at he'; cases he'
  obtain ⟨y1,y2,st'⟩:=st'
  refine ⟨_,rfl,wpAny_letOwnedTupleGo_items st' fun h2 st2 sb2 => ?_⟩
  have ht2:h2.get? s.heap.objs.size = some { cls:=.type "tuple",data:=.seq #[e.key,e.val] }:=(sb2.2 _ (Nat.ne_of_gt til)).trans ht
  have new:ObjOk X.prog X.w (upd H s.heap.objs.size (.tup [.ref u.2.1,u.2.2])) h2 s.heap.objs.size (.tup [.ref u.2.1,u.2.2]) :=
   ⟨by rw [sizeLine_eq]; show 2 ≤ 16777216; decide,[e.key,e.val],.cons hk (.cons rv .nil),⟨_,ht2,rfl,_,rfl⟩⟩
  have I1:=turnNew (t':=s.toks) (h':=h2) I hf (fun b o hb q => by
   have hbi:b ≠ it:=fun z => hb (by simp [z])
   exact (sb2.2 b hbi).trans (kk b o hbi q)) (Nat.le_refl _) (fun z => absurd (List.mem_singleton.mp z) (Nat.ne_of_gt til)) (fun b hb => by
   obtain rfl:b = it:=by simpa using hb
   exact ⟨_,st2⟩) new
  refine ⟨.ref s.heap.objs.size,_,I1,rfl,⟨s.heap.objs.size,I.hok.fresh (Nat.le_refl _),rfl,fun us' h' => by rw [ha] at h'; cases h'; exact ⟨u,hu,rfl⟩⟩,⟨_,_,st2⟩,fun b hb => ?_⟩
  obtain rfl:b = it:=by simpa using hb
  rw [upd_ne (Nat.ne_of_lt til)]
  exact (hf b (by simp)).1
 done:=by
  intro X hP hw hK hc i pins s σ H E I hf st ⟨us,ha,hl,hi⟩
  subst hP hw hK
  obtain ⟨_,_,es,en,sz,at_⟩:=dn_ents I ha
  obtain ⟨f0,f1,f2,f3,f4,f5⟩:=hf it (by simp)
  have hz:es.size = n:=sz.trans hl
  subst hz
  refine pairs_next (I.ok.hd hc) st en (fun e' he' h' st' ht hsz kk => ?_) fun _ h' k => ⟨rfl,I.turned (t':=s.toks) (fun b o hb q => k b o hb q) f0 f1 f3 f4 f5⟩
  rw [Array.getElem?_eq_none hi] at he'; cases he'
 self:=fun A i s Q E ⟨x,y,st⟩ h => by
  have ty:s.TypeIs (.ref it) "dict_itemiterator":=⟨_,st,rfl⟩
  refine wpAny_pyIter_slot ty PySem.F.slot_dict_itemiterator_iter (wpAny_call_entry PySem.F.slot_dict_itemiterator_iter ty entry_pairs_iter ?_ (PySem.F.args_dict_itemiterator_iter_1 _))
  show wpAny _ _ (ret (.ref it)) _ _ s
  exact wpAny_pure ⟨_,rfl,"dict_itemiterator",_,ty,PySem.F.slot_dict_itemiterator_next.lookup,h⟩
noncomputable def sameKeys (k:Nat) (kvs:List (NK × D)) (ep:Nat) (L:Sto):Bool:=match L[k]? with | some (.dt kvs' ep') => decide (kvs'.map (·.1) = kvs.map (·.1)) && ep' == ep | _ => false
noncomputable def keysD (kvs:List (NK × D)):List D:=kvs.map fun kv => nkD kv.1
noncomputable def pairsD (kvs:List (NK × D)):List D:=kvs.map fun kv => .tup [nkD kv.1,kv.2]
noncomputable def iKeyF (f:EF):IF:=fun ρ L => (f ρ L).bind fun x => match x.1 with
 | .ref k => (match x.2[k]? with | some (.dt kvs ep) => some (⟨keysD kvs,sameKeys k kvs ep⟩,x.2) | _ => none)
 | _ => none
noncomputable def iPairF (f:EF):IF:=fun ρ L => (f ρ L).bind fun x => match x.1 with
 | .ref k => (match x.2[k]? with | some (.dt kvs ep) => some (⟨pairsD kvs,fun L' => decide (L'[k]? = some (.dt kvs ep))⟩,x.2) | _ => none)
 | _ => none
section
variable {X:Cx} {tg l:Expr} {f:EF}
theorem sameKeys_at {k:Nat} {kvs:List (NK × D)} {ep:Nat} {L:Sto} (h:sameKeys k kvs ep L = true):∃ kvs',L[k]? = some (.dt kvs' ep) ∧ kvs'.map (·.1) = kvs.map (·.1):=by
 unfold sameKeys at h
 split at h
 ·rename_i kvs' ep' e
  rw [Bool.and_eq_true] at h
  obtain rfl:ep' = ep:=beq_iff_eq.mp h.2
  exact ⟨kvs',e,of_decide_eq_true h.1⟩
 ·cases h
theorem pif_keys (hl:PEf X l f):PIf X tg l (iKeyF f):=by
 intro pins s σ H R I ⟨O,ρ,L,J,L',r,e,k⟩
 unfold iKeyF at e
 cases e1:f ρ L with
 | none => rw [e1] at e; cases e
 | some p =>
  rw [e1] at e
  obtain ⟨d,L1⟩:=p
  simp only [Option.bind_some] at e
  split at e
  ·rename_i n
   split at e
   ·rename_i kvs ep e2
    cases e
    refine thn (hl pins s σ H (fun v H1 => ∃ a O1,v = .ref a ∧ Step H O H1 O1 ∧ RepS X.K H1 O1 L' ∧ O1[n]? = some a) I ⟨O,ρ,L,_,_,r,e1,fun v H1 O1 st rs is => by cases is with | ref h => exact ⟨_,O1,rfl,st,rs,h⟩⟩) fun v s1 ⟨x,H1,I1,r1,a,O1,ev,st,rs,hn⟩ => ?_
    subst ev
    cases r1
    obtain ⟨us,ha,ek,il,ik⟩:=rs.ob n _ _ hn e2
    obtain ⟨hsm,⟨ty,nd⟩,es,en,sz,_⟩:=dn_ents I1 ha
    have hul:us.length = kvs.length:=by simpa using congrArg List.length ek
    refine keys_iter hsm ty en ?_
    refine ⟨s1.heap.objs.size,[s1.heap.objs.size],_,_,H1,rfl,I1.kept (t':=s1.toks) fun b o q => Heap.get?_push_of_some _ q,turn_keys a _ es.size ep,⟨_,Heap.get?_push_size _ rfl,rfl,rfl⟩,fun b hb => ?_,k _ H1 O1 st rs fun i H2 O2 L2 st2 rs2 ok => ?_⟩
    ·obtain rfl:b = s1.heap.objs.size:=by simpa using hb
     exact I1.fpOk (Nat.le_refl _) (I1.hok.fresh (Nat.le_refl _))
    ·obtain ⟨kvs',e3,ekk⟩:=sameKeys_at ok
     obtain ⟨us',ha',ek',il',ik'⟩:=rs2.ob n _ _ (pref_get st2.2 hn) e3
     have hl':us'.length = es.size:=by rw [sz,hul]; simpa using congrArg List.length (ek'.trans ekk)
     refine ⟨fun d hd => ?_,fun h => ⟨us',ha',hl',by rw [sz,hul]; simpa [keysD] using h⟩⟩
     have hi:i < kvs.length:=by
      rcases Nat.lt_or_ge i kvs.length with h | h
      ·exact h
      ·rw [show (keysD kvs)[i]? = none from List.getElem?_eq_none (by simpa [keysD] using h)] at hd; cases hd
     refine ⟨⟨us',ha',hl',by rw [sz,hul]; exact hi⟩,fun x H' ⟨eH,y⟩ => ?_⟩
     subst eH
     obtain ⟨u,hu,rfl⟩:=y us' ha'
     refine ⟨.refl _ _,rs2,?_⟩
     have hk:=ik' u (List.mem_of_getElem? hu)
     have e5:(us'.map (·.1))[i]? = some u.1:=by rw [List.getElem?_map,hu]; rfl
     rw [ek',ekk,List.getElem?_map] at e5
     simp only [keysD,List.getElem?_map] at hd
     cases e6:kvs[i]? with
     | none => rw [e6] at e5; cases e5
     | some q =>
      rw [e6] at e5 hd
      cases hd
      show Is _ _ _ _ (nkD q.1)
      rw [show q.1 = u.1 from Option.some.inj e5]
      exact hk
   ·cases e
  ·cases e
theorem pif_pairs {elts:List Expr} {x1:Nat} {tp apos cpos:Pos} (hl:PEf X l f) (hbase:attributeBase l "items" X.env (eval l X.env) = eval l X.env:=by rfl) (hline:(apos.endLine == cpos.line) = true:=by rfl) :
  PIf X (.Tuple elts x1 tp) (.Call (.Attribute l "items" apos) [] [] cpos) (iPairF f):=by
 intro pins s σ H R I ⟨O,ρ,L,J,L',r,e,k⟩
 unfold iPairF at e
 cases e1:f ρ L with
 | none => rw [e1] at e; cases e
 | some p =>
  rw [e1] at e
  obtain ⟨d,L1⟩:=p
  simp only [Option.bind_some] at e
  split at e
  ·rename_i n
   split at e
   ·rename_i kvs ep e2
    cases e
    refine wpAny_Call_method0_late hbase hline (thn (hl pins s σ H (fun v H1 => ∃ a O1,v = .ref a ∧ Step H O H1 O1 ∧ RepS X.K H1 O1 L' ∧ O1[n]? = some a) I ⟨O,ρ,L,_,_,r,e1,fun v H1 O1 st rs is => by cases is with | ref h => exact ⟨_,O1,rfl,st,rs,h⟩⟩) fun v s1 ⟨x,H1,I1,r1,a,O1,ev,st,rs,hn⟩ => ?_)
    subst ev
    cases r1
    obtain ⟨us,ha,ek,il,ik⟩:=rs.ob n _ _ hn e2
    obtain ⟨hsm,⟨ty,nd⟩,es,en,sz,_⟩:=dn_ents I1 ha
    have hul:us.length = kvs.length:=by simpa using congrArg List.length ek
    refine ⟨"dict","dict.items",PySem.F.plainAttrs_dict,PySem.F.slot_dict_items,PySem.F.type_dict_items,ty,fun b q => by cases q; exact nd,Calls.callWith_builtin rfl (PySem.evalArgs_none ?_)⟩
    refine call_meetsIn PySem.F.slot_dict_items ty PySem.F.entry_dict_items (PySem.F.args_dict_items_1 _) (meets_pairs hsm) ⟨ty,?_⟩
    obtain ⟨od,gd,dd⟩:=en
    refine pairs_iter (d:=a) (es:=es) (ep:=ep) (s:={ s1 with heap:=s1.heap.push { cls:=.type "dict_items",data:=.fields #[.ref a] } }) ⟨_,Heap.get?_push_size _ rfl,rfl,rfl⟩ ⟨od,Heap.get?_push_of_some _ gd,dd⟩ ?_
    have I2:Inv X pins σ H1 { s1 with heap:=s1.heap.push { cls:=.type "dict_items",data:=.fields #[.ref a] } }:=I1.kept (t':=s1.toks) fun b o q => Heap.get?_push_of_some _ q
    refine ⟨_,[_],_,_,H1,rfl,I2.kept (t':=s1.toks) fun b o q => Heap.get?_push_of_some _ q,turn_pairs a _ es.size ep,⟨_,_,Heap.get?_push_size _ rfl⟩,fun b hb => ?_,k _ H1 O1 st rs fun i H2 O2 L2 st2 rs2 ok => ?_⟩
    ·obtain rfl:=List.mem_singleton.mp hb
     exact I2.fpOk (Nat.le_refl _) (I2.hok.fresh (Nat.le_refl _))
    ·have e3:L2[n]? = some (.dt kvs ep):=of_decide_eq_true ok
     obtain ⟨us',ha',ek',il',ik'⟩:=rs2.ob n _ _ (pref_get st2.2 hn) e3
     have hl':us'.length = es.size:=by rw [sz,hul]; simpa using congrArg List.length ek'
     refine ⟨fun d hd => ?_,fun h => ⟨us',ha',hl',by rw [sz,hul]; simpa [pairsD] using h⟩⟩
     have hi:i < kvs.length:=by
      rcases Nat.lt_or_ge i kvs.length with h | h
      ·exact h
      ·rw [show (pairsD kvs)[i]? = none from List.getElem?_eq_none (by simpa [pairsD] using h)] at hd; cases hd
     refine ⟨⟨us',ha',hl',by rw [sz,hul]; exact hi⟩,fun x H' ⟨T,hT,ex,y⟩ => ?_⟩
     obtain ⟨u,hu,eH⟩:=y us' ha'
     subst ex eH
     have st3:Step H2 O2 (upd H2 T (.tup [.ref u.2.1,u.2.2])) O2:=⟨.new hT,List.prefix_refl _⟩
     refine ⟨st3,rs2.ext fun b q h => by rw [upd_ne (ne_of_none h hT)]; exact h,?_⟩
     have hk:=ik' u (List.mem_of_getElem? hu)
     have e5:(us'.map (·.1))[i]? = some u.1:=by rw [List.getElem?_map,hu]; rfl
     rw [ek',List.getElem?_map] at e5
     simp only [pairsD,List.getElem?_map] at hd
     cases e6:kvs[i]? with
     | none => rw [e6] at e5; cases e5
     | some q =>
      rw [e6] at e5 hd
      cases hd
      have e7:q.1 = u.1:=Option.some.inj e5
      obtain ⟨v,hv,iv⟩:=il'.get (i:=i) (d:=q.2) (by rw [List.getElem?_map,e6]; rfl)
      rw [List.getElem?_map,hu] at hv
      cases hv
      show Is _ _ _ _ (.tup [nkD q.1,q.2])
      rw [e7]
      exact .tup (SqT.of upd_same) (.cons (hk.mono st3) (.cons (iv.mono st3) .nil))
   ·cases e
  ·cases e
end
noncomputable def ItE (K:PySem.W.Frag) (a:Addr) (n:Nat):It :=
 ⟨fun i H => ∃ xs,SqL K H a xs ∧ xs.length = n ∧ i < n,fun i H v H' => ∃ T,H T = none ∧ v = .ref T ∧ ∀ xs,SqL K H a xs → ∃ x,xs[i]? = some x ∧ H' = upd H T (.tup [.int (i:Int),x]),fun i H => ∃ xs,SqL K H a xs ∧ xs.length = n ∧ n ≤ i⟩
theorem turn_enumL {P:Program} {w:World} {K:PySem.W.Frag} {elts:List Expr} {x1:Nat} {tp:Pos} (a e it:Addr) (n:Nat) (hei:e ≠ it) :
  Turn P w K (.Tuple elts x1 tp) (ItE K a n) [e,it] e (fun i h => (∃ old,IsEnum h e it (i:Int) old) ∧ h.IsListIter it a i ∧ i ≤ n) where
 mem:=by simp
 obj:=fun i h st b hb => by
  obtain ⟨⟨old,he⟩,⟨o,e1,c,d⟩,_⟩:=st
  rcases List.mem_cons.mp hb with rfl | hb
  ·exact ⟨_,he,fun v z => by cases z⟩
  ·obtain rfl:=List.mem_singleton.mp hb
   exact ⟨o,e1,fun v z => by rw [d] at z; cases z⟩
 keep:=fun i h h' ⟨⟨old,he⟩,si,hi⟩ k => ⟨⟨old,k e (by simp) _ he⟩,si.at fun o q => k it (by simp) o q,hi⟩
 item:=by
  intro X hP hw hK hc i pins s σ H E I hf st ⟨xs,hq,hl,hi⟩
  subst hP hw hK
  obtain ⟨⟨old,he⟩,hs,_⟩:=st
  obtain ⟨its,rv,p,hz⟩:=I.list hq
  have hlen:its.length = n:=by rw [← rv.length]; exact hl
  have hel:e < s.heap.objs.size:=Heap.lt_size he
  have hil:it < s.heap.objs.size:=by obtain ⟨o,e1,_⟩:=hs; exact Heap.lt_size e1
  obtain ⟨x,hx⟩:∃ x,xs[i]? = some x:=⟨xs[i]'(by omega),by simp [show i < xs.length by omega]⟩
  obtain ⟨u,hu,ru⟩:=rv.get hx
  have hae:a ≠ e:=fun z => by
   obtain ⟨o,g,c,_⟩:=p.isList
   rw [z] at g
   have g':=he.symm.trans g
   cases g'
   exact absurd (show Value.type "enumerate" = Value.type "list" from c) (by decide)
  have hai:a ≠ it:=fun z => by
   obtain ⟨o,g,c,_⟩:=p.isList
   obtain ⟨o',g',c',_⟩:=hs
   rw [z] at g
   rw [g] at g'
   cases g'
   rw [c] at c'
   exact absurd c' (by decide)
  refine wpAny_pyNext_enum_itemD (Draws.list (show X.A.in1.handled = none from I.ok.hd hc) it a hai its.toArray) he ⟨hs,p.isList⟩ (by rw [List.size_toArray,hlen]; exact hi) hei (by simp [hei,Ne.symm hae]) fun v h' tk hv heo hs' ht _ kk => ⟨_,rfl,?_⟩
  obtain rfl:v = u:=by
   have:its[i]? = some v:=by simpa using hv
   rw [hu] at this; exact (Option.some.inj this).symm
  refine wpAny_letOwnedTupleGo_enum heo fun h2 he2 sb2 => ?_
  have hs2:h2.IsListIter it a (i + 1):=hs'.1.at fun o q => (sb2.2 it (Ne.symm hei)).trans q
  have ht2:h2.get? s.heap.objs.size = some { cls:=.type "tuple",data:=.seq #[.int i tk,v] }:=(sb2.2 _ (Nat.ne_of_gt hel)).trans ht
  have new:ObjOk X.prog X.w (upd H s.heap.objs.size (.tup [.int (i:Int),x])) h2 s.heap.objs.size (.tup [.int (i:Int),x]) :=
   ⟨by rw [sizeLine_eq]; show 2 ≤ 16777216; decide,[.int i tk,v],.cons ⟨_,rfl⟩ (.cons ru .nil),⟨_,ht2,rfl,_,rfl⟩⟩
  have I1:=turnNew (t':=tk + 1) (h':=h2) I hf (fun b o hb q => by
    have hbe:b ≠ e:=fun z => hb (by simp [z])
    have hbi:b ≠ it:=fun z => hb (by simp [z])
    exact (sb2.2 b hbe).trans (kk b o hbe hbi q)) (Nat.le_refl _) (fun z => by
    rcases List.mem_cons.mp z with z | z
    ·exact absurd z (Nat.ne_of_gt hel)
    ·exact absurd (List.mem_singleton.mp z) (Nat.ne_of_gt hil)) (fun b hb => by
    rcases List.mem_cons.mp hb with rfl | hb
    ·exact ⟨_,he2⟩
    ·obtain rfl:=List.mem_singleton.mp hb
     obtain ⟨o,e1,_⟩:=hs2
     exact ⟨o,e1⟩) new
  refine ⟨.ref s.heap.objs.size,_,I1,rfl,⟨s.heap.objs.size,I.hok.fresh (Nat.le_refl _),rfl,fun ys hy => by rw [I.list_inj hy hq]; exact ⟨x,hx,rfl⟩⟩,⟨⟨v,?_⟩,hs2,hi⟩,fun b hb => ?_⟩
  ·rw [show ((i + 1:Nat):Int) = (i:Int) + 1 by omega]
   exact he2
  ·rw [upd_ne]
   ·exact (hf b hb).1
   ·rcases List.mem_cons.mp hb with z | z
    ·rw [z]; exact Nat.ne_of_lt hel
    ·rw [List.mem_singleton.mp z]; exact Nat.ne_of_lt hil
 done:=by
  intro X hP hw hK hc i pins s σ H E I hf st ⟨xs,hq,hl,hi⟩
  subst hP hw hK
  obtain ⟨⟨old,he⟩,hs,hin⟩:=st
  obtain ⟨its,rv,p,hz⟩:=I.list hq
  have hlen:its.length = n:=by rw [← rv.length]; exact hl
  obtain ⟨f0,f1,f2,f3,f4,f5⟩:=hf it (by simp)
  have hai:a ≠ it:=fun z => by
   obtain ⟨o,g,c,_⟩:=p.isList
   obtain ⟨o',g',c',_⟩:=hs
   rw [z] at g
   rw [g] at g'
   cases g'
   rw [c] at c'
   exact absurd c' (by decide)
  obtain rfl:i = its.toArray.size:=by rw [List.size_toArray,hlen]; omega
  exact wpAny_pyNext_enum_endD (Draws.list (show X.A.in1.handled = none from I.ok.hd hc) it a hai its.toArray) he ⟨hs,p.isList⟩ fun h' eb => ⟨rfl,I.turned (t':=s.toks) (fun b o hb q => eb b o hb q) f0 f1 f3 f4 f5⟩
 self:=fun A i s Q E st h => by
  obtain ⟨⟨old,he⟩,_⟩:=st
  exact wpAny_pyIter_enum he h
noncomputable def iEnumLF (f:AF):IF:=fun ρ L => (f ρ L).bind fun x => match x.1 with
 | [.ref k] => (match x.2[k]? with | some (.lst xs) => some (⟨enumD xs,fun L' => decide (L'[k]? = some (.lst xs))⟩,x.2) | _ => none)
 | _ => none
theorem enumD_at (xs:List D) (i:Nat):(enumD xs)[i]? = (xs[i]?).map fun d => .tup [.int (i:Int),d]:=by
 unfold enumD
 rw [List.getElem?_map,List.getElem?_zipIdx]
 cases xs[i]? <;> simp
section
variable {X:Cx} {elts:List Expr} {x1:Nat} {tp p pos:Pos} {a:Expr} {fa:AF}
theorem pif_enumL (hm:X.mg "enumerate" = none) (ha:PAf X [a] fa) (hg:Gl X "enumerate":=by rfl) (hs:starEach [a] X.env = [(false,eval a X.env)]:=by rfl):PIf X (.Tuple elts x1 tp) (.Call (.Name "enumerate" p) [a] [] pos) (iEnumLF fa):=by
 intro pins s σ H R I ⟨O,ρ,L,J,L',r,e,k⟩
 unfold iEnumLF at e
 cases e1:fa ρ L with
 | none => rw [e1] at e; cases e
 | some q =>
  rw [e1] at e
  obtain ⟨ds,L1⟩:=q
  simp only [Option.bind_some] at e
  split at e
  ·rename_i n
   split at e
   ·rename_i xs e2
    cases e
    refine Call_ (ld_blt I hg hm (u:=.type "enumerate") (by decide +kernel) (PyProof.Rows.callWith_type1 (thn (ha pos pins s σ H (fun vs H1 => ∃ a O1,vs = [.ref a] ∧ Step H O H1 O1 ∧ RepS X.K H1 O1 L' ∧ O1[n]? = some a) I ⟨O,ρ,L,_,_,r,e1,fun vs H1 O1 st rs is => ?_⟩) fun us s1 ⟨vs,H1,I1,r1,b,O1,ev,st,rs,hn⟩ => ?_) hs rfl))
    ·cases is with
     | cons i1 i2 => cases i2; cases i1 with | ref h => exact ⟨_,O1,rfl,st,rs,h⟩
    ·subst ev
     obtain ⟨u,rfl,ru⟩:=vals1 r1
     cases ru
     obtain ⟨ws,hw,il⟩:=rs.ob n _ _ hn e2
     obtain ⟨its,rv,pl,hz⟩:=I1.list (SqL.of hw)
     refine call_enumerate_list pl.isList fun h' he hs' hz' kk => ?_
     refine wpAny_pyIter_enum he ?_
     have I2:Inv X pins σ H1 { s1 with heap:=h' }:=I1.kept (t':=s1.toks) kk
     refine ⟨s1.heap.objs.size + 1,[s1.heap.objs.size + 1,s1.heap.objs.size],_,_,H1,rfl,I2,turn_enumL b _ _ xs.length (Nat.succ_ne_self _),⟨⟨_,he⟩,hs',Nat.zero_le _⟩,fun b hb => ?_,k _ H1 O1 st rs fun i H2 O2 L2 st2 rs2 ok => ?_⟩
     ·rcases List.mem_cons.mp hb with rfl | hb
      ·exact I1.fpOk (Nat.le_succ _) (I1.hok.fresh (Nat.le_succ _))
      ·obtain rfl:=List.mem_singleton.mp hb
       exact I1.fpOk (Nat.le_refl _) (I1.hok.fresh (Nat.le_refl _))
     ·obtain ⟨ws',hw',il'⟩:=rs2.ob n _ _ (pref_get st2.2 hn) (of_decide_eq_true ok)
      refine ⟨fun d hd => ?_,fun h => ⟨ws',SqL.of hw',il'.length,by simpa [enumD] using h⟩⟩
      simp only at hd
      rw [enumD_at] at hd
      cases ec:xs[i]? with
      | none => rw [ec] at hd; cases hd
      | some c =>
       rw [ec] at hd
       cases hd
       refine ⟨⟨ws',SqL.of hw',il'.length,(List.getElem?_eq_some_iff.mp ec).1⟩,fun x H' ⟨T,hT,ex,y⟩ => ?_⟩
       obtain ⟨v,hv,eH⟩:=y ws' (SqL.of hw')
       subst ex eH
       obtain ⟨v',hv',iv⟩:=il'.get ec
       rw [hv] at hv'; cases hv'
       have st3:Step H2 O2 (upd H2 T (.tup [.int (i:Int),v])) O2:=⟨.new hT,List.prefix_refl _⟩
       exact ⟨st3,rs2.ext fun a u e => by rw [upd_ne (ne_of_none e hT)]; exact e,.tup (SqT.of upd_same) (.cons (.int _) (.cons (iv.mono st3) .nil))⟩
   ·cases e
  ·cases e
end
theorem vals_of_get:∀ {vs:List V} {us:List Value},vs.length = us.length → (∀ (i:Nat) (v:V),vs[i]? = some v → ∃ u,us[i]? = some u ∧ RelV v u) → Vals vs us
 | [],[],_,_ => .nil
 | [],_ :: _,h,_ => by simp at h
 | _ :: _,[],h,_ => by simp at h
 | v :: vs,u :: us,h,f => by
  refine .cons ?_ (vals_of_get (by simpa using h) fun i w hw => by simpa using f (i + 1) w (by simpa using hw))
  obtain ⟨u',e,r⟩:=f 0 v rfl
  cases e
  exact r
section
variable {X:Cx}
theorem meets_dlen {prog:Program} {w:World} {d:Addr} (hd:(d == sysModules) = false):MeetsIn prog w (Builtin.«dict.__len__» ⟨[.ref d],[]⟩) (fun _ R s => ∃ es ep,Ents s.heap d es ep ∧ R (.ok (.ret (.int es.size s.toks))) { s with toks:=s.toks + 1 }) :=
 .of_wp fun A R s z3_ => by
  obtain ⟨es,ep,⟨o,g,dat⟩,k⟩:=z3_
  refine wpAny_bind (m:=dictSize d) (wpAny_bind (wpAny_dictEntries g dat (wpAny_pure (wpAny_bind (m:=Builtin.Dict.pendingCount d) (wpAny_pendingCount_other hd (wpAny_ret_mkInt ?_))))))
  exact k
noncomputable def gLenD:GL:=fun xs L => match xs with
 | [.ref k] => (match L[k]? with | some (.dt kvs _) => some (.int (kvs.length:Int),L) | _ => none)
 | _ => none
theorem cd_lenD:CallD X (.builtin "len") gLenD:=fun pins s σ H vs us Q I rv z9_ => by
 obtain ⟨O,L,xs,d,L',rs,is,e,k⟩:=z9_
 unfold gLenD at e
 split at e
 ·rename_i n
  split at e
  ·rename_i kvs ep e1
   cases e
   cases is with | cons i1 i2 => cases i2; cases i1 with | ref hn =>
    obtain ⟨u,rfl,ru⟩:=vals1 rv
    cases ru
    obtain ⟨ws,ha,ek,_,_⟩:=rs.ob n _ _ hn e1
    obtain ⟨hsm,⟨ty,_⟩,es,en,sz,_⟩:=dn_ents I ha
    have hz:ws.length ≤ sizeLine:=(show ObjOk X.prog X.w H s.heap _ (.dN ws ep) from I.hok _ _ ha).1
    have hl:ws.length = kvs.length:=by simpa using congrArg List.length ek
    have es1:es.size = kvs.length:=sz.trans hl
    rw [sizeLine_eq] at hz
    refine Calls.call_function_entry kind_len plain_len entry_len (args_len1 _) ?_
    refine wpAny_bind (m:=oneArg "len" _) (wpAny_pure (wpAny_bind (m:=callSpecial? (.ref _) (Str.ofString "__len__")) (wpAny_callSpecial?_slot (name:=Str.ofString "__len__") ty PySem.F.slot_dict_len
     (call_meetsIn PySem.F.slot_dict_len ty PySem.F.entry_dict_len (PySem.F.args_dict_len_1 _) (meets_dlen hsm) ⟨es,ep,en,?_⟩))))
    refine wpAny_bind (wpAny_holding (wpAny_pure (wpAny_bind (wpAny_letGo ?_))))
    show wpAny _ _ (if ((es.size:Nat):Int) < 0 then _ else if ((es.size:Nat):Int) ≥ 2 ^ 63 then _ else _) _ _ _
    rw [if_neg (by omega),if_neg (by omega)]
    refine wpAny_bind (wpAny_mkInt (wpAny_pure ⟨_,rfl,?_⟩))
    exact ⟨.int es.size,H,(I.tok _).tok _,⟨_,rfl⟩,by rw [es1]; exact k _ _ _ (.refl _ _) rs (.int _)⟩
  ·cases e
 ·cases e
theorem walk_keys {prog:Program} {w:World} {A:Around} (hh:A.handled = none) (t d:Addr) (hne:d ≠ t) (es:Array DictEntry) (ep:Nat) :
  Walks prog w A t [t,d] [t] es.size (fun i v => ∃ e,es[i]? = some e ∧ v = e.key) (fun i h => h.IsKeyIter t d i es.size ep ∧ Ents h d es ep) where
 sub:=fun b hb => by simp at hb; simp [hb]
 frame:=fun _ _ _ ⟨a,o,g,dat⟩ k => ⟨a.at fun o q => k t (by simp) o q,o,k d (by simp) o g,dat⟩
 item:=fun i s Q E hi ⟨a,o,g,dat⟩ k => by
  refine keys_next hh a ⟨o,g,dat⟩ (fun e he h' a' sb => ?_) fun hn => by rw [Array.getElem?_eq_none_iff] at hn; omega
  exact k e.key h' s.toks ⟨e,he,rfl⟩ ⟨a',o,(sb.2 d hne).trans g,dat⟩ fun b q hb e' => (sb.2 b (by simpa using hb)).trans e'
 done:=fun s Q E ⟨a,en⟩ k => by
  refine keys_next hh a en (fun e he => by rw [Array.getElem?_eq_none (Nat.le_refl _)] at he; cases he) fun _ h' x => ?_
  exact k h' s.toks fun b q hb e' => x b q (by simpa using hb) e'
 self:=fun _ _ _ _ st h => wpAny_pyIter_keyiter st.1 h
noncomputable def DEnts (h:Heap) (d:Addr) (es:Array DictEntry) (ep:Nat):Prop:=∃ o,h.get? d = some o ∧ o.cls = .type "dict" ∧ o.data = .dict es ep
theorem src_dict {prog:Program} {w:World} {d:Addr} {es:Array DictEntry} {ep:Nat} (hd:(d == sysModules) = false):PySem.W.KdlSrc prog w "dict" d d es.size (fun i v => ∃ e,es[i]? = some e ∧ v = e.key) (fun h => DEnts h d es ep) where
 type:=fun _ ⟨o,g,c,_⟩ => ⟨o,g,c⟩
 there:=fun _ ⟨o,g,_⟩ => ⟨Heap.lt_size g,Heap.lt_size g⟩
 keep:=fun _ _ ⟨o,g,r⟩ k => ⟨o,k d (.inl rfl) o g,r⟩
 notList:=by decide
 notTuple:=by decide
 hint:=fun _ _ _ _ ⟨o,g,c,_⟩ q => PySem.W.kdl_hint_dict ⟨o,g,c⟩ q
 iter:=fun A s hh ⟨o,g,c,dat⟩ => ⟨_,_,fun E Q q => keys_iter hd ⟨o,g,c⟩ ⟨o,g,dat⟩ q,walk_keys hh _ d (Nat.ne_of_lt (Heap.lt_size g)) es ep,⟨_,Heap.get?_push_size _ rfl,rfl,rfl⟩,o,Heap.get?_push_of_some _ g,dat⟩
noncomputable def gListD:GL:=fun xs L => match xs with
 | [.ref k] => (match L[k]? with | some (.dt kvs _) => some (.ref L.length,L ++ [.lst (keysD kvs)]) | _ => none)
 | _ => none
theorem cd_listD (hc:X.calm = true):CallD X (.type "list") gListD:=fun pins s σ H vs us Q I rv z9_ => by
 obtain ⟨O,L,xs,d,L',rs,is,e,k⟩:=z9_
 unfold gListD at e
 split at e
 ·rename_i n
  split at e
  ·rename_i kvs ep e1
   cases e
   cases is with | cons i1 i2 => cases i2; cases i1 with | @ref _ a hn =>
    obtain ⟨u,rfl,ru⟩:=vals1 rv
    cases ru
    obtain ⟨ws,ha,ek,il,ik⟩:=rs.ob n _ _ hn e1
    obtain ⟨hsm,⟨⟨o,g,c⟩,_⟩,es,⟨o',g',dat⟩,sz,at_⟩:=dn_ents I ha
    rw [g] at g'; cases g'
    have hz:ws.length ≤ sizeLine:=(show ObjOk X.prog X.w H s.heap _ (.dN ws ep) from I.hok _ _ ha).1
    have hl:ws.length = kvs.length:=by simpa using congrArg List.length ek
    refine PySem.W.kdl_call (src_dict (ep:=ep) hsm) (I.ok.hd hc) ⟨o,g,c,dat⟩ (by rw [sz]; exact hz) fun h' tk acc c' kk hD hacc => ?_
    -- the list of the keys
    have hv:Vals (ws.map fun w => V.ref w.2.1) acc.toList:=by
     refine vals_of_get (by have h9:=hacc.1; rw [sz] at h9; simp [h9]) fun i v hv => ?_
     rw [List.getElem?_map] at hv
     cases ew:ws[i]? with
     | none => rw [ew] at hv; cases hv
     | some q =>
      rw [ew] at hv
      cases hv
      obtain ⟨en,h1,h2,_⟩:=at_ i q ew
      have hi:i < acc.size:=by rw [hacc.1,sz]; exact (List.getElem?_eq_some_iff.mp ew).1
      obtain ⟨en',h3,h4⟩:=hacc.2 i acc[i] (by simp [hi])
      rw [h1] at h3; cases h3
      exact ⟨acc[i],by simp [hi],by rw [h4]; exact h2⟩
    have hf:H s.heap.objs.size = none:=I.hok.fresh (Nat.le_refl _)
    have I1:Inv X pins σ (upd H s.heap.objs.size (.lst (ws.map fun w => V.ref w.2.1))) { s with heap:=h',toks:=tk } :=
     I.laid (t':=tk) kk (Nat.le_refl _) ⟨by rw [List.length_map]; exact hz,acc.toList,c',hv,by simpa using hD⟩
    have st:Step H O (upd H s.heap.objs.size (.lst (ws.map fun w => V.ref w.2.1))) (O ++ [s.heap.objs.size]):=⟨.new hf,List.prefix_append _ _⟩
    have ikk:IsL X.K H O (ws.map fun w => V.ref w.2.1) (keysD kvs):=by
     have go:∀ {l:List (NK × Addr × V)} {m:List (NK × D)},l.map (·.1) = m.map (·.1) → (∀ u ∈ l,Is X.K H O (.ref u.2.1) (nkD u.1)) → IsL X.K H O (l.map fun w => V.ref w.2.1) (keysD m):=by
      intro l
      induction l with
      | nil => intro m em _; cases m with | nil => exact .nil | cons => simp at em
      | cons q l ih =>
       intro m em hm
       cases m with
       | nil => simp at em
       | cons p m =>
        simp only [List.map_cons,List.cons.injEq] at em
        refine .cons ?_ (ih em.2 fun u hu => hm u (List.mem_cons_of_mem _ hu))
        show Is X.K H O (.ref q.2.1) (nkD p.1)
        rw [← em.1]
        exact hm q List.mem_cons_self
     exact go ek ik
    exact ⟨.ref s.heap.objs.size,_,I1,rfl,k _ _ _ st (rs.new hf ⟨_,upd_same,ikk.mono st⟩) (.ref (by rw [← rs.len]; simp))⟩
  ·cases e
 ·cases e
end
noncomputable def SeqO (b:Bool) (h:Heap) (l:Addr) (its:Array Value):Prop:=match b with | true => h.IsTuple l its | false => h.IsList l its
noncomputable def SeqI (b:Bool) (h:Heap) (t l:Addr) (k:Nat):Prop:=match b with | true => h.IsTupleIter t l k | false => h.IsListIter t l k
section
variable {prog:Program} {w:World} {A:Around} {E:Value → Shared → Prop} {s:Shared} {b:Bool} {h h':Heap} {t l:Addr} {k:Nat} {its:Array Value}
theorem SeqO.ext (x:SeqO b h l its) (e:∀ o,h.get? l = some o → h'.get? l = some o):SeqO b h' l its:=by
 cases b with
 | true => obtain ⟨o,g,r⟩:=x; exact ⟨o,e o g,r⟩
 | false => obtain ⟨o,g,r⟩:=x; exact ⟨o,e o g,r⟩
theorem SeqI.ext (x:SeqI b h t l k) (e:∀ o,h.get? t = some o → h'.get? t = some o):SeqI b h' t l k:=by
 cases b with
 | true => obtain ⟨o,g,r⟩:=x; exact ⟨o,e o g,r⟩
 | false => obtain ⟨o,g,r⟩:=x; exact ⟨o,e o g,r⟩
theorem SeqI.obj (x:SeqI b h t l k):∃ o,h.get? t = some o ∧ ∀ v,o.data ≠ .cell v:=by
 cases b with
 | true => obtain ⟨o,g,_,d⟩:=x; exact ⟨o,g,fun v z => by rw [d] at z; cases z⟩
 | false => obtain ⟨o,g,_,d⟩:=x; exact ⟨o,g,fun v z => by rw [d] at z; cases z⟩
theorem seq_iter {Q:Value → Shared → Prop} (x:SeqO b s.heap l its) (q:∀ o,SeqI b (s.heap.push o) s.heap.objs.size l 0 → Q (.ref s.heap.objs.size) { s with heap:=s.heap.push o }):wpAny (model prog w) A (pyIter (.ref l)) Q E s:=by
 cases b with
 | true => exact wpAny_pyIter_tuple x (q _ ⟨_,Heap.get?_push_size _ rfl,rfl,rfl⟩)
 | false => exact wpAny_pyIter_list x (q _ ⟨_,Heap.get?_push_size _ rfl,rfl,rfl⟩)
theorem tup_next {Q:Value → Shared → Prop} (hh:A.handled = none) (i:s.heap.IsTupleIter t l k) (x:s.heap.IsTuple l its) (some_:∀ v,its[k]? = some v → ∀ h',h'.IsTupleIter t l (k + 1) → Heap.SameBut t s.heap h' → Q v { s with heap:=h' })
  (none_:its[k]? = none → ∀ h' e,Heap.ExtBut t s.heap h' → (∃ o,h'.get? e = some o ∧ o.cls = .type "StopIteration") → E (.ref e) { s with heap:=h' }):wpAny (model prog w) A (Builtin.SmallTypes.nextOf (.ref t)) Q E s:=by
 obtain ⟨ot,gt,ct,dt⟩:=id i
 obtain ⟨ol,gl,_,n,dl⟩:=x
 have inner:∀ {R:Value → Shared → Prop},(∀ v,its[k]? = some v → ∀ h',h'.IsTupleIter t l (k + 1) → Heap.SameBut t s.heap h' → R v { s with heap:=h' }) →
   wpAny (model prog w) A.in1 (Builtin.«tuple_iterator.__next__» ⟨[.ref t],[]⟩) (fun fi s2 => ∃ v,fi = PySem.Fin.done (Flow.ret v) ∧ R v s2) E s:=fun {R} one => by
  refine wpAny_bind (m:=field (.ref t) 0) (wpAny_field (x:=.ref l) gt dt rfl ?_)
  show wpAny _ _ (if (Value.ref l == Value.none) = true then _ else _) _ _ s
  rw [if_neg (fun z => by cases (show (false:Bool) = true from z))]
  refine wpAny_bind (m:=field (.ref t) 1) (wpAny_field (x:=.int k 0) gt dt rfl (wpAny_bind (m:=seqItems? (.ref l)) (wpAny_seqItems gl dl ?_)))
  simp only [Int.toNat_natCast]
  cases ev:its[k]? with
  | none =>
   refine wpAny_bind (wpAny_rule (wpAny_bind (m:=setField (.ref t) 0 .none) (wpAny_setField gt dt (by simp) ?_)))
   exact no_more (A:=A.in1) (t:=t) (h0:=s.heap) (s:={ s with heap:=s.heap.update t (Obj.mapFields (·.setIfInBounds 0 .none)) }) hh (Heap.SameBut.update ..).extBut fun h' k x hx => none_ ev h' x k hx
  | some v =>
   refine wpAny_bind (wpAny_setField gt dt (by simp) (wpAny_pure ⟨v,rfl,one v ev _ ?_ (Heap.SameBut.update ..)⟩))
   exact ⟨_,Heap.get?_update_self _ gt (Obj.isFreed_of_fields (Obj.data_mapFields dt _)),(Obj.cls_mapFields ..).trans ct,by rw [Obj.data_mapFields dt]; simp [rawInt]⟩
 unfold Builtin.SmallTypes.nextOf
 exact wpAny_bind (wpAny_callSpecial?_slot (name:=Str.ofString "__next__") i.typeIs PySem.F.slot_tuple_iterator_next (wpAny_call_entry PySem.F.slot_tuple_iterator_next i.typeIs PySem.F.entry_tuple_iterator_next (inner fun v hv h' i' sb => wpAny_pure (some_ v hv h' i' sb)) (PySem.F.args_tuple_iterator_next_1 _)))
theorem seq_next {v:Value} {Q:Value → Shared → Prop} (hh:A.handled = none) (i:SeqI b s.heap t l k) (x:SeqO b s.heap l its) (hv:its[k]? = some v) (q:∀ h',SeqI b h' t l (k + 1) → Heap.SameBut t s.heap h' → Q v { s with heap:=h' }):wpAny (model prog w) A (Builtin.SmallTypes.nextOf (.ref t)) Q E s:=by
 cases b with
 | true => exact tup_next hh i x (fun v' e h' i' sb => by rw [hv] at e; cases e; exact q h' i' sb) fun e => by rw [hv] at e; cases e
 | false => exact wpAny_nextOf_list_item i x hv q
theorem seq_end {Q:Value → Shared → Prop} (hh:A.handled = none) (i:SeqI b s.heap t l k) (x:SeqO b s.heap l its) (hv:its[k]? = none) (q:∀ h' e,Heap.ExtBut t s.heap h' → (∃ o,h'.get? e = some o ∧ o.cls = .type "StopIteration") → E (.ref e) { s with heap:=h' }):wpAny (model prog w) A (Builtin.SmallTypes.nextOf (.ref t)) Q E s:=by
 cases b with
 | true => exact tup_next hh i x (fun v' e => by rw [hv] at e; cases e) fun _ => q
 | false => exact wpAny_nextOf_list_end hh i x hv q
end
structure Src where
 b:Bool
 t:Addr
 l:Addr
noncomputable abbrev TupAt (h:Heap) (T:Addr) (vs:List Value):Prop:=h.get? T = some { cls:=.type "tuple",data:=.seq vs.toArray }
noncomputable def putFrom:List Value → Nat → List Value → List Value
 | kept,_,[] => kept
 | kept,j,v :: vs => putFrom (kept.set j v) (j + 1) vs
theorem putFrom_eq:∀ (vs kept:List Value) (j:Nat),kept.length = j + vs.length → putFrom kept j vs = kept.take j ++ vs
 | [],kept,j,h => by simp only [putFrom,List.append_nil]; rw [List.take_of_length_le (by simpa using Nat.le_of_eq h)]
 | v :: vs,kept,j,h => by
  simp only [List.length_cons] at h
  rw [putFrom,putFrom_eq vs _ _ (by rw [List.length_set]; omega)]
  rw [List.take_succ,List.getElem?_set_self (by omega),List.take_set_of_le (Nat.le_refl _)]
  simp
section
variable {prog:Program} {w:World} {A:Around} {E:Value → Shared → Prop} {s:Shared} {z TI TO:Addr} {k:Nat}
noncomputable def DrawsOne (M:Model) (A:Around) (E:Value → Shared → Prop) (s:Shared) (z TI TO:Addr) (k:Nat) {β:Type} (init:β) (f:Value × Nat → β → Sem (ForInStep β)):Prop :=
 ∀ (r:Src) (j:Nat) (v:Value) (its:Array Value) (h1:Heap) (kept:List Value),SeqI r.b h1 r.t r.l k → SeqO r.b h1 r.l its → its[k]? = some v → IsZip h1 z TI TO .ellipsis → TupAt h1 TO kept → kept.length ≤ 1000 → r.t ≠ TO → r.t ≠ z →
  ∀ G:ForInStep β → Shared → Prop,(∀ h2,SeqI r.b h2 r.t r.l (k + 1) → TupAt h2 TO (kept.set j v) → IsZip h2 z TI TO .ellipsis → h2.objs.size = h1.objs.size → (∀ c o,c ≠ TO → c ≠ r.t → h1.get? c = some o → h2.get? c = some o) → G (.yield init) { s with heap:=h2 }) →
   wpAny M A (f (.ref r.t,j) init) G E { s with heap:=h1 }
theorem draws_all {M:Model} {β:Type} {init:β} {f:Value × Nat → β → Sem (ForInStep β)} (one:DrawsOne M A E s z TI TO k init f) (tz:TO ≠ z):∀ (rs:List Src) (vs:List Value) (j:Nat) (h1:Heap) (kept:List Value),
  Paired (fun (r:Src) v => SeqI r.b h1 r.t r.l k ∧ ∃ its,SeqO r.b h1 r.l its ∧ its[k]? = some v) rs vs → (rs.map (·.t)).Nodup → (∀ r ∈ rs,r.t ≠ TO ∧ r.t ≠ z ∧ r.l ≠ TO ∧ ∀ q ∈ rs,r.l ≠ q.t) → IsZip h1 z TI TO .ellipsis → TupAt h1 TO kept → kept.length ≤ 1000 →
  ∀ G:β → Shared → Prop,(∀ h2,(∀ r ∈ rs,SeqI r.b h2 r.t r.l (k + 1)) → TupAt h2 TO (putFrom kept j vs) → IsZip h2 z TI TO .ellipsis → h2.objs.size = h1.objs.size → (∀ c o,c ≠ TO → c ∉ rs.map (·.t) → h1.get? c = some o → h2.get? c = some o) → G init { s with heap:=h2 }) →
   wpAny M A (forIn ((rs.map fun r => Value.ref r.t).zipIdx j) init f) G E { s with heap:=h1 }
 | [],_,j,h1,kept,.nil,_,_,hz,ht,_,G,q => wpAny_pure (q h1 (fun _ h => nomatch h) ht hz rfl fun c o _ _ e => e)
 | r :: rs,v :: vs,j,h1,kept,.cons ⟨ir,its,xr,hv⟩ ps,nd,ap,hz,ht,hk,G,q => by
  rw [List.map_cons,List.zipIdx_cons,List.forIn_cons]
  obtain ⟨a1,a2,a3,a4⟩:=ap r List.mem_cons_self
  rw [List.map_cons,List.nodup_cons] at nd
  refine wpAny_bind (one r j v its h1 kept ir xr hv hz ht hk a1 a2 _ fun h2 i2 t2 z2 s2 k2 => ?_)
  have ne:∀ r' ∈ rs,r'.t ≠ r.t:=fun r' h' e => nd.1 (by rw [← e]; exact List.mem_map_of_mem h')
  have ps2:Paired (fun (r:Src) v => SeqI r.b h2 r.t r.l k ∧ ∃ its,SeqO r.b h2 r.l its ∧ its[k]? = some v) rs vs:=by
   have go:∀ {l:List Src} {m:List Value},(∀ x ∈ l,x ∈ rs) → Paired (fun (r:Src) v => SeqI r.b h1 r.t r.l k ∧ ∃ its,SeqO r.b h1 r.l its ∧ its[k]? = some v) l m → Paired (fun (r:Src) v => SeqI r.b h2 r.t r.l k ∧ ∃ its,SeqO r.b h2 r.l its ∧ its[k]? = some v) l m:=by
    intro l m hl p
    induction p with
    | nil => exact .nil
    | @cons x u l m hx _ ih =>
     obtain ⟨i1,its1,x1,e1⟩:=hx
     have hm:=hl x List.mem_cons_self
     obtain ⟨c1,c2,c3,c4⟩:=ap x (List.mem_cons_of_mem _ hm)
     exact .cons ⟨i1.ext fun o e => k2 _ o c1 (ne x hm) e,its1,x1.ext fun o e => k2 _ o c3 (c4 r List.mem_cons_self) e,e1⟩ (ih fun y hy => hl y (List.mem_cons_of_mem _ hy))
   exact go (fun _ h => h) ps
  refine draws_all one tz rs vs (j + 1) h2 (kept.set j v) ps2 nd.2 (fun r' h' => ?_) z2 t2 (by rw [List.length_set]; exact hk) G fun h3 i3 t3 z3 s3 k3 => ?_
  ·obtain ⟨c1,c2,c3,c4⟩:=ap r' (List.mem_cons_of_mem _ h')
   exact ⟨c1,c2,c3,fun q' hq => c4 q' (List.mem_cons_of_mem _ hq)⟩
  ·refine q h3 (fun r' h' => ?_) t3 z3 (s3.trans s2) fun c o c1 c2 e => ?_
   ·rcases List.mem_cons.mp h' with e | h'
    ·subst e; exact i2.ext fun o e => k3 _ o a1 nd.1 e
    ·exact i3 r' h'
   ·simp only [List.map_cons,List.mem_cons,not_or] at c2
    exact k3 c o c1 c2.2 (k2 c o c1 c2.1 e)
theorem zip_more {zs:List Src} {vs old:List Value} {R:Value → Shared → Prop} (hh:A.handled = none) (hz:IsZip s.heap z TI TO .none) (hi:TupAt s.heap TI (zs.map fun r => .ref r.t)) (ht:TupAt s.heap TO old) (ho:old.length = vs.length) (hk:old.length ≤ 1000) (ne:zs ≠ [])
  (nd:(zs.map (·.t)).Nodup) (tz:TO ≠ z) (iz:TI ≠ z) (ap:∀ r ∈ zs,r.t ≠ TO ∧ r.t ≠ z ∧ r.l ≠ TO ∧ r.l ≠ z ∧ ∀ q ∈ zs,r.l ≠ q.t) (each:Paired (fun (r:Src) v => SeqI r.b s.heap r.t r.l k ∧ ∃ its,SeqO r.b s.heap r.l its ∧ its[k]? = some v) zs vs)
  (q:∀ h',IsZip h' z TI TO (rawInt s.heap.objs.size) → TupAt h' TO vs → (∀ r ∈ zs,SeqI r.b h' r.t r.l (k + 1)) → TupAt h' s.heap.objs.size vs → (∀ c o,c ≠ z → c ≠ TO → c ∉ zs.map (·.t) → s.heap.get? c = some o → h'.get? c = some o) → R (.ref s.heap.objs.size) { s with heap:=h' }) :
  wpAny (model prog w) A (Builtin.«zip.__next__» ⟨[.ref z],[]⟩) (fun fi s2 => ∃ v,fi = PySem.Fin.done (Flow.ret v) ∧ R v s2) E s:=by
 refine wpAny_bind (m:=field (.ref z) 2) (wpAny_field (x:=.bool false) hz rfl rfl (wpAny_bind (m:=field (.ref z) 3) (wpAny_field (x:=.ref TI) hz rfl rfl (wpAny_bind (wpAny_seqItems hi rfl ?_)))))
 have hem:(zs.map fun r => Value.ref r.t).toArray.isEmpty = false:=by cases zs with | nil => exact absurd rfl ne | cons => rfl
 simp only [hem,Bool.false_eq_true,if_false]
 refine wpAny_bind (m:=Builtin.SmallTypes.ownedTupleIsFree (.ref z)) (wpAny_bind (wpAny_field (x:=.none) hz rfl rfl (wpAny_pure ?_)))
 rw [if_pos rfl]
 refine wpAny_bind (wpAny_rule (wpAny_bind (wpAny_field (x:=.ref TO) hz rfl rfl (wpAny_bind (wpAny_setField_rec hz (by simp) fun h1 z1 b1 => ?_)))))
 have z1':IsZip h1 z TI TO .ellipsis:=z1
 refine wpAny_bind ?_
 refine draws_all (M:=model prog w) (E:=E) (A:=A) (s:=s) (TI:=TI) (k:=k) ?one tz zs vs 0 h1 old ?ps nd (fun r hr => ?_) z1' (b1.extBut _ _ tz ht) hk _ fun h2 i2 t2 z2 s2 k2 => ?_
 case one =>
  intro r j v its h3 kept ir xr hv z3 t3 hl3 r1 r2 G g
  refine wpAny_bind (wpAny_onRaise (wpAny_bind (m:=Builtin.SmallTypes.nextOf (.ref r.t)) (seq_next (s:={ s with heap:=h3 }) hh ir xr hv fun h4 i4 b4 => wpAny_pure ?_)))
  have t4:TupAt h4 TO kept:=b4.extBut _ _ (Ne.symm r1) t3
  have z4:IsZip h4 z TI TO .ellipsis:=b4.extBut _ _ (Ne.symm r2) z3
  refine wpAny_bind (wpAny_seqItems t4 rfl (wpAny_bind (wpAny_updateSeq t4 rfl (wpAny_bind (wpAny_letGo (wpAny_pure ?_))) (by rw [sizeLine_eq,List.size_toArray]; omega) (by rw [sizeLine_eq,Array.size_setIfInBounds,List.size_toArray]; omega))))
  have b5:Heap.SameBut TO h4 (h4.update TO (Obj.mapSeq (·.setIfInBounds j v))):=.update ..
  refine g _ (i4.ext fun o e => b5.extBut _ _ r1 e) ?_ (b5.extBut _ _ (Ne.symm tz) z4) (b5.1.trans b4.1) fun c o c1 c2 e => b5.extBut _ _ c1 (b4.extBut _ _ c2 e)
  show Heap.get? _ TO = _
  rw [Heap.get?_update_self _ t4 rfl]
  simp [Obj.mapSeq]
 case ps =>
  have go:∀ {l:List Src} {m:List Value},(∀ x ∈ l,x ∈ zs) → Paired (fun (r:Src) v => SeqI r.b s.heap r.t r.l k ∧ ∃ its,SeqO r.b s.heap r.l its ∧ its[k]? = some v) l m → Paired (fun (r:Src) v => SeqI r.b h1 r.t r.l k ∧ ∃ its,SeqO r.b h1 r.l its ∧ its[k]? = some v) l m:=by
   intro l m hl p
   induction p with
   | nil => exact .nil
   | @cons x u l m hx _ ih =>
    obtain ⟨i1,its1,x1,e1⟩:=hx
    obtain ⟨c1,c2,c3,c4,c5⟩:=ap x (hl x List.mem_cons_self)
    exact .cons ⟨i1.ext fun o e => b1.extBut _ _ c2 e,its1,x1.ext fun o e => b1.extBut _ _ c4 e,e1⟩ (ih fun y hy => hl y (List.mem_cons_of_mem _ hy))
  exact go (fun _ h => h) each
 ·obtain ⟨c1,c2,c3,c4,c5⟩:=ap r hr
  exact ⟨c1,c2,c3,c5⟩
 ·rw [putFrom_eq vs old 0 (by rw [ho]; omega),List.take_zero,List.nil_append] at t2
  refine wpAny_bind (wpAny_seqItems t2 rfl (wpAny_bind (wpAny_newTuple ?_)))
  have sz:h2.objs.size = s.heap.objs.size:=s2.trans b1.1
  have hzl:z < h2.objs.size:=Heap.lt_size z2
  refine wpAny_bind (m:=Builtin.SmallTypes.ownedTupleHandOut (.ref z) (.ref h2.objs.size)) (wpAny_bind (wpAny_setField_rec (Heap.get?_push_of_some _ z2) (by simp) fun h3 z3 b3 => wpAny_setField_rec z3 (by simp) fun h4 z4 b4 => ?_))
  have far:∀ c o,c ≠ z → h2.get? c = some o → h4.get? c = some o:=fun c o hc e => b4.extBut _ _ hc (b3.extBut _ _ hc (Heap.get?_push_of_some _ e))
  refine wpAny_pure ⟨_,rfl,?_⟩
  have z4':IsZip h4 z TI TO (rawInt h2.objs.size):=z4
  have new4:TupAt h4 h2.objs.size vs:=b4.extBut _ _ (Nat.ne_of_gt hzl) (b3.extBut _ _ (Nat.ne_of_gt hzl) (by show Heap.get? _ _ = _; exact Heap.get?_push_size _ rfl))
  rw [sz] at z4' new4
  rw [sz]
  exact q h4 z4' (far _ _ tz t2) (fun r hr => (i2 r hr).ext fun o e => far _ _ (ap r hr).2.1 e) new4 fun c o c1 c2 c3 e => far c o c1 (k2 c o c2 c3 (b1.extBut _ _ c1 e))
theorem zip_over {zs:List Src} {r0:Src} {its:Array Value} {Q:PySem.Fin → Shared → Prop} (hh:A.handled = none) (hz:IsZip s.heap z TI TO .none) (hi:TupAt s.heap TI ((r0 :: zs).map fun r => .ref r.t)) (a1:r0.t ≠ z) (a2:r0.l ≠ z)
  (ir:SeqI r0.b s.heap r0.t r0.l k) (xr:SeqO r0.b s.heap r0.l its) (hv:its[k]? = none)
  (q:∀ h' e,(∀ c o,c ≠ z → c ≠ r0.t → s.heap.get? c = some o → h'.get? c = some o) → (∃ o,h'.get? e = some o ∧ o.cls = .type "StopIteration") → E (.ref e) { s with heap:=h' }) :
  wpAny (model prog w) A (Builtin.«zip.__next__» ⟨[.ref z],[]⟩) Q E s:=by
 refine wpAny_bind (m:=field (.ref z) 2) (wpAny_field (x:=.bool false) hz rfl rfl (wpAny_bind (m:=field (.ref z) 3) (wpAny_field (x:=.ref TI) hz rfl rfl (wpAny_bind (wpAny_seqItems hi rfl ?_)))))
 have hem:((r0 :: zs).map fun r => Value.ref r.t).toArray.isEmpty = false:=rfl
 simp only [hem,Bool.false_eq_true,if_false]
 refine wpAny_bind (m:=Builtin.SmallTypes.ownedTupleIsFree (.ref z)) (wpAny_bind (wpAny_field (x:=.none) hz rfl rfl (wpAny_pure ?_)))
 rw [if_pos rfl]
 refine wpAny_bind (wpAny_rule (wpAny_bind (wpAny_field (x:=.ref TO) hz rfl rfl (wpAny_bind (wpAny_setField_rec hz (by simp) fun h1 z1 b1 => wpAny_bind ?_)))))
 rw [List.map_cons,List.zipIdx_cons,List.forIn_cons]
 have z1':IsZip h1 z TI TO .ellipsis:=z1
 refine wpAny_bind (wpAny_bind (wpAny_onRaise (wpAny_bind (m:=Builtin.SmallTypes.nextOf (.ref r0.t)) (seq_end (s:={ s with heap:=h1 }) hh (ir.ext fun o e => b1.extBut _ _ a1 e) (xr.ext fun o e => b1.extBut _ _ a2 e) hv fun h2 e k2 ⟨oe,ge,ce⟩ => ?_))))
 have z2:IsZip h2 z TI TO .ellipsis:=k2 _ _ (Ne.symm a1) z1'
 have ez:e ≠ z:=fun x => by subst x; rw [z2] at ge; cases ge; exact absurd (show Value.type "zip" = Value.type "StopIteration" from ce) (by decide)
 exact wpAny_setField_rec z2 (by simp) fun h3 _ b3 => q h3 e (fun c o c1 c2 x => b3.extBut _ _ c1 (k2 _ _ c2 (b1.extBut _ _ c1 x))) ⟨oe,b3.extBut _ _ ez ge,ce⟩
end
noncomputable def srcsFrom:Nat → List (Bool × Addr) → List Src
 | _,[] => []
 | n,p :: r => ⟨p.1,n,p.2⟩ :: srcsFrom (n + 1) r
theorem srcsFrom_len:∀ (ls:List (Bool × Addr)) (n:Nat),(srcsFrom n ls).length = ls.length
 | [],_ => rfl
 | _ :: r,n => by simp [srcsFrom,srcsFrom_len r]
theorem srcsFrom_l:∀ (ls:List (Bool × Addr)) (n:Nat),(srcsFrom n ls).map (fun r => (r.b,r.l)) = ls
 | [],_ => rfl
 | _ :: r,n => by simp [srcsFrom,srcsFrom_l r]
theorem srcsFrom_t:∀ (ls:List (Bool × Addr)) (n:Nat) (r:Src),r ∈ srcsFrom n ls → n ≤ r.t ∧ r.t < n + ls.length
 | [],_,_,h => nomatch h
 | p :: q,n,r,h => by
  rcases List.mem_cons.mp h with e | h
  ·subst e; simp
  ·obtain ⟨a,b⟩:=srcsFrom_t q (n + 1) r h
   exact ⟨Nat.le_of_succ_le a,Nat.lt_of_lt_of_eq b (by rw [List.length_cons,Nat.add_assoc,Nat.add_comm 1])⟩
theorem srcsFrom_nd:∀ (ls:List (Bool × Addr)) (n:Nat),((srcsFrom n ls).map (·.t)).Nodup
 | [],_ => List.nodup_nil
 | p :: q,n => by
  rw [srcsFrom,List.map_cons,List.nodup_cons]
  refine ⟨fun h => ?_,srcsFrom_nd q (n + 1)⟩
  obtain ⟨r,hr,e⟩:=List.mem_map.mp h
  have:=(srcsFrom_t q (n + 1) r hr).1
  rw [show r.t = n from e] at this
  exact Nat.not_succ_le_self n this
section
variable {prog:Program} {w:World} {A:Around} {E:Value → Shared → Prop} {s:Shared}
theorem iters_all:∀ (ls:List (Bool × Addr)) (acc:Array Value) (s:Shared),(∀ p ∈ ls,∃ its,SeqO p.1 s.heap p.2 its) → ∀ G:Array Value → Shared → Prop,
  (∀ h',(∀ r ∈ srcsFrom s.heap.objs.size ls,SeqI r.b h' r.t r.l 0) → h'.objs.size = s.heap.objs.size + ls.length → (∀ c o,s.heap.get? c = some o → h'.get? c = some o) → G (acc ++ ((srcsFrom s.heap.objs.size ls).map fun r => Value.ref r.t).toArray) { s with heap:=h' }) →
  wpAny (model prog w) A (forIn (ls.map fun p => Value.ref p.2) acc fun x its => do let __do_lift ← holding its.toList (pyIter x); pure (ForInStep.yield (its.push __do_lift))) G E s
 | [],acc,s,_,G,q => wpAny_pure (by simpa [srcsFrom] using q s.heap (fun _ h => nomatch h) rfl fun _ _ e => e)
 | p :: ls,acc,s,hs,G,q => by
  obtain ⟨its,x⟩:=hs p List.mem_cons_self
  rw [List.map_cons,List.forIn_cons]
  refine wpAny_bind (wpAny_bind (wpAny_holding (seq_iter x fun o i => wpAny_pure ?_)))
  refine iters_all ls (acc.push (.ref s.heap.objs.size)) { s with heap:=s.heap.push o } (fun p' hp => ?_) G fun h' e z k => ?_
  ·obtain ⟨its',x'⟩:=hs p' (List.mem_cons_of_mem _ hp)
   exact ⟨its',x'.ext fun o' e => Heap.get?_push_of_some _ e⟩
  ·have sz:(s.heap.push o).objs.size = s.heap.objs.size + 1:=Heap.size_push ..
   have e1:srcsFrom s.heap.objs.size (p :: ls) = ⟨p.1,s.heap.objs.size,p.2⟩ :: srcsFrom (s.heap.push o).objs.size ls:=by rw [sz]; rfl
   have:=q h' (fun r hr => by
    rw [e1] at hr
    rcases List.mem_cons.mp hr with er | hr
    ·subst er; exact i.ext fun o' e' => k _ o' e'
    ·exact e r hr) (by rw [z,List.length_cons]; show (s.heap.push o).objs.size + _ = _; rw [sz]; omega) fun c o' e' => k c o' (Heap.get?_push_of_some _ e')
   rw [e1] at this
   simpa using this
theorem zip_class (xs:List Value):Builtin.SmallTypes.newClass "zip" ⟨.type "zip" :: xs,[]⟩ = pure (.type "zip",xs):=by
 unfold Builtin.SmallTypes.newClass
 simp only [sub_zip]
 rfl
theorem meets_zip (ls:List (Bool × Addr)) (hn:ls.length ≤ 1000):MeetsIn prog w (Builtin.«zip.__new__» ⟨.type "zip" :: ls.map (fun p => .ref p.2),[]⟩) (fun _ R s => (∀ p ∈ ls,∃ its,SeqO p.1 s.heap p.2 its) ∧
  ∀ h',(∀ r ∈ srcsFrom s.heap.objs.size ls,SeqI r.b h' r.t r.l 0) → TupAt h' (s.heap.objs.size + ls.length) ((srcsFrom s.heap.objs.size ls).map fun r => .ref r.t) → TupAt h' (s.heap.objs.size + ls.length + 1) ((srcsFrom s.heap.objs.size ls).map fun _ => .none) →
   IsZip h' (s.heap.objs.size + ls.length + 2) (s.heap.objs.size + ls.length) (s.heap.objs.size + ls.length + 1) .none → (∀ c o,s.heap.get? c = some o → h'.get? c = some o) → R (.ok (.ret (.ref (s.heap.objs.size + ls.length + 2)))) { s with heap:=h' }) :=
 .of_wp fun A R s z3_ => by
  obtain ⟨hs,q⟩:=z3_
  unfold Builtin.«zip.__new__»
  rw [zip_class]
  refine wpAny_bind (wpAny_pure ?_)
  refine wpAny_bind (m:=Builtin.SmallTypes.iterAll (ls.map fun p => .ref p.2)) ?_
  unfold Builtin.SmallTypes.iterAll
  refine wpAny_bind (iters_all ls #[] s hs _ fun h1 e1 z1 k1 => wpAny_pure ?_)
  have e0:((#[]:Array Value) ++ ((srcsFrom s.heap.objs.size ls).map fun r => Value.ref r.t).toArray).toList = (srcsFrom s.heap.objs.size ls).map fun r => Value.ref r.t:=by simp
  rw [e0]
  have len:(srcsFrom s.heap.objs.size ls).length ≤ 1000:=by rw [srcsFrom_len]; exact hn
  have z2:∀ o,(h1.push o).objs.size = s.heap.objs.size + ls.length + 1:=fun o => by rw [Heap.size_push,z1]
  have z3:∀ o o',((h1.push o).push o').objs.size = s.heap.objs.size + ls.length + 2:=fun o o' => by rw [Heap.size_push,z2]
  refine wpAny_bind (wpAny_newTuple (s:={ s with heap:=h1 }) ?_ (by rw [List.length_map,sizeLine_eq]; omega))
  refine wpAny_bind (wpAny_newTuple ?_ (by rw [List.length_map,List.length_map,sizeLine_eq]; omega))
  refine wpAny_bind ?_
  show wpAny _ _ (newObj (.type "zip") (.fields #[.none,.bool false,.bool false,.ref _,.ref _])) _ _ _
  refine wpAny_newObj_type (wpAny_pure ⟨_,rfl,?_⟩) (by show 5 ≤ sizeLine + 2; rw [sizeLine_eq]; decide)
  show R (.ok (.ret (.ref ((h1.push _).push _).objs.size))) _
  rw [z3]
  refine q _ (fun r hr => (e1 r hr).ext fun o e => Heap.get?_push_of_some _ (Heap.get?_push_of_some _ (Heap.get?_push_of_some _ e))) ?_ ?_ ?_ fun c o e => Heap.get?_push_of_some _ (Heap.get?_push_of_some _ (Heap.get?_push_of_some _ (k1 c o e)))
  ·show Heap.get? _ _ = _
   rw [← z1]
   exact Heap.get?_push_of_some _ (Heap.get?_push_of_some _ (Heap.get?_push_size _ rfl))
  ·show Heap.get? _ _ = _
   rw [← z2 { cls:=.type "tuple",data:=.seq ((srcsFrom s.heap.objs.size ls).map fun r => Value.ref r.t).toArray }]
   refine Heap.get?_push_of_some _ ?_
   rw [show ((srcsFrom s.heap.objs.size ls).map fun _ => Value.none) = ((srcsFrom s.heap.objs.size ls).map fun r => Value.ref r.t).map (fun _ => Value.none) by rw [List.map_map]; rfl]
   exact Heap.get?_push_size _ rfl
  ·rw [← z3 { cls:=.type "tuple",data:=.seq ((srcsFrom s.heap.objs.size ls).map fun r => Value.ref r.t).toArray } { cls:=.type "tuple",data:=.seq (((srcsFrom s.heap.objs.size ls).map fun r => Value.ref r.t).map (fun _ => Value.none)).toArray }]
   have:=Heap.get?_push_size ((h1.push { cls:=.type "tuple",data:=.seq ((srcsFrom s.heap.objs.size ls).map fun r => Value.ref r.t).toArray }).push { cls:=.type "tuple",data:=.seq (((srcsFrom s.heap.objs.size ls).map fun r => Value.ref r.t).map (fun _ => Value.none)).toArray }) (o:={ cls:=.type "zip",data:=.fields #[.none,.bool false,.bool false,.ref h1.objs.size,.ref (h1.push { cls:=.type "tuple",data:=.seq ((srcsFrom s.heap.objs.size ls).map fun r => Value.ref r.t).toArray }).objs.size] }) rfl
   refine Eq.trans this ?_
   rw [z2,z1]
end
noncomputable def SrcV (K:PySem.W.Frag) (b:Bool) (H:Hp) (a:Addr) (xs:List V):Prop:=match b with | true => SqT K H a xs | false => SqL K H a xs
section
variable {X:Cx} {pins:List (Addr × Obj)} {σ:L2.St} {H:Hp} {s:Shared}
theorem SrcV.at (I:Inv X pins σ H s) {b:Bool} {a:Addr} {xs:List V} (h:SrcV X.K b H a xs):∃ its:List Value,Vals xs its ∧ SeqO b s.heap a its.toArray:=by
 cases b with
 | true => obtain ⟨its,rv,p,_⟩:=I.tuple h; exact ⟨its,rv,p⟩
 | false => obtain ⟨its,rv,p,_⟩:=I.list h; exact ⟨its,rv,p.isList⟩
theorem SrcV.inj (I:Inv X pins σ H s) {b:Bool} {a:Addr} {xs ys:List V} (h:SrcV X.K b H a xs) (h':SrcV X.K b H a ys):xs = ys:=by
 cases b with
 | true => exact I.tuple_inj h h'
 | false => exact I.list_inj h h'
end
theorem turnedL {X:Cx} {pins:List (Addr × Obj)} {σ:L2.St} {H:Hp} {s:Shared} {h':Heap} {t':Nat} {fp:List Addr} (I:Inv X pins σ H s) (hf:∀ b ∈ fp,FpOk X pins H b) (k:∀ b o,b ∉ fp → s.heap.get? b = some o → h'.get? b = some o):Inv X pins σ H { s with heap:=h',toks:=t' }:=by
 have nit:∀ b u,H b = some u → b ∉ fp:=fun b u e z => by rw [(hf b z).1] at e; cases e
 refine I.step (g':=s.gens) (d':=s.drawn) (ch:=fp) (fun b hb => ⟨(hf b hb).2.2.2.1,(hf b hb).2.1,(hf b hb).2.2.2.2.1,(hf b hb).2.2.2.2.2⟩) (fun b o _ _ hc e _ => k b o hc e) (fun b o _ _ hc e _ => ⟨o.slots,k b o hc e⟩)
  (fun b o _ e n => n) (fun b o hc e => ⟨o,k b o hc e⟩) (fun b xs e => e) (fun b o u e => e)
  (fun b ps e => ⟨#[],by rw [e]; simp⟩) (fun m hm => ?_) (fun b u e => ?_) I.bare
 ·obtain ⟨o,es,ep,ho,r⟩:=hm
  exact ⟨o,es,ep,k _ o (fun z => (hf _ z).2.1 rfl) ho,r⟩
 ·refine (I.hok b u e).stay (fun c v hc q => k c v ?_ q) (fun c q => q) fun c xs q => q
  rcases hc with z | z
  ·rw [z]; exact nit b u e
  ·exact nit c _ z
noncomputable def Itz (K:PySem.W.Frag) (zs:List Src) (n:Nat):It :=
 ⟨fun i H => (∀ r ∈ zs,∃ xs,SrcV K r.b H r.l xs ∧ xs.length = n) ∧ i < n,
  fun i H v H' => ∃ T vs,H T = none ∧ v = .ref T ∧ H' = upd H T (.tup vs) ∧ Paired (fun (r:Src) x => ∀ xs,SrcV K r.b H r.l xs → xs[i]? = some x) zs vs,
  fun i H => (∀ r ∈ zs,∃ xs,SrcV K r.b H r.l xs ∧ xs.length = n) ∧ n ≤ i⟩
structure ZApart (z TI TO:Addr) (zs:List Src):Prop where
 ne:zs ≠ []
 few:zs.length ≤ 1000
 nd:(zs.map (·.t)).Nodup
 tz:TO ≠ z
 iz:TI ≠ z
 it:TI ≠ TO
 ts:∀ r ∈ zs,r.t ≠ z ∧ r.t ≠ TI ∧ r.t ≠ TO
 ls:∀ r ∈ zs,r.l ≠ z ∧ r.l ≠ TI ∧ r.l ≠ TO ∧ ∀ q ∈ zs,r.l ≠ q.t
theorem turn_zip {P:Program} {w:World} {K:PySem.W.Frag} {elts:List Expr} {x1:Nat} {tp:Pos} {z TI TO:Addr} {zs:List Src} (n:Nat) (ap:ZApart z TI TO zs) :
  Turn P w K (.Tuple elts x1 tp) (Itz K zs n) (z :: TI :: TO :: zs.map (·.t)) z (fun i h => IsZip h z TI TO .none ∧ TupAt h TI (zs.map fun r => .ref r.t) ∧ (∃ old,TupAt h TO old ∧ old.length = zs.length) ∧ (∀ r ∈ zs,SeqI r.b h r.t r.l i) ∧ i ≤ n) where
 mem:=by simp
 obj:=fun i h ⟨hz,hi,⟨old,ho,_⟩,hs,_⟩ b hb => by
  rcases List.mem_cons.mp hb with rfl | hb
  ·exact ⟨_,hz,fun v q => by cases q⟩
  ·rcases List.mem_cons.mp hb with rfl | hb
   ·exact ⟨_,hi,fun v q => by cases q⟩
   ·rcases List.mem_cons.mp hb with rfl | hb
    ·exact ⟨_,ho,fun v q => by cases q⟩
    ·obtain ⟨r,hr,rfl⟩:=List.mem_map.mp hb
     exact (hs r hr).obj
 keep:=fun i h h' ⟨hz,hi,⟨old,ho,hl⟩,hs,hn⟩ k => ⟨k z (by simp) _ hz,k TI (by simp) _ hi,⟨old,k TO (by simp) _ ho,hl⟩,fun r hr => (hs r hr).ext fun o e => k r.t (by simp only [List.mem_cons]; exact .inr (.inr (.inr (List.mem_map_of_mem hr)))) o e,hn⟩
 item:=by
  intro X hP hw hK hc i pins s σ H E I hf ⟨hz,hi,⟨old,ho,hl⟩,hs,_⟩ ⟨hq,hlt⟩
  subst hP hw hK
  -- the values
  have vals:∀ l:List Src,(∀ r ∈ l,r ∈ zs) → ∃ us vs,Paired (fun (r:Src) v => SeqI r.b s.heap r.t r.l i ∧ ∃ its,SeqO r.b s.heap r.l its ∧ its[i]? = some v) l us ∧ Vals vs us ∧ Paired (fun (r:Src) x => ∀ xs,SrcV X.K r.b H r.l xs → xs[i]? = some x) l vs:=by
   intro l
   induction l with
   | nil => intro _; exact ⟨[],[],.nil,.nil,.nil⟩
   | cons r l ih =>
    intro hl
    obtain ⟨us,vs,p1,p2,p3⟩:=ih fun q hq => hl q (List.mem_cons_of_mem _ hq)
    obtain ⟨xs,sv,hn⟩:=hq r (hl r List.mem_cons_self)
    obtain ⟨its,rv,so⟩:=sv.at I
    obtain ⟨x,hx⟩:∃ x,xs[i]? = some x:=⟨xs[i]'(by omega),by simp [show i < xs.length by omega]⟩
    obtain ⟨u,hu,ru⟩:=rv.get hx
    exact ⟨u :: us,x :: vs,.cons ⟨hs r (hl r List.mem_cons_self),its.toArray,so,by simpa using hu⟩ p1,.cons ru p2,.cons (fun ys hy => by rw [hy.inj I sv]; exact hx) p3⟩
  obtain ⟨us,vs,p1,p2,p3⟩:=vals zs fun _ h => h
  have lu:us.length = zs.length:=(Paired.length p1).symm
  have lv:vs.length = zs.length:=(Paired.length p3).symm
  have zl:z < s.heap.objs.size:=Heap.lt_size hz
  have ty:s.TypeIs (.ref z) "zip":=⟨_,hz,rfl⟩
  have hb:∀ b,b ∈ z :: TI :: TO :: zs.map (·.t) → b < s.heap.objs.size:=fun b hb => by
   rcases List.mem_cons.mp hb with rfl | hb
   ·exact zl
   ·rcases List.mem_cons.mp hb with rfl | hb
    ·exact Heap.lt_size hi
    ·rcases List.mem_cons.mp hb with rfl | hb
     ·exact Heap.lt_size ho
     ·obtain ⟨r,hr,rfl⟩:=List.mem_map.mp hb
      obtain ⟨o,e,_⟩:=(hs r hr).obj
      exact Heap.lt_size e
  unfold pyNext
  refine wpAny_bind (wpAny_attempt (wpAny_callSpecial?_slot (name:=Str.ofString "__next__") ty PySem.F.slot_zip_next (wpAny_call_entry PySem.F.slot_zip_next ty PySem.F.entry_zip_next (zip_more (A:=X.A.in1) (R:=_) (show X.A.in1.handled = none from I.ok.hd hc) hz hi ho (by rw [hl,lu]) (by rw [hl]; exact ap.few) ap.ne ap.nd ap.tz ap.iz
   (fun r hr => ⟨(ap.ts r hr).2.2,(ap.ts r hr).1,(ap.ls r hr).2.2.1,(ap.ls r hr).1,(ap.ls r hr).2.2.2⟩) p1 fun h1 z1 t1 i1 u1 k1 => ?_) (PySem.F.args_zip_next_1 _))))
  refine wpAny_pure ⟨_,rfl,wpAny_letOwnedTupleGo_zip z1 fun h2 z2 b2 => ?_⟩
  have nz:s.heap.objs.size ≠ z:=Nat.ne_of_gt zl
  have ht2:TupAt h2 s.heap.objs.size us:=b2.extBut _ _ nz u1
  have new:ObjOk X.prog X.w (upd H s.heap.objs.size (.tup vs)) h2 s.heap.objs.size (.tup vs) :=
   ⟨by rw [lv,sizeLine_eq]; exact Nat.le_trans ap.few (by decide),us,p2,⟨_,ht2,rfl,_,rfl⟩⟩
  have tn2:IsZip h2 z TI TO .none ∧ TupAt h2 TI (zs.map fun r => .ref r.t) ∧ (∃ old,TupAt h2 TO old ∧ old.length = zs.length) ∧ (∀ r ∈ zs,SeqI r.b h2 r.t r.l (i + 1)) ∧ i + 1 ≤ n:=by
   refine ⟨z2,b2.extBut _ _ ap.iz (k1 _ _ ap.iz ap.it (fun hm => ?_) hi),⟨us,b2.extBut _ _ ap.tz t1,lu⟩,fun r hr => (i1 r hr).ext fun o e => b2.extBut _ _ (ap.ts r hr).1 e,hlt⟩
   obtain ⟨r,hr,e⟩:=List.mem_map.mp hm
   exact (ap.ts r hr).2.1 e
  have I1:=turnNew (t':=s.toks) (h':=h2) I hf (fun b o hb q => by
    simp only [List.mem_cons,not_or] at hb
    exact b2.extBut _ _ hb.1 (k1 b o hb.1 hb.2.2.1 hb.2.2.2 q)) (Nat.le_refl _) (fun q => absurd (hb _ q) (Nat.lt_irrefl _)) (fun b hb => by
    rcases List.mem_cons.mp hb with rfl | hb
    ·exact ⟨_,tn2.1⟩
    ·rcases List.mem_cons.mp hb with rfl | hb
     ·exact ⟨_,tn2.2.1⟩
     ·rcases List.mem_cons.mp hb with rfl | hb
      ·obtain ⟨old,q,_⟩:=tn2.2.2.1; exact ⟨_,q⟩
      ·obtain ⟨r,hr,rfl⟩:=List.mem_map.mp hb
       obtain ⟨o,e,_⟩:=(tn2.2.2.2.1 r hr).obj
       exact ⟨o,e⟩) new
  exact ⟨.ref s.heap.objs.size,_,I1,rfl,⟨s.heap.objs.size,vs,I.hok.fresh (Nat.le_refl _),rfl,rfl,p3⟩,tn2,fun b h' => by rw [upd_ne (Nat.ne_of_lt (hb b h'))]; exact (hf b h').1⟩
 done:=by
  intro X hP hw hK hc i pins s σ H E I hf ⟨hz,hi,⟨old,ho,hl⟩,hs,_⟩ ⟨hq,hlt⟩
  subst hP hw hK
  have ty:s.TypeIs (.ref z) "zip":=⟨_,hz,rfl⟩
  cases zs with
  | nil => exact absurd rfl ap.ne
  | cons r0 zs =>
   obtain ⟨xs,sv,hn⟩:=hq r0 List.mem_cons_self
   obtain ⟨its,rv,so⟩:=sv.at I
   have m1:r0.t ∈ z :: TI :: TO :: (r0 :: zs).map (·.t):=by simp
   unfold pyNext
   refine wpAny_bind (wpAny_attempt (wpAny_callSpecial?_slot (name:=Str.ofString "__next__") ty PySem.F.slot_zip_next (wpAny_call_entry PySem.F.slot_zip_next ty PySem.F.entry_zip_next (zip_over (A:=X.A.in1) (show X.A.in1.handled = none from I.ok.hd hc) hz hi (ap.ts r0 List.mem_cons_self).1 (ap.ls r0 List.mem_cons_self).1 (hs r0 List.mem_cons_self) so
    (by rw [List.getElem?_toArray,List.getElem?_eq_none_iff,← rv.length]; omega) fun h' e k ⟨o,g,c⟩ => ?_) (PySem.F.args_zip_next_1 _))))
   refine wpAny_bind (wpAny_isInstance (T:="StopIteration") (b:=true) ⟨o,g,c⟩ isSubtype_stop (wpAny_pure ⟨rfl,?_⟩))
   have I1:=turnedL (t':=s.toks) (h':=h') (fp:=[z,r0.t]) I (fun b hb => hf b (by
    rcases List.mem_cons.mp hb with rfl | hb
    ·simp
    ·rw [List.mem_singleton.mp hb]; exact m1)) fun b o hb q => k b o (fun e => hb (by simp [e])) (fun e => hb (by simp [e])) q
   exact I1
 self:=fun A i s Q E ⟨hz,_⟩ h => wpAny_pyIter_zip hz h
noncomputable def seqs:List D → Sto → Option (List (List D))
 | [],_ => some []
 | d :: r,L => (seqOf d L).bind fun ys => (seqs r L).map (ys :: ·)
noncomputable def zipD (n:Nat) (yss:List (List D)):List D:=(List.range n).map fun i => .tup (yss.map fun ys => ys[i]?.getD .non)
noncomputable def iZipF (n:Nat) (fa:AF):IF:=fun ρ L => (fa ρ L).bind fun x => match seqs x.1 x.2 with
 | some (ys :: yss) => if (yss.all fun zs => zs.length == ys.length) = true ∧ yss.length < 100 ∧ yss.length + 1 = n then some (⟨zipD ys.length (ys :: yss),fun L' => decide (seqs x.1 L' = some (ys :: yss))⟩,x.2) else none
 | _ => none
noncomputable def kindD:D → Bool
 | .tup _ => true
 | _ => false
theorem seqOf_src {K:PySem.W.Frag} {H:Hp} {O:List Addr} {L:Sto} {v:V} {d:D} {xs:List D} (rs:RepS K H O L) (h:Is K H O v d) (e:seqOf d L = some xs):∃ a vs,v = .ref a ∧ SrcV K (kindD d) H a vs ∧ IsL K H O vs xs:=by
 cases h with
 | tup hq il => cases e; exact ⟨_,_,rfl,hq,il⟩
 | fz hq il => cases e; exact ⟨_,_,rfl,hq.sql,il⟩
 | ref hk =>
  simp only [seqOf] at e
  split at e
  ·rename_i ys e2
   cases e
   obtain ⟨vs,hv,iv⟩:=rs.ob _ _ _ hk e2
   exact ⟨_,vs,rfl,SqL.of hv,iv⟩
  ·cases e
 | _ => cases e
inductive Srcs (K:PySem.W.Frag) (H:Hp) (O:List Addr):List D → List (List D) → List (Bool × Addr) → Prop
 | nil:Srcs K H O [] [] []
 | cons {d:D} {ys:List D} {a:Addr} {vs:List V} {ds yss ls}:Is K H O (.ref a) d → SrcV K (kindD d) H a vs → IsL K H O vs ys → Srcs K H O ds yss ls → Srcs K H O (d :: ds) (ys :: yss) ((kindD d,a) :: ls)
theorem srcs_of {K:PySem.W.Frag} {H:Hp} {O:List Addr} {L:Sto} (rs:RepS K H O L):∀ {ds:List D} {yss:List (List D)} {vs:List V},IsL K H O vs ds → seqs ds L = some yss → ∃ ls,Srcs K H O ds yss ls ∧ vs = ls.map fun p => .ref p.2
 | [],_,_,.nil,e => by cases e; exact ⟨[],.nil,rfl⟩
 | d :: ds,_,_,.cons i r,e => by
  unfold seqs at e
  obtain ⟨ys,e1,e2⟩:=Option.bind_eq_some_iff.mp e
  obtain ⟨yss,e3,rfl⟩:=Option.map_eq_some_iff.mp e2
  obtain ⟨ls,h1,rfl⟩:=srcs_of rs r e3
  obtain ⟨a,vs,rfl,h2,h3⟩:=seqOf_src rs i e1
  exact ⟨(kindD d,a) :: ls,.cons i h2 h3 h1,rfl⟩
theorem Srcs.again {K:PySem.W.Frag} {H H':Hp} {O O':List Addr} {L':Sto} (st:Step H O H' O') (rs:RepS K H' O' L') {ds:List D} {yss yss':List (List D)} {ls:List (Bool × Addr)} (h:Srcs K H O ds yss ls) (e:seqs ds L' = some yss'):Srcs K H' O' ds yss' ls:=by
 induction h generalizing yss' with
 | nil => cases e; exact .nil
 | @cons d ys a vs ds yss ls i _ _ _ ih =>
  unfold seqs at e
  obtain ⟨zs,e1,e2⟩:=Option.bind_eq_some_iff.mp e
  obtain ⟨zss,e3,rfl⟩:=Option.map_eq_some_iff.mp e2
  obtain ⟨a',vs',ea,h2,h3⟩:=seqOf_src rs (i.mono st) e1
  cases ea
  exact .cons (i.mono st) h2 h3 (ih e3)
theorem Srcs.len {K:PySem.W.Frag} {H:Hp} {O:List Addr} {ds:List D} {yss:List (List D)} {ls:List (Bool × Addr)} (h:Srcs K H O ds yss ls):ls.length = yss.length ∧ ds.length = yss.length:=by
 induction h with
 | nil => exact ⟨rfl,rfl⟩
 | cons _ _ _ _ ih => simp [ih.1,ih.2]
theorem Srcs.seq {K:PySem.W.Frag} {H:Hp} {O:List Addr} {ds:List D} {yss:List (List D)} {ls:List (Bool × Addr)} (h:Srcs K H O ds yss ls):∀ p ∈ ls,∃ vs ys,ys ∈ yss ∧ SrcV K p.1 H p.2 vs ∧ IsL K H O vs ys:=by
 induction h with
 | nil => intro p hp; cases hp
 | @cons d ys a vs ds yss ls i s1 s2 _ ih =>
  intro p hp
  rcases List.mem_cons.mp hp with e | hp
  ·subst e; exact ⟨vs,ys,List.mem_cons_self,s1,s2⟩
  ·obtain ⟨vs',ys',h1,h2⟩:=ih p hp
   exact ⟨vs',ys',List.mem_cons_of_mem _ h1,h2⟩
theorem Srcs.tup {K:PySem.W.Frag} {H:Hp} {O:List Addr} {ds:List D} {yss:List (List D)} {ls:List (Bool × Addr)} (h:Srcs K H O ds yss ls) {i n:Nat} (hn:∀ ys ∈ yss,ys.length = n) (hi:i < n):∀ {zs:List Src} {vs:List V},zs.map (fun r => (r.b,r.l)) = ls →
  Paired (fun (r:Src) x => ∀ xs,SrcV K r.b H r.l xs → xs[i]? = some x) zs vs → IsL K H O vs (yss.map fun ys => ys[i]?.getD .non):=by
 induction h with
 | nil => intro zs vs e p; cases zs with | nil => cases p; exact .nil | cons => simp at e
 | @cons d ys a us ds yss ls _ s1 s2 _ ih =>
  intro zs vs e p
  cases zs with
  | nil => simp at e
  | cons r zs =>
   simp only [List.map_cons,List.cons.injEq,Prod.mk.injEq] at e
   obtain ⟨⟨eb,el⟩,e2⟩:=e
   cases p with
   | @cons _ x _ vs hx p2 =>
    have hy:ys.length = n:=hn ys List.mem_cons_self
    have hx':=hx us (by rw [eb,el]; exact s1)
    obtain ⟨v,hv,iv⟩:=s2.get (i:=i) (d:=ys[i]'(by omega)) (by simp [show i < ys.length by omega])
    rw [hx'] at hv; cases hv
    rw [List.map_cons,show ys[i]?.getD .non = ys[i]'(by omega) by simp [show i < ys.length by omega]]
    exact .cons iv (ih (fun zs hz => hn zs (List.mem_cons_of_mem _ hz)) e2 p2)
theorem zipD_get (n:Nat) (yss:List (List D)) (i:Nat):(zipD n yss)[i]? = if i < n then some (.tup (yss.map fun ys => ys[i]?.getD .non)) else none:=by
 unfold zipD
 rw [List.getElem?_map]
 by_cases h:i < n
 ·rw [if_pos h,List.getElem?_range h]; rfl
 ·rw [if_neg h,List.getElem?_eq_none (by simpa using h)]; rfl
structure ZipN (n:Nat):Prop where
 ty:∀ us:List Value,us.length = n → checkTypeCall "zip" ⟨us,[]⟩ = pure ()
 new:∀ us:List Value,us.length = n → checkBuiltinCall "zip.__new__" ⟨.type "zip" :: us,[]⟩ = pure ()
 init:∀ (o:Value) (us:List Value),us.length = n → argsOk "object.__init__" ⟨o :: us,[]⟩
theorem zip2:ZipN 2:=⟨fun us h => by obtain ⟨a,b,rfl⟩:=len2 h; exact PySem.F.typeCall_zip_2 a b,fun us h => by obtain ⟨a,b,rfl⟩:=len2 h; exact PySem.F.newCall_zip_2 a b,fun o us h => by obtain ⟨a,b,rfl⟩:=len2 h; exact PySem.F.args_object_init_3 o a b⟩
theorem zip3:ZipN 3:=⟨fun us h => by obtain ⟨a,b,c,rfl⟩:=len3 h; kernel_rfl,fun us h => by obtain ⟨a,b,c,rfl⟩:=len3 h; kernel_rfl,fun o us h => by
 obtain ⟨a,b,c,rfl⟩:=len3 h
 unfold argsOk
 rw [PySem.signature?_of (id:="object.__init__") (n:=['_','_','t','i','n','i','_','_']) (o:=['t','c','e','j','b','o']) (by kernel_rfl) PySem.F.owner_object]
 kernel_rfl⟩
section
variable {X:Cx} {elts:List Expr} {x1:Nat} {tp p pos:Pos} {e:Expr} {es:List Expr} {fa:AF}
theorem pif_zip {n:Nat} (zn:ZipN n) (hm:X.mg "zip" = none) (ha:PAf X (e :: es) fa) (hg:Gl X "zip":=by rfl) (hs:notStar e = true:=by rfl) (hplain:es.all notStar = true:=by rfl):PIf X (.Tuple elts x1 tp) (.Call (.Name "zip" p) (e :: es) [] pos) (iZipF n fa):=by
 intro pins s σ H R I ⟨O,ρ,L,J,L',r,ee,k⟩
 unfold iZipF at ee
 cases e1:fa ρ L with
 | none => rw [e1] at ee; cases ee
 | some q =>
  rw [e1] at ee
  obtain ⟨ds,L1⟩:=q
  simp only [Option.bind_some] at ee
  split at ee
  ·rename_i ys yss e2
   split at ee
   ·rename_i hall
    simp only [Option.some.injEq,Prod.mk.injEq] at ee
    obtain ⟨hJ,hL⟩:=ee
    subst hL
    refine Call_ (ld_blt I hg hm (u:=.type "zip") (by decide +kernel) (PyProof.Rows.callWith_type1 (thn (ha pos pins s σ H (fun vs H1 => ∃ O1 ls,Step H O H1 O1 ∧ RepS X.K H1 O1 L1 ∧ Srcs X.K H1 O1 ds (ys :: yss) ls ∧ vs = ls.map fun p => .ref p.2) I ⟨O,ρ,L,_,_,r,e1,fun vs H1 O1 st rs is => ?_⟩) fun us s1 ⟨vs,H1,I1,r1,O1,ls,st,rs,sr,ev⟩ => ?_) (starEach_cons hs) (plain_of hplain)))
    ·obtain ⟨ls,h1,h2⟩:=srcs_of rs is e2
     exact ⟨O1,ls,st,rs,h1,h2⟩
    ·obtain ⟨hall,hfew,hn⟩:=hall
     have eu:us = ls.map fun p => Value.ref p.2:=by
      subst ev
      have go:∀ {ls:List (Bool × Addr)} {us:List Value},Vals (ls.map fun p => V.ref p.2) us → us = ls.map fun p => Value.ref p.2:=by
       intro ls
       induction ls with
       | nil => intro us h; cases h; rfl
       | cons p ls ih => intro us h; cases h with | cons h1 h2 => cases h1; rw [ih h2]; rfl
      exact go r1
     have ll:ls.length = n:=by rw [sr.len.1,List.length_cons]; exact hn
     have ul:us.length = n:=by rw [eu,List.length_map,ll]
     have lenY:∀ zs ∈ ys :: yss,zs.length = ys.length:=fun zs hz => by
      rcases List.mem_cons.mp hz with e | hz
      ·rw [e]
      ·exact beq_iff_eq.mp (List.all_eq_true.mp hall zs hz)
     subst eu
     refine callType_newIn PySem.F.called_zip (by decide) (zn.ty _ ul) (zn.new _ ul) (fun o => zn.init o _ ul) PySem.F.entry_zip_new (meets_zip ls (by omega)) ⟨fun p hp => ?_,fun h' si ti to iz kk => ?_⟩
     ·obtain ⟨vs',ys',_,sv,_⟩:=sr.seq p hp
      obtain ⟨its,_,so⟩:=sv.at I1
      exact ⟨_,so⟩
     ·refine ⟨⟨_,iz,rfl⟩,wpAny_pyIter_zip iz ?_⟩
      have I2:Inv X pins σ H1 { s1 with heap:=h' }:=I1.kept (t':=s1.toks) kk
      have lt:∀ p ∈ ls,p.2 < s1.heap.objs.size:=fun p hp => by
       obtain ⟨vs',ys',_,sv,_⟩:=sr.seq p hp
       obtain ⟨its,_,so⟩:=sv.at I1
       have:∃ o,s1.heap.get? p.2 = some o:=by
        revert so
        cases p.1 with
        | true => intro ⟨o,g,_⟩; exact ⟨o,g⟩
        | false => intro ⟨o,g,_⟩; exact ⟨o,g⟩
       obtain ⟨o,g⟩:=this
       exact Heap.lt_size g
      have lr:∀ r ∈ srcsFrom s1.heap.objs.size ls,r.l < s1.heap.objs.size:=fun r hr => by
       have:(r.b,r.l) ∈ ls:=by rw [← srcsFrom_l ls s1.heap.objs.size]; exact List.mem_map_of_mem (f:=fun r:Src => (r.b,r.l)) hr
       exact lt _ this
      have ap:ZApart (s1.heap.objs.size + ls.length + 2) (s1.heap.objs.size + ls.length) (s1.heap.objs.size + ls.length + 1) (srcsFrom s1.heap.objs.size ls):=by
       refine ⟨fun h => ?_,by rw [srcsFrom_len]; omega,srcsFrom_nd _ _,by simp,by simp,by simp,fun r hr => ?_,fun r hr => ?_⟩
       ·have:=congrArg List.length h
        rw [srcsFrom_len,sr.len.1] at this
        simp at this
       ·have h1:=(srcsFrom_t _ _ r hr).2
        exact ⟨Nat.ne_of_lt (Nat.lt_of_lt_of_le h1 (Nat.le_add_right _ 2)),Nat.ne_of_lt h1,Nat.ne_of_lt (Nat.lt_of_lt_of_le h1 (Nat.le_add_right _ 1))⟩
       ·have h1:=lr r hr
        refine ⟨Nat.ne_of_lt (Nat.lt_of_lt_of_le h1 (by rw [Nat.add_assoc]; exact Nat.le_add_right _ _)),Nat.ne_of_lt (Nat.lt_of_lt_of_le h1 (Nat.le_add_right _ _)),Nat.ne_of_lt (Nat.lt_of_lt_of_le h1 (by rw [Nat.add_assoc]; exact Nat.le_add_right _ _)),fun q hq => Nat.ne_of_lt (Nat.lt_of_lt_of_le h1 (srcsFrom_t _ _ q hq).1)⟩
      have big:∀ b ∈ (s1.heap.objs.size + ls.length + 2) :: (s1.heap.objs.size + ls.length) :: (s1.heap.objs.size + ls.length + 1) :: (srcsFrom s1.heap.objs.size ls).map (·.t),s1.heap.objs.size ≤ b:=fun b hb => by
       rcases List.mem_cons.mp hb with rfl | hb
       ·rw [Nat.add_assoc]; exact Nat.le_add_right _ _
       ·rcases List.mem_cons.mp hb with rfl | hb
        ·exact Nat.le_add_right _ _
        ·rcases List.mem_cons.mp hb with rfl | hb
         ·rw [Nat.add_assoc]; exact Nat.le_add_right _ _
         ·obtain ⟨r,hr,rfl⟩:=List.mem_map.mp hb
          exact (srcsFrom_t _ _ r hr).1
      refine ⟨_,_,_,_,H1,rfl,I2,turn_zip ys.length ap,⟨iz,ti,⟨_,to,by rw [List.length_map]⟩,si,Nat.zero_le _⟩,fun b hb => I1.fpOk (big b hb) (I1.hok.fresh (big b hb)),k _ H1 O1 st rs fun i H2 O2 L2 st2 rs2 ok => ?_⟩
      rw [← hJ] at ok ⊢
      have sr2:=sr.again st2 rs2 (of_decide_eq_true ok)
      have all2:∀ r ∈ srcsFrom s1.heap.objs.size ls,∃ xs,SrcV X.K r.b H2 r.l xs ∧ xs.length = ys.length:=fun r hr => by
       have hm:(r.b,r.l) ∈ ls:=by rw [← srcsFrom_l ls s1.heap.objs.size]; exact List.mem_map_of_mem (f:=fun r:Src => (r.b,r.l)) hr
       obtain ⟨vs',ys',hy,sv,il⟩:=sr2.seq _ hm
       exact ⟨vs',sv,by rw [il.length]; exact lenY ys' hy⟩
      refine ⟨fun d hd => ?_,fun h => ⟨all2,by simpa [zipD] using h⟩⟩
      simp only at hd
      rw [zipD_get] at hd
      split at hd
      ·rename_i hi
       cases hd
       refine ⟨⟨all2,hi⟩,fun x H' ⟨T,vs',hT,ex,eH,p3⟩ => ?_⟩
       subst ex eH
       have st3:Step H2 O2 (upd H2 T (.tup vs')) O2:=⟨.new hT,List.prefix_refl _⟩
       exact ⟨st3,rs2.ext fun b u q => by rw [upd_ne (ne_of_none q hT)]; exact q,.tup (SqT.of upd_same) ((sr2.tup lenY hi (srcsFrom_l _ _) p3).mono st3)⟩
      ·cases hd
   ·cases ee
  ·cases ee
end
section
variable {X:Cx}
noncomputable def gStarts:GM:=fun x xs L => match x,xs with
 | .str a,[.str b] => some (.bl (Txt.startswith a b),L)
 | _,_ => none
theorem md_starts:MtD X "str.startswith" gStarts:=fun pins s σ H x xs v us Q I rx rv z12_ => by
 obtain ⟨O,L,dx,dxs,d,L',rp,ix,ixs,e,k⟩:=z12_
 unfold gStarts at e
 split at e
 ·rename_i a b
  cases e
  cases ix
  cases ixs with | cons i1 i2 =>
   cases i2
   cases i1
   obtain ⟨t,rfl⟩:=(show ∃ t,v = Value.str a t from rx)
   obtain ⟨u,rfl,ry⟩:=vals1 rv
   obtain ⟨t',rfl⟩:=(show ∃ t',u = Value.str b t' from ry)
   exact SC.startswith ⟨.bl (Txt.startswith a b),H,I,rfl,k _ _ _ (.refl _ _) rp (.bl _)⟩
 ·cases e
noncomputable def gSort0:GL:=fun xs L => match xs with
 | [.ref k] => (match L[k]? with | some (.lst []) => some (.ref L.length,L ++ [.lst []]) | _ => none)
 | _ => none
theorem cd_sort0:CallD X (.builtin "sorted") gSort0:=fun pins s σ H vs us Q I rv z9_ => by
 obtain ⟨O,L,xs,d,L',rs,is,e,k⟩:=z9_
 unfold gSort0 at e
 split at e
 ·rename_i n
  split at e
  ·rename_i e1
   cases e
   cases is with | cons i1 i2 => cases i2; cases i1 with | @ref _ a hn =>
    obtain ⟨u,rfl,ru⟩:=vals1 rv
    cases ru
    obtain ⟨ws,hw,il⟩:=rs.ob n _ _ hn e1
    cases il
    obtain ⟨its,rvv,p,_⟩:=I.list (SqL.of hw)
    cases rvv
    refine sorted_ints (vs:=[]) (ns:=[]) p.isList (by first | exact .nil | trivial | exact ⟨rfl⟩ | simp [IntsAre]) (by decide) fun out ns' a1 a2 a3 => ?_
    have en:ns' = []:=List.Perm.eq_nil a2
    subst en
    have eo:out = #[]:=by
     have h1:=IntsAre.length a1
     cases out with | mk l => cases l with | nil => rfl | cons => simp at h1
    subst eo
    obtain ⟨c,hc⟩:=sortedAll_at s.heap [] #[]
    have hf:H (s.heap.objs.size + 1) = none:=I.hok.fresh (Nat.le_succ _)
    have st:Step H O (upd H (s.heap.objs.size + 1) (.lst [])) (O ++ [s.heap.objs.size + 1]):=⟨.new hf,List.prefix_append _ _⟩
    exact ⟨.ref (s.heap.objs.size + 1),upd H (s.heap.objs.size + 1) (.lst []),I.laid (o:=.lst []) (t':=s.toks) (fun b o q => sortedAll_old q) (Nat.le_succ _) ⟨Nat.zero_le _,[],c,.nil,hc⟩,rfl,k _ _ _ st (rs.new hf ⟨_,upd_same,.nil⟩) (.ref (by rw [← rs.len]; simp))⟩
  ·cases e
 ·cases e
theorem bt_sorted:bootBuiltins "sorted" = some (.builtin "sorted"):=PyProof.Rows.boot_sorted
end
noncomputable def W2 {α:Type} (o:Option (α × Sto)) (Q:α → Sto → Prop):Prop:=∃ a L,o = some (a,L) ∧ Q a L
noncomputable def W1 {α:Type} (o:Option α) (Q:α → Prop):Prop:=∃ a,o = some a ∧ Q a
noncomputable def WI (o:Option (ItD × Sto)) (Q:List D → (Sto → Bool) → Sto → Prop):Prop:=∃ a k L,o = some (⟨a,k⟩,L) ∧ Q a k L
structure EndP where
 nx:Fm → Sto → Prop
 rt:D → Sto → Prop
 bk:Fm → Sto → Prop
 ct:Fm → Sto → Prop
noncomputable def EndP.of (E:EndP):Out → Prop
 | .next ρ L => E.nx ρ L
 | .ret d L => E.rt d L
 | .brk ρ L => E.bk ρ L
 | .cont ρ L => E.ct ρ L
noncomputable def WS (o:Option Out) (nx:Fm → Sto → Prop) (rt:D → Sto → Prop) (bk ct:Fm → Sto → Prop):Prop:=∃ x,o = some x ∧ EndP.of ⟨nx,rt,bk,ct⟩ x
noncomputable def Br (b:Bool) (p q:Prop):Prop:=if b = true then p else q
noncomputable def IsB (d:D) (Q:Bool → Prop):Prop:=∃ b,d = .bl b ∧ Q b
noncomputable def IsI (d:D) (Q:Int → Prop):Prop:=∃ b,d = .int b ∧ Q b
noncomputable def Le16 (n:Nat) (p:Prop):Prop:=n ≤ 16777216 ∧ p
noncomputable def TyIs (T:String) (x:D) (L:Sto) (p:Prop):Prop:=tyD T x L = true ∧ p
section
variable {α β:Type} {ρ:Fm} {L:Sto} {p q:Prop} {b:Bool} {c:Prop}
theorem br_t (h:p):Br true p q:=h
theorem br_f (h:q):Br false p q:=h
theorem br_not (h:Br b q p):Br (!b) p q:=by cases b <;> exact h
theorem br_dec [Decidable c] (h1:c → p) (h2:¬ c → q):Br (decide c) p q:=by
 by_cases h:c
 ·rw [decide_eq_true h]; exact h1 h
 ·rw [decide_eq_false h]; exact h2 h
theorem br_decT [Decidable c] (h:c) (h1:p):Br (decide c) p q:=br_dec (fun _ => h1) (fun n => absurd h n)
theorem br_decF [Decidable c] (h:¬ c) (h1:q):Br (decide c) p q:=br_dec (fun n => absurd n h) (fun _ => h1)
theorem br_on (e:b = true) (h:p):Br b p q:=by rw [e]; exact h
theorem br_off (e:b = false) (h:q):Br b p q:=by rw [e]; exact h
theorem isB_mk {Q:Bool → Prop} (h:Q b):IsB (.bl b) Q:=⟨_,rfl,h⟩
theorem isI_mk {i:Int} {Q:Int → Prop} (h:Q i):IsI (.int i) Q:=⟨_,rfl,h⟩
theorem ty_lst {k:Nat} {xs:List D} (e:L[k]? = some (.lst xs)) (h:p):TyIs "list" (.ref k) L p:=⟨by simp [tyD,e],h⟩
theorem W2.mono {o:Option (α × Sto)} {Q Q':α → Sto → Prop} (h:W2 o Q) (i:∀ a L,Q a L → Q' a L):W2 o Q':=let ⟨a,L,e,q⟩:=h; ⟨a,L,e,i a L q⟩
theorem W2.mk {o:Option (α × Sto)} {Q:α → Sto → Prop} {a:α} (e:o = some (a,L)) (h:Q a L):W2 o Q:=⟨a,L,e,h⟩
theorem W2.get {o:Option (α × Sto)} {a:α} (h:W2 o fun a' L' => a' = a ∧ L' = L):o = some (a,L):=by obtain ⟨a',L',e,rfl,rfl⟩:=h; exact e
theorem W1.mk {o:Option α} {Q:α → Prop} {a:α} (e:o = some a) (h:Q a):W1 o Q:=⟨a,e,h⟩
theorem WS.mono {o:Option Out} {nx nx':Fm → Sto → Prop} {rt rt':D → Sto → Prop} {bk bk' ct ct':Fm → Sto → Prop} (h:WS o nx rt bk ct) (i1:∀ a L,nx a L → nx' a L) (i2:∀ a L,rt a L → rt' a L) (i3:∀ a L,bk a L → bk' a L) (i4:∀ a L,ct a L → ct' a L):WS o nx' rt' bk' ct':=by
 obtain ⟨x,e,h⟩:=h
 refine ⟨x,e,?_⟩
 cases x
 ·exact i1 _ _ h
 ·exact i2 _ _ h
 ·exact i3 _ _ h
 ·exact i4 _ _ h
section
variable {Q:D → Sto → Prop} {QT:Bool → Sto → Prop} {QA:List D → Sto → Prop} {QO:Option Int → Sto → Prop} {f g h:EF} {t u:TF} {a:AF}
theorem w_cst {d:D} (h:Q d L):W2 (cst d ρ L) Q:=⟨d,L,rfl,h⟩
theorem w_var {i:Nat} {d:D} (e:ρ[i]? = some (some d)) (h:Q d L):W2 (var i ρ L) Q:=⟨d,L,by unfold var; rw [e],h⟩
theorem w_bin {o:G2} (h:W2 (f ρ L) fun x L1 => W2 (g ρ L1) fun y L2 => W2 (o x y L2) Q):W2 (bin2 o f g ρ L) Q:=by
 obtain ⟨x,L1,e1,y,L2,e2,z,L3,e3,q⟩:=h
 exact ⟨z,L3,by unfold bin2; rw [e1,Option.bind_some,e2,Option.bind_some]; exact e3,q⟩
theorem w_un {o:G1} (h:W2 (f ρ L) fun x L1 => W2 (o x L1) Q):W2 (un1 o f ρ L) Q:=by
 obtain ⟨x,L1,e1,z,L3,e3,q⟩:=h
 exact ⟨z,L3,by unfold un1; rw [e1,Option.bind_some]; exact e3,q⟩
theorem w_asT (h:W2 (f ρ L) fun d L1 => IsB d fun b => QT b L1):W2 (asT f ρ L) QT:=by
 obtain ⟨x,L1,e1,b,rfl,q⟩:=h
 exact ⟨b,L1,by unfold asT; rw [e1]; rfl,q⟩
theorem w_notT (h:W2 (t ρ L) fun b L1 => QT (!b) L1):W2 (notT t ρ L) QT:=by
 obtain ⟨x,L1,e1,q⟩:=h
 exact ⟨_,L1,by unfold notT; rw [e1]; rfl,q⟩
theorem w_andT (h:W2 (t ρ L) fun b L1 => Br b (W2 (u ρ L1) QT) (QT false L1)):W2 (andT t u ρ L) QT:=by
 obtain ⟨x,L1,e1,q⟩:=h
 cases x
 ·exact ⟨false,L1,by unfold andT; rw [e1]; rfl,q⟩
 ·obtain ⟨y,L2,e2,q⟩:=q
  exact ⟨y,L2,by unfold andT; rw [e1]; exact e2,q⟩
theorem w_orT (h:W2 (t ρ L) fun b L1 => Br b (QT true L1) (W2 (u ρ L1) QT)):W2 (orT t u ρ L) QT:=by
 obtain ⟨x,L1,e1,q⟩:=h
 cases x
 ·obtain ⟨y,L2,e2,q⟩:=q
  exact ⟨y,L2,by unfold orT; rw [e1]; exact e2,q⟩
 ·exact ⟨true,L1,by unfold orT; rw [e1]; rfl,q⟩
theorem w_trueT (h:QT true L):W2 (trueT ρ L) QT:=⟨_,_,rfl,h⟩
theorem w_andV (h:W2 (f ρ L) fun d L1 => IsB d fun b => Br b (W2 (g ρ L1) Q) (Q (.bl false) L1)):W2 (andV f g ρ L) Q:=by
 obtain ⟨x,L1,e1,b,rfl,q⟩:=h
 cases b
 ·exact ⟨_,L1,by unfold andV; rw [e1]; rfl,q⟩
 ·obtain ⟨y,L2,e2,q⟩:=q
  exact ⟨y,L2,by unfold andV; rw [e1]; exact e2,q⟩
theorem w_notV (h:W2 (f ρ L) fun d L1 => IsB d fun b => Q (.bl (!b)) L1):W2 (notV f ρ L) Q:=by
 obtain ⟨x,L1,e1,b,rfl,q⟩:=h
 exact ⟨_,L1,by unfold notV; rw [e1]; rfl,q⟩
theorem w_ifV (h:W2 (t ρ L) fun b L1 => Br b (W2 (f ρ L1) Q) (W2 (g ρ L1) Q)):W2 (ifV t f g ρ L) Q:=by
 obtain ⟨x,L1,e1,q⟩:=h
 cases x
 ·obtain ⟨y,L2,e2,q⟩:=q
  exact ⟨y,L2,by unfold ifV; rw [e1]; exact e2,q⟩
 ·obtain ⟨y,L2,e2,q⟩:=q
  exact ⟨y,L2,by unfold ifV; rw [e1]; exact e2,q⟩
theorem w_nilA (h:QA [] L):W2 (nilA ρ L) QA:=⟨_,_,rfl,h⟩
theorem w_consA (h:W2 (f ρ L) fun d L1 => W2 (a ρ L1) fun ds L2 => QA (d :: ds) L2):W2 (consA f a ρ L) QA:=by
 obtain ⟨x,L1,e1,y,L2,e2,q⟩:=h
 exact ⟨_,L2,by unfold consA; rw [e1,Option.bind_some,e2]; rfl,q⟩
theorem w_tupV (h:W2 (a ρ L) fun ds L1 => Le16 ds.length (Q (.tup ds) L1)):W2 (tupV a ρ L) Q:=by
 obtain ⟨x,L1,e1,hz,q⟩:=h
 exact ⟨_,L1,by unfold tupV; rw [e1,Option.bind_some]; simp only; rw [if_pos hz],q⟩
theorem w_lstV (h:W2 (a ρ L) fun ds L1 => Le16 ds.length (Q (.ref L1.length) (L1 ++ [.lst ds]))):W2 (lstV a ρ L) Q:=by
 obtain ⟨x,L1,e1,hz,q⟩:=h
 exact ⟨_,_,by unfold lstV; rw [e1,Option.bind_some]; simp only; rw [if_pos hz],q⟩
theorem w_callB {o:GL} (h:W2 (a ρ L) fun ds L1 => W2 (o ds L1) Q):W2 (callB o a ρ L) Q:=by
 obtain ⟨x,L1,e1,y,L2,e2,q⟩:=h
 exact ⟨_,L2,by unfold callB; rw [e1,Option.bind_some]; exact e2,q⟩
theorem w_mthF {T:String} {o:GM} (h:W2 (f ρ L) fun x L1 => TyIs T x L1 (W2 (a ρ L1) fun ys L2 => W2 (o x ys L2) Q)):W2 (mthF T o f a ρ L) Q:=by
 obtain ⟨x,L1,e1,ty,y,L2,e2,z,L3,e3,q⟩:=h
 exact ⟨_,L3,by unfold mthF; rw [e1,Option.bind_some]; simp only; rw [if_pos ty,e2,Option.bind_some]; exact e3,q⟩
theorem w_noO (h:QO none L):W2 (noO ρ L) QO:=⟨_,_,rfl,h⟩
theorem w_asO (h:W2 (f ρ L) fun d L1 => IsI d fun i => QO (some i) L1):W2 (asO f ρ L) QO:=by
 obtain ⟨x,L1,e1,b,rfl,q⟩:=h
 exact ⟨_,L1,by unfold asO; rw [e1]; rfl,q⟩
theorem w_slF {fl fh:OF} (h:W2 (f ρ L) fun x L1 => W2 (fl ρ L1) fun lo L2 => W2 (fh ρ L2) fun hi L3 => W2 (gSl x lo hi L3) Q):W2 (slF f fl fh ρ L) Q:=by
 obtain ⟨x,L1,e1,y,L2,e2,z,L3,e3,v,L4,e4,q⟩:=h
 exact ⟨_,L4,by unfold slF; rw [e1,Option.bind_some,e2,Option.bind_some,e3,Option.bind_some]; exact e4,q⟩
theorem w_comp {fi:IF} {n:Nat} {idx:List Nat} {gf:GF} {c:TF} {elt:EF} (h:WI (fi ρ L) fun items ok L1 => W1 (compL ok gf c elt L1.length items (frC n idx ρ) (L1 ++ [.lst []])) fun L2 => Q (.ref L1.length) L2):W2 (compF fi n idx gf c elt ρ L) Q:=by
 obtain ⟨x,k,L1,e1,L2,e2,q⟩:=h
 exact ⟨_,_,by unfold compF; rw [e1,Option.bind_some]; simp only; rw [e2]; rfl,q⟩
end
section
variable {Q:List D → (Sto → Bool) → Sto → Prop} {f:EF} {a:AF}
theorem wi_any (h:W2 (f ρ L) fun d L1 => WI ((itOf d L1).bind fun J => some (J,L1)) Q):WI (iAnyF f ρ L) Q:=by
 obtain ⟨x,L1,e1,y,k,L2,e2,q⟩:=h
 exact ⟨y,k,L2,by unfold iAnyF; rw [e1,Option.bind_some]; exact e2,q⟩
theorem wi_tup {xs:List D} (h:Q xs (fun _ => true) L):WI ((itOf (.tup xs) L).bind fun J => some (J,L)) Q:=⟨_,_,_,rfl,h⟩
theorem wi_ref {k:Nat} {xs:List D} (e:L[k]? = some (.lst xs)) (h:Q xs (fun L' => decide (L'[k]? = some (.lst xs))) L):WI ((itOf (.ref k) L).bind fun J => some (J,L)) Q:=⟨_,_,_,by simp only [itOf,e]; rfl,h⟩
theorem wi_rng1 (h:W2 (a ρ L) fun ds L1 => ∃ j:Int,ds = [.int j] ∧ (j ≤ 4611686018427387903 ∧ -4611686018427387904 ≤ j) ∧ Q (rngD 0 j.toNat) (fun _ => true) L1):WI (iRng1F a ρ L) Q:=by
 obtain ⟨x,L1,e1,j,rfl,hj,q⟩:=h
 exact ⟨_,_,L1,by unfold iRng1F; rw [e1,Option.bind_some]; simp only; rw [if_pos hj],q⟩
theorem wi_rng2 (h:W2 (a ρ L) fun ds L1 => ∃ i j:Int,ds = [.int i,.int j] ∧ ((i ≤ 4611686018427387903 ∧ -4611686018427387904 ≤ i) ∧ (j ≤ 4611686018427387903 ∧ -4611686018427387904 ≤ j)) ∧ Q (rngD i (j - i).toNat) (fun _ => true) L1):WI (iRng2F a ρ L) Q:=by
 obtain ⟨x,L1,e1,i,j,rfl,hj,q⟩:=h
 exact ⟨_,_,L1,by unfold iRng2F; rw [e1,Option.bind_some]; simp only; rw [if_pos hj],q⟩
end
theorem WS.inx {o:Option Out} {nx:Fm → Sto → Prop} {rt:D → Sto → Prop} {bk ct:Fm → Sto → Prop} {ρ':Fm} {L':Sto} (e:o = some (.next ρ' L')) (q:nx ρ' L'):WS o nx rt bk ct:=⟨_,e,q⟩
theorem WS.irt {o:Option Out} {nx:Fm → Sto → Prop} {rt:D → Sto → Prop} {bk ct:Fm → Sto → Prop} {d:D} {L':Sto} (e:o = some (.ret d L')) (q:rt d L'):WS o nx rt bk ct:=⟨_,e,q⟩
theorem WS.ibk {o:Option Out} {nx:Fm → Sto → Prop} {rt:D → Sto → Prop} {bk ct:Fm → Sto → Prop} {ρ':Fm} {L':Sto} (e:o = some (.brk ρ' L')) (q:bk ρ' L'):WS o nx rt bk ct:=⟨_,e,q⟩
theorem WS.ict {o:Option Out} {nx:Fm → Sto → Prop} {rt:D → Sto → Prop} {bk ct:Fm → Sto → Prop} {ρ':Fm} {L':Sto} (e:o = some (.cont ρ' L')) (q:ct ρ' L'):WS o nx rt bk ct:=⟨_,e,q⟩
section
variable {nx:Fm → Sto → Prop} {rt:D → Sto → Prop} {bk ct:Fm → Sto → Prop} {f g:SF} {t:TF} {e:EF}
theorem ws_next (h:nx ρ L):WS (nextF ρ L) nx rt bk ct:=⟨_,rfl,h⟩
theorem ws_seq (h:WS (f ρ L) (fun ρ' L' => WS (g ρ' L') nx rt bk ct) rt bk ct):WS (seqF f g ρ L) nx rt bk ct:=by
 obtain ⟨x,e1,q⟩:=h
 cases x with
 | next ρ' L' => obtain ⟨y,e2,q⟩:=q; exact ⟨y,by unfold seqF; rw [e1]; exact e2,q⟩
 | ret d L' => exact WS.irt (by unfold seqF; rw [e1]; rfl) q
 | brk d L' => exact WS.ibk (by unfold seqF; rw [e1]; rfl) q
 | cont d L' => exact WS.ict (by unfold seqF; rw [e1]; rfl) q
theorem ws_set {i:Nat} (h:W2 (e ρ L) fun d L' => nx (ρ.set i (some d)) L'):WS (setF i e ρ L) nx rt bk ct:=by
 obtain ⟨x,L1,e1,q⟩:=h
 exact WS.inx (by unfold setF; rw [e1]; rfl) q
theorem ws_ret (h:W2 (e ρ L) rt):WS (retF e ρ L) nx rt bk ct:=by
 obtain ⟨x,L1,e1,q⟩:=h
 exact WS.irt (by unfold retF; rw [e1]; rfl) q
theorem ws_expr (h:W2 (e ρ L) fun _ L' => nx ρ L'):WS (exprF e ρ L) nx rt bk ct:=by
 obtain ⟨x,L1,e1,q⟩:=h
 exact WS.inx (by unfold exprF; rw [e1]; rfl) q
theorem ws_if (h:W2 (t ρ L) fun b L' => Br b (WS (f ρ L') nx rt bk ct) (WS (g ρ L') nx rt bk ct)):WS (ifF t f g ρ L) nx rt bk ct:=by
 obtain ⟨x,L1,e1,q⟩:=h
 cases x
 ·obtain ⟨y,e2,q⟩:=q
  exact ⟨y,by unfold ifF; rw [e1]; exact e2,q⟩
 ·obtain ⟨y,e2,q⟩:=q
  exact ⟨y,by unfold ifF; rw [e1]; exact e2,q⟩
theorem ws_for {fi:IF} {gf:GF} {body:SF} (h:WI (fi ρ L) fun items ok L1 => WS (loopL ok gf body items ρ L1) nx rt bk ct):WS (forF fi gf body ρ L) nx rt bk ct:=by
 obtain ⟨x,k,L1,e1,y,e2,q⟩:=h
 exact ⟨y,by unfold forF; rw [e1,Option.bind_some]; exact e2,q⟩
theorem ws_loop_nil {ok:Sto → Bool} {gf:GF} {body:SF} (hk:ok L = true) (h:nx ρ L):WS (loopL ok gf body [] ρ L) nx rt bk ct:=WS.inx (by unfold loopL; rw [if_pos hk]) h
theorem ws_loop_cons {ok:Sto → Bool} {gf:GF} {body:SF} {x:D} {xs:List D} (hk:ok L = true) (h:W1 (gf x ρ) fun ρ1 => WS (body ρ1 L) (fun ρ2 L2 => WS (loopL ok gf body xs ρ2 L2) nx rt bk ct) rt nx (fun ρ2 L2 => WS (loopL ok gf body xs ρ2 L2) nx rt bk ct)):WS (loopL ok gf body (x :: xs) ρ L) nx rt bk ct:=by
 obtain ⟨ρ1,e1,y,e2,q⟩:=h
 cases y with
 | next ρ2 L2 => obtain ⟨z,e3,q⟩:=q; exact ⟨z,by unfold loopL; rw [if_pos hk,e1,Option.bind_some,e2]; exact e3,q⟩
 | cont ρ2 L2 => obtain ⟨z,e3,q⟩:=q; exact ⟨z,by unfold loopL; rw [if_pos hk,e1,Option.bind_some,e2]; exact e3,q⟩
 | ret d L2 => exact WS.irt (by unfold loopL; rw [if_pos hk,e1,Option.bind_some,e2]; rfl) q
 | brk ρ2 L2 => exact WS.inx (by unfold loopL; rw [if_pos hk,e1,Option.bind_some,e2]; rfl) q
theorem ws_loop {ok:Sto → Bool} {gf:GF} {body:SF} (I:Nat → Fm → Sto → Prop):∀ (items:List D) (j:Nat) (ρ:Fm) (L:Sto),I j ρ L →
  (∀ i x ρ L,items[i]? = some x → I (j + i) ρ L → ok L = true ∧ W1 (gf x ρ) fun ρ1 => WS (body ρ1 L) (I (j + i + 1)) rt nx (I (j + i + 1))) →
  (∀ ρ L,I (j + items.length) ρ L → ok L = true ∧ nx ρ L) → WS (loopL ok gf body items ρ L) nx rt bk ct
 | [],j,ρ,L,h0,_,fin => ws_loop_nil (fin ρ L h0).1 (fin ρ L h0).2
 | x :: xs,j,ρ,L,h0,st,fin => by
  obtain ⟨hk,hw⟩:=st 0 x ρ L rfl h0
  have go:∀ ρ2 L2,I (j + 1) ρ2 L2 → WS (loopL ok gf body xs ρ2 L2) nx rt bk ct:=fun ρ2 L2 h2 => ws_loop I xs (j + 1) ρ2 L2 h2
   (fun i y ρ L e h => by
    have e':j + (i + 1) = j + 1 + i:=by omega
    have:=st (i + 1) y ρ L (by simpa using e) (by rw [e']; exact h)
    rw [e'] at this
    exact this)
   (fun ρ L h => fin ρ L (by have e':j + (x :: xs).length = j + 1 + xs.length:=by simp; omega
                             rw [e']; exact h))
  refine ws_loop_cons hk ?_
  obtain ⟨ρ1,e1,hb⟩:=hw
  exact ⟨ρ1,e1,hb.mono go (fun _ _ h => h) (fun _ _ h => h) go⟩
end
section
variable {Q:Fm → Prop} {gf:GF} {gs:GsF}
theorem wg_name {i:Nat} {d:D} (h:Q (ρ.set i (some d))):W1 (gNameF i d ρ) Q:=⟨_,rfl,h⟩
theorem wg_tup {n:Nat} {ds:List D} (e:ds.length = n) (h:W1 (gs ds ρ) Q):W1 (gTupF n gs (.tup ds) ρ) Q:=by
 obtain ⟨ρ',e1,q⟩:=h
 exact ⟨ρ',by unfold gTupF; simp only; rw [if_pos e]; exact e1,q⟩
theorem wg_nil (h:Q ρ):W1 (gNilF [] ρ) Q:=⟨_,rfl,h⟩
theorem wg_cons {d:D} {ds:List D} (h:W1 (gf d ρ) fun ρ' => W1 (gs ds ρ') Q):W1 (gConsF gf gs (d :: ds) ρ) Q:=by
 obtain ⟨ρ1,e1,ρ2,e2,q⟩:=h
 exact ⟨ρ2,by unfold gConsF; simp only; rw [e1]; exact e2,q⟩
end
theorem wc_nil {ok:Sto → Bool} {g:GF} {c:TF} {elt:EF} {k:Nat} {Q:Sto → Prop} (hk:ok L = true) (h:Q L):W1 (compL ok g c elt k [] ρ L) Q:=⟨_,by unfold compL; rw [if_pos hk],h⟩
theorem wc_cons {ok:Sto → Bool} {g:GF} {c:TF} {elt:EF} {k:Nat} {x:D} {xs:List D} {Q:Sto → Prop} (hk:ok L = true)
  (h:W1 (g x ρ) fun ρ1 => W2 (c ρ1 L) fun b L1 => Br b (W2 (elt ρ1 L1) fun d L2 => ∃ ys,L2[k]? = some (.lst ys) ∧ ys.length < 16777216 ∧ W1 (compL ok g c elt k xs ρ1 (L2.set k (.lst (ys ++ [d])))) Q) (W1 (compL ok g c elt k xs ρ1 L1) Q)) :
  W1 (compL ok g c elt k (x :: xs) ρ L) Q:=by
 obtain ⟨ρ1,e1,b,L1,e2,q⟩:=h
 cases b
 ·obtain ⟨z,e3,q⟩:=q
  exact ⟨z,by unfold compL; rw [if_pos hk,e1,Option.bind_some,e2,Option.bind_some]; exact e3,q⟩
 ·obtain ⟨d,L2,e3,ys,e4,hz,z,e5,q⟩:=q
  refine ⟨z,?_,q⟩
  unfold compL
  rw [if_pos hk,e1,Option.bind_some,e2,Option.bind_some]
  simp only [if_true]
  rw [e3,Option.bind_some]
  simp only
  rw [e4]
  simp only
  rw [if_pos hz]
  exact e5
theorem wc_inv {ok:Sto → Bool} {g:GF} {c:TF} {elt:EF} {k:Nat} {Q:Sto → Prop} (I:Nat → Fm → Sto → Prop):∀ (items:List D) (j:Nat) (ρ:Fm) (L:Sto),I j ρ L →
  (∀ i x ρ L,items[i]? = some x → I (j + i) ρ L → ok L = true ∧ W1 (g x ρ) fun ρ1 => W2 (c ρ1 L) fun b L1 => Br b (W2 (elt ρ1 L1) fun d L2 => ∃ ys,L2[k]? = some (.lst ys) ∧ ys.length < 16777216 ∧ I (j + i + 1) ρ1 (L2.set k (.lst (ys ++ [d])))) (I (j + i + 1) ρ1 L1)) →
  (∀ ρ L,I (j + items.length) ρ L → ok L = true ∧ Q L) → W1 (compL ok g c elt k items ρ L) Q
 | [],j,ρ,L,h0,_,fin => wc_nil (fin ρ L h0).1 (fin ρ L h0).2
 | x :: xs,j,ρ,L,h0,st,fin => by
  obtain ⟨hk,ρ1,e1,b,L1,e2,q⟩:=st 0 x ρ L rfl h0
  have go:∀ ρ2 L2,I (j + 1) ρ2 L2 → W1 (compL ok g c elt k xs ρ2 L2) Q:=fun ρ2 L2 h2 => wc_inv I xs (j + 1) ρ2 L2 h2
   (fun i y ρ L e h => by
    have e':j + (i + 1) = j + 1 + i:=by omega
    have:=st (i + 1) y ρ L (by simpa using e) (by rw [e']; exact h)
    rw [e'] at this
    exact this)
   (fun ρ L h => fin ρ L (by have e':j + (x :: xs).length = j + 1 + xs.length:=by simp; omega
                             rw [e']; exact h))
  refine wc_cons hk ⟨ρ1,e1,b,L1,e2,?_⟩
  cases b
  ·exact go _ _ q
  ·obtain ⟨d,L2,e3,ys,e4,hz,q⟩:=q
   exact ⟨d,L2,e3,ys,e4,hz,go _ _ q⟩
section
variable {Q:D → Sto → Prop} {B:SF} {N:List Str} {n:Nat} {xs:List D}
theorem w_run (hn:xs.length = n) (h:WS (B (startD N xs) L) (fun _ L2 => L <+: L2 ∧ Q .non L) (fun d L2 => d.noRef = true ∧ L <+: L2 ∧ Q d L) (fun _ _ => False) (fun _ _ => False)):W2 (runG B N n xs L) Q:=by
 obtain ⟨x,e,q⟩:=h
 have tk:∀ L2:Sto,L <+: L2 → L2.take L.length = L:=fun L2 hp => by obtain ⟨M,rfl⟩:=hp; simp
 cases x with
 | next ρ L2 => exact ⟨_,_,by unfold runG; rw [if_pos hn,e]; simp only; rw [if_pos (tk _ q.1)],q.2⟩
 | ret d L2 => exact ⟨_,_,by unfold runG; rw [if_pos hn,e]; simp only; rw [if_pos ⟨q.1,tk _ q.2.1⟩],q.2.2⟩
 | brk ρ L2 => exact q.elim
 | cont ρ L2 => exact q.elim
theorem w_runR (hn:xs.length = n) (h:WS (B (startD N xs) L) (fun _ _ => False) (fun d L2 => d.noRef = false ∧ Q d L2) (fun _ _ => False) (fun _ _ => False)):W2 (runG B N n xs L) Q:=by
 obtain ⟨x,e,q⟩:=h
 cases x with
 | next ρ L2 => exact q.elim
 | ret d L2 => exact ⟨_,_,by unfold runG; rw [if_pos hn,e]; simp only; rw [if_neg (fun h => by rw [q.1] at h; cases h.1)],q.2⟩
 | brk ρ L2 => exact q.elim
 | cont ρ L2 => exact q.elim
end
section
variable {Q:D → Sto → Prop} {i j:Int} {x y:Str}
theorem g_addI (h:Q (.int (i + j)) L):W2 (gAdd (.int i) (.int j) L) Q:=⟨_,_,rfl,h⟩
theorem g_addS (hz:x.length + y.length ≤ 16777216) (h:Q (.str (x ++ y)) L):W2 (gAdd (.str x) (.str y) L) Q:=⟨_,_,by unfold gAdd; simp only; rw [if_pos hz],h⟩
theorem g_addL {a b:Nat} {xs ys:List D} (e1:L[a]? = some (.lst xs)) (e2:L[b]? = some (.lst ys)) (hz:xs.length + ys.length ≤ 16777216) (h:Q (.ref L.length) (L ++ [.lst (xs ++ ys)])):W2 (gAdd (.ref a) (.ref b) L) Q:=⟨_,_,by unfold gAdd; simp only; rw [e1,e2]; simp only; rw [if_pos hz],h⟩
theorem g_sub (h:Q (.int (i - j)) L):W2 (gSub (.int i) (.int j) L) Q:=⟨_,_,rfl,h⟩
theorem g_mulI (hc:cMul i j = true) (h:Q (.int (i * j)) L):W2 (gMul (.int i) (.int j) L) Q:=⟨_,_,by unfold gMul; simp only; rw [if_pos hc],h⟩
theorem g_fdiv (hc:cDiv i j = true) (h:Q (.int (i / j)) L):W2 (gFdiv (.int i) (.int j) L) Q:=⟨_,_,by unfold gFdiv gI; simp only; rw [if_pos hc],h⟩
theorem g_mod (hc:cMod i j = true) (h:Q (.int (i % j)) L):W2 (gMod (.int i) (.int j) L) Q:=⟨_,_,by unfold gMod gI; simp only; rw [if_pos hc],h⟩
theorem g_pow (hc:cPow i j = true) (h:Q (.int (i ^ j.toNat)) L):W2 (gPow (.int i) (.int j) L) Q:=⟨_,_,by unfold gPow gI; simp only; rw [if_pos hc],h⟩
theorem g_neg (h:Q (.int (-i)) L):W2 (gNeg (.int i) L) Q:=⟨_,_,rfl,h⟩
theorem g_lt (h:Q (.bl (decide (i < j))) L):W2 (gLt (.int i) (.int j) L) Q:=⟨_,_,rfl,h⟩
theorem g_le (h:Q (.bl (decide (i ≤ j))) L):W2 (gLe (.int i) (.int j) L) Q:=⟨_,_,rfl,h⟩
theorem g_gt (h:Q (.bl (decide (j < i))) L):W2 (gGt (.int i) (.int j) L) Q:=⟨_,_,rfl,h⟩
theorem dec_congr {p q:Prop} [Decidable p] [Decidable q] (h:p ↔ q):decide p = decide q:=by
 by_cases a:p
 ·rw [decide_eq_true a,decide_eq_true (h.mp a)]
 ·rw [decide_eq_false a,decide_eq_false (fun b => a (h.mpr b))]
theorem gEq_is {a b:D} (hs:scalD a b = true) (h:Q (.bl (decide (a = b))) L):W2 (gEq a b L) Q:=⟨_,_,by unfold gEq; rw [if_pos hs],h⟩
theorem gNe_is {a b:D} (hs:scalD a b = true) (h:Q (.bl (!decide (a = b))) L):W2 (gNe a b L) Q:=⟨_,_,by unfold gNe; rw [if_pos hs],h⟩
theorem g_eqI (h:Q (.bl (decide (i = j))) L):W2 (gEq (.int i) (.int j) L) Q:=gEq_is rfl (by rw [dec_congr (show D.int i = D.int j ↔ i = j by simp)]; exact h)
theorem g_eqS (h:Q (.bl (decide (x = y))) L):W2 (gEq (.str x) (.str y) L) Q:=gEq_is rfl (by rw [dec_congr (show D.str x = D.str y ↔ x = y by simp)]; exact h)
theorem g_neI (h:Q (.bl (!decide (i = j))) L):W2 (gNe (.int i) (.int j) L) Q:=gNe_is rfl (by rw [dec_congr (show D.int i = D.int j ↔ i = j by simp)]; exact h)
theorem g_is {a:D} (h:Q (.bl (isNon a)) L):W2 (gIs a .non L) Q:=⟨_,_,rfl,h⟩
theorem g_isnot {a:D} (h:Q (.bl (!isNon a)) L):W2 (gIsNot a .non L) Q:=⟨_,_,rfl,h⟩
theorem gIn_is {neg:Bool} {d e:D} {ys:List D} (h0:∀ i j,d = .str i → e = .str j → False) (e1:seqOf e L = some ys) (hf:(flatD d && ys.all flatD) = true) (h:Q (.bl (if neg then !inD d ys else inD d ys)) L):W2 (gInN neg d e L) Q:=by
 refine ⟨_,_,?_,h⟩
 unfold gInN
 split
 ·exact (h0 _ _ rfl rfl).elim
 ·rw [e1]
  simp only
  rw [if_pos hf]
theorem g_inT {d:D} {ys:List D} (hf:(flatD d && ys.all flatD) = true) (h:Q (.bl (inD d ys)) L):W2 (gInN false d (.tup ys) L) Q:=gIn_is (fun _ _ _ z => by cases z) rfl hf h
theorem g_notinT {d:D} {ys:List D} (hf:(flatD d && ys.all flatD) = true) (h:Q (.bl (!inD d ys)) L):W2 (gInN true d (.tup ys) L) Q:=gIn_is (fun _ _ _ z => by cases z) rfl hf h
theorem g_inR {d:D} {k:Nat} {ys:List D} (e:L[k]? = some (.lst ys)) (hf:(flatD d && ys.all flatD) = true) (h:Q (.bl (inD d ys)) L):W2 (gInN false d (.ref k) L) Q:=gIn_is (fun _ _ _ z => by cases z) (by simp [seqOf,e]) hf h
theorem g_notinR {d:D} {k:Nat} {ys:List D} (e:L[k]? = some (.lst ys)) (hf:(flatD d && ys.all flatD) = true) (h:Q (.bl (!inD d ys)) L):W2 (gInN true d (.ref k) L) Q:=gIn_is (fun _ _ _ z => by cases z) (by simp [seqOf,e]) hf h
theorem g_ixS {c:Nat} (e:atI x.cps.toList i = some c) (h:Q (.str ⟨#[c]⟩) L):W2 (gIx (.str x) (.int i) L) Q:=⟨_,_,by unfold gIx; simp only; rw [e],h⟩
theorem g_ixT {xs:List D} {d:D} (e:atI xs i = some d) (h:Q d L):W2 (gIx (.tup xs) (.int i) L) Q:=⟨_,_,by unfold gIx; simp only [seqOf]; rw [e],h⟩
theorem g_ixF {xs:List D} {d:D} (e:atI xs i = some d) (h:Q d L):W2 (gIx (.fz xs) (.int i) L) Q:=⟨_,_,by unfold gIx; simp only [seqOf]; rw [e],h⟩
theorem g_ixR {k:Nat} {xs:List D} {d:D} (e1:L[k]? = some (.lst xs)) (e:atI xs i = some d) (h:Q d L):W2 (gIx (.ref k) (.int i) L) Q:=⟨_,_,by unfold gIx; simp only [seqOf,e1]; rw [e],h⟩
theorem g_slS {lo hi:Option Int} (h:Q (.str (Txt.slice x lo hi)) L):W2 (gSl (.str x) lo hi L) Q:=⟨_,_,rfl,h⟩
theorem g_slR {lo hi:Option Int} {k:Nat} {xs:List D} (e:L[k]? = some (.lst xs)) (h:Q (.ref L.length) (L ++ [.lst (cutD xs lo hi)])):W2 (gSl (.ref k) lo hi L) Q:=⟨_,_,by unfold gSl; simp only [e],h⟩
theorem g_lenS (h:Q (.int (x.length:Int)) L):W2 (gLen [.str x] L) Q:=⟨_,_,rfl,h⟩
theorem g_lenT {xs:List D} (h:Q (.int (xs.length:Int)) L):W2 (gLen [.tup xs] L) Q:=⟨_,_,rfl,h⟩
theorem g_lenF {xs:List D} (h:Q (.int (xs.length:Int)) L):W2 (gLen [.fz xs] L) Q:=⟨_,_,rfl,h⟩
theorem g_lenR {k:Nat} {xs:List D} (e:L[k]? = some (.lst xs)) (h:Q (.int (xs.length:Int)) L):W2 (gLen [.ref k] L) Q:=⟨_,_,by simp only [gLen,seqOf,e],h⟩
theorem g_min (h:Q (.int (if j < i then j else i)) L):W2 (gMin [.int i,.int j] L) Q:=⟨_,_,rfl,h⟩
theorem g_tupR {k:Nat} {xs:List D} (e:L[k]? = some (.lst xs)) (h:Q (.tup xs) L):W2 (gTuple [.ref k] L) Q:=⟨_,_,by simp only [gTuple,seqOf,e],h⟩
theorem g_inst {d:D} {t T:String} {b:Bool} (hT:["int","str","bool","list","tuple","dict"].contains T = true) (e:tyName d L = some t) (eb:instOf t T = b) (h:Q (.bl b) L):W2 (gInst [d,.ty T] L) Q:=⟨_,_,by simp only [gInst]; rw [if_pos hT,e,← eb]; rfl,h⟩
theorem g_all {k:Nat} {ds:List D} {bs:List Bool} (e:L[k]? = some (.lst ds)) (e2:blsD ds = some bs) (h:Q (.bl (bs.all id)) L):W2 (gAll [.ref k] L) Q:=⟨_,_,by simp only [gAll,e,e2],h⟩
theorem g_append {k:Nat} {ds:List D} {d:D} (e:L[k]? = some (.lst ds)) (hz:ds.length < 16777216) (h:Q .non (L.set k (.lst (ds ++ [d])))):W2 (gAppend (.ref k) [d] L) Q:=⟨_,_,by simp only [gAppend,e]; rw [if_pos hz],h⟩
end
end
theorem le16c {n:Nat} {p:Prop} (h:Nat.ble n 16777216 = true) (hp:p):Le16 n p:=⟨Nat.le_of_ble_eq_true h,hp⟩
theorem get_last {α:Type} {L:List α} {a:α}:(L ++ [a])[L.length]? = some a:=by simp
theorem get_app {α:Type} {L M:List α} {k:Nat} {a:α} (h:L[k]? = some a):(L ++ M)[k]? = some a:=by
 rw [List.getElem?_append_left (List.getElem?_eq_some_iff.mp h).1]; exact h
theorem get_setS {α:Type} {L:List α} {k:Nat} {a b:α} (h:L[k]? = some b):(L.set k a)[k]? = some a:=by
 rw [List.getElem?_set_self (List.getElem?_eq_some_iff.mp h).1]
theorem get_setN {α:Type} {L:List α} {k j:Nat} {a b:α} (n:j ≠ k) (h:L[k]? = some b):(L.set j a)[k]? = some b:=by
 rw [List.getElem?_set_ne n]; exact h
theorem pre_set {α:Type} {L L2:List α} {k:Nat} {a:α} (h:L <+: L2) (hk:L.length ≤ k):L <+: L2.set k a:=by
 obtain ⟨M,rfl⟩:=h
 rw [List.set_append,if_neg (by omega)]
 exact List.prefix_append _ _
section
variable {Q:D → Sto → Prop} {L:Sto}
theorem g_pow40 (h:Q (.int 10000000000000000000000000000000000000000) L):W2 (gPow (.int 10) (.int 40) L) Q:=g_pow (by decide) (by have e:(10:Int) ^ (40:Int).toNat = 10000000000000000000000000000000000000000:=(by decide); (rw [e]; exact h))
theorem g_pow6 (h:Q (.int 1000000) L):W2 (gPow (.int 10) (.int 6) L) Q:=g_pow (by decide) (by have e:(10:Int) ^ (6:Int).toNat = 1000000:=(by decide); (rw [e]; exact h))
end
section
variable {p q:Prop}
theorem br_nN (h:p):Br (isNon .non) p q:=h
theorem br_nT {i:List D} (h:q):Br (isNon (.tup i)) p q:=h
theorem br_nR {i:Nat} (h:q):Br (isNon (.ref i)) p q:=h
end
theorem g_instT {Q:D → Sto → Prop} {L:Sto} {d:D} {t T:String} (hT:["int","str","bool","list","tuple","dict"].contains T = true) (e:tyName d L = some t) (eb:instOf t T = true) (h:Q (.bl true) L):W2 (gInst [d,.ty T] L) Q:=g_inst hT e eb h
theorem g_instF {Q:D → Sto → Prop} {L:Sto} {d:D} {t T:String} (hT:["int","str","bool","list","tuple","dict"].contains T = true) (e:tyName d L = some t) (eb:instOf t T = false) (h:Q (.bl false) L):W2 (gInst [d,.ty T] L) Q:=g_inst hT e eb h
theorem rng1_mk {j0:Int} {Q:Int → Prop} (hb:j0 ≤ 4611686018427387903 ∧ -4611686018427387904 ≤ j0) (h:Q j0):∃ j:Int,[D.int j0] = [.int j] ∧ (j ≤ 4611686018427387903 ∧ -4611686018427387904 ≤ j) ∧ Q j:=⟨j0,rfl,hb,h⟩
theorem rng2_mk {i0 j0:Int} {Q:Int → Int → Prop} (hb:(i0 ≤ 4611686018427387903 ∧ -4611686018427387904 ≤ i0) ∧ (j0 ≤ 4611686018427387903 ∧ -4611686018427387904 ≤ j0)) (h:Q i0 j0) :
  ∃ i j:Int,[D.int i0,.int j0] = [.int i,.int j] ∧ ((i ≤ 4611686018427387903 ∧ -4611686018427387904 ≤ i) ∧ (j ≤ 4611686018427387903 ∧ -4611686018427387904 ≤ j)) ∧ Q i j:=⟨i0,j0,rfl,hb,h⟩
theorem atI_some {α:Type} {xs:List α} {i:Int} (h:-(xs.length:Int) ≤ i ∧ i < xs.length):∃ v,atI xs i = some v:=by
 unfold atI ixN
 by_cases h0:0 ≤ i
 ·rw [if_pos h0,if_pos h.2]
  have:i.toNat < xs.length:=by omega
  exact ⟨xs[i.toNat],by simp [this]⟩
 ·rw [if_neg h0,if_pos h.1]
  have:(i + xs.length).toNat < xs.length:=by omega
  exact ⟨xs[(i + xs.length).toNat],by simp [this]⟩
theorem atI_mem {α:Type} {xs:List α} {i:Int} {v:α} (h:atI xs i = some v):v ∈ xs:=by
 obtain ⟨j,_,hj,_⟩:=atI_get h
 exact List.mem_of_getElem? hj
theorem atI_mod {α:Type} {xs:List α} {n:Int} (c:Int) (h0:0 < n) (h:n ≤ xs.length):∃ v ∈ xs,atI xs (c % n) = some v:=by
 have h1:=Int.emod_nonneg c (b:=n) (by omega)
 have h2:=Int.emod_lt_of_pos c h0
 obtain ⟨v,hv⟩:=atI_some (xs:=xs) (i:=c % n) ⟨by omega,by omega⟩
 exact ⟨v,atI_mem hv,hv⟩
theorem rngD_mem {lo:Int} {n:Nat} {d:D} (h:d ∈ rngD lo n):∃ i:Nat,i < n ∧ d = .int (lo + (i:Int)):=by
 unfold rngD at h
 rw [List.mem_map] at h
 obtain ⟨i,hi,rfl⟩:=h
 exact ⟨i,List.mem_range.mp hi,rfl⟩
theorem rngD_at {lo:Int} {n i:Nat} {d:D} (h:(rngD lo n)[i]? = some d):i < n ∧ d = .int (lo + (i:Int)):=by
 rw [rngD_get] at h
 split at h
 ·rename_i hi; cases h; exact ⟨hi,rfl⟩
 ·cases h
open Builtin.Int in
theorem mulOk_le {a b:Int} {m n:Nat} (ha:intBits a ≤ m) (hb:intBits b ≤ n) (h:m + n ≤ 134217728):cMul a b = true:=decide_eq_true (PySem.IntMulOk.of_le ha hb h)
theorem bits_of_lt {a:Int} {n:Nat} (h:a.natAbs < 2 ^ n):Builtin.Int.intBits a ≤ n:=PySem.intBits_le_iff.mpr h
theorem mulOk_l {a b:Int} (h:-18446744073709551616 < a ∧ a < 18446744073709551616):cMul a b = true:=decide_eq_true (.of_left (intBits_le_64 (by omega) (by omega)))
theorem mulOk_r {a b:Int} (h:-18446744073709551616 < b ∧ b < 18446744073709551616):cMul a b = true:=decide_eq_true (.of_right (intBits_le_64 (by omega) (by omega)))
theorem atI_ints {ns:List Int} {k:Int} (h0:0 ≤ k) (h1:k < ns.length):∃ z ∈ ns,atI (ns.map D.int) k = some (.int z):=by
 have hk:k.toNat < ns.length:=by omega
 refine ⟨ns[k.toNat],List.getElem_mem _,?_⟩
 have e:((k.toNat:Nat):Int) = k:=by omega
 have q:=atI_nat (xs:=ns.map D.int) (j:=k.toNat) (v:=.int ns[k.toNat]) (by simp [hk])
 rw [e] at q
 exact q
noncomputable def codes:List Nat:=[97,98,99,100,101,102,103,104,105,106,107,108,109,110,111,112,113,114,115,116,117,118,119,120,121,122,65,66,67,68,69,70,71,72,73,74,75,76,77,78,79,80,81,82,83,84,85,86,87,88,89,90,48,49,50,51,52,53,54,55,56,57,32,45,46,44,47]
noncomputable def allS:Str:="abcdefghijklmnopqrstuvwxyzABCDEFGHIJKLMNOPQRSTUVWXYZ0123456789 -.,/"
noncomputable def SgOk (y:Str):Prop:=∀ c ∈ y.cps.toList,c ∈ codes
noncomputable instance (y:Str):Decidable (SgOk y):=by unfold SgOk; infer_instance
theorem SgOk.at {y:Str} (h:SgOk y) {i:Nat} (hi:i < y.cps.size):y.cps.getD i 0 ∈ codes:=by
 have:y.cps.getD i 0 = y.cps[i]:=by simp [Array.getD,hi]
 rw [this]
 exact h _ (by simp)
theorem SgOk.one {c:Nat} (h:c ∈ codes):SgOk ⟨#[c]⟩:=fun z hz => by
 have:z = c:=by simpa using hz
 rw [this]; exact h
theorem app_toList (x y:Str):(x ++ y).cps.toList = x.cps.toList ++ y.cps.toList:=by show (x.cps ++ y.cps).toList = _; simp
theorem app_size (x y:Str):(x ++ y).cps.size = x.cps.size + y.cps.size:=by show (x.cps ++ y.cps).size = _; simp
theorem app_length (x y:Str):(x ++ y).length = x.length + y.length:=app_size x y
theorem SgOk.app {x y:Str} (hx:SgOk x) (hy:SgOk y):SgOk (x ++ y):=fun c hc => by
 rw [app_toList,List.mem_append] at hc
 rcases hc with h | h
 ·exact hx c h
 ·exact hy c h
theorem slice_mem {x:Str} {l u:Option Int} {c:Nat} (h:c ∈ (Txt.slice x l u).cps.toList):c ∈ x.cps.toList:=by
 unfold Txt.slice at h
 split at h
 ·exact h
 ·simp only [List.mem_filterMap] at h
  obtain ⟨j,_,hj⟩:=h
  have:=Array.getElem?_eq_some_iff.mp hj
  obtain ⟨h1,rfl⟩:=this; simp
theorem SgOk.slice {x:Str} (h:SgOk x) (l u:Option Int):SgOk (Txt.slice x l u):=fun c hc => h c (slice_mem hc)
theorem SgOk.join:∀ {ys:List Str},(∀ y ∈ ys,SgOk y) → SgOk (Txt.join "" ys):=fun {ys} h => by
 show SgOk (Builtin.Str.glued "" ys)
 rw [StrLaws.glued_eq_join]
 induction ys with
 | nil => exact (by decide)
 | cons x r ih =>
  cases r with
  | nil => exact h x List.mem_cons_self
  | cons y r =>
   show SgOk (x ++ ("":Str) ++ Str.join "" (y :: r))
   exact ((h x List.mem_cons_self).app (by decide)).app (ih fun z hz => h z (List.mem_cons_of_mem _ hz))
theorem mem_foldl_app {c:Nat}:∀ (l:List (Array Nat)) (a:Array Nat),c ∈ (l.foldl (· ++ ·) a).toList → c ∈ a.toList ∨ ∃ b ∈ l,c ∈ b.toList
 | [],a,h => .inl h
 | b :: r,a,h => by
  rw [List.foldl_cons] at h
  rcases mem_foldl_app r _ h with h | ⟨b',h1,h2⟩
  ·rw [Array.toList_append,List.mem_append] at h
   rcases h with h | h
   ·exact .inl h
   ·exact .inr ⟨b,List.mem_cons_self,h⟩
  ·exact .inr ⟨b',List.mem_cons_of_mem _ h1,h2⟩
theorem mul_mem {x:Str} {n:Int} {c:Nat} (h:c ∈ (Txt.mul x n).cps.toList):c ∈ x.cps.toList:=by
 unfold Txt.mul at h
 split at h
 ·simp [Str.empty] at h
 ·split at h
  ·exact h
  ·rcases mem_foldl_app _ _ h with h | ⟨b,h1,h2⟩
   ·simp at h
   ·rw [List.eq_of_mem_replicate h1] at h2; exact h2
theorem SgOk.mul {x:Str} (h:SgOk x) (n:Int):SgOk (Txt.mul x n):=fun c hc => h c (mul_mem hc)
noncomputable def okD:Nat → D → Bool
 | 0,_ => false
 | n + 1,.tup xs => xs.all (okD n)
 | n + 1,.fz xs => xs.all (okD n)
 | _ + 1,.ref _ => false
 | _ + 1,.ty _ => false
 | _ + 1,_ => true
theorem allO_true:∀ {os:List (Option Bool)},(∀ o ∈ os,o = some true) → allO os = some true
 | [],_ => rfl
 | o :: r,h => by
  have h1:=h o List.mem_cons_self
  subst h1
  rw [allO,allO_true fun o ho => h o (List.mem_cons_of_mem _ ho)]
  rfl
theorem zip_self_mem {xs:List D} {z:D × D} (h:z ∈ xs.zip xs):z.1 = z.2 ∧ z.1 ∈ xs:=by
 induction xs with
 | nil => simp at h
 | cons x r ih =>
  rw [List.zip_cons_cons] at h
  rcases List.mem_cons.mp h with rfl | h
  ·exact ⟨rfl,List.mem_cons_self⟩
  ·exact ⟨(ih h).1,List.mem_cons_of_mem _ (ih h).2⟩
theorem eqN_refl:∀ (n:Nat) (L:Sto) (x:D),okD n x = true → eqN n L x x = some true
 | 0,_,_,h => by cases h
 | n + 1,L,x,h => by
  have seqs:∀ xs:List D,xs.all (okD n) = true → allO ((xs.zip xs).map fun z => eqN n L z.1 z.2) = some true:=fun xs hx => by
   refine allO_true fun o ho => ?_
   rw [List.mem_map] at ho
   obtain ⟨z,hz,rfl⟩:=ho
   obtain ⟨e1,e2⟩:=zip_self_mem hz
   rw [← e1]
   exact eqN_refl n L z.1 (List.all_eq_true.mp hx _ e2)
  rw [eqN_succ]
  cases x with
  | tup xs =>
   simp only [okD] at h
   simp [flatD,shp,seqs xs h]
  | fz xs =>
   simp only [okD] at h
   simp [flatD,shp,seqs xs h]
  | ref k => simp [okD] at h
  | ty k => simp [okD] at h
  | non => simp only [flatD,if_true]; rw [eqP_self rfl]
  | bl b => simp only [flatD,if_true]; rw [eqP_self rfl]
  | int b => simp only [flatD,if_true]; rw [eqP_self rfl]
  | str b => simp only [flatD,if_true]; rw [eqP_self rfl]
section
variable {Q:D → Sto → Prop} {L:Sto}
noncomputable def Keep (k:Nat) (L L':Sto):Prop:=L.length ≤ L'.length ∧ ∀ j,j ≠ k → j < L.length → L'[j]? = L[j]?
theorem Keep.refl (k:Nat) (L:Sto):Keep k L L:=⟨Nat.le_refl _,fun _ _ _ => rfl⟩
theorem Keep.trans {k:Nat} {L L1 L2:Sto} (a:Keep k L L1) (b:Keep k L1 L2):Keep k L L2:=⟨Nat.le_trans a.1 b.1,fun j h1 h2 => by rw [b.2 j h1 (by have:=a.1; omega),a.2 j h1 h2]⟩
theorem Keep.app (k:Nat) (L M:Sto):Keep k L (L ++ M):=⟨by simp,fun j _ h => by rw [List.getElem?_append_left h]⟩
theorem Keep.set (k:Nat) (L:Sto) (o:Ob):Keep k L (L.set k o):=⟨by simp,fun j h _ => by rw [List.getElem?_set_ne (Ne.symm h)]⟩
theorem Keep.get {k j:Nat} {L L':Sto} {o:Ob} (h:Keep k L L') (n:j ≠ k) (e:L[j]? = some o):L'[j]? = some o:=by
 rw [h.2 j n (List.getElem?_eq_some_iff.mp e).1]; exact e
theorem ws_app {nx:Fm → Sto → Prop} {rt:D → Sto → Prop} {bk ct:Fm → Sto → Prop} {ok:Sto → Bool} {gf:GF} {body:SF} (P:Fm → Prop) (k m B:Nat) (f:D → List D) {items:List D} {ρ:Fm} {acc:List D}
  (hk:L[k]? = some (.lst acc)) (hp:P ρ) (hm:∀ x ∈ items,(f x).length ≤ m) (hB:acc.length + items.length * m ≤ B)
  (turn:∀ x ∈ items,∀ ρ L' acc',P ρ → Keep k L L' → L'[k]? = some (.lst acc') → acc'.length ≤ B → ok L' = true ∧ W1 (gf x ρ) fun ρ1 => WS (body ρ1 L') (fun ρ2 L2 => P ρ2 ∧ Keep k L' L2 ∧ L2[k]? = some (.lst (acc' ++ f x))) rt (fun _ _ => False) (fun ρ2 L2 => P ρ2 ∧ Keep k L' L2 ∧ L2[k]? = some (.lst (acc' ++ f x))))
  (fin:∀ ρ L',P ρ → Keep k L L' → L'[k]? = some (.lst (acc ++ items.flatMap f)) → ok L' = true ∧ nx ρ L'):WS (loopL ok gf body items ρ L) nx rt bk ct:=by
 refine ws_loop (fun j ρ L' => P ρ ∧ Keep k L L' ∧ L'[k]? = some (.lst (acc ++ (items.take j).flatMap f))) items 0 ρ L ⟨hp,.refl k L,by simpa using hk⟩ ?_ ?_
 ·rintro i x ρ L' hx ⟨hp,hkp,hl⟩
  have hi:i < items.length:=(List.getElem?_eq_some_iff.mp hx).1
  have hxm:=List.mem_of_getElem? hx
  have ht:items.take (0 + i + 1) = items.take (0 + i) ++ [x]:=by rw [Nat.zero_add,List.take_add_one,hx]; rfl
  have hlen:(acc ++ (items.take (0 + i)).flatMap f).length ≤ B:=by
   have h1:∀ (l:List D),(∀ x ∈ l,(f x).length ≤ m) → (l.flatMap f).length ≤ l.length * m:=fun l => by
    induction l with
    | nil => intro _; simp
    | cons y r ih =>
     intro h
     have:=ih fun z hz => h z (List.mem_cons_of_mem _ hz)
     have:=h y List.mem_cons_self
     simp only [List.flatMap_cons,List.length_append,List.length_cons,Nat.add_mul]
     omega
   have h2:=h1 (items.take (0 + i)) fun x hx => hm x (List.mem_of_mem_take hx)
   have h3:(items.take (0 + i)).length * m ≤ items.length * m:=Nat.mul_le_mul_right _ (by simp; omega)
   rw [List.length_append]
   omega
  obtain ⟨h1,ρ1,e1,h2⟩:=turn x hxm ρ L' _ hp hkp hl hlen
  refine ⟨h1,ρ1,e1,?_⟩
  have go:∀ ρ2 L2,(P ρ2 ∧ Keep k L' L2 ∧ L2[k]? = some (.lst ((acc ++ (items.take (0 + i)).flatMap f) ++ f x))) → P ρ2 ∧ Keep k L L2 ∧ L2[k]? = some (.lst (acc ++ (items.take (0 + i + 1)).flatMap f)):=fun ρ2 L2 ⟨a,b,c⟩ => ⟨a,hkp.trans b,by rw [c,ht]; simp⟩
  exact h2.mono go (fun _ _ h => h) (fun _ _ h => h.elim) go
 ·rintro ρ L' ⟨hp,hkp,hl⟩
  exact fin ρ L' hp hkp (by simpa using hl)
theorem gEqD_I {x y:Int} (h:Q (.bl (decide (x = y))) L):W2 (gEqD (.int x) (.int y) L) Q:=⟨_,_,by unfold gEqD; rw [if_pos (show scalD (D.int x) (D.int y) = true from rfl),dec_congr (show D.int x = D.int y ↔ x = y by simp)],h⟩
theorem gNeD_I {x y:Int} (h:Q (.bl (!decide (x = y))) L):W2 (gNeD (.int x) (.int y) L) Q:=⟨_,_,by unfold gNeD; rw [if_pos (show scalD (D.int x) (D.int y) = true from rfl),dec_congr (show D.int x = D.int y ↔ x = y by simp)],h⟩
end
section
variable {ρ:Fm} {L:Sto} {Q:D → Sto → Prop} {nx:Fm → Sto → Prop} {rt:D → Sto → Prop} {bk ct:Fm → Sto → Prop}
theorem ws_cut {f g:SF} (P:Fm → Sto → Prop) (h1:WS (f ρ L) P rt bk ct) (h2:∀ ρ' L',P ρ' L' → WS (g ρ' L') nx rt bk ct):WS (seqF f g ρ L) nx rt bk ct:=ws_seq (h1.mono h2 (fun _ _ h => h) (fun _ _ h => h) (fun _ _ h => h))
theorem w_chain {g g':G2} {fa fb fc:EF} (h:W2 (fa ρ L) fun x L1 => W2 (fb ρ L1) fun y L2 => W2 (g x y L2) fun z L3 => IsB z fun b => Br b (W2 (fc ρ L3) fun w L4 => W2 (g' y w L4) Q) (Q (.bl false) L3)):W2 (chainV g g' fa fb fc ρ L) Q:=by
 obtain ⟨x,L1,e1,y,L2,e2,z,L3,e3,b,rfl,q⟩:=h
 cases b with
 | false => exact ⟨_,_,by unfold chainV; rw [e1,Option.bind_some,e2,Option.bind_some,e3]; rfl,q⟩
 | true =>
  obtain ⟨w,L4,e4,d,L5,e5,q⟩:=q
  exact ⟨_,_,by unfold chainV; rw [e1,Option.bind_some,e2,Option.bind_some,e3,Option.bind_some]; simp only; rw [e4]; exact e5,q⟩
theorem g_addT {xs ys:List D} (h0:xs ≠ []) (hz:xs.length + ys.length ≤ 16777216) (h:Q (.tup (xs ++ ys)) L):W2 (gAdd (.tup xs) (.tup ys) L) Q:=⟨_,_,by unfold gAdd; simp only; rw [if_neg h0,if_pos hz],h⟩
theorem g_addTE {ys:List D} (h:Q (.tup ys) L):W2 (gAdd (.tup []) (.tup ys) L) Q:=⟨_,_,by unfold gAdd; simp,h⟩
theorem g_slT {lo hi:Option Int} {xs:List D} (h:Q (.tup (cutD xs lo hi)) L):W2 (gSl (.tup xs) lo hi L) Q:=⟨_,_,rfl,h⟩
end
section
variable {Q:D → Sto → Prop} {ρ:Fm} {L:Sto} {nx:Fm → Sto → Prop} {rt:D → Sto → Prop} {bk ct:Fm → Sto → Prop} {fo fv fe:EF} {af:AF} {cs:List Str} {f c m:Str}
theorem g_fld {k:Nat} {fs:List (Str × D)} {d:D} (e:L[k]? = some (.ins c fs)) (hc:cs.contains c = true) (hl:fs.lookup f = some d) (h:Q d L):W2 (gFld cs f (.ref k) L) Q :=
 ⟨d,L,by simp only [gFld,e]; rw [if_pos (by simpa using hc),hl]; rfl,h⟩
theorem ws_putO (h:W2 (fv ρ L) fun v L1 => W2 (fo ρ L1) fun x L2 => W1 (putO cs f x v L2) fun L3 => nx ρ L3):WS (putOF cs f fo fv ρ L) nx rt bk ct:=by
 obtain ⟨v,L1,e1,x,L2,e2,L3,e3,q⟩:=h
 exact WS.inx (by unfold putOF; rw [e1]; simp only [Option.bind_some]; rw [e2]; simp only [Option.bind_some]; rw [e3]; rfl) q
theorem g_putO {k:Nat} {fs:List (Str × D)} {v:D} {P:Sto → Prop} (e:L[k]? = some (.ins c fs)) (hc:cs.contains c = true) (hl:Nat.blt fs.length 1000 = true) (h:P (L.set k (.ins c (putD f v fs)))):W1 (putO cs f (.ref k) v L) P:=by
 have h1:fs.length ≤ 999:=by simpa [Nat.blt] using hl
 exact ⟨_,by simp only [putO,e]; rw [if_pos ⟨by simpa using hc,by omega⟩],h⟩
theorem w_mkO {G:GL} (h:W2 (af ρ L) fun ys L1 => W2 (G (.ref L1.length :: ys) (L1 ++ [.ins c []])) fun z L2 => z = .non ∧ Q (.ref L1.length) L2):W2 (mkO c G af ρ L) Q:=by
 obtain ⟨ys,L1,e1,z,L2,e2,rfl,q⟩:=h
 exact ⟨_,L2,by unfold mkO; rw [e1]; simp only [Option.bind_some]; rw [e2]; rfl,q⟩
noncomputable def AugP (cs:List Str) (f:Str) (g:Int → Int → Int) (fv:EF) (ρ:Fm) (nx:Fm → Sto → Prop) (x:D) (L:Sto):Prop:=∃ k c fs i,x = .ref k ∧ L[k]? = some (.ins c fs) ∧ c ∈ cs ∧ fs.lookup f = some (.int i) ∧
 W2 (fv ρ L) fun y L2 => ∃ j fs',y = .int j ∧ L2[k]? = some (.ins c fs') ∧ fs'.length < 1000 ∧ nx ρ (L2.set k (.ins c (putD f (.int (g i j)) fs')))
theorem ws_augO {g:Int → Int → Int} (h:W2 (fo ρ L) fun x L1 => AugP cs f g fv ρ nx x L1):WS (augO cs f g fo fv ρ L) nx rt bk ct:=by
 obtain ⟨x,L1,e1,k,c,fs,i,rfl,e2,hc,e3,y,L2,e4,j,fs',rfl,e5,hl,q⟩:=h
 exact WS.inx (by unfold augO; rw [e1]; simp only [Option.bind_some]; rw [e2]; simp only; rw [if_pos hc,e3]; simp only; rw [e4]; simp only [Option.bind_some]; rw [e5]; dsimp only; rw [if_pos ⟨rfl,hl⟩]) q
theorem ws_augN {i:Nat} {g:Int → Int → Int} {a:Int} (e:ρ[i]? = some (some (.int a))) (h:W2 (fe ρ L) fun y L1 => IsI y fun b => nx (ρ.set i (some (.int (g a b)))) L1):WS (augN i g fe ρ L) nx rt bk ct:=by
 obtain ⟨y,L1,e1,b,rfl,q⟩:=h
 exact WS.inx (by unfold augN; rw [e]; simp only; rw [e1]; rfl) q
theorem ws_whileN {t:TF} {b:SF} (I:Nat → Fm → Sto → Prop) (st:∀ n ρ L,I n ρ L → W2 (t ρ L) fun x L1 => Br x (WS (b ρ L1) (fun ρ2 L2 => ∃ m,m < n ∧ I m ρ2 L2) rt nx (fun ρ2 L2 => ∃ m,m < n ∧ I m ρ2 L2)) (nx ρ L1)) :
  ∀ (N n:Nat) (ρ:Fm) (L:Sto),n < N → I n ρ L → WS (whileN t b N ρ L) nx rt bk ct
 | 0,n,ρ,L,h,_ => absurd h (Nat.not_lt_zero _)
 | N + 1,n,ρ,L,h,hI => by
  obtain ⟨x,L1,e1,hb⟩:=st n ρ L hI
  cases x with
  | false => exact WS.inx (by unfold whileN; rw [e1]; rfl) hb
  | true =>
   obtain ⟨out,e2,q⟩:=(show WS (b ρ L1) _ _ _ _ from hb)
   cases out with
   | next ρ2 L2 =>
    obtain ⟨m,hm,hI2⟩:=(show ∃ m,m < n ∧ I m ρ2 L2 from q)
    obtain ⟨o,e3,q3⟩:=ws_whileN I st N m ρ2 L2 (by omega) hI2
    exact ⟨o,by unfold whileN; rw [e1]; simp only [Option.bind_some,if_true]; rw [e2]; exact e3,q3⟩
   | cont ρ2 L2 =>
    obtain ⟨m,hm,hI2⟩:=(show ∃ m,m < n ∧ I m ρ2 L2 from q)
    obtain ⟨o,e3,q3⟩:=ws_whileN I st N m ρ2 L2 (by omega) hI2
    exact ⟨o,by unfold whileN; rw [e1]; simp only [Option.bind_some,if_true]; rw [e2]; exact e3,q3⟩
   | brk ρ2 L2 => exact WS.inx (by unfold whileN; rw [e1]; simp only [Option.bind_some,if_true]; rw [e2]; rfl) q
   | ret d L2 => exact WS.irt (by unfold whileN; rw [e1]; simp only [Option.bind_some,if_true]; rw [e2]; rfl) q
theorem ws_while {t:TF} {b:SF} (I:Nat → Fm → Sto → Prop) {n:Nat} (hn:n < 1000000) (h0:I n ρ L)
  (st:∀ n ρ L,I n ρ L → W2 (t ρ L) fun x L1 => Br x (WS (b ρ L1) (fun ρ2 L2 => ∃ m,m < n ∧ I m ρ2 L2) rt nx (fun ρ2 L2 => ∃ m,m < n ∧ I m ρ2 L2)) (nx ρ L1)):WS (whileF t b ρ L) nx rt bk ct:=ws_whileN I st 1000000 n ρ L hn h0
theorem g_sum {k:Nat} {ds:List D} {ns:List Int} (e:L[k]? = some (.lst ds)) (e2:intsD ds = some ns) (h:Q (.int ns.sum) L):W2 (gSum [.ref k] L) Q:=⟨_,_,by unfold gSum; rw [lstD_ref e]; simp only [Option.bind_some]; rw [e2]; rfl,h⟩
theorem w_runB {B:SF} {N:List Str} {n:Nat} {xs:List D} (hn:xs.length = n) (h:WS (B (startD N xs) L) (fun _ L2 => (L <+: L2 → Q .non L) ∧ Q .non L2) (fun d L2 => (L <+: L2 → d.noRef = true → Q d L) ∧ Q d L2) (fun _ _ => False) (fun _ _ => False)):W2 (runG B N n xs L) Q:=by
 obtain ⟨o,e,q⟩:=h
 cases o with
 | next ρ L2 =>
  by_cases c:L2.take L.length = L
  ·exact ⟨_,_,by unfold runG; rw [if_pos hn,e]; simp only; rw [if_pos c],q.1 (pre_of_take c)⟩
  ·exact ⟨_,_,by unfold runG; rw [if_pos hn,e]; simp only; rw [if_neg c],q.2⟩
 | ret d L2 =>
  by_cases c:d.noRef = true ∧ L2.take L.length = L
  ·exact ⟨_,_,by unfold runG; rw [if_pos hn,e]; simp only; rw [if_pos c],q.1 (pre_of_take c.2) c.1⟩
  ·exact ⟨_,_,by unfold runG; rw [if_pos hn,e]; simp only; rw [if_neg c],q.2⟩
 | brk _ _ => exact q.elim
 | cont _ _ => exact q.elim
end
section
variable {Q:D → Sto → Prop} {QI:List D → (Sto → Bool) → Sto → Prop} {ρ:Fm} {L:Sto} {nx:Fm → Sto → Prop} {rt:D → Sto → Prop} {bk ct:Fm → Sto → Prop} {fo fi fv f:EF} {a:AF} {k ep:Nat} {kvs:List (NK × D)} {kk:NK} {y d:D}
theorem w_dNewN (h:Q (.ref L.length) (L ++ [.dt [] 0])):W2 (dNewN ρ L) Q:=⟨_,_,rfl,h⟩
theorem ty_dt (e:L[k]? = some (.dt kvs ep)) {p:Prop} (h:p):TyIs "dict" (.ref k) L p:=⟨by simp [tyD,e],h⟩
theorem g_dt (e:L[k]? = some (.dt kvs ep)) (ek:dNK y = some kk) (el:lookN kvs kk = some d) (h:Q d L):W2 (gDt (.ref k) y L) Q:=⟨d,L,by simp only [gDt,e,ek,Option.bind_some,el,Option.map_some],h⟩
theorem g_inDt {neg:Bool} (e:L[k]? = some (.dt kvs ep)) (ek:dNK y = some kk) (h:Q (.bl (neg != (lookN kvs kk).isSome)) L):W2 (gInDt neg y (.ref k) L) Q:=⟨_,L,by simp only [gInDt,e,ek,Option.map_some],h⟩
theorem g_lenDt (e:L[k]? = some (.dt kvs ep)) (h:Q (.int (kvs.length:Int)) L):W2 (gLenD [.ref k] L) Q:=⟨_,L,by simp only [gLenD,e],h⟩
theorem g_listDt (e:L[k]? = some (.dt kvs ep)) (h:Q (.ref L.length) (L ++ [.lst (keysD kvs)])):W2 (gListD [.ref k] L) Q:=⟨_,_,by simp only [gListD,e],h⟩
theorem g_dget (e:L[k]? = some (.dt kvs ep)) (ek:dNK y = some kk) (h:Q ((lookN kvs kk).getD .non) L):W2 (gDGet1 (.ref k) [y] L) Q:=⟨_,L,by simp only [gDGet1,e,ek,Option.map_some],h⟩
theorem g_setdefO {v:D} (e:L[k]? = some (.dt kvs ep)) (ek:dNK y = some kk) (el:lookN kvs kk = some d) (h:Q d L):W2 (gSetDef (.ref k) [y,v] L) Q:=⟨_,L,by simp only [gSetDef,e,ek,Option.bind_some,el],h⟩
theorem g_setdefN {v:D} (e:L[k]? = some (.dt kvs ep)) (ek:dNK y = some kk) (el:lookN kvs kk = none) (hz:kvs.length < 16777216) (h:Q v (L.set k (.dt (putN kvs kk v) (epN kvs kk ep)))):W2 (gSetDef (.ref k) [y,v] L) Q:=⟨_,_,by simp only [gSetDef,e,ek,Option.bind_some,el]; rw [if_pos hz],h⟩
theorem g_extend {i j:Nat} {as bs:List D} (e1:L[i]? = some (.lst as)) (e2:L[j]? = some (.lst bs)) (hz:as.length + bs.length ≤ 16777216) (h:Q .non (L.set i (.lst (as ++ bs)))):W2 (gExtend (.ref i) [.ref j] L) Q:=⟨_,_,by simp only [gExtend,e1,e2]; rw [if_pos hz],h⟩
theorem ws_dput (h:W2 (fv ρ L) fun v L1 => W2 (fo ρ L1) fun o L2 => W2 (fi ρ L2) fun i L3 => W1 (gDPut o i v L3) fun L4 => nx ρ L4):WS (dputF fo fi fv ρ L) nx rt bk ct:=by
 obtain ⟨v,L1,e1,o,L2,e2,i,L3,e3,L4,e4,q⟩:=h
 exact WS.inx (by unfold dputF; rw [e1,Option.bind_some,e2,Option.bind_some,e3,Option.bind_some,e4]; rfl) q
theorem g_dput {v:D} {P:Sto → Prop} (e:L[k]? = some (.dt kvs ep)) (hz:kvs.length < 16777216) (ek:dNK y = some kk) (h:P (L.set k (.dt (putN kvs kk v) (epN kvs kk ep)))):W1 (gDPut (.ref k) y v L) P:=⟨_,by simp only [gDPut,e]; rw [if_pos hz,ek]; rfl,h⟩
noncomputable def DWalk (d:D) (L:Sto) (P:Nat → List (NK × D) → Nat → Prop):Prop:=∃ k kvs ep,d = .ref k ∧ L[k]? = some (.dt kvs ep) ∧ P k kvs ep
theorem dwalk {P:Nat → List (NK × D) → Nat → Prop} (e:L[k]? = some (.dt kvs ep)) (h:P k kvs ep):DWalk (.ref k) L P:=⟨k,kvs,ep,rfl,e,h⟩
theorem wi_keys (h:W2 (f ρ L) fun d L1 => DWalk d L1 fun k kvs ep => QI (keysD kvs) (sameKeys k kvs ep) L1):WI (iKeyF f ρ L) QI:=by
 obtain ⟨d,L1,e1,k,kvs,ep,rfl,e2,q⟩:=h
 exact ⟨_,_,L1,by unfold iKeyF; rw [e1,Option.bind_some]; simp only [e2],q⟩
theorem wi_pairs (h:W2 (f ρ L) fun d L1 => DWalk d L1 fun k kvs ep => QI (pairsD kvs) (fun L' => decide (L'[k]? = some (.dt kvs ep))) L1):WI (iPairF f ρ L) QI:=by
 obtain ⟨d,L1,e1,k,kvs,ep,rfl,e2,q⟩:=h
 exact ⟨_,_,L1,by unfold iPairF; rw [e1,Option.bind_some]; simp only [e2],q⟩
noncomputable def LWalk (ds:List D) (L:Sto) (P:Nat → List D → Prop):Prop:=∃ k xs,ds = [.ref k] ∧ L[k]? = some (.lst xs) ∧ P k xs
theorem lwalk {P:Nat → List D → Prop} {xs:List D} (e:L[k]? = some (.lst xs)) (h:P k xs):LWalk [.ref k] L P:=⟨k,xs,rfl,e,h⟩
theorem wi_enumL (h:W2 (a ρ L) fun ds L1 => LWalk ds L1 fun k xs => QI (enumD xs) (fun L' => decide (L'[k]? = some (.lst xs))) L1):WI (iEnumLF a ρ L) QI:=by
 obtain ⟨ds,L1,e1,k,xs,rfl,e2,q⟩:=h
 exact ⟨_,_,L1,by unfold iEnumLF; rw [e1,Option.bind_some]; simp only [e2],q⟩
noncomputable def ZWalk (n:Nat) (ds:List D) (L:Sto) (P:List D → List (List D) → Prop):Prop:=∃ ys yss,seqs ds L = some (ys :: yss) ∧ ((yss.all fun zs => zs.length == ys.length) = true ∧ yss.length < 100 ∧ yss.length + 1 = n) ∧ P ys yss
theorem wi_zip {n:Nat} (h:W2 (a ρ L) fun ds L1 => ZWalk n ds L1 fun ys yss => QI (zipD ys.length (ys :: yss)) (fun L' => decide (seqs ds L' = some (ys :: yss))) L1):WI (iZipF n a ρ L) QI:=by
 obtain ⟨ds,L1,e1,ys,yss,e2,hc,q⟩:=h
 exact ⟨_,_,L1,by unfold iZipF; rw [e1,Option.bind_some]; simp only [e2]; rw [if_pos hc],q⟩
theorem g_sort0 (e:L[k]? = some (.lst [])) (h:Q (.ref L.length) (L ++ [.lst []])):W2 (gSort0 [.ref k] L) Q:=⟨_,_,by simp only [gSort0,e],h⟩
theorem aug_mk {cs:List Str} {c fl:Str} {g:Int → Int → Int} {fs:List (Str × D)} {i:Int} (e:L[k]? = some (.ins c fs)) (hc:c ∈ cs) (hl:fs.lookup fl = some (.int i))
  (h:W2 (fv ρ L) fun y L2 => ∃ j fs',y = .int j ∧ L2[k]? = some (.ins c fs') ∧ fs'.length < 1000 ∧ nx ρ (L2.set k (.ins c (putD fl (.int (g i j)) fs')))):AugP cs fl g fv ρ nx (.ref k) L:=⟨k,c,fs,i,rfl,e,hc,hl,h⟩
end
end L3
set_option maxHeartbeats 8000000
namespace L3
open PySem PySem.Spec PyProof.Rows L2
noncomputable def c_KINDS:D:=D.tup [D.str "small",D.str "great",D.str "figure",D.str "mark",D.str "any"]
noncomputable def c_SIGNS_BY_KIND:D:=D.tup [D.tup [D.str "small",D.str "abcdefghijklmnopqrstuvwxyz"],D.tup [D.str "great",D.str "ABCDEFGHIJKLMNOPQRSTUVWXYZ"],D.tup [D.str "figure",D.str "0123456789"],D.tup [D.str "mark",D.str " -.,/"]]
noncomputable def c_NTHS:D:=D.tup [D.int (1),D.int (2),D.int (-1),D.int (-2)]
noncomputable def c_EDGES:D:=D.tup [D.str "ahead",D.str "behind"]
noncomputable def c_DEEDS:D:=D.tup [D.str "copy",D.str "raise",D.str "sink"]
noncomputable def c_ROW_LENGTHS:D:=D.tup [D.int (1),D.int (2),D.int (3)]
noncomputable def c_END:D:=D.int (0)
noncomputable def c_NOWHERE:D:=D.int (1)
noncomputable def N_z31:List Str:=["_law_cell_here","_law_most","_law_signs","_law_some","_law_size","_law_text_here","_law_k"]
noncomputable def B_z31:SF :=
 (seqF (setF 2 (cst (.str "abcdefghijklmnopqrstuvwxyzABCDEFGHIJKLMNOPQRSTUVWXYZ0123456789 -.,/")))
 (seqF (setF 3 (bin2 gIx (lstV (consA (cst (.str "abAB12 -")) (consA (cst (.str "aB 1")) (consA (cst (.str "aab")) (consA (var 2) nilA))))) (bin2 gMod (bin2 gFdiv (var 0) (cst (.int 32))) (cst (.int 4)))))
 (seqF (setF 4 (bin2 gMod (var 0) (bin2 gAdd (var 1) (cst (.int 1)))))
 (seqF (setF 0 (bin2 gFdiv (var 0) (cst (.int 128))))
 (seqF (setF 5 (cst (.str "")))
 (seqF (forF (iRng1F (consA (var 4) nilA)) (gNameF 6) (seqF (setF 5 (bin2 gAdd (var 5) (bin2 gIx (var 3) (bin2 gMod (var 0) (callB gLen (consA (var 3) nilA))))))
 (setF 0 (bin2 gFdiv (var 0) (callB gLen (consA (var 3) nilA))))))
 (retF (var 5))))))))
noncomputable def G_z31:GL:=runG (B_z31) N_z31 2
noncomputable def N_z22:List Str:=["_law_cell_here","_law_words_here","_law_number","_law_part","_law_k","_law_word"]
noncomputable def B_z22 (G_z31:GL):SF :=
 (seqF (setF 1 (lstV nilA))
 (seqF (setF 2 (bin2 gMod (var 0) (cst (.int 5))))
 (seqF (ifF (asT (bin2 gEq (bin2 gMod (bin2 gFdiv (var 0) (cst (.int 5))) (cst (.int 4))) (cst (.int 1)))) (setF 2 (bin2 gAdd (cst (.int 5)) (bin2 gMod (var 0) (cst (.int 2))))) nextF)
 (seqF (setF 3 (bin2 gFdiv (var 0) (cst (.int 20))))
 (seqF (forF (iRng1F (consA (var 2) nilA)) (gNameF 4) (seqF (setF 5 (callB G_z31 (consA (var 3) (consA (bin2 gIx (lstV (consA (cst (.int 2)) (consA (cst (.int 3)) (consA (cst (.int 3)) (consA (cst (.int 8)) nilA))))) (bin2 gMod (bin2 gFdiv (var 3) (cst (.int 7))) (cst (.int 4)))) nilA))))
 (seqF (ifF (asT (bin2 gGt (var 2) (cst (.int 4)))) (setF 5 (slF (var 5) noO (asO (cst (.int 2))))) nextF)
 (seqF (ifF (asT (bin2 gEq (var 5) (cst (.str "")))) (setF 5 (cst (.str "-"))) nextF)
 (seqF (ifF (asT (bin2 (gInN true) (var 5) (var 1))) (exprF (mthF "list" gAppend (var 1) (consA (var 5) nilA))) nextF)
 (setF 3 (bin2 gFdiv (var 3) (bin2 gPow (cst (.int 10)) (cst (.int 6))))))))))
 (retF (var 1)))))))
noncomputable def G_z22:GL:=runG (B_z22 G_z31) N_z22 1
noncomputable def N_z16:List Str:=["groups","members","answers","pieces","number","piece"]
noncomputable def B_z16:SF :=
 (seqF (setF 1 dNewN)
 (seqF (forF (iPairF (var 0)) (gTupF 2 (gConsF (gNameF 2) (gConsF (gNameF 3) gNilF))) (forF (iEnumLF (consA (var 3) nilA)) (gTupF 2 (gConsF (gNameF 4) (gConsF (gNameF 5) gNilF))) (dputF (var 1) (var 5) (tupV (consA (var 2) (consA (var 4) nilA))))))
 (retF (var 1))))
noncomputable def G_z16:GL:=runG (B_z16) N_z16 1
noncomputable def N_z20:List Str:=["self","ways"]
noncomputable def B_z20:SF :=
 (seqF (putOF ["Node"] "ways" (var 0) (var 1))
 (putOF ["Node"] "arms" (var 0) dNewN))
noncomputable def G_z20:GL:=runG (B_z20) N_z20 2
noncomputable def N_z15:List Str:=["self","words","groups"]
noncomputable def B_z15 (G_z16:GL) (G_z20:GL):SF :=
 (seqF (putOF ["Table"] "words" (var 0) (var 1))
 (seqF (putOF ["Table"] "groups" (var 0) (var 2))
 (seqF (putOF ["Table"] "members" (var 0) (callB G_z16 (consA (var 2) nilA)))
 (seqF (putOF ["Table"] "nodes" (var 0) (lstV (consA (mkO "Node" G_z20 (consA (cst (.int 1)) nilA)) (consA (mkO "Node" G_z20 (consA (cst (.int 0)) nilA)) nilA))))
 (seqF (putOF ["Table"] "node_numbers" (var 0) dNewN)
 (putOF ["Table"] "roots" (var 0) (lstV nilA)))))))
noncomputable def G_z15:GL:=runG (B_z15 G_z16 G_z20) N_z15 3
noncomputable def N_z13:List Str:=["places","kind","nth","edge"]
noncomputable def B_z13:SF :=
 (seqF (setF 0 (lstV nilA))
 (seqF (forF (iAnyF (cst c_KINDS)) (gNameF 1) (forF (iAnyF (cst c_NTHS)) (gNameF 2) (forF (iAnyF (cst c_EDGES)) (gNameF 3) (exprF (mthF "list" gAppend (var 0) (consA (tupV (consA (var 1) (consA (var 2) (consA (var 3) nilA)))) nilA))))))
 (retF (var 0))))
noncomputable def G_z13:GL:=runG (B_z13) N_z13 0
noncomputable def N_z33:List Str:=["sign","kind","signs"]
noncomputable def B_z33:SF :=
 (seqF (forF (iAnyF (cst c_SIGNS_BY_KIND)) (gTupF 2 (gConsF (gNameF 1) (gConsF (gNameF 2) gNilF))) (ifF (asT (bin2 (gInN false) (var 0) (var 2))) (retF (var 1)) nextF))
 (retF (cst .non)))
noncomputable def G_z33:GL:=runG (B_z33) N_z33 1
noncomputable def N_z36:List Str:=["kind","sign"]
noncomputable def B_z36 (G_z33:GL):SF :=
 (retF (orV (bin2 gEq (var 0) (cst (.str "any"))) (bin2 gEq (callB G_z33 (consA (var 1) nilA)) (var 0))))
noncomputable def G_z36:GL:=runG (B_z36 G_z33) N_z36 2
noncomputable def N_z38:List Str:=["place","text","kind","nth","numbers","number"]
noncomputable def B_z38 (G_z36:GL):SF :=
 (seqF (setF 2 (bin2 gIx (var 0) (cst (.int 0))))
 (seqF (setF 3 (bin2 gIx (var 0) (cst (.int 1))))
 (seqF (setF 4 (compF (iEnumF (consA (var 1) nilA)) 2 [2] (gTupF 2 (gConsF (gNameF 0) (gConsF (gNameF 1) gNilF))) (asT (callB G_z36 (consA (var 2) (consA (var 1) nilA)))) (var 0)))
 (seqF (ifF (asT (bin2 gLt (callB gLen (consA (var 4) nilA)) (callB gAbs (consA (var 3) nilA)))) (retF (cst .non)) nextF)
 (seqF (setF 5 (ifV (asT (bin2 gGt (var 3) (cst (.int 0)))) (bin2 gIx (var 4) (bin2 gSub (var 3) (cst (.int 1)))) (bin2 gIx (var 4) (var 3))))
 (retF (ifV (asT (bin2 gEq (bin2 gIx (var 0) (cst (.int 2))) (cst (.str "ahead")))) (var 5) (bin2 gAdd (var 5) (cst (.int 1))))))))))
noncomputable def G_z38:GL:=runG (B_z38 G_z36) N_z38 2
noncomputable def N_z1:List Str:=["texts","places","place","spots"]
noncomputable def B_z1 (G_z13:GL) (G_z38:GL):SF :=
 (seqF (setF 1 dNewN)
 (seqF (forF (iAnyF (callB G_z13 nilA)) (gNameF 2) (seqF (setF 3 (callB gTuple (consA (compF (iAnyF (var 0)) 1 [2] (gNameF 0) trueT (callB G_z38 (consA (var 1) (consA (var 0) nilA)))) nilA)))
 (ifF (asT (bin2 (gInN true) (cst .non) (var 3))) (exprF (mthF "list" gAppend (mthF "dict" gSetDef (var 1) (consA (var 3) (consA (lstV nilA) nilA))) (consA (var 2) nilA))) nextF)))
 (retF (var 1))))
noncomputable def G_z1:GL:=runG (B_z1 G_z13 G_z38) N_z1 1
noncomputable def N_z6:List Str:=["answers","wanted"]
noncomputable def B_z6:SF :=
 (retF (callB gAll (consA (compF (iZipF 2 (consA (var 0) (consA (var 1) nilA))) 2 [] (gTupF 2 (gConsF (gNameF 0) (gConsF (gNameF 1) gNilF))) trueT (bin2 (gInN false) (var 0) (var 1))) nilA)))
noncomputable def G_z6:GL:=runG (B_z6) N_z6 2
noncomputable def N_z5:List Str:=["groups","wanted","answers","pieces"]
noncomputable def B_z5 (G_z6:GL):SF :=
 (ifF (asT (callB G_z6 (consA (var 2) (consA (var 1) nilA)))) (exprF (mthF "list" gExtend (mthF "dict" gSetDef (var 0) (consA (var 2) (consA (lstV nilA) nilA))) (consA (var 3) nilA))) nextF)
noncomputable def G_z5:GL:=runG (B_z5 G_z6) N_z5 4
noncomputable def N_z19:List Str:=["texts","starts","ends","signs","text","start","end"]
noncomputable def B_z19:SF :=
 (seqF (setF 3 (lstV nilA))
 (seqF (forF (iZipF 3 (consA (var 0) (consA (var 1) (consA (var 2) nilA)))) (gTupF 3 (gConsF (gNameF 4) (gConsF (gNameF 5) (gConsF (gNameF 6) gNilF)))) (seqF (ifF (asT (bin2 gGe (var 5) (var 6))) (retF (cst .non)) nextF)
 (exprF (mthF "list" gAppend (var 3) (consA (slF (var 4) (asO (var 5)) (asO (var 6))) nilA)))))
 (retF (var 3))))
noncomputable def G_z19:GL:=runG (B_z19) N_z19 3
noncomputable def N_z2:List Str:=["deed","starts","ends","pieces","start"]
noncomputable def B_z2:SF :=
 (seqF (setF 3 (lstV nilA))
 (seqF (forF (iAnyF (var 1)) (gNameF 4) (exprF (mthF "list" gExtend (var 3) (consA (compF (iAnyF (var 2)) 1 [0,4] (gNameF 0) trueT (tupV (consA (var 1) (consA (var 2) (consA (var 0) nilA))))) nilA))))
 (retF (var 3))))
noncomputable def G_z2:GL:=runG (B_z2) N_z2 3
noncomputable def N_z30:List Str:=["deed","signs"]
noncomputable def B_z30:SF :=
 (seqF (ifF (asT (bin2 gEq (var 0) (cst (.str "copy")))) (retF (var 1)) nextF)
 (retF (ifV (asT (bin2 gEq (var 0) (cst (.str "raise")))) (mthF "str" (gS0s Txt.upper) (var 1) nilA) (mthF "str" (gS0s Txt.lower) (var 1) nilA))))
noncomputable def G_z30:GL:=runG (B_z30) N_z30 2
noncomputable def N_z18:List Str:=["words","texts","wanted","groups","word","places","starts","ends","signs","deed","answers"]
noncomputable def B_z18 (G_z1:GL) (G_z5:GL) (G_z19:GL) (G_z2:GL) (G_z30:GL):SF :=
 (seqF (setF 3 dNewN)
 (seqF (forF (iAnyF (var 0)) (gNameF 4) (exprF (callB G_z5 (consA (var 3) (consA (var 2) (consA (callB gTuple (consA (compF (iAnyF (var 1)) 1 [4] (gNameF 0) trueT (var 1)) nilA)) (consA (lstV (consA (tupV (consA (cst (.str "word")) (consA (var 4) nilA))) nilA)) nilA)))))))
 (seqF (setF 5 (callB G_z1 (consA (var 1) nilA)))
 (seqF (forF (iKeyF (var 5)) (gNameF 6) (forF (iKeyF (var 5)) (gNameF 7) (seqF (setF 8 (callB G_z19 (consA (var 1) (consA (var 6) (consA (var 7) nilA)))))
 (ifF (asT (bin2 gIsNot (var 8) (cst .non))) (forF (iAnyF (cst c_DEEDS)) (gNameF 9) (seqF (setF 10 (callB gTuple (consA (compF (iAnyF (var 8)) 1 [9] (gNameF 0) trueT (callB G_z30 (consA (var 1) (consA (var 0) nilA)))) nilA)))
 (exprF (callB G_z5 (consA (var 3) (consA (var 2) (consA (var 10) (consA (callB G_z2 (consA (var 9) (consA (bin2 gDt (var 5) (var 6)) (consA (bin2 gDt (var 5) (var 7)) nilA)))) nilA)))))))) nextF))))
 (retF (var 3))))))
noncomputable def G_z18:GL:=runG (B_z18 G_z1 G_z5 G_z19 G_z2 G_z30) N_z18 3
noncomputable def N_z3:List Str:=["table","length","rest"]
noncomputable def B_z3:SF :=
 (seqF (ifF (asT (bin2 gEq (var 1) (cst (.int 1)))) (retF (ifV (asT (bin2 (gInDt false) (var 2) (un1 (gFld ["Table"] "groups") (var 0)))) (lstV (consA (var 2) nilA)) (lstV nilA))) nextF)
 (retF (callB gListD (consA (un1 (gFld ["Table"] "groups") (var 0)) nilA))))
noncomputable def G_z3:GL:=runG (B_z3) N_z3 3
noncomputable def N_z10:List Str:=["rest","answers","parts","part","answer"]
noncomputable def B_z10:SF :=
 (seqF (setF 2 (lstV nilA))
 (seqF (forF (iZipF 2 (consA (var 0) (consA (var 1) nilA))) (gTupF 2 (gConsF (gNameF 3) (gConsF (gNameF 4) gNilF))) (seqF (ifF (notT (asT (mthF "str" gStarts (var 3) (consA (var 4) nilA)))) (retF (cst .non)) nextF)
 (exprF (mthF "list" gAppend (var 2) (consA (slF (var 3) (asO (callB gLen (consA (var 4) nilA))) noO) nilA)))))
 (retF (callB gTuple (consA (var 2) nilA)))))
noncomputable def G_z10:GL:=runG (B_z10) N_z10 2
noncomputable def N_z27:List Str:=["table","length","rest","node","answers","behind","number"]
noncomputable def B_z27 (G_z20:GL) (G_z3:GL) (G_z10:GL) (G_z9:GL):SF :=
 (seqF (setF 3 (mkO "Node" G_z20 (consA (cst (.int 0)) nilA)))
 (seqF (forF (iAnyF (callB G_z3 (consA (var 0) (consA (var 1) (consA (var 2) nilA))))) (gNameF 4) (seqF (setF 5 (callB G_z10 (consA (var 2) (consA (var 4) nilA))))
 (ifF (asT (bin2 gIsNot (var 5) (cst .non))) (seqF (setF 6 (callB G_z9 (consA (var 0) (consA (bin2 gSub (var 1) (cst (.int 1))) (consA (var 5) nilA)))))
 (ifF (asT (bin2 gNe (var 6) (cst c_NOWHERE))) (seqF (dputF (un1 (gFld ["Node"] "arms") (var 3)) (var 4) (tupV (consA (un1 (gFld ["Node"] "ways") (var 3)) (consA (var 6) nilA))))
 (augO ["Node"] "ways" (fun i j => i + j) (var 3) (bin2 gMul (callB gLen (consA (bin2 gDt (un1 (gFld ["Table"] "groups") (var 0)) (var 4)) nilA)) (un1 (gFld ["Node"] "ways") (bin2 gIx (un1 (gFld ["Table"] "nodes") (var 0)) (var 6)))))) nextF)) nextF)))
 (seqF (ifF (asT (bin2 gEq (un1 (gFld ["Node"] "ways") (var 3)) (cst (.int 0)))) (retF (cst c_NOWHERE)) nextF)
 (seqF (exprF (mthF "list" gAppend (un1 (gFld ["Table"] "nodes") (var 0)) (consA (var 3) nilA)))
 (retF (bin2 gSub (callB gLen (consA (un1 (gFld ["Table"] "nodes") (var 0)) nilA)) (cst (.int 1))))))))
noncomputable def GI_z27 (G_z9:GL):GL:=runG (B_z27 G_z20 G_z3 G_z10 G_z9) N_z27 3
noncomputable def N_z9:List Str:=["table","length","rest","key"]
noncomputable def B_z9 (G_z27:GL):SF :=
 (seqF (ifF (asT (bin2 gEq (var 1) (cst (.int 0)))) (retF (cst c_END)) nextF)
 (seqF (setF 3 (tupV (consA (var 1) (consA (var 2) nilA))))
 (seqF (ifF (asT (bin2 (gInDt true) (var 3) (un1 (gFld ["Table"] "node_numbers") (var 0)))) (dputF (un1 (gFld ["Table"] "node_numbers") (var 0)) (var 3) (callB G_z27 (consA (var 0) (consA (var 1) (consA (var 2) nilA))))) nextF)
 (retF (bin2 gDt (un1 (gFld ["Table"] "node_numbers") (var 0)) (var 3))))))
noncomputable def GN_z9:Nat → GL
 | 0 => fun _ _ => none
 | n + 1 => runG (B_z9 (GI_z27 (GN_z9 n))) N_z9 3
noncomputable def G_z9:GL:=GN_z9 5
noncomputable def N_z26:List Str:=["words","examples","ordered","texts","wanted","table"]
noncomputable def B_z26 (G_z15:GL) (G_z18:GL) (G_z9:GL):SF :=
 (seqF (setF 2 (callB gSort0 (consA (var 1) nilA)))
 (seqF (setF 3 (compF (iAnyF (var 2)) 1 [] (gNameF 0) trueT (bin2 gIx (var 0) (cst (.int 0)))))
 (seqF (setF 4 (callB gTuple (consA (compF (iAnyF (var 2)) 1 [] (gNameF 0) trueT (bin2 gIx (var 0) (cst (.int 1)))) nilA)))
 (seqF (setF 5 (mkO "Table" G_z15 (consA (callB gTuple (consA (var 0) nilA)) (consA (callB G_z18 (consA (var 0) (consA (var 3) (consA (var 4) nilA)))) nilA))))
 (seqF (exprF (mthF "list" gExtend (un1 (gFld ["Table"] "roots") (var 5)) (consA (compF (iAnyF (cst c_ROW_LENGTHS)) 1 [5,4] (gNameF 0) trueT (callB G_z9 (consA (var 1) (consA (var 0) (consA (var 2) nilA))))) nilA)))
 (retF (var 5)))))))
noncomputable def G_z26:GL:=runG (B_z26 G_z15 G_z18 G_z9) N_z26 2
noncomputable def N_z37:List Str:=["table"]
noncomputable def B_z37:SF :=
 (retF (callB gSum (consA (compF (iAnyF (un1 (gFld ["Table"] "roots") (var 0))) 1 [0] (gNameF 0) trueT (un1 (gFld ["Node"] "ways") (bin2 gIx (un1 (gFld ["Table"] "nodes") (var 1)) (var 0)))) nilA)))
noncomputable def G_z37:GL:=runG (B_z37) N_z37 1
noncomputable def N_z8:List Str:=["length","thing"]
noncomputable def B_z8:SF :=
 (retF (andV (callB gInst (consA (var 1) (consA (cst (.ty "tuple")) nilA))) (bin2 gEq (callB gLen (consA (var 1) nilA)) (var 0))))
noncomputable def G_z8:GL:=runG (B_z8) N_z8 2
noncomputable def N_z4:List Str:=["thing","words"]
noncomputable def B_z4:SF :=
 (retF (andV (callB gInst (consA (var 0) (consA (cst (.ty "str")) nilA))) (bin2 (gInN false) (var 0) (var 1))))
noncomputable def G_z4:GL:=runG (B_z4) N_z4 2
noncomputable def N_z35:List Str:=["thing"]
noncomputable def B_z35:SF :=
 (retF (andV (callB gInst (consA (var 0) (consA (cst (.ty "int")) nilA))) (andV (notV (callB gInst (consA (var 0) (consA (cst (.ty "bool")) nilA)))) (bin2 (gInN false) (var 0) (cst c_NTHS)))))
noncomputable def G_z35:GL:=runG (B_z35) N_z35 1
noncomputable def N_z25:List Str:=["thing"]
noncomputable def B_z25 (G_z4:GL) (G_z35:GL):SF :=
 (seqF (ifF (orT (notT (asT (callB gInst (consA (var 0) (consA (cst (.ty "tuple")) nilA))))) (asT (bin2 gNe (callB gLen (consA (var 0) nilA)) (cst (.int 3))))) (retF (cst (.bl false))) nextF)
 (retF (andV (callB G_z4 (consA (bin2 gIx (var 0) (cst (.int 0))) (consA (cst c_KINDS) nilA))) (andV (callB G_z35 (consA (bin2 gIx (var 0) (cst (.int 1))) nilA)) (callB G_z4 (consA (bin2 gIx (var 0) (cst (.int 2))) (consA (cst c_EDGES) nilA)))))))
noncomputable def G_z25:GL:=runG (B_z25 G_z4 G_z35) N_z25 1
noncomputable def N_z17:List Str:=["thing"]
noncomputable def B_z17 (G_z8:GL) (G_z4:GL) (G_z25:GL):SF :=
 (retF (andV (callB G_z8 (consA (cst (.int 3)) (consA (var 0) nilA))) (andV (callB G_z4 (consA (bin2 gIx (var 0) (cst (.int 0))) (consA (cst c_DEEDS) nilA))) (andV (callB G_z25 (consA (bin2 gIx (var 0) (cst (.int 1))) nilA)) (callB G_z25 (consA (bin2 gIx (var 0) (cst (.int 2))) nilA))))))
noncomputable def G_z17:GL:=runG (B_z17 G_z8 G_z4 G_z25) N_z17 1
noncomputable def N_z11:List Str:=["table","piece"]
noncomputable def B_z11 (G_z8:GL) (G_z4:GL) (G_z17:GL):SF :=
 (seqF (ifF (asT (callB G_z8 (consA (cst (.int 2)) (consA (var 1) nilA)))) (retF (andV (callB G_z4 (consA (bin2 gIx (var 1) (cst (.int 0))) (consA (tupV (consA (cst (.str "word")) nilA)) nilA))) (callB G_z4 (consA (bin2 gIx (var 1) (cst (.int 1))) (consA (un1 (gFld ["Table"] "words") (var 0)) nilA))))) nextF)
 (retF (callB G_z17 (consA (var 1) nilA))))
noncomputable def G_z11:GL:=runG (B_z11 G_z8 G_z4 G_z17) N_z11 2
noncomputable def N_z0:List Str:=["table","row"]
noncomputable def B_z0 (G_z11:GL):SF :=
 (seqF (ifF (orT (notT (asT (callB gInst (consA (var 1) (consA (cst (.ty "tuple")) nilA))))) (asT (bin2 (gInN true) (callB gLen (consA (var 1) nilA)) (cst c_ROW_LENGTHS)))) (retF (cst (.bl false))) nextF)
 (retF (callB gAll (consA (compF (iAnyF (var 1)) 1 [0] (gNameF 0) trueT (callB G_z11 (consA (var 1) (consA (var 0) nilA)))) nilA))))
noncomputable def G_z0:GL:=runG (B_z0 G_z11) N_z0 2
noncomputable def N_z14:List Str:=["table","row","shorter","number","node","piece","member","arm"]
noncomputable def B_z14 (G_z0:GL):SF :=
 (seqF (ifF (notT (asT (callB G_z0 (consA (var 0) (consA (var 1) nilA))))) (retF (cst .non)) nextF)
 (seqF (setF 2 (bin2 gSub (callB gLen (consA (var 1) nilA)) (cst (.int 1))))
 (seqF (setF 3 (callB gSum (consA (compF (iAnyF (slF (un1 (gFld ["Table"] "roots") (var 0)) noO (asO (var 2)))) 1 [0] (gNameF 0) trueT (un1 (gFld ["Node"] "ways") (bin2 gIx (un1 (gFld ["Table"] "nodes") (var 1)) (var 0)))) nilA)))
 (seqF (setF 4 (bin2 gIx (un1 (gFld ["Table"] "nodes") (var 0)) (bin2 gIx (un1 (gFld ["Table"] "roots") (var 0)) (var 2))))
 (seqF (forF (iAnyF (var 1)) (gNameF 5) (seqF (setF 6 (mthF "dict" gDGet1 (un1 (gFld ["Table"] "members") (var 0)) (consA (var 5) nilA)))
 (seqF (ifF (orT (asT (bin2 gIs (var 6) (cst .non))) (asT (bin2 (gInDt true) (bin2 gIx (var 6) (cst (.int 0))) (un1 (gFld ["Node"] "arms") (var 4))))) (retF (cst .non)) nextF)
 (seqF (setF 7 (bin2 gDt (un1 (gFld ["Node"] "arms") (var 4)) (bin2 gIx (var 6) (cst (.int 0)))))
 (seqF (setF 4 (bin2 gIx (un1 (gFld ["Table"] "nodes") (var 0)) (bin2 gIx (var 7) (cst (.int 1)))))
 (augN 3 (fun i j => i + j) (bin2 gAdd (bin2 gIx (var 7) (cst (.int 0))) (bin2 gMul (bin2 gIx (var 6) (cst (.int 1))) (un1 (gFld ["Node"] "ways") (var 4))))))))))
 (retF (var 3)))))))
noncomputable def G_z14:GL:=runG (B_z14 G_z0) N_z14 2
noncomputable def N_z32:List Str:=["_law_script","_law_k","_law_number"]
noncomputable def B_z32:SF :=
 (seqF (ifF (asT (bin2 gLt (var 1) (callB gLen (consA (var 0) nilA)))) (retF (bin2 gMod (bin2 gMul (bin2 gAdd (bin2 gIx (var 0) (var 1)) (cst (.int 7919))) (cst (.int 2718281828459045235360287471352662497757))) (bin2 gPow (cst (.int 10)) (cst (.int 40))))) nextF)
 (seqF (setF 2 (bin2 gAdd (bin2 gMul (bin2 gMul (var 1) (var 1)) (cst (.int 7919))) (cst (.int 5))))
 (seqF (ifF (asT (bin2 gGt (callB gLen (consA (var 0) nilA)) (cst (.int 0)))) (setF 2 (bin2 gAdd (var 2) (bin2 gMul (bin2 gMod (bin2 gIx (var 0) (bin2 gMod (bin2 gMul (var 1) (cst (.int 7))) (callB gLen (consA (var 0) nilA)))) (bin2 gPow (cst (.int 10)) (cst (.int 40)))) (cst (.int 48271))))) nextF)
 (retF (bin2 gMod (bin2 gMul (bin2 gMod (bin2 gMul (var 2) (var 2)) (cst (.int 2147483629))) (cst (.int 2718281828459045235360287471352662497757))) (bin2 gPow (cst (.int 10)) (cst (.int 40))))))))
noncomputable def G_z32:GL:=runG (B_z32) N_z32 2
noncomputable def N_z12:List Str:=["node","number","found","answers","arm"]
noncomputable def B_z12:SF :=
 (seqF (setF 2 (cst .non))
 (seqF (forF (iPairF (un1 (gFld ["Node"] "arms") (var 0))) (gTupF 2 (gConsF (gNameF 3) (gConsF (gNameF 4) gNilF))) (seqF (ifF (asT (bin2 gGt (bin2 gIx (var 4) (cst (.int 0))) (var 1))) brkF nextF)
 (setF 2 (var 3))))
 (retF (var 2))))
noncomputable def G_z12:GL:=runG (B_z12) N_z12 2
noncomputable def N_z29:List Str:=["table","root","number","pieces","node","answers","arm","behind","within"]
noncomputable def B_z29 (G_z12:GL):SF :=
 (seqF (setF 3 (lstV nilA))
 (seqF (setF 4 (bin2 gIx (un1 (gFld ["Table"] "nodes") (var 0)) (var 1)))
 (seqF (whileF (asT (bin2 gGt (callB gLenD (consA (un1 (gFld ["Node"] "arms") (var 4)) nilA)) (cst (.int 0)))) (seqF (setF 5 (callB G_z12 (consA (var 4) (consA (var 2) nilA))))
 (seqF (setF 6 (bin2 gDt (un1 (gFld ["Node"] "arms") (var 4)) (var 5)))
 (seqF (setF 7 (bin2 gIx (un1 (gFld ["Table"] "nodes") (var 0)) (bin2 gIx (var 6) (cst (.int 1)))))
 (seqF (setF 8 (bin2 gSub (var 2) (bin2 gIx (var 6) (cst (.int 0)))))
 (seqF (exprF (mthF "list" gAppend (var 3) (consA (bin2 gIx (bin2 gDt (un1 (gFld ["Table"] "groups") (var 0)) (var 5)) (bin2 gFdiv (var 8) (un1 (gFld ["Node"] "ways") (var 7)))) nilA)))
 (seqF (setF 2 (bin2 gMod (var 8) (un1 (gFld ["Node"] "ways") (var 7))))
 (setF 4 (var 7)))))))))
 (retF (callB gTuple (consA (var 3) nilA))))))
noncomputable def G_z29:GL:=runG (B_z29 G_z12) N_z29 3
noncomputable def N_z34:List Str:=["table","number","root","ways"]
noncomputable def B_z34 (G_z29:GL):SF :=
 (seqF (ifF (asT (bin2 gLt (var 1) (cst (.int 0)))) neverF nextF)
 (seqF (forF (iAnyF (un1 (gFld ["Table"] "roots") (var 0))) (gNameF 2) (seqF (setF 3 (un1 (gFld ["Node"] "ways") (bin2 gIx (un1 (gFld ["Table"] "nodes") (var 0)) (var 2))))
 (seqF (ifF (asT (bin2 gLt (var 1) (var 3))) (retF (callB G_z29 (consA (var 0) (consA (var 2) (consA (var 1) nilA))))) nextF)
 (augN 1 (fun i j => i - j) (var 3)))))
 neverF))
noncomputable def G_z34:GL:=runG (B_z34 G_z29) N_z34 2
noncomputable def BX_z34 (G_z29:GL):SX :=
 (seqX (ifF (asT (bin2 gLt (var 1) (cst (.int 0)))) neverF nextF) (ifX (asT (bin2 gLt (var 1) (cst (.int 0)))) (raiseX "NoNumber") noX)
 (seqX (forF (iAnyF (un1 (gFld ["Table"] "roots") (var 0))) (gNameF 2) (seqF (setF 3 (un1 (gFld ["Node"] "ways") (bin2 gIx (un1 (gFld ["Table"] "nodes") (var 0)) (var 2))))
 (seqF (ifF (asT (bin2 gLt (var 1) (var 3))) (retF (callB G_z29 (consA (var 0) (consA (var 2) (consA (var 1) nilA))))) nextF)
 (augN 1 (fun i j => i - j) (var 3))))) noX
 (raiseX "NoNumber")))
noncomputable def GX_z34:GXL:=runX (BX_z34 G_z29) N_z34 2
noncomputable def N_z23:List Str:=["_law_found"]
noncomputable def B_z23:SF :=
 (retF (andV (callB gInst (consA (var 0) (consA (cst (.ty "int")) nilA))) (notV (callB gInst (consA (var 0) (consA (cst (.ty "bool")) nilA))))))
noncomputable def G_z23:GL:=runG (B_z23) N_z23 1
noncomputable def N_z28:List Str:=["_law_cell_here","_law_kind"]
noncomputable def B_z28:SF :=
 (seqF (setF 1 (bin2 gIx (lstV (consA (cst (.str "small")) (consA (cst (.str "great")) (consA (cst (.str "figure")) (consA (cst (.str "mark")) (consA (cst (.str "any")) nilA)))))) (bin2 gMod (var 0) (cst (.int 5)))))
 (retF (tupV (consA (var 1) (consA (bin2 gIx (lstV (consA (cst (.int 1)) (consA (cst (.int 2)) (consA (un1 gNeg (cst (.int 1))) (consA (un1 gNeg (cst (.int 2))) nilA))))) (bin2 gMod (bin2 gFdiv (var 0) (cst (.int 5))) (cst (.int 4)))) (consA (bin2 gIx (lstV (consA (cst (.str "ahead")) (consA (cst (.str "behind")) nilA))) (bin2 gMod (bin2 gFdiv (var 0) (cst (.int 20))) (cst (.int 2)))) nilA))))))
noncomputable def G_z28:GL:=runG (B_z28) N_z28 1
noncomputable def N_z24:List Str:=["_law_cell_here","_law_words_here","_law_deed"]
noncomputable def B_z24 (G_z28:GL):SF :=
 (seqF (ifF (andT (asT (bin2 gEq (bin2 gMod (var 0) (cst (.int 7))) (cst (.int 0)))) (asT (bin2 gGt (callB gLen (consA (var 1) nilA)) (cst (.int 0))))) (retF (tupV (consA (cst (.str "word")) (consA (bin2 gIx (var 1) (bin2 gMod (bin2 gFdiv (var 0) (cst (.int 7))) (callB gLen (consA (var 1) nilA)))) nilA)))) nextF)
 (seqF (setF 2 (bin2 gIx (lstV (consA (cst (.str "copy")) (consA (cst (.str "raise")) (consA (cst (.str "sink")) (consA (cst (.str "copy")) nilA))))) (bin2 gMod (bin2 gFdiv (var 0) (cst (.int 7))) (cst (.int 4)))))
 (retF (tupV (consA (var 2) (consA (callB G_z28 (consA (bin2 gFdiv (var 0) (cst (.int 28))) nilA)) (consA (callB G_z28 (consA (bin2 gFdiv (var 0) (cst (.int 1120))) nilA)) nilA)))))))
noncomputable def G_z24:GL:=runG (B_z24 G_z28) N_z24 2
noncomputable def N_z7:List Str:=["_law_thing"]
noncomputable def B_z7:SF :=
 (seqF (ifF (orT (notT (asT (callB gInst (consA (var 0) (consA (cst (.ty "tuple")) nilA))))) (asT (bin2 gNe (callB gLen (consA (var 0) nilA)) (cst (.int 3))))) (retF (cst (.bl false))) nextF)
 (seqF (ifF (orT (notT (asT (callB gInst (consA (bin2 gIx (var 0) (cst (.int 1))) (consA (cst (.ty "int")) nilA))))) (orT (asT (callB gInst (consA (bin2 gIx (var 0) (cst (.int 1))) (consA (cst (.ty "bool")) nilA)))) (asT (bin2 (gInN true) (bin2 gIx (var 0) (cst (.int 1))) (tupV (consA (cst (.int 1)) (consA (cst (.int 2)) (consA (un1 gNeg (cst (.int 1))) (consA (un1 gNeg (cst (.int 2))) nilA))))))))) (retF (cst (.bl false))) nextF)
 (seqF (ifF (orT (notT (asT (callB gInst (consA (bin2 gIx (var 0) (cst (.int 0))) (consA (cst (.ty "str")) nilA))))) (notT (asT (callB gInst (consA (bin2 gIx (var 0) (cst (.int 2))) (consA (cst (.ty "str")) nilA)))))) (retF (cst (.bl false))) nextF)
 (retF (andV (bin2 (gInN false) (bin2 gIx (var 0) (cst (.int 0))) (tupV (consA (cst (.str "small")) (consA (cst (.str "great")) (consA (cst (.str "figure")) (consA (cst (.str "mark")) (consA (cst (.str "any")) nilA))))))) (bin2 (gInN false) (bin2 gIx (var 0) (cst (.int 2))) (tupV (consA (cst (.str "ahead")) (consA (cst (.str "behind")) nilA)))))))))
noncomputable def G_z7:GL:=runG (B_z7) N_z7 1
noncomputable def N_z21:List Str:=["_law_thing","_law_words_here","_law_piece_here"]
noncomputable def B_z21 (G_z7:GL):SF :=
 (seqF (ifF (orT (notT (asT (callB gInst (consA (var 0) (consA (cst (.ty "tuple")) nilA))))) (notT (asT (chainV gLe gLe (cst (.int 1)) (callB gLen (consA (var 0) nilA)) (cst (.int 3)))))) (retF (cst (.bl false))) nextF)
 (seqF (forF (iAnyF (var 0)) (gNameF 2) (seqF (ifF (orT (notT (asT (callB gInst (consA (var 2) (consA (cst (.ty "tuple")) nilA))))) (orT (asT (bin2 gLt (callB gLen (consA (var 2) nilA)) (cst (.int 2)))) (notT (asT (callB gInst (consA (bin2 gIx (var 2) (cst (.int 0))) (consA (cst (.ty "str")) nilA))))))) (retF (cst (.bl false))) nextF)
 (ifF (asT (bin2 gEq (bin2 gIx (var 2) (cst (.int 0))) (cst (.str "word")))) (ifF (orT (asT (bin2 gNe (callB gLen (consA (var 2) nilA)) (cst (.int 2)))) (orT (notT (asT (callB gInst (consA (bin2 gIx (var 2) (cst (.int 1))) (consA (cst (.ty "str")) nilA))))) (asT (bin2 (gInN true) (bin2 gIx (var 2) (cst (.int 1))) (var 1))))) (retF (cst (.bl false))) nextF) (ifF (orT (asT (bin2 gNe (callB gLen (consA (var 2) nilA)) (cst (.int 3)))) (asT (bin2 (gInN true) (bin2 gIx (var 2) (cst (.int 0))) (tupV (consA (cst (.str "copy")) (consA (cst (.str "raise")) (consA (cst (.str "sink")) nilA))))))) (retF (cst (.bl false))) (ifF (orT (notT (asT (callB G_z7 (consA (bin2 gIx (var 2) (cst (.int 1))) nilA)))) (notT (asT (callB G_z7 (consA (bin2 gIx (var 2) (cst (.int 2))) nilA))))) (retF (cst (.bl false))) nextF)))))
 (retF (cst (.bl true)))))
noncomputable def G_z21:GL:=runG (B_z21 G_z7) N_z21 2
noncomputable def N_z39:List Str:=["_law_script","_law_words_here","_law_word","_law_table","_law_pieces","_law_size","_law_cells","_law_row","_law_number","_law_other","_law_near","_law_some"]
noncomputable def B_z39 (G_z22:GL) (G_z26:GL) (G_z37:GL) (G_z14:GL) (G_z32:GL) (G_z34:GL) (G_z23:GL) (G_z24:GL) (G_z21:GL):SF :=
 (seqF (setF 1 (callB G_z22 (consA (callB G_z32 (consA (var 0) (consA (cst (.int 0)) nilA))) nilA)))
 (seqF (forF (iAnyF (slF (callB G_z22 (consA (callB G_z32 (consA (var 0) (consA (cst (.int 1)) nilA))) nilA)) noO (asO (cst (.int 2))))) (gNameF 2) (ifF (andT (asT (bin2 (gInN true) (var 2) (var 1))) (asT (bin2 gLt (callB gLen (consA (var 1) nilA)) (cst (.int 6))))) (exprF (mthF "list" gAppend (var 1) (consA (var 2) nilA))) nextF))
 (seqF (setF 3 (callB G_z26 (consA (var 1) (consA (lstV nilA) nilA))))
 (seqF (setF 4 (bin2 gAdd (callB gLen (consA (var 1) nilA)) (cst (.int 4800))))
 (seqF (setF 5 (callB G_z37 (consA (var 3) nilA)))
 (seqF (ifF (orT (notT (asT (callB G_z23 (consA (var 5) nilA)))) (asT (bin2 gNeD (var 5) (bin2 gAdd (bin2 gAdd (var 4) (bin2 gMul (var 4) (var 4))) (bin2 gMul (bin2 gMul (var 4) (var 4)) (var 4)))))) (retF (cst (.bl false))) nextF)
 (seqF (setF 6 (bin2 gAdd (lstV (consA (callB G_z32 (consA (var 0) (consA (cst (.int 2)) nilA))) nilA)) (compF (iRng2F (consA (cst (.int 3)) (consA (callB gMin (consA (cst (.int 5)) (consA (callB gLen (consA (var 0) nilA)) nilA))) nilA))) 1 [0] (gNameF 0) trueT (callB G_z32 (consA (var 1) (consA (var 0) nilA))))))
 (seqF (setF 7 (callB gTuple (consA (compF (iAnyF (var 6)) 1 [1] (gNameF 0) trueT (callB G_z24 (consA (var 0) (consA (var 1) nilA)))) nilA)))
 (seqF (setF 8 (callB G_z14 (consA (var 3) (consA (var 7) nilA))))
 (seqF (ifF (orT (notT (asT (callB G_z23 (consA (var 8) nilA)))) (orT (notT (asT (chainV gLe gLt (cst (.int 0)) (var 8) (var 5)))) (asT (bin2 gNeD (callB G_z34 (consA (var 3) (consA (var 8) nilA))) (var 7))))) (retF (cst (.bl false))) nextF)
 (seqF (setF 9 (cst (.str "z9")))
 (seqF (ifF (asT (bin2 (gInN false) (var 9) (var 1))) (setF 9 (slF (cst (.str "z9z9z9z9z")) noO (asO (cst (.int 8))))) nextF)
 (seqF (ifF (andT (asT (bin2 (gInN true) (var 9) (var 1))) (asT (bin2 gIsNot (callB G_z14 (consA (var 3) (consA (bin2 gAdd (slF (var 7) noO (asO (un1 gNeg (cst (.int 1))))) (tupV (consA (tupV (consA (cst (.str "word")) (consA (var 9) nilA))) nilA))) nilA))) (cst .non)))) (retF (cst (.bl false))) nextF)
 (seqF (setF 10 (bin2 gMod (callB G_z32 (consA (var 0) (consA (cst (.int 6)) nilA))) (var 4)))
 (seqF (forF (iAnyF (lstV (consA (bin2 gMod (callB G_z32 (consA (var 0) (consA (cst (.int 5)) nilA))) (var 5)) (consA (bin2 gSub (bin2 gSub (var 5) (cst (.int 1))) (var 10)) (consA (var 10) nilA))))) (gNameF 8) (seqF (setF 11 (callB G_z34 (consA (var 3) (consA (var 8) nilA))))
 (ifF (orT (notT (asT (callB G_z21 (consA (var 11) (consA (var 1) nilA))))) (asT (bin2 gNeD (callB G_z14 (consA (var 3) (consA (var 11) nilA))) (var 8)))) (retF (cst (.bl false))) nextF)))
 (retF (bin2 gEqD (callB G_z37 (consA (var 3) nilA)) (var 5))))))))))))))))))
noncomputable def G_z39:GL:=runG (B_z39 G_z22 G_z26 G_z37 G_z14 G_z32 G_z34 G_z23 G_z24 G_z21) N_z39 1
end L3
set_option maxHeartbeats 4000000
--BEGIN WPT
local macro_rules | `(tactic| wtm_at "z_lk") => `(tactic| first | (with_reducible assumption) | (with_reducible exact L3.get_last) | ((with_reducible refine L3.get_app ?_); wtm_at "z_lk") | ((with_reducible refine L3.get_setS ?_); wtm_at "z_lk") | fail)
local macro_rules | `(tactic| wtm_at "z_pf") => `(tactic| first | exact List.prefix_refl _ | assumption | ((with_reducible refine List.IsPrefix.trans ?_ (List.prefix_append _ _)); wtm_at "z_pf") | ((with_reducible refine L3.pre_set ?_ ?_); (focus wtm_at "z_pf"); (focus (first | exact Nat.le_refl _ | simp))) | fail)
local macro_rules | `(tactic| wtm_at "z_u") => `(tactic| fail)
local macro_rules | `(tactic| wtm_at "z_1") => `(tactic| first | wtm_at "z_u" | (with_reducible refine L3.ws_seq ?_) | (with_reducible refine L3.ws_set ?_) | (with_reducible refine L3.ws_if ?_) | (with_reducible refine L3.ws_ret ?_) | (with_reducible refine L3.ws_next ?_) | (with_reducible refine L3.ws_expr ?_) | (with_reducible refine L3.ws_asg ?_) | (with_reducible refine L3.ws_for ?_) | (with_reducible refine L3.ws_brk ?_) | (with_reducible refine L3.ws_cont ?_) | (with_reducible refine L3.ws_retN ?_) | ((with_reducible refine' L3.w_var ?k1 ?_); (case k1 => with_unfolding_all rfl)) | (with_reducible refine L3.w_cst ?_) | (with_reducible refine L3.w_bin ?_) | (with_reducible refine L3.w_callB ?_) | (with_reducible refine L3.w_consA ?_) | (with_reducible refine L3.w_nilA ?_) | (with_reducible refine L3.w_asT ?_) | (with_reducible refine L3.w_notT ?_) | (with_reducible refine L3.w_andT ?_) | (with_reducible refine L3.w_orT ?_) | (with_reducible refine L3.w_trueT ?_) | (with_reducible refine L3.w_tupV ?_) | (with_reducible refine L3.w_lstV ?_) | (with_reducible refine L3.w_mthF ?_) | (with_reducible refine L3.w_ifV ?_) | (with_reducible refine L3.w_andV ?_) | (with_reducible refine L3.w_orV ?_) | (with_reducible refine L3.w_notV ?_) | (with_reducible refine L3.w_slF ?_) | (with_reducible refine L3.w_noO ?_) | (with_reducible refine L3.w_asO ?_) | (with_reducible refine L3.w_un ?_) | (with_reducible refine L3.w_comp ?_) | (with_reducible refine L3.w_dNew ?_) | (with_reducible refine L3.w_dOne ?_) | (with_reducible refine L3.wi_any ?_) | (with_reducible refine L3.wi_tup ?_) | (with_reducible refine L3.wi_fz ?_) | (with_reducible refine L3.wi_str ?_) | (with_reducible refine L3.wi_rng1 ?_) | (with_reducible refine L3.wi_rng2 ?_) | (with_reducible refine L3.wi_enum ?_) | (with_reducible refine L3.enum_mk ?_) | (with_reducible refine L3.br_t ?_) | (with_reducible refine L3.br_f ?_) | (with_reducible refine L3.br_not ?_) | (with_reducible refine L3.br_nN ?_) | (with_reducible refine L3.br_nI ?_) | (with_reducible refine L3.br_nS ?_) | (with_reducible refine L3.br_nT ?_) | (with_reducible refine L3.br_nB ?_) | (with_reducible refine L3.br_nR ?_) | (with_reducible refine L3.isB_mk ?_) | (with_reducible refine L3.isI_mk ?_) | (with_reducible refine L3.ty_str ?_) | (with_reducible refine L3.ty_fz ?_) | (with_reducible refine L3.wg_name ?_) | (with_reducible refine L3.wg_nil ?_) | (with_reducible refine L3.wg_cons ?_) | (with_reducible refine L3.g_addI ?_) | (with_reducible refine L3.g_sub ?_) | (with_reducible refine L3.g_neg ?_) | (with_reducible refine L3.g_lt ?_) | (with_reducible refine L3.g_le ?_) | (with_reducible refine L3.g_gt ?_) | (with_reducible refine L3.g_ge ?_) | (with_reducible refine L3.g_eqI ?_) | (with_reducible refine L3.g_eqS ?_) | (with_reducible refine L3.g_eqB ?_) | (with_reducible refine L3.g_neI ?_) | (with_reducible refine L3.g_neS ?_) | (with_reducible refine L3.g_eqNS ?_) | (with_reducible refine L3.g_is ?_) | (with_reducible refine L3.g_isnot ?_) | (with_reducible refine L3.g_inS ?_) | (with_reducible refine L3.g_slS ?_) | (with_reducible refine L3.g_lenS ?_) | (with_reducible refine L3.g_lenT ?_) | (with_reducible refine L3.g_lenF ?_) | (with_reducible refine L3.g_abs ?_) | (with_reducible refine L3.g_max ?_) | (with_reducible refine L3.g_min ?_) | (with_reducible refine L3.g_intI ?_) | (with_reducible refine L3.g_intB ?_) | (with_reducible refine L3.g_tupT ?_) | (with_reducible refine L3.g_listT ?_) | (with_reducible refine L3.g_s0b ?_) | ((with_reducible refine' L3.wg_tup ?k1 ?_); (case k1 => with_unfolding_all rfl)) | ((with_reducible refine' L3.le16c ?k1 ?_); (case k1 => with_unfolding_all rfl)) | ((with_reducible refine' L3.g_mod ?k1 ?_); (case k1 => first | rfl | (unfold L3.cMod; refine decide_eq_true ?_; omega))) | ((with_reducible refine' L3.g_fdiv ?k1 ?_); (case k1 => first | rfl | (unfold L3.cDiv; rw [Bool.and_eq_true]; constructor <;> refine decide_eq_true ?_ <;> omega))) | (with_reducible refine L3.g_pow40 ?_) | (with_reducible refine L3.g_pow30 ?_) | (with_reducible refine L3.g_pow6 ?_) | (with_reducible refine L3.g_pow60 ?_) | ((with_reducible refine' L3.g_ixT ?k1 ?_); (case k1 => with_unfolding_all rfl)) | ((with_reducible refine' L3.g_ixS ?k1 ?_); (case k1 => with_unfolding_all rfl)) | ((with_reducible refine' L3.g_lenR ?k1 ?_); (case k1 => wtm_at "z_lk")) | ((with_reducible refine' L3.ty_lst ?k1 ?_); (case k1 => wtm_at "z_lk")) | ((with_reducible refine' L3.wi_ref ?k1 ?_); (case k1 => wtm_at "z_lk")) | ((with_reducible refine' L3.g_tupR ?k1 ?_); (case k1 => wtm_at "z_lk")) | ((with_reducible refine' L3.g_listR ?k1 ?_); (case k1 => wtm_at "z_lk")) | ((with_reducible refine' L3.g_slR ?k1 ?_); (case k1 => wtm_at "z_lk")) | ((with_reducible refine' L3.g_instT ?k1 ?k2 ?k3 ?_); (case k1 => with_unfolding_all rfl); (case k2 => (first | with_unfolding_all rfl | (refine L3.ty_of_lst (xs := ?y1) ?y2; (case y2 => wtm_at "z_lk")) | (refine L3.ty_of_dk (xs := ?y1) ?y2; (case y2 => wtm_at "z_lk")))); (case k3 => with_unfolding_all rfl)) | ((with_reducible refine' L3.g_instF ?k1 ?k2 ?k3 ?_); (case k1 => with_unfolding_all rfl); (case k2 => (first | with_unfolding_all rfl | (refine L3.ty_of_lst (xs := ?y1) ?y2; (case y2 => wtm_at "z_lk")) | (refine L3.ty_of_dk (xs := ?y1) ?y2; (case y2 => wtm_at "z_lk")))); (case k3 => with_unfolding_all rfl)) | (with_reducible refine L3.ws_put ?_) | (with_reducible refine L3.ws_asgL ?_) | (with_reducible refine L3.w_chain ?_) | (with_reducible refine L3.g_slT ?_) | (with_reducible refine L3.g_strS ?_) | (with_reducible refine L3.br_isT ?_) | (with_reducible refine L3.br_isF ?_) | ((with_reducible refine' L3.g_addTc ?k1 ?_); (case k1 => with_unfolding_all rfl)) | ((with_reducible refine' L3.unp_tup ?k1 ?_); (case k1 => with_unfolding_all rfl)) | ((with_reducible refine' L3.unp_ref ?k1 ?k2 ?_); (case k1 => wtm_at "z_lk"); (case k2 => with_unfolding_all rfl)) | ((with_reducible refine' L3.g_isB ?k1 ?_); (case k1 => with_unfolding_all rfl)) | ((with_reducible refine' L3.g_isnotB ?k1 ?_); (case k1 => with_unfolding_all rfl)) | (with_reducible refine L3.ws_putO ?_) | (with_reducible refine L3.w_mthO ?_) | (with_reducible refine L3.w_mkO ?_) | (with_reducible refine L3.ws_augO ?_) | ((with_reducible refine' L3.ws_augN ?k1 ?_); (case k1 => with_unfolding_all rfl)) | ((with_reducible refine' L3.g_fld ?k1 ?k2 ?k3 ?_); (case k1 => wtm_at "z_lk"); (case k2 => with_unfolding_all rfl); (case k3 => with_unfolding_all rfl)) | ((with_reducible refine' L3.g_putO ?k1 ?k2 ?k3 ?_); (case k1 => wtm_at "z_lk"); (case k2 => with_unfolding_all rfl); (case k3 => with_unfolding_all rfl)) | ((with_reducible refine' L3.mth_mk ?k1 ?k2 ?_); (case k1 => wtm_at "z_lk"); (case k2 => with_unfolding_all rfl)) | (with_reducible refine L3.w_dNewN ?_) | (with_reducible refine L3.ws_dput ?_) | (with_reducible refine L3.wi_keys ?_) | (with_reducible refine L3.wi_pairs ?_) | (with_reducible refine L3.wi_enumL ?_) | (with_reducible refine L3.wi_zip ?_) | (with_reducible refine L3.g_starts ?_) | ((with_reducible refine' L3.dwalk ?k1 ?_); (case k1 => wtm_at "z_lk")) | ((with_reducible refine' L3.lwalk ?k1 ?_); (case k1 => wtm_at "z_lk")) | ((with_reducible refine' L3.ty_dt ?k1 ?_); (case k1 => wtm_at "z_lk")) | ((with_reducible refine' L3.g_lenDt ?k1 ?_); (case k1 => wtm_at "z_lk")) | ((with_reducible refine' L3.g_listDt ?k1 ?_); (case k1 => wtm_at "z_lk")) | ((with_reducible refine' L3.g_sort0 ?k1 ?_); (case k1 => wtm_at "z_lk")) | ((with_reducible refine' L3.g_inDt ?k1 ?k2 ?_); (case k1 => wtm_at "z_lk"); (case k2 => with_unfolding_all rfl)) | ((with_reducible refine' L3.g_dget ?k1 ?k2 ?_); (case k1 => wtm_at "z_lk"); (case k2 => with_unfolding_all rfl)) | ((with_reducible refine' L3.g_addLc ?k1 ?k2 ?k3 ?_); (case k1 => wtm_at "z_lk"); (case k2 => wtm_at "z_lk"); (case k3 => with_unfolding_all rfl)) | (with_reducible refine L3.gEqD_S ?_) | (with_reducible refine L3.gEqD_I ?_) | (with_reducible refine L3.gEqD_B ?_) | (with_reducible refine L3.gNeD_S ?_) | (with_reducible refine L3.gNeD_I ?_) | ((with_reducible refine' L3.rng1_mk ?k1 ?_); (case k1 => first | decide | omega)) | ((with_reducible refine' L3.rng2_mk ?k1 ?_); (case k1 => first | decide | omega)) | ((with_reducible refine' L3.br_decT ?k1 ?_); (case k1 => first | rfl | assumption | decide | omega | (simp only [List.length_cons, List.length_nil]; omega))) | ((with_reducible refine' L3.br_decF ?k1 ?_); (case k1 => first | rfl | assumption | decide | omega | (simp only [List.length_cons, List.length_nil]; omega))) | fail)
local macro_rules | `(tactic| wtm_at "z") => `(tactic| repeat' (wtm_at "z_1"))
--END WPT
namespace L3
open PySem PySem.Spec PyProof.Rows L2
noncomputable def NthOk (n:Int):Prop:=n = 1 ∨ n = 2 ∨ n = -1 ∨ n = -2
noncomputable def IsPlace (d:D):Prop:=∃ (kind:Str) (nth:Int) (edge:Str),d = .tup [.str kind,.int nth,.str edge] ∧ NthOk nth ∧ (edge = "ahead" ∨ edge = "behind") ∧ kind ∈ ([("small":Str),"great","figure","mark","any"]:List Str)
theorem cell_w {Q:D → Sto → Prop} {L:Sto} {ns:List Int} (hb:∀ z ∈ ns,Builtin.Int.intBits z ≤ 1048576) (hn:ns.length ≤ 63) {k:Int} (h0:0 ≤ k) (h1:k < 1000) (q:∀ v:Int,0 ≤ v → v < 10000000000000000000000000000000000000000 → Q (.int v) L):W2 (G_z32 [.fz (ns.map .int),.int k] L) Q:=by
 have hC:Builtin.Int.intBits 2718281828459045235360287471352662497757 ≤ 132:=by decide
 have hlen:((ns.map D.int).length:Int) = ns.length:=by simp
 unfold G_z32
 refine w_run rfl ?_
 unfold B_z32
 have fin:∀ x:Int,0 ≤ x % 10000000000000000000000000000000000000000 ∧ x % 10000000000000000000000000000000000000000 < 10000000000000000000000000000000000000000:=fun x => ⟨Int.emod_nonneg _ (by decide),Int.emod_lt_of_pos _ (by decide)⟩
 wtm_at "z"
 refine br_dec (fun hk => ?_) (fun hk => ?_)
 ·obtain ⟨z,hz,ez⟩:=atI_ints h0 (hlen ▸ hk)
  wtm_at "z"
  refine g_ixF ez ?_
  wtm_at "z"
  refine g_mulI (mulOk_le (m:=1048577) (PySem.intBits_add_le (m:=1048576) (n:=13) (hb z hz) (by decide)) hC (by decide)) ?_
  wtm_at "z"
  exact ⟨rfl,List.prefix_refl _,q _ (fin _).1 (fin _).2⟩
 ·wtm_at "z"
  have hkk:0 ≤ k * k ∧ k * k ≤ 1000000:=by
   have a1:k * k ≤ 1000 * 1000:=Int.mul_le_mul (by omega) (by omega) h0 (by omega)
   exact ⟨Int.mul_nonneg h0 h0,by omega⟩
  refine g_mulI (mulOk_l (by omega)) ?_
  wtm_at "z"
  refine g_mulI (mulOk_r (by omega)) ?_
  wtm_at "z"
  have rest:∀ v:Int,0 ≤ v → v < 100000000000000000000000000000000000000000000000 → cMul v v = true ∧ ∀ x:Int,cMul (x % 2147483629) 2718281828459045235360287471352662497757 = true:=fun v a b => by
   have hv:Builtin.Int.intBits v ≤ 160:=bits_of_lt (by
    have:(v.natAbs:Int) < ((2 ^ 160:Nat):Int):=by
     have e:((2 ^ 160:Nat):Int) = 1461501637330902918203684832716283019655932542976:=by decide
     rw [e]
     omega
    exact Int.ofNat_lt.mp this)
   refine ⟨mulOk_le hv hv (by decide),fun x => mulOk_l ?_⟩
   have:=Int.emod_nonneg x (b:=2147483629) (by decide)
   have:=Int.emod_lt_of_pos x (b:=2147483629) (by decide)
   omega
  refine br_dec (fun hl => ?_) (fun hl => ?_)
  ·have hpos:0 < (ns.length:Int):=by omega
   wtm_at "z"
   refine g_mulI (mulOk_r (by omega)) ?_
   wtm_at "z"
   obtain ⟨z,hz,ez⟩:=atI_ints (ns:=ns) (k:=k * 7 % ((ns.map D.int).length:Int)) (Int.emod_nonneg _ (by omega)) (by have:=Int.emod_lt_of_pos (k * 7) (b:=((ns.map D.int).length:Int)) (by omega); omega)
   refine g_ixF ez ?_
   wtm_at "z"
   refine g_mulI (mulOk_r (by omega)) ?_
   have hr:=fin z
   wtm_at "z"
   obtain ⟨f1,f2⟩:=rest (k * k * 7919 + 5 + z % 10000000000000000000000000000000000000000 * 48271) (by omega) (by omega)
   refine g_mulI f1 ?_
   wtm_at "z"
   refine g_mulI (f2 _) ?_
   wtm_at "z"
   exact ⟨rfl,List.prefix_refl _,q _ (fin _).1 (fin _).2⟩
  ·wtm_at "z"
   obtain ⟨f1,f2⟩:=rest (k * k * 7919 + 5) (by omega) (by omega)
   refine g_mulI f1 ?_
   wtm_at "z"
   refine g_mulI (f2 _) ?_
   wtm_at "z"
   exact ⟨rfl,List.prefix_refl _,q _ (fin _).1 (fin _).2⟩
theorem menu_mem {L:Sto} {Q:D → Sto → Prop} {k:Nat} {xs:List D} {n:Int} (c:Int) (e:L[k]? = some (.lst xs)) (h0:0 < n) (h:n ≤ xs.length) (q:∀ d ∈ xs,Q d L):W2 (gIx (.ref k) (.int (c % n)) L) Q:=by
 obtain ⟨d,hd,e2⟩:=atI_mod (xs:=xs) c h0 h
 exact g_ixR e e2 (q d hd)
theorem lw_place_w {Q:D → Sto → Prop} {L:Sto} (c:Int) (q:∀ p,IsPlace p → Q p L):W2 (G_z28 [.int c] L) Q:=by
 unfold G_z28
 refine w_run rfl ?_
 unfold B_z28
 wtm_at "z"
 refine menu_mem c get_last (by decide) (by decide) fun d hd => ?_
 wtm_at "z"
 refine menu_mem (c / 5) get_last (by decide) (by decide) fun d2 hd2 => ?_
 wtm_at "z"
 refine menu_mem (c / 20) get_last (by decide) (by decide) fun d3 hd3 => ?_
 wtm_at "z"
 simp only [List.mem_cons,List.not_mem_nil,or_false] at hd hd2 hd3
 have hk:∃ kind:Str,d = .str kind ∧ kind ∈ ([("small":Str),"great","figure","mark","any"]:List Str):=by
  rcases hd with rfl | rfl | rfl | rfl | rfl
  ·exact ⟨_,rfl,by decide⟩
  ·exact ⟨_,rfl,by decide⟩
  ·exact ⟨_,rfl,by decide⟩
  ·exact ⟨_,rfl,by decide⟩
  ·exact ⟨_,rfl,by decide⟩
 have hn:∃ n:Int,d2 = .int n ∧ NthOk n:=by
  rcases hd2 with rfl | rfl | rfl | rfl
  ·exact ⟨_,rfl,.inl rfl⟩
  ·exact ⟨_,rfl,.inr (.inl rfl)⟩
  ·exact ⟨_,rfl,.inr (.inr (.inl rfl))⟩
  ·exact ⟨_,rfl,.inr (.inr (.inr rfl))⟩
 have he:∃ e:Str,d3 = .str e ∧ (e = "ahead" ∨ e = "behind"):=by
  rcases hd3 with rfl | rfl
  ·exact ⟨_,rfl,.inl rfl⟩
  ·exact ⟨_,rfl,.inr rfl⟩
 obtain ⟨kind,rfl,hk⟩:=hk
 obtain ⟨n,rfl,hn⟩:=hn
 obtain ⟨e,rfl,he⟩:=he
 exact ⟨rfl,by wtm_at "z_pf",q _ ⟨kind,n,e,rfl,hn,he,hk⟩⟩
theorem lw_text_w {Q:D → Sto → Prop} {L:Sto} (c most:Int) (h0:0 ≤ most) (h1:most ≤ 100) (q:∀ t:Str,SgOk t → (t.length:Int) ≤ most → Q (.str t) L):W2 (G_z31 [.int c,.int most] L) Q:=by
 unfold G_z31
 refine w_run rfl ?_
 unfold B_z31
 have hS:("abcdefghijklmnopqrstuvwxyzABCDEFGHIJKLMNOPQRSTUVWXYZ0123456789 -.,/":Str) = allS:=rfl
 rw [hS]
 have hz1:0 ≤ c % (most + 1):=Int.emod_nonneg _ (by omega)
 have hz2:c % (most + 1) < most + 1:=Int.emod_lt_of_pos _ (by omega)
 wtm_at "z"
 refine menu_mem _ get_last (by decide) (by decide) fun d hd => ?_
 have hd':∃ m:Str,d = .str m ∧ SgOk m ∧ 0 < m.length ∧ m.length ≤ 67:=by
  simp only [List.mem_cons,List.not_mem_nil,or_false] at hd
  rcases hd with rfl | rfl | rfl | rfl <;> exact ⟨_,rfl,by decide +kernel,by decide +kernel,by decide +kernel⟩
 obtain ⟨m,rfl,hm1,hm2,hm3⟩:=hd'
 wtm_at "z"
 generalize hL:L ++ [Ob.lst [D.str "abAB12 -",D.str "aB 1",D.str "aab",D.str allS]] = L1
 have hpre:L <+: L1:=by rw [← hL]; exact List.prefix_append _ _
 refine ws_loop (fun j ρ L' => L' = L1 ∧ ∃ (c':Int) (t:Str) (a:Option D),ρ = [some (.int c'),some (.int most),some (.str allS),some (.str m),some (.int (c % (most + 1))),some (.str t),a] ∧ SgOk t ∧ t.length ≤ j) _ 0 _ _ ⟨rfl,_,_,_,rfl,by decide,by decide⟩ ?_ ?_
 ·rintro i x ρ L' hx ⟨rfl,c',t,a,rfl,ht1,ht2⟩
  obtain ⟨hi,rfl⟩:=rngD_at hx
  refine ⟨rfl,?_⟩
  wtm_at "z"
  obtain ⟨k,hk1,hk2⟩:=atI_mod (xs:=m.cps.toList) (n:=(m.length:Int)) c' (by omega) (by simp [Str.length])
  refine g_ixS hk2 ?_
  have hone:(⟨#[k]⟩:Str).length = 1:=rfl
  refine g_addS (by rw [hone]; omega) ?_
  wtm_at "z"
  refine ⟨rfl,_,_,_,rfl,ht1.app (.one (hm1 _ hk1)),?_⟩
  rw [app_length,hone]
  omega
 ·rintro ρ L' ⟨rfl,c',t,a,rfl,ht1,ht2⟩
  refine ⟨rfl,?_⟩
  wtm_at "z"
  rw [rngD_len] at ht2
  exact ⟨rfl,hpre,q t ht1 (by omega)⟩
noncomputable def WordsOk (ws:List Str):Prop:=ws.Nodup ∧ (∀ w ∈ ws,SgOk w ∧ 0 < w.length ∧ w.length ≤ 8) ∧ ws.length ≤ 6
theorem inD_strs (w:Str):∀ ws:List Str,inD (.str w) (ws.map D.str) = decide (w ∈ ws)
 | [] => by simp [inD]
 | x :: xs => by
  have ih:=inD_strs w xs
  unfold inD at ih ⊢
  rw [List.map_cons,List.any_cons,ih]
  have e:eqP (.str x) (.str w) = decide (w = x):=by
   simp only [eqP,toV,eqV]
   by_cases h:w = x
   ·subst h; simp
   ·have:¬ x = w:=fun z => h z.symm
    simp [h,this]
  rw [e]
  by_cases h:w = x <;> simp [h]
theorem flat_strs (ws:List Str):(ws.map D.str).all flatD = true:=by rw [List.all_map,List.all_eq_true]; exact fun _ _ => rfl
theorem str_pos {t:Str} (h:t ≠ ""):0 < t.length:=by
 rcases Nat.eq_zero_or_pos t.length with h0 | h0
 ·exfalso
  apply h
  obtain ⟨a⟩:=t
  have:a = #[]:=Array.eq_empty_of_size_eq_zero h0
  subst this; rfl
 ·exact h0
theorem keep_pre {L L':Sto} {o:Ob} (h:Keep L.length (L ++ [o]) L'):L <+: L':=by
 rw [List.prefix_iff_getElem?]
 intro j hj
 rw [h.2 j (by omega) (by simp; omega),List.getElem?_append_left hj]
 simp [hj]
theorem lw_words_w {Q:D → Sto → Prop} {L:Sto} (c:Int) (q:∀ ws L',WordsOk ws → L <+: L' → L'[L.length]? = some (.lst (ws.map D.str)) → Q (.ref L.length) L'):W2 (G_z22 [.int c] L) Q:=by
 unfold G_z22
 refine w_runR rfl ?_
 unfold B_z22
 have m5:=Int.emod_nonneg c (b:=5) (by decide)
 have m5':=Int.emod_lt_of_pos c (b:=5) (by decide)
 have m2:=Int.emod_nonneg c (b:=2) (by decide)
 have m2':=Int.emod_lt_of_pos c (b:=2) (by decide)
 refine ws_seq (ws_set (w_lstV (w_nilA (le16c rfl ?_))))
 refine ws_seq (ws_set (w_bin (w_var rfl (w_cst (g_mod rfl ?_)))))
 refine ws_cut (fun ρ L' => L' = L ++ [.lst []] ∧ ∃ n:Int,0 ≤ n ∧ n ≤ 6 ∧ ρ = [some (.int c),some (.ref L.length),some (.int n),none,none,none]) ?_ ?_
 ·wtm_at "z"
  refine br_dec (fun h => ?_) (fun h => ?_)
  ·wtm_at "z"
   exact ⟨rfl,_,by omega,by omega,rfl⟩
  ·wtm_at "z"
   exact ⟨rfl,_,m5,by omega,rfl⟩
 rintro ρ L' ⟨rfl,n,hn0,hn6,rfl⟩
 wtm_at "z"
 refine ws_loop (fun j ρ L' => ∃ (ws:List Str) (p:Int) (a b:Option D),ρ = [some (.int c),some (.ref L.length),some (.int n),some (.int p),a,b] ∧ Keep L.length (L ++ [.lst []]) L' ∧ L'[L.length]? = some (.lst (ws.map D.str)) ∧ ws.Nodup ∧ (∀ w ∈ ws,SgOk w ∧ 0 < w.length ∧ w.length ≤ 8) ∧ ws.length ≤ j) _ 0 _ _ ⟨[],_,none,none,rfl,.refl _ _,get_last,List.nodup_nil,fun _ h => (nomatch h),Nat.le_refl _⟩ ?_ ?_
 ·rintro i x ρ L' hx ⟨ws,p,a,b,rfl,hkp,hg,hnd,hw,hl⟩
  obtain ⟨hi,rfl⟩:=rngD_at hx
  refine ⟨rfl,wg_name ?_⟩
  refine ws_cut (fun ρ L2 => Keep L.length (L ++ [.lst []]) L2 ∧ L2[L.length]? = some (.lst (ws.map D.str)) ∧ ∃ t:Str,SgOk t ∧ t.length ≤ 8 ∧ ρ = [some (.int c),some (.ref L.length),some (.int n),some (.int p),some (.int (0 + (i:Int))),some (.str t)]) ?_ ?_
  ·wtm_at "z"
   refine menu_mem _ get_last (by decide) (by decide) fun d hd => ?_
   have hd':∃ m:Int,d = .int m ∧ 0 ≤ m ∧ m ≤ 8:=by
    simp only [List.mem_cons,List.not_mem_nil,or_false] at hd
    rcases hd with rfl | rfl | rfl | rfl <;> exact ⟨_,rfl,by decide,by decide⟩
   obtain ⟨m,rfl,hm0,hm8⟩:=hd'
   wtm_at "z"
   refine lw_text_w _ _ hm0 (by omega) fun t ht1 ht2 => ?_
   exact ⟨hkp.trans (.app _ _ _),get_app hg,t,ht1,by omega,rfl⟩
  rintro ρ L2 ⟨hkp2,hg2,t,ht1,ht2,rfl⟩
  refine ws_cut (fun ρ L3 => L3 = L2 ∧ ∃ t:Str,SgOk t ∧ t.length ≤ 8 ∧ ρ = [some (.int c),some (.ref L.length),some (.int n),some (.int p),some (.int (0 + (i:Int))),some (.str t)]) ?_ ?_
  ·wtm_at "z"
   refine br_dec (fun h => ?_) (fun h => ?_)
   ·wtm_at "z"
    exact ⟨rfl,_,ht1.slice _ _,Nat.le_trans (Txt.slice_le _ _ _) ht2,rfl⟩
   ·wtm_at "z"
    exact ⟨rfl,t,ht1,ht2,rfl⟩
  clear ht1 ht2 t
  rintro ρ L3 ⟨rfl,t,ht1,ht2,rfl⟩
  refine ws_cut (fun ρ L4 => L4 = L3 ∧ ∃ t:Str,SgOk t ∧ t.length ≤ 8 ∧ 0 < t.length ∧ ρ = [some (.int c),some (.ref L.length),some (.int n),some (.int p),some (.int (0 + (i:Int))),some (.str t)]) ?_ ?_
  ·wtm_at "z"
   refine br_dec (fun h => ?_) (fun h => ?_)
   ·wtm_at "z"
    exact ⟨rfl,"-",by decide +kernel,by decide,by decide,rfl⟩
   ·wtm_at "z"
    exact ⟨rfl,t,ht1,ht2,str_pos h,rfl⟩
  clear ht1 ht2 t
  rintro ρ L4 ⟨rfl,w,hw1,hw2,hw3,rfl⟩
  wtm_at "z"
  refine g_notinR hg2 (by rw [flat_strs]; rfl) ?_
  rw [inD_strs]
  wtm_at "z"
  refine br_dec (fun hm => ?_) (fun hm => ?_)
  ·wtm_at "z"
   exact ⟨ws,_,_,_,rfl,hkp2,hg2,hnd,hw,by omega⟩
  ·wtm_at "z"
   refine g_append hg2 (by simp; omega) ?_
   wtm_at "z"
   refine ⟨ws ++ [w],_,_,_,rfl,hkp2.trans (.set _ _ _),?_,?_,fun y hy => ?_,by simp; omega⟩
   ·rw [get_setS hg2]; simp
   ·rw [List.nodup_append]
    refine ⟨hnd,by simp,fun a ha b hb => ?_⟩
    have:b = w:=by simpa using hb
    rw [this]; rintro rfl; exact hm ha
   ·rcases List.mem_append.mp hy with h | h
    ·exact hw y h
    ·have:y = w:=by simpa using h
     rw [this]; exact ⟨hw1,hw3,hw2⟩
 ·rintro ρ L' ⟨ws,p,a,b,rfl,hkp,hg,hnd,hw,hl⟩
  refine ⟨rfl,?_⟩
  rw [rngD_len] at hl
  wtm_at "z"
  refine ⟨rfl,q ws L' ⟨hnd,hw,by omega⟩ (keep_pre hkp) hg⟩
end L3
set_option maxHeartbeats 4000000
--BEGIN WPT
--END WPT
namespace L3
open PySem PySem.Spec PyProof.Rows L2
noncomputable def kindsP:List D:=[.str "small",.str "great",.str "figure",.str "mark",.str "any"]
noncomputable def edgesP:List D:=[.str "ahead",.str "behind"]
noncomputable def p1 (k:D):List D:=[D.int 1,.int 2,.int (-1),.int (-2)].flatMap fun n => edgesP.flatMap fun e => [D.tup [k,n,e]]
noncomputable def places:List D:=kindsP.flatMap p1
theorem places_is:∀ p ∈ places,IsPlace p:=by
 intro p hp
 simp only [places,p1,kindsP,edgesP,List.mem_flatMap,List.mem_cons,List.not_mem_nil,or_false] at hp
 obtain ⟨k,hk,n,hn,e,he,rfl⟩:=hp
 have h1:∃ s:Str,k = .str s ∧ s ∈ ([("small":Str),"great","figure","mark","any"]:List Str):=by
  rcases hk with rfl | rfl | rfl | rfl | rfl <;> exact ⟨_,rfl,by decide +kernel⟩
 have h2:∃ i:Int,n = .int i ∧ NthOk i:=by
  rcases hn with rfl | rfl | rfl | rfl
  ·exact ⟨_,rfl,.inl rfl⟩
  ·exact ⟨_,rfl,.inr (.inl rfl)⟩
  ·exact ⟨_,rfl,.inr (.inr (.inl rfl))⟩
  ·exact ⟨_,rfl,.inr (.inr (.inr rfl))⟩
 have h3:∃ s:Str,e = .str s ∧ (s = "ahead" ∨ s = "behind"):=by
  clear hk hn h1 h2
  rcases he with rfl | rfl
  ·exact ⟨_,rfl,.inl rfl⟩
  ·exact ⟨_,rfl,.inr rfl⟩
 obtain ⟨s,rfl,hs⟩:=h1
 obtain ⟨i,rfl,hi⟩:=h2
 obtain ⟨e,rfl,he'⟩:=h3
 exact ⟨s,i,e,rfl,hi,he',hs⟩
theorem places_len:places.length = 40:=by decide +kernel
theorem all_places_w {Q:D → Sto → Prop} {L:Sto} (h:∀ L',L'[L.length]? = some (.lst places) → L <+: L' → Q (.ref L.length) L'):W2 (G_z13 [] L) Q:=by
 unfold G_z13
 refine w_runR rfl ?_
 simp only [B_z13,c_KINDS,c_NTHS,c_EDGES]
 wtm_at "z"
 refine ws_app (fun ρ => ∃ a b c,ρ = [some (.ref L.length),a,b,c]) L.length 8 40 p1 get_last ⟨none,none,none,rfl⟩ (fun x _ => Nat.le_refl _) (by decide) ?_ ?_
 ·rintro x hx ρ L1 acc1 ⟨a,b,c,rfl⟩ hkp hl hB
  refine ⟨rfl,?_⟩
  wtm_at "z"
  refine ws_app (fun ρ => ∃ b c,ρ = [some (.ref L.length),some x,b,c]) L.length 2 48 (fun n => edgesP.flatMap fun e => [D.tup [x,n,e]]) hl ⟨_,_,rfl⟩ (fun x _ => Nat.le_refl _) (by show acc1.length + 8 ≤ 48; omega) ?_ ?_
  ·rintro n hn ρ L2 acc2 ⟨b,c,rfl⟩ hkp2 hl2 hB2
   refine ⟨rfl,?_⟩
   wtm_at "z"
   refine ws_app (fun ρ => ∃ c,ρ = [some (.ref L.length),some x,some n,c]) L.length 1 50 (fun e => [D.tup [x,n,e]]) hl2 ⟨_,rfl⟩ (fun x _ => Nat.le_refl _) (by show acc2.length + 2 ≤ 50; omega) ?_ ?_
   ·rintro e he ρ L3 acc3 ⟨c,rfl⟩ hkp3 hl3 hB3
    refine ⟨rfl,?_⟩
    wtm_at "z"
    refine g_append hl3 (by omega) ?_
    exact ⟨⟨_,rfl⟩,.set _ _ _,get_setS hl3⟩
   ·rintro ρ L3 ⟨c,rfl⟩ hkp3 hl3
    exact ⟨rfl,⟨_,_,rfl⟩,hkp3,hl3⟩
  ·rintro ρ L2 ⟨b,c,rfl⟩ hkp2 hl2
   exact ⟨rfl,⟨_,_,_,rfl⟩,hkp2,hl2⟩
 ·rintro ρ L1 ⟨a,b,c,rfl⟩ hkp hl
  refine ⟨rfl,?_⟩
  wtm_at "z"
  exact ⟨rfl,h _ hl (keep_pre hkp)⟩
noncomputable def KeepS (S:List Nat) (L L':Sto):Prop:=L.length ≤ L'.length ∧ ∀ j,j < L.length → j ∉ S → L'[j]? = L[j]?
theorem KeepS.refl (S:List Nat) (L:Sto):KeepS S L L:=⟨Nat.le_refl _,fun _ _ _ => rfl⟩
theorem KeepS.trans {S:List Nat} {L L1 L2:Sto} (a:KeepS S L L1) (b:KeepS S L1 L2):KeepS S L L2:=⟨Nat.le_trans a.1 b.1,fun j h1 h2 => by rw [b.2 j (Nat.lt_of_lt_of_le h1 a.1) h2,a.2 j h1 h2]⟩
theorem KeepS.app (S:List Nat) (L M:Sto):KeepS S L (L ++ M):=⟨by simp,fun j h _ => by rw [List.getElem?_append_left h]⟩
theorem KeepS.set {S:List Nat} {L L1:Sto} {k:Nat} {o:Ob} (h:KeepS S L L1) (hk:k ∈ S ∨ L.length ≤ k):KeepS S L (L1.set k o):=⟨by rw [List.length_set]; exact h.1,fun j h1 h2 => by
 rw [List.getElem?_set_ne (fun e => by subst e; rcases hk with z | z; exact h2 z; omega),h.2 j h1 h2]⟩
theorem KeepS.step {S S':List Nat} {L L1 L2:Sto} (a:KeepS S L L1) (b:KeepS S' L1 L2) (i:∀ j ∈ S',j ∈ S ∨ L.length ≤ j):KeepS S L L2:=⟨Nat.le_trans a.1 b.1,fun j h1 h2 => by
 rw [b.2 j (Nat.lt_of_lt_of_le h1 a.1) (fun z => by rcases i j z with q | q; exact h2 q; omega),a.2 j h1 h2]⟩
theorem KeepS.get {S:List Nat} {L L':Sto} {j:Nat} {o:Ob} (h:KeepS S L L') (n:j ∉ S) (e:L[j]? = some o):L'[j]? = some o:=by
 rw [h.2 j (List.getElem?_eq_some_iff.mp e).1 n]; exact e
theorem KeepS.pre {L L':Sto} (h:KeepS [] L L'):L <+: L':=by
 rw [List.prefix_iff_getElem?]
 intro j hj
 rw [h.2 j hj (by simp)]; simp [hj]
theorem KeepS.of_pre {S:List Nat} {L L':Sto} (h:L <+: L'):KeepS S L L':=by obtain ⟨M,rfl⟩:=h; exact .app _ _ _
theorem KeepS.mono {S S':List Nat} {L L':Sto} (h:KeepS S L L') (i:∀ j ∈ S,j ∈ S' ∨ L.length ≤ j):KeepS S' L L':=⟨h.1,fun j h1 h2 => h.2 j h1 fun z => by rcases i j z with q | q; exact h2 q; omega⟩
theorem pre_at {L L':Sto} {j:Nat} {o:Ob} (h:L <+: L') (e:L[j]? = some o):L'[j]? = some o:=by obtain ⟨M,rfl⟩:=h; exact get_app e
theorem get_setO {L:Sto} {j k:Nat} {a o o':Ob} (hj:L[j]? = some o) (hk:L[k]? = some o') (ne:o ≠ o'):(L.set j a)[k]? = some o':=by
 rw [List.getElem?_set_ne (fun e => by subst e; rw [hj] at hk; exact ne (Option.some.inj hk))]; exact hk
theorem lt_of_get {L:Sto} {j:Nat} {o:Ob} (h:L[j]? = some o):j < L.length:=(List.getElem?_eq_some_iff.mp h).1
theorem within_w {Q:D → Sto → Prop} {L:Sto} (h:Q (.bl true) L):W2 (G_z6 [.tup [],.tup []] L) Q:=by
 unfold G_z6
 refine w_run rfl ?_
 unfold B_z6
 wtm_at "z"
 refine ⟨[],[[]],rfl,⟨rfl,by decide,rfl⟩,?_⟩
 refine wc_nil rfl ?_
 wtm_at "z"
 refine g_all (ds:=[]) (bs:=[]) get_last rfl ?_
 exact ⟨rfl,List.prefix_append _ _,h⟩
noncomputable def Grp (L:Sto) (g:Nat):Option Nat → List D → Prop
 | none,as => as = [] ∧ L[g]? = some (.dt [] 0)
 | some q,as => L[g]? = some (.dt [([],.ref q)] 1) ∧ L[q]? = some (.lst as)
theorem add_w {Q:D → Sto → Prop} {L:Sto} {g p:Nat} {o:Option Nat} {as ps:List D} (hg:Grp L g o as) (hp:L[p]? = some (.lst ps)) (ne:ps ≠ []) (hz:as.length + ps.length ≤ 16777216)
  (h:∀ L2 q,Grp L2 g (some q) (as ++ ps) → (o = some q ∨ (o = none ∧ L.length ≤ q)) → KeepS (g :: o.toList) L L2 → Q .non L2):W2 (G_z5 [.ref g,.tup [],.tup [],.ref p] L) Q:=by
 unfold G_z5
 refine w_runB rfl ?_
 unfold B_z5
 wtm_at "z"
 refine within_w ?_
 wtm_at "z"
 cases o with
 | none =>
  obtain ⟨rfl,hg⟩:=hg
  wtm_at "z"
  refine g_setdefN (kk:=[]) (get_app hg) rfl rfl (by decide) ?_
  have hgl:=lt_of_get hg
  have hpl:=lt_of_get hp
  have e1:((L ++ [Ob.lst []]).set g (.dt (putN [] [] (.ref L.length)) (epN [] [] 0)))[L.length]? = some (.lst []):=by rw [List.getElem?_set_ne (by omega)]; exact get_last
  refine ty_lst e1 ?_
  wtm_at "z"
  refine g_extend e1 (get_setO (get_app hg) (get_app hp) (by simp)) (by simpa using hz) ?_
  wtm_at "z"
  have e2:(((L ++ [Ob.lst []]).set g (.dt (putN [] [] (.ref L.length)) (epN [] [] 0))).set L.length (.lst ([] ++ ps)))[g]? = some (.dt [([],.ref L.length)] 1):=by
   rw [List.getElem?_set_ne (by omega),get_setS (get_app hg)]; rfl
  refine ⟨fun hpre => ?_,h _ L.length ⟨e2,get_setS e1⟩ (.inr ⟨rfl,Nat.le_refl _⟩) (((KeepS.app _ _ _).set (.inl (by simp))).set (.inr (Nat.le_refl _)))⟩
  have:=pre_at hpre hg
  rw [e2] at this
  cases this
 | some q =>
  obtain ⟨hg,hq⟩:=hg
  wtm_at "z"
  refine g_setdefO (kk:=[]) (get_app hg) rfl rfl ?_
  refine ty_lst (get_app hq) ?_
  wtm_at "z"
  refine g_extend (get_app hq) (get_app hp) hz ?_
  wtm_at "z"
  refine ⟨fun hpre => ?_,h _ q ⟨get_setO (get_app hq) (get_app hg) (by simp),get_setS (get_app hq)⟩ (.inl rfl) ((KeepS.app _ _ _).set (.inl (by simp)))⟩
  have h1:=pre_at hpre hq
  rw [get_setS (get_app hq)] at h1
  have h2:=congrArg List.length (Ob.lst.inj (Option.some.inj h1))
  rw [List.length_append] at h2
  exact absurd (List.length_eq_zero_iff.mp (by omega)) ne
end L3
set_option maxHeartbeats 4000000
--BEGIN WPT
--END WPT
namespace L3
open PySem PySem.Spec PyProof.Rows L2
theorem wc_fun {ok:Sto → Bool} {g:GF} {elt:EF} {L0:Sto} {Q:Sto → Prop} (P:Fm → Prop) (f:D → D) {items:List D} {ρ:Fm} (hok:∀ acc,ok (L0 ++ [.lst acc]) = true) (hp:P ρ) (hz:items.length ≤ 16777216)
  (h:∀ x ∈ items,∀ ρ,P ρ → W1 (g x ρ) fun ρ1 => P ρ1 ∧ ∀ acc,W2 (elt ρ1 (L0 ++ [.lst acc])) fun d L2 => L2 = L0 ++ [.lst acc] ∧ d = f x)
  (q:Q (L0 ++ [.lst (items.map f)])):W1 (compL ok g trueT elt L0.length items ρ (L0 ++ [.lst []])) Q:=by
 refine wc_inv (I:=fun j ρ L => P ρ ∧ L = L0 ++ [.lst ((items.take j).map f)]) items 0 ρ _ ⟨hp,by simp⟩ ?_ ?_
 ·rintro i x ρ L e ⟨hp,rfl⟩
  refine ⟨hok _,?_⟩
  have hi:i < items.length:=(List.getElem?_eq_some_iff.mp e).1
  obtain ⟨ρ1,e1,hp1,h2⟩:=h x (List.mem_of_getElem? e) ρ hp
  obtain ⟨d,L2,e3,rfl,rfl⟩:=h2 ((items.take (0 + i)).map f)
  refine ⟨ρ1,e1,true,_,rfl,f x,_,e3,(items.take (0 + i)).map f,by simp,by simp; omega,hp1,?_⟩
  have ht:items.take (0 + i + 1) = items.take (0 + i) ++ [x]:=by rw [Nat.zero_add,List.take_add_one,e]; rfl
  rw [ht,List.map_append]
  simp
 ·rintro ρ L ⟨_,rfl⟩
  exact ⟨hok _,by simpa using q⟩
theorem take_snoc {α:Type} {xs:List α} {i:Nat} {x:α} (h:xs[i]? = some x):xs.take (0 + i + 1) = xs.take (0 + i) ++ [x]:=by rw [Nat.zero_add,List.take_add_one,h]; rfl
noncomputable def betw (d:Str) (xs ys:List D):List D:=xs.flatMap fun x => ys.map fun y => .tup [.str d,x,y]
theorem betw_len (d:Str) (xs ys:List D):(betw d xs ys).length = xs.length * ys.length:=by
 unfold betw
 induction xs with
 | nil => simp
 | cons x xs ih => rw [List.flatMap_cons,List.length_append,ih,List.length_map,List.length_cons,Nat.add_mul]; omega
theorem between_w {Q:D → Sto → Prop} {L:Sto} {d:Str} {a b:Nat} {xs ys:List D} (ha:L[a]? = some (.lst xs)) (hb:L[b]? = some (.lst ys)) (hz:xs.length * ys.length ≤ 10000000) (hy:ys.length ≤ 1000000)
  (h:∀ L2,L <+: L2 → L2[L.length]? = some (.lst (betw d xs ys)) → Q (.ref L.length) L2):W2 (G_z2 [.str d,.ref a,.ref b] L) Q:=by
 unfold G_z2
 refine w_runR rfl ?_
 unfold B_z2
 have hal:=lt_of_get ha
 have hbl:=lt_of_get hb
 wtm_at "z"
 refine ws_loop (fun j ρ L' => L <+: L' ∧ L'[L.length]? = some (.lst (betw d (xs.take j) ys)) ∧ ∃ e,ρ = [some (.str d),some (.ref a),some (.ref b),some (.ref L.length),e]) _ 0 _ _ ⟨List.prefix_append _ _,get_last,none,rfl⟩ ?_ ?_
 ·rintro i x ρ L' hx ⟨hp,hl,e,rfl⟩
  refine ⟨decide_eq_true (pre_at hp ha),?_⟩
  have hb':=pre_at hp hb
  have hi:i < xs.length:=(List.getElem?_eq_some_iff.mp hx).1
  wtm_at "z"
  refine wc_fun (fun ρ => ∃ e,ρ = [e,some (.str d),some x]) (fun y => .tup [.str d,x,y]) (fun acc => decide_eq_true (get_app hb')) ⟨_,rfl⟩ (by omega) ?_ ?_
  ·rintro y hy ρ ⟨e,rfl⟩
   wtm_at "z"
   refine ⟨⟨_,rfl⟩,fun acc => ?_⟩
   wtm_at "z"
   exact ⟨rfl,rfl⟩
  ·wtm_at "z"
   have hll:=lt_of_get hl
   refine g_extend (get_app hl) get_last ?_ ?_
   ·rw [betw_len,List.length_map,List.length_take]
    have h1:min (0 + i) xs.length * ys.length ≤ xs.length * ys.length:=Nat.mul_le_mul (Nat.min_le_right _ _) (Nat.le_refl _)
    omega
   ·wtm_at "z"
    refine ⟨pre_set (hp.trans (List.prefix_append _ _)) (Nat.le_refl _),?_,_,rfl⟩
    rw [get_setS (get_app hl),take_snoc hx]
    unfold betw
    rw [List.flatMap_append]
    simp
 ·rintro ρ L' ⟨hp,hl,e,rfl⟩
  refine ⟨decide_eq_true (pre_at hp ha),?_⟩
  wtm_at "z"
  refine ⟨rfl,h _ hp ?_⟩
  simpa using hl
theorem bySpots_w {Q:D → Sto → Prop} {L:Sto} {tx:Nat} (ht:L[tx]? = some (.lst [])) (h:∀ L2 q,L <+: L2 → L2[L.length]? = some (.dt [([],.ref q)] 1) → L2[q]? = some (.lst places) → L.length < q → Q (.ref L.length) L2):W2 (G_z1 [.ref tx] L) Q:=by
 unfold G_z1
 refine w_runR rfl ?_
 unfold B_z1
 wtm_at "z"
 refine all_places_w fun L1 h1 hp1 => ?_
 wtm_at "z"
 have hlen1:=lt_of_get h1
 have ed1:L1[L.length]? = some (.dt [] 0):=pre_at hp1 get_last
 have e0:(L ++ [Ob.dt [] 0]).length = L.length + 1:=by simp
 refine ws_loop (fun j ρ L' => KeepS [L.length] L1 L' ∧ (∃ e1 e2,ρ = [some (.ref tx),some (.ref L.length),e1,e2]) ∧ ((j = 0 ∧ L'[L.length]? = some (.dt [] 0)) ∨ (0 < j ∧ ∃ q,L1.length ≤ q ∧ L'[L.length]? = some (.dt [([],.ref q)] 1) ∧ L'[q]? = some (.lst (places.take j))))) _ 0 _ _ ⟨.refl _ _,⟨none,none,rfl⟩,.inl ⟨rfl,ed1⟩⟩ ?_ ?_
 ·rintro i x ρ L' hx ⟨hk,⟨e1,e2,rfl⟩,hd⟩
  refine ⟨decide_eq_true (hk.get (by simp) h1),?_⟩
  have htl:=lt_of_get ht
  have ht1:L'[tx]? = some (.lst []):=hk.get (by simp; omega) (pre_at hp1 (get_app ht))
  wtm_at "z"
  refine wc_nil (decide_eq_true (get_app ht1)) ?_
  wtm_at "z"
  refine g_notinT rfl ?_
  have hin:inD .non ([]:List D) = false:=rfl
  rw [hin]
  wtm_at "z"
  have hi:i < places.length:=(List.getElem?_eq_some_iff.mp hx).1
  rw [places_len] at hi
  rcases hd with ⟨hj,hd⟩ | ⟨hj,q,hq1,hd,hq⟩
  ·have hi0:i = 0:=by omega
   subst hi0
   wtm_at "z"
   have hdl:=lt_of_get hd
   refine g_setdefN (kk:=[]) (get_app (get_app hd)) rfl rfl (by decide) ?_
   generalize hq0:(L' ++ [Ob.lst []]).length = q0
   have hq0':q0 = L'.length + 1:=by rw [← hq0]; simp
   have el:((L' ++ [Ob.lst []] ++ [Ob.lst []]).set L.length (.dt (putN [] [] (.ref q0)) (epN [] [] 0)))[q0]? = some (.lst []):=by
    rw [List.getElem?_set_ne (by omega),← hq0]; exact get_last
   refine ty_lst el ?_
   wtm_at "z"
   refine g_append el (by decide) ?_
   wtm_at "z"
   have hkl:=hk.1
   refine ⟨(((hk.trans (.app _ _ _)).trans (.app _ _ _)).set (.inl (by simp))).set (.inr (by omega)),⟨_,_,rfl⟩,.inr ⟨by omega,q0,by omega,?_,?_⟩⟩
   ·rw [List.getElem?_set_ne (by omega),get_setS (get_app (get_app hd))]; rfl
   ·rw [get_setS el,take_snoc hx]; simp
  ·wtm_at "z"
   refine g_setdefO (kk:=[]) (get_app (get_app hd)) rfl rfl ?_
   refine ty_lst (get_app (get_app hq)) ?_
   wtm_at "z"
   refine g_append (get_app (get_app hq)) (by rw [List.length_take,places_len]; omega) ?_
   wtm_at "z"
   refine ⟨((hk.trans (.app _ _ _)).trans (.app _ _ _)).set (.inr hq1),⟨_,_,rfl⟩,.inr ⟨by omega,q,hq1,get_setO (get_app (get_app hq)) (get_app (get_app hd)) (by simp),?_⟩⟩
   rw [get_setS (get_app (get_app hq)),take_snoc hx]
 ·rintro ρ L' ⟨hk,⟨e1,e2,rfl⟩,hd⟩
  refine ⟨decide_eq_true (hk.get (by simp) h1),?_⟩
  wtm_at "z"
  rcases hd with ⟨hj,_⟩ | ⟨_,q,hq1,hd,hq⟩
  ·rw [places_len] at hj; omega
  ·refine ⟨rfl,h _ q ?_ hd (by simpa using hq) (by omega)⟩
   have:KeepS [L.length] (L ++ [Ob.dt [] 0]) L':=(KeepS.of_pre hp1).trans hk
   exact KeepS.pre (((KeepS.app _ _ _).trans this).mono fun j hj => .inr (by simp at hj; omega))
end L3
set_option maxHeartbeats 4000000
--BEGIN WPT
--END WPT
namespace L3
open PySem PySem.Spec PyProof.Rows L2
noncomputable def wpc (w:Str):D:=.tup [.str "word",.str w]
noncomputable def deedsS:List Str:=["copy","raise","sink"]
noncomputable def piecesOf (ws:List Str):List D:=ws.map wpc ++ deedsS.flatMap fun d => betw d places places
theorem stretches_w {Q:D → Sto → Prop} {L:Sto} {tx:Nat} (ht:L[tx]? = some (.lst [])) (h:Q (.ref L.length) (L ++ [.lst []])):W2 (G_z19 [.ref tx,.tup [],.tup []] L) Q:=by
 unfold G_z19
 refine w_runR rfl ?_
 unfold B_z19
 wtm_at "z"
 have e0:∀ M:Sto,M[tx]? = some (.lst []) → seqs [.ref tx,.tup [],.tup []] M = some [[],[],[]]:=fun M hM => by simp [seqs,seqOf,hM]
 refine ⟨[],[[],[]],e0 _ (get_app ht),⟨rfl,by decide,rfl⟩,?_⟩
 refine ws_loop_nil (decide_eq_true (e0 _ (get_app ht))) ?_
 wtm_at "z"
 exact ⟨rfl,h⟩
theorem bw1600 (d:Str):(betw d places places).length = 1600:=by rw [betw_len,places_len]
theorem deeds_len (l:List Str):(l.flatMap fun d => betw d places places).length = l.length * 1600:=by
 induction l with
 | nil => rfl
 | cons x xs ih => rw [List.flatMap_cons,List.length_append,ih,bw1600,List.length_cons]; omega
theorem groups_w {Q:D → Sto → Prop} {L:Sto} {w tx:Nat} {ws:List Str} (hw:L[w]? = some (.lst (ws.map D.str))) (hl:ws.length ≤ 6) (ht:L[tx]? = some (.lst []))
  (h:∀ L2 q,L <+: L2 → L2[L.length]? = some (.dt [([],.ref q)] 1) → L2[q]? = some (.lst (piecesOf ws)) → L.length < q → Q (.ref L.length) L2):W2 (G_z18 [.ref w,.ref tx,.tup []] L) Q:=by
 unfold G_z18
 refine w_runR rfl ?_
 unfold B_z18
 have hwl:=lt_of_get hw
 have htl:=lt_of_get ht
 refine ws_seq (ws_set (w_dNewN ?_))
 generalize hL1:L ++ [Ob.dt [] 0] = L1
 have hL1l:L1.length = L.length + 1:=by rw [← hL1]; simp
 have hg1:L1[L.length]? = some (.dt [] 0):=by rw [← hL1]; exact get_last
 have hw1:L1[w]? = some (.lst (ws.map D.str)):=by rw [← hL1]; exact get_app hw
 have ht1:L1[tx]? = some (.lst []):=by rw [← hL1]; exact get_app ht
 refine ws_cut (fun ρ L' => ∃ o,Grp L' L.length o (ws.map wpc) ∧ (∀ q,o = some q → L1.length ≤ q) ∧ KeepS [L.length] L1 L' ∧ ∃ e,ρ = [some (.ref w),some (.ref tx),some (.tup []),some (.ref L.length),e,none,none,none,none,none,none]) ?_ ?_
 ·wtm_at "z"
  refine ws_loop (fun j ρ L' => ∃ o,Grp L' L.length o ((ws.take j).map wpc) ∧ (∀ q,o = some q → L1.length ≤ q) ∧ KeepS [L.length] L1 L' ∧ ∃ e,ρ = [some (.ref w),some (.ref tx),some (.tup []),some (.ref L.length),e,none,none,none,none,none,none]) _ 0 _ _ ⟨none,⟨rfl,hg1⟩,fun q hq => (by cases hq),.refl _ _,none,rfl⟩ ?_ ?_
  ·rintro i x ρ L' hx ⟨o,hgr,ho,hk,e,rfl⟩
   refine ⟨decide_eq_true (hk.get (by simp; omega) hw1),?_⟩
   have ht':L'[tx]? = some (.lst []):=hk.get (by simp; omega) ht1
   rw [List.getElem?_map] at hx
   cases hxw:ws[i]? with
   | none => rw [hxw] at hx; cases hx
   | some wd =>
    rw [hxw] at hx
    cases hx
    wtm_at "z"
    refine wc_nil (decide_eq_true (get_app ht')) ?_
    wtm_at "z"
    have hgr2:Grp (L' ++ [Ob.lst []] ++ [.lst [.tup [.str "word",.str wd]]]) L.length o ((ws.take (0 + i)).map wpc):=by
     cases o with
     | none => exact ⟨hgr.1,get_app (get_app hgr.2)⟩
     | some q => exact ⟨get_app (get_app hgr.1),get_app (get_app hgr.2)⟩
    refine add_w hgr2 get_last (by simp) (by rw [List.length_map,List.length_take]; simp; omega) fun L2 q hq hoq hk2 => ?_
    wtm_at "z"
    have hkl:=hk.1
    refine ⟨some q,?_,fun q' e' => ?_,?_,_,rfl⟩
    ·rw [take_snoc hxw,List.map_append]; exact hq
    ·cases e'
     rcases hoq with e1 | ⟨_,e1⟩
     ·exact ho q e1
     ·simp at e1; omega
    ·exact ((hk.trans (.app _ _ _)).trans (.app _ _ _)).step hk2 (fun j hj => by
      rcases List.mem_cons.mp hj with e1 | e1
      ·exact .inl (by simp [e1])
      ·exact .inr (ho j (by simpa using e1)))
  ·rintro ρ L' ⟨o,hgr,ho,hk,e,rfl⟩
   refine ⟨decide_eq_true (hk.get (by simp; omega) hw1),?_⟩
   rw [List.length_map,Nat.zero_add,List.take_length] at hgr
   exact ⟨o,hgr,ho,hk,_,rfl⟩
 rintro ρ L2 ⟨o,hgr,ho,hk,e,rfl⟩
 wtm_at "z"
 have ht2:L2[tx]? = some (.lst []):=hk.get (by simp; omega) ht1
 refine bySpots_w ht2 fun L3 q' hp3 hd3 hq3 hlt3 => ?_
 have hk2l:=hk.1
 have hgr3:Grp L3 L.length o (ws.map wpc):=by
  cases o with
  | none => exact ⟨hgr.1,pre_at hp3 hgr.2⟩
  | some q => exact ⟨pre_at hp3 hgr.1,pre_at hp3 hgr.2⟩
 have hoq:∀ q,o = some q → q < L2.length:=fun q e => by subst e; exact lt_of_get hgr.2
 have hL3:L2.length < L3.length:=lt_of_get hd3
 have hq'l:=lt_of_get hq3
 have ht3:L3[tx]? = some (.lst []):=pre_at hp3 ht2
 wtm_at "z"
 refine ws_loop_cons (by simp [sameKeys,hd3]) ?_
 wtm_at "z"
 refine ws_loop_cons (by simp [sameKeys,hd3]) ?_
 wtm_at "z"
 refine stretches_w ht3 ?_
 wtm_at "z"
 generalize hL4:L3 ++ [Ob.lst []] = L4
 have hp4:L3 <+: L4:=by rw [← hL4]; exact List.prefix_append _ _
 have hL4l:L4.length = L3.length + 1:=by rw [← hL4]; simp
 have hs4:L4[L3.length]? = some (.lst []):=by rw [← hL4]; exact get_last
 have hd4:=pre_at hp4 hd3
 have hq4:=pre_at hp4 hq3
 have hgr4:Grp L4 L.length o (ws.map wpc):=by
  cases o with
  | none => exact ⟨hgr3.1,pre_at hp4 hgr3.2⟩
  | some q => exact ⟨pre_at hp4 hgr3.1,pre_at hp4 hgr3.2⟩
 -- what is not touched
 have free:∀ j,j ≠ L.length → L2.length ≤ j → j ∉ L.length :: o.toList:=fun j h1 h2 hj => by
  rcases List.mem_cons.mp hj with e1 | e1
  ·exact h1 e1
  ·have:=hoq j (by simpa using e1); omega
 simp only [c_DEEDS]
 wtm_at "z"
 refine ws_loop (fun j ρ L' => ∃ o',Grp L' L.length o' (ws.map wpc ++ (deedsS.take j).flatMap fun d => betw d places places) ∧ (o' = o ∨ o = none ∧ ∃ q,o' = some q ∧ L4.length ≤ q) ∧ (0 < j → o' ≠ none) ∧ KeepS (L.length :: o.toList) L4 L' ∧ ∃ e1 e2,ρ = [some (.ref w),some (.ref tx),some (.tup []),some (.ref L.length),e,some (.ref L2.length),some (.tup []),some (.tup []),some (.ref L3.length),e1,e2]) _ 0 _ _ ⟨o,by simpa using hgr4,.inl rfl,fun h => absurd h (Nat.lt_irrefl _),.refl _ _,none,none,rfl⟩ ?_ ?_
 ·rintro i x ρ L' hx ⟨o',hg',ho',hj',hk',e1,e2,rfl⟩
  have hds:∃ d,deedsS[i]? = some d ∧ x = .str d:=by
   have:(deedsS.map D.str)[i]? = some x:=hx
   rw [List.getElem?_map] at this
   cases hd:deedsS[i]? with
   | none => rw [hd] at this; cases this
   | some d => rw [hd] at this; exact ⟨d,rfl,(Option.some.inj this).symm⟩
  obtain ⟨d,hd,rfl⟩:=hds
  have hi:i < 3:=(List.getElem?_eq_some_iff.mp hd).1
  refine ⟨rfl,?_⟩
  have hs':L'[L3.length]? = some (.lst []):=hk'.get (free _ (by omega) (by omega)) hs4
  have hd':L'[L2.length]? = some (.dt [([],.ref q')] 1):=hk'.get (free _ (by omega) (by omega)) hd4
  have hq'':L'[q']? = some (.lst places):=hk'.get (free _ (by omega) (by omega)) hq4
  wtm_at "z"
  refine wc_nil (decide_eq_true (get_app hs')) ?_
  wtm_at "z"
  refine g_dt (kk:=[]) (get_app hd') rfl rfl ?_
  wtm_at "z"
  refine g_dt (kk:=[]) (get_app hd') rfl rfl ?_
  wtm_at "z"
  refine between_w (get_app hq'') (get_app hq'') (by rw [places_len]; decide) (by rw [places_len]; decide) fun L5 hp5 hl5 => ?_
  wtm_at "z"
  have hpp:L' <+: L5:=(List.prefix_append _ _).trans hp5
  have hg5:Grp L5 L.length o' (ws.map wpc ++ (deedsS.take (0 + i)).flatMap fun d => betw d places places):=by
   cases o' with
   | none => exact ⟨hg'.1,pre_at hpp hg'.2⟩
   | some q => exact ⟨pre_at hpp hg'.1,pre_at hpp hg'.2⟩
  refine add_w hg5 hl5 (fun z => by have:=congrArg List.length z; rw [bw1600] at this; cases this) (by rw [List.length_append,List.length_map,deeds_len,bw1600,List.length_take]; have:=Nat.min_le_left (0 + i) deedsS.length; omega) fun L6 q6 hg6 ho6 hk6 => ?_
  wtm_at "z"
  have hk'l:=hk'.1
  have hpl:=hp5.length_le
  simp only [List.length_append,List.length_cons,List.length_nil] at hpl
  have hp5l:=hpp.length_le
  refine ⟨some q6,?_,?_,fun _ h => (by cases h),?_,_,_,rfl⟩
  ·rw [take_snoc hd,List.flatMap_append,← List.append_assoc]
   simpa using hg6
  ·rcases ho6 with e6 | ⟨e6,h6⟩
   ·subst e6; exact ho'
   ·subst e6
    rcases ho' with e7 | ⟨_,q,e7,_⟩
    ·exact .inr ⟨e7.symm,q6,rfl,by omega⟩
    ·cases e7
  ·refine (hk'.trans (.of_pre hpp)).step hk6 fun j hj => ?_
   rcases List.mem_cons.mp hj with e8 | e8
   ·exact .inl (by simp [e8])
   ·have e9:o' = some j:=by simpa using e8
    rcases ho' with e7 | ⟨_,q,e7,h7⟩
    ·exact .inl (by rw [← e7,e9]; simp)
    ·rw [e9] at e7; cases e7; exact .inr h7
 ·rintro ρ L' ⟨o',hg',ho',hj',hk',e1,e2,rfl⟩
  refine ⟨rfl,?_⟩
  have hd':L'[L2.length]? = some (.dt [([],.ref q')] 1):=hk'.get (free _ (by omega) (by omega)) hd4
  refine ws_loop_nil (by simp [sameKeys,hd']) ?_
  refine ws_loop_nil (by simp [sameKeys,hd']) ?_
  wtm_at "z"
  cases o' with
  | none => exact absurd rfl (hj' (by decide))
  | some q =>
   have hql:L1.length ≤ q:=by
    rcases ho' with e7 | ⟨_,q2,e7,h7⟩
    ·exact ho q e7.symm
    ·cases e7; omega
   refine ⟨rfl,h L' q ?_ hg'.1 hg'.2 (by omega)⟩
   have k1:KeepS [L.length] L L':=by
    have a1:KeepS [L.length] L L1:=by rw [← hL1]; exact .app _ _ _
    have a2:=((a1.trans hk).trans (KeepS.of_pre hp3)).trans (KeepS.of_pre hp4)
    refine a2.step hk' fun j hj => ?_
    rcases List.mem_cons.mp hj with e8 | e8
    ·exact .inl (by simp [e8])
    ·exact .inr (by have:=ho j (by simpa using e8); omega)
   exact (k1.mono fun j hj => .inr (by simp at hj; omega)).pre
end L3
set_option maxHeartbeats 4000000
--BEGIN WPT
--END WPT
namespace L3
open PySem PySem.Spec PyProof.Rows L2
noncomputable def memb (kf:D → NK) (ps:List D):List (NK × D):=ps.zipIdx.map fun q => (kf q.1,.tup [.tup [],.int (q.2:Int)])
theorem memb_snoc {kf:D → NK} {ps:List D} {i:Nat} {x:D} (h:ps[i]? = some x):memb kf (ps.take (0 + i + 1)) = memb kf (ps.take (0 + i)) ++ [(kf x,.tup [.tup [],.int (i:Int)])]:=by
 have hi:i < ps.length:=(List.getElem?_eq_some_iff.mp h).1
 rw [take_snoc h]
 unfold memb
 rw [List.zipIdx_append,List.map_append]
 simp [Nat.min_eq_left (Nat.le_of_lt hi)]
theorem memb_keys (kf:D → NK) (ps:List D):(memb kf ps).map (·.1) = ps.map kf:=by
 unfold memb
 rw [List.map_map]
 have e:((ps.zipIdx.map fun q => kf q.1):List NK) = (ps.zipIdx.map Prod.fst).map kf:=by rw [List.map_map]; rfl
 rw [List.zipIdx_map_fst] at e
 exact e
theorem put_new {kvs:List (NK × D)} {k:NK} {d:D} {ep:Nat} (h:k ∉ kvs.map (·.1)):putN kvs k d = kvs ++ [(k,d)] ∧ epN kvs k ep = ep + 1:=by
 have:(kvs.any fun kv => decide (kv.1 = k)) = false:=by
  rw [Bool.eq_false_iff]
  intro ha
  obtain ⟨x,hx,e⟩:=List.any_eq_true.mp ha
  exact h (by rw [← of_decide_eq_true e]; exact List.mem_map_of_mem hx)
 unfold putN epN
 rw [this]
 exact ⟨rfl,rfl⟩
theorem look_none {kvs:List (NK × D)} {k:NK} (h:k ∉ kvs.map (·.1)):lookN kvs k = none:=by
 unfold lookN
 rw [List.find?_eq_none.mpr]
 ·rfl
 ·intro x hx hd
  exact h (by rw [← of_decide_eq_true hd]; exact List.mem_map_of_mem hx)
theorem look_at {kvs:List (NK × D)} {i:Nat} {k:NK} {d:D} (nd:(kvs.map (·.1)).Nodup) (h:kvs[i]? = some (k,d)):lookN kvs k = some d:=by
 induction kvs generalizing i with
 | nil => simp at h
 | cons x xs ih =>
  rw [List.map_cons,List.nodup_cons] at nd
  unfold lookN
  cases i with
  | zero =>
   simp at h
   subst h
   simp
  | succ i =>
   have h':xs[i]? = some (k,d):=by simpa using h
   have hne:x.1 ≠ k:=fun e => nd.1 (by rw [e]; exact List.mem_map_of_mem (f:=fun z:NK × D => z.1) (List.mem_of_getElem? h'))
   rw [List.find?_cons,decide_eq_false hne]
   exact ih nd.2 h'
theorem memb_look {kf:D → NK} {ps:List D} {i:Nat} {p:D} (nd:(ps.map kf).Nodup) (h:ps[i]? = some p):lookN (memb kf ps) (kf p) = some (.tup [.tup [],.int (i:Int)]):=by
 refine look_at (i:=i) (by rw [memb_keys]; exact nd) ?_
 unfold memb
 rw [List.getElem?_map,List.getElem?_zipIdx,h]
 simp
theorem members_w {Q:D → Sto → Prop} {L:Sto} {g q ep:Nat} {kf:D → NK} {ps:List D} (hg:L[g]? = some (.dt [([],.ref q)] ep)) (hq:L[q]? = some (.lst ps)) (hk:∀ p ∈ ps,dNK p = some (kf p)) (nd:(ps.map kf).Nodup) (hz:ps.length < 16777216)
  (h:Q (.ref L.length) (L ++ [.dt (memb kf ps) ps.length])):W2 (G_z16 [.ref g] L) Q:=by
 unfold G_z16
 refine w_runR rfl ?_
 unfold B_z16
 wtm_at "z"
 refine ws_loop_cons (decide_eq_true (get_app hg)) ?_
 wtm_at "z"
 refine ws_loop (fun j ρ L' => L' = L ++ [.dt (memb kf (ps.take j)) (min j ps.length)] ∧ ∃ e1 e2,ρ = [some (.ref g),some (.ref L.length),some (.tup []),some (.ref q),e1,e2]) _ 0 _ _ ⟨by simp [memb],none,none,rfl⟩ ?_ ?_
 ·rintro i x ρ L' hx ⟨rfl,e1,e2,rfl⟩
  refine ⟨decide_eq_true (get_app hq),?_⟩
  rw [enumD_at] at hx
  cases hp:ps[i]? with
  | none => rw [hp] at hx; cases hx
  | some p =>
   rw [hp] at hx
   cases hx
   have hi:i < ps.length:=(List.getElem?_eq_some_iff.mp hp).1
   wtm_at "z"
   refine g_dput (kk:=kf p) get_last (by unfold memb; rw [List.length_map,List.length_zipIdx,List.length_take]; omega) (hk p (List.mem_of_getElem? hp)) ?_
   have hnew:kf p ∉ (memb kf (ps.take (0 + i))).map (·.1):=by
    rw [memb_keys]
    intro hm
    have e1:(ps.take (0 + i + 1)).map kf = (ps.take (0 + i)).map kf ++ [kf p]:=by rw [take_snoc hp]; simp
    have nd2:((ps.take (0 + i + 1)).map kf).Nodup:=List.Sublist.nodup ((List.take_sublist _ _).map kf) nd
    rw [e1,List.nodup_append] at nd2
    exact nd2.2.2 _ hm _ (by simp) rfl
   have hput:=fun d ep => put_new (d:=d) (ep:=ep) hnew
   rw [(hput _ 0).1,(hput .non _).2]
   wtm_at "z"
   refine ⟨?_,_,_,rfl⟩
   rw [memb_snoc hp]
   simp
   omega
 ·rintro ρ L' ⟨rfl,e1,e2,rfl⟩
  refine ⟨decide_eq_true (get_app hq),?_⟩
  refine ws_loop_nil (decide_eq_true (get_app hg)) ?_
  wtm_at "z"
  refine ⟨rfl,?_⟩
  have e3:(enumD ps).length = ps.length:=by simp [enumD]
  rw [e3,Nat.zero_add,List.take_length,Nat.min_self]
  exact h
noncomputable def NodeAt (L:Sto) (r:Nat) (w:Int) (a:Nat) (kvs:List (NK × D)) (ep:Nat):Prop:=L[r]? = some (.ins "Node" [("ways",.int w),("arms",.ref a)]) ∧ L[a]? = some (.dt kvs ep)
theorem node_init_w {Q:D → Sto → Prop} {L:Sto} {k:Nat} {w:Int} (hk:L[k]? = some (.ins "Node" [])) (h:∀ L2,NodeAt L2 k w L.length [] 0 → L2.length = L.length + 1 → KeepS [k] L L2 → Q .non L2):W2 (G_z20 [.ref k,.int w] L) Q:=by
 unfold G_z20
 refine w_runB rfl ?_
 unfold B_z20
 have hkl:=lt_of_get hk
 wtm_at "z"
 have e1:(L.set k (.ins "Node" (putD "ways" (.int w) [])))[k]? = some (.ins "Node" [("ways",.int w)]):=get_setS hk
 refine g_putO (get_app e1) rfl rfl ?_
 wtm_at "z"
 have e2:(((L.set k (.ins "Node" (putD "ways" (.int w) []))) ++ [Ob.dt [] 0]).set k (.ins "Node" (putD "arms" (.ref (L.set k (.ins "Node" (putD "ways" (.int w) []))).length) [("ways",.int w)])))[k]? = some (.ins "Node" [("ways",.int w),("arms",.ref L.length)]):=by
  rw [get_setS (get_app e1),List.length_set]; rfl
 refine ⟨fun hp => ?_,h _ ⟨e2,?_⟩ (by simp) ?_⟩
 ·have:=pre_at hp hk
  rw [e2] at this
  cases this
 ·rw [List.getElem?_set_ne (by omega)]
  have:=get_last (L:=L.set k (.ins "Node" (putD "ways" (.int w) []))) (a:=Ob.dt [] 0)
  rwa [List.length_set] at this
 ·exact ((((KeepS.refl _ _).set (.inl (by simp))).trans (.app _ _ _)).set (.inl (by simp)))
end L3
set_option maxHeartbeats 4000000
--BEGIN WPT
--END WPT
namespace L3
open PySem PySem.Spec PyProof.Rows L2
noncomputable def tabF (W:D) (g m nd nn rt:Nat):List (Str × D):=[("words",W),("groups",.ref g),("members",.ref m),("nodes",.ref nd),("node_numbers",.ref nn),("roots",.ref rt)]
theorem table_init_w {Q:D → Sto → Prop} {L:Sto} {k g q ep:Nat} {W:D} {kf:D → NK} {ps:List D} (hk:L[k]? = some (.ins "Table" [])) (hg:L[g]? = some (.dt [([],.ref q)] ep)) (hq:L[q]? = some (.lst ps)) (hkf:∀ p ∈ ps,dNK p = some (kf p)) (nd:(ps.map kf).Nodup) (hz:ps.length < 16777216)
  (h:∀ L2,L2.length = L.length + 8 → KeepS [k] L L2 → L2[k]? = some (.ins "Table" (tabF W g L.length (L.length + 5) (L.length + 6) (L.length + 7))) → L2[L.length]? = some (.dt (memb kf ps) ps.length) →
   L2[L.length + 5]? = some (.lst [.ref (L.length + 1),.ref (L.length + 3)]) → NodeAt L2 (L.length + 1) 1 (L.length + 2) [] 0 → NodeAt L2 (L.length + 3) 0 (L.length + 4) [] 0 → L2[L.length + 6]? = some (.dt [] 0) → L2[L.length + 7]? = some (.lst []) → Q .non L2) :
  W2 (G_z15 [.ref k,W,.ref g] L) Q:=by
 unfold G_z15
 refine w_runB rfl ?_
 unfold B_z15
 have hkl:=lt_of_get hk
 have hgl:=lt_of_get hg
 refine ws_cut (fun ρ L' => ρ = [some (.ref k),some W,some (.ref g)] ∧ L'.length = L.length ∧ KeepS [k] L L' ∧ L'[k]? = some (.ins "Table" [("words",W)])) ?_ ?_
 ·wtm_at "z"
  exact ⟨rfl,by simp,(KeepS.refl _ _).set (.inl (by simp)),get_setS hk⟩
 rintro ρ L1 ⟨rfl,l1,k1,t1⟩
 refine ws_cut (fun ρ L' => ρ = [some (.ref k),some W,some (.ref g)] ∧ L'.length = L.length ∧ KeepS [k] L L' ∧ L'[k]? = some (.ins "Table" [("words",W),("groups",.ref g)])) ?_ ?_
 ·wtm_at "z"
  exact ⟨rfl,by simp [l1],k1.set (.inl (by simp)),get_setS t1⟩
 rintro ρ L2 ⟨rfl,l2,k2,t2⟩
 have ngk:g ≠ k:=fun e => by rw [e,hk] at hg; cases hg
 have nqk:q ≠ k:=fun e => by rw [e,hk] at hq; cases hq
 refine ws_cut (fun ρ L' => ρ = [some (.ref k),some W,some (.ref g)] ∧ L'.length = L.length + 1 ∧ KeepS [k] L L' ∧ L'[k]? = some (.ins "Table" [("words",W),("groups",.ref g),("members",.ref L.length)]) ∧ L'[L.length]? = some (.dt (memb kf ps) ps.length)) ?_ ?_
 ·wtm_at "z"
  refine members_w (k2.get (by simpa using ngk) hg) (k2.get (by simpa using nqk) hq) hkf nd hz ?_
  wtm_at "z"
  refine ⟨rfl,by simp [l2],(k2.trans (.app _ _ _)).set (.inl (by simp)),?_,?_⟩
  ·rw [get_setS (get_app t2),l2]; rfl
  ·rw [← l2,List.getElem?_set_ne (by omega)]; exact get_last
 rintro ρ L3 ⟨rfl,l3,k3,t3,m3⟩
 have stayK:∀ {L4 L5:Sto} {j:Nat} {o:Ob},KeepS [j] L4 L5 → L4.length ≤ j → ∀ i,i < L4.length → L4[i]? = some o → L5[i]? = some o:=fun {L4 L5 j o} hk hj i hi e => hk.get (by simp; omega) e
 refine ws_cut (fun ρ L' => ρ = [some (.ref k),some W,some (.ref g)] ∧ L'.length = L.length + 6 ∧ KeepS [k] L L' ∧ L'[k]? = some (.ins "Table" [("words",W),("groups",.ref g),("members",.ref L.length),("nodes",.ref (L.length + 5))]) ∧ L'[L.length]? = some (.dt (memb kf ps) ps.length) ∧
  L'[L.length + 5]? = some (.lst [.ref (L.length + 1),.ref (L.length + 3)]) ∧ NodeAt L' (L.length + 1) 1 (L.length + 2) [] 0 ∧ NodeAt L' (L.length + 3) 0 (L.length + 4) [] 0) ?_ ?_
 ·wtm_at "z"
  refine node_init_w get_last fun L4 n4 l4 k4 => ?_
  have l4':L4.length = L.length + 3:=by rw [l4]; simp; omega
  have p4:∀ i o,i < L3.length → L3[i]? = some o → L4[i]? = some o:=fun i o hi e => k4.get (by simp; omega) (get_app e)
  refine ⟨rfl,?_⟩
  wtm_at "z"
  refine node_init_w get_last fun L5 n5 l5 k5 => ?_
  have l5':L5.length = L.length + 5:=by rw [l5]; simp; omega
  have p5:∀ i o,i < L4.length → L4[i]? = some o → L5[i]? = some o:=fun i o hi e => k5.get (by simp; omega) (get_app e)
  refine ⟨rfl,?_⟩
  have t5:=p5 _ _ (by omega) (p4 _ _ (by omega) t3)
  have m5:=p5 _ _ (by omega) (p4 _ _ (by omega) m3)
  have a5:=p5 _ _ (by omega) n4.1
  have b5:=p5 _ _ (by simp at *; omega) n4.2
  wtm_at "z"
  have e1:L3.length = L.length + 1:=l3
  have e2:(L3 ++ [Ob.ins "Node" []]).length = L.length + 2:=by simp [l3]
  have e3:L4.length = L.length + 3:=l4'
  have e4:(L4 ++ [Ob.ins "Node" []]).length = L.length + 4:=by simp [l4']
  rw [e1] at n4 a5
  rw [e2] at n4 b5 a5
  rw [e3,e4] at n5
  have far:∀ (i:Nat) (o o':Ob) (M:Sto),i ≠ k → L5[i]? = some o → ((L5 ++ M).set k o')[i]? = some o:=fun i o o' M hi e => by rw [List.getElem?_set_ne (Ne.symm hi)]; exact get_app e
  refine ⟨rfl,by simp [l5'],?_,?_,far _ _ _ _ (by omega) m5,?_,⟨far _ _ _ _ (by omega) a5,far _ _ _ _ (by omega) b5⟩,⟨far _ _ _ _ (by omega) n5.1,far _ _ _ _ (by omega) n5.2⟩⟩
  ·have q1:KeepS [k] L L4:=(k3.trans (.app _ _ _)).step k4 fun j hj => .inr (by simp at hj; omega)
   have q2:KeepS [k] L L5:=(q1.trans (.app _ _ _)).step k5 fun j hj => .inr (by simp at hj; omega)
   exact (q2.trans (.app _ _ _)).set (.inl (by simp))
  ·rw [get_setS (get_app t5),l5']; rfl
  ·rw [List.getElem?_set_ne (by omega),← l5',e1,e3]; exact get_last
 rintro ρ L4 ⟨rfl,l4,k4,t4,m4,n4,a4,b4⟩
 wtm_at "z"
 have far:∀ (i:Nat) (o o':Ob) (N M:Sto),i ≠ k → N[i]? = some o → ((N ++ M).set k o')[i]? = some o:=fun i o o' N M hi e => by rw [List.getElem?_set_ne (Ne.symm hi)]; exact get_app e
 have f2:∀ (i:Nat) (o o' o'':Ob) (M M':Sto),i ≠ k → L4[i]? = some o → ((((L4 ++ M).set k o') ++ M').set k o'')[i]? = some o:=fun i o o' o'' M M' hi e => far i o o'' _ _ hi (far i o o' _ _ hi e)
 have t5:((L4 ++ [Ob.dt [] 0]).set k (.ins "Table" (putD "node_numbers" (.ref L4.length) [("words",W),("groups",.ref g),("members",.ref L.length),("nodes",.ref (L.length + 5))])))[k]? = some (.ins "Table" [("words",W),("groups",.ref g),("members",.ref L.length),("nodes",.ref (L.length + 5)),("node_numbers",.ref (L.length + 6))]):=by
  rw [get_setS (get_app t4),l4]; rfl
 refine g_putO (get_app t5) rfl rfl ?_
 wtm_at "z"
 refine ⟨fun hp => ?_,h _ (by simp [l4]) ?_ ?_ (f2 _ _ _ _ _ _ (by omega) m4) (f2 _ _ _ _ _ _ (by omega) n4) ⟨f2 _ _ _ _ _ _ (by omega) a4.1,f2 _ _ _ _ _ _ (by omega) a4.2⟩ ⟨f2 _ _ _ _ _ _ (by omega) b4.1,f2 _ _ _ _ _ _ (by omega) b4.2⟩ (far _ _ _ _ _ (by omega) ?_) ?_⟩
 ·have:=pre_at hp hk
  rw [get_setS (get_app t5)] at this
  cases this
 ·exact (((k4.trans (.app _ _ _)).set (.inl (by simp))).trans (.app _ _ _)).set (.inl (by simp))
 ·rw [get_setS (get_app t5),List.length_set,List.length_append,l4]; rfl
 ·rw [List.getElem?_set_ne (by omega),← l4]; exact get_last
 ·rw [List.getElem?_set_ne (by omega)]
  have e6:((L4 ++ [Ob.dt [] 0]).set k (.ins "Table" (putD "node_numbers" (.ref L4.length) [("words",W),("groups",.ref g),("members",.ref L.length),("nodes",.ref (L.length + 5))]))).length = L.length + 7:=by simp [l4]
  rw [← e6]; exact get_last
end L3
set_option maxHeartbeats 4000000
--BEGIN WPT
--END WPT
namespace L3
open PySem PySem.Spec PyProof.Rows L2
noncomputable def nnE (c:Nat):List (NK × D):=(List.range c).map fun (i:Nat) => ([.inl (.inl ((i:Int) + 1)),.inr []],.int ((i:Int) + 2))
noncomputable def wy (n:Nat):Nat → Int
 | 0 => 1
 | 1 => 0
 | i + 2 => ((n ^ (i + 1):Nat):Int)
noncomputable def armsE:Nat → List (NK × D)
 | 0 => []
 | 1 => []
 | i + 2 => [([],.tup [.int 0,.int (if i = 0 then 0 else (i:Int) + 1)])]
structure TabS (L:Sto) (t g q m nd nn rt:Nat) (W:D) (ps:List D) (c:Nat) (rs:List Nat):Prop where
 t_:L[t]? = some (.ins "Table" (tabF W g m nd nn rt))
 g_:∃ ep,L[g]? = some (.dt [([],.ref q)] ep)
 q_:L[q]? = some (.lst ps)
 nd_:L[nd]? = some (.lst (rs.map .ref))
 nn_:L[nn]? = some (.dt (nnE c) c)
 len:rs.length = c + 2
 nod:∀ (i:Nat) (r:Nat),rs[i]? = some r → ∃ a ep,NodeAt L r (wy ps.length i) a (armsE i) ep ∧ a ≠ nn
 qn:q ≠ nd
 gn:g ≠ nn
theorem nnE_keys (c:Nat):(nnE c).map (·.1) = (List.range c).map fun (i:Nat) => [.inl (.inl ((i:Int) + 1)),.inr []]:=by
 unfold nnE; rw [List.map_map]; rfl
theorem nnE_out (c:Nat):[Sum.inl (.inl ((c:Int) + 1)),.inr []] ∉ (nnE c).map (·.1):=by
 rw [nnE_keys]
 intro h
 obtain ⟨i,hi,e⟩:=List.mem_map.mp h
 rw [List.mem_range] at hi
 simp at e
 omega
theorem nnE_nd (c:Nat):((nnE c).map (·.1)).Nodup:=by
 rw [nnE_keys]
 unfold List.Nodup
 rw [List.pairwise_map]
 exact (List.nodup_range (n:=c)).imp fun h e => h (by simp at e; omega)
theorem nnE_look {c i:Nat} (h:i < c):lookN (nnE c) [.inl (.inl ((i:Int) + 1)),.inr []] = some (.int ((i:Int) + 2)):=by
 refine look_at (i:=i) (nnE_nd c) ?_
 unfold nnE
 rw [List.getElem?_map,List.getElem?_range h]; rfl
theorem number_old {Q:D → Sto → Prop} {L:Sto} {t g q m nd nn rt c i n:Nat} {W:D} {ps:List D} {rs:List Nat} (T:TabS L t g q m nd nn rt W ps c rs) (hi:i ≤ c) (h:Q (.int (if i = 0 then 0 else (i:Int) + 1)) L):W2 (GN_z9 (n + 1) [.ref t,.int i,.tup []] L) Q:=by
 unfold GN_z9
 refine w_run rfl ?_
 unfold B_z9
 have ht:=T.t_
 have hn:=T.nn_
 wtm_at "z"
 refine br_dec (fun h0 => ?_) (fun h0 => ?_)
 ·wtm_at "z"
  have:i = 0:=by omega
  rw [if_pos this] at h
  exact ⟨rfl,List.prefix_refl _,h⟩
 ·wtm_at "z"
  obtain ⟨j,rfl⟩:∃ j,i = j + 1:=⟨i - 1,by omega⟩
  have ej:(((j + 1:Nat)):Int) = (j:Int) + 1:=by omega
  have lk:=nnE_look (c:=c) (i:=j) (by omega)
  rw [← ej] at lk
  refine br_off (by show (true != (lookN (nnE c) [.inl (.inl (((j + 1:Nat)):Int)),.inr []]).isSome) = false; rw [lk]; rfl) ?_
  wtm_at "z"
  refine g_dt (kk:=[.inl (.inl (((j + 1:Nat)):Int)),.inr []]) hn rfl lk ?_
  rw [if_neg (by omega)] at h
  refine ⟨rfl,List.prefix_refl _,?_⟩
  rw [show (j:Int) + 2 = ((j + 1:Nat):Int) + 1 by omega]
  exact h
theorem try_w {Q:D → Sto → Prop} {L:Sto} {t g q m nd nn rt c:Nat} {W:D} {ps:List D} {rs:List Nat} (T:TabS L t g q m nd nn rt W ps c rs) (l:Int) (h:Q (.ref L.length) (L ++ [.lst [.tup []]])):W2 (G_z3 [.ref t,.int l,.tup []] L) Q:=by
 unfold G_z3
 refine w_runR rfl ?_
 unfold B_z3
 have ht:=T.t_
 obtain ⟨ep,hg⟩:=T.g_
 wtm_at "z"
 refine br_dec (fun h0 => ?_) (fun h0 => ?_)
 ·wtm_at "z"
  refine br_on rfl ?_
  wtm_at "z"
  exact ⟨rfl,h⟩
 ·wtm_at "z"
  exact ⟨rfl,h⟩
theorem behind_w {Q:D → Sto → Prop} {L:Sto} (h:Q (.tup []) L):W2 (G_z10 [.tup [],.tup []] L) Q:=by
 unfold G_z10
 refine w_run rfl ?_
 unfold B_z10
 wtm_at "z"
 refine ⟨[],[[]],rfl,⟨rfl,by decide,rfl⟩,?_⟩
 refine ws_loop_nil rfl ?_
 wtm_at "z"
 exact ⟨rfl,List.prefix_append _ _,h⟩
theorem TabS.pre {L L':Sto} {t g q m nd nn rt c:Nat} {W:D} {ps:List D} {rs:List Nat} (T:TabS L t g q m nd nn rt W ps c rs) (p:L <+: L'):TabS L' t g q m nd nn rt W ps c rs :=
 ⟨pre_at p T.t_,let ⟨ep,h⟩:=T.g_; ⟨ep,pre_at p h⟩,pre_at p T.q_,pre_at p T.nd_,pre_at p T.nn_,T.len,fun i r hr => let ⟨a,ep,n,ne⟩:=T.nod i r hr; ⟨a,ep,⟨pre_at p n.1,pre_at p n.2⟩,ne⟩,T.qn,T.gn⟩
theorem new_node_w {Q:D → Sto → Prop} {L:Sto} {t g q m nd nn rt c n:Nat} {W:D} {ps:List D} {rs:List Nat} (T:TabS L t g q m nd nn rt W ps c rs) (hc:c ≤ 2) (h0:0 < ps.length) (h1:ps.length ≤ 10000)
  (h:∀ L2 r a,L2[nd]? = some (.lst ((rs ++ [r]).map .ref)) → NodeAt L2 r (wy ps.length (c + 2)) a (armsE (c + 2)) 1 → L.length ≤ r → L.length ≤ a → r ≠ a → KeepS [nd] L L2 → Q (.int ((c:Int) + 2)) L2):W2 (GI_z27 (GN_z9 (n + 1)) [.ref t,.int ((c:Int) + 1),.tup []] L) Q:=by
 unfold GI_z27
 refine w_runB rfl ?_
 unfold B_z27
 have ht:=T.t_
 have hndl:=lt_of_get T.nd_
 wtm_at "z"
 refine node_init_w get_last fun L1 n1 l1 k1 => ⟨rfl,?_⟩
 have e1:(L ++ [Ob.ins "Node" []]).length = L.length + 1:=by simp
 rw [e1] at n1 l1
 have p1:L <+: L1:=(((KeepS.app [L.length] L [Ob.ins "Node" []]).trans k1).mono fun j hj => .inr (by simp at hj; omega)).pre
 have T1:=T.pre p1
 wtm_at "z"
 refine try_w T1 _ ?_
 wtm_at "z"
 generalize hL2:L1 ++ [Ob.lst [D.tup []]] = L2
 have p2:L1 <+: L2:=by rw [← hL2]; exact List.prefix_append _ _
 have l2:L2.length = L.length + 3:=by rw [← hL2]; simp [l1]
 have T2:=T1.pre p2
 have a2:L2[L1.length]? = some (.lst [.tup []]):=by rw [← hL2]; exact get_last
 have n2:NodeAt L2 L.length 0 (L.length + 1) [] 0:=⟨pre_at p2 n1.1,pre_at p2 n1.2⟩
 refine ws_loop_cons (decide_eq_true a2) ?_
 wtm_at "z"
 refine behind_w ?_
 wtm_at "z"
 have ec:(c:Int) + 1 - 1 = ((c:Nat):Int):=by omega
 rw [ec]
 refine number_old T2 (Nat.le_refl c) ?_
 generalize hnum:(if c = 0 then 0 else (c:Int) + 1:Int) = num
 obtain ⟨k0,hk0,hk1,hk2⟩:∃ k0:Nat,num = (k0:Int) ∧ k0 < c + 2 ∧ k0 ≠ 1 ∧ (ps.length:Int) * wy ps.length k0 = wy ps.length (c + 2):=by
  subst hnum
  by_cases z:c = 0
  ·subst z; exact ⟨0,rfl,by omega,by omega,by simp [wy]⟩
  ·refine ⟨c + 1,by rw [if_neg z]; omega,by omega,by omega,?_⟩
   obtain ⟨j,rfl⟩:∃ j,c = j + 1:=⟨c - 1,by omega⟩
   show (ps.length:Int) * ((ps.length ^ (j + 1):Nat):Int) = ((ps.length ^ (j + 1 + 1):Nat):Int)
   rw [Nat.pow_succ ps.length (j + 1),Nat.mul_comm]
   push_cast
   rfl
 simp only [c_NOWHERE]
 have n2a:=n2.1
 wtm_at "z"
 refine g_dput (kk:=[]) n2.2 (by decide) rfl ?_
 have en:∀ v:D,putN [] [] v = [([],v)] ∧ epN [] [] 0 = 1:=fun v => ⟨rfl,rfl⟩
 rw [(en _).1,(en .non).2]
 generalize hL3:L2.set (L.length + 1) (.dt [([],.tup [.int 0,.int num])] 1) = L3
 have p3:L <+: L3:=by rw [← hL3]; exact pre_set (p1.trans p2) (by omega)
 have T3:=T.pre p3
 have l3:L3.length = L.length + 3:=by rw [← hL3,List.length_set]; exact l2
 have n3:NodeAt L3 L.length 0 (L.length + 1) [([],.tup [.int 0,.int num])] 1:=by
  rw [← hL3]
  exact ⟨get_setN (by omega) n2.1,get_setS n2.2⟩
 have a3:L3[L1.length]? = some (.lst [.tup []]):=by rw [← hL3]; exact get_setN (by omega) a2
 have ht3:=T3.t_
 obtain ⟨ep3,hg3⟩:=T3.g_
 have hq3:=T3.q_
 have hnd3:=T3.nd_
 obtain ⟨r0,hr0⟩:∃ r0,rs[k0]? = some r0:=⟨rs[k0]'(by rw [T.len]; exact hk1),by simp [T.len,hk1]⟩
 obtain ⟨a0,ep0,m0,_⟩:=T3.nod k0 r0 hr0
 have n3a:=n3.1
 have m0a:=m0.1
 wtm_at "z"
 refine aug_mk n3.1 (by simp) rfl ?_
 wtm_at "z"
 refine g_dt (kk:=[]) hg3 rfl rfl ?_
 wtm_at "z"
 rw [hk0]
 refine g_ixR (d:=.ref r0) hnd3 (atI_nat (by rw [List.getElem?_map,hr0]; rfl)) ?_
 wtm_at "z"
 refine g_mulI (mulOk_l (by omega)) ?_
 refine ⟨_,_,rfl,n3a,by show 2 < 1000; decide,?_⟩
 rw [hk2.2]
 generalize hL4:L3.set L.length (.ins "Node" (putD "ways" (.int (0 + wy ps.length (c + 2))) [("ways",.int 0),("arms",.ref (L.length + 1))])) = L4
 have p4:L <+: L4:=by rw [← hL4]; exact pre_set p3 (Nat.le_refl _)
 have T4:=T.pre p4
 have l4:L4.length = L.length + 3:=by rw [← hL4,List.length_set]; exact l3
 have n4a:L4[L.length]? = some (.ins "Node" [("ways",.int (wy ps.length (c + 2))),("arms",.ref (L.length + 1))]):=by
  rw [← hL4,get_setS n3a,Int.zero_add]; rfl
 have n4b:L4[L.length + 1]? = some (.dt [([],.tup [.int 0,.int num])] 1):=by rw [← hL4]; exact get_setN (by omega) n3.2
 have a4:L4[L1.length]? = some (.lst [.tup []]):=by rw [← hL4]; exact get_setN (by omega) a3
 have ht4:=T4.t_
 have hnd4:=T4.nd_
 have wpos:0 < wy ps.length (c + 2):=by
  show 0 < ((ps.length ^ (c + 1):Nat):Int)
  have:=Nat.pow_pos (n:=c + 1) h0
  omega
 refine ws_loop_nil (decide_eq_true a4) ?_
 wtm_at "z"
 refine g_append hnd4 (by rw [List.length_map,T.len]; omega) ?_
 wtm_at "z"
 have hnd5:(L4.set nd (.lst (rs.map D.ref ++ [.ref L.length])))[nd]? = some (.lst (rs.map D.ref ++ [.ref L.length])):=get_setS hnd4
 have ht5:(L4.set nd (.lst (rs.map D.ref ++ [.ref L.length])))[t]? = some (.ins "Table" (tabF W g m nd nn rt)):=get_setO hnd4 ht4 (by simp)
 wtm_at "z"
 have el:(((rs.map D.ref ++ [D.ref L.length]).length:Nat):Int) - 1 = (c:Int) + 2:=by rw [List.length_append,List.length_map,T.len]; simp
 rw [el]
 refine ⟨fun hp _ => ?_,h _ L.length (L.length + 1) (by rw [hnd5]; simp) ⟨get_setN (by omega) n4a,?_⟩ (Nat.le_refl _) (by omega) (by omega) ((KeepS.of_pre p4).set (.inl (by simp)))⟩
 ·have:=pre_at hp T.nd_
  rw [hnd5] at this
  have:=congrArg List.length (Ob.lst.inj (Option.some.inj this))
  simp at this
 ·rw [get_setN (by omega) n4b]
  subst hnum
  rfl
theorem number_new {Q:D → Sto → Prop} {L:Sto} {t g q m nd nn rt c n:Nat} {W:D} {ps:List D} {rs:List Nat} (T:TabS L t g q m nd nn rt W ps c rs) (hc:c ≤ 2) (h0:0 < ps.length) (h1:ps.length ≤ 10000)
  (h:∀ L2 rs',TabS L2 t g q m nd nn rt W ps (c + 1) rs' → KeepS [nd,nn] L L2 → Q (.int ((c:Int) + 2)) L2):W2 (GN_z9 (n + 2) [.ref t,.int ((c:Int) + 1),.tup []] L) Q:=by
 unfold GN_z9
 refine w_runB rfl ?_
 unfold B_z9
 have ht:=T.t_
 have hnn:=T.nn_
 wtm_at "z"
 have lk0:lookN (nnE c) [.inl (.inl ((c:Int) + 1)),.inr []] = none:=look_none (nnE_out c)
 refine br_on (by show (true != (lookN (nnE c) [.inl (.inl ((c:Int) + 1)),.inr []]).isSome) = true; rw [lk0]; rfl) ?_
 wtm_at "z"
 refine new_node_w T hc h0 h1 fun L2 r a hnd2 nod2 hr ha hra k2 => ?_
 have net:t ≠ nd:=fun e => by have:=T.nd_; rw [← e,T.t_] at this; cases this
 have nen:nn ≠ nd:=fun e => by have:=T.nd_; rw [← e,T.nn_] at this; cases this
 have ht2:L2[t]? = some (.ins "Table" (tabF W g m nd nn rt)):=k2.get (by simpa using net) T.t_
 have hnn2:L2[nn]? = some (.dt (nnE c) c):=k2.get (by simpa using nen) T.nn_
 wtm_at "z"
 refine g_dput (kk:=[.inl (.inl ((c:Int) + 1)),.inr []]) hnn2 (by unfold nnE; simp; omega) rfl ?_
 have hput:=fun d ep => put_new (d:=d) (ep:=ep) (nnE_out c)
 rw [(hput _ 0).1,(hput .non _).2]
 have en:nnE c ++ [([Sum.inl (.inl ((c:Int) + 1)),.inr []],D.int ((c:Int) + 2))] = nnE (c + 1):=by
  unfold nnE; rw [List.range_succ,List.map_append]; rfl
 rw [en]
 have hnl:=lt_of_get T.nn_
 have hnn3:(L2.set nn (.dt (nnE (c + 1)) (c + 1)))[nn]? = some (.dt (nnE (c + 1)) (c + 1)):=get_setS hnn2
 have ht3:(L2.set nn (.dt (nnE (c + 1)) (c + 1)))[t]? = some (.ins "Table" (tabF W g m nd nn rt)):=get_setO hnn2 ht2 (by simp)
 wtm_at "z"
 refine g_dt (kk:=[.inl (.inl ((c:Int) + 1)),.inr []]) hnn3 rfl (nnE_look (by omega)) ?_
 have k3:KeepS [nd,nn] L (L2.set nn (.dt (nnE (c + 1)) (c + 1))):=(k2.mono fun j hj => .inl (by simp at hj; simp [hj])).set (.inl (by simp))
 refine ⟨fun hp _ => ?_,h _ (rs ++ [r]) ⟨ht3,?_,?_,?_,hnn3,by rw [List.length_append,T.len]; simp,fun i x hx => ?_,T.qn,T.gn⟩ k3⟩
 ·have:=pre_at hp T.nn_
  rw [hnn3] at this
  have:=congrArg (fun o => match o with | some (Ob.dt _ e) => e | _ => 0) this
  simp at this
 ·obtain ⟨ep,hg⟩:=T.g_
  refine ⟨ep,k3.get ?_ hg⟩
  have:g ≠ nd:=fun e => by have:=T.nd_; rw [← e,hg] at this; cases this
  simp [this,T.gn]
 ·refine k3.get ?_ T.q_
  have:q ≠ nn:=fun e => by have:=T.nn_; rw [← e,T.q_] at this; cases this
  simp [this,T.qn]
 ·exact get_setO hnn2 hnd2 (by simp)
 ·by_cases hi:i < rs.length
  ·rw [List.getElem?_append_left hi] at hx
   obtain ⟨a',ep',n',ne'⟩:=T.nod i x hx
   refine ⟨a',ep',⟨k3.get ?_ n'.1,k3.get ?_ n'.2⟩,ne'⟩
   ·have z1:x ≠ nd:=fun e => by have:=T.nd_; rw [← e,n'.1] at this; cases this
    have z2:x ≠ nn:=fun e => by have:=T.nn_; rw [← e,n'.1] at this; cases this
    simp [z1,z2]
   ·have z1:a' ≠ nd:=fun e => by have:=T.nd_; rw [← e,n'.2] at this; cases this
    simp [z1,ne']
  ·have hi':i = c + 2:=by
    have:=(List.getElem?_eq_some_iff.mp hx).1
    rw [List.length_append,T.len] at this
    rw [T.len] at hi
    simp at this
    omega
   subst hi'
   rw [List.getElem?_append_right (by rw [T.len]; exact Nat.le_refl _),T.len,Nat.sub_self] at hx
   cases hx
   refine ⟨a,1,⟨get_setO hnn2 nod2.1 (by simp),?_⟩,by omega⟩
   rw [List.getElem?_set_ne (by omega)]
   exact nod2.2
end L3
set_option maxHeartbeats 4000000
--BEGIN WPT
--END WPT
namespace L3
open PySem PySem.Spec PyProof.Rows L2
noncomputable def kfD (d:D):NK:=(dNK d).getD []
theorem kf_of {d:D} (h:(dNK d).isSome = true):dNK d = some (kfD d):=by
 unfold kfD
 cases e:dNK d with
 | none => rw [e] at h; cases h
 | some k => rfl
theorem betw_nd {d:Str} {xs ys:List D} (hx:xs.Nodup) (hy:ys.Nodup):(betw d xs ys).Nodup:=by
 unfold betw List.Nodup
 rw [List.pairwise_flatMap]
 refine ⟨fun x _ => ?_,hx.imp fun {a b} h u hu v hv e => ?_⟩
 ·rw [List.pairwise_map]
  exact hy.imp fun h e => h (by simpa using e)
 ·obtain ⟨y,_,rfl⟩:=List.mem_map.mp hu
  obtain ⟨z,_,rfl⟩:=List.mem_map.mp hv
  exact h (by simp at e; exact e.1)
theorem places_nd:places.Nodup:=by decide +kernel
theorem deeds_nd:(deedsS.flatMap fun d => betw d places places).Nodup:=by
 unfold List.Nodup
 rw [List.pairwise_flatMap]
 refine ⟨fun d _ => betw_nd places_nd places_nd,?_⟩
 have:deedsS.Nodup:=by decide +kernel
 refine this.imp fun {a b} h u hu v hv e => ?_
 unfold betw at hu hv
 simp only [List.mem_flatMap,List.mem_map] at hu hv
 obtain ⟨x,_,y,_,rfl⟩:=hu
 obtain ⟨x',_,y',_,rfl⟩:=hv
 exact h (by simp at e; exact e.1)
theorem mem_deeds {p:D} (h:p ∈ deedsS.flatMap fun d => betw d places places):∃ d x y,d ∈ deedsS ∧ IsPlace x ∧ IsPlace y ∧ p = .tup [.str d,x,y]:=by
 unfold betw at h
 simp only [List.mem_flatMap,List.mem_map] at h
 obtain ⟨d,hd,x,hx,y,hy,rfl⟩:=h
 exact ⟨d,x,y,hd,places_is x hx,places_is y hy,rfl⟩
theorem pieces_nd {ws:List Str} (h:ws.Nodup):(piecesOf ws).Nodup:=by
 unfold piecesOf
 rw [List.nodup_append]
 refine ⟨?_,deeds_nd,fun a ha b hb e => ?_⟩
 ·unfold List.Nodup
  rw [List.pairwise_map]
  exact h.imp fun h e => h (by simpa [wpc] using e)
 ·obtain ⟨w,_,rfl⟩:=List.mem_map.mp ha
  obtain ⟨d,x,y,_,_,_,rfl⟩:=mem_deeds hb
  simp [wpc] at e
theorem piece_key {ws:List Str} {p:D} (h:p ∈ piecesOf ws):dNK p = some (kfD p):=by
 refine kf_of ?_
 unfold piecesOf at h
 rcases List.mem_append.mp h with h | h
 ·obtain ⟨w,_,rfl⟩:=List.mem_map.mp h; rfl
 ·obtain ⟨d,x,y,_,hx,hy,rfl⟩:=mem_deeds h
  obtain ⟨k,n,e,rfl,_⟩:=hx
  obtain ⟨k',n',e',rfl,_⟩:=hy
  rfl
theorem kf_nd {ws:List Str} (h:ws.Nodup):((piecesOf ws).map kfD).Nodup:=by
 unfold List.Nodup
 rw [List.pairwise_map]
 refine List.Pairwise.imp_of_mem ?_ (pieces_nd h)
 intro a b ha hb hab e
 have h1:=dNK_is (piece_key ha)
 have h2:=dNK_is (piece_key hb)
 exact hab (by rw [h1,h2,e])
theorem pieces_len (ws:List Str):(piecesOf ws).length = ws.length + 4800:=by
 unfold piecesOf
 rw [List.length_append,List.length_map,deeds_len]; rfl
theorem TabS.set {L:Sto} {t g q m nd nn rt c k:Nat} {W:D} {ps xs:List D} {rs:List Nat} (T:TabS L t g q m nd nn rt W ps c rs) (hk:L[k]? = some (.lst xs)) (h1:k ≠ nd) (h2:k ≠ q) (o:Ob):TabS (L.set k o) t g q m nd nn rt W ps c rs:=by
 obtain ⟨ep,hg⟩:=T.g_
 refine ⟨get_setO hk T.t_ (by simp),⟨ep,get_setO hk hg (by simp)⟩,get_setN h2 T.q_,get_setN h1 T.nd_,get_setO hk T.nn_ (by simp),T.len,fun i r hr => ?_,T.qn,T.gn⟩
 obtain ⟨a,ep,n,ne⟩:=T.nod i r hr
 exact ⟨a,ep,⟨get_setO hk n.1 (by simp),get_setO hk n.2 (by simp)⟩,ne⟩
noncomputable def Tab (L:Sto) (t:Nat) (ws:List Str):Prop:=∃ g q m nd nn rt rs,TabS L t g q m nd nn rt (.tup (ws.map D.str)) (piecesOf ws) 3 rs ∧ L[m]? = some (.dt (memb kfD (piecesOf ws)) (piecesOf ws).length) ∧ L[rt]? = some (.lst [.int 2,.int 3,.int 4])
theorem Tab.pre {L L':Sto} {t:Nat} {ws:List Str} (h:Tab L t ws) (p:L <+: L'):Tab L' t ws:=by
 obtain ⟨g,q,m,nd,nn,rt,rs,T,hm,hr⟩:=h
 exact ⟨g,q,m,nd,nn,rt,rs,T.pre p,pre_at p hm,pre_at p hr⟩
theorem table_w {Q:D → Sto → Prop} {L:Sto} {w ex:Nat} {ws:List Str} (hw:L[w]? = some (.lst (ws.map D.str))) (hl:ws.length ≤ 6) (hnd:ws.Nodup) (he:L[ex]? = some (.lst []))
  (h:∀ L2 t,L <+: L2 → Tab L2 t ws → Q (.ref t) L2):W2 (G_z26 [.ref w,.ref ex] L) Q:=by
 unfold G_z26
 refine w_runR rfl ?_
 unfold B_z26
 wtm_at "z"
 refine wc_nil (decide_eq_true (get_app get_last)) ?_
 wtm_at "z"
 refine wc_nil (decide_eq_true (get_app (get_app get_last))) ?_
 wtm_at "z"
 refine groups_w (get_app (get_app (get_app hw))) hl (get_app get_last) fun L1 q p1 g1 q1 hq => ?_
 generalize hG:(L ++ [Ob.lst []] ++ [Ob.lst []] ++ [Ob.lst []]).length = g at g1 hq ⊢
 have hG':g = L.length + 3:=by rw [← hG]; simp
 have p1':L <+: L1:=((List.prefix_append _ _).trans ((List.prefix_append _ _).trans (List.prefix_append _ _))).trans p1
 have hl1:=p1'.length_le
 have hql:=lt_of_get q1
 wtm_at "z"
 refine table_init_w (kf:=kfD) (ps:=piecesOf ws) get_last (get_app g1) (get_app q1) (fun p hp => piece_key hp) (kf_nd hnd) (by rw [pieces_len]; omega) fun L2 l2 k2 t2 m2 n2 a2 b2 nn2 rt2 => ⟨rfl,?_⟩
 have e1:(L1 ++ [Ob.ins "Table" []]).length = L1.length + 1:=by simp
 rw [e1] at t2 m2 n2 a2 b2 nn2 rt2 l2
 generalize hN:L1.length = N at *
 have gl:g < N:=by rw [← hN]; exact lt_of_get g1
 have q2:L2[q]? = some (.lst (piecesOf ws)):=k2.get (by simp; omega) (get_app q1)
 have g2:L2[g]? = some (.dt [([],.ref q)] 1):=k2.get (by simp; omega) (get_app g1)
 have T2:TabS L2 N g q (N + 1) (N + 1 + 5) (N + 1 + 6) (N + 1 + 7) (.tup (ws.map D.str)) (piecesOf ws) 0 [N + 1 + 1,N + 1 + 3] :=
  ⟨t2,⟨1,g2⟩,q2,n2,nn2,rfl,fun i r hr => by
   match i,hr with
   | 0,hr => cases hr; exact ⟨_,_,a2,by omega⟩
   | 1,hr => cases hr; exact ⟨_,_,b2,by omega⟩
   | i + 2,hr => simp at hr,by omega,by omega⟩
 have p2:L <+: L2:=by
  have:KeepS [N] L1 L2:=(KeepS.app _ _ _).trans k2
  exact p1'.trans (this.mono fun j hj => .inr (by simp at hj; omega)).pre
 simp only [c_ROW_LENGTHS]
 have ht2:=T2.t_
 wtm_at "z"
 generalize hM:L2.length = M at *
 refine wc_inv (I:=fun j ρ L' => (∃ e,ρ = [e,some (.ref N),some (.tup [])]) ∧ (∃ rs,TabS L' N g q (N + 1) (N + 1 + 5) (N + 1 + 6) (N + 1 + 7) (.tup (ws.map D.str)) (piecesOf ws) j rs) ∧ KeepS [N + 1 + 5,N + 1 + 6] L2 L' ∧ L'[M]? = some (.lst (([2,3,4]:List Int).take j |>.map D.int))) _ 0 _ _ ⟨⟨_,rfl⟩,⟨_,T2.pre (List.prefix_append _ _)⟩,.app _ _ _,by rw [← hM]; exact get_last⟩ ?_ ?_
 ·rintro i x ρ L' hx ⟨⟨e,rfl⟩,⟨rs,T⟩,k',hM'⟩
  refine ⟨rfl,?_⟩
  have hi:i < 3 ∧ x = .int ((i:Int) + 1):=by
   match i,hx with
   | 0,hx => cases hx; exact ⟨by decide,rfl⟩
   | 1,hx => cases hx; exact ⟨by decide,rfl⟩
   | 2,hx => cases hx; exact ⟨by decide,rfl⟩
   | i + 3,hx => simp at hx
  obtain ⟨hi,rfl⟩:=hi
  wtm_at "z"
  rw [Nat.zero_add] at T
  refine number_new (n:=3) T (by omega) (by rw [pieces_len]; omega) (by rw [pieces_len]; omega) fun L3 rs' T3 k3 => ?_
  have hM3:L3[M]? = some (.lst (([2,3,4]:List Int).take (0 + i) |>.map D.int)):=k3.get (by simp; omega) hM'
  refine ⟨_,hM3,by simp; omega,⟨_,rfl⟩,⟨rs',?_⟩,?_,?_⟩
  ·rw [Nat.zero_add]
   exact T3.set hM3 (by omega) (by omega) _
  ·exact (k'.trans k3).set (.inr (by omega))
  ·rw [get_setS hM3]
   match i,hi with
   | 0,_ => rfl
   | 1,_ => rfl
   | 2,_ => rfl
 ·rintro ρ L' ⟨⟨e,rfl⟩,⟨rs,T⟩,k',hM'⟩
  refine ⟨rfl,?_⟩
  have rt':L'[N + 1 + 7]? = some (.lst []):=k'.get (by simp) rt2
  wtm_at "z"
  refine g_extend rt' hM' (by decide) ?_
  wtm_at "z"
  have m':L'[N + 1]? = some (.dt (memb kfD (piecesOf ws)) (piecesOf ws).length):=k'.get (by simp) m2
  refine ⟨rfl,h _ N ?_ ⟨g,q,N + 1,N + 1 + 5,N + 1 + 6,N + 1 + 7,rs,T.set rt' (by omega) (by omega) _,get_setO rt' m' (by simp),?_⟩⟩
  ·exact (((KeepS.of_pre p2).step k' fun j hj => .inr (by simp at hj; omega)).set (.inr (by omega))).pre
  ·rw [get_setS rt']; rfl
end L3
set_option maxHeartbeats 4000000
--BEGIN WPT
--END WPT
namespace L3
open PySem PySem.Spec PyProof.Rows L2
noncomputable def inL (d:D) (ws:List D):Bool:=match d with | .str _ => inD d ws | _ => false
noncomputable def nthB (d:D):Bool:=match d with | .int i => inD (.int i) [.int 1,.int 2,.int (-1),.int (-2)] | _ => false
noncomputable def kindsL:List D:=[.str "small",.str "great",.str "figure",.str "mark",.str "any"]
noncomputable def edgesL:List D:=[.str "ahead",.str "behind"]
theorem among_w {Q:D → Sto → Prop} {L:Sto} {d:D} {ws:List D} {t:String} (ht:tyName d L = some t) (hw:ws.all flatD = true) (h:Q (.bl (inL d ws)) L):W2 (G_z4 [d,.tup ws] L) Q:=by
 unfold G_z4
 refine w_run rfl ?_
 unfold B_z4
 wtm_at "z"
 cases d with
 | str s =>
  refine g_instT rfl rfl rfl ?_
  wtm_at "z"
  refine g_inT (by rw [hw]; rfl) ?_
  exact ⟨rfl,List.prefix_refl _,h⟩
 | non => refine g_instF rfl rfl rfl ?_; wtm_at "z"; exact ⟨rfl,List.prefix_refl _,h⟩
 | bl b => refine g_instF rfl rfl rfl ?_; wtm_at "z"; exact ⟨rfl,List.prefix_refl _,h⟩
 | int b => refine g_instF rfl rfl rfl ?_; wtm_at "z"; exact ⟨rfl,List.prefix_refl _,h⟩
 | tup b => refine g_instF rfl rfl rfl ?_; wtm_at "z"; exact ⟨rfl,List.prefix_refl _,h⟩
 | fz b => refine g_instF rfl rfl rfl ?_; wtm_at "z"; exact ⟨rfl,List.prefix_refl _,h⟩
 | ty b => cases ht
 | ref k =>
  have:t = "list" ∨ t = "dict":=by
   simp only [tyName] at ht
   split at ht
   ·cases ht; exact .inl rfl
   ·cases ht; exact .inr rfl
   ·cases ht
  rcases this with rfl | rfl
  ·refine g_instF rfl ht rfl ?_; wtm_at "z"; exact ⟨rfl,List.prefix_refl _,h⟩
  ·refine g_instF rfl ht rfl ?_; wtm_at "z"; exact ⟨rfl,List.prefix_refl _,h⟩
theorem nth_w {Q:D → Sto → Prop} {L:Sto} {d:D} {t:String} (ht:tyName d L = some t) (h:Q (.bl (nthB d)) L):W2 (G_z35 [d] L) Q:=by
 unfold G_z35
 refine w_run rfl ?_
 simp only [B_z35,c_NTHS]
 wtm_at "z"
 cases d with
 | int i =>
  refine g_instT rfl rfl rfl ?_
  wtm_at "z"
  refine g_inT rfl ?_
  exact ⟨rfl,List.prefix_refl _,h⟩
 | non => refine g_instF rfl rfl rfl ?_; wtm_at "z"; exact ⟨rfl,List.prefix_refl _,h⟩
 | bl b => refine g_instT rfl rfl rfl ?_; wtm_at "z"; exact ⟨rfl,List.prefix_refl _,h⟩
 | str b => refine g_instF rfl rfl rfl ?_; wtm_at "z"; exact ⟨rfl,List.prefix_refl _,h⟩
 | tup b => refine g_instF rfl rfl rfl ?_; wtm_at "z"; exact ⟨rfl,List.prefix_refl _,h⟩
 | fz b => refine g_instF rfl rfl rfl ?_; wtm_at "z"; exact ⟨rfl,List.prefix_refl _,h⟩
 | ty b => cases ht
 | ref k =>
  have:t = "list" ∨ t = "dict":=by
   simp only [tyName] at ht
   split at ht
   ·cases ht; exact .inl rfl
   ·cases ht; exact .inr rfl
   ·cases ht
  rcases this with rfl | rfl
  ·refine g_instF rfl ht rfl ?_; wtm_at "z"; exact ⟨rfl,List.prefix_refl _,h⟩
  ·refine g_instF rfl ht rfl ?_; wtm_at "z"; exact ⟨rfl,List.prefix_refl _,h⟩
theorem place3_w {Q:D → Sto → Prop} {L:Sto} {a b c:D} {ta tb tc:String} (ha:tyName a L = some ta) (hb:tyName b L = some tb) (hc:tyName c L = some tc) (h:Q (.bl (inL a kindsL && (nthB b && inL c edgesL))) L):W2 (G_z25 [.tup [a,b,c]] L) Q:=by
 unfold G_z25
 refine w_run rfl ?_
 simp only [B_z25,c_KINDS,c_EDGES]
 wtm_at "z"
 refine among_w ha rfl ?_
 wtm_at "z"
 have ea:inL a [.str "small",.str "great",.str "figure",.str "mark",.str "any"] = inL a kindsL:=rfl
 have ec:inL c [.str "ahead",.str "behind"] = inL c edgesL:=rfl
 rw [ea]
 cases h1:inL a kindsL with
 | false => rw [h1] at h; wtm_at "z"; exact ⟨rfl,List.prefix_refl _,h⟩
 | true =>
  rw [h1,Bool.true_and] at h
  wtm_at "z"
  refine nth_w hb ?_
  wtm_at "z"
  cases h2:nthB b with
  | false => rw [h2] at h; wtm_at "z"; exact ⟨rfl,List.prefix_refl _,h⟩
  | true =>
   rw [h2,Bool.true_and] at h
   wtm_at "z"
   refine among_w hc rfl ?_
   rw [ec]
   exact ⟨rfl,List.prefix_refl _,h⟩
theorem kind_in {kind:Str} (h:kind ∈ ([("small":Str),"great","figure","mark","any"]:List Str)):inL (.str kind) kindsL = true:=by
 simp only [List.mem_cons,List.not_mem_nil,or_false] at h
 rcases h with rfl | rfl | rfl | rfl | rfl <;> decide +kernel
theorem edge_in {edge:Str} (h:edge = "ahead" ∨ edge = "behind"):inL (.str edge) edgesL = true:=by rcases h with rfl | rfl <;> decide +kernel
theorem nth_in {n:Int} (h:NthOk n):nthB (.int n) = true:=by rcases h with rfl | rfl | rfl | rfl <;> decide +kernel
theorem isplace_w {Q:D → Sto → Prop} {L:Sto} {p:D} (hp:IsPlace p) (h:Q (.bl true) L):W2 (G_z25 [p] L) Q:=by
 obtain ⟨kind,nth,edge,rfl,hn,he,hk⟩:=hp
 refine place3_w rfl rfl rfl ?_
 rw [kind_in hk,nth_in hn,edge_in he]
 exact h
theorem many_w {Q:D → Sto → Prop} {L:Sto} {t:Nat} {ws:List Str} (T:Tab L t ws) (h:Q (.int (wy (piecesOf ws).length 2 + (wy (piecesOf ws).length 3 + (wy (piecesOf ws).length 4 + 0)))) L):W2 (G_z37 [.ref t] L) Q:=by
 obtain ⟨g,q,m,nd,nn,rt,rs,T,hm,hr⟩:=T
 unfold G_z37
 refine w_run rfl ?_
 unfold B_z37
 have ht:=T.t_
 wtm_at "z"
 refine wc_fun (fun ρ => ∃ e,ρ = [e,some (.ref t)]) (fun x => match x with | .int i => .int (wy (piecesOf ws).length i.toNat) | _ => .non) (fun acc => decide_eq_true (get_app hr)) ⟨_,rfl⟩ (by decide) ?_ ?_
 ·rintro x hx ρ ⟨e,rfl⟩
  wtm_at "z"
  refine ⟨⟨_,rfl⟩,fun acc => ?_⟩
  have ht':(L ++ [Ob.lst acc])[t]? = _:=get_app ht
  obtain ⟨i,hi,rfl⟩:∃ i:Nat,i < 5 ∧ x = .int (i:Int):=by
   simp only [List.mem_cons,List.not_mem_nil,or_false] at hx
   rcases hx with rfl | rfl | rfl
   ·exact ⟨2,by decide,rfl⟩
   ·exact ⟨3,by decide,rfl⟩
   ·exact ⟨4,by decide,rfl⟩
  obtain ⟨r0,hr0⟩:∃ r0,rs[i]? = some r0:=⟨rs[i]'(by rw [T.len]; exact hi),by simp [T.len,hi]⟩
  obtain ⟨a0,ep0,m0,_⟩:=T.nod i r0 hr0
  have m0a:(L ++ [Ob.lst acc])[r0]? = _:=get_app m0.1
  wtm_at "z"
  refine g_ixR (d:=.ref r0) (get_app T.nd_) (atI_nat (by rw [List.getElem?_map,hr0]; rfl)) ?_
  wtm_at "z"
  exact ⟨rfl,rfl⟩
 ·wtm_at "z"
  refine g_sum get_last rfl ?_
  refine ⟨rfl,List.prefix_append _ _,?_⟩
  exact h
theorem tupof_w {Q:D → Sto → Prop} {L:Sto} {n:Int} {xs:List D} (h:Q (.bl (decide ((xs.length:Int) = n))) L):W2 (G_z8 [.int n,.tup xs] L) Q:=by
 unfold G_z8
 refine w_run rfl ?_
 unfold B_z8
 wtm_at "z"
 exact ⟨rfl,List.prefix_refl _,h⟩
theorem isWord_w {Q:D → Sto → Prop} {L:Sto} {w:Str} {ws:List Str} (h:Q (.bl (decide (w ∈ ws))) L):W2 (G_z4 [.str w,.tup (ws.map D.str)] L) Q:=by
 refine among_w (t:="str") rfl (flat_strs ws) ?_
 show Q (.bl (inD (.str w) (ws.map D.str))) L
 rw [inD_strs]
 exact h
theorem stretch_w {Q:D → Sto → Prop} {L:Sto} {d:Str} {x y:D} (hd:d ∈ deedsS) (hx:IsPlace x) (hy:IsPlace y) (h:Q (.bl true) L):W2 (G_z17 [.tup [.str d,x,y]] L) Q:=by
 unfold G_z17
 refine w_run rfl ?_
 unfold B_z17
 wtm_at "z"
 refine tupof_w ?_
 wtm_at "z"
 refine isWord_w (ws:=deedsS) ?_
 rw [decide_eq_true hd]
 wtm_at "z"
 refine isplace_w hx ?_
 wtm_at "z"
 refine isplace_w hy ?_
 exact ⟨rfl,List.prefix_refl _,h⟩
theorem used_w {Q:D → Sto → Prop} {L:Sto} {t:Nat} {ws:List Str} {p:D} (T:Tab L t ws) (hp:p ∈ piecesOf ws) (h:Q (.bl true) L):W2 (G_z11 [.ref t,p] L) Q:=by
 obtain ⟨g,q,m,nd,nn,rt,rs,T,hm,hr⟩:=T
 have ht:=T.t_
 unfold G_z11
 refine w_run rfl ?_
 unfold B_z11
 unfold piecesOf at hp
 rcases List.mem_append.mp hp with hp | hp
 ·obtain ⟨w,hw,rfl⟩:=List.mem_map.mp hp
  unfold wpc
  wtm_at "z"
  refine tupof_w ?_
  wtm_at "z"
  refine isWord_w (ws:=["word"]) ?_
  wtm_at "z"
  refine isWord_w ?_
  rw [decide_eq_true hw]
  exact ⟨rfl,List.prefix_refl _,h⟩
 ·obtain ⟨d,x,y,hd,hx,hy,rfl⟩:=mem_deeds hp
  wtm_at "z"
  refine tupof_w ?_
  wtm_at "z"
  refine stretch_w hd hx hy ?_
  exact ⟨rfl,List.prefix_refl _,h⟩
theorem used_no {Q:D → Sto → Prop} {L:Sto} {t:Nat} {ws:List Str} {w:Str} (T:Tab L t ws) (hw:w ∉ ws) (h:Q (.bl false) L):W2 (G_z11 [.ref t,wpc w] L) Q:=by
 obtain ⟨g,q,m,nd,nn,rt,rs,T,hm,hr⟩:=T
 have ht:=T.t_
 unfold G_z11
 refine w_run rfl ?_
 unfold B_z11 wpc
 wtm_at "z"
 refine tupof_w ?_
 wtm_at "z"
 refine isWord_w (ws:=["word"]) ?_
 wtm_at "z"
 refine isWord_w ?_
 rw [decide_eq_false hw]
 exact ⟨rfl,List.prefix_refl _,h⟩
theorem rowOf_w {Q:D → Sto → Prop} {L:Sto} {t:Nat} {ws:List Str} {ps:List D} (ok:D → Bool) (T:Tab L t ws) (h1:1 ≤ ps.length) (h3:ps.length ≤ 3) (hp:∀ p ∈ ps,∀ (L:Sto) (Q:D → Sto → Prop),Tab L t ws → Q (.bl (ok p)) L → W2 (G_z11 [.ref t,p] L) Q) (h:Q (.bl (ps.all ok)) L):W2 (G_z0 [.ref t,.tup ps] L) Q:=by
 unfold G_z0
 refine w_run rfl ?_
 unfold B_z0
 simp only [c_ROW_LENGTHS]
 wtm_at "z"
 refine g_notinT rfl ?_
 have e1:inD (.int (ps.length:Int)) [.int 1,.int 2,.int 3] = true:=by
  match ps,h1,h3 with
  | [_],_,_ => rfl
  | [_,_],_,_ => rfl
  | [_,_,_],_,_ => rfl
 rw [e1]
 wtm_at "z"
 refine wc_fun (fun ρ => ∃ e,ρ = [e,some (.ref t)]) (fun p => .bl (ok p)) (fun acc => rfl) ⟨_,rfl⟩ (by omega) ?_ ?_
 ·rintro x hx ρ ⟨e,rfl⟩
  wtm_at "z"
  refine ⟨⟨_,rfl⟩,fun acc => ?_⟩
  wtm_at "z"
  exact hp x hx _ _ (T.pre (List.prefix_append _ _)) ⟨rfl,rfl⟩
 ·wtm_at "z"
  have e2:∀ l:List D,blsD (l.map fun p => .bl (ok p)) = some (l.map ok):=fun l => by
   induction l with
   | nil => rfl
   | cons x l ih => simp [blsD,ih]
  refine g_all get_last (e2 ps) ?_
  refine ⟨rfl,List.prefix_append _ _,?_⟩
  rw [List.all_map]
  exact h
end L3
set_option maxHeartbeats 4000000
--BEGIN WPT
--END WPT
namespace L3
open PySem PySem.Spec PyProof.Rows L2
noncomputable def kix:Nat → Nat
 | 0 => 0
 | i + 1 => i + 2
theorem wy_kix (n i:Nat):wy n (kix i) = ((n ^ i:Nat):Int):=by
 cases i with
 | zero => simp [kix,wy]
 | succ i => rfl
noncomputable def dig (n:Nat):List Nat → Nat
 | [] => 0
 | i :: is => i * n ^ is.length + dig n is
noncomputable def digs (n:Nat):Nat → Nat → List Nat
 | 0,_ => []
 | l + 1,z => (z / n ^ l) :: digs n l (z % n ^ l)
theorem digs_len (n:Nat):∀ l z,(digs n l z).length = l
 | 0,_ => rfl
 | l + 1,z => by simp [digs,digs_len n l]
theorem dig_digs {n:Nat} (h:0 < n):∀ l z,z < n ^ l → dig n (digs n l z) = z
 | 0,z,hz => by simp at hz; simp [digs,dig,hz]
 | l + 1,z,hz => by
  have hp:0 < n ^ l:=Nat.pow_pos h
  rw [digs,dig,digs_len,dig_digs h l _ (Nat.mod_lt _ hp),Nat.mul_comm]
  exact Nat.div_add_mod z (n ^ l)
theorem digs_lt {n:Nat} (h:0 < n):∀ l z,z < n ^ l → ∀ i ∈ digs n l z,i < n
 | 0,_,_,i,hi => nomatch hi
 | l + 1,z,hz,i,hi => by
  have hp:0 < n ^ l:=Nat.pow_pos h
  rcases List.mem_cons.mp hi with e | hi
  ·rw [e]
   exact Nat.div_lt_of_lt_mul (by rw [← Nat.pow_succ]; exact hz)
  ·exact digs_lt h l _ (Nat.mod_lt _ hp) i hi
theorem dig_lt {n:Nat}:∀ idx:List Nat,(∀ i ∈ idx,i < n) → dig n idx < n ^ idx.length
 | [],_ => by simp [dig]
 | i :: is,h => by
  have h1:=h i List.mem_cons_self
  have h2:=dig_lt is fun j hj => h j (List.mem_cons_of_mem _ hj)
  rw [dig,List.length_cons,Nat.pow_succ]
  have h3:(i + 1) * n ^ is.length ≤ n * n ^ is.length:=Nat.mul_le_mul_right _ h1
  rw [Nat.add_mul,Nat.one_mul] at h3
  rw [Nat.mul_comm (n ^ is.length) n]
  omega
theorem digs_dig {n:Nat}:∀ idx:List Nat,(∀ i ∈ idx,i < n) → digs n idx.length (dig n idx) = idx
 | [],_ => rfl
 | i :: is,h => by
  have h2:=dig_lt is fun j hj => h j (List.mem_cons_of_mem _ hj)
  have hp:0 < n ^ is.length:=Nat.lt_of_le_of_lt (Nat.zero_le _) h2
  rw [dig,List.length_cons,digs]
  have e1:(i * n ^ is.length + dig n is) / n ^ is.length = i:=by
   rw [Nat.add_comm,Nat.add_mul_div_right _ _ hp,Nat.div_eq_of_lt h2,Nat.zero_add]
  have e2:(i * n ^ is.length + dig n is) % n ^ is.length = dig n is:=by
   rw [Nat.add_comm,Nat.add_mul_mod_self_right,Nat.mod_eq_of_lt h2]
  rw [e1,e2,digs_dig is fun j hj => h j (List.mem_cons_of_mem _ hj)]
noncomputable def bas (n:Nat):Nat → Nat
 | 2 => n ^ 1
 | 3 => n ^ 1 + n ^ 2
 | _ => 0
noncomputable def wyD (n:Nat):D → D
 | .int i => .int (wy n i.toNat)
 | _ => .non
theorem ways_w {ok:Sto → Bool} {L0:Sto} {Q:Sto → Prop} {xs:List D} {ρ:Fm} {t g q m nd nn rt:Nat} {W:D} {P:List D} {rs:List Nat} (T:TabS L0 t g q m nd nn rt W P 3 rs) (hok:∀ acc,ok (L0 ++ [.lst acc]) = true) (hx:∀ x ∈ xs,∃ i:Nat,i < 5 ∧ x = .int (i:Int)) (hl:xs.length ≤ 100) (hρ:∃ e,ρ = [e,some (.ref t)])
  (h:Q (L0 ++ [.lst (xs.map (wyD P.length))])):W1 (compL ok (gNameF 0) trueT (un1 (gFld ["Node"] "ways") (bin2 gIx (un1 (gFld ["Table"] "nodes") (var 1)) (var 0))) L0.length xs ρ (L0 ++ [.lst []])) Q:=by
 refine wc_fun (fun ρ => ∃ e,ρ = [e,some (.ref t)]) (wyD P.length) hok hρ (by omega) ?_ h
 rintro x hxm ρ ⟨e,rfl⟩
 wtm_at "z"
 refine ⟨⟨_,rfl⟩,fun acc => ?_⟩
 have ht':(L0 ++ [Ob.lst acc])[t]? = _:=get_app T.t_
 obtain ⟨i,hi,rfl⟩:=hx x hxm
 obtain ⟨r0,hr0⟩:∃ r0,rs[i]? = some r0:=⟨rs[i]'(by rw [T.len]; exact hi),by simp [T.len,hi]⟩
 obtain ⟨a0,ep0,m0,_⟩:=T.nod i r0 hr0
 have m0a:(L0 ++ [Ob.lst acc])[r0]? = _:=get_app m0.1
 wtm_at "z"
 refine g_ixR (d:=.ref r0) (get_app T.nd_) (atI_nat (by rw [List.getElem?_map,hr0]; rfl)) ?_
 wtm_at "z"
 exact ⟨rfl,rfl⟩
theorem cut3 {l:Nat} (h1:1 ≤ l) (h3:l ≤ 3):cutD [D.int 2,.int 3,.int 4] none (some ((l:Int) - 1)) = ([D.int 2,.int 3,.int 4]:List D).take (l - 1):=by
 match l,h1,h3 with
 | 1,_,_ => rfl
 | 2,_,_ => rfl
 | 3,_,_ => rfl
theorem arms_kix (i:Nat):armsE (kix (i + 1)) = [([],.tup [.int 0,.int (kix i:Int)])]:=by
 cases i with
 | zero => rfl
 | succ i => show [([],D.tup [.int 0,.int (if i + 1 = 0 then 0 else ((i + 1:Nat):Int) + 1)])] = _; rw [if_neg (by omega)]; congr 5
theorem number_w {Q:D → Sto → Prop} {L:Sto} {t:Nat} {ws:List Str} {ps:List D} {idx:List Nat} (T:Tab L t ws) (hws:ws.length ≤ 6) (hnd:ws.Nodup) (h1:1 ≤ ps.length) (h3:ps.length ≤ 3) (hl:idx.length = ps.length) (hp:∀ (j:Nat) (i:Nat),idx[j]? = some i → ∃ p,ps[j]? = some p ∧ (piecesOf ws)[i]? = some p)
  (h:Q (.int (((bas (piecesOf ws).length ps.length + dig (piecesOf ws).length idx:Nat)):Int)) L):W2 (G_z14 [.ref t,.tup ps] L) Q:=by
 have hmem:∀ p ∈ ps,p ∈ piecesOf ws:=fun p hm => by
  obtain ⟨j,hj⟩:=List.getElem?_of_mem hm
  have hjl:j < idx.length:=by rw [hl]; exact (List.getElem?_eq_some_iff.mp hj).1
  obtain ⟨p',e1,e2⟩:=hp j idx[j] (by simp [hjl])
  rw [hj] at e1; cases e1
  exact List.mem_of_getElem? e2
 have hPs:=pieces_len ws
 have T':=T
 obtain ⟨g,q,m,nd,nn,rt,rs,T,hm,hr⟩:=T
 unfold G_z14
 refine w_run rfl ?_
 unfold B_z14
 wtm_at "z"
 refine rowOf_w (fun _ => true) T' h1 h3 (fun p hp L Q T q => used_w T (hmem p hp) q) ?_
 rw [show ps.all (fun _ => true) = true by simp]
 have ht:=T.t_
 wtm_at "z"
 rw [cut3 h1 h3]
 generalize hcut:([D.int 2,.int 3,.int 4]:List D).take (ps.length - 1) = cut
 have hcutm:∀ x ∈ cut,∃ i:Nat,i < 5 ∧ x = .int (i:Int):=fun x hx => by
  rw [← hcut] at hx
  have hx:=List.mem_of_mem_take hx
  simp only [List.mem_cons,List.not_mem_nil,or_false] at hx
  rcases hx with rfl | rfl | rfl
  ·exact ⟨2,by decide,rfl⟩
  ·exact ⟨3,by decide,rfl⟩
  ·exact ⟨4,by decide,rfl⟩
 have hcutl:cut.length ≤ 3:=by rw [← hcut,List.length_take]; simp; omega
 refine ways_w (T.pre (List.prefix_append _ _)) (fun acc => decide_eq_true (get_app get_last)) hcutm (by omega) ⟨_,rfl⟩ ?_
 wtm_at "z"
 have hsum:∃ ns,intsD (cut.map (wyD (piecesOf ws).length)) = some ns ∧ ns.sum = ((bas (piecesOf ws).length ps.length:Nat):Int):=by
  rw [← hcut]
  match ps.length,h1,h3 with
  | 1,_,_ => exact ⟨[],rfl,rfl⟩
  | 2,_,_ => exact ⟨[_],rfl,by simp [bas,wy]⟩
  | 3,_,_ => exact ⟨[_,_],rfl,by simp [bas,wy]⟩
 obtain ⟨ns,hns,hnsum⟩:=hsum
 refine g_sum get_last hns ?_
 rw [hnsum]
 generalize hL0:L ++ [Ob.lst cut] ++ [Ob.lst (cut.map (wyD (piecesOf ws).length))] = L0
 have p0:L <+: L0:=by rw [← hL0]; exact (List.prefix_append _ _).trans (List.prefix_append _ _)
 have T0:=T.pre p0
 have ht0:=T0.t_
 have hr0:=pre_at p0 hr
 have hm0:=pre_at p0 hm
 wtm_at "z"
 refine g_ixR (d:=.int (((ps.length + 1:Nat)):Int)) hr0 (by
  match ps.length,h1,h3 with
  | 1,_,_ => rfl
  | 2,_,_ => rfl
  | 3,_,_ => rfl) ?_
 have hkx:ps.length + 1 = kix ps.length:=by
  match ps.length,h1,h3 with
  | 1,_,_ => rfl
  | 2,_,_ => rfl
  | 3,_,_ => rfl
 rw [hkx]
 have hnode:∀ i,i ≤ 3 → ∃ r a ep,rs[kix i]? = some r ∧ NodeAt L0 r (((piecesOf ws).length ^ i:Nat):Int) a (armsE (kix i)) ep:=fun i hi => by
  have hk:kix i < rs.length:=by rw [T.len]; cases i with | zero => simp [kix] | succ i => simp [kix]; omega
  obtain ⟨a,ep,n0,_⟩:=T0.nod (kix i) rs[kix i] (by simp [hk])
  rw [wy_kix] at n0
  exact ⟨_,a,ep,by simp [hk],n0⟩
 obtain ⟨r1,a1,ep1,hr1,n1⟩:=hnode ps.length h3
 wtm_at "z"
 refine g_ixR (d:=.ref r1) T0.nd_ (atI_nat (by rw [List.getElem?_map,hr1]; rfl)) ?_
 wtm_at "z"
 refine ws_loop (fun j ρ L' => L' = L0 ∧ ∃ (r:Nat) (z:Nat) (e1 e2 e3:Option D),rs[kix (ps.length - j)]? = some r ∧ z + dig (piecesOf ws).length (idx.drop j) = bas (piecesOf ws).length ps.length + dig (piecesOf ws).length idx ∧ ρ = [some (.ref t),some (.tup ps),some (.int ((ps.length:Int) - 1)),some (.int (z:Int)),some (.ref r),e1,e2,e3]) _ 0 _ _ ⟨rfl,r1,bas (piecesOf ws).length ps.length,none,none,none,hr1,by simp,rfl⟩ ?_ ?_
 ·rintro j x ρ L' hx ⟨rfl,r,z,e1,e2,e3,hr2,hz,rfl⟩
  rw [Nat.zero_add] at hr2 hz
  refine ⟨rfl,?_⟩
  have hj:j < ps.length:=(List.getElem?_eq_some_iff.mp hx).1
  obtain ⟨i,hi⟩:∃ i,idx[j]? = some i:=⟨idx[j]'(by omega),by simp [hl,hj]⟩
  obtain ⟨p,ep2,eP⟩:=hp j i hi
  rw [hx] at ep2; cases ep2
  obtain ⟨k,hk⟩:∃ k,ps.length - j = k + 1:=⟨ps.length - j - 1,by omega⟩
  obtain ⟨r',a',ep',hr',n'⟩:=hnode (ps.length - j) (by omega)
  rw [hr2] at hr'; cases hr'
  have n'a:=n'.1
  have n'b:=n'.2
  rw [hk,arms_kix] at n'b
  obtain ⟨r2,a2,ep2,hrr,n2⟩:=hnode k (by omega)
  have n2a:=n2.1
  wtm_at "z"
  refine g_dget (kk:=kfD x) hm0 (piece_key (List.mem_of_getElem? eP)) ?_
  rw [memb_look (kf_nd hnd) eP]
  simp only [Option.getD_some]
  wtm_at "z"
  refine br_off rfl ?_
  wtm_at "z"
  refine g_dt (kk:=[]) n'b rfl rfl ?_
  wtm_at "z"
  refine g_ixR (d:=.ref r2) T0.nd_ (atI_nat (by rw [List.getElem?_map,hrr]; rfl)) ?_
  wtm_at "z"
  have hiP:i < (piecesOf ws).length:=(List.getElem?_eq_some_iff.mp eP).1
  have hPl:(piecesOf ws).length ≤ 10000000000:=by
   have:=hPs
   omega
  refine g_mulI (mulOk_l (by omega)) ?_
  wtm_at "z"
  have eN:(z:Int) + (0 + (i:Int) * (((piecesOf ws).length ^ k:Nat):Int)) = ((z + i * (piecesOf ws).length ^ k:Nat):Int):=by push_cast; omega
  rw [eN]
  refine ⟨rfl,r2,z + i * (piecesOf ws).length ^ k,_,_,_,?_,?_,rfl⟩
  ·rw [Nat.zero_add,show ps.length - (j + 1) = k by omega]; exact hrr
  ·rw [Nat.zero_add,← hz]
   have ed:idx.drop j = i :: idx.drop (j + 1):=by
    rw [List.drop_eq_getElem_cons (by omega)]
    congr 1
    exact (List.getElem?_eq_some_iff.mp hi).2
   rw [ed,dig,List.length_drop,hl,show ps.length - (j + 1) = k by omega]
   omega
 ·rintro ρ L' ⟨rfl,r,z,e1,e2,e3,hr2,hz,rfl⟩
  refine ⟨rfl,?_⟩
  wtm_at "z"
  rw [Nat.zero_add,← hl,List.drop_length] at hz
  refine ⟨rfl,p0,?_⟩
  have:z = bas (piecesOf ws).length ps.length + dig (piecesOf ws).length idx:=by simpa [dig,hl] using hz
  rw [this]
  exact h
theorem number_no {Q:D → Sto → Prop} {L:Sto} {t:Nat} {ws:List Str} {ps:List D} {w:Str} (T:Tab L t ws) (h3:ps.length ≤ 2) (hp:∀ p ∈ ps,p ∈ piecesOf ws) (hw:w ∉ ws) (h:Q .non L):W2 (G_z14 [.ref t,.tup (ps ++ [wpc w])] L) Q:=by
 unfold G_z14
 refine w_run rfl ?_
 unfold B_z14
 wtm_at "z"
 refine rowOf_w (fun p => decide (p ≠ wpc w)) T (by simp) (by simp; omega) (fun p hm L Q T q => ?_) ?_
 ·by_cases e:p = wpc w
  ·subst e
   exact used_no T hw (by simpa using q)
  ·rcases List.mem_append.mp hm with hm | hm
   ·exact used_w T (hp p hm) (by simpa [e] using q)
   ·exact absurd (by simpa using hm) e
 ·have:((ps ++ [wpc w]).all fun p => decide (p ≠ wpc w)) = false:=by simp
  rw [this]
  wtm_at "z"
  exact ⟨rfl,List.prefix_refl _,h⟩
theorem armAns_w {Q:D → Sto → Prop} {L:Sto} {r a ep:Nat} {w z:Int} {k:Int} (hn:NodeAt L r w a [([],.tup [.int 0,.int k])] ep) (hz:0 ≤ z) (h:Q (.tup []) L):W2 (G_z12 [.ref r,.int z] L) Q:=by
 unfold G_z12
 refine w_run rfl ?_
 unfold B_z12
 have n1:=hn.1
 have n2:=hn.2
 wtm_at "z"
 refine ws_loop_cons (decide_eq_true n2) ?_
 wtm_at "z"
 refine ws_loop_nil (decide_eq_true n2) ?_
 wtm_at "z"
 exact ⟨rfl,List.prefix_refl _,h⟩
end L3
set_option maxHeartbeats 4000000
--BEGIN WPT
--END WPT
namespace L3
open PySem PySem.Spec PyProof.Rows L2
noncomputable def rowOf (P:List D) (l z:Nat):List D:=(digs P.length l z).map fun i => P[i]?.getD .non
theorem rowOf_len (P:List D) (l z:Nat):(rowOf P l z).length = l:=by simp [rowOf,digs_len]
theorem rowOf_mem {P:List D} {l z:Nat} (h0:0 < P.length) (hz:z < P.length ^ l):∀ p ∈ rowOf P l z,p ∈ P:=by
 intro p hp
 obtain ⟨i,hi,rfl⟩:=List.mem_map.mp hp
 have:=digs_lt h0 l z hz i hi
 simp [this]
theorem piece_noRef {ws:List Str} {p:D} (h:p ∈ piecesOf ws):p.noRef = true:=by
 unfold piecesOf at h
 rcases List.mem_append.mp h with h | h
 ·obtain ⟨w,_,rfl⟩:=List.mem_map.mp h; rfl
 ·obtain ⟨d,x,y,_,hx,hy,rfl⟩:=mem_deeds h
  obtain ⟨k,n,e,rfl,_⟩:=hx
  obtain ⟨k',n',e',rfl,_⟩:=hy
  rfl
theorem tup_noRef {ws:List Str} {xs:List D} (h:∀ p ∈ xs,p ∈ piecesOf ws):(D.tup xs).noRef = true:=by
 show D.noRefL xs = true
 induction xs with
 | nil => rfl
 | cons x xs ih =>
  rw [D.noRefL,piece_noRef (h x List.mem_cons_self),ih fun p hp => h p (List.mem_cons_of_mem _ hp)]; rfl
theorem rowFrom_w {Q:D → Sto → Prop} {L:Sto} {t:Nat} {ws:List Str} {l z:Nat} (T:Tab L t ws) (hws:ws.length ≤ 6) (h3:l ≤ 3) (hz:z < (piecesOf ws).length ^ l) (h:Q (.tup (rowOf (piecesOf ws) l z)) L):W2 (G_z29 [.ref t,.int (kix l:Int),.int (z:Int)] L) Q:=by
 have hPs:=pieces_len ws
 obtain ⟨g,q,m,nd,nn,rt,rs,T,hm,hr⟩:=T
 have hnode:∀ i,i ≤ 3 → ∃ r a ep,rs[kix i]? = some r ∧ NodeAt L r (((piecesOf ws).length ^ i:Nat):Int) a (armsE (kix i)) ep:=fun i hi => by
  have hk:kix i < rs.length:=by rw [T.len]; cases i with | zero => simp [kix] | succ i => simp [kix]; omega
  obtain ⟨a,ep,n0,_⟩:=T.nod (kix i) rs[kix i] (by simp [hk])
  rw [wy_kix] at n0
  exact ⟨_,a,ep,by simp [hk],n0⟩
 unfold G_z29
 refine w_run rfl ?_
 unfold B_z29
 have ht:=T.t_
 have hnd:=T.nd_
 obtain ⟨epg,hg⟩:=T.g_
 have hq:=T.q_
 wtm_at "z"
 obtain ⟨r1,a1,ep1,hr1,n1⟩:=hnode l h3
 refine g_ixR (d:=.ref r1) (get_app hnd) (atI_nat (by rw [List.getElem?_map,hr1]; rfl)) ?_
 wtm_at "z"
 refine ws_while (fun k ρ L' => k ≤ 3 ∧ ∃ (acc:List D) (z' r:Nat) (e1 e2 e3 e4:Option D),L' = L ++ [.lst acc] ∧ rs[kix k]? = some r ∧ z' < (piecesOf ws).length ^ k ∧ acc ++ rowOf (piecesOf ws) k z' = rowOf (piecesOf ws) l z ∧ ρ = [some (.ref t),some (.int (kix l:Int)),some (.int (z':Int)),some (.ref L.length),some (.ref r),e1,e2,e3,e4]) (n:=l) (by omega) ⟨h3,[],z,r1,none,none,none,none,rfl,hr1,hz,rfl,rfl⟩ ?_
 rintro k ρ L' ⟨hk3,acc,z',r,e1,e2,e3,e4,rfl,hrk,hzk,hacc,rfl⟩
 obtain ⟨r',a',ep',hr',n'⟩:=hnode k hk3
 rw [hrk] at hr'; cases hr'
 have n'a:(L ++ [Ob.lst acc])[r]? = _:=get_app n'.1
 have n'b:(L ++ [Ob.lst acc])[a']? = _:=get_app n'.2
 have ht':(L ++ [Ob.lst acc])[t]? = _:=get_app ht
 cases k with
 | zero =>
  have n'c:(L ++ [Ob.lst acc])[a']? = some (.dt [] ep'):=n'b
  wtm_at "z"
  have ea:acc = rowOf (piecesOf ws) l z:=by simpa [rowOf,digs] using hacc
  rw [ea]
  exact ⟨tup_noRef (ws:=ws) (rowOf_mem (by omega) hz),List.prefix_append _ _,h⟩
 | succ k =>
  rw [arms_kix] at n'b
  wtm_at "z"
  refine armAns_w ⟨n'a,n'b⟩ (by omega) ?_
  wtm_at "z"
  refine g_dt (kk:=[]) n'b rfl rfl ?_
  wtm_at "z"
  obtain ⟨r2,a2,ep2,hr2,n2⟩:=hnode k (by omega)
  have n2a:(L ++ [Ob.lst acc])[r2]? = _:=get_app n2.1
  refine g_ixR (d:=.ref r2) (get_app hnd) (atI_nat (by rw [List.getElem?_map,hr2]; rfl)) ?_
  wtm_at "z"
  refine g_dt (kk:=[]) (get_app hg) rfl rfl ?_
  wtm_at "z"
  have hpk:0 < (piecesOf ws).length ^ k:=Nat.pow_pos (by omega)
  have hpk2:(piecesOf ws).length ^ k ≤ 10000 ^ 3:=Nat.le_trans (Nat.pow_le_pow_left (show (piecesOf ws).length ≤ 10000 by omega) k) (Nat.pow_le_pow_right (by decide) (by omega))
  have hpk3:(10000:Nat) ^ 3 = 1000000000000:=by decide
  rw [hpk3] at hpk2
  generalize hN:(piecesOf ws).length ^ k = N at *
  refine g_fdiv (by unfold cDiv; rw [Bool.and_eq_true]; exact ⟨decide_eq_true (by omega),decide_eq_true (by omega)⟩) ?_
  have e0:((z':Int) - 0) / (N:Int) = ((z' / N:Nat):Int):=by rw [Int.sub_zero]; push_cast; rfl
  have e1':((z':Int) - 0) % (N:Int) = ((z' % N:Nat):Int):=by rw [Int.sub_zero]; push_cast; rfl
  rw [e0]
  have hq1:z' / N < (piecesOf ws).length:=Nat.div_lt_of_lt_mul (by rw [← hN,← Nat.pow_succ]; exact hzk)
  refine g_ixR (d:=(piecesOf ws)[z' / N]?.getD .non) (get_app hq) (atI_nat (by simp [hq1])) ?_
  wtm_at "z"
  have hal:acc.length ≤ 3:=by
   have:=congrArg List.length hacc
   rw [List.length_append,rowOf_len,rowOf_len] at this
   omega
  refine g_append get_last (by omega) ?_
  have es:(L ++ [Ob.lst acc]).set L.length (.lst (acc ++ [(piecesOf ws)[z' / N]?.getD .non])) = L ++ [Ob.lst (acc ++ [(piecesOf ws)[z' / N]?.getD .non])]:=by simp
  rw [es]
  have n3a:(L ++ [Ob.lst (acc ++ [(piecesOf ws)[z' / N]?.getD .non])])[r2]? = some (.ins "Node" [("ways",.int (N:Int)),("arms",.ref a2)]):=get_app n2.1
  wtm_at "z"
  rw [e1']
  refine ⟨k,by omega,by omega,acc ++ [(piecesOf ws)[z' / N]?.getD .non],z' % N,r2,_,_,_,_,rfl,hr2,by rw [hN]; exact Nat.mod_lt _ hpk,?_,rfl⟩
  rw [← hacc,List.append_assoc]
  congr 1
  simp [rowOf,digs,hN]
end L3
set_option maxHeartbeats 4000000
--BEGIN WPT
--END WPT
namespace L3
open PySem PySem.Spec PyProof.Rows L2
theorem rowAt_w {Q:D → Sto → Prop} {L:Sto} {t:Nat} {ws:List Str} {l d:Nat} (T:Tab L t ws) (hws:ws.length ≤ 6) (h1:1 ≤ l) (h3:l ≤ 3) (hd:d < (piecesOf ws).length ^ l) (h:Q (.tup (rowOf (piecesOf ws) l d)) L):W2 (G_z34 [.ref t,.int (((bas (piecesOf ws).length l + d:Nat)):Int)] L) Q:=by
 have hPs:=pieces_len ws
 have T':=T
 obtain ⟨g,q,m,nd,nn,rt,rs,T,hm,hr⟩:=T
 have hnr:(D.tup (rowOf (piecesOf ws) l d)).noRef = true:=tup_noRef (ws:=ws) (rowOf_mem (by omega) hd)
 have hnode:∀ i,i ≤ 3 → ∃ r a,rs[kix i]? = some r ∧ L[r]? = some (.ins "Node" [("ways",.int (((piecesOf ws).length ^ i:Nat):Int)),("arms",.ref a)]):=fun i hi => by
  have hk:kix i < rs.length:=by rw [T.len]; cases i with | zero => simp [kix] | succ i => simp [kix]; omega
  obtain ⟨a,ep,n0,_⟩:=T.nod (kix i) rs[kix i] (by simp [hk])
  rw [wy_kix] at n0
  exact ⟨_,a,by simp [hk],n0.1⟩
 obtain ⟨r1,a1,hr1,n1⟩:=hnode 1 (by decide)
 obtain ⟨r2,a2,hr2,n2⟩:=hnode 2 (by decide)
 obtain ⟨r3,a3,hr3,n3⟩:=hnode 3 (by decide)
 unfold G_z34
 refine w_run rfl ?_
 unfold B_z34
 have ht:=T.t_
 have hnd:=T.nd_
 generalize hN1:(piecesOf ws).length ^ 1 = N1 at *
 generalize hN2:(piecesOf ws).length ^ 2 = N2 at *
 generalize hN3:(piecesOf ws).length ^ 3 = N3 at *
 wtm_at "z"
 refine ws_loop_cons (decide_eq_true hr) ?_
 wtm_at "z"
 refine g_ixR (d:=.ref r1) hnd (atI_nat (j:=2) (by rw [List.getElem?_map,show 2 = kix 1 from rfl,hr1]; rfl)) ?_
 wtm_at "z"
 match l,h1,h3 with
 | 1,_,_ =>
  rw [hN1] at hd
  have eb:bas (piecesOf ws).length 1 = 0:=rfl
  rw [eb,Nat.zero_add]
  wtm_at "z"
  refine rowFrom_w (l:=1) T' hws (by decide) (by rw [hN1]; exact hd) ?_
  exact ⟨hnr,List.prefix_refl _,h⟩
 | 2,_,_ =>
  rw [hN2] at hd
  have eb:bas (piecesOf ws).length 2 = N1:=hN1
  rw [eb]
  wtm_at "z"
  refine ws_loop_cons (decide_eq_true hr) ?_
  wtm_at "z"
  refine g_ixR (d:=.ref r2) hnd (atI_nat (j:=3) (by rw [List.getElem?_map,show 3 = kix 2 from rfl,hr2]; rfl)) ?_
  wtm_at "z"
  have e1:((N1 + d:Nat):Int) - (N1:Int) = (d:Int):=by omega
  rw [e1]
  wtm_at "z"
  refine rowFrom_w (l:=2) T' hws (by decide) (by rw [hN2]; exact hd) ?_
  exact ⟨hnr,List.prefix_refl _,h⟩
 | 3,_,_ =>
  rw [hN3] at hd
  have eb:bas (piecesOf ws).length 3 = N1 + N2:=by rw [← hN1,← hN2]; rfl
  rw [eb]
  wtm_at "z"
  refine ws_loop_cons (decide_eq_true hr) ?_
  wtm_at "z"
  refine g_ixR (d:=.ref r2) hnd (atI_nat (j:=3) (by rw [List.getElem?_map,show 3 = kix 2 from rfl,hr2]; rfl)) ?_
  wtm_at "z"
  refine ws_loop_cons (decide_eq_true hr) ?_
  wtm_at "z"
  refine g_ixR (d:=.ref r3) hnd (atI_nat (j:=4) (by rw [List.getElem?_map,show 4 = kix 3 from rfl,hr3]; rfl)) ?_
  wtm_at "z"
  have e1:((N1 + N2 + d:Nat):Int) - (N1:Int) - (N2:Int) = (d:Int):=by omega
  rw [e1]
  wtm_at "z"
  refine rowFrom_w (l:=3) T' hws (by decide) (by rw [hN3]; exact hd) ?_
  exact ⟨hnr,List.prefix_refl _,h⟩
end L3
set_option maxHeartbeats 4000000
--BEGIN WPT
--END WPT
namespace L3
open PySem PySem.Spec PyProof.Rows L2
theorem gNeD_self {Q:D → Sto → Prop} {L:Sto} {xs:List D} (h:okD 30 (.tup xs) = true) (q:Q (.bl false) L):W2 (gNeD (.tup xs) (.tup xs) L) Q:=by
 refine ⟨_,_,?_,q⟩
 unfold gNeD
 rw [if_neg (by simp [scalD,flatD]),if_pos (by simp [seqD,shp]),eqN_refl 30 L _ h]
 simp [shp]
theorem place_mem {p:D} (h:IsPlace p):p ∈ places:=by
 obtain ⟨k,n,e,rfl,hn,he,hk⟩:=h
 simp only [places,p1,kindsP,edgesP,List.mem_flatMap,List.mem_cons,List.not_mem_nil,or_false]
 refine ⟨.str k,?_,.int n,?_,.str e,?_,rfl⟩
 ·simpa using hk
 ·rcases hn with rfl | rfl | rfl | rfl <;> simp
 ·rcases he with rfl | rfl <;> simp
theorem stretch_mem {ws:List Str} {d:Str} {x y:D} (hd:d ∈ deedsS) (hx:IsPlace x) (hy:IsPlace y):D.tup [.str d,x,y] ∈ piecesOf ws:=by
 unfold piecesOf betw
 refine List.mem_append_right _ ?_
 simp only [List.mem_flatMap,List.mem_map]
 exact ⟨d,hd,x,place_mem hx,y,place_mem hy,rfl⟩
theorem word_mem {ws:List Str} {w:Str} (h:w ∈ ws):wpc w ∈ piecesOf ws:=List.mem_append_left _ (List.mem_map_of_mem h)
theorem piece_okD {ws:List Str} {p:D} (h:p ∈ piecesOf ws):okD 29 p = true:=by
 unfold piecesOf at h
 rcases List.mem_append.mp h with h | h
 ·obtain ⟨w,_,rfl⟩:=List.mem_map.mp h; rfl
 ·obtain ⟨d,x,y,_,hx,hy,rfl⟩:=mem_deeds h
  obtain ⟨k,n,e,rfl,_⟩:=hx
  obtain ⟨k',n',e',rfl,_⟩:=hy
  rfl
theorem lw_piece_w {Q:D → Sto → Prop} {L:Sto} {w:Nat} {ws:List Str} (c:Int) (hw:L[w]? = some (.lst (ws.map D.str))) (hl:ws.length ≤ 6) (h:∀ p ∈ piecesOf ws,Q p L):W2 (G_z24 [.int c,.ref w] L) Q:=by
 unfold G_z24
 refine w_run rfl ?_
 unfold B_z24
 refine ws_cut (fun ρ L' => L' = L ∧ ρ = [some (.int c),some (.ref w),none]) ?_ ?_
 ·have hlen:((ws.map D.str).length:Int) = ws.length:=by simp
  wtm_at "z"
  refine br_dec (fun h7 => ?_) (fun h7 => ?_)
  ·wtm_at "z"
   refine br_dec (fun h0 => ?_) (fun h0 => ?_)
   ·rw [hlen] at h0
    wtm_at "z"
    obtain ⟨d,hd,e2⟩:=atI_mod (xs:=ws.map D.str) (n:=((ws.map D.str).length:Int)) (c / 7) (by rw [hlen]; exact h0) (Int.le_refl _)
    obtain ⟨wd,hwd,rfl⟩:=List.mem_map.mp hd
    refine g_ixR hw e2 ?_
    wtm_at "z"
    exact ⟨rfl,List.prefix_refl _,h _ (word_mem hwd)⟩
   ·wtm_at "z"
    exact ⟨rfl,rfl⟩
  ·wtm_at "z"
   exact ⟨rfl,rfl⟩
 ·rintro ρ L' ⟨rfl,rfl⟩
  wtm_at "z"
  refine menu_mem _ get_last (by decide) (by decide) fun d hd => ?_
  have hd':∃ m:Str,d = .str m ∧ m ∈ deedsS:=by
   simp only [List.mem_cons,List.not_mem_nil,or_false] at hd
   rcases hd with rfl | rfl | rfl | rfl <;> exact ⟨_,rfl,by decide +kernel⟩
  obtain ⟨m,rfl,hm⟩:=hd'
  wtm_at "z"
  refine lw_place_w _ fun x hx => ?_
  wtm_at "z"
  refine lw_place_w _ fun y hy => ?_
  wtm_at "z"
  have hp:=stretch_mem (ws:=ws) hm hx hy
  exact ⟨piece_noRef hp,List.prefix_append _ _,h _ hp⟩
theorem lw_isplace_w {Q:D → Sto → Prop} {L:Sto} {p:D} (hp:IsPlace p) (h:Q (.bl true) L):W2 (G_z7 [p] L) Q:=by
 obtain ⟨kind,nth,edge,rfl,hn,he,hk⟩:=hp
 unfold G_z7
 refine w_run rfl ?_
 unfold B_z7
 wtm_at "z"
 refine g_notinT rfl ?_
 have e1:inD (.int nth) [.int 1,.int 2,.int (-1),.int (-2)] = true:=nth_in hn
 rw [e1]
 wtm_at "z"
 refine g_inT rfl ?_
 have e2:inD (.str kind) [.str "small",.str "great",.str "figure",.str "mark",.str "any"] = true:=kind_in hk
 rw [e2]
 wtm_at "z"
 refine g_inT rfl ?_
 have e3:inD (.str edge) [.str "ahead",.str "behind"] = true:=edge_in he
 rw [e3]
 exact ⟨rfl,List.prefix_refl _,h⟩
theorem lw_isrow_w {Q:D → Sto → Prop} {L:Sto} {w:Nat} {ws:List Str} {ps:List D} (hw:L[w]? = some (.lst (ws.map D.str))) (h1:1 ≤ ps.length) (h3:ps.length ≤ 3) (hp:∀ p ∈ ps,p ∈ piecesOf ws) (h:Q (.bl true) L):W2 (G_z21 [.tup ps,.ref w] L) Q:=by
 unfold G_z21
 refine w_run rfl ?_
 unfold B_z21
 wtm_at "z"
 refine ws_loop (fun j ρ L' => L' = L ∧ ∃ e,ρ = [some (.tup ps),some (.ref w),e]) _ 0 _ _ ⟨rfl,none,rfl⟩ ?_ ?_
 ·rintro i x ρ L' hx ⟨rfl,e,rfl⟩
  refine ⟨rfl,?_⟩
  have hm:=hp x (List.mem_of_getElem? hx)
  unfold piecesOf at hm
  rcases List.mem_append.mp hm with hm | hm
  ·obtain ⟨wd,hwd,rfl⟩:=List.mem_map.mp hm
   unfold wpc
   wtm_at "z"
   refine g_notinR hw (by rw [flat_strs]; rfl) ?_
   rw [inD_strs,decide_eq_true hwd]
   wtm_at "z"
   exact ⟨rfl,_,rfl⟩
  ·obtain ⟨d,x1,y1,hd,hx1,hy1,rfl⟩:=mem_deeds hm
   have hne:d ≠ "word":=by
    intro e
    subst e
    revert hd
    decide +kernel
   wtm_at "z"
   refine g_notinT rfl ?_
   have e1:inD (.str d) [.str "copy",.str "raise",.str "sink"] = true:=by
    have:=inD_strs d deedsS
    rw [decide_eq_true hd] at this
    exact this
   rw [e1]
   wtm_at "z"
   refine lw_isplace_w hx1 ?_
   wtm_at "z"
   refine lw_isplace_w hy1 ?_
   wtm_at "z"
   exact ⟨rfl,_,rfl⟩
 ·rintro ρ L' ⟨rfl,e,rfl⟩
  refine ⟨rfl,?_⟩
  wtm_at "z"
  exact ⟨rfl,List.prefix_refl _,h⟩
theorem whole_w {Q:D → Sto → Prop} {L:Sto} {i:Int} (h:Q (.bl true) L):W2 (G_z23 [.int i] L) Q:=by
 unfold G_z23
 refine w_run rfl ?_
 unfold B_z23
 wtm_at "z"
 exact ⟨rfl,List.prefix_refl _,h⟩
end L3
set_option maxHeartbeats 4000000
--BEGIN WPT
--END WPT
namespace L3
open PySem PySem.Spec PyProof.Rows L2
theorem wc_map {g:GF} {elt:EF} {L0:Sto} {Q:Sto → Prop} (P:Fm → Prop) (E:D → Prop) {items:List D} {ρ:Fm} (hp:P ρ) (hz:items.length ≤ 16777216)
  (h:∀ x ∈ items,∀ ρ,P ρ → W1 (g x ρ) fun ρ1 => P ρ1 ∧ ∀ acc,W2 (elt ρ1 (L0 ++ [.lst acc])) fun d L2 => L2 = L0 ++ [.lst acc] ∧ E d)
  (q:∀ ds:List D,ds.length = items.length → (∀ d ∈ ds,E d) → Q (L0 ++ [.lst ds])):W1 (compL (fun _ => true) g trueT elt L0.length items ρ (L0 ++ [.lst []])) Q:=by
 refine wc_inv (I:=fun j ρ L => P ρ ∧ ∃ ds:List D,ds.length = j ∧ (∀ d ∈ ds,E d) ∧ L = L0 ++ [.lst ds]) items 0 ρ _ ⟨hp,[],rfl,fun d hd => (nomatch hd),rfl⟩ ?_ ?_
 ·rintro i x ρ L e ⟨hp,ds,hl,hE,rfl⟩
  refine ⟨rfl,?_⟩
  have hi:i < items.length:=(List.getElem?_eq_some_iff.mp e).1
  obtain ⟨ρ1,e1,hp1,h2⟩:=h x (List.mem_of_getElem? e) ρ hp
  obtain ⟨d,L2,e3,rfl,q⟩:=h2 ds
  refine ⟨ρ1,e1,true,_,rfl,d,_,e3,ds,by simp,by omega,hp1,ds ++ [d],by simp; omega,fun z hz => ?_,by simp⟩
  rcases List.mem_append.mp hz with h | h
  ·exact hE z h
  ·have:z = d:=by simpa using h
   rw [this]; exact q
 ·rintro ρ L ⟨_,ds,hl,hE,rfl⟩
  exact ⟨rfl,q ds (by omega) hE⟩
theorem wc_mapK {ok:Sto → Bool} {g:GF} {elt:EF} {L0:Sto} {Q:Sto → Prop} (P:Fm → Prop) (E:D → Prop) {items:List D} {ρ:Fm} (hok:∀ acc,ok (L0 ++ [.lst acc]) = true) (hp:P ρ) (hz:items.length ≤ 16777216)
  (h:∀ x ∈ items,∀ ρ,P ρ → W1 (g x ρ) fun ρ1 => P ρ1 ∧ ∀ acc,W2 (elt ρ1 (L0 ++ [.lst acc])) fun d L2 => L2 = L0 ++ [.lst acc] ∧ E d)
  (q:∀ ds:List D,ds.length = items.length → (∀ d ∈ ds,E d) → Q (L0 ++ [.lst ds])):W1 (compL ok g trueT elt L0.length items ρ (L0 ++ [.lst []])) Q:=by
 refine wc_inv (I:=fun j ρ L => P ρ ∧ ∃ ds:List D,ds.length = j ∧ (∀ d ∈ ds,E d) ∧ L = L0 ++ [.lst ds]) items 0 ρ _ ⟨hp,[],rfl,fun d hd => (nomatch hd),rfl⟩ ?_ ?_
 ·rintro i x ρ L e ⟨hp,ds,hl,hE,rfl⟩
  refine ⟨hok _,?_⟩
  have hi:i < items.length:=(List.getElem?_eq_some_iff.mp e).1
  obtain ⟨ρ1,e1,hp1,h2⟩:=h x (List.mem_of_getElem? e) ρ hp
  obtain ⟨d,L2,e3,rfl,q⟩:=h2 ds
  refine ⟨ρ1,e1,true,_,rfl,d,_,e3,ds,by simp,by omega,hp1,ds ++ [d],by simp; omega,fun z hz => ?_,by simp⟩
  rcases List.mem_append.mp hz with h | h
  ·exact hE z h
  ·have:z = d:=by simpa using h
   rw [this]; exact q
 ·rintro ρ L ⟨_,ds,hl,hE,rfl⟩
  exact ⟨hok _,q ds (by omega) hE⟩
theorem idx_of {P:List D}:∀ {ps:List D},(∀ p ∈ ps,p ∈ P) → ∃ idx:List Nat,idx.length = ps.length ∧ (∀ i ∈ idx,i < P.length) ∧ (∀ (j:Nat) (i:Nat),idx[j]? = some i → ∃ p,ps[j]? = some p ∧ P[i]? = some p) ∧ (idx.map fun i => P[i]?.getD .non) = ps
 | [],_ => ⟨[],rfl,fun _ h => (nomatch h),fun j i h => by simp at h,rfl⟩
 | p :: ps,h => by
  obtain ⟨idx,h1,h2,h3,h4⟩:=idx_of (ps:=ps) fun q hq => h q (List.mem_cons_of_mem _ hq)
  obtain ⟨i,hi⟩:=List.getElem?_of_mem (h p List.mem_cons_self)
  refine ⟨i :: idx,by simp [h1],fun k hk => ?_,fun j k hk => ?_,?_⟩
  ·rcases List.mem_cons.mp hk with e | hk
   ·rw [e]; exact (List.getElem?_eq_some_iff.mp hi).1
   ·exact h2 k hk
  ·cases j with
   | zero => simp at hk; subst hk; exact ⟨p,rfl,hi⟩
   | succ j => simpa using h3 j k (by simpa using hk)
  ·rw [List.map_cons,h4,hi]; rfl
theorem rowOf_dig {P:List D} {ps:List D} {idx:List Nat} (h1:idx.length = ps.length) (h2:∀ i ∈ idx,i < P.length) (h4:(idx.map fun i => P[i]?.getD .non) = ps):rowOf P ps.length (dig P.length idx) = ps:=by
 unfold rowOf
 rw [← h1,digs_dig idx h2,h4]
theorem row_okD {ws:List Str} {ps:List D} (h:∀ p ∈ ps,p ∈ piecesOf ws):okD 30 (.tup ps) = true:=by
 show ps.all (okD 29) = true
 rw [List.all_eq_true]
 exact fun p hp => piece_okD (h p hp)
theorem num_split {n z:Nat} (h:z < n ^ 1 + n ^ 2 + n ^ 3):∃ l d,1 ≤ l ∧ l ≤ 3 ∧ d < n ^ l ∧ z = bas n l + d:=by
 generalize e1:n ^ 1 = a at h
 generalize e2:n ^ 2 = b at h
 generalize e3:n ^ 3 = c at h
 by_cases h1:z < a
 ·exact ⟨1,z,by decide,by decide,by rw [e1]; exact h1,by simp [bas]⟩
 ·by_cases h2:z < a + b
  ·exact ⟨2,z - a,by decide,by decide,by rw [e2]; omega,by show z = n ^ 1 + (z - a); rw [e1]; omega⟩
  ·exact ⟨3,z - a - b,by decide,by decide,by rw [e3]; omega,by show z = n ^ 1 + n ^ 2 + (z - a - b); rw [e1,e2]; omega⟩
theorem bas_lt {n l d:Nat} (h1:1 ≤ l) (h3:l ≤ 3) (hd:d < n ^ l):bas n l + d < n ^ 1 + n ^ 2 + n ^ 3:=by
 match l,h1,h3 with
 | 1,_,_ => show 0 + d < _; omega
 | 2,_,_ => show n ^ 1 + d < _; omega
 | 3,_,_ => show n ^ 1 + n ^ 2 + d < _; omega
theorem cutT_mem {xs:List D} {lo hi:Option Int} {d:D} (h:d ∈ cutD xs lo hi):d ∈ xs:=List.mem_of_mem_drop (List.mem_of_mem_take h)
theorem law_w (ns:List Int) (hn:ns.length ≤ 63) (hb:∀ z ∈ ns,Builtin.Int.intBits z ≤ 1048576):W2 (G_z39 [.fz (ns.map .int)] []) fun d _ => d = .bl true:=by
 unfold G_z39
 refine w_run rfl ?_
 unfold B_z39
 -- the words
 refine ws_cut (fun ρ L' => ∃ w ws,L'[w]? = some (.lst (ws.map D.str)) ∧ WordsOk ws ∧ ρ = [some (.fz (ns.map .int)),some (.ref w),none,none,none,none,none,none,none,none,none,none]) ?_ ?_
 ·wtm_at "z"
  refine cell_w hb hn (by decide) (by decide) fun c hc1 hc2 => ?_
  wtm_at "z"
  refine lw_words_w _ fun ws L1 hw hp hg => ?_
  wtm_at "z"
  exact ⟨_,ws,hg,hw,rfl⟩
 rintro ρ L1 ⟨w,ws0,hg,hw0,rfl⟩
 refine ws_cut (fun ρ L' => ∃ ws:List Str,L'[w]? = some (.lst (ws.map D.str)) ∧ ws.Nodup ∧ ws.length ≤ 6 ∧ ∃ e,ρ = [some (.fz (ns.map .int)),some (.ref w),e,none,none,none,none,none,none,none,none,none]) ?_ ?_
 ·wtm_at "z"
  refine cell_w hb hn (by decide) (by decide) fun c hc1 hc2 => ?_
  wtm_at "z"
  refine lw_words_w _ fun ws2 L2 hw2 hp2 hg2 => ?_
  wtm_at "z"
  have hgL:L2[w]? = some (.lst (ws0.map D.str)):=pre_at hp2 hg
  have hwl:=lt_of_get hgL
  refine ws_loop (fun j ρ L' => L'[L2.length]? = some (.lst (cutD (ws2.map D.str) none (some 2))) ∧ ∃ ws:List Str,L'[w]? = some (.lst (ws.map D.str)) ∧ ws.Nodup ∧ ws.length ≤ 6 ∧ ∃ e,ρ = [some (.fz (ns.map .int)),some (.ref w),e,none,none,none,none,none,none,none,none,none]) _ 0 _ _ ⟨get_last,ws0,get_app hgL,hw0.1,hw0.2.2,none,rfl⟩ ?_ ?_
  ·rintro i x ρ L' hx ⟨hgd,ws,hgw,hnd,hl,e,rfl⟩
   refine ⟨decide_eq_true hgd,?_⟩
   obtain ⟨wd,hwd,rfl⟩:=List.mem_map.mp (cutT_mem (List.mem_of_getElem? hx))
   wtm_at "z"
   refine g_notinR hgw (by rw [flat_strs]; rfl) ?_
   rw [inD_strs]
   wtm_at "z"
   refine br_dec (fun hm => ?_) (fun hm => ?_)
   ·wtm_at "z"
    exact ⟨hgd,ws,hgw,hnd,hl,_,rfl⟩
   ·wtm_at "z"
    refine br_dec (fun h6 => ?_) (fun h6 => ?_)
    ·rw [List.length_map] at h6
     wtm_at "z"
     refine g_append hgw (by rw [List.length_map]; omega) ?_
     wtm_at "z"
     refine ⟨get_setN (by omega) hgd,ws ++ [wd],by rw [get_setS hgw]; simp,?_,by simp; omega,_,rfl⟩
     rw [List.nodup_append]
     refine ⟨hnd,by simp,fun a ha b hb e => ?_⟩
     have:b = wd:=by simpa using hb
     rw [this] at e
     exact hm (e ▸ ha)
    ·wtm_at "z"
     exact ⟨hgd,ws,hgw,hnd,hl,_,rfl⟩
  ·rintro ρ L' ⟨hgd,ws,hgw,hnd,hl,e,rfl⟩
   exact ⟨decide_eq_true hgd,ws,hgw,hnd,hl,_,rfl⟩
 rintro ρ L2 ⟨ws,hgw,hnd,hl6,e0,rfl⟩
 have hPl:=pieces_len ws
 -- the table
 refine ws_cut (fun ρ L' => ∃ t,L'[w]? = some (.lst (ws.map D.str)) ∧ Tab L' t ws ∧ ρ = [some (.fz (ns.map .int)),some (.ref w),e0,some (.ref t),none,none,none,none,none,none,none,none]) ?_ ?_
 ·wtm_at "z"
  refine table_w (get_app hgw) hl6 hnd get_last fun L3 t hp T => ?_
  wtm_at "z"
  exact ⟨t,pre_at hp (get_app hgw),T,rfl⟩
 rintro ρ L3 ⟨t,hgw3,T3,rfl⟩
 have hwy:wy (piecesOf ws).length 2 + (wy (piecesOf ws).length 3 + (wy (piecesOf ws).length 4 + 0)) = ((ws.length:Int) + 4800) + ((ws.length:Int) + 4800) * ((ws.length:Int) + 4800) + ((ws.length:Int) + 4800) * ((ws.length:Int) + 4800) * ((ws.length:Int) + 4800):=by
  have e:(((piecesOf ws).length:Nat):Int) = (ws.length:Int) + 4800:=by omega
  rw [← e]
  show (((piecesOf ws).length ^ 1:Nat):Int) + ((((piecesOf ws).length ^ 2:Nat):Int) + ((((piecesOf ws).length ^ 3:Nat):Int) + 0)) = _
  simp only [Nat.pow_succ,Nat.pow_zero,Nat.one_mul]
  push_cast
  omega
 have hlm:((ws.map D.str).length:Int) + 4800 = (ws.length:Int) + 4800:=by rw [List.length_map]
 generalize hnI:(ws.length:Int) + 4800 = nI at *
 have hnb:4800 ≤ nI ∧ nI ≤ 4806:=by omega
 have hn2:0 ≤ nI * nI ∧ nI * nI ≤ 23097636:=by
  have a1:nI * nI ≤ 4806 * 4806:=Int.mul_le_mul (by omega) (by omega) (by omega) (by omega)
  exact ⟨Int.mul_nonneg (by omega) (by omega),by omega⟩
 have hn3:0 ≤ nI * nI * nI ∧ nI * nI * nI ≤ 111007238616:=by
  have a1:nI * nI * nI ≤ 23097636 * 4806:=Int.mul_le_mul (by omega) (by omega) (by omega) (by omega)
  exact ⟨Int.mul_nonneg (by omega) (by omega),by omega⟩
 generalize hsz:nI + nI * nI + nI * nI * nI = size at *
 refine ws_cut (fun ρ L' => L' = L3 ∧ ρ = [some (.fz (ns.map .int)),some (.ref w),e0,some (.ref t),some (.int nI),none,none,none,none,none,none,none]) ?_ ?_
 ·wtm_at "z"
  rw [hlm]
  exact ⟨rfl,rfl⟩
 rintro ρ L' ⟨rfl,rfl⟩
 refine ws_cut (fun ρ L'' => L'' = L' ∧ ρ = [some (.fz (ns.map .int)),some (.ref w),e0,some (.ref t),some (.int nI),some (.int size),none,none,none,none,none,none]) ?_ ?_
 ·wtm_at "z"
  refine many_w T3 ?_
  rw [hwy]
  exact ⟨rfl,rfl⟩
 rintro ρ L3 ⟨rfl,rfl⟩
 refine ws_cut (fun ρ L'' => L'' = L3 ∧ ρ = [some (.fz (ns.map .int)),some (.ref w),e0,some (.ref t),some (.int nI),some (.int size),none,none,none,none,none,none]) ?_ ?_
 ·wtm_at "z"
  refine whole_w ?_
  wtm_at "z"
  refine g_mulI (mulOk_l (by omega)) ?_
  wtm_at "z"
  refine g_mulI (mulOk_l (by omega)) ?_
  wtm_at "z"
  refine g_mulI (mulOk_r (by omega)) ?_
  wtm_at "z"
  exact ⟨rfl,rfl⟩
 rintro ρ L' ⟨rfl,rfl⟩
 -- the row
 refine ws_cut (fun ρ L'' => L' <+: L'' ∧ ∃ (ce:Nat) (cs:List D),L''[ce]? = some (.lst cs) ∧ 1 ≤ cs.length ∧ cs.length ≤ 3 ∧ (∀ c ∈ cs,∃ i,c = .int i) ∧ ρ = [some (.fz (ns.map .int)),some (.ref w),e0,some (.ref t),some (.int nI),some (.int size),some (.ref ce),none,none,none,none,none]) ?_ ?_
 ·wtm_at "z"
  refine cell_w hb hn (by decide) (by decide) fun c hc1 hc2 => ?_
  wtm_at "z"
  refine wc_map (fun ρ => ∃ e,ρ = [e,some (.fz (ns.map .int))]) (fun d => ∃ i,d = .int i) ⟨_,rfl⟩ (by rw [rngD_len]; split <;> omega) ?_ ?_
  ·rintro x hx ρ ⟨e,rfl⟩
   obtain ⟨i,hi,rfl⟩:=rngD_mem hx
   wtm_at "z"
   refine ⟨⟨_,rfl⟩,fun acc => ?_⟩
   wtm_at "z"
   refine cell_w hb hn (by omega) (by split at hi <;> omega) fun c2 _ _ => ?_
   exact ⟨rfl,_,rfl⟩
  ·intro ds hdl hds
   rw [rngD_len] at hdl
   have hdl2:ds.length ≤ 2:=by rw [hdl]; split <;> omega
   wtm_at "z"
   refine g_addL (get_app get_last) get_last (by simp; omega) ?_
   refine ⟨?_,_,[.int c] ++ ds,get_last,by simp,by simp; omega,fun c' hc' => ?_,rfl⟩
   ·exact (List.prefix_append _ _).trans ((List.prefix_append _ _).trans (List.prefix_append _ _))
   ·rcases List.mem_append.mp hc' with h | h
    ·exact ⟨c,by simpa using h⟩
    ·exact hds c' h
 rintro ρ L4 ⟨hp4,ce,cs,hce,hc1,hc3,hci,rfl⟩
 have hgw4:=pre_at hp4 hgw3
 have T4:=T3.pre hp4
 refine ws_cut (fun ρ L'' => L' <+: L'' ∧ ∃ ps:List D,1 ≤ ps.length ∧ ps.length ≤ 3 ∧ (∀ p ∈ ps,p ∈ piecesOf ws) ∧ ρ = [some (.fz (ns.map .int)),some (.ref w),e0,some (.ref t),some (.int nI),some (.int size),some (.ref ce),some (.tup ps),none,none,none,none]) ?_ ?_
 ·wtm_at "z"
  refine wc_mapK (fun ρ => ∃ e,ρ = [e,some (.ref w)]) (fun p => p ∈ piecesOf ws) (fun acc => decide_eq_true (get_app hce)) ⟨_,rfl⟩ (by omega) ?_ ?_
  ·rintro x hx ρ ⟨e,rfl⟩
   obtain ⟨i,rfl⟩:=hci x hx
   wtm_at "z"
   refine ⟨⟨_,rfl⟩,fun acc => ?_⟩
   wtm_at "z"
   exact lw_piece_w _ (get_app hgw4) hl6 fun p hp => ⟨rfl,hp⟩
  ·intro ds hdl hds
   wtm_at "z"
   exact ⟨hp4.trans (List.prefix_append _ _),ds,by omega,by omega,hds,rfl⟩
 rintro ρ L5 ⟨hp5,ps,hps1,hps3,hpsm,rfl⟩
 have hgw5:=pre_at hp5 hgw3
 have T5:=T3.pre hp5
 obtain ⟨idx,hix1,hix2,hix3,hix4⟩:=idx_of hpsm
 have hdl:=dig_lt idx hix2
 rw [hix1] at hdl
 have hNI:(((piecesOf ws).length:Nat):Int) = nI:=by omega
 have hsize:size = (((piecesOf ws).length ^ 1 + (piecesOf ws).length ^ 2 + (piecesOf ws).length ^ 3:Nat):Int):=by
  rw [← hsz,← hNI]
  simp only [Nat.pow_succ,Nat.pow_zero,Nat.one_mul]
  push_cast
  omega
 have hnum:=bas_lt hps1 hps3 hdl
 refine ws_cut (fun ρ L'' => L'' = L5 ∧ ρ = [some (.fz (ns.map .int)),some (.ref w),e0,some (.ref t),some (.int nI),some (.int size),some (.ref ce),some (.tup ps),some (.int (((bas (piecesOf ws).length ps.length + dig (piecesOf ws).length idx:Nat)):Int)),none,none,none]) ?_ ?_
 ·wtm_at "z"
  refine number_w T5 hl6 hnd hps1 hps3 hix1 hix3 ?_
  exact ⟨rfl,rfl⟩
 rintro ρ L6 ⟨rfl,rfl⟩
 refine ws_cut (fun ρ L'' => L'' = L6 ∧ ρ = [some (.fz (ns.map .int)),some (.ref w),e0,some (.ref t),some (.int nI),some (.int size),some (.ref ce),some (.tup ps),some (.int (((bas (piecesOf ws).length ps.length + dig (piecesOf ws).length idx:Nat)):Int)),none,none,none]) ?_ ?_
 ·wtm_at "z"
  refine whole_w ?_
  wtm_at "z"
  refine rowAt_w T5 hl6 hps1 hps3 hdl ?_
  rw [rowOf_dig hix1 hix2 hix4]
  wtm_at "z"
  refine gNeD_self (row_okD hpsm) ?_
  wtm_at "z"
  exact ⟨rfl,rfl⟩
 rintro ρ L7 ⟨rfl,rfl⟩
 generalize hnum0:(((bas (piecesOf ws).length ps.length + dig (piecesOf ws).length idx:Nat)):Int) = num0
 refine ws_seq (ws_set (w_cst ?_))
 refine ws_cut (fun ρ L'' => L'' = L7 ∧ ∃ o:Str,ρ = [some (.fz (ns.map .int)),some (.ref w),e0,some (.ref t),some (.int nI),some (.int size),some (.ref ce),some (.tup ps),some (.int num0),some (.str o),none,none]) ?_ ?_
 ·wtm_at "z"
  refine g_inR hgw5 (by rw [flat_strs]; rfl) ?_
  rw [inD_strs]
  wtm_at "z"
  refine br_dec (fun hm => ?_) (fun hm => ?_)
  ·wtm_at "z"
   exact ⟨rfl,_,rfl⟩
  ·wtm_at "z"
   exact ⟨rfl,_,rfl⟩
 rintro ρ L8 ⟨rfl,o,rfl⟩
 refine ws_cut (fun ρ L'' => L'' = L8 ∧ ρ = [some (.fz (ns.map .int)),some (.ref w),e0,some (.ref t),some (.int nI),some (.int size),some (.ref ce),some (.tup ps),some (.int num0),some (.str o),none,none]) ?_ ?_
 ·wtm_at "z"
  refine g_notinR hgw5 (by rw [flat_strs]; rfl) ?_
  rw [inD_strs]
  wtm_at "z"
  refine br_dec (fun hm => ?_) (fun hm => ?_)
  ·wtm_at "z"
   exact ⟨rfl,rfl⟩
  ·wtm_at "z"
   have hcm:∀ p ∈ cutD ps none (some (-1)),p ∈ piecesOf ws:=fun p hp => hpsm p (cutT_mem hp)
   have hcl:(cutD ps none (some (-1))).length ≤ 2:=by
    match ps,hps1,hps3 with
    | [_],_,_ => show 0 ≤ 2; decide
    | [_,_],_,_ => show 1 ≤ 2; decide
    | [_,_,_],_,_ => show 2 ≤ 2; decide
   have go:W2 (gAdd (.tup (cutD ps none (some (-1)))) (.tup [.tup [.str "word",.str o]]) L8) fun d L2 => d = .tup (cutD ps none (some (-1)) ++ [wpc o]) ∧ L2 = L8:=by
    cases hc:cutD ps none (some (-1)) with
    | nil => exact g_addTE ⟨rfl,rfl⟩
    | cons x xs => exact g_addT (by simp) (by rw [hc] at hcl; simp at hcl ⊢; omega) ⟨rfl,rfl⟩
   refine go.mono ?_
   rintro d L2 ⟨rfl,rfl⟩
   wtm_at "z"
   refine number_no T5 hcl hcm hm ?_
   wtm_at "z"
   exact ⟨rfl,rfl⟩
 rintro ρ L9 ⟨rfl,rfl⟩
 refine ws_cut (fun ρ L'' => L'' = L9 ∧ ∃ near:Int,0 ≤ near ∧ near < nI ∧ ρ = [some (.fz (ns.map .int)),some (.ref w),e0,some (.ref t),some (.int nI),some (.int size),some (.ref ce),some (.tup ps),some (.int num0),some (.str o),some (.int near),none]) ?_ ?_
 ·wtm_at "z"
  refine cell_w hb hn (by decide) (by decide) fun c _ _ => ?_
  wtm_at "z"
  exact ⟨rfl,_,Int.emod_nonneg _ (by omega),Int.emod_lt_of_pos _ (by omega),rfl⟩
 rintro ρ L10 ⟨rfl,near,hne1,hne2,rfl⟩
 have hszb:nI < size:=by
  have:0 < nI * nI:=Int.mul_pos (by omega) (by omega)
  rw [← hsz]; omega
 wtm_at "z"
 refine cell_w hb hn (by decide) (by decide) fun c _ _ => ?_
 wtm_at "z"
 have hgw11:(L10 ++ [Ob.lst [D.int (c % size),.int (size - 1 - near),.int near]])[w]? = _:=get_app hgw5
 have T11:Tab (L10 ++ [Ob.lst [D.int (c % size),.int (size - 1 - near),.int near]]) t ws:=T5.pre (List.prefix_append _ _)
 generalize hL11:L10 ++ [Ob.lst [D.int (c % size),.int (size - 1 - near),.int near]] = L11 at *
 have hit:L11[L10.length]? = some (.lst [D.int (c % size),.int (size - 1 - near),.int near]):=by rw [← hL11]; exact get_last
 refine ws_loop (fun j ρ L'' => L'' = L11 ∧ ∃ e1 e2,ρ = [some (.fz (ns.map .int)),some (.ref w),e0,some (.ref t),some (.int nI),some (.int size),some (.ref ce),some (.tup ps),e1,some (.str o),some (.int near),e2]) _ 0 _ _ ⟨rfl,_,_,rfl⟩ ?_ ?_
 ·rintro i x ρ L'' hx ⟨rfl,e1,e2,rfl⟩
  refine ⟨decide_eq_true hit,?_⟩
  obtain ⟨z,rfl,hz⟩:∃ z:Nat,x = .int (z:Int) ∧ z < (piecesOf ws).length ^ 1 + (piecesOf ws).length ^ 2 + (piecesOf ws).length ^ 3:=by
   have hx:=List.mem_of_getElem? hx
   simp only [List.mem_cons,List.not_mem_nil,or_false] at hx
   have k1:=Int.emod_nonneg c (b:=size) (by omega)
   have k2:=Int.emod_lt_of_pos c (b:=size) (by omega)
   generalize (piecesOf ws).length ^ 1 + (piecesOf ws).length ^ 2 + (piecesOf ws).length ^ 3 = S at hsize
   rcases hx with rfl | rfl | rfl
   ·exact ⟨(c % size).toNat,by congr 1; omega,by omega⟩
   ·exact ⟨(size - 1 - near).toNat,by congr 1; omega,by omega⟩
   ·exact ⟨near.toNat,by congr 1; omega,by omega⟩
  obtain ⟨l,d,h1,h3,hd,rfl⟩:=num_split hz
  have hrm:=rowOf_mem (P:=piecesOf ws) (l:=l) (z:=d) (by omega) hd
  have hrl:=rowOf_len (piecesOf ws) l d
  wtm_at "z"
  refine rowAt_w T11 hl6 h1 h3 hd ?_
  wtm_at "z"
  refine lw_isrow_w hgw11 (by rw [hrl]; exact h1) (by rw [hrl]; exact h3) hrm ?_
  wtm_at "z"
  refine number_w (idx:=digs (piecesOf ws).length l d) T11 hl6 hnd (by rw [hrl]; exact h1) (by rw [hrl]; exact h3) (by rw [hrl,digs_len]) (fun j i hi => ?_) ?_
  ·have hlt:=digs_lt (show 0 < (piecesOf ws).length by omega) l d hd i (List.mem_of_getElem? hi)
   refine ⟨(piecesOf ws)[i],?_,by simp [hlt]⟩
   unfold rowOf
   rw [List.getElem?_map,hi]
   simp [hlt]
  ·rw [hrl,dig_digs (by omega) l d hd]
   wtm_at "z"
   exact ⟨rfl,_,_,rfl⟩
 ·rintro ρ L'' ⟨rfl,e1,e2,rfl⟩
  refine ⟨decide_eq_true hit,?_⟩
  wtm_at "z"
  refine many_w T11 ?_
  rw [hwy]
  wtm_at "z"
  refine ⟨rfl,List.nil_prefix,?_⟩
  rw [decide_eq_true rfl]
theorem law_true (ns:List Int) (hn:ns.length ≤ 63) (hb:∀ z ∈ ns,Builtin.Int.intBits z ≤ 1048576):∃ L',G_z39 [.fz (ns.map .int)] [] = some (.bl true,L'):=by
 obtain ⟨d,L',e,rfl⟩:=law_w ns hn hb
 exact ⟨L',e⟩
end L3
set_option maxHeartbeats 8000000
namespace L3
open PySem PySem.Spec PyProof.Rows L2
seal PEf PTf PWf PAf PSf PSsf PGf PGsf PIf PQf POf OpD CallD IxD MtD
noncomputable def NBl:List Str:=["abs","all","bool","enumerate","int","isinstance","len","list","min","range","sorted","str","sum","tuple","zip"]
noncomputable abbrev s_z31:Stmt:=atTop PySem.Challenge.pw_byexample_k34_no_examples 50
theorem sc_z31:FnScope N_z31 ["_law_cell_here","_law_most"] (defScope s_z31):=⟨rfl,rfl,rfl,by decide +kernel,rfl,by decide +kernel,by decide +kernel⟩
section
variable {P:Program} {w:World} {K:PySem.W.Frag} {mg:Str → Option Value} {base:Heap} {k:Nat} {f:Addr} {cdv:Value} {A:Around} {outer:List Env} {s:Shared} {H:Hp} {E:XK}
theorem d_z31 (hr:Room k (A.deeper (envOfC "_law_text" (defScope s_z31) s.heap.objs.size f cdv))) (hb:BlOk mg NBl) :
  PSsf (cxOf CX0 P w K mg base N_z31 "_law_text" (defScope s_z31) f cdv A outer s H E).nox (defBody s_z31) (B_z31):=by
 have nd:N_z31.Nodup:=sc_z31.nd
 exact (ssf_cons (sf_set (i:=2) nd ef_str) (ssf_cons (sf_set (i:=3) nd (ef_ix xd_ix (ef_lst (af_cons ef_str (af_cons ef_str (af_cons ef_str (af_cons (ef_var (pv 2)) af_nil))))) (ef_op od_mod (ef_op od_fdiv (ef_var (pv 0)) ef_int) ef_int) (fun _ _ => rfl))) (ssf_cons (sf_set (i:=4) nd (ef_op od_mod (ef_var (pv 0)) (ef_op od_add (ef_var (pv 1)) ef_int))) (ssf_cons (sf_set (i:=0) nd (ef_op od_fdiv (ef_var (pv 0)) ef_int)) (ssf_cons (sf_set (i:=5) nd ef_str) (ssf_cons (sf_for PassesOwn.never rfl (pif_range1 (hb.get "range") (af_cons (ef_var (pv 4)) af_nil)) (gf_name (i:=6) nd) (ssf_cons (sf_set (i:=5) nd (ef_op od_add (ef_var (pv 5)) (ef_ix xd_ix (ef_var (pv 3)) (ef_op od_mod (ef_var (pv 0)) (ef_callB cd_len (hb.get "len") bt_len (af_cons (ef_var (pv 3)) af_nil))) (fun _ _ => rfl)))) (ssf_one (sf_set (i:=0) nd (ef_op od_fdiv (ef_var (pv 0)) (ef_callB cd_len (hb.get "len") bt_len (af_cons (ef_var (pv 3)) af_nil))))))) (ssf_one (sf_ret (ef_var (pv 5))))))))))
noncomputable abbrev s_z22:Stmt:=atTop PySem.Challenge.pw_byexample_k34_no_examples 51
theorem sc_z22:FnScope N_z22 ["_law_cell_here"] (defScope s_z22):=⟨rfl,rfl,rfl,by decide +kernel,rfl,by decide +kernel,by decide +kernel⟩
theorem d_z22 (hr:Room k (A.deeper (envOfC "_law_words" (defScope s_z22) s.heap.objs.size f cdv))) (hb:BlOk mg NBl) {G_z31:GL} (F_z31:FnD P w K mg base k "_law_text" G_z31) :
  PSsf (cxOf CX0 P w K mg base N_z22 "_law_words" (defScope s_z22) f cdv A outer s H E).nox (defBody s_z22) (B_z22 G_z31):=by
 have nd:N_z22.Nodup:=sc_z22.nd
 exact (ssf_cons (sf_set (i:=1) nd (ef_lst af_nil)) (ssf_cons (sf_set (i:=2) nd (ef_op od_mod (ef_var (pv 0)) ef_int)) (ssf_cons (sf_if (tf_cmp od_eq (ef_op od_mod (ef_op od_fdiv (ef_var (pv 0)) ef_int) ef_int) ef_int rfl) (ssf_one (sf_set (i:=2) nd (ef_op od_add ef_int (ef_op od_mod (ef_var (pv 0)) ef_int)))) ssf_nil) (ssf_cons (sf_set (i:=3) nd (ef_op od_fdiv (ef_var (pv 0)) ef_int)) (ssf_cons (sf_for PassesOwn.never rfl (pif_range1 (hb.get "range") (af_cons (ef_var (pv 2)) af_nil)) (gf_name (i:=4) nd) (ssf_cons (sf_set (i:=5) nd (ef_call F_z31 hr (af_cons (ef_var (pv 3)) (af_cons (ef_ix xd_ix (ef_lst (af_cons ef_int (af_cons ef_int (af_cons ef_int (af_cons ef_int af_nil))))) (ef_op od_mod (ef_op od_fdiv (ef_var (pv 3)) ef_int) ef_int) (fun _ _ => rfl)) af_nil)))) (ssf_cons (sf_if (tf_cmp od_gt (ef_var (pv 2)) ef_int rfl) (ssf_one (sf_set (i:=5) nd (ef_slice (ef_var (pv 5)) of_none (of_some ef_int)))) ssf_nil) (ssf_cons (sf_if (tf_cmp od_eq (ef_var (pv 5)) ef_str rfl) (ssf_one (sf_set (i:=5) nd ef_str)) ssf_nil) (ssf_cons (sf_if (tf_cmp od_notin (ef_var (pv 5)) (ef_var (pv 1)) rfl) (ssf_one (sf_expr (ef_bm PySem.F.plainAttrs_list PySem.F.slot_list_append PySem.F.type_list_append md_append (ef_var (pv 1)) (af_cons (ef_var (pv 5)) af_nil)))) ssf_nil) (ssf_one (sf_set (i:=3) nd (ef_op od_fdiv (ef_var (pv 3)) (ef_op od_pow ef_int ef_int))))))))) (ssf_one (sf_ret (ef_var (pv 1)))))))))
noncomputable abbrev s_z16:Stmt:=atTop PySem.Challenge.pw_byexample_k34_no_examples 36
theorem sc_z16:FnScope N_z16 ["groups"] (defScope s_z16):=⟨rfl,rfl,rfl,by decide +kernel,rfl,by decide +kernel,by decide +kernel⟩
theorem d_z16 (hr:Room k (A.deeper (envOfC "members_of" (defScope s_z16) s.heap.objs.size f cdv))) (hb:BlOk mg NBl) :
  PSsf (cxOf CX0 P w K mg base N_z16 "members_of" (defScope s_z16) f cdv A outer s H E).nox (defBody s_z16) (B_z16):=by
 have nd:N_z16.Nodup:=sc_z16.nd
 exact (ssf_cons (sf_set (i:=1) nd ef_dnewN) (ssf_cons (sf_for PassesOwn.never rfl (pif_pairs (ef_var (pv 0))) (gf_tup (n:=2) rfl (gsf_cons (gf_name (i:=2) nd) (gsf_cons (gf_name (i:=3) nd) gsf_nil))) (ssf_one (sf_for PassesOwn.never rfl (pif_enumL (hb.get "enumerate") (af_cons (ef_var (pv 3)) af_nil)) (gf_tup (n:=2) rfl (gsf_cons (gf_name (i:=4) nd) (gsf_cons (gf_name (i:=5) nd) gsf_nil))) (ssf_one (sf_dput hr.units (ef_var (pv 1)) (ef_var (pv 5)) (ef_tup (af_cons (ef_var (pv 2)) (af_cons (ef_var (pv 4)) af_nil)))))))) (ssf_one (sf_ret (ef_var (pv 1))))))
noncomputable abbrev s_z20:Stmt:=inCls PySem.Challenge.pw_byexample_k34_no_examples 34 0
theorem sc_z20:FnScope N_z20 ["self","ways"] (defScope s_z20):=⟨rfl,rfl,rfl,by decide +kernel,rfl,by decide +kernel,by decide +kernel⟩
theorem d_z20 (hr:Room k (A.deeper (envOfC "Node.__init__" (defScope s_z20) s.heap.objs.size f cdv))) (hb:BlOk mg NBl) (O_Node_arms:FldOk K "Node" "arms") (O_Node_ways:FldOk K "Node" "ways") :
  PSsf (cxOf CX0 P w K mg base N_z20 "Node.__init__" (defScope s_z20) f cdv A outer s H E).nox (defBody s_z20) (B_z20):=by
 have nd:N_z20.Nodup:=sc_z20.nd
 exact (ssf_cons (sf_putO (ef_var (pv 0)) (ef_var (pv 1)) (fld_cons O_Node_ways fld_nil)) (ssf_one (sf_putO (ef_var (pv 0)) ef_dnewN (fld_cons O_Node_arms fld_nil))))
noncomputable abbrev s_z15:Stmt:=inCls PySem.Challenge.pw_byexample_k34_no_examples 35 0
theorem sc_z15:FnScope N_z15 ["self","words","groups"] (defScope s_z15):=⟨rfl,rfl,rfl,by decide +kernel,rfl,by decide +kernel,by decide +kernel⟩
theorem d_z15 (hr:Room k (A.deeper (envOfC "Table.__init__" (defScope s_z15) s.heap.objs.size f cdv))) (hb:BlOk mg NBl) (O_Table_groups:FldOk K "Table" "groups") (O_Table_members:FldOk K "Table" "members") (O_Table_node_numbers:FldOk K "Table" "node_numbers") (O_Table_nodes:FldOk K "Table" "nodes") (O_Table_roots:FldOk K "Table" "roots") (O_Table_words:FldOk K "Table" "words") {G_z16:GL} (F_z16:FnD P w K mg base k "members_of" G_z16) {G_z20:GL} (F_z20:FnK P w K mg base k "Node" G_z20) :
  PSsf (cxOf CX0 P w K mg base N_z15 "Table.__init__" (defScope s_z15) f cdv A outer s H E).nox (defBody s_z15) (B_z15 G_z16 G_z20):=by
 have nd:N_z15.Nodup:=sc_z15.nd
 exact (ssf_cons (sf_putO (ef_var (pv 0)) (ef_var (pv 1)) (fld_cons O_Table_words fld_nil)) (ssf_cons (sf_putO (ef_var (pv 0)) (ef_var (pv 2)) (fld_cons O_Table_groups fld_nil)) (ssf_cons (sf_putO (ef_var (pv 0)) (ef_call F_z16 hr (af_cons (ef_var (pv 2)) af_nil)) (fld_cons O_Table_members fld_nil)) (ssf_cons (sf_putO (ef_var (pv 0)) (ef_lst (af_cons (ef_make F_z20 hr (af_cons ef_int af_nil)) (af_cons (ef_make F_z20 hr (af_cons ef_int af_nil)) af_nil))) (fld_cons O_Table_nodes fld_nil)) (ssf_cons (sf_putO (ef_var (pv 0)) ef_dnewN (fld_cons O_Table_node_numbers fld_nil)) (ssf_one (sf_putO (ef_var (pv 0)) (ef_lst af_nil) (fld_cons O_Table_roots fld_nil))))))))
noncomputable abbrev s_z13:Stmt:=atTop PySem.Challenge.pw_byexample_k34_no_examples 11
theorem sc_z13:FnScope N_z13 [] (defScope s_z13):=⟨rfl,rfl,rfl,by decide +kernel,rfl,by decide +kernel,by decide +kernel⟩
theorem d_z13 (hr:Room k (A.deeper (envOfC "all_places" (defScope s_z13) s.heap.objs.size f cdv))) (hb:BlOk mg NBl) (C_EDGES:GCon K mg "EDGES" c_EDGES) (C_KINDS:GCon K mg "KINDS" c_KINDS) (C_NTHS:GCon K mg "NTHS" c_NTHS) :
  PSsf (cxOf CX0 P w K mg base N_z13 "all_places" (defScope s_z13) f cdv A outer s H E).nox (defBody s_z13) (B_z13):=by
 have nd:N_z13.Nodup:=sc_z13.nd
 exact (ssf_cons (sf_set (i:=0) nd (ef_lst af_nil)) (ssf_cons (sf_for PassesOwn.never rfl (pif_any (ef_gcon C_KINDS)) (gf_name (i:=1) nd) (ssf_one (sf_for PassesOwn.never rfl (pif_any (ef_gcon C_NTHS)) (gf_name (i:=2) nd) (ssf_one (sf_for PassesOwn.never rfl (pif_any (ef_gcon C_EDGES)) (gf_name (i:=3) nd) (ssf_one (sf_expr (ef_bm PySem.F.plainAttrs_list PySem.F.slot_list_append PySem.F.type_list_append md_append (ef_var (pv 0)) (af_cons (ef_tup (af_cons (ef_var (pv 1)) (af_cons (ef_var (pv 2)) (af_cons (ef_var (pv 3)) af_nil)))) af_nil))))))))) (ssf_one (sf_ret (ef_var (pv 0))))))
noncomputable abbrev s_z33:Stmt:=atTop PySem.Challenge.pw_byexample_k34_no_examples 6
theorem sc_z33:FnScope N_z33 ["sign"] (defScope s_z33):=⟨rfl,rfl,rfl,by decide +kernel,rfl,by decide +kernel,by decide +kernel⟩
theorem d_z33 (hr:Room k (A.deeper (envOfC "kind_of" (defScope s_z33) s.heap.objs.size f cdv))) (hb:BlOk mg NBl) (C_SIGNS_BY_KIND:GCon K mg "SIGNS_BY_KIND" c_SIGNS_BY_KIND) :
  PSsf (cxOf CX0 P w K mg base N_z33 "kind_of" (defScope s_z33) f cdv A outer s H E).nox (defBody s_z33) (B_z33):=by
 have nd:N_z33.Nodup:=sc_z33.nd
 exact (ssf_cons (sf_for PassesOwn.never rfl (pif_any (ef_gcon C_SIGNS_BY_KIND)) (gf_tup (n:=2) rfl (gsf_cons (gf_name (i:=1) nd) (gsf_cons (gf_name (i:=2) nd) gsf_nil))) (ssf_one (sf_if (tf_cmp od_in (ef_var (pv 0)) (ef_var (pv 2)) rfl) (ssf_one (sf_ret (ef_var (pv 1)))) ssf_nil))) (ssf_one (sf_ret ef_non)))
noncomputable abbrev s_z36:Stmt:=atTop PySem.Challenge.pw_byexample_k34_no_examples 7
theorem sc_z36:FnScope N_z36 ["kind","sign"] (defScope s_z36):=⟨rfl,rfl,rfl,by decide +kernel,rfl,by decide +kernel,by decide +kernel⟩
theorem d_z36 (hr:Room k (A.deeper (envOfC "is_of" (defScope s_z36) s.heap.objs.size f cdv))) (hb:BlOk mg NBl) {G_z33:GL} (F_z33:FnD P w K mg base k "kind_of" G_z33) :
  PSsf (cxOf CX0 P w K mg base N_z36 "is_of" (defScope s_z36) f cdv A outer s H E).nox (defBody s_z36) (B_z36 G_z33):=by
 have nd:N_z36.Nodup:=sc_z36.nd
 exact (ssf_one (sf_ret (ef_or (ef_cmp od_eq (ef_var (pv 0)) ef_str rfl) (ef_one (ef_cmp od_eq (ef_call F_z33 hr (af_cons (ef_var (pv 1)) af_nil)) (ef_var (pv 0)) rfl)))))
noncomputable abbrev s_z38:Stmt:=atTop PySem.Challenge.pw_byexample_k34_no_examples 15
theorem sc_z38:FnScope N_z38 ["place","text"] (defScope s_z38):=⟨rfl,rfl,rfl,by decide +kernel,rfl,by decide +kernel,by decide +kernel⟩
theorem d_z38 (hr:Room k (A.deeper (envOfC "spot" (defScope s_z38) s.heap.objs.size f cdv))) (hb:BlOk mg NBl) {G_z36:GL} (F_z36:FnD P w K mg base k "is_of" G_z36) :
  PSsf (cxOf CX0 P w K mg base N_z38 "spot" (defScope s_z38) f cdv A outer s H E).nox (defBody s_z38) (B_z38 G_z36):=by
 have nd:N_z38.Nodup:=sc_z38.nd
 exact (ssf_cons (sf_set (i:=2) nd (ef_ix xd_ix (ef_var (pv 0)) ef_int (fun _ _ => rfl))) (ssf_cons (sf_set (i:=3) nd (ef_ix xd_ix (ef_var (pv 0)) ef_int (fun _ _ => rfl))) (ssf_cons (sf_setComp (i:=4) nd rfl (pif_enumS (hb.get "enumerate") (af_cons (ef_var (pv 1)) af_nil)) (compOk_of (N:=N_z38) (N':=["number","sign","kind"]) (n:=2) (idx:=[2]) (fnames:=(defScope s_z38).names) rfl (fun _ => rfl) rfl (by decide +kernel)) (fun _ _ _ _ _ _ => ⟨(gf_tup (n:=2) rfl (gsf_cons (gf_name (i:=0) (show (["number","sign","kind"]:List Str).Nodup by decide +kernel)) (gsf_cons (gf_name (i:=1) (show (["number","sign","kind"]:List Str).Nodup by decide +kernel)) gsf_nil))),(qf_one (tf_val (ef_call F_z36 hr (af_cons (ef_var (pv 2)) (af_cons (ef_var (pv 1)) af_nil))))),(ef_var (pv 0))⟩)) (ssf_cons (sf_if (tf_cmp od_lt (ef_callB cd_len (hb.get "len") bt_len (af_cons (ef_var (pv 4)) af_nil)) (ef_callB cd_abs (hb.get "abs") bt_abs (af_cons (ef_var (pv 3)) af_nil)) rfl) (ssf_one (sf_ret ef_non)) ssf_nil) (ssf_cons (sf_set (i:=5) nd (ef_if (tf_cmp od_gt (ef_var (pv 3)) ef_int rfl) (ef_ix xd_ix (ef_var (pv 4)) (ef_op od_sub (ef_var (pv 3)) ef_int) (fun _ _ => rfl)) (ef_ix xd_ix (ef_var (pv 4)) (ef_var (pv 3)) (fun _ _ => rfl)))) (ssf_one (sf_ret (ef_if (tf_cmp od_eq (ef_ix xd_ix (ef_var (pv 0)) ef_int (fun _ _ => rfl)) ef_str rfl) (ef_var (pv 5)) (ef_op od_add (ef_var (pv 5)) ef_int)))))))))
noncomputable abbrev s_z1:Stmt:=atTop PySem.Challenge.pw_byexample_k34_no_examples 37
theorem sc_z1:FnScope N_z1 ["texts"] (defScope s_z1):=⟨rfl,rfl,rfl,by decide +kernel,rfl,by decide +kernel,by decide +kernel⟩
theorem d_z1 (hr:Room k (A.deeper (envOfC "places_by_spots" (defScope s_z1) s.heap.objs.size f cdv))) (hb:BlOk mg NBl) {G_z13:GL} (F_z13:FnD P w K mg base k "all_places" G_z13) {G_z38:GL} (F_z38:FnD P w K mg base k "spot" G_z38) :
  PSsf (cxOf CX0 P w K mg base N_z1 "places_by_spots" (defScope s_z1) f cdv A outer s H E).nox (defBody s_z1) (B_z1 G_z13 G_z38):=by
 have nd:N_z1.Nodup:=sc_z1.nd
 exact (ssf_cons (sf_set (i:=1) nd ef_dnewN) (ssf_cons (sf_for PassesOwn.never rfl (pif_any (ef_call0 F_z13 hr)) (gf_name (i:=2) nd) (ssf_cons (sf_set (i:=3) nd (ef_callTy cd_tuple (hb.get "tuple") bt_tuple (af_cons (ef_comp rfl (pif_any (ef_var (pv 0))) (compOk_of (N:=N_z1) (N':=["text","place"]) (n:=1) (idx:=[2]) (fnames:=(defScope s_z1).names) rfl (fun _ => rfl) rfl (by decide +kernel)) (fun _ _ _ _ _ _ => ⟨(gf_name (i:=0) (show (["text","place"]:List Str).Nodup by decide +kernel)),qf_nil,(ef_call F_z38 hr (af_cons (ef_var (pv 1)) (af_cons (ef_var (pv 0)) af_nil)))⟩)) af_nil))) (ssf_one (sf_if (tf_cmp od_notin ef_non (ef_var (pv 3)) rfl) (ssf_one (sf_expr (ef_bm PySem.F.plainAttrs_list PySem.F.slot_list_append PySem.F.type_list_append md_append (ef_bm PySem.F.plainAttrs_dict PySem.F.slot_dict_setdefault PySem.F.type_dict_setdefault (md_setdef hr.units) (ef_var (pv 1)) (af_cons (ef_var (pv 3)) (af_cons (ef_lst af_nil) af_nil))) (af_cons (ef_var (pv 2)) af_nil)))) ssf_nil)))) (ssf_one (sf_ret (ef_var (pv 1))))))
noncomputable abbrev s_z6:Stmt:=atTop PySem.Challenge.pw_byexample_k34_no_examples 39
theorem sc_z6:FnScope N_z6 ["answers","wanted"] (defScope s_z6):=⟨rfl,rfl,rfl,by decide +kernel,rfl,by decide +kernel,by decide +kernel⟩
theorem d_z6 (hr:Room k (A.deeper (envOfC "stand_within" (defScope s_z6) s.heap.objs.size f cdv))) (hb:BlOk mg NBl) :
  PSsf (cxOf CX0 P w K mg base N_z6 "stand_within" (defScope s_z6) f cdv A outer s H E).nox (defBody s_z6) (B_z6):=by
 have nd:N_z6.Nodup:=sc_z6.nd
 exact (ssf_one (sf_ret (ef_callB (cd_all rfl) (hb.get "all") bt_all (af_cons (ef_comp rfl (pif_zip zip2 (hb.get "zip") (af_cons (ef_var (pv 0)) (af_cons (ef_var (pv 1)) af_nil))) (compOk_of (N:=N_z6) (N':=["answer","whole"]) (n:=2) (idx:=[]) (fnames:=(defScope s_z6).names) rfl (fun _ => rfl) rfl (by decide +kernel)) (fun _ _ _ _ _ _ => ⟨(gf_tup (n:=2) rfl (gsf_cons (gf_name (i:=0) (show (["answer","whole"]:List Str).Nodup by decide +kernel)) (gsf_cons (gf_name (i:=1) (show (["answer","whole"]:List Str).Nodup by decide +kernel)) gsf_nil))),qf_nil,(ef_cmp od_in (ef_var (pv 0)) (ef_var (pv 1)) rfl)⟩)) af_nil))))
noncomputable abbrev s_z5:Stmt:=atTop PySem.Challenge.pw_byexample_k34_no_examples 40
theorem sc_z5:FnScope N_z5 ["groups","wanted","answers","pieces"] (defScope s_z5):=⟨rfl,rfl,rfl,by decide +kernel,rfl,by decide +kernel,by decide +kernel⟩
theorem d_z5 (hr:Room k (A.deeper (envOfC "add_to_group" (defScope s_z5) s.heap.objs.size f cdv))) (hb:BlOk mg NBl) {G_z6:GL} (F_z6:FnD P w K mg base k "stand_within" G_z6) :
  PSsf (cxOf CX0 P w K mg base N_z5 "add_to_group" (defScope s_z5) f cdv A outer s H E).nox (defBody s_z5) (B_z5 G_z6):=by
 have nd:N_z5.Nodup:=sc_z5.nd
 exact (ssf_one (sf_if (tf_val (ef_call F_z6 hr (af_cons (ef_var (pv 2)) (af_cons (ef_var (pv 1)) af_nil)))) (ssf_one (sf_expr (ef_bm PySem.F.plainAttrs_list PySem.F.slot_list_extend PySem.F.type_list_extend md_extend (ef_bm PySem.F.plainAttrs_dict PySem.F.slot_dict_setdefault PySem.F.type_dict_setdefault (md_setdef hr.units) (ef_var (pv 0)) (af_cons (ef_var (pv 2)) (af_cons (ef_lst af_nil) af_nil))) (af_cons (ef_var (pv 3)) af_nil)))) ssf_nil))
noncomputable abbrev s_z19:Stmt:=atTop PySem.Challenge.pw_byexample_k34_no_examples 38
theorem sc_z19:FnScope N_z19 ["texts","starts","ends"] (defScope s_z19):=⟨rfl,rfl,rfl,by decide +kernel,rfl,by decide +kernel,by decide +kernel⟩
theorem d_z19 (hr:Room k (A.deeper (envOfC "stretches" (defScope s_z19) s.heap.objs.size f cdv))) (hb:BlOk mg NBl) :
  PSsf (cxOf CX0 P w K mg base N_z19 "stretches" (defScope s_z19) f cdv A outer s H E).nox (defBody s_z19) (B_z19):=by
 have nd:N_z19.Nodup:=sc_z19.nd
 exact (ssf_cons (sf_set (i:=3) nd (ef_lst af_nil)) (ssf_cons (sf_for PassesOwn.never rfl (pif_zip zip3 (hb.get "zip") (af_cons (ef_var (pv 0)) (af_cons (ef_var (pv 1)) (af_cons (ef_var (pv 2)) af_nil)))) (gf_tup (n:=3) rfl (gsf_cons (gf_name (i:=4) nd) (gsf_cons (gf_name (i:=5) nd) (gsf_cons (gf_name (i:=6) nd) gsf_nil)))) (ssf_cons (sf_if (tf_cmp od_ge (ef_var (pv 5)) (ef_var (pv 6)) rfl) (ssf_one (sf_ret ef_non)) ssf_nil) (ssf_one (sf_expr (ef_bm PySem.F.plainAttrs_list PySem.F.slot_list_append PySem.F.type_list_append md_append (ef_var (pv 3)) (af_cons (ef_slice (ef_var (pv 4)) (of_some (ef_var (pv 5))) (of_some (ef_var (pv 6)))) af_nil)))))) (ssf_one (sf_ret (ef_var (pv 3))))))
noncomputable abbrev s_z2:Stmt:=atTop PySem.Challenge.pw_byexample_k34_no_examples 41
theorem sc_z2:FnScope N_z2 ["deed","starts","ends"] (defScope s_z2):=⟨rfl,rfl,rfl,by decide +kernel,rfl,by decide +kernel,by decide +kernel⟩
theorem d_z2 (hr:Room k (A.deeper (envOfC "pieces_between" (defScope s_z2) s.heap.objs.size f cdv))) (hb:BlOk mg NBl) :
  PSsf (cxOf CX0 P w K mg base N_z2 "pieces_between" (defScope s_z2) f cdv A outer s H E).nox (defBody s_z2) (B_z2):=by
 have nd:N_z2.Nodup:=sc_z2.nd
 exact (ssf_cons (sf_set (i:=3) nd (ef_lst af_nil)) (ssf_cons (sf_for PassesOwn.never rfl (pif_any (ef_var (pv 1))) (gf_name (i:=4) nd) (ssf_one (sf_expr (ef_bm PySem.F.plainAttrs_list PySem.F.slot_list_extend PySem.F.type_list_extend md_extend (ef_var (pv 3)) (af_cons (ef_comp rfl (pif_any (ef_var (pv 2))) (compOk_of (N:=N_z2) (N':=["end","deed","start"]) (n:=1) (idx:=[0,4]) (fnames:=(defScope s_z2).names) rfl (fun _ => rfl) rfl (by decide +kernel)) (fun _ _ _ _ _ _ => ⟨(gf_name (i:=0) (show (["end","deed","start"]:List Str).Nodup by decide +kernel)),qf_nil,(ef_tup (af_cons (ef_var (pv 1)) (af_cons (ef_var (pv 2)) (af_cons (ef_var (pv 0)) af_nil))))⟩)) af_nil))))) (ssf_one (sf_ret (ef_var (pv 3))))))
noncomputable abbrev s_z30:Stmt:=atTop PySem.Challenge.pw_byexample_k34_no_examples 18
theorem sc_z30:FnScope N_z30 ["deed","signs"] (defScope s_z30):=⟨rfl,rfl,rfl,by decide +kernel,rfl,by decide +kernel,by decide +kernel⟩
theorem d_z30 (hr:Room k (A.deeper (envOfC "done_to" (defScope s_z30) s.heap.objs.size f cdv))) (hb:BlOk mg NBl) :
  PSsf (cxOf CX0 P w K mg base N_z30 "done_to" (defScope s_z30) f cdv A outer s H E).nox (defBody s_z30) (B_z30):=by
 have nd:N_z30.Nodup:=sc_z30.nd
 exact (ssf_cons (sf_if (tf_cmp od_eq (ef_var (pv 0)) ef_str rfl) (ssf_one (sf_ret (ef_var (pv 1)))) ssf_nil) (ssf_one (sf_ret (ef_if (tf_cmp od_eq (ef_var (pv 0)) ef_str rfl) (ef_bm0 PySem.F.plainAttrs_str PySem.F.slot_str_upper PySem.F.type_str_upper md_upper (ef_var (pv 1))) (ef_bm0 PySem.F.plainAttrs_str PySem.F.slot_str_lower PySem.F.type_str_lower md_lower (ef_var (pv 1)))))))
noncomputable abbrev s_z18:Stmt:=atTop PySem.Challenge.pw_byexample_k34_no_examples 42
theorem sc_z18:FnScope N_z18 ["words","texts","wanted"] (defScope s_z18):=⟨rfl,rfl,rfl,by decide +kernel,rfl,by decide +kernel,by decide +kernel⟩
theorem d_z18 (hr:Room k (A.deeper (envOfC "groups_of" (defScope s_z18) s.heap.objs.size f cdv))) (hb:BlOk mg NBl) (C_DEEDS:GCon K mg "DEEDS" c_DEEDS) {G_z1:GL} (F_z1:FnD P w K mg base k "places_by_spots" G_z1) {G_z5:GL} (F_z5:FnD P w K mg base k "add_to_group" G_z5) {G_z19:GL} (F_z19:FnD P w K mg base k "stretches" G_z19) {G_z2:GL} (F_z2:FnD P w K mg base k "pieces_between" G_z2) {G_z30:GL} (F_z30:FnD P w K mg base k "done_to" G_z30) :
  PSsf (cxOf CX0 P w K mg base N_z18 "groups_of" (defScope s_z18) f cdv A outer s H E).nox (defBody s_z18) (B_z18 G_z1 G_z5 G_z19 G_z2 G_z30):=by
 have nd:N_z18.Nodup:=sc_z18.nd
 exact (ssf_cons (sf_set (i:=3) nd ef_dnewN) (ssf_cons (sf_for PassesOwn.never rfl (pif_any (ef_var (pv 0))) (gf_name (i:=4) nd) (ssf_one (sf_expr (ef_call F_z5 hr (af_cons (ef_var (pv 3)) (af_cons (ef_var (pv 2)) (af_cons (ef_callTy cd_tuple (hb.get "tuple") bt_tuple (af_cons (ef_comp rfl (pif_any (ef_var (pv 1))) (compOk_of (N:=N_z18) (N':=["text","word"]) (n:=1) (idx:=[4]) (fnames:=(defScope s_z18).names) rfl (fun _ => rfl) rfl (by decide +kernel)) (fun _ _ _ _ _ _ => ⟨(gf_name (i:=0) (show (["text","word"]:List Str).Nodup by decide +kernel)),qf_nil,(ef_var (pv 1))⟩)) af_nil)) (af_cons (ef_lst (af_cons (ef_tup (af_cons ef_str (af_cons (ef_var (pv 4)) af_nil))) af_nil)) af_nil)))))))) (ssf_cons (sf_set (i:=5) nd (ef_call F_z1 hr (af_cons (ef_var (pv 1)) af_nil))) (ssf_cons (sf_for PassesOwn.never rfl (pif_keys (ef_var (pv 5))) (gf_name (i:=6) nd) (ssf_one (sf_for PassesOwn.never rfl (pif_keys (ef_var (pv 5))) (gf_name (i:=7) nd) (ssf_cons (sf_set (i:=8) nd (ef_call F_z19 hr (af_cons (ef_var (pv 1)) (af_cons (ef_var (pv 6)) (af_cons (ef_var (pv 7)) af_nil))))) (ssf_one (sf_if (tf_cmp od_isnot (ef_var (pv 8)) ef_non rfl) (ssf_one (sf_for PassesOwn.never rfl (pif_any (ef_gcon C_DEEDS)) (gf_name (i:=9) nd) (ssf_cons (sf_set (i:=10) nd (ef_callTy cd_tuple (hb.get "tuple") bt_tuple (af_cons (ef_comp rfl (pif_any (ef_var (pv 8))) (compOk_of (N:=N_z18) (N':=["part","deed"]) (n:=1) (idx:=[9]) (fnames:=(defScope s_z18).names) rfl (fun _ => rfl) rfl (by decide +kernel)) (fun _ _ _ _ _ _ => ⟨(gf_name (i:=0) (show (["part","deed"]:List Str).Nodup by decide +kernel)),qf_nil,(ef_call F_z30 hr (af_cons (ef_var (pv 1)) (af_cons (ef_var (pv 0)) af_nil)))⟩)) af_nil))) (ssf_one (sf_expr (ef_call F_z5 hr (af_cons (ef_var (pv 3)) (af_cons (ef_var (pv 2)) (af_cons (ef_var (pv 10)) (af_cons (ef_call F_z2 hr (af_cons (ef_var (pv 9)) (af_cons (ef_ix (xd_dt hr.units) (ef_var (pv 5)) (ef_var (pv 6)) (fun _ _ => rfl)) (af_cons (ef_ix (xd_dt hr.units) (ef_var (pv 5)) (ef_var (pv 7)) (fun _ _ => rfl)) af_nil)))) af_nil)))))))))) ssf_nil)))))) (ssf_one (sf_ret (ef_var (pv 3))))))))
noncomputable abbrev s_z3:Stmt:=atTop PySem.Challenge.pw_byexample_k34_no_examples 44
theorem sc_z3:FnScope N_z3 ["table","length","rest"] (defScope s_z3):=⟨rfl,rfl,rfl,by decide +kernel,rfl,by decide +kernel,by decide +kernel⟩
theorem d_z3 (hr:Room k (A.deeper (envOfC "answers_to_try" (defScope s_z3) s.heap.objs.size f cdv))) (hb:BlOk mg NBl) (O_Table_groups:FldOk K "Table" "groups") :
  PSsf (cxOf CX0 P w K mg base N_z3 "answers_to_try" (defScope s_z3) f cdv A outer s H E).nox (defBody s_z3) (B_z3):=by
 have nd:N_z3.Nodup:=sc_z3.nd
 exact (ssf_cons (sf_if (tf_cmp od_eq (ef_var (pv 1)) ef_int rfl) (ssf_one (sf_ret (ef_if (tf_cmp (od_inDt hr.units) (ef_var (pv 2)) (ef_fld (ef_var (pv 0)) (fld_cons O_Table_groups fld_nil)) rfl) (ef_lst (af_cons (ef_var (pv 2)) af_nil)) (ef_lst af_nil)))) ssf_nil) (ssf_one (sf_ret (ef_callTy (cd_listD rfl) (hb.get "list") bt_list (af_cons (ef_fld (ef_var (pv 0)) (fld_cons O_Table_groups fld_nil)) af_nil)))))
noncomputable abbrev s_z10:Stmt:=atTop PySem.Challenge.pw_byexample_k34_no_examples 43
theorem sc_z10:FnScope N_z10 ["rest","answers"] (defScope s_z10):=⟨rfl,rfl,rfl,by decide +kernel,rfl,by decide +kernel,by decide +kernel⟩
theorem d_z10 (hr:Room k (A.deeper (envOfC "rest_behind" (defScope s_z10) s.heap.objs.size f cdv))) (hb:BlOk mg NBl) :
  PSsf (cxOf CX0 P w K mg base N_z10 "rest_behind" (defScope s_z10) f cdv A outer s H E).nox (defBody s_z10) (B_z10):=by
 have nd:N_z10.Nodup:=sc_z10.nd
 exact (ssf_cons (sf_set (i:=2) nd (ef_lst af_nil)) (ssf_cons (sf_for PassesOwn.never rfl (pif_zip zip2 (hb.get "zip") (af_cons (ef_var (pv 0)) (af_cons (ef_var (pv 1)) af_nil))) (gf_tup (n:=2) rfl (gsf_cons (gf_name (i:=3) nd) (gsf_cons (gf_name (i:=4) nd) gsf_nil))) (ssf_cons (sf_if (tf_not (tf_val (ef_bm PySem.F.plainAttrs_str PySem.F.slot_str_startswith PySem.F.type_str_startswith md_starts (ef_var (pv 3)) (af_cons (ef_var (pv 4)) af_nil)))) (ssf_one (sf_ret ef_non)) ssf_nil) (ssf_one (sf_expr (ef_bm PySem.F.plainAttrs_list PySem.F.slot_list_append PySem.F.type_list_append md_append (ef_var (pv 2)) (af_cons (ef_slice (ef_var (pv 3)) (of_some (ef_callB cd_len (hb.get "len") bt_len (af_cons (ef_var (pv 4)) af_nil))) of_none) af_nil)))))) (ssf_one (sf_ret (ef_callTy cd_tuple (hb.get "tuple") bt_tuple (af_cons (ef_var (pv 2)) af_nil))))))
noncomputable abbrev s_z27:Stmt:=atTop PySem.Challenge.pw_byexample_k34_no_examples 45
theorem sc_z27:FnScope N_z27 ["table","length","rest"] (defScope s_z27):=⟨rfl,rfl,rfl,by decide +kernel,rfl,by decide +kernel,by decide +kernel⟩
theorem d_z27 (hr:Room k (A.deeper (envOfC "new_node" (defScope s_z27) s.heap.objs.size f cdv))) (hb:BlOk mg NBl) (C_NOWHERE:GCon K mg "NOWHERE" c_NOWHERE) (O_Node_arms:FldOk K "Node" "arms") (O_Node_ways:FldOk K "Node" "ways") (O_Table_groups:FldOk K "Table" "groups") (O_Table_nodes:FldOk K "Table" "nodes") {G_z20:GL} (F_z20:FnK P w K mg base k "Node" G_z20) {G_z3:GL} (F_z3:FnD P w K mg base k "answers_to_try" G_z3) {G_z10:GL} (F_z10:FnD P w K mg base k "rest_behind" G_z10) {G_z9:GL} (F_z9:FnD P w K mg base k "node_number" G_z9) :
  PSsf (cxOf CX0 P w K mg base N_z27 "new_node" (defScope s_z27) f cdv A outer s H E).nox (defBody s_z27) (B_z27 G_z20 G_z3 G_z10 G_z9):=by
 have nd:N_z27.Nodup:=sc_z27.nd
 exact (ssf_cons (sf_set (i:=3) nd (ef_make F_z20 hr (af_cons ef_int af_nil))) (ssf_cons (sf_for PassesOwn.never rfl (pif_any (ef_call F_z3 hr (af_cons (ef_var (pv 0)) (af_cons (ef_var (pv 1)) (af_cons (ef_var (pv 2)) af_nil))))) (gf_name (i:=4) nd) (ssf_cons (sf_set (i:=5) nd (ef_call F_z10 hr (af_cons (ef_var (pv 2)) (af_cons (ef_var (pv 4)) af_nil)))) (ssf_one (sf_if (tf_cmp od_isnot (ef_var (pv 5)) ef_non rfl) (ssf_cons (sf_set (i:=6) nd (ef_call F_z9 hr (af_cons (ef_var (pv 0)) (af_cons (ef_op od_sub (ef_var (pv 1)) ef_int) (af_cons (ef_var (pv 5)) af_nil))))) (ssf_one (sf_if (tf_cmp od_ne (ef_var (pv 6)) (ef_gcon C_NOWHERE) rfl) (ssf_cons (sf_dput hr.units (ef_fld (ef_var (pv 3)) (fld_cons O_Node_arms fld_nil)) (ef_var (pv 4)) (ef_tup (af_cons (ef_fld (ef_var (pv 3)) (fld_cons O_Node_ways fld_nil)) (af_cons (ef_var (pv 6)) af_nil)))) (ssf_one (sf_augO (ef_var (pv 3)) (ef_op od_mul (ef_callB cd_len (hb.get "len") bt_len (af_cons (ef_ix (xd_dt hr.units) (ef_fld (ef_var (pv 0)) (fld_cons O_Table_groups fld_nil)) (ef_var (pv 4)) (fun _ _ => rfl)) af_nil)) (ef_fld (ef_ix xd_ix (ef_fld (ef_var (pv 0)) (fld_cons O_Table_nodes fld_nil)) (ef_var (pv 6)) (fun _ _ => rfl)) (fld_cons O_Node_ways fld_nil))) (fld_cons O_Node_ways fld_nil) inop_add))) ssf_nil))) ssf_nil)))) (ssf_cons (sf_if (tf_cmp od_eq (ef_fld (ef_var (pv 3)) (fld_cons O_Node_ways fld_nil)) ef_int rfl) (ssf_one (sf_ret (ef_gcon C_NOWHERE))) ssf_nil) (ssf_cons (sf_expr (ef_bm PySem.F.plainAttrs_list PySem.F.slot_list_append PySem.F.type_list_append md_append (ef_fld (ef_var (pv 0)) (fld_cons O_Table_nodes fld_nil)) (af_cons (ef_var (pv 3)) af_nil))) (ssf_one (sf_ret (ef_op od_sub (ef_callB cd_len (hb.get "len") bt_len (af_cons (ef_fld (ef_var (pv 0)) (fld_cons O_Table_nodes fld_nil)) af_nil)) ef_int)))))))
noncomputable abbrev s_z9:Stmt:=atTop PySem.Challenge.pw_byexample_k34_no_examples 46
theorem sc_z9:FnScope N_z9 ["table","length","rest"] (defScope s_z9):=⟨rfl,rfl,rfl,by decide +kernel,rfl,by decide +kernel,by decide +kernel⟩
theorem d_z9 (hr:Room k (A.deeper (envOfC "node_number" (defScope s_z9) s.heap.objs.size f cdv))) (hb:BlOk mg NBl) (C_END:GCon K mg "END" c_END) (O_Table_node_numbers:FldOk K "Table" "node_numbers") {G_z27:GL} (F_z27:FnD P w K mg base k "new_node" G_z27) :
  PSsf (cxOf CX0 P w K mg base N_z9 "node_number" (defScope s_z9) f cdv A outer s H E).nox (defBody s_z9) (B_z9 G_z27):=by
 have nd:N_z9.Nodup:=sc_z9.nd
 exact (ssf_cons (sf_if (tf_cmp od_eq (ef_var (pv 1)) ef_int rfl) (ssf_one (sf_ret (ef_gcon C_END))) ssf_nil) (ssf_cons (sf_set (i:=3) nd (ef_tup (af_cons (ef_var (pv 1)) (af_cons (ef_var (pv 2)) af_nil)))) (ssf_cons (sf_if (tf_cmp (od_notinDt hr.units) (ef_var (pv 3)) (ef_fld (ef_var (pv 0)) (fld_cons O_Table_node_numbers fld_nil)) rfl) (ssf_one (sf_dput hr.units (ef_fld (ef_var (pv 0)) (fld_cons O_Table_node_numbers fld_nil)) (ef_var (pv 3)) (ef_call F_z27 hr (af_cons (ef_var (pv 0)) (af_cons (ef_var (pv 1)) (af_cons (ef_var (pv 2)) af_nil)))))) ssf_nil) (ssf_one (sf_ret (ef_ix (xd_dt hr.units) (ef_fld (ef_var (pv 0)) (fld_cons O_Table_node_numbers fld_nil)) (ef_var (pv 3)) (fun _ _ => rfl)))))))
noncomputable abbrev s_z26:Stmt:=atTop PySem.Challenge.pw_byexample_k34_no_examples 47
theorem sc_z26:FnScope N_z26 ["words","examples"] (defScope s_z26):=⟨rfl,rfl,rfl,by decide +kernel,rfl,by decide +kernel,by decide +kernel⟩
theorem d_z26 (hr:Room k (A.deeper (envOfC "table_of" (defScope s_z26) s.heap.objs.size f cdv))) (hb:BlOk mg NBl) (C_ROW_LENGTHS:GCon K mg "ROW_LENGTHS" c_ROW_LENGTHS) (O_Table_roots:FldOk K "Table" "roots") {G_z15:GL} (F_z15:FnK P w K mg base k "Table" G_z15) {G_z18:GL} (F_z18:FnD P w K mg base k "groups_of" G_z18) {G_z9:GL} (F_z9:FnD P w K mg base k "node_number" G_z9) :
  PSsf (cxOf CX0 P w K mg base N_z26 "table_of" (defScope s_z26) f cdv A outer s H E).nox (defBody s_z26) (B_z26 G_z15 G_z18 G_z9):=by
 have nd:N_z26.Nodup:=sc_z26.nd
 exact (ssf_cons (sf_set (i:=2) nd (ef_callB cd_sort0 (hb.get "sorted") bt_sorted (af_cons (ef_var (pv 1)) af_nil))) (ssf_cons (sf_setComp (i:=3) nd rfl (pif_any (ef_var (pv 2))) (compOk_of (N:=N_z26) (N':=["example"]) (n:=1) (idx:=[]) (fnames:=(defScope s_z26).names) rfl (fun _ => rfl) rfl (by decide +kernel)) (fun _ _ _ _ _ _ => ⟨(gf_name (i:=0) (show (["example"]:List Str).Nodup by decide +kernel)),qf_nil,(ef_ix xd_ix (ef_var (pv 0)) ef_int (fun _ _ => rfl))⟩)) (ssf_cons (sf_set (i:=4) nd (ef_callTy cd_tuple (hb.get "tuple") bt_tuple (af_cons (ef_comp rfl (pif_any (ef_var (pv 2))) (compOk_of (N:=N_z26) (N':=["example"]) (n:=1) (idx:=[]) (fnames:=(defScope s_z26).names) rfl (fun _ => rfl) rfl (by decide +kernel)) (fun _ _ _ _ _ _ => ⟨(gf_name (i:=0) (show (["example"]:List Str).Nodup by decide +kernel)),qf_nil,(ef_ix xd_ix (ef_var (pv 0)) ef_int (fun _ _ => rfl))⟩)) af_nil))) (ssf_cons (sf_set (i:=5) nd (ef_make F_z15 hr (af_cons (ef_callTy cd_tuple (hb.get "tuple") bt_tuple (af_cons (ef_var (pv 0)) af_nil)) (af_cons (ef_call F_z18 hr (af_cons (ef_var (pv 0)) (af_cons (ef_var (pv 3)) (af_cons (ef_var (pv 4)) af_nil)))) af_nil)))) (ssf_cons (sf_expr (ef_bm PySem.F.plainAttrs_list PySem.F.slot_list_extend PySem.F.type_list_extend md_extend (ef_fld (ef_var (pv 5)) (fld_cons O_Table_roots fld_nil)) (af_cons (ef_comp rfl (pif_any (ef_gcon C_ROW_LENGTHS)) (compOk_of (N:=N_z26) (N':=["length","table","wanted"]) (n:=1) (idx:=[5,4]) (fnames:=(defScope s_z26).names) rfl (fun _ => rfl) rfl (by decide +kernel)) (fun _ _ _ _ _ _ => ⟨(gf_name (i:=0) (show (["length","table","wanted"]:List Str).Nodup by decide +kernel)),qf_nil,(ef_call F_z9 hr (af_cons (ef_var (pv 1)) (af_cons (ef_var (pv 0)) (af_cons (ef_var (pv 2)) af_nil))))⟩)) af_nil))) (ssf_one (sf_ret (ef_var (pv 5)))))))))
noncomputable abbrev s_z37:Stmt:=atTop PySem.Challenge.pw_byexample_k34_no_examples 24
theorem sc_z37:FnScope N_z37 ["table"] (defScope s_z37):=⟨rfl,rfl,rfl,by decide +kernel,rfl,by decide +kernel,by decide +kernel⟩
theorem d_z37 (hr:Room k (A.deeper (envOfC "many" (defScope s_z37) s.heap.objs.size f cdv))) (hb:BlOk mg NBl) (O_Node_ways:FldOk K "Node" "ways") (O_Table_nodes:FldOk K "Table" "nodes") (O_Table_roots:FldOk K "Table" "roots") :
  PSsf (cxOf CX0 P w K mg base N_z37 "many" (defScope s_z37) f cdv A outer s H E).nox (defBody s_z37) (B_z37):=by
 have nd:N_z37.Nodup:=sc_z37.nd
 exact (ssf_one (sf_ret (ef_callB (cd_sum rfl) (hb.get "sum") bt_sum (af_cons (ef_comp rfl (pif_any (ef_fld (ef_var (pv 0)) (fld_cons O_Table_roots fld_nil))) (compOk_of (N:=N_z37) (N':=["root","table"]) (n:=1) (idx:=[0]) (fnames:=(defScope s_z37).names) rfl (fun _ => rfl) rfl (by decide +kernel)) (fun _ _ _ _ _ _ => ⟨(gf_name (i:=0) (show (["root","table"]:List Str).Nodup by decide +kernel)),qf_nil,(ef_fld (ef_ix xd_ix (ef_fld (ef_var (pv 1)) (fld_cons O_Table_nodes fld_nil)) (ef_var (pv 0)) (fun _ _ => rfl)) (fld_cons O_Node_ways fld_nil))⟩)) af_nil))))
noncomputable abbrev s_z8:Stmt:=atTop PySem.Challenge.pw_byexample_k34_no_examples 21
theorem sc_z8:FnScope N_z8 ["length","thing"] (defScope s_z8):=⟨rfl,rfl,rfl,by decide +kernel,rfl,by decide +kernel,by decide +kernel⟩
theorem d_z8 (hr:Room k (A.deeper (envOfC "is_tuple_of" (defScope s_z8) s.heap.objs.size f cdv))) (hb:BlOk mg NBl) :
  PSsf (cxOf CX0 P w K mg base N_z8 "is_tuple_of" (defScope s_z8) f cdv A outer s H E).nox (defBody s_z8) (B_z8):=by
 have nd:N_z8.Nodup:=sc_z8.nd
 exact (ssf_one (sf_ret (ef_and (ef_callB cd_inst (hb.get "isinstance") bt_isinstance (af_cons (ef_var (pv 1)) (af_cons (ef_ty (hb.get "tuple") bt_tuple) af_nil))) (ef_one (ef_cmp od_eq (ef_callB cd_len (hb.get "len") bt_len (af_cons (ef_var (pv 1)) af_nil)) (ef_var (pv 0)) rfl)))))
noncomputable abbrev s_z4:Stmt:=atTop PySem.Challenge.pw_byexample_k34_no_examples 12
theorem sc_z4:FnScope N_z4 ["thing","words"] (defScope s_z4):=⟨rfl,rfl,rfl,by decide +kernel,rfl,by decide +kernel,by decide +kernel⟩
theorem d_z4 (hr:Room k (A.deeper (envOfC "is_word_among" (defScope s_z4) s.heap.objs.size f cdv))) (hb:BlOk mg NBl) :
  PSsf (cxOf CX0 P w K mg base N_z4 "is_word_among" (defScope s_z4) f cdv A outer s H E).nox (defBody s_z4) (B_z4):=by
 have nd:N_z4.Nodup:=sc_z4.nd
 exact (ssf_one (sf_ret (ef_and (ef_callB cd_inst (hb.get "isinstance") bt_isinstance (af_cons (ef_var (pv 0)) (af_cons (ef_ty (hb.get "str") bt_str) af_nil))) (ef_one (ef_cmp od_in (ef_var (pv 0)) (ef_var (pv 1)) rfl)))))
noncomputable abbrev s_z35:Stmt:=atTop PySem.Challenge.pw_byexample_k34_no_examples 13
theorem sc_z35:FnScope N_z35 ["thing"] (defScope s_z35):=⟨rfl,rfl,rfl,by decide +kernel,rfl,by decide +kernel,by decide +kernel⟩
theorem d_z35 (hr:Room k (A.deeper (envOfC "is_nth" (defScope s_z35) s.heap.objs.size f cdv))) (hb:BlOk mg NBl) (C_NTHS:GCon K mg "NTHS" c_NTHS) :
  PSsf (cxOf CX0 P w K mg base N_z35 "is_nth" (defScope s_z35) f cdv A outer s H E).nox (defBody s_z35) (B_z35):=by
 have nd:N_z35.Nodup:=sc_z35.nd
 exact (ssf_one (sf_ret (ef_and (ef_callB cd_inst (hb.get "isinstance") bt_isinstance (af_cons (ef_var (pv 0)) (af_cons (ef_ty (hb.get "int") bt_int) af_nil))) (ef_and (ef_not (ef_callB cd_inst (hb.get "isinstance") bt_isinstance (af_cons (ef_var (pv 0)) (af_cons (ef_ty (hb.get "bool") bt_bool) af_nil)))) (ef_one (ef_cmp od_in (ef_var (pv 0)) (ef_gcon C_NTHS) rfl))))))
noncomputable abbrev s_z25:Stmt:=atTop PySem.Challenge.pw_byexample_k34_no_examples 14
theorem sc_z25:FnScope N_z25 ["thing"] (defScope s_z25):=⟨rfl,rfl,rfl,by decide +kernel,rfl,by decide +kernel,by decide +kernel⟩
theorem d_z25 (hr:Room k (A.deeper (envOfC "is_place" (defScope s_z25) s.heap.objs.size f cdv))) (hb:BlOk mg NBl) (C_EDGES:GCon K mg "EDGES" c_EDGES) (C_KINDS:GCon K mg "KINDS" c_KINDS) {G_z4:GL} (F_z4:FnD P w K mg base k "is_word_among" G_z4) {G_z35:GL} (F_z35:FnD P w K mg base k "is_nth" G_z35) :
  PSsf (cxOf CX0 P w K mg base N_z25 "is_place" (defScope s_z25) f cdv A outer s H E).nox (defBody s_z25) (B_z25 G_z4 G_z35):=by
 have nd:N_z25.Nodup:=sc_z25.nd
 exact (ssf_cons (sf_if (tf_w (wf_or (tf_not (tf_val (ef_callB cd_inst (hb.get "isinstance") bt_isinstance (af_cons (ef_var (pv 0)) (af_cons (ef_ty (hb.get "tuple") bt_tuple) af_nil))))) (wf_one_or (tf_cmp od_ne (ef_callB cd_len (hb.get "len") bt_len (af_cons (ef_var (pv 0)) af_nil)) ef_int rfl)))) (ssf_one (sf_ret ef_bl)) ssf_nil) (ssf_one (sf_ret (ef_and (ef_call F_z4 hr (af_cons (ef_ix xd_ix (ef_var (pv 0)) ef_int (fun _ _ => rfl)) (af_cons (ef_gcon C_KINDS) af_nil))) (ef_and (ef_call F_z35 hr (af_cons (ef_ix xd_ix (ef_var (pv 0)) ef_int (fun _ _ => rfl)) af_nil)) (ef_one (ef_call F_z4 hr (af_cons (ef_ix xd_ix (ef_var (pv 0)) ef_int (fun _ _ => rfl)) (af_cons (ef_gcon C_EDGES) af_nil)))))))))
noncomputable abbrev s_z17:Stmt:=atTop PySem.Challenge.pw_byexample_k34_no_examples 22
theorem sc_z17:FnScope N_z17 ["thing"] (defScope s_z17):=⟨rfl,rfl,rfl,by decide +kernel,rfl,by decide +kernel,by decide +kernel⟩
theorem d_z17 (hr:Room k (A.deeper (envOfC "is_stretch" (defScope s_z17) s.heap.objs.size f cdv))) (hb:BlOk mg NBl) (C_DEEDS:GCon K mg "DEEDS" c_DEEDS) {G_z8:GL} (F_z8:FnD P w K mg base k "is_tuple_of" G_z8) {G_z4:GL} (F_z4:FnD P w K mg base k "is_word_among" G_z4) {G_z25:GL} (F_z25:FnD P w K mg base k "is_place" G_z25) :
  PSsf (cxOf CX0 P w K mg base N_z17 "is_stretch" (defScope s_z17) f cdv A outer s H E).nox (defBody s_z17) (B_z17 G_z8 G_z4 G_z25):=by
 have nd:N_z17.Nodup:=sc_z17.nd
 exact (ssf_one (sf_ret (ef_and (ef_call F_z8 hr (af_cons ef_int (af_cons (ef_var (pv 0)) af_nil))) (ef_and (ef_call F_z4 hr (af_cons (ef_ix xd_ix (ef_var (pv 0)) ef_int (fun _ _ => rfl)) (af_cons (ef_gcon C_DEEDS) af_nil))) (ef_and (ef_call F_z25 hr (af_cons (ef_ix xd_ix (ef_var (pv 0)) ef_int (fun _ _ => rfl)) af_nil)) (ef_one (ef_call F_z25 hr (af_cons (ef_ix xd_ix (ef_var (pv 0)) ef_int (fun _ _ => rfl)) af_nil))))))))
noncomputable abbrev s_z11:Stmt:=atTop PySem.Challenge.pw_byexample_k34_no_examples 28
theorem sc_z11:FnScope N_z11 ["table","piece"] (defScope s_z11):=⟨rfl,rfl,rfl,by decide +kernel,rfl,by decide +kernel,by decide +kernel⟩
theorem d_z11 (hr:Room k (A.deeper (envOfC "may_be_used" (defScope s_z11) s.heap.objs.size f cdv))) (hb:BlOk mg NBl) (O_Table_words:FldOk K "Table" "words") {G_z8:GL} (F_z8:FnD P w K mg base k "is_tuple_of" G_z8) {G_z4:GL} (F_z4:FnD P w K mg base k "is_word_among" G_z4) {G_z17:GL} (F_z17:FnD P w K mg base k "is_stretch" G_z17) :
  PSsf (cxOf CX0 P w K mg base N_z11 "may_be_used" (defScope s_z11) f cdv A outer s H E).nox (defBody s_z11) (B_z11 G_z8 G_z4 G_z17):=by
 have nd:N_z11.Nodup:=sc_z11.nd
 exact (ssf_cons (sf_if (tf_val (ef_call F_z8 hr (af_cons ef_int (af_cons (ef_var (pv 1)) af_nil)))) (ssf_one (sf_ret (ef_and (ef_call F_z4 hr (af_cons (ef_ix xd_ix (ef_var (pv 1)) ef_int (fun _ _ => rfl)) (af_cons (ef_tup (af_cons ef_str af_nil)) af_nil))) (ef_one (ef_call F_z4 hr (af_cons (ef_ix xd_ix (ef_var (pv 1)) ef_int (fun _ _ => rfl)) (af_cons (ef_fld (ef_var (pv 0)) (fld_cons O_Table_words fld_nil)) af_nil))))))) ssf_nil) (ssf_one (sf_ret (ef_call F_z17 hr (af_cons (ef_var (pv 1)) af_nil)))))
noncomputable abbrev s_z0:Stmt:=atTop PySem.Challenge.pw_byexample_k34_no_examples 29
theorem sc_z0:FnScope N_z0 ["table","row"] (defScope s_z0):=⟨rfl,rfl,rfl,by decide +kernel,rfl,by decide +kernel,by decide +kernel⟩
theorem d_z0 (hr:Room k (A.deeper (envOfC "is_row_of_its_pieces" (defScope s_z0) s.heap.objs.size f cdv))) (hb:BlOk mg NBl) (C_ROW_LENGTHS:GCon K mg "ROW_LENGTHS" c_ROW_LENGTHS) {G_z11:GL} (F_z11:FnD P w K mg base k "may_be_used" G_z11) :
  PSsf (cxOf CX0 P w K mg base N_z0 "is_row_of_its_pieces" (defScope s_z0) f cdv A outer s H E).nox (defBody s_z0) (B_z0 G_z11):=by
 have nd:N_z0.Nodup:=sc_z0.nd
 exact (ssf_cons (sf_if (tf_w (wf_or (tf_not (tf_val (ef_callB cd_inst (hb.get "isinstance") bt_isinstance (af_cons (ef_var (pv 1)) (af_cons (ef_ty (hb.get "tuple") bt_tuple) af_nil))))) (wf_one_or (tf_cmp od_notin (ef_callB cd_len (hb.get "len") bt_len (af_cons (ef_var (pv 1)) af_nil)) (ef_gcon C_ROW_LENGTHS) rfl)))) (ssf_one (sf_ret ef_bl)) ssf_nil) (ssf_one (sf_ret (ef_callB (cd_all rfl) (hb.get "all") bt_all (af_cons (ef_comp rfl (pif_any (ef_var (pv 1))) (compOk_of (N:=N_z0) (N':=["piece","table"]) (n:=1) (idx:=[0]) (fnames:=(defScope s_z0).names) rfl (fun _ => rfl) rfl (by decide +kernel)) (fun _ _ _ _ _ _ => ⟨(gf_name (i:=0) (show (["piece","table"]:List Str).Nodup by decide +kernel)),qf_nil,(ef_call F_z11 hr (af_cons (ef_var (pv 1)) (af_cons (ef_var (pv 0)) af_nil)))⟩)) af_nil)))))
noncomputable abbrev s_z14:Stmt:=atTop PySem.Challenge.pw_byexample_k34_no_examples 30
theorem sc_z14:FnScope N_z14 ["table","row"] (defScope s_z14):=⟨rfl,rfl,rfl,by decide +kernel,rfl,by decide +kernel,by decide +kernel⟩
theorem d_z14 (hr:Room k (A.deeper (envOfC "row_number" (defScope s_z14) s.heap.objs.size f cdv))) (hb:BlOk mg NBl) (O_Node_arms:FldOk K "Node" "arms") (O_Node_ways:FldOk K "Node" "ways") (O_Table_members:FldOk K "Table" "members") (O_Table_nodes:FldOk K "Table" "nodes") (O_Table_roots:FldOk K "Table" "roots") {G_z0:GL} (F_z0:FnD P w K mg base k "is_row_of_its_pieces" G_z0) :
  PSsf (cxOf CX0 P w K mg base N_z14 "row_number" (defScope s_z14) f cdv A outer s H E).nox (defBody s_z14) (B_z14 G_z0):=by
 have nd:N_z14.Nodup:=sc_z14.nd
 exact (ssf_cons (sf_if (tf_not (tf_val (ef_call F_z0 hr (af_cons (ef_var (pv 0)) (af_cons (ef_var (pv 1)) af_nil))))) (ssf_one (sf_ret ef_non)) ssf_nil) (ssf_cons (sf_set (i:=2) nd (ef_op od_sub (ef_callB cd_len (hb.get "len") bt_len (af_cons (ef_var (pv 1)) af_nil)) ef_int)) (ssf_cons (sf_set (i:=3) nd (ef_callB (cd_sum rfl) (hb.get "sum") bt_sum (af_cons (ef_comp rfl (pif_any (ef_slice (ef_fld (ef_var (pv 0)) (fld_cons O_Table_roots fld_nil)) of_none (of_some (ef_var (pv 2))))) (compOk_of (N:=N_z14) (N':=["root","table"]) (n:=1) (idx:=[0]) (fnames:=(defScope s_z14).names) rfl (fun _ => rfl) rfl (by decide +kernel)) (fun _ _ _ _ _ _ => ⟨(gf_name (i:=0) (show (["root","table"]:List Str).Nodup by decide +kernel)),qf_nil,(ef_fld (ef_ix xd_ix (ef_fld (ef_var (pv 1)) (fld_cons O_Table_nodes fld_nil)) (ef_var (pv 0)) (fun _ _ => rfl)) (fld_cons O_Node_ways fld_nil))⟩)) af_nil))) (ssf_cons (sf_set (i:=4) nd (ef_ix xd_ix (ef_fld (ef_var (pv 0)) (fld_cons O_Table_nodes fld_nil)) (ef_ix xd_ix (ef_fld (ef_var (pv 0)) (fld_cons O_Table_roots fld_nil)) (ef_var (pv 2)) (fun _ _ => rfl)) (fun _ _ => rfl))) (ssf_cons (sf_for PassesOwn.never rfl (pif_any (ef_var (pv 1))) (gf_name (i:=5) nd) (ssf_cons (sf_set (i:=6) nd (ef_bm PySem.F.plainAttrs_dict PySem.F.slot_dict_get PySem.F.type_dict_get (md_dget hr.units) (ef_fld (ef_var (pv 0)) (fld_cons O_Table_members fld_nil)) (af_cons (ef_var (pv 5)) af_nil))) (ssf_cons (sf_if (tf_w (wf_or (tf_cmp od_is (ef_var (pv 6)) ef_non rfl) (wf_one_or (tf_cmp (od_notinDt hr.units) (ef_ix xd_ix (ef_var (pv 6)) ef_int (fun _ _ => rfl)) (ef_fld (ef_var (pv 4)) (fld_cons O_Node_arms fld_nil)) rfl)))) (ssf_one (sf_ret ef_non)) ssf_nil) (ssf_cons (sf_set (i:=7) nd (ef_ix (xd_dt hr.units) (ef_fld (ef_var (pv 4)) (fld_cons O_Node_arms fld_nil)) (ef_ix xd_ix (ef_var (pv 6)) ef_int (fun _ _ => rfl)) (fun _ _ => rfl))) (ssf_cons (sf_set (i:=4) nd (ef_ix xd_ix (ef_fld (ef_var (pv 0)) (fld_cons O_Table_nodes fld_nil)) (ef_ix xd_ix (ef_var (pv 7)) ef_int (fun _ _ => rfl)) (fun _ _ => rfl))) (ssf_one (sf_augN (i:=3) nd (ef_op od_add (ef_ix xd_ix (ef_var (pv 7)) ef_int (fun _ _ => rfl)) (ef_op od_mul (ef_ix xd_ix (ef_var (pv 6)) ef_int (fun _ _ => rfl)) (ef_fld (ef_var (pv 4)) (fld_cons O_Node_ways fld_nil)))) ip_add))))))) (ssf_one (sf_ret (ef_var (pv 3)))))))))
noncomputable abbrev s_z32:Stmt:=atTop PySem.Challenge.pw_byexample_k34_no_examples 49
theorem sc_z32:FnScope N_z32 ["_law_script","_law_k"] (defScope s_z32):=⟨rfl,rfl,rfl,by decide +kernel,rfl,by decide +kernel,by decide +kernel⟩
theorem d_z32 (hr:Room k (A.deeper (envOfC "_law_cell" (defScope s_z32) s.heap.objs.size f cdv))) (hb:BlOk mg NBl) :
  PSsf (cxOf CX0 P w K mg base N_z32 "_law_cell" (defScope s_z32) f cdv A outer s H E).nox (defBody s_z32) (B_z32):=by
 have nd:N_z32.Nodup:=sc_z32.nd
 exact (ssf_cons (sf_if (tf_cmp od_lt (ef_var (pv 1)) (ef_callB cd_len (hb.get "len") bt_len (af_cons (ef_var (pv 0)) af_nil)) rfl) (ssf_one (sf_ret (ef_op od_mod (ef_op od_mul (ef_op od_add (ef_ix xd_ix (ef_var (pv 0)) (ef_var (pv 1)) (fun _ _ => rfl)) ef_int) ef_int) (ef_op od_pow ef_int ef_int)))) ssf_nil) (ssf_cons (sf_set (i:=2) nd (ef_op od_add (ef_op od_mul (ef_op od_mul (ef_var (pv 1)) (ef_var (pv 1))) ef_int) ef_int)) (ssf_cons (sf_if (tf_cmp od_gt (ef_callB cd_len (hb.get "len") bt_len (af_cons (ef_var (pv 0)) af_nil)) ef_int rfl) (ssf_one (sf_set (i:=2) nd (ef_op od_add (ef_var (pv 2)) (ef_op od_mul (ef_op od_mod (ef_ix xd_ix (ef_var (pv 0)) (ef_op od_mod (ef_op od_mul (ef_var (pv 1)) ef_int) (ef_callB cd_len (hb.get "len") bt_len (af_cons (ef_var (pv 0)) af_nil))) (fun _ _ => rfl)) (ef_op od_pow ef_int ef_int)) ef_int)))) ssf_nil) (ssf_one (sf_ret (ef_op od_mod (ef_op od_mul (ef_op od_mod (ef_op od_mul (ef_var (pv 2)) (ef_var (pv 2))) ef_int) ef_int) (ef_op od_pow ef_int ef_int)))))))
noncomputable abbrev s_z12:Stmt:=atTop PySem.Challenge.pw_byexample_k34_no_examples 25
theorem sc_z12:FnScope N_z12 ["node","number"] (defScope s_z12):=⟨rfl,rfl,rfl,by decide +kernel,rfl,by decide +kernel,by decide +kernel⟩
theorem d_z12 (hr:Room k (A.deeper (envOfC "arm_answers" (defScope s_z12) s.heap.objs.size f cdv))) (hb:BlOk mg NBl) (O_Node_arms:FldOk K "Node" "arms") :
  PSsf (cxOf CX0 P w K mg base N_z12 "arm_answers" (defScope s_z12) f cdv A outer s H E).nox (defBody s_z12) (B_z12):=by
 have nd:N_z12.Nodup:=sc_z12.nd
 exact (ssf_cons (sf_set (i:=2) nd ef_non) (ssf_cons (sf_for PassesOwn.never rfl (pif_pairs (ef_fld (ef_var (pv 0)) (fld_cons O_Node_arms fld_nil))) (gf_tup (n:=2) rfl (gsf_cons (gf_name (i:=3) nd) (gsf_cons (gf_name (i:=4) nd) gsf_nil))) (ssf_cons (sf_if (tf_cmp od_gt (ef_ix xd_ix (ef_var (pv 4)) ef_int (fun _ _ => rfl)) (ef_var (pv 1)) rfl) (ssf_one sf_break) ssf_nil) (ssf_one (sf_set (i:=2) nd (ef_var (pv 3)))))) (ssf_one (sf_ret (ef_var (pv 2))))))
noncomputable abbrev s_z29:Stmt:=atTop PySem.Challenge.pw_byexample_k34_no_examples 26
theorem sc_z29:FnScope N_z29 ["table","root","number"] (defScope s_z29):=⟨rfl,rfl,rfl,by decide +kernel,rfl,by decide +kernel,by decide +kernel⟩
theorem d_z29 (hr:Room k (A.deeper (envOfC "row_from" (defScope s_z29) s.heap.objs.size f cdv))) (hb:BlOk mg NBl) (O_Node_arms:FldOk K "Node" "arms") (O_Node_ways:FldOk K "Node" "ways") (O_Table_groups:FldOk K "Table" "groups") (O_Table_nodes:FldOk K "Table" "nodes") {G_z12:GL} (F_z12:FnD P w K mg base k "arm_answers" G_z12) :
  PSsf (cxOf CX0 P w K mg base N_z29 "row_from" (defScope s_z29) f cdv A outer s H E).nox (defBody s_z29) (B_z29 G_z12):=by
 have nd:N_z29.Nodup:=sc_z29.nd
 exact (ssf_cons (sf_set (i:=3) nd (ef_lst af_nil)) (ssf_cons (sf_set (i:=4) nd (ef_ix xd_ix (ef_fld (ef_var (pv 0)) (fld_cons O_Table_nodes fld_nil)) (ef_var (pv 1)) (fun _ _ => rfl))) (ssf_cons (sf_while PassesOwn.never (tf_cmp od_gt (ef_callB cd_lenD (hb.get "len") bt_len (af_cons (ef_fld (ef_var (pv 4)) (fld_cons O_Node_arms fld_nil)) af_nil)) ef_int rfl) (ssf_cons (sf_set (i:=5) nd (ef_call F_z12 hr (af_cons (ef_var (pv 4)) (af_cons (ef_var (pv 2)) af_nil)))) (ssf_cons (sf_set (i:=6) nd (ef_ix (xd_dt hr.units) (ef_fld (ef_var (pv 4)) (fld_cons O_Node_arms fld_nil)) (ef_var (pv 5)) (fun _ _ => rfl))) (ssf_cons (sf_set (i:=7) nd (ef_ix xd_ix (ef_fld (ef_var (pv 0)) (fld_cons O_Table_nodes fld_nil)) (ef_ix xd_ix (ef_var (pv 6)) ef_int (fun _ _ => rfl)) (fun _ _ => rfl))) (ssf_cons (sf_set (i:=8) nd (ef_op od_sub (ef_var (pv 2)) (ef_ix xd_ix (ef_var (pv 6)) ef_int (fun _ _ => rfl)))) (ssf_cons (sf_expr (ef_bm PySem.F.plainAttrs_list PySem.F.slot_list_append PySem.F.type_list_append md_append (ef_var (pv 3)) (af_cons (ef_ix xd_ix (ef_ix (xd_dt hr.units) (ef_fld (ef_var (pv 0)) (fld_cons O_Table_groups fld_nil)) (ef_var (pv 5)) (fun _ _ => rfl)) (ef_op od_fdiv (ef_var (pv 8)) (ef_fld (ef_var (pv 7)) (fld_cons O_Node_ways fld_nil))) (fun _ _ => rfl)) af_nil))) (ssf_cons (sf_set (i:=2) nd (ef_op od_mod (ef_var (pv 8)) (ef_fld (ef_var (pv 7)) (fld_cons O_Node_ways fld_nil)))) (ssf_one (sf_set (i:=4) nd (ef_var (pv 7))))))))))) (ssf_one (sf_ret (ef_callTy cd_tuple (hb.get "tuple") bt_tuple (af_cons (ef_var (pv 3)) af_nil)))))))
noncomputable abbrev s_z34:Stmt:=atTop PySem.Challenge.pw_byexample_k34_no_examples 27
theorem sc_z34:FnScope N_z34 ["table","number"] (defScope s_z34):=⟨rfl,rfl,rfl,by decide +kernel,rfl,by decide +kernel,by decide +kernel⟩
theorem dx_z34 (hr:Room k (A.deeper (envOfC "row_at" (defScope s_z34) s.heap.objs.size f cdv))) (hb:BlOk mg NBl) (O_Node_ways:FldOk K "Node" "ways") (O_Table_nodes:FldOk K "Table" "nodes") (O_Table_roots:FldOk K "Table" "roots") {G_z29:GL} (F_z29:FnD P w K mg base k "row_from" G_z29) {C_NoNumber:Addr} (X_NoNumber:ExcK K "NoNumber" C_NoNumber) :
  PSsx (cxOf (CXX P w) P w K mg base N_z34 "row_at" (defScope s_z34) f cdv A outer s H E) (defBody s_z34) (B_z34 G_z29) (BX_z34 G_z29):=by
 have nd:N_z34.Nodup:=sc_z34.nd
 exact (ssx_cons (sx_if (tf_cmp od_lt (ef_var (pv 1)) ef_int rfl) (ssx_one (sx_raise X_NoNumber rfl)) ssx_nil) (ssx_cons (sx_of (sf_for PassesOwn.never rfl (pif_any (ef_fld (ef_var (pv 0)) (fld_cons O_Table_roots fld_nil))) (gf_name (i:=2) nd) (ssf_cons (sf_set (i:=3) nd (ef_fld (ef_ix xd_ix (ef_fld (ef_var (pv 0)) (fld_cons O_Table_nodes fld_nil)) (ef_var (pv 2)) (fun _ _ => rfl)) (fld_cons O_Node_ways fld_nil))) (ssf_cons (sf_if (tf_cmp od_lt (ef_var (pv 1)) (ef_var (pv 3)) rfl) (ssf_one (sf_ret (ef_call F_z29 hr (af_cons (ef_var (pv 0)) (af_cons (ef_var (pv 2)) (af_cons (ef_var (pv 1)) af_nil)))))) ssf_nil) (ssf_one (sf_augN (i:=1) nd (ef_var (pv 3)) ip_sub)))))) (ssx_one (sx_raise X_NoNumber rfl))))
theorem d_z34 (hr:Room k (A.deeper (envOfC "row_at" (defScope s_z34) s.heap.objs.size f cdv))) (hb:BlOk mg NBl) (O_Node_ways:FldOk K "Node" "ways") (O_Table_nodes:FldOk K "Table" "nodes") (O_Table_roots:FldOk K "Table" "roots") {G_z29:GL} (F_z29:FnD P w K mg base k "row_from" G_z29) :
  PSsf (cxOf CX0 P w K mg base N_z34 "row_at" (defScope s_z34) f cdv A outer s H E).nox (defBody s_z34) (B_z34 G_z29):=by
 have nd:N_z34.Nodup:=sc_z34.nd
 exact (ssf_cons (sf_if (tf_cmp od_lt (ef_var (pv 1)) ef_int rfl) (ssf_one sf_never) ssf_nil) (ssf_cons (sf_for PassesOwn.never rfl (pif_any (ef_fld (ef_var (pv 0)) (fld_cons O_Table_roots fld_nil))) (gf_name (i:=2) nd) (ssf_cons (sf_set (i:=3) nd (ef_fld (ef_ix xd_ix (ef_fld (ef_var (pv 0)) (fld_cons O_Table_nodes fld_nil)) (ef_var (pv 2)) (fun _ _ => rfl)) (fld_cons O_Node_ways fld_nil))) (ssf_cons (sf_if (tf_cmp od_lt (ef_var (pv 1)) (ef_var (pv 3)) rfl) (ssf_one (sf_ret (ef_call F_z29 hr (af_cons (ef_var (pv 0)) (af_cons (ef_var (pv 2)) (af_cons (ef_var (pv 1)) af_nil)))))) ssf_nil) (ssf_one (sf_augN (i:=1) nd (ef_var (pv 3)) ip_sub))))) (ssf_one sf_never)))
noncomputable abbrev s_z23:Stmt:=atTop PySem.Challenge.pw_byexample_k34_no_examples 56
theorem sc_z23:FnScope N_z23 ["_law_found"] (defScope s_z23):=⟨rfl,rfl,rfl,by decide +kernel,rfl,by decide +kernel,by decide +kernel⟩
theorem d_z23 (hr:Room k (A.deeper (envOfC "_law_whole" (defScope s_z23) s.heap.objs.size f cdv))) (hb:BlOk mg NBl) :
  PSsf (cxOf CX0 P w K mg base N_z23 "_law_whole" (defScope s_z23) f cdv A outer s H E).nox (defBody s_z23) (B_z23):=by
 have nd:N_z23.Nodup:=sc_z23.nd
 exact (ssf_one (sf_ret (ef_and (ef_callB cd_inst (hb.get "isinstance") bt_isinstance (af_cons (ef_var (pv 0)) (af_cons (ef_ty (hb.get "int") bt_int) af_nil))) (ef_one (ef_not (ef_callB cd_inst (hb.get "isinstance") bt_isinstance (af_cons (ef_var (pv 0)) (af_cons (ef_ty (hb.get "bool") bt_bool) af_nil))))))))
noncomputable abbrev s_z28:Stmt:=atTop PySem.Challenge.pw_byexample_k34_no_examples 52
theorem sc_z28:FnScope N_z28 ["_law_cell_here"] (defScope s_z28):=⟨rfl,rfl,rfl,by decide +kernel,rfl,by decide +kernel,by decide +kernel⟩
theorem d_z28 (hr:Room k (A.deeper (envOfC "_law_place" (defScope s_z28) s.heap.objs.size f cdv))) (hb:BlOk mg NBl) :
  PSsf (cxOf CX0 P w K mg base N_z28 "_law_place" (defScope s_z28) f cdv A outer s H E).nox (defBody s_z28) (B_z28):=by
 have nd:N_z28.Nodup:=sc_z28.nd
 exact (ssf_cons (sf_set (i:=1) nd (ef_ix xd_ix (ef_lst (af_cons ef_str (af_cons ef_str (af_cons ef_str (af_cons ef_str (af_cons ef_str af_nil)))))) (ef_op od_mod (ef_var (pv 0)) ef_int) (fun _ _ => rfl))) (ssf_one (sf_ret (ef_tup (af_cons (ef_var (pv 1)) (af_cons (ef_ix xd_ix (ef_lst (af_cons ef_int (af_cons ef_int (af_cons (ef_neg ef_int) (af_cons (ef_neg ef_int) af_nil))))) (ef_op od_mod (ef_op od_fdiv (ef_var (pv 0)) ef_int) ef_int) (fun _ _ => rfl)) (af_cons (ef_ix xd_ix (ef_lst (af_cons ef_str (af_cons ef_str af_nil))) (ef_op od_mod (ef_op od_fdiv (ef_var (pv 0)) ef_int) ef_int) (fun _ _ => rfl)) af_nil)))))))
noncomputable abbrev s_z24:Stmt:=atTop PySem.Challenge.pw_byexample_k34_no_examples 53
theorem sc_z24:FnScope N_z24 ["_law_cell_here","_law_words_here"] (defScope s_z24):=⟨rfl,rfl,rfl,by decide +kernel,rfl,by decide +kernel,by decide +kernel⟩
theorem d_z24 (hr:Room k (A.deeper (envOfC "_law_piece" (defScope s_z24) s.heap.objs.size f cdv))) (hb:BlOk mg NBl) {G_z28:GL} (F_z28:FnD P w K mg base k "_law_place" G_z28) :
  PSsf (cxOf CX0 P w K mg base N_z24 "_law_piece" (defScope s_z24) f cdv A outer s H E).nox (defBody s_z24) (B_z24 G_z28):=by
 have nd:N_z24.Nodup:=sc_z24.nd
 exact (ssf_cons (sf_if (tf_w (wf_and (tf_cmp od_eq (ef_op od_mod (ef_var (pv 0)) ef_int) ef_int rfl) (wf_one_and (tf_cmp od_gt (ef_callB cd_len (hb.get "len") bt_len (af_cons (ef_var (pv 1)) af_nil)) ef_int rfl)))) (ssf_one (sf_ret (ef_tup (af_cons ef_str (af_cons (ef_ix xd_ix (ef_var (pv 1)) (ef_op od_mod (ef_op od_fdiv (ef_var (pv 0)) ef_int) (ef_callB cd_len (hb.get "len") bt_len (af_cons (ef_var (pv 1)) af_nil))) (fun _ _ => rfl)) af_nil))))) ssf_nil) (ssf_cons (sf_set (i:=2) nd (ef_ix xd_ix (ef_lst (af_cons ef_str (af_cons ef_str (af_cons ef_str (af_cons ef_str af_nil))))) (ef_op od_mod (ef_op od_fdiv (ef_var (pv 0)) ef_int) ef_int) (fun _ _ => rfl))) (ssf_one (sf_ret (ef_tup (af_cons (ef_var (pv 2)) (af_cons (ef_call F_z28 hr (af_cons (ef_op od_fdiv (ef_var (pv 0)) ef_int) af_nil)) (af_cons (ef_call F_z28 hr (af_cons (ef_op od_fdiv (ef_var (pv 0)) ef_int) af_nil)) af_nil))))))))
noncomputable abbrev s_z7:Stmt:=atTop PySem.Challenge.pw_byexample_k34_no_examples 54
theorem sc_z7:FnScope N_z7 ["_law_thing"] (defScope s_z7):=⟨rfl,rfl,rfl,by decide +kernel,rfl,by decide +kernel,by decide +kernel⟩
theorem d_z7 (hr:Room k (A.deeper (envOfC "_law_is_place" (defScope s_z7) s.heap.objs.size f cdv))) (hb:BlOk mg NBl) :
  PSsf (cxOf CX0 P w K mg base N_z7 "_law_is_place" (defScope s_z7) f cdv A outer s H E).nox (defBody s_z7) (B_z7):=by
 have nd:N_z7.Nodup:=sc_z7.nd
 exact (ssf_cons (sf_if (tf_w (wf_or (tf_not (tf_val (ef_callB cd_inst (hb.get "isinstance") bt_isinstance (af_cons (ef_var (pv 0)) (af_cons (ef_ty (hb.get "tuple") bt_tuple) af_nil))))) (wf_one_or (tf_cmp od_ne (ef_callB cd_len (hb.get "len") bt_len (af_cons (ef_var (pv 0)) af_nil)) ef_int rfl)))) (ssf_one (sf_ret ef_bl)) ssf_nil) (ssf_cons (sf_if (tf_w (wf_or (tf_not (tf_val (ef_callB cd_inst (hb.get "isinstance") bt_isinstance (af_cons (ef_ix xd_ix (ef_var (pv 0)) ef_int (fun _ _ => rfl)) (af_cons (ef_ty (hb.get "int") bt_int) af_nil))))) (wf_or (tf_val (ef_callB cd_inst (hb.get "isinstance") bt_isinstance (af_cons (ef_ix xd_ix (ef_var (pv 0)) ef_int (fun _ _ => rfl)) (af_cons (ef_ty (hb.get "bool") bt_bool) af_nil)))) (wf_one_or (tf_cmp od_notin (ef_ix xd_ix (ef_var (pv 0)) ef_int (fun _ _ => rfl)) (ef_tup (af_cons ef_int (af_cons ef_int (af_cons (ef_neg ef_int) (af_cons (ef_neg ef_int) af_nil))))) rfl))))) (ssf_one (sf_ret ef_bl)) ssf_nil) (ssf_cons (sf_if (tf_w (wf_or (tf_not (tf_val (ef_callB cd_inst (hb.get "isinstance") bt_isinstance (af_cons (ef_ix xd_ix (ef_var (pv 0)) ef_int (fun _ _ => rfl)) (af_cons (ef_ty (hb.get "str") bt_str) af_nil))))) (wf_one_or (tf_not (tf_val (ef_callB cd_inst (hb.get "isinstance") bt_isinstance (af_cons (ef_ix xd_ix (ef_var (pv 0)) ef_int (fun _ _ => rfl)) (af_cons (ef_ty (hb.get "str") bt_str) af_nil)))))))) (ssf_one (sf_ret ef_bl)) ssf_nil) (ssf_one (sf_ret (ef_and (ef_cmp od_in (ef_ix xd_ix (ef_var (pv 0)) ef_int (fun _ _ => rfl)) (ef_tup (af_cons ef_str (af_cons ef_str (af_cons ef_str (af_cons ef_str (af_cons ef_str af_nil)))))) rfl) (ef_one (ef_cmp od_in (ef_ix xd_ix (ef_var (pv 0)) ef_int (fun _ _ => rfl)) (ef_tup (af_cons ef_str (af_cons ef_str af_nil))) rfl))))))))
noncomputable abbrev s_z21:Stmt:=atTop PySem.Challenge.pw_byexample_k34_no_examples 55
theorem sc_z21:FnScope N_z21 ["_law_thing","_law_words_here"] (defScope s_z21):=⟨rfl,rfl,rfl,by decide +kernel,rfl,by decide +kernel,by decide +kernel⟩
theorem d_z21 (hr:Room k (A.deeper (envOfC "_law_is_row" (defScope s_z21) s.heap.objs.size f cdv))) (hb:BlOk mg NBl) {G_z7:GL} (F_z7:FnD P w K mg base k "_law_is_place" G_z7) :
  PSsf (cxOf CX0 P w K mg base N_z21 "_law_is_row" (defScope s_z21) f cdv A outer s H E).nox (defBody s_z21) (B_z21 G_z7):=by
 have nd:N_z21.Nodup:=sc_z21.nd
 exact (ssf_cons (sf_if (tf_w (wf_or (tf_not (tf_val (ef_callB cd_inst (hb.get "isinstance") bt_isinstance (af_cons (ef_var (pv 0)) (af_cons (ef_ty (hb.get "tuple") bt_tuple) af_nil))))) (wf_one_or (tf_not (tf_chain od_le od_le ef_int (ef_callB cd_len (hb.get "len") bt_len (af_cons (ef_var (pv 0)) af_nil)) ef_int))))) (ssf_one (sf_ret ef_bl)) ssf_nil) (ssf_cons (sf_for PassesOwn.never rfl (pif_any (ef_var (pv 0))) (gf_name (i:=2) nd) (ssf_cons (sf_if (tf_w (wf_or (tf_not (tf_val (ef_callB cd_inst (hb.get "isinstance") bt_isinstance (af_cons (ef_var (pv 2)) (af_cons (ef_ty (hb.get "tuple") bt_tuple) af_nil))))) (wf_or (tf_cmp od_lt (ef_callB cd_len (hb.get "len") bt_len (af_cons (ef_var (pv 2)) af_nil)) ef_int rfl) (wf_one_or (tf_not (tf_val (ef_callB cd_inst (hb.get "isinstance") bt_isinstance (af_cons (ef_ix xd_ix (ef_var (pv 2)) ef_int (fun _ _ => rfl)) (af_cons (ef_ty (hb.get "str") bt_str) af_nil))))))))) (ssf_one (sf_ret ef_bl)) ssf_nil) (ssf_one (sf_if (tf_cmp od_eq (ef_ix xd_ix (ef_var (pv 2)) ef_int (fun _ _ => rfl)) ef_str rfl) (ssf_one (sf_if (tf_w (wf_or (tf_cmp od_ne (ef_callB cd_len (hb.get "len") bt_len (af_cons (ef_var (pv 2)) af_nil)) ef_int rfl) (wf_or (tf_not (tf_val (ef_callB cd_inst (hb.get "isinstance") bt_isinstance (af_cons (ef_ix xd_ix (ef_var (pv 2)) ef_int (fun _ _ => rfl)) (af_cons (ef_ty (hb.get "str") bt_str) af_nil))))) (wf_one_or (tf_cmp od_notin (ef_ix xd_ix (ef_var (pv 2)) ef_int (fun _ _ => rfl)) (ef_var (pv 1)) rfl))))) (ssf_one (sf_ret ef_bl)) ssf_nil)) (ssf_one (sf_if (tf_w (wf_or (tf_cmp od_ne (ef_callB cd_len (hb.get "len") bt_len (af_cons (ef_var (pv 2)) af_nil)) ef_int rfl) (wf_one_or (tf_cmp od_notin (ef_ix xd_ix (ef_var (pv 2)) ef_int (fun _ _ => rfl)) (ef_tup (af_cons ef_str (af_cons ef_str (af_cons ef_str af_nil)))) rfl)))) (ssf_one (sf_ret ef_bl)) (ssf_one (sf_if (tf_w (wf_or (tf_not (tf_val (ef_call F_z7 hr (af_cons (ef_ix xd_ix (ef_var (pv 2)) ef_int (fun _ _ => rfl)) af_nil)))) (wf_one_or (tf_not (tf_val (ef_call F_z7 hr (af_cons (ef_ix xd_ix (ef_var (pv 2)) ef_int (fun _ _ => rfl)) af_nil))))))) (ssf_one (sf_ret ef_bl)) ssf_nil)))))))) (ssf_one (sf_ret ef_bl))))
noncomputable abbrev s_z39:Stmt:=atTop PySem.Challenge.pw_byexample_k34_no_examples 57
theorem sc_z39:FnScope N_z39 ["_law_script"] (defScope s_z39):=⟨rfl,rfl,rfl,by decide +kernel,rfl,by decide +kernel,by decide +kernel⟩
theorem d_z39 (hr:Room k (A.deeper (envOfC "law" (defScope s_z39) s.heap.objs.size f cdv))) (hb:BlOk mg NBl) {G_z22:GL} (F_z22:FnD P w K mg base k "_law_words" G_z22) {G_z26:GL} (F_z26:FnD P w K mg base k "table_of" G_z26) {G_z37:GL} (F_z37:FnD P w K mg base k "many" G_z37) {G_z14:GL} (F_z14:FnD P w K mg base k "row_number" G_z14) {G_z32:GL} (F_z32:FnD P w K mg base k "_law_cell" G_z32) {G_z34:GL} (F_z34:FnD P w K mg base k "row_at" G_z34) {G_z23:GL} (F_z23:FnD P w K mg base k "_law_whole" G_z23) {G_z24:GL} (F_z24:FnD P w K mg base k "_law_piece" G_z24) {G_z21:GL} (F_z21:FnD P w K mg base k "_law_is_row" G_z21) :
  PSsf (cxOf CX0 P w K mg base N_z39 "law" (defScope s_z39) f cdv A outer s H E).nox (defBody s_z39) (B_z39 G_z22 G_z26 G_z37 G_z14 G_z32 G_z34 G_z23 G_z24 G_z21):=by
 have nd:N_z39.Nodup:=sc_z39.nd
 exact (ssf_cons (sf_set (i:=1) nd (ef_call F_z22 hr (af_cons (ef_call F_z32 hr (af_cons (ef_var (pv 0)) (af_cons ef_int af_nil))) af_nil))) (ssf_cons (sf_for PassesOwn.never rfl (pif_any (ef_slice (ef_call F_z22 hr (af_cons (ef_call F_z32 hr (af_cons (ef_var (pv 0)) (af_cons ef_int af_nil))) af_nil)) of_none (of_some ef_int))) (gf_name (i:=2) nd) (ssf_one (sf_if (tf_w (wf_and (tf_cmp od_notin (ef_var (pv 2)) (ef_var (pv 1)) rfl) (wf_one_and (tf_cmp od_lt (ef_callB cd_len (hb.get "len") bt_len (af_cons (ef_var (pv 1)) af_nil)) ef_int rfl)))) (ssf_one (sf_expr (ef_bm PySem.F.plainAttrs_list PySem.F.slot_list_append PySem.F.type_list_append md_append (ef_var (pv 1)) (af_cons (ef_var (pv 2)) af_nil)))) ssf_nil))) (ssf_cons (sf_set (i:=3) nd (ef_call F_z26 hr (af_cons (ef_var (pv 1)) (af_cons (ef_lst af_nil) af_nil)))) (ssf_cons (sf_set (i:=4) nd (ef_op od_add (ef_callB cd_len (hb.get "len") bt_len (af_cons (ef_var (pv 1)) af_nil)) ef_int)) (ssf_cons (sf_set (i:=5) nd (ef_call F_z37 hr (af_cons (ef_var (pv 3)) af_nil))) (ssf_cons (sf_if (tf_w (wf_or (tf_not (tf_val (ef_call F_z23 hr (af_cons (ef_var (pv 5)) af_nil)))) (wf_one_or (tf_cmp (od_neD hr.units) (ef_var (pv 5)) (ef_op od_add (ef_op od_add (ef_var (pv 4)) (ef_op od_mul (ef_var (pv 4)) (ef_var (pv 4)))) (ef_op od_mul (ef_op od_mul (ef_var (pv 4)) (ef_var (pv 4))) (ef_var (pv 4)))) rfl)))) (ssf_one (sf_ret ef_bl)) ssf_nil) (ssf_cons (sf_set (i:=6) nd (ef_op od_add (ef_lst (af_cons (ef_call F_z32 hr (af_cons (ef_var (pv 0)) (af_cons ef_int af_nil))) af_nil)) (ef_comp rfl (pif_range2 (hb.get "range") (af_cons ef_int (af_cons (ef_callB (cd_min rfl) (hb.get "min") bt_min (af_cons ef_int (af_cons (ef_callB cd_len (hb.get "len") bt_len (af_cons (ef_var (pv 0)) af_nil)) af_nil))) af_nil))) (compOk_of (N:=N_z39) (N':=["_law_k","_law_script"]) (n:=1) (idx:=[0]) (fnames:=(defScope s_z39).names) rfl (fun _ => rfl) rfl (by decide +kernel)) (fun _ _ _ _ _ _ => ⟨(gf_name (i:=0) (show (["_law_k","_law_script"]:List Str).Nodup by decide +kernel)),qf_nil,(ef_call F_z32 hr (af_cons (ef_var (pv 1)) (af_cons (ef_var (pv 0)) af_nil)))⟩)))) (ssf_cons (sf_set (i:=7) nd (ef_callTy cd_tuple (hb.get "tuple") bt_tuple (af_cons (ef_comp rfl (pif_any (ef_var (pv 6))) (compOk_of (N:=N_z39) (N':=["_law_cell_here","_law_words_here"]) (n:=1) (idx:=[1]) (fnames:=(defScope s_z39).names) rfl (fun _ => rfl) rfl (by decide +kernel)) (fun _ _ _ _ _ _ => ⟨(gf_name (i:=0) (show (["_law_cell_here","_law_words_here"]:List Str).Nodup by decide +kernel)),qf_nil,(ef_call F_z24 hr (af_cons (ef_var (pv 0)) (af_cons (ef_var (pv 1)) af_nil)))⟩)) af_nil))) (ssf_cons (sf_set (i:=8) nd (ef_call F_z14 hr (af_cons (ef_var (pv 3)) (af_cons (ef_var (pv 7)) af_nil)))) (ssf_cons (sf_if (tf_w (wf_or (tf_not (tf_val (ef_call F_z23 hr (af_cons (ef_var (pv 8)) af_nil)))) (wf_or (tf_not (tf_chain od_le od_lt ef_int (ef_var (pv 8)) (ef_var (pv 5)))) (wf_one_or (tf_cmp (od_neD hr.units) (ef_call F_z34 hr (af_cons (ef_var (pv 3)) (af_cons (ef_var (pv 8)) af_nil))) (ef_var (pv 7)) rfl))))) (ssf_one (sf_ret ef_bl)) ssf_nil) (ssf_cons (sf_set (i:=9) nd ef_str) (ssf_cons (sf_if (tf_cmp od_in (ef_var (pv 9)) (ef_var (pv 1)) rfl) (ssf_one (sf_set (i:=9) nd (ef_slice ef_str of_none (of_some ef_int)))) ssf_nil) (ssf_cons (sf_if (tf_w (wf_and (tf_cmp od_notin (ef_var (pv 9)) (ef_var (pv 1)) rfl) (wf_one_and (tf_cmp od_isnot (ef_call F_z14 hr (af_cons (ef_var (pv 3)) (af_cons (ef_op od_add (ef_slice (ef_var (pv 7)) of_none (of_some (ef_neg ef_int))) (ef_tup (af_cons (ef_tup (af_cons ef_str (af_cons (ef_var (pv 9)) af_nil))) af_nil))) af_nil))) ef_non rfl)))) (ssf_one (sf_ret ef_bl)) ssf_nil) (ssf_cons (sf_set (i:=10) nd (ef_op od_mod (ef_call F_z32 hr (af_cons (ef_var (pv 0)) (af_cons ef_int af_nil))) (ef_var (pv 4)))) (ssf_cons (sf_for PassesOwn.never rfl (pif_any (ef_lst (af_cons (ef_op od_mod (ef_call F_z32 hr (af_cons (ef_var (pv 0)) (af_cons ef_int af_nil))) (ef_var (pv 5))) (af_cons (ef_op od_sub (ef_op od_sub (ef_var (pv 5)) ef_int) (ef_var (pv 10))) (af_cons (ef_var (pv 10)) af_nil))))) (gf_name (i:=8) nd) (ssf_cons (sf_set (i:=11) nd (ef_call F_z34 hr (af_cons (ef_var (pv 3)) (af_cons (ef_var (pv 8)) af_nil)))) (ssf_one (sf_if (tf_w (wf_or (tf_not (tf_val (ef_call F_z21 hr (af_cons (ef_var (pv 11)) (af_cons (ef_var (pv 1)) af_nil))))) (wf_one_or (tf_cmp (od_neD hr.units) (ef_call F_z14 hr (af_cons (ef_var (pv 3)) (af_cons (ef_var (pv 11)) af_nil))) (ef_var (pv 8)) rfl)))) (ssf_one (sf_ret ef_bl)) ssf_nil)))) (ssf_one (sf_ret (ef_cmp (od_eqD hr.units) (ef_call F_z37 hr (af_cons (ef_var (pv 3)) af_nil)) (ef_var (pv 5)) rfl))))))))))))))))))
end
theorem all_mk {l:PySem.W.OpenLaw} {w:World} {K:PySem.W.Frag} {h:Heap} {mg:Str → Option Value} {fa:Addr} (X:K.In h) (G:h.Ns mainGlobals mg) (hfa:mg "law" = some (.ref fa))
  {r1:Addr} {o1:Option Addr} {n1:Nat} {l1:Array (Option Value)}
  {t2:Tok}
  {t3:Tok}
  {t4:Tok}
  {r7:Addr} {o7:Option Addr} {n7:Nat} {l7:Array (Option Value)}
  {t8:Tok}
  {t9:Tok}
  {t12:Tok}
  {r14:Addr} {o14:Option Addr} {n14:Nat} {l14:Array (Option Value)}
  {t15:Tok}
  {t16:Tok}
  {t17:Tok}
  {t18:Tok}
  {t19:Tok}
  {t22:Tok}
  {r24:Addr} {o24:Option Addr} {n24:Nat} {l24:Array (Option Value)}
  {t25:Tok}
  {t26:Tok}
  {t27:Tok}
  {t28:Tok}
  {r31:Addr} {o31:Option Addr} {n31:Nat} {l31:Array (Option Value)}
  {t32:Tok}
  {t33:Tok}
  {t34:Tok}
  {r37:Addr} {o37:Option Addr} {n37:Nat} {l37:Array (Option Value)}
  {r38:Addr} {o38:Option Addr} {n38:Nat} {l38:Array (Option Value)}
  {t39:Tok}
  {t40:Tok}
  {r42:Addr} {o42:Option Addr} {n42:Nat} {l42:Array (Option Value)}
  {t43:Tok}
  {t44:Tok}
  {r46:Addr} {o46:Option Addr} {n46:Nat} {l46:Array (Option Value)}
  {t47:Tok}
  {t48:Tok}
  {r50:Addr} {o50:Option Addr} {n50:Nat} {l50:Array (Option Value)}
  {t51:Tok}
  {t52:Tok}
  {C_Node:Addr}
  {C_Table:Addr}
  {C_NoNumber:Addr}
  {f_z31:Addr} {oc_z31 kV_z31 dc_z31 pm_z31 cd_z31 ct_z31:Value} {od_z31 an_z31:Option Addr} {sl_z31:Array (Option Value)}
  {f_z22:Addr} {oc_z22 kV_z22 dc_z22 pm_z22 cd_z22 ct_z22:Value} {od_z22 an_z22:Option Addr} {sl_z22:Array (Option Value)}
  {f_z16:Addr} {oc_z16 kV_z16 dc_z16 pm_z16 cd_z16 ct_z16:Value} {od_z16 an_z16:Option Addr} {sl_z16:Array (Option Value)}
  {f_z20:Addr} {oc_z20 kV_z20 dc_z20 pm_z20 cd_z20 ct_z20:Value} {od_z20 an_z20:Option Addr} {sl_z20:Array (Option Value)}
  {f_z15:Addr} {oc_z15 kV_z15 dc_z15 pm_z15 cd_z15 ct_z15:Value} {od_z15 an_z15:Option Addr} {sl_z15:Array (Option Value)}
  {f_z13:Addr} {oc_z13 kV_z13 dc_z13 pm_z13 cd_z13 ct_z13:Value} {od_z13 an_z13:Option Addr} {sl_z13:Array (Option Value)}
  {f_z33:Addr} {oc_z33 kV_z33 dc_z33 pm_z33 cd_z33 ct_z33:Value} {od_z33 an_z33:Option Addr} {sl_z33:Array (Option Value)}
  {f_z36:Addr} {oc_z36 kV_z36 dc_z36 pm_z36 cd_z36 ct_z36:Value} {od_z36 an_z36:Option Addr} {sl_z36:Array (Option Value)}
  {f_z38:Addr} {oc_z38 kV_z38 dc_z38 pm_z38 cd_z38 ct_z38:Value} {od_z38 an_z38:Option Addr} {sl_z38:Array (Option Value)}
  {f_z1:Addr} {oc_z1 kV_z1 dc_z1 pm_z1 cd_z1 ct_z1:Value} {od_z1 an_z1:Option Addr} {sl_z1:Array (Option Value)}
  {f_z6:Addr} {oc_z6 kV_z6 dc_z6 pm_z6 cd_z6 ct_z6:Value} {od_z6 an_z6:Option Addr} {sl_z6:Array (Option Value)}
  {f_z5:Addr} {oc_z5 kV_z5 dc_z5 pm_z5 cd_z5 ct_z5:Value} {od_z5 an_z5:Option Addr} {sl_z5:Array (Option Value)}
  {f_z19:Addr} {oc_z19 kV_z19 dc_z19 pm_z19 cd_z19 ct_z19:Value} {od_z19 an_z19:Option Addr} {sl_z19:Array (Option Value)}
  {f_z2:Addr} {oc_z2 kV_z2 dc_z2 pm_z2 cd_z2 ct_z2:Value} {od_z2 an_z2:Option Addr} {sl_z2:Array (Option Value)}
  {f_z30:Addr} {oc_z30 kV_z30 dc_z30 pm_z30 cd_z30 ct_z30:Value} {od_z30 an_z30:Option Addr} {sl_z30:Array (Option Value)}
  {f_z18:Addr} {oc_z18 kV_z18 dc_z18 pm_z18 cd_z18 ct_z18:Value} {od_z18 an_z18:Option Addr} {sl_z18:Array (Option Value)}
  {f_z3:Addr} {oc_z3 kV_z3 dc_z3 pm_z3 cd_z3 ct_z3:Value} {od_z3 an_z3:Option Addr} {sl_z3:Array (Option Value)}
  {f_z10:Addr} {oc_z10 kV_z10 dc_z10 pm_z10 cd_z10 ct_z10:Value} {od_z10 an_z10:Option Addr} {sl_z10:Array (Option Value)}
  {f_z27:Addr} {oc_z27 kV_z27 dc_z27 pm_z27 cd_z27 ct_z27:Value} {od_z27 an_z27:Option Addr} {sl_z27:Array (Option Value)}
  {f_z9:Addr} {oc_z9 kV_z9 dc_z9 pm_z9 cd_z9 ct_z9:Value} {od_z9 an_z9:Option Addr} {sl_z9:Array (Option Value)}
  {f_z26:Addr} {oc_z26 kV_z26 dc_z26 pm_z26 cd_z26 ct_z26:Value} {od_z26 an_z26:Option Addr} {sl_z26:Array (Option Value)}
  {f_z37:Addr} {oc_z37 kV_z37 dc_z37 pm_z37 cd_z37 ct_z37:Value} {od_z37 an_z37:Option Addr} {sl_z37:Array (Option Value)}
  {f_z8:Addr} {oc_z8 kV_z8 dc_z8 pm_z8 cd_z8 ct_z8:Value} {od_z8 an_z8:Option Addr} {sl_z8:Array (Option Value)}
  {f_z4:Addr} {oc_z4 kV_z4 dc_z4 pm_z4 cd_z4 ct_z4:Value} {od_z4 an_z4:Option Addr} {sl_z4:Array (Option Value)}
  {f_z35:Addr} {oc_z35 kV_z35 dc_z35 pm_z35 cd_z35 ct_z35:Value} {od_z35 an_z35:Option Addr} {sl_z35:Array (Option Value)}
  {f_z25:Addr} {oc_z25 kV_z25 dc_z25 pm_z25 cd_z25 ct_z25:Value} {od_z25 an_z25:Option Addr} {sl_z25:Array (Option Value)}
  {f_z17:Addr} {oc_z17 kV_z17 dc_z17 pm_z17 cd_z17 ct_z17:Value} {od_z17 an_z17:Option Addr} {sl_z17:Array (Option Value)}
  {f_z11:Addr} {oc_z11 kV_z11 dc_z11 pm_z11 cd_z11 ct_z11:Value} {od_z11 an_z11:Option Addr} {sl_z11:Array (Option Value)}
  {f_z0:Addr} {oc_z0 kV_z0 dc_z0 pm_z0 cd_z0 ct_z0:Value} {od_z0 an_z0:Option Addr} {sl_z0:Array (Option Value)}
  {f_z14:Addr} {oc_z14 kV_z14 dc_z14 pm_z14 cd_z14 ct_z14:Value} {od_z14 an_z14:Option Addr} {sl_z14:Array (Option Value)}
  {f_z32:Addr} {oc_z32 kV_z32 dc_z32 pm_z32 cd_z32 ct_z32:Value} {od_z32 an_z32:Option Addr} {sl_z32:Array (Option Value)}
  {f_z12:Addr} {oc_z12 kV_z12 dc_z12 pm_z12 cd_z12 ct_z12:Value} {od_z12 an_z12:Option Addr} {sl_z12:Array (Option Value)}
  {f_z29:Addr} {oc_z29 kV_z29 dc_z29 pm_z29 cd_z29 ct_z29:Value} {od_z29 an_z29:Option Addr} {sl_z29:Array (Option Value)}
  {f_z34:Addr} {oc_z34 kV_z34 dc_z34 pm_z34 cd_z34 ct_z34:Value} {od_z34 an_z34:Option Addr} {sl_z34:Array (Option Value)}
  {f_z23:Addr} {oc_z23 kV_z23 dc_z23 pm_z23 cd_z23 ct_z23:Value} {od_z23 an_z23:Option Addr} {sl_z23:Array (Option Value)}
  {f_z28:Addr} {oc_z28 kV_z28 dc_z28 pm_z28 cd_z28 ct_z28:Value} {od_z28 an_z28:Option Addr} {sl_z28:Array (Option Value)}
  {f_z24:Addr} {oc_z24 kV_z24 dc_z24 pm_z24 cd_z24 ct_z24:Value} {od_z24 an_z24:Option Addr} {sl_z24:Array (Option Value)}
  {f_z7:Addr} {oc_z7 kV_z7 dc_z7 pm_z7 cd_z7 ct_z7:Value} {od_z7 an_z7:Option Addr} {sl_z7:Array (Option Value)}
  {f_z21:Addr} {oc_z21 kV_z21 dc_z21 pm_z21 cd_z21 ct_z21:Value} {od_z21 an_z21:Option Addr} {sl_z21:Array (Option Value)}
  {f_z39:Addr} {oc_z39 kV_z39 dc_z39 pm_z39 cd_z39 ct_z39:Value} {od_z39 an_z39:Option Addr} {sl_z39:Array (Option Value)}
  (q6:PySem.W.nsIn K mainGlobals "DEEDS" = some (some (.ref r1)))
  (q5:K.lookup r1 = some ⟨.type "tuple",o1,.seq ([.str "copy" t2,.str "raise" t3,.str "sink" t4]:List Value).toArray n1,l1⟩)
  (q11:PySem.W.nsIn K mainGlobals "EDGES" = some (some (.ref r7)))
  (q10:K.lookup r7 = some ⟨.type "tuple",o7,.seq ([.str "ahead" t8,.str "behind" t9]:List Value).toArray n7,l7⟩)
  (q13:PySem.W.nsIn K mainGlobals "END" = some (some (.int (0) t12)))
  (q21:PySem.W.nsIn K mainGlobals "KINDS" = some (some (.ref r14)))
  (q20:K.lookup r14 = some ⟨.type "tuple",o14,.seq ([.str "small" t15,.str "great" t16,.str "figure" t17,.str "mark" t18,.str "any" t19]:List Value).toArray n14,l14⟩)
  (q23:PySem.W.nsIn K mainGlobals "NOWHERE" = some (some (.int (1) t22)))
  (q30:PySem.W.nsIn K mainGlobals "NTHS" = some (some (.ref r24)))
  (q29:K.lookup r24 = some ⟨.type "tuple",o24,.seq ([.int (1) t25,.int (2) t26,.int (-1) t27,.int (-2) t28]:List Value).toArray n24,l24⟩)
  (q36:PySem.W.nsIn K mainGlobals "ROW_LENGTHS" = some (some (.ref r31)))
  (q35:K.lookup r31 = some ⟨.type "tuple",o31,.seq ([.int (1) t32,.int (2) t33,.int (3) t34]:List Value).toArray n31,l31⟩)
  (q55:PySem.W.nsIn K mainGlobals "SIGNS_BY_KIND" = some (some (.ref r37)))
  (q54:K.lookup r37 = some ⟨.type "tuple",o37,.seq ([.ref r38,.ref r42,.ref r46,.ref r50]:List Value).toArray n37,l37⟩)
  (q41:K.lookup r38 = some ⟨.type "tuple",o38,.seq ([.str "small" t39,.str "abcdefghijklmnopqrstuvwxyz" t40]:List Value).toArray n38,l38⟩)
  (q45:K.lookup r42 = some ⟨.type "tuple",o42,.seq ([.str "great" t43,.str "ABCDEFGHIJKLMNOPQRSTUVWXYZ" t44]:List Value).toArray n42,l42⟩)
  (q49:K.lookup r46 = some ⟨.type "tuple",o46,.seq ([.str "figure" t47,.str "0123456789" t48]:List Value).toArray n46,l46⟩)
  (q53:K.lookup r50 = some ⟨.type "tuple",o50,.seq ([.str "mark" t51,.str " -.,/" t52]:List Value).toArray n50,l50⟩)
  (q56:PySem.W.nsIn K mainGlobals "abs" = some none)
  (q57:PySem.W.nsIn K mainGlobals "all" = some none)
  (q58:PySem.W.nsIn K mainGlobals "bool" = some none)
  (q59:PySem.W.nsIn K mainGlobals "enumerate" = some none)
  (q60:PySem.W.nsIn K mainGlobals "int" = some none)
  (q61:PySem.W.nsIn K mainGlobals "isinstance" = some none)
  (q62:PySem.W.nsIn K mainGlobals "len" = some none)
  (q63:PySem.W.nsIn K mainGlobals "list" = some none)
  (q64:PySem.W.nsIn K mainGlobals "min" = some none)
  (q65:PySem.W.nsIn K mainGlobals "range" = some none)
  (q66:PySem.W.nsIn K mainGlobals "sorted" = some none)
  (q67:PySem.W.nsIn K mainGlobals "str" = some none)
  (q68:PySem.W.nsIn K mainGlobals "sum" = some none)
  (q69:PySem.W.nsIn K mainGlobals "tuple" = some none)
  (q70:PySem.W.nsIn K mainGlobals "zip" = some none)
  (q71:PySem.W.nsIn K mainGlobals "Node" = some (some (.ref C_Node)))
  (q72:PySem.W.plainGet K C_Node Str.empty = true)
  (q73:PySem.W.hasDictIn K C_Node = true)
  (q74:PySem.W.plainOver K C_Node = true)
  (q75:PySem.W.findIn K (.ref C_Node) "__setattr__" = some (some (.builtin "object.__setattr__")))
  (q76:PySem.W.makesIn K C_Node = true)
  (q77:PySem.W.keepIn K (.ref C_Node) = true)
  (q78:PySem.W.nsIn K mainGlobals "Table" = some (some (.ref C_Table)))
  (q79:PySem.W.plainGet K C_Table Str.empty = true)
  (q80:PySem.W.hasDictIn K C_Table = true)
  (q81:PySem.W.plainOver K C_Table = true)
  (q82:PySem.W.findIn K (.ref C_Table) "__setattr__" = some (some (.builtin "object.__setattr__")))
  (q83:PySem.W.makesIn K C_Table = true)
  (q84:PySem.W.keepIn K (.ref C_Table) = true)
  (q85:PySem.W.findIn K (.ref C_Node) "arms" = some none)
  (q86:PySem.W.findIn K (.ref C_Node) "ways" = some none)
  (q87:PySem.W.findIn K (.ref C_Table) "groups" = some none)
  (q88:PySem.W.findIn K (.ref C_Table) "members" = some none)
  (q89:PySem.W.findIn K (.ref C_Table) "node_numbers" = some none)
  (q90:PySem.W.findIn K (.ref C_Table) "nodes" = some none)
  (q91:PySem.W.findIn K (.ref C_Table) "roots" = some none)
  (q92:PySem.W.findIn K (.ref C_Table) "words" = some none)
  (q93:PySem.W.nsIn K mainGlobals "NoNumber" = some (some (.ref C_NoNumber)))
  (q94:PySem.W.excIn K C_NoNumber bmV "ValueError.__new__" = true)
  (q95:PySem.W.nsIn K mainGlobals "_law_text" = some (some (.ref f_z31)))
  (q96:K.lookup f_z31 = some ⟨oc_z31,od_z31,.func (PySem.W.fnOf "_law_text" "_law_text" (defArgs s_z31) (defBody s_z31) (defScope s_z31) .none kV_z31 dc_z31 pm_z31 an_z31 cd_z31 ct_z31),sl_z31⟩)
  (q97:PySem.W.codeIn K cd_z31 "_law_text" = true)
  (q98:PySem.W.keepIn K (.ref f_z31) = true)
  (q99:PySem.W.nsIn K mainGlobals "_law_words" = some (some (.ref f_z22)))
  (q100:K.lookup f_z22 = some ⟨oc_z22,od_z22,.func (PySem.W.fnOf "_law_words" "_law_words" (defArgs s_z22) (defBody s_z22) (defScope s_z22) .none kV_z22 dc_z22 pm_z22 an_z22 cd_z22 ct_z22),sl_z22⟩)
  (q101:PySem.W.codeIn K cd_z22 "_law_words" = true)
  (q102:PySem.W.keepIn K (.ref f_z22) = true)
  (q103:PySem.W.nsIn K mainGlobals "members_of" = some (some (.ref f_z16)))
  (q104:K.lookup f_z16 = some ⟨oc_z16,od_z16,.func (PySem.W.fnOf "members_of" "members_of" (defArgs s_z16) (defBody s_z16) (defScope s_z16) .none kV_z16 dc_z16 pm_z16 an_z16 cd_z16 ct_z16),sl_z16⟩)
  (q105:PySem.W.codeIn K cd_z16 "members_of" = true)
  (q106:PySem.W.keepIn K (.ref f_z16) = true)
  (q107:PySem.W.findIn K (.ref C_Node) "__init__" = some (some (.ref f_z20)))
  (q108:PySem.W.isFn K (.ref f_z20) = true)
  (q109:K.lookup f_z20 = some ⟨oc_z20,od_z20,.func (PySem.W.fnOf "__init__" "Node.__init__" (defArgs s_z20) (defBody s_z20) (defScope s_z20) .none kV_z20 dc_z20 pm_z20 an_z20 cd_z20 ct_z20),sl_z20⟩)
  (q110:PySem.W.codeIn K cd_z20 "Node.__init__" = true)
  (q111:PySem.W.keepIn K (.ref f_z20) = true)
  (q112:PySem.W.findIn K (.ref C_Table) "__init__" = some (some (.ref f_z15)))
  (q113:PySem.W.isFn K (.ref f_z15) = true)
  (q114:K.lookup f_z15 = some ⟨oc_z15,od_z15,.func (PySem.W.fnOf "__init__" "Table.__init__" (defArgs s_z15) (defBody s_z15) (defScope s_z15) .none kV_z15 dc_z15 pm_z15 an_z15 cd_z15 ct_z15),sl_z15⟩)
  (q115:PySem.W.codeIn K cd_z15 "Table.__init__" = true)
  (q116:PySem.W.keepIn K (.ref f_z15) = true)
  (q117:PySem.W.nsIn K mainGlobals "all_places" = some (some (.ref f_z13)))
  (q118:K.lookup f_z13 = some ⟨oc_z13,od_z13,.func (PySem.W.fnOf "all_places" "all_places" (defArgs s_z13) (defBody s_z13) (defScope s_z13) .none kV_z13 dc_z13 pm_z13 an_z13 cd_z13 ct_z13),sl_z13⟩)
  (q119:PySem.W.codeIn K cd_z13 "all_places" = true)
  (q120:PySem.W.keepIn K (.ref f_z13) = true)
  (q121:PySem.W.nsIn K mainGlobals "kind_of" = some (some (.ref f_z33)))
  (q122:K.lookup f_z33 = some ⟨oc_z33,od_z33,.func (PySem.W.fnOf "kind_of" "kind_of" (defArgs s_z33) (defBody s_z33) (defScope s_z33) .none kV_z33 dc_z33 pm_z33 an_z33 cd_z33 ct_z33),sl_z33⟩)
  (q123:PySem.W.codeIn K cd_z33 "kind_of" = true)
  (q124:PySem.W.keepIn K (.ref f_z33) = true)
  (q125:PySem.W.nsIn K mainGlobals "is_of" = some (some (.ref f_z36)))
  (q126:K.lookup f_z36 = some ⟨oc_z36,od_z36,.func (PySem.W.fnOf "is_of" "is_of" (defArgs s_z36) (defBody s_z36) (defScope s_z36) .none kV_z36 dc_z36 pm_z36 an_z36 cd_z36 ct_z36),sl_z36⟩)
  (q127:PySem.W.codeIn K cd_z36 "is_of" = true)
  (q128:PySem.W.keepIn K (.ref f_z36) = true)
  (q129:PySem.W.nsIn K mainGlobals "spot" = some (some (.ref f_z38)))
  (q130:K.lookup f_z38 = some ⟨oc_z38,od_z38,.func (PySem.W.fnOf "spot" "spot" (defArgs s_z38) (defBody s_z38) (defScope s_z38) .none kV_z38 dc_z38 pm_z38 an_z38 cd_z38 ct_z38),sl_z38⟩)
  (q131:PySem.W.codeIn K cd_z38 "spot" = true)
  (q132:PySem.W.keepIn K (.ref f_z38) = true)
  (q133:PySem.W.nsIn K mainGlobals "places_by_spots" = some (some (.ref f_z1)))
  (q134:K.lookup f_z1 = some ⟨oc_z1,od_z1,.func (PySem.W.fnOf "places_by_spots" "places_by_spots" (defArgs s_z1) (defBody s_z1) (defScope s_z1) .none kV_z1 dc_z1 pm_z1 an_z1 cd_z1 ct_z1),sl_z1⟩)
  (q135:PySem.W.codeIn K cd_z1 "places_by_spots" = true)
  (q136:PySem.W.keepIn K (.ref f_z1) = true)
  (q137:PySem.W.nsIn K mainGlobals "stand_within" = some (some (.ref f_z6)))
  (q138:K.lookup f_z6 = some ⟨oc_z6,od_z6,.func (PySem.W.fnOf "stand_within" "stand_within" (defArgs s_z6) (defBody s_z6) (defScope s_z6) .none kV_z6 dc_z6 pm_z6 an_z6 cd_z6 ct_z6),sl_z6⟩)
  (q139:PySem.W.codeIn K cd_z6 "stand_within" = true)
  (q140:PySem.W.keepIn K (.ref f_z6) = true)
  (q141:PySem.W.nsIn K mainGlobals "add_to_group" = some (some (.ref f_z5)))
  (q142:K.lookup f_z5 = some ⟨oc_z5,od_z5,.func (PySem.W.fnOf "add_to_group" "add_to_group" (defArgs s_z5) (defBody s_z5) (defScope s_z5) .none kV_z5 dc_z5 pm_z5 an_z5 cd_z5 ct_z5),sl_z5⟩)
  (q143:PySem.W.codeIn K cd_z5 "add_to_group" = true)
  (q144:PySem.W.keepIn K (.ref f_z5) = true)
  (q145:PySem.W.nsIn K mainGlobals "stretches" = some (some (.ref f_z19)))
  (q146:K.lookup f_z19 = some ⟨oc_z19,od_z19,.func (PySem.W.fnOf "stretches" "stretches" (defArgs s_z19) (defBody s_z19) (defScope s_z19) .none kV_z19 dc_z19 pm_z19 an_z19 cd_z19 ct_z19),sl_z19⟩)
  (q147:PySem.W.codeIn K cd_z19 "stretches" = true)
  (q148:PySem.W.keepIn K (.ref f_z19) = true)
  (q149:PySem.W.nsIn K mainGlobals "pieces_between" = some (some (.ref f_z2)))
  (q150:K.lookup f_z2 = some ⟨oc_z2,od_z2,.func (PySem.W.fnOf "pieces_between" "pieces_between" (defArgs s_z2) (defBody s_z2) (defScope s_z2) .none kV_z2 dc_z2 pm_z2 an_z2 cd_z2 ct_z2),sl_z2⟩)
  (q151:PySem.W.codeIn K cd_z2 "pieces_between" = true)
  (q152:PySem.W.keepIn K (.ref f_z2) = true)
  (q153:PySem.W.nsIn K mainGlobals "done_to" = some (some (.ref f_z30)))
  (q154:K.lookup f_z30 = some ⟨oc_z30,od_z30,.func (PySem.W.fnOf "done_to" "done_to" (defArgs s_z30) (defBody s_z30) (defScope s_z30) .none kV_z30 dc_z30 pm_z30 an_z30 cd_z30 ct_z30),sl_z30⟩)
  (q155:PySem.W.codeIn K cd_z30 "done_to" = true)
  (q156:PySem.W.keepIn K (.ref f_z30) = true)
  (q157:PySem.W.nsIn K mainGlobals "groups_of" = some (some (.ref f_z18)))
  (q158:K.lookup f_z18 = some ⟨oc_z18,od_z18,.func (PySem.W.fnOf "groups_of" "groups_of" (defArgs s_z18) (defBody s_z18) (defScope s_z18) .none kV_z18 dc_z18 pm_z18 an_z18 cd_z18 ct_z18),sl_z18⟩)
  (q159:PySem.W.codeIn K cd_z18 "groups_of" = true)
  (q160:PySem.W.keepIn K (.ref f_z18) = true)
  (q161:PySem.W.nsIn K mainGlobals "answers_to_try" = some (some (.ref f_z3)))
  (q162:K.lookup f_z3 = some ⟨oc_z3,od_z3,.func (PySem.W.fnOf "answers_to_try" "answers_to_try" (defArgs s_z3) (defBody s_z3) (defScope s_z3) .none kV_z3 dc_z3 pm_z3 an_z3 cd_z3 ct_z3),sl_z3⟩)
  (q163:PySem.W.codeIn K cd_z3 "answers_to_try" = true)
  (q164:PySem.W.keepIn K (.ref f_z3) = true)
  (q165:PySem.W.nsIn K mainGlobals "rest_behind" = some (some (.ref f_z10)))
  (q166:K.lookup f_z10 = some ⟨oc_z10,od_z10,.func (PySem.W.fnOf "rest_behind" "rest_behind" (defArgs s_z10) (defBody s_z10) (defScope s_z10) .none kV_z10 dc_z10 pm_z10 an_z10 cd_z10 ct_z10),sl_z10⟩)
  (q167:PySem.W.codeIn K cd_z10 "rest_behind" = true)
  (q168:PySem.W.keepIn K (.ref f_z10) = true)
  (q169:PySem.W.nsIn K mainGlobals "new_node" = some (some (.ref f_z27)))
  (q170:K.lookup f_z27 = some ⟨oc_z27,od_z27,.func (PySem.W.fnOf "new_node" "new_node" (defArgs s_z27) (defBody s_z27) (defScope s_z27) .none kV_z27 dc_z27 pm_z27 an_z27 cd_z27 ct_z27),sl_z27⟩)
  (q171:PySem.W.codeIn K cd_z27 "new_node" = true)
  (q172:PySem.W.keepIn K (.ref f_z27) = true)
  (q173:PySem.W.nsIn K mainGlobals "node_number" = some (some (.ref f_z9)))
  (q174:K.lookup f_z9 = some ⟨oc_z9,od_z9,.func (PySem.W.fnOf "node_number" "node_number" (defArgs s_z9) (defBody s_z9) (defScope s_z9) .none kV_z9 dc_z9 pm_z9 an_z9 cd_z9 ct_z9),sl_z9⟩)
  (q175:PySem.W.codeIn K cd_z9 "node_number" = true)
  (q176:PySem.W.keepIn K (.ref f_z9) = true)
  (q177:PySem.W.nsIn K mainGlobals "table_of" = some (some (.ref f_z26)))
  (q178:K.lookup f_z26 = some ⟨oc_z26,od_z26,.func (PySem.W.fnOf "table_of" "table_of" (defArgs s_z26) (defBody s_z26) (defScope s_z26) .none kV_z26 dc_z26 pm_z26 an_z26 cd_z26 ct_z26),sl_z26⟩)
  (q179:PySem.W.codeIn K cd_z26 "table_of" = true)
  (q180:PySem.W.keepIn K (.ref f_z26) = true)
  (q181:PySem.W.nsIn K mainGlobals "many" = some (some (.ref f_z37)))
  (q182:K.lookup f_z37 = some ⟨oc_z37,od_z37,.func (PySem.W.fnOf "many" "many" (defArgs s_z37) (defBody s_z37) (defScope s_z37) .none kV_z37 dc_z37 pm_z37 an_z37 cd_z37 ct_z37),sl_z37⟩)
  (q183:PySem.W.codeIn K cd_z37 "many" = true)
  (q184:PySem.W.keepIn K (.ref f_z37) = true)
  (q185:PySem.W.nsIn K mainGlobals "is_tuple_of" = some (some (.ref f_z8)))
  (q186:K.lookup f_z8 = some ⟨oc_z8,od_z8,.func (PySem.W.fnOf "is_tuple_of" "is_tuple_of" (defArgs s_z8) (defBody s_z8) (defScope s_z8) .none kV_z8 dc_z8 pm_z8 an_z8 cd_z8 ct_z8),sl_z8⟩)
  (q187:PySem.W.codeIn K cd_z8 "is_tuple_of" = true)
  (q188:PySem.W.keepIn K (.ref f_z8) = true)
  (q189:PySem.W.nsIn K mainGlobals "is_word_among" = some (some (.ref f_z4)))
  (q190:K.lookup f_z4 = some ⟨oc_z4,od_z4,.func (PySem.W.fnOf "is_word_among" "is_word_among" (defArgs s_z4) (defBody s_z4) (defScope s_z4) .none kV_z4 dc_z4 pm_z4 an_z4 cd_z4 ct_z4),sl_z4⟩)
  (q191:PySem.W.codeIn K cd_z4 "is_word_among" = true)
  (q192:PySem.W.keepIn K (.ref f_z4) = true)
  (q193:PySem.W.nsIn K mainGlobals "is_nth" = some (some (.ref f_z35)))
  (q194:K.lookup f_z35 = some ⟨oc_z35,od_z35,.func (PySem.W.fnOf "is_nth" "is_nth" (defArgs s_z35) (defBody s_z35) (defScope s_z35) .none kV_z35 dc_z35 pm_z35 an_z35 cd_z35 ct_z35),sl_z35⟩)
  (q195:PySem.W.codeIn K cd_z35 "is_nth" = true)
  (q196:PySem.W.keepIn K (.ref f_z35) = true)
  (q197:PySem.W.nsIn K mainGlobals "is_place" = some (some (.ref f_z25)))
  (q198:K.lookup f_z25 = some ⟨oc_z25,od_z25,.func (PySem.W.fnOf "is_place" "is_place" (defArgs s_z25) (defBody s_z25) (defScope s_z25) .none kV_z25 dc_z25 pm_z25 an_z25 cd_z25 ct_z25),sl_z25⟩)
  (q199:PySem.W.codeIn K cd_z25 "is_place" = true)
  (q200:PySem.W.keepIn K (.ref f_z25) = true)
  (q201:PySem.W.nsIn K mainGlobals "is_stretch" = some (some (.ref f_z17)))
  (q202:K.lookup f_z17 = some ⟨oc_z17,od_z17,.func (PySem.W.fnOf "is_stretch" "is_stretch" (defArgs s_z17) (defBody s_z17) (defScope s_z17) .none kV_z17 dc_z17 pm_z17 an_z17 cd_z17 ct_z17),sl_z17⟩)
  (q203:PySem.W.codeIn K cd_z17 "is_stretch" = true)
  (q204:PySem.W.keepIn K (.ref f_z17) = true)
  (q205:PySem.W.nsIn K mainGlobals "may_be_used" = some (some (.ref f_z11)))
  (q206:K.lookup f_z11 = some ⟨oc_z11,od_z11,.func (PySem.W.fnOf "may_be_used" "may_be_used" (defArgs s_z11) (defBody s_z11) (defScope s_z11) .none kV_z11 dc_z11 pm_z11 an_z11 cd_z11 ct_z11),sl_z11⟩)
  (q207:PySem.W.codeIn K cd_z11 "may_be_used" = true)
  (q208:PySem.W.keepIn K (.ref f_z11) = true)
  (q209:PySem.W.nsIn K mainGlobals "is_row_of_its_pieces" = some (some (.ref f_z0)))
  (q210:K.lookup f_z0 = some ⟨oc_z0,od_z0,.func (PySem.W.fnOf "is_row_of_its_pieces" "is_row_of_its_pieces" (defArgs s_z0) (defBody s_z0) (defScope s_z0) .none kV_z0 dc_z0 pm_z0 an_z0 cd_z0 ct_z0),sl_z0⟩)
  (q211:PySem.W.codeIn K cd_z0 "is_row_of_its_pieces" = true)
  (q212:PySem.W.keepIn K (.ref f_z0) = true)
  (q213:PySem.W.nsIn K mainGlobals "row_number" = some (some (.ref f_z14)))
  (q214:K.lookup f_z14 = some ⟨oc_z14,od_z14,.func (PySem.W.fnOf "row_number" "row_number" (defArgs s_z14) (defBody s_z14) (defScope s_z14) .none kV_z14 dc_z14 pm_z14 an_z14 cd_z14 ct_z14),sl_z14⟩)
  (q215:PySem.W.codeIn K cd_z14 "row_number" = true)
  (q216:PySem.W.keepIn K (.ref f_z14) = true)
  (q217:PySem.W.nsIn K mainGlobals "_law_cell" = some (some (.ref f_z32)))
  (q218:K.lookup f_z32 = some ⟨oc_z32,od_z32,.func (PySem.W.fnOf "_law_cell" "_law_cell" (defArgs s_z32) (defBody s_z32) (defScope s_z32) .none kV_z32 dc_z32 pm_z32 an_z32 cd_z32 ct_z32),sl_z32⟩)
  (q219:PySem.W.codeIn K cd_z32 "_law_cell" = true)
  (q220:PySem.W.keepIn K (.ref f_z32) = true)
  (q221:PySem.W.nsIn K mainGlobals "arm_answers" = some (some (.ref f_z12)))
  (q222:K.lookup f_z12 = some ⟨oc_z12,od_z12,.func (PySem.W.fnOf "arm_answers" "arm_answers" (defArgs s_z12) (defBody s_z12) (defScope s_z12) .none kV_z12 dc_z12 pm_z12 an_z12 cd_z12 ct_z12),sl_z12⟩)
  (q223:PySem.W.codeIn K cd_z12 "arm_answers" = true)
  (q224:PySem.W.keepIn K (.ref f_z12) = true)
  (q225:PySem.W.nsIn K mainGlobals "row_from" = some (some (.ref f_z29)))
  (q226:K.lookup f_z29 = some ⟨oc_z29,od_z29,.func (PySem.W.fnOf "row_from" "row_from" (defArgs s_z29) (defBody s_z29) (defScope s_z29) .none kV_z29 dc_z29 pm_z29 an_z29 cd_z29 ct_z29),sl_z29⟩)
  (q227:PySem.W.codeIn K cd_z29 "row_from" = true)
  (q228:PySem.W.keepIn K (.ref f_z29) = true)
  (q229:PySem.W.nsIn K mainGlobals "row_at" = some (some (.ref f_z34)))
  (q230:K.lookup f_z34 = some ⟨oc_z34,od_z34,.func (PySem.W.fnOf "row_at" "row_at" (defArgs s_z34) (defBody s_z34) (defScope s_z34) .none kV_z34 dc_z34 pm_z34 an_z34 cd_z34 ct_z34),sl_z34⟩)
  (q231:PySem.W.codeIn K cd_z34 "row_at" = true)
  (q232:PySem.W.keepIn K (.ref f_z34) = true)
  (q233:PySem.W.nsIn K mainGlobals "_law_whole" = some (some (.ref f_z23)))
  (q234:K.lookup f_z23 = some ⟨oc_z23,od_z23,.func (PySem.W.fnOf "_law_whole" "_law_whole" (defArgs s_z23) (defBody s_z23) (defScope s_z23) .none kV_z23 dc_z23 pm_z23 an_z23 cd_z23 ct_z23),sl_z23⟩)
  (q235:PySem.W.codeIn K cd_z23 "_law_whole" = true)
  (q236:PySem.W.keepIn K (.ref f_z23) = true)
  (q237:PySem.W.nsIn K mainGlobals "_law_place" = some (some (.ref f_z28)))
  (q238:K.lookup f_z28 = some ⟨oc_z28,od_z28,.func (PySem.W.fnOf "_law_place" "_law_place" (defArgs s_z28) (defBody s_z28) (defScope s_z28) .none kV_z28 dc_z28 pm_z28 an_z28 cd_z28 ct_z28),sl_z28⟩)
  (q239:PySem.W.codeIn K cd_z28 "_law_place" = true)
  (q240:PySem.W.keepIn K (.ref f_z28) = true)
  (q241:PySem.W.nsIn K mainGlobals "_law_piece" = some (some (.ref f_z24)))
  (q242:K.lookup f_z24 = some ⟨oc_z24,od_z24,.func (PySem.W.fnOf "_law_piece" "_law_piece" (defArgs s_z24) (defBody s_z24) (defScope s_z24) .none kV_z24 dc_z24 pm_z24 an_z24 cd_z24 ct_z24),sl_z24⟩)
  (q243:PySem.W.codeIn K cd_z24 "_law_piece" = true)
  (q244:PySem.W.keepIn K (.ref f_z24) = true)
  (q245:PySem.W.nsIn K mainGlobals "_law_is_place" = some (some (.ref f_z7)))
  (q246:K.lookup f_z7 = some ⟨oc_z7,od_z7,.func (PySem.W.fnOf "_law_is_place" "_law_is_place" (defArgs s_z7) (defBody s_z7) (defScope s_z7) .none kV_z7 dc_z7 pm_z7 an_z7 cd_z7 ct_z7),sl_z7⟩)
  (q247:PySem.W.codeIn K cd_z7 "_law_is_place" = true)
  (q248:PySem.W.keepIn K (.ref f_z7) = true)
  (q249:PySem.W.nsIn K mainGlobals "_law_is_row" = some (some (.ref f_z21)))
  (q250:K.lookup f_z21 = some ⟨oc_z21,od_z21,.func (PySem.W.fnOf "_law_is_row" "_law_is_row" (defArgs s_z21) (defBody s_z21) (defScope s_z21) .none kV_z21 dc_z21 pm_z21 an_z21 cd_z21 ct_z21),sl_z21⟩)
  (q251:PySem.W.codeIn K cd_z21 "_law_is_row" = true)
  (q252:PySem.W.keepIn K (.ref f_z21) = true)
  (q253:PySem.W.nsIn K mainGlobals "law" = some (some (.ref f_z39)))
  (q254:K.lookup f_z39 = some ⟨oc_z39,od_z39,.func (PySem.W.fnOf "law" "law" (defArgs s_z39) (defBody s_z39) (defScope s_z39) .none kV_z39 dc_z39 pm_z39 an_z39 cd_z39 ct_z39),sl_z39⟩)
  (q255:PySem.W.codeIn K cd_z39 "law" = true)
  (q256:PySem.W.keepIn K (.ref f_z39) = true) :
  ∃ fd:FuncData,(∀ (s:Shared) (v:Value),BindsTo s fd ⟨[v],[]⟩ [("_law_script",v)]) ∧ ∀ base:Heap,K.In base → base.Ns mainGlobals mg → FnOk l.prog w K mg base CX0 14 fa fd ["_law_script"] (spF K G_z39):=by
 have C_DEEDS:GCon K mg "DEEDS" c_DEEDS:=gcon_of (PySem.W.mg_of X G q6) (tupk_tup q5 (by show 3 ≤ sizeLine; decide) (.cons (tupk_str (by decide)) (.cons (tupk_str (by decide)) (.cons (tupk_str (by decide)) .nil))))
 have C_EDGES:GCon K mg "EDGES" c_EDGES:=gcon_of (PySem.W.mg_of X G q11) (tupk_tup q10 (by show 2 ≤ sizeLine; decide) (.cons (tupk_str (by decide)) (.cons (tupk_str (by decide)) .nil)))
 have C_END:GCon K mg "END" c_END:=gcon_of (PySem.W.mg_of X G q13) tupk_int
 have C_KINDS:GCon K mg "KINDS" c_KINDS:=gcon_of (PySem.W.mg_of X G q21) (tupk_tup q20 (by show 5 ≤ sizeLine; decide) (.cons (tupk_str (by decide)) (.cons (tupk_str (by decide)) (.cons (tupk_str (by decide)) (.cons (tupk_str (by decide)) (.cons (tupk_str (by decide)) .nil))))))
 have C_NOWHERE:GCon K mg "NOWHERE" c_NOWHERE:=gcon_of (PySem.W.mg_of X G q23) tupk_int
 have C_NTHS:GCon K mg "NTHS" c_NTHS:=gcon_of (PySem.W.mg_of X G q30) (tupk_tup q29 (by show 4 ≤ sizeLine; decide) (.cons tupk_int (.cons tupk_int (.cons tupk_int (.cons tupk_int .nil)))))
 have C_ROW_LENGTHS:GCon K mg "ROW_LENGTHS" c_ROW_LENGTHS:=gcon_of (PySem.W.mg_of X G q36) (tupk_tup q35 (by show 3 ≤ sizeLine; decide) (.cons tupk_int (.cons tupk_int (.cons tupk_int .nil))))
 have C_SIGNS_BY_KIND:GCon K mg "SIGNS_BY_KIND" c_SIGNS_BY_KIND:=gcon_of (PySem.W.mg_of X G q55) (tupk_tup q54 (by show 4 ≤ sizeLine; decide) (.cons (tupk_tup q41 (by show 2 ≤ sizeLine; decide) (.cons (tupk_str (by decide)) (.cons (tupk_str (by decide)) .nil))) (.cons (tupk_tup q45 (by show 2 ≤ sizeLine; decide) (.cons (tupk_str (by decide)) (.cons (tupk_str (by decide)) .nil))) (.cons (tupk_tup q49 (by show 2 ≤ sizeLine; decide) (.cons (tupk_str (by decide)) (.cons (tupk_str (by decide)) .nil))) (.cons (tupk_tup q53 (by show 2 ≤ sizeLine; decide) (.cons (tupk_str (by decide)) (.cons (tupk_str (by decide)) .nil))) .nil)))))
 have hb:BlOk mg NBl:=by
  intro x hx
  simp only [NBl,List.mem_cons,List.not_mem_nil,or_false] at hx
  rcases hx with rfl | rfl | rfl | rfl | rfl | rfl | rfl | rfl | rfl | rfl | rfl | rfl | rfl | rfl | rfl
  ·exact PySem.W.mg_none_of X G q56
  ·exact PySem.W.mg_none_of X G q57
  ·exact PySem.W.mg_none_of X G q58
  ·exact PySem.W.mg_none_of X G q59
  ·exact PySem.W.mg_none_of X G q60
  ·exact PySem.W.mg_none_of X G q61
  ·exact PySem.W.mg_none_of X G q62
  ·exact PySem.W.mg_none_of X G q63
  ·exact PySem.W.mg_none_of X G q64
  ·exact PySem.W.mg_none_of X G q65
  ·exact PySem.W.mg_none_of X G q66
  ·exact PySem.W.mg_none_of X G q67
  ·exact PySem.W.mg_none_of X G q68
  ·exact PySem.W.mg_none_of X G q69
  ·exact PySem.W.mg_none_of X G q70
 have ca_Node:ClsAt K "Node" C_Node:=q71
 have cl_Node:Cls K C_Node:=⟨q72,q73,q74,q75⟩
 have ca_Table:ClsAt K "Table" C_Table:=q78
 have cl_Table:Cls K C_Table:=⟨q79,q80,q81,q82⟩
 have O_Node_arms:FldOk K "Node" "arms":=fldok_of ca_Node cl_Node q85
 have O_Node_ways:FldOk K "Node" "ways":=fldok_of ca_Node cl_Node q86
 have O_Table_groups:FldOk K "Table" "groups":=fldok_of ca_Table cl_Table q87
 have O_Table_members:FldOk K "Table" "members":=fldok_of ca_Table cl_Table q88
 have O_Table_node_numbers:FldOk K "Table" "node_numbers":=fldok_of ca_Table cl_Table q89
 have O_Table_nodes:FldOk K "Table" "nodes":=fldok_of ca_Table cl_Table q90
 have O_Table_roots:FldOk K "Table" "roots":=fldok_of ca_Table cl_Table q91
 have O_Table_words:FldOk K "Table" "words":=fldok_of ca_Table cl_Table q92
 have X_NoNumber:ExcK K "NoNumber" C_NoNumber:=⟨q93,q94⟩
 have Fu_z31:=fun_mk (st:=s_z31) q96 q97 q98
 have bi_z31:=Fu_z31.binds (ps:=["_law_cell_here","_law_most"]) fun _ _ _ _ _ _ us hl => by obtain ⟨_,_,rfl⟩:=len2 hl; rfl
 have Fu_z22:=fun_mk (st:=s_z22) q100 q101 q102
 have bi_z22:=Fu_z22.binds (ps:=["_law_cell_here"]) fun _ _ _ _ _ _ us hl => by obtain ⟨_,rfl⟩:=len1 hl; rfl
 have Fu_z16:=fun_mk (st:=s_z16) q104 q105 q106
 have bi_z16:=Fu_z16.binds (ps:=["groups"]) fun _ _ _ _ _ _ us hl => by obtain ⟨_,rfl⟩:=len1 hl; rfl
 have Fu_z20:=fun_mk (st:=s_z20) q109 q110 q111
 have bi_z20:=Fu_z20.binds (ps:=["self","ways"]) fun _ _ _ _ _ _ us hl => by obtain ⟨_,_,rfl⟩:=len2 hl; rfl
 have Fu_z15:=fun_mk (st:=s_z15) q114 q115 q116
 have bi_z15:=Fu_z15.binds (ps:=["self","words","groups"]) fun _ _ _ _ _ _ us hl => by obtain ⟨_,_,_,rfl⟩:=len3 hl; rfl
 have Fu_z13:=fun_mk (st:=s_z13) q118 q119 q120
 have bi_z13:=Fu_z13.binds (ps:=[]) fun _ _ _ _ _ _ us hl => by obtain rfl:=len0 hl; rfl
 have Fu_z33:=fun_mk (st:=s_z33) q122 q123 q124
 have bi_z33:=Fu_z33.binds (ps:=["sign"]) fun _ _ _ _ _ _ us hl => by obtain ⟨_,rfl⟩:=len1 hl; rfl
 have Fu_z36:=fun_mk (st:=s_z36) q126 q127 q128
 have bi_z36:=Fu_z36.binds (ps:=["kind","sign"]) fun _ _ _ _ _ _ us hl => by obtain ⟨_,_,rfl⟩:=len2 hl; rfl
 have Fu_z38:=fun_mk (st:=s_z38) q130 q131 q132
 have bi_z38:=Fu_z38.binds (ps:=["place","text"]) fun _ _ _ _ _ _ us hl => by obtain ⟨_,_,rfl⟩:=len2 hl; rfl
 have Fu_z1:=fun_mk (st:=s_z1) q134 q135 q136
 have bi_z1:=Fu_z1.binds (ps:=["texts"]) fun _ _ _ _ _ _ us hl => by obtain ⟨_,rfl⟩:=len1 hl; rfl
 have Fu_z6:=fun_mk (st:=s_z6) q138 q139 q140
 have bi_z6:=Fu_z6.binds (ps:=["answers","wanted"]) fun _ _ _ _ _ _ us hl => by obtain ⟨_,_,rfl⟩:=len2 hl; rfl
 have Fu_z5:=fun_mk (st:=s_z5) q142 q143 q144
 have bi_z5:=Fu_z5.binds (ps:=["groups","wanted","answers","pieces"]) fun _ _ _ _ _ _ us hl => by obtain ⟨_,_,_,_,rfl⟩:=len4 hl; rfl
 have Fu_z19:=fun_mk (st:=s_z19) q146 q147 q148
 have bi_z19:=Fu_z19.binds (ps:=["texts","starts","ends"]) fun _ _ _ _ _ _ us hl => by obtain ⟨_,_,_,rfl⟩:=len3 hl; rfl
 have Fu_z2:=fun_mk (st:=s_z2) q150 q151 q152
 have bi_z2:=Fu_z2.binds (ps:=["deed","starts","ends"]) fun _ _ _ _ _ _ us hl => by obtain ⟨_,_,_,rfl⟩:=len3 hl; rfl
 have Fu_z30:=fun_mk (st:=s_z30) q154 q155 q156
 have bi_z30:=Fu_z30.binds (ps:=["deed","signs"]) fun _ _ _ _ _ _ us hl => by obtain ⟨_,_,rfl⟩:=len2 hl; rfl
 have Fu_z18:=fun_mk (st:=s_z18) q158 q159 q160
 have bi_z18:=Fu_z18.binds (ps:=["words","texts","wanted"]) fun _ _ _ _ _ _ us hl => by obtain ⟨_,_,_,rfl⟩:=len3 hl; rfl
 have Fu_z3:=fun_mk (st:=s_z3) q162 q163 q164
 have bi_z3:=Fu_z3.binds (ps:=["table","length","rest"]) fun _ _ _ _ _ _ us hl => by obtain ⟨_,_,_,rfl⟩:=len3 hl; rfl
 have Fu_z10:=fun_mk (st:=s_z10) q166 q167 q168
 have bi_z10:=Fu_z10.binds (ps:=["rest","answers"]) fun _ _ _ _ _ _ us hl => by obtain ⟨_,_,rfl⟩:=len2 hl; rfl
 have Fu_z27:=fun_mk (st:=s_z27) q170 q171 q172
 have bi_z27:=Fu_z27.binds (ps:=["table","length","rest"]) fun _ _ _ _ _ _ us hl => by obtain ⟨_,_,_,rfl⟩:=len3 hl; rfl
 have Fu_z9:=fun_mk (st:=s_z9) q174 q175 q176
 have bi_z9:=Fu_z9.binds (ps:=["table","length","rest"]) fun _ _ _ _ _ _ us hl => by obtain ⟨_,_,_,rfl⟩:=len3 hl; rfl
 have Fu_z26:=fun_mk (st:=s_z26) q178 q179 q180
 have bi_z26:=Fu_z26.binds (ps:=["words","examples"]) fun _ _ _ _ _ _ us hl => by obtain ⟨_,_,rfl⟩:=len2 hl; rfl
 have Fu_z37:=fun_mk (st:=s_z37) q182 q183 q184
 have bi_z37:=Fu_z37.binds (ps:=["table"]) fun _ _ _ _ _ _ us hl => by obtain ⟨_,rfl⟩:=len1 hl; rfl
 have Fu_z8:=fun_mk (st:=s_z8) q186 q187 q188
 have bi_z8:=Fu_z8.binds (ps:=["length","thing"]) fun _ _ _ _ _ _ us hl => by obtain ⟨_,_,rfl⟩:=len2 hl; rfl
 have Fu_z4:=fun_mk (st:=s_z4) q190 q191 q192
 have bi_z4:=Fu_z4.binds (ps:=["thing","words"]) fun _ _ _ _ _ _ us hl => by obtain ⟨_,_,rfl⟩:=len2 hl; rfl
 have Fu_z35:=fun_mk (st:=s_z35) q194 q195 q196
 have bi_z35:=Fu_z35.binds (ps:=["thing"]) fun _ _ _ _ _ _ us hl => by obtain ⟨_,rfl⟩:=len1 hl; rfl
 have Fu_z25:=fun_mk (st:=s_z25) q198 q199 q200
 have bi_z25:=Fu_z25.binds (ps:=["thing"]) fun _ _ _ _ _ _ us hl => by obtain ⟨_,rfl⟩:=len1 hl; rfl
 have Fu_z17:=fun_mk (st:=s_z17) q202 q203 q204
 have bi_z17:=Fu_z17.binds (ps:=["thing"]) fun _ _ _ _ _ _ us hl => by obtain ⟨_,rfl⟩:=len1 hl; rfl
 have Fu_z11:=fun_mk (st:=s_z11) q206 q207 q208
 have bi_z11:=Fu_z11.binds (ps:=["table","piece"]) fun _ _ _ _ _ _ us hl => by obtain ⟨_,_,rfl⟩:=len2 hl; rfl
 have Fu_z0:=fun_mk (st:=s_z0) q210 q211 q212
 have bi_z0:=Fu_z0.binds (ps:=["table","row"]) fun _ _ _ _ _ _ us hl => by obtain ⟨_,_,rfl⟩:=len2 hl; rfl
 have Fu_z14:=fun_mk (st:=s_z14) q214 q215 q216
 have bi_z14:=Fu_z14.binds (ps:=["table","row"]) fun _ _ _ _ _ _ us hl => by obtain ⟨_,_,rfl⟩:=len2 hl; rfl
 have Fu_z32:=fun_mk (st:=s_z32) q218 q219 q220
 have bi_z32:=Fu_z32.binds (ps:=["_law_script","_law_k"]) fun _ _ _ _ _ _ us hl => by obtain ⟨_,_,rfl⟩:=len2 hl; rfl
 have Fu_z12:=fun_mk (st:=s_z12) q222 q223 q224
 have bi_z12:=Fu_z12.binds (ps:=["node","number"]) fun _ _ _ _ _ _ us hl => by obtain ⟨_,_,rfl⟩:=len2 hl; rfl
 have Fu_z29:=fun_mk (st:=s_z29) q226 q227 q228
 have bi_z29:=Fu_z29.binds (ps:=["table","root","number"]) fun _ _ _ _ _ _ us hl => by obtain ⟨_,_,_,rfl⟩:=len3 hl; rfl
 have Fu_z34:=fun_mk (st:=s_z34) q230 q231 q232
 have bi_z34:=Fu_z34.binds (ps:=["table","number"]) fun _ _ _ _ _ _ us hl => by obtain ⟨_,_,rfl⟩:=len2 hl; rfl
 have Fu_z23:=fun_mk (st:=s_z23) q234 q235 q236
 have bi_z23:=Fu_z23.binds (ps:=["_law_found"]) fun _ _ _ _ _ _ us hl => by obtain ⟨_,rfl⟩:=len1 hl; rfl
 have Fu_z28:=fun_mk (st:=s_z28) q238 q239 q240
 have bi_z28:=Fu_z28.binds (ps:=["_law_cell_here"]) fun _ _ _ _ _ _ us hl => by obtain ⟨_,rfl⟩:=len1 hl; rfl
 have Fu_z24:=fun_mk (st:=s_z24) q242 q243 q244
 have bi_z24:=Fu_z24.binds (ps:=["_law_cell_here","_law_words_here"]) fun _ _ _ _ _ _ us hl => by obtain ⟨_,_,rfl⟩:=len2 hl; rfl
 have Fu_z7:=fun_mk (st:=s_z7) q246 q247 q248
 have bi_z7:=Fu_z7.binds (ps:=["_law_thing"]) fun _ _ _ _ _ _ us hl => by obtain ⟨_,rfl⟩:=len1 hl; rfl
 have Fu_z21:=fun_mk (st:=s_z21) q250 q251 q252
 have bi_z21:=Fu_z21.binds (ps:=["_law_thing","_law_words_here"]) fun _ _ _ _ _ _ us hl => by obtain ⟨_,_,rfl⟩:=len2 hl; rfl
 have Fu_z39:=fun_mk (st:=s_z39) q254 q255 q256
 have e0:=hfa.symm.trans (PySem.W.mg_of X G q253)
 cases e0
 refine ⟨PySem.W.fnOf "law" "law" (defArgs s_z39) (defBody s_z39) (defScope s_z39) .none kV_z39 dc_z39 pm_z39 an_z39 cd_z39 ct_z39,fun s v => .of_eq rfl,fun base _ _ => ?_⟩
 have F_z31:FnD l.prog w K mg base 1 "_law_text" G_z31:=fnd_of Fu_z31 sc_z31 (fun cdv A outer s H E hr => d_z31 hr hb) bi_z31 (PySem.W.mg_of X G q95) q98
 have F_z22:FnD l.prog w K mg base 2 "_law_words" G_z22:=fnd_of Fu_z22 sc_z22 (fun cdv A outer s H E hr => d_z22 hr hb (F_z31.mono (by decide:1 ≤ 1))) bi_z22 (PySem.W.mg_of X G q99) q102
 have F_z16:FnD l.prog w K mg base 1 "members_of" G_z16:=fnd_of Fu_z16 sc_z16 (fun cdv A outer s H E hr => d_z16 hr hb) bi_z16 (PySem.W.mg_of X G q103) q106
 have F_z20:FnK l.prog w K mg base 2 "Node" G_z20:=fnk_of Fu_z20 sc_z20 (fun cdv A outer s H E hr => d_z20 hr hb O_Node_arms O_Node_ways) bi_z20 (PySem.W.mg_of X G q71) ca_Node ⟨q76,q107,q108,q77⟩
 have F_z15:FnK l.prog w K mg base 4 "Table" G_z15:=fnk_of Fu_z15 sc_z15 (fun cdv A outer s H E hr => d_z15 hr hb O_Table_groups O_Table_members O_Table_node_numbers O_Table_nodes O_Table_roots O_Table_words (F_z16.mono (by decide:1 ≤ 2)) (F_z20.mono (by decide:2 ≤ 2))) bi_z15 (PySem.W.mg_of X G q78) ca_Table ⟨q83,q112,q113,q84⟩
 have F_z13:FnD l.prog w K mg base 1 "all_places" G_z13:=fnd_of Fu_z13 sc_z13 (fun cdv A outer s H E hr => d_z13 hr hb C_EDGES C_KINDS C_NTHS) bi_z13 (PySem.W.mg_of X G q117) q120
 have F_z33:FnD l.prog w K mg base 1 "kind_of" G_z33:=fnd_of Fu_z33 sc_z33 (fun cdv A outer s H E hr => d_z33 hr hb C_SIGNS_BY_KIND) bi_z33 (PySem.W.mg_of X G q121) q124
 have F_z36:FnD l.prog w K mg base 2 "is_of" G_z36:=fnd_of Fu_z36 sc_z36 (fun cdv A outer s H E hr => d_z36 hr hb (F_z33.mono (by decide:1 ≤ 1))) bi_z36 (PySem.W.mg_of X G q125) q128
 have F_z38:FnD l.prog w K mg base 3 "spot" G_z38:=fnd_of Fu_z38 sc_z38 (fun cdv A outer s H E hr => d_z38 hr hb (F_z36.mono (by decide:2 ≤ 2))) bi_z38 (PySem.W.mg_of X G q129) q132
 have F_z1:FnD l.prog w K mg base 4 "places_by_spots" G_z1:=fnd_of Fu_z1 sc_z1 (fun cdv A outer s H E hr => d_z1 hr hb (F_z13.mono (by decide:1 ≤ 3)) (F_z38.mono (by decide:3 ≤ 3))) bi_z1 (PySem.W.mg_of X G q133) q136
 have F_z6:FnD l.prog w K mg base 1 "stand_within" G_z6:=fnd_of Fu_z6 sc_z6 (fun cdv A outer s H E hr => d_z6 hr hb) bi_z6 (PySem.W.mg_of X G q137) q140
 have F_z5:FnD l.prog w K mg base 2 "add_to_group" G_z5:=fnd_of Fu_z5 sc_z5 (fun cdv A outer s H E hr => d_z5 hr hb (F_z6.mono (by decide:1 ≤ 1))) bi_z5 (PySem.W.mg_of X G q141) q144
 have F_z19:FnD l.prog w K mg base 1 "stretches" G_z19:=fnd_of Fu_z19 sc_z19 (fun cdv A outer s H E hr => d_z19 hr hb) bi_z19 (PySem.W.mg_of X G q145) q148
 have F_z2:FnD l.prog w K mg base 1 "pieces_between" G_z2:=fnd_of Fu_z2 sc_z2 (fun cdv A outer s H E hr => d_z2 hr hb) bi_z2 (PySem.W.mg_of X G q149) q152
 have F_z30:FnD l.prog w K mg base 1 "done_to" G_z30:=fnd_of Fu_z30 sc_z30 (fun cdv A outer s H E hr => d_z30 hr hb) bi_z30 (PySem.W.mg_of X G q153) q156
 have F_z18:FnD l.prog w K mg base 5 "groups_of" G_z18:=fnd_of Fu_z18 sc_z18 (fun cdv A outer s H E hr => d_z18 hr hb C_DEEDS (F_z1.mono (by decide:4 ≤ 4)) (F_z5.mono (by decide:2 ≤ 4)) (F_z19.mono (by decide:1 ≤ 4)) (F_z2.mono (by decide:1 ≤ 4)) (F_z30.mono (by decide:1 ≤ 4))) bi_z18 (PySem.W.mg_of X G q157) q160
 have F_z3:FnD l.prog w K mg base 1 "answers_to_try" G_z3:=fnd_of Fu_z3 sc_z3 (fun cdv A outer s H E hr => d_z3 hr hb O_Table_groups) bi_z3 (PySem.W.mg_of X G q161) q164
 have F_z10:FnD l.prog w K mg base 1 "rest_behind" G_z10:=fnd_of Fu_z10 sc_z10 (fun cdv A outer s H E hr => d_z10 hr hb) bi_z10 (PySem.W.mg_of X G q165) q168
 have FN_z9:∀ n,FnD l.prog w K mg base (2 + 2 * n) "node_number" (GN_z9 n):=fun n => by
  induction n with
  | zero => exact fnd_none bi_z9 (PySem.W.mg_of X G q173) q176
  | succ n ih =>
   have FI:FnD l.prog w K mg base (2 + 2 * n + 1) "new_node" (GI_z27 (GN_z9 n)):=fnd_of Fu_z27 sc_z27 (fun cdv A outer s H E hr => d_z27 hr hb C_NOWHERE O_Node_arms O_Node_ways O_Table_groups O_Table_nodes (F_z20.mono (by omega:2 ≤ 2 + 2 * n)) (F_z3.mono (by omega:1 ≤ 2 + 2 * n)) (F_z10.mono (by omega:1 ≤ 2 + 2 * n)) ih) bi_z27 (PySem.W.mg_of X G q169) q172
   exact fnd_of Fu_z9 sc_z9 (fun cdv A outer s H E hr => d_z9 hr hb C_END O_Table_node_numbers FI) bi_z9 (PySem.W.mg_of X G q173) q176
 have F_z9:FnD l.prog w K mg base 12 "node_number" G_z9:=FN_z9 5
 have F_z26:FnD l.prog w K mg base 13 "table_of" G_z26:=fnd_of Fu_z26 sc_z26 (fun cdv A outer s H E hr => d_z26 hr hb C_ROW_LENGTHS O_Table_roots (F_z15.mono (by decide:4 ≤ 12)) (F_z18.mono (by decide:5 ≤ 12)) (F_z9.mono (by decide:12 ≤ 12))) bi_z26 (PySem.W.mg_of X G q177) q180
 have F_z37:FnD l.prog w K mg base 1 "many" G_z37:=fnd_of Fu_z37 sc_z37 (fun cdv A outer s H E hr => d_z37 hr hb O_Node_ways O_Table_nodes O_Table_roots) bi_z37 (PySem.W.mg_of X G q181) q184
 have F_z8:FnD l.prog w K mg base 1 "is_tuple_of" G_z8:=fnd_of Fu_z8 sc_z8 (fun cdv A outer s H E hr => d_z8 hr hb) bi_z8 (PySem.W.mg_of X G q185) q188
 have F_z4:FnD l.prog w K mg base 1 "is_word_among" G_z4:=fnd_of Fu_z4 sc_z4 (fun cdv A outer s H E hr => d_z4 hr hb) bi_z4 (PySem.W.mg_of X G q189) q192
 have F_z35:FnD l.prog w K mg base 1 "is_nth" G_z35:=fnd_of Fu_z35 sc_z35 (fun cdv A outer s H E hr => d_z35 hr hb C_NTHS) bi_z35 (PySem.W.mg_of X G q193) q196
 have F_z25:FnD l.prog w K mg base 2 "is_place" G_z25:=fnd_of Fu_z25 sc_z25 (fun cdv A outer s H E hr => d_z25 hr hb C_EDGES C_KINDS (F_z4.mono (by decide:1 ≤ 1)) (F_z35.mono (by decide:1 ≤ 1))) bi_z25 (PySem.W.mg_of X G q197) q200
 have F_z17:FnD l.prog w K mg base 3 "is_stretch" G_z17:=fnd_of Fu_z17 sc_z17 (fun cdv A outer s H E hr => d_z17 hr hb C_DEEDS (F_z8.mono (by decide:1 ≤ 2)) (F_z4.mono (by decide:1 ≤ 2)) (F_z25.mono (by decide:2 ≤ 2))) bi_z17 (PySem.W.mg_of X G q201) q204
 have F_z11:FnD l.prog w K mg base 4 "may_be_used" G_z11:=fnd_of Fu_z11 sc_z11 (fun cdv A outer s H E hr => d_z11 hr hb O_Table_words (F_z8.mono (by decide:1 ≤ 3)) (F_z4.mono (by decide:1 ≤ 3)) (F_z17.mono (by decide:3 ≤ 3))) bi_z11 (PySem.W.mg_of X G q205) q208
 have F_z0:FnD l.prog w K mg base 5 "is_row_of_its_pieces" G_z0:=fnd_of Fu_z0 sc_z0 (fun cdv A outer s H E hr => d_z0 hr hb C_ROW_LENGTHS (F_z11.mono (by decide:4 ≤ 4))) bi_z0 (PySem.W.mg_of X G q209) q212
 have F_z14:FnD l.prog w K mg base 6 "row_number" G_z14:=fnd_of Fu_z14 sc_z14 (fun cdv A outer s H E hr => d_z14 hr hb O_Node_arms O_Node_ways O_Table_members O_Table_nodes O_Table_roots (F_z0.mono (by decide:5 ≤ 5))) bi_z14 (PySem.W.mg_of X G q213) q216
 have F_z32:FnD l.prog w K mg base 1 "_law_cell" G_z32:=fnd_of Fu_z32 sc_z32 (fun cdv A outer s H E hr => d_z32 hr hb) bi_z32 (PySem.W.mg_of X G q217) q220
 have F_z12:FnD l.prog w K mg base 1 "arm_answers" G_z12:=fnd_of Fu_z12 sc_z12 (fun cdv A outer s H E hr => d_z12 hr hb O_Node_arms) bi_z12 (PySem.W.mg_of X G q221) q224
 have F_z29:FnD l.prog w K mg base 2 "row_from" G_z29:=fnd_of Fu_z29 sc_z29 (fun cdv A outer s H E hr => d_z29 hr hb O_Node_arms O_Node_ways O_Table_groups O_Table_nodes (F_z12.mono (by decide:1 ≤ 1))) bi_z29 (PySem.W.mg_of X G q225) q228
 have F_z34:FnD l.prog w K mg base 3 "row_at" G_z34:=fnd_of Fu_z34 sc_z34 (fun cdv A outer s H E hr => d_z34 hr hb O_Node_ways O_Table_nodes O_Table_roots (F_z29.mono (by decide:2 ≤ 2))) bi_z34 (PySem.W.mg_of X G q229) q232
 have FX_z34:FnX l.prog w K mg base 3 "row_at" G_z34 GX_z34:=fnx_of Fu_z34 sc_z34 (fun cdv A outer s H E hr => dx_z34 hr hb O_Node_ways O_Table_nodes O_Table_roots (F_z29.mono (by decide:2 ≤ 2)) X_NoNumber) bi_z34 (PySem.W.mg_of X G q229) q232
 have F_z23:FnD l.prog w K mg base 1 "_law_whole" G_z23:=fnd_of Fu_z23 sc_z23 (fun cdv A outer s H E hr => d_z23 hr hb) bi_z23 (PySem.W.mg_of X G q233) q236
 have F_z28:FnD l.prog w K mg base 1 "_law_place" G_z28:=fnd_of Fu_z28 sc_z28 (fun cdv A outer s H E hr => d_z28 hr hb) bi_z28 (PySem.W.mg_of X G q237) q240
 have F_z24:FnD l.prog w K mg base 2 "_law_piece" G_z24:=fnd_of Fu_z24 sc_z24 (fun cdv A outer s H E hr => d_z24 hr hb (F_z28.mono (by decide:1 ≤ 1))) bi_z24 (PySem.W.mg_of X G q241) q244
 have F_z7:FnD l.prog w K mg base 1 "_law_is_place" G_z7:=fnd_of Fu_z7 sc_z7 (fun cdv A outer s H E hr => d_z7 hr hb) bi_z7 (PySem.W.mg_of X G q245) q248
 have F_z21:FnD l.prog w K mg base 2 "_law_is_row" G_z21:=fnd_of Fu_z21 sc_z21 (fun cdv A outer s H E hr => d_z21 hr hb (F_z7.mono (by decide:1 ≤ 1))) bi_z21 (PySem.W.mg_of X G q249) q252
 exact fn_f Fu_z39 sc_z39 G_z39 _ (fun _ _ _ h => runG_len h) (fun cdv A outer s H E hr => d_z39 hr hb (F_z22.mono (by decide:2 ≤ 13)) (F_z26.mono (by decide:13 ≤ 13)) (F_z37.mono (by decide:1 ≤ 13)) (F_z14.mono (by decide:6 ≤ 13)) (F_z32.mono (by decide:1 ≤ 13)) (F_z34.mono (by decide:3 ≤ 13)) (F_z23.mono (by decide:1 ≤ 13)) (F_z24.mono (by decide:2 ≤ 13)) (F_z21.mono (by decide:2 ≤ 13))) (fun _ _ _ _ h => runG_runs h)
end L3
open PySem PySem.W PyProof.Rows
namespace PySem.Challenge.cw_byexample_k34_no_examples_holds
def tw7002520380773676965:=()
def tw9447335077807092591:=()
def tw879793674691875336:=()
def tw3570890463887212975:=()
def tw4538450245050770691:=()
def tw9600284862172281681:=()
def tw945946394477610738:=()
def tw10091669489834938886:=()
def tw4689902450846815470:=()
def tw2145850140638904472:=()
def tw10320754507403363913:=()
def tw2890064244895195381:=()
def tw12982109066947517288:=()
def tw996273995922580543:=()
def tw10507225495864619086:=()
def tw11892389084072185090:=()
def tw9314471178790360494:=()
def tw11364441060850995849:=()
def tw9164299464796905302:=()
def tw146803839000033831:=()
def tw11245659465426250567:=()
def tw17906086164729828611:=()
def tw7401154783383627063:=()
def tw8742095722026250313:=()
def tw15228922272191140152:=()
def tw12545366768623797838:=()
def tw6120254373729743799:=()
def tw5902306676117580383:=()
def tw3096944374214334173:=()
def tw17980876796775150364:=()
def tw14588049555149989854:=()
def tw3913081930695187870:=()
def tw10420512863890713865:=()
def tw12392199540704440980:=()
def tw11993979843104312932:=()
def tw8249291032219491534:=()
def tw5550668996445901836:=()
def tw2472754763925938614:=()
def tw11180077664503967262:=()
def tw15967516598105175376:=()
def tw17846486682914062763:=()
def tw13075505071713745457:=()
def tw9425588467172728733:=()
def tw15200810105420521550:=()
def tw4493888458074669257:=()
def tw1324522424062508757:=()
def tw883604361809851703:=()
def tw3892095862741371026:=()
def tw3929447828115853251:=()
def tw18261217607464876268:=()
def tw8193554554884566784:=()
def tw1582171354448821440:=()
def tw16316052020354149085:=()
def tw6094140555354612729:=()
def tw15372898962824620137:=()
def tw14125700783897396544:=()
def tw3745658672436289974:=()
def tw1560541790357103766:=()
def tw5291801588048279339:=()
def tw8622065181013923497:=()
def tw14472081038017620693:=()
def tw12867077205237888694:=()
def tw2912617062740779961:=()
def tw3836938952370827192:=()
def tw1981786989796032739:=()
def tw7009878587077510878:=()
def tw6244646874628827481:=()
def tw15607240076531290470:=()
def tw16930414594228321543:=()
def tw12840501834599046416:=()
def tw11334769057764102239:=()
def tw18238682381725577828:=()
def tw15675570175209022437:=()
def tw8137781332992567569:=()
def tw13179848517047186884:=()
def tw10288845022312113269:=()
def tw12497568876074167574:=()
def tw8499340454286166933:=()
def tw8414910634179930418:=()
def tw11472261585184267397:=()
def tw15591361618542305093:=()
def tw4926651662526825417:=()
def tw11318212649187804926:=()
def tw1297479529955157380:=()
def tw14173373801316658990:=()
def tw12617223713604271726:=()
def tw16154226944866188764:=()
def tw1582202827902636858:=()
def tw6129068126063525175:=()
def tw16081698222315529437:=()
def tw9689669139903578322:=()
def tw11787684715327857999:=()
def tw5899905645518641540:=()
def tw9323494123830494695:=()
def tw14603187167995607536:=()
def tw9941848136780310266:=()
def tw18368618267920042548:=()
def tw7615662016390754962:=()
def tw8555711245348225180:=()
def tw2107388721063596886:=()
def tw16441915464822536574:=()
def tw2229303645852931911:=()
def tw14970004079225574908:=()
def tw5941335922210834513:=()
def tw11303148831761672646:=()
def tw8929539713082561300:=()
def tw3683910891232149274:=()
def tw91224440833600032:=()
def tw862627612349808861:=()
def tw11931632936618157044:=()
def tw17247374013917004618:=()
def tw3748850923624316585:=()
def tw15638016062718943782:=()
def tw12624500607278606748:=()
def tw16165966977151719855:=()
def tw14537924709482378729:=()
def tw14090082404311403237:=()
def tw9287716640647838469:=()
def tw7256569229501407556:=()
def tw6591727909974682061:=()
def tw981802236777524399:=()
def tw5116256849494803815:=()
def tw1641898955104362650:=()
def tw2090102949388904226:=()
def tw16771715488132962828:=()
def tw16779167411534575872:=()
def tw16394756669946404803:=()
def tw2996239751131497955:=()
def tw7683183892195173099:=()
def tw4662806812825557427:=()
def tw18064729952021152625:=()
def tw11465696539256429031:=()
def tw10897392981809716671:=()
def tw4563313956382928139:=()
def tw5683825699588051237:=()
def tw15193167422188686276:=()
def tw18021763428880107747:=()
def tw11607485510795891126:=()
def tw4568684523688048871:=()
def tw17200964807671822234:=()
def tw7684680272769112149:=()
def tw679713532707126604:=()
def tw4895501675368507639:=()
def tw15448230225049624901:=()
def tw1744348452206189398:=()
def tw13812386279733374124:=()
def tw14573771660045401139:=()
def tw15515919315448026595:=()
def tw14635772459339156362:=()
def tw4731627841262755544:=()
def tw16924051808403132164:=()
def tw12649999555486837573:=()
def tw799683557536892132:=()
def tw4383043449518606695:=()
def tw15017770355495131011:=()
def tw13719227261288385564:=()
def tw15351973637434942899:=()
def tw6757610844818888220:=()
def tw3303635734149727742:=()
def tw9641800573261947922:=()
def tw7622148234149105871:=()
def tw8796779926109104126:=()
def tw13896712464249887466:=()
def tw5210205780327331536:=()
def tw6680719858911227151:=()
def tw301654596735051083:=()
def tw11938052059504510818:=()
def tw16317116086783474333:=()
def tw13078145746598827540:=()
def tw15405026942193622061:=()
def tw14500029455504391502:=()
def tw7869827896096398857:=()
def tw14059559160685791943:=()
def tw17805102768089910411:=()
def tw509504219452527278:=()
def tw9754622624584619568:=()
def tw8313004836055699268:=()
def tw4142635826001564734:=()
def tw12125285713257453809:=()
def tw15456115161570797974:=()
def tw9151900726833705950:=()
def tw1835463803342747960:=()
def tw11449563052700988716:=()
def tw17875362254678007069:=()
def tw14533240740432574316:=()
def tw7123253924276711654:=()
def tw17166628312683700504:=()
def tw12748737990628482572:=()
def tw8965708995619942603:=()
def tw16652370862819162949:=()
def tw7210061520102030811:=()
def tw282486588043553184:=()
def tw13831973655650487373:=()
def tw7408108877048061255:=()
def tw859840813475599931:=()
def tw70855863378048728:=()
def tw6747460004654522244:=()
def tw12061625737642076728:=()
def tw9896245700581681579:=()
def tw4372589148975710197:=()
def tw6788089457125066303:=()
def tw4384199456121943042:=()
def tw16168479057041562020:=()
def tw6947528992649600186:=()
def tw9050911448456146553:=()
def tw5512603902504451947:=()
def tw17551809390976296562:=()
def tw16649975240191495282:=()
def tw7470364859041974709:=()
def tw11876562284244428707:=()
def tw14021448788477452621:=()
def tw10583895873599419752:=()
def tw1940448446135997982:=()
def tw8930636378856120245:=()
def tw9375017210940142667:=()
def tw7169293031634051009:=()
def tw8410169810650590027:=()
def tw14017407457207875983:=()
def tw11499480485129144007:=()
def tw11970003897006869349:=()
def tw4747071650777886961:=()
def tw10099547994304087663:=()
def tw4176275785147162047:=()
def tw13390327022325215977:=()
def tw12961050450154150609:=()
def tw701583616570966835:=()
def tw4615073640499668501:=()
def tw3662322558798359811:=()
def tw10815809073972320148:=()
def tw15589489998135323157:=()
def tw15505837170657779238:=()
def tw4395841124531687227:=()
def tw17803767998520058850:=()
def tw18105208913005790849:=()
def tw16342595794936137690:=()
def tw13480396687278623898:=()
def tw12134552402458922565:=()
def tw13763635431440167690:=()
def tw7778220078778267677:=()
def tw639308630810136409:=()
def tw17033025482687325256:=()
def tw9078248640552203169:=()
def tw14668421516403687501:=()
def tw10384707945192884020:=()
def tw7341306420214499417:=()
def tw9018841069417391283:=()
def tw2206247066308577664:=()
def tw10282106627248751020:=()
def tw8351933272011392679:=()
def tw4951711787542849351:=()
def tw12748915564962947049:=()
def tw11246618284869773648:=()
def tw13766377455785627978:=()
def tw16929918820788350991:=()
def tw17860127635167933808:=()
def tw15927907051556874669:=()
def tw8230828724615248038:=()
def tw15133874574580427583:=()
def tw302545699092345260:=()
def tw1493571304879477331:=()
def tw4805464665172366960:=()
def tw16241415235927105087:=()
def tw6208496590612345226:=()
def tw4370711159624655947:=()
def tw9177208606231406199:=()
def tw6979477671049873812:=()
def tw7670875340721038991:=()
def tw14843486212689749085:=()
def tw8236491798420184324:=()
def tw14544648185319852507:=()
def tw12700511557705943484:=()
def tw14906208501269063458:=()
def tw9551854190778983369:=()
def tw16127447562112436728:=()
def tw5579386649913126670:=()
def tw2804636323520582871:=()
def tw12400256703801223071:=()
def tw4208060076247645346:=()
def tw12047396208570328311:=()
def tw16607886600836574855:=()
def tw15622405631889778688:=()
def tw13387124127968541297:=()
def tw11374227023139881539:=()
def tw14245029216461798097:=()
def tw6402857049489689852:=()
def tw3141100413375502893:=()
def tw5778875728215564724:=()
def tw4767158284926542582:=()
def tw4428943667145503441:=()
def tw7985050192611347336:=()
def tw3357107090946629427:=()
def tw1303272340402367824:=()
def tw14181233193222790267:=()
def tw3689518272767018226:=()
def tw14707391342362170861:=()
def tw10926105704175649043:=()
def tw5027328846316708867:=()
def tw14417645996198343840:=()
def tw11032492865410080507:=()
def tw6826911090639120233:=()
def tw2851185126441964659:=()
def tw11246603975520655550:=()
def tw1393143900881915901:=()
def tw15356056852407634420:=()
def tw8853053292180941847:=()
def tw3150969910381967401:=()
def tw2966542245747862983:=()
def tw10002686723735941981:=()
def tw12168170373751636821:=()
def tw15705861592915210453:=()
def tw523309544349465765:=()
def tw9926506042713510634:=()
end PySem.Challenge.cw_byexample_k34_no_examples_holds
set_option Elab.async true in
set_option maxRecDepth 100000 in
set_option maxHeartbeats 0 in
theorem PySem.Challenge.cw_byexample_k34_no_examples_holds : PySem.Challenge.rw_byexample_k34_no_examples.Holds := by
 w_on; o_law; k_head; (case hw => w_witness2)
 k_fill
 refine L3.walk_f (l:=PySem.Challenge.rw_byexample_k34_no_examples) (n:=63) (k:=14) (x:="_law_script") (G:=L3.G_z39) rfl (by decide) rfl ⟨rfl,by decide,by decide⟩ (fun w h Y => PySem.W.kIn_of Y) ?F L3.law_true
 case F =>
  intro w mg fa h KX G hmg
  refine' L3.all_mk KX G hmg ?q6 ?q5 ?q11 ?q10 ?q13 ?q21 ?q20 ?q23 ?q30 ?q29 ?q36 ?q35 ?q55 ?q54 ?q41 ?q45 ?q49 ?q53 ?q56 ?q57 ?q58 ?q59 ?q60 ?q61 ?q62 ?q63 ?q64 ?q65 ?q66 ?q67 ?q68 ?q69 ?q70 ?q71 ?q72 ?q73 ?q74 ?q75 ?q76 ?q77 ?q78 ?q79 ?q80 ?q81 ?q82 ?q83 ?q84 ?q85 ?q86 ?q87 ?q88 ?q89 ?q90 ?q91 ?q92 ?q93 ?q94 ?q95 ?q96 ?q97 ?q98 ?q99 ?q100 ?q101 ?q102 ?q103 ?q104 ?q105 ?q106 ?q107 ?q108 ?q109 ?q110 ?q111 ?q112 ?q113 ?q114 ?q115 ?q116 ?q117 ?q118 ?q119 ?q120 ?q121 ?q122 ?q123 ?q124 ?q125 ?q126 ?q127 ?q128 ?q129 ?q130 ?q131 ?q132 ?q133 ?q134 ?q135 ?q136 ?q137 ?q138 ?q139 ?q140 ?q141 ?q142 ?q143 ?q144 ?q145 ?q146 ?q147 ?q148 ?q149 ?q150 ?q151 ?q152 ?q153 ?q154 ?q155 ?q156 ?q157 ?q158 ?q159 ?q160 ?q161 ?q162 ?q163 ?q164 ?q165 ?q166 ?q167 ?q168 ?q169 ?q170 ?q171 ?q172 ?q173 ?q174 ?q175 ?q176 ?q177 ?q178 ?q179 ?q180 ?q181 ?q182 ?q183 ?q184 ?q185 ?q186 ?q187 ?q188 ?q189 ?q190 ?q191 ?q192 ?q193 ?q194 ?q195 ?q196 ?q197 ?q198 ?q199 ?q200 ?q201 ?q202 ?q203 ?q204 ?q205 ?q206 ?q207 ?q208 ?q209 ?q210 ?q211 ?q212 ?q213 ?q214 ?q215 ?q216 ?q217 ?q218 ?q219 ?q220 ?q221 ?q222 ?q223 ?q224 ?q225 ?q226 ?q227 ?q228 ?q229 ?q230 ?q231 ?q232 ?q233 ?q234 ?q235 ?q236 ?q237 ?q238 ?q239 ?q240 ?q241 ?q242 ?q243 ?q244 ?q245 ?q246 ?q247 ?q248 ?q249 ?q250 ?q251 ?q252 ?q253 ?q254 ?q255 ?q256
  (case q6 => k_is)
  (case q5 => k_is)
  (case q11 => k_is)
  (case q10 => k_is)
  (case q13 => k_is)
  (case q21 => k_is)
  (case q20 => k_is)
  (case q23 => k_is)
  (case q30 => k_is)
  (case q29 => k_is)
  (case q36 => k_is)
  (case q35 => k_is)
  (case q55 => k_is)
  (case q54 => k_is)
  (case q41 => k_is)
  (case q45 => k_is)
  (case q49 => k_is)
  (case q53 => k_is)
  (case q56 => k_is)
  (case q57 => k_is)
  (case q58 => k_is)
  (case q59 => k_is)
  (case q60 => k_is)
  (case q61 => k_is)
  (case q62 => k_is)
  (case q63 => k_is)
  (case q64 => k_is)
  (case q65 => k_is)
  (case q66 => k_is)
  (case q67 => k_is)
  (case q68 => k_is)
  (case q69 => k_is)
  (case q70 => k_is)
  (case q71 => k_is)
  (case q72 => k_is)
  (case q73 => k_is)
  (case q74 => k_is)
  (case q75 => k_is)
  (case q76 => k_is)
  (case q77 => k_is)
  (case q78 => k_is)
  (case q79 => k_is)
  (case q80 => k_is)
  (case q81 => k_is)
  (case q82 => k_is)
  (case q83 => k_is)
  (case q84 => k_is)
  (case q85 => k_is)
  (case q86 => k_is)
  (case q87 => k_is)
  (case q88 => k_is)
  (case q89 => k_is)
  (case q90 => k_is)
  (case q91 => k_is)
  (case q92 => k_is)
  (case q93 => k_is)
  (case q94 => k_exc)
  (case q95 => k_is)
  (case q96 => k_is)
  (case q97 => k_is)
  (case q98 => k_is)
  (case q99 => k_is)
  (case q100 => k_is)
  (case q101 => k_is)
  (case q102 => k_is)
  (case q103 => k_is)
  (case q104 => k_is)
  (case q105 => k_is)
  (case q106 => k_is)
  (case q107 => k_is)
  (case q108 => k_is)
  (case q109 => k_is)
  (case q110 => k_is)
  (case q111 => k_is)
  (case q112 => k_is)
  (case q113 => k_is)
  (case q114 => k_is)
  (case q115 => k_is)
  (case q116 => k_is)
  (case q117 => k_is)
  (case q118 => k_is)
  (case q119 => k_is)
  (case q120 => k_is)
  (case q121 => k_is)
  (case q122 => k_is)
  (case q123 => k_is)
  (case q124 => k_is)
  (case q125 => k_is)
  (case q126 => k_is)
  (case q127 => k_is)
  (case q128 => k_is)
  (case q129 => k_is)
  (case q130 => k_is)
  (case q131 => k_is)
  (case q132 => k_is)
  (case q133 => k_is)
  (case q134 => k_is)
  (case q135 => k_is)
  (case q136 => k_is)
  (case q137 => k_is)
  (case q138 => k_is)
  (case q139 => k_is)
  (case q140 => k_is)
  (case q141 => k_is)
  (case q142 => k_is)
  (case q143 => k_is)
  (case q144 => k_is)
  (case q145 => k_is)
  (case q146 => k_is)
  (case q147 => k_is)
  (case q148 => k_is)
  (case q149 => k_is)
  (case q150 => k_is)
  (case q151 => k_is)
  (case q152 => k_is)
  (case q153 => k_is)
  (case q154 => k_is)
  (case q155 => k_is)
  (case q156 => k_is)
  (case q157 => k_is)
  (case q158 => k_is)
  (case q159 => k_is)
  (case q160 => k_is)
  (case q161 => k_is)
  (case q162 => k_is)
  (case q163 => k_is)
  (case q164 => k_is)
  (case q165 => k_is)
  (case q166 => k_is)
  (case q167 => k_is)
  (case q168 => k_is)
  (case q169 => k_is)
  (case q170 => k_is)
  (case q171 => k_is)
  (case q172 => k_is)
  (case q173 => k_is)
  (case q174 => k_is)
  (case q175 => k_is)
  (case q176 => k_is)
  (case q177 => k_is)
  (case q178 => k_is)
  (case q179 => k_is)
  (case q180 => k_is)
  (case q181 => k_is)
  (case q182 => k_is)
  (case q183 => k_is)
  (case q184 => k_is)
  (case q185 => k_is)
  (case q186 => k_is)
  (case q187 => k_is)
  (case q188 => k_is)
  (case q189 => k_is)
  (case q190 => k_is)
  (case q191 => k_is)
  (case q192 => k_is)
  (case q193 => k_is)
  (case q194 => k_is)
  (case q195 => k_is)
  (case q196 => k_is)
  (case q197 => k_is)
  (case q198 => k_is)
  (case q199 => k_is)
  (case q200 => k_is)
  (case q201 => k_is)
  (case q202 => k_is)
  (case q203 => k_is)
  (case q204 => k_is)
  (case q205 => k_is)
  (case q206 => k_is)
  (case q207 => k_is)
  (case q208 => k_is)
  (case q209 => k_is)
  (case q210 => k_is)
  (case q211 => k_is)
  (case q212 => k_is)
  (case q213 => k_is)
  (case q214 => k_is)
  (case q215 => k_is)
  (case q216 => k_is)
  (case q217 => k_is)
  (case q218 => k_is)
  (case q219 => k_is)
  (case q220 => k_is)
  (case q221 => k_is)
  (case q222 => k_is)
  (case q223 => k_is)
  (case q224 => k_is)
  (case q225 => k_is)
  (case q226 => k_is)
  (case q227 => k_is)
  (case q228 => k_is)
  (case q229 => k_is)
  (case q230 => k_is)
  (case q231 => k_is)
  (case q232 => k_is)
  (case q233 => k_is)
  (case q234 => k_is)
  (case q235 => k_is)
  (case q236 => k_is)
  (case q237 => k_is)
  (case q238 => k_is)
  (case q239 => k_is)
  (case q240 => k_is)
  (case q241 => k_is)
  (case q242 => k_is)
  (case q243 => k_is)
  (case q244 => k_is)
  (case q245 => k_is)
  (case q246 => k_is)
  (case q247 => k_is)
  (case q248 => k_is)
  (case q249 => k_is)
  (case q250 => k_is)
  (case q251 => k_is)
  (case q252 => k_is)
  (case q253 => k_is)
  (case q254 => k_is)
  (case q255 => k_is)
  (case q256 => k_is)
